import PyProof.Rows.All
import Wide.All
import OpenK.AllK
import Wide.FinOn
import Lean
import PyProof.EqAt
import PyProof.EqKinds
import PyProof.TupleCall
import PyProof.ZipIter
import PyProof.Rows.ZipGen
import PyProof.EnumFor
import PyProof.EnumStmt
import KE.KSortTup
import KE.KDictList
import PySem.Challenge.RW_seamarks_k26_whole_words_by_places
set_option Elab.async false
set_option linter.all false
set_option maxRecDepth 100000
set_option maxHeartbeats 4000000
namespace L2
open PySem
def defArgs (s : Stmt) : Arguments := match s with
  | .FunctionDef _ a _ _ _ _ _ _ _ _ => a
  | _ => { posonlyargs := [], args := [], vararg := none, kwonlyargs := [], kw_defaults := [], kwarg := none, defaults := [] }
def defBody (s : Stmt) : List Stmt := match s with
  | .FunctionDef _ _ b _ _ _ _ _ _ _ => b
  | _ => []
def defScope (s : Stmt) : Scope := match s with
  | .FunctionDef _ _ _ _ _ _ sc _ _ _ => sc
  | _ => { kind := .function, names := [], isGenerator := false, isCoroutine := false }
end L2
namespace Sea
open PySem L2
def top (i : Nat) : Stmt := PySem.Challenge.pw_seamarks_k26_whole_words_by_places.main.body.getD i (.Pass ⟨0, 0, 0, 0⟩)
abbrev s_p_common_factor : Stmt := top 1
abbrev s_p_lowest : Stmt := top 2
abbrev s_p_upright : Stmt := top 3
abbrev s_p_part : Stmt := top 4
abbrev s_p_spot : Stmt := top 5
abbrev s_p_turn : Stmt := top 7
abbrev s_p_along : Stmt := top 8
abbrev s_p_plain : Stmt := top 9
abbrev s_p_plain_side : Stmt := top 10
abbrev s_p_beyond : Stmt := top 11
abbrev s_p_holds : Stmt := top 12
abbrev s_p_crossing : Stmt := top 13
abbrev s_p_in_water : Stmt := top 15
abbrev s_p_foot : Stmt := top 16
abbrev s_p_edge_end : Stmt := top 17
abbrev s_p_edge_ends : Stmt := top 18
abbrev s_p_spot_on_edge : Stmt := top 19
abbrev s_p_sought : Stmt := top 20
abbrev s_p_some_spot : Stmt := top 21
abbrev s_p_is_way : Stmt := top 22
abbrev s_p_ways : Stmt := top 23
abbrev s_p_span : Stmt := top 25
abbrev s_p_weighed : Stmt := top 26
abbrev s_p_clash_of_three : Stmt := top 27
abbrev s_p_clash : Stmt := top 28
abbrev s_p_way_onward : Stmt := top 29
abbrev s_p_far_by_one : Stmt := top 30
abbrev s_p_weights_of_two : Stmt := top 31
abbrev s_p_far_by_two : Stmt := top 32
abbrev s_p_reach : Stmt := top 33
abbrev s_p_stretch_way : Stmt := top 35
abbrev s_p_stretch_side : Stmt := top 36
abbrev s_p_bank_sides : Stmt := top 37
abbrev s_p_word_of_cannot : Stmt := top 38
abbrev s_p_gone_beyond : Stmt := top 39
abbrev s_p_beyond_or_weights : Stmt := top 40
abbrev s_p_bank_word : Stmt := top 41
abbrev s_L_low : Stmt := top 43
abbrev s_L_spot_of : Stmt := top 44
abbrev s_L_meet : Stmt := top 45
abbrev s_L_has : Stmt := top 46
abbrev s_L_corners_of : Stmt := top 47
abbrev s_L_feet : Stmt := top 48
abbrev s_L_any_place : Stmt := top 49
abbrev s_L_flow : Stmt := top 50
abbrev s_L_power : Stmt := top 51
abbrev s_L_draws : Stmt := top 52
abbrev s_L_many : Stmt := top 53
abbrev s_L_tight : Stmt := top 54
abbrev s_L_way : Stmt := top 55
abbrev s_L_side : Stmt := top 56
abbrev s_L_sides : Stmt := top 57
abbrev s_L_turned : Stmt := top 58
abbrev s_L_left_pair : Stmt := top 59
abbrev s_L_bank : Stmt := top 60
abbrev s_L_bank_rows : Stmt := top 61
abbrev s_L_banked : Stmt := top 62
abbrev s_L_beyond : Stmt := top 63
abbrev s_law : Stmt := top 64
noncomputable def qv : Program := { PySem.Challenge.pw_seamarks_k26_whole_words_by_places with main := { PySem.Challenge.pw_seamarks_k26_whole_words_by_places.main with body := [top 1, top 2, top 3, top 4, top 5, top 7, top 8, top 9, top 10, top 11, top 12, top 13, top 15, top 16, top 17, top 18, top 19, top 20, top 21, top 22, top 23, top 25, top 26, top 27, top 28, top 29, top 30, top 31, top 32, top 33, top 35, top 36, top 37, top 38, top 39, top 40, top 41, top 43, top 44, top 45, top 46, top 47, top 48, top 49, top 50, top 51, top 52, top 53, top 54, top 55, top 56, top 57, top 58, top 59, top 60, top 61, top 62, top 63, top 64] } }
noncomputable def kd (P : Params) (x : Str) (t : Nat) (v : Value) : DictEntry := ⟨PyData.keyHash P x, .str x t, v⟩
noncomputable def kc (l : List Value) : Obj := ⟨.type "code", none, .fields (List.toArray l), List.toArray []⟩
noncomputable abbrev kf (x : Str) (s : Stmt) (kV doc pm cd ct : Value) : Obj := ⟨.type "function", none, .func (PySem.W.fnOf x x (defArgs s) (defBody s) (defScope s) .none kV doc pm none cd ct), List.toArray []⟩
noncomputable def KK (P : Params) : PySem.W.Frag :=
  (nat_lit 3, ⟨.type "dict", none, .dict (List.toArray (kd P "__name__" 165 (.str "law_seamarks_k26_whole_words_by_places" 528) :: kd P "__doc__" 166 .none :: kd P "__package__" 167 .none :: kd P "__loader__" 168 (.builtin "__main__.__loader__#opaque") :: kd P "__spec__" 169 .none :: kd P "__annotations__" 170 (.ref 6) :: kd P "__builtins__" 171 (.ref 4) :: kd P "__file__" 173 (.str "/claim/cut.py" 172) :: kd P "__cached__" 174 .none :: kd P "common_factor" 199 (.ref 21) :: kd P "lowest" 205 (.ref 26) :: kd P "upright" 211 (.ref 31) :: kd P "part" 219 (.ref 38) :: kd P "spot" 228 (.ref 45) :: kd P "turn" 238 (.ref 52) :: kd P "along" 246 (.ref 59) :: kd P "plain" 253 (.ref 66) :: kd P "plain_side" 260 (.ref 73) :: kd P "beyond" 268 (.ref 80) :: kd P "holds" 276 (.ref 87) :: kd P "crossing" 287 (.ref 94) :: kd P "in_water" 298 (.ref 101) :: kd P "foot" 305 (.ref 108) :: kd P "edge_end" 318 (.ref 115) :: kd P "edge_ends" 324 (.ref 120) :: kd P "spot_on_edge" 333 (.ref 127) :: kd P "sought" 342 (.ref 134) :: kd P "some_spot" 349 (.ref 141) :: kd P "is_way" 358 (.ref 148) :: kd P "ways" 368 (.ref 155) :: kd P "span" 377 (.ref 162) :: kd P "weighed" 383 (.ref 167) :: kd P "clash_of_three" 396 (.ref 174) :: kd P "clash" 407 (.ref 181) :: kd P "way_onward" 416 (.ref 188) :: kd P "far_by_one" 427 (.ref 195) :: kd P "weights_of_two" 440 (.ref 202) :: kd P "far_by_two" 452 (.ref 209) :: kd P "reach" 462 (.ref 216) :: kd P "stretch_way" 472 (.ref 223) :: kd P "stretch_side" 481 (.ref 230) :: kd P "bank_sides" 487 (.ref 235) :: kd P "word_of_cannot" 493 (.ref 240) :: kd P "gone_beyond" 504 (.ref 247) :: kd P "beyond_or_weights" 513 (.ref 254) :: kd P "bank_word" 527 (.ref 261) :: kd P "_law_low" 537 (.ref 268) :: kd P "_law_spot_of" 547 (.ref 275) :: kd P "_law_meet" 556 (.ref 282) :: kd P "_law_has" 562 (.ref 287) :: kd P "_law_corners_of" 574 (.ref 294) :: kd P "_law_feet" 580 (.ref 299) :: kd P "_law_any_place" 588 (.ref 306) :: kd P "_law_flow" 594 (.ref 311) :: kd P "_law_power" 601 (.ref 318) :: kd P "_law_draws" 613 (.ref 325) :: kd P "_law_many" 623 (.ref 332) :: kd P "_law_tight" 629 (.ref 337) :: kd P "_law_way" 640 (.ref 344) :: kd P "_law_side" 650 (.ref 351) :: kd P "_law_sides" 656 (.ref 356) :: kd P "_law_turned" 664 (.ref 363) :: kd P "_law_left_pair" 674 (.ref 370) :: kd P "_law_bank" 696 (.ref 377) :: kd P "_law_bank_rows" 710 (.ref 384) :: kd P "_law_banked" 716 (.ref 389) :: kd P "_law_beyond" 722 (.ref 394) :: kd P "law" 728 (.ref 399) :: [])) 68, List.toArray []⟩) ::
  (nat_lit 20, kc ((.str "common_factor" 189) :: ((.str "common_factor" 190) :: ((.str "/claim/cut.py" 191) :: ((.int 2 0) :: ((.int 1 0) :: ((.int 0 0) :: ((.int 0 0) :: ((.int 3 0) :: ((.ref 15) :: ((.bool true) :: ((.int 181 0) :: ((.ref 16) :: (.none :: ((.ref 17) :: ((.ref 18) :: ((.ref 19) :: ((.int 197 0) :: ((.int 2 0) :: ((.str "/claim/cut.py" 198) :: [])))))))))))))))))))) ::
  (nat_lit 21, kf "common_factor" s_p_common_factor .none .none (.str "seamarks.parts" 187) (.ref 20) .none) ::
  (nat_lit 25, kc ((.str "lowest" 200) :: ((.str "lowest" 201) :: ((.str "/claim/cut.py" 202) :: ((.int 11 0) :: ((.int 1 0) :: ((.int 0 0) :: ((.int 0 0) :: ((.int 3 0) :: ((.ref 22) :: ((.bool true) :: ((.int 181 0) :: ((.ref 23) :: (.none :: (.none :: (.none :: ((.ref 24) :: ((.int 203 0) :: ((.int 11 0) :: ((.str "/claim/cut.py" 204) :: [])))))))))))))))))))) ::
  (nat_lit 26, kf "lowest" s_p_lowest .none .none (.str "seamarks.parts" 187) (.ref 25) .none) ::
  (nat_lit 30, kc ((.str "upright" 206) :: ((.str "upright" 207) :: ((.str "/claim/cut.py" 208) :: ((.int 14 0) :: ((.int 1 0) :: ((.int 0 0) :: ((.int 0 0) :: ((.int 3 0) :: ((.ref 27) :: ((.bool true) :: ((.int 181 0) :: ((.ref 28) :: (.none :: (.none :: (.none :: ((.ref 29) :: ((.int 209 0) :: ((.int 14 0) :: ((.str "/claim/cut.py" 210) :: [])))))))))))))))))))) ::
  (nat_lit 31, kf "upright" s_p_upright .none .none (.str "seamarks.parts" 187) (.ref 30) .none) ::
  (nat_lit 37, kc ((.str "part" 212) :: ((.str "part" 213) :: ((.str "/claim/cut.py" 214) :: ((.int 18 0) :: ((.int 2 0) :: ((.int 0 0) :: ((.int 0 0) :: ((.int 3 0) :: ((.ref 32) :: ((.bool true) :: ((.int 181 0) :: ((.ref 33) :: (.none :: ((.ref 34) :: ((.ref 35) :: ((.ref 36) :: ((.int 217 0) :: ((.int 18 0) :: ((.str "/claim/cut.py" 218) :: [])))))))))))))))))))) ::
  (nat_lit 38, kf "part" s_p_part .none .none (.str "seamarks.parts" 187) (.ref 37) .none) ::
  (nat_lit 44, kc ((.str "spot" 220) :: ((.str "spot" 221) :: ((.str "/claim/cut.py" 222) :: ((.int 20 0) :: ((.int 3 0) :: ((.int 0 0) :: ((.int 0 0) :: ((.int 3 0) :: ((.ref 39) :: ((.bool true) :: ((.int 181 0) :: ((.ref 40) :: (.none :: ((.ref 41) :: ((.ref 42) :: ((.ref 43) :: ((.int 226 0) :: ((.int 20 0) :: ((.str "/claim/cut.py" 227) :: [])))))))))))))))))))) ::
  (nat_lit 45, kf "spot" s_p_spot .none .none (.str "seamarks.parts" 187) (.ref 44) .none) ::
  (nat_lit 51, kc ((.str "turn" 231) :: ((.str "turn" 232) :: ((.str "/claim/cut.py" 233) :: ((.int 23 0) :: ((.int 2 0) :: ((.int 0 0) :: ((.int 0 0) :: ((.int 3 0) :: ((.ref 46) :: ((.bool true) :: ((.int 181 0) :: ((.ref 47) :: (.none :: ((.ref 48) :: ((.ref 49) :: ((.ref 50) :: ((.int 236 0) :: ((.int 23 0) :: ((.str "/claim/cut.py" 237) :: [])))))))))))))))))))) ::
  (nat_lit 52, kf "turn" s_p_turn .none .none (.str "seamarks.sides" 229) (.ref 51) .none) ::
  (nat_lit 58, kc ((.str "along" 239) :: ((.str "along" 240) :: ((.str "/claim/cut.py" 241) :: ((.int 25 0) :: ((.int 2 0) :: ((.int 0 0) :: ((.int 0 0) :: ((.int 3 0) :: ((.ref 53) :: ((.bool true) :: ((.int 181 0) :: ((.ref 54) :: (.none :: ((.ref 55) :: ((.ref 56) :: ((.ref 57) :: ((.int 244 0) :: ((.int 25 0) :: ((.str "/claim/cut.py" 245) :: [])))))))))))))))))))) ::
  (nat_lit 59, kf "along" s_p_along .none .none (.str "seamarks.sides" 229) (.ref 58) .none) ::
  (nat_lit 65, kc ((.str "plain" 247) :: ((.str "plain" 248) :: ((.str "/claim/cut.py" 249) :: ((.int 27 0) :: ((.int 1 0) :: ((.int 0 0) :: ((.int 0 0) :: ((.int 3 0) :: ((.ref 60) :: ((.bool true) :: ((.int 181 0) :: ((.ref 61) :: (.none :: ((.ref 62) :: ((.ref 63) :: ((.ref 64) :: ((.int 251 0) :: ((.int 27 0) :: ((.str "/claim/cut.py" 252) :: [])))))))))))))))))))) ::
  (nat_lit 66, kf "plain" s_p_plain .none .none (.str "seamarks.sides" 229) (.ref 65) .none) ::
  (nat_lit 72, kc ((.str "plain_side" 254) :: ((.str "plain_side" 255) :: ((.str "/claim/cut.py" 256) :: ((.int 29 0) :: ((.int 1 0) :: ((.int 0 0) :: ((.int 0 0) :: ((.int 3 0) :: ((.ref 67) :: ((.bool true) :: ((.int 181 0) :: ((.ref 68) :: (.none :: ((.ref 69) :: ((.ref 70) :: ((.ref 71) :: ((.int 258 0) :: ((.int 29 0) :: ((.str "/claim/cut.py" 259) :: [])))))))))))))))))))) ::
  (nat_lit 73, kf "plain_side" s_p_plain_side .none .none (.str "seamarks.sides" 229) (.ref 72) .none) ::
  (nat_lit 79, kc ((.str "beyond" 261) :: ((.str "beyond" 262) :: ((.str "/claim/cut.py" 263) :: ((.int 31 0) :: ((.int 2 0) :: ((.int 0 0) :: ((.int 0 0) :: ((.int 3 0) :: ((.ref 74) :: ((.bool true) :: ((.int 181 0) :: ((.ref 75) :: (.none :: ((.ref 76) :: ((.ref 77) :: ((.ref 78) :: ((.int 266 0) :: ((.int 31 0) :: ((.str "/claim/cut.py" 267) :: [])))))))))))))))))))) ::
  (nat_lit 80, kf "beyond" s_p_beyond .none .none (.str "seamarks.sides" 229) (.ref 79) .none) ::
  (nat_lit 86, kc ((.str "holds" 269) :: ((.str "holds" 270) :: ((.str "/claim/cut.py" 271) :: ((.int 33 0) :: ((.int 2 0) :: ((.int 0 0) :: ((.int 0 0) :: ((.int 3 0) :: ((.ref 81) :: ((.bool true) :: ((.int 181 0) :: ((.ref 82) :: (.none :: ((.ref 83) :: ((.ref 84) :: ((.ref 85) :: ((.int 274 0) :: ((.int 33 0) :: ((.str "/claim/cut.py" 275) :: [])))))))))))))))))))) ::
  (nat_lit 87, kf "holds" s_p_holds .none .none (.str "seamarks.sides" 229) (.ref 86) .none) ::
  (nat_lit 93, kc ((.str "crossing" 277) :: ((.str "crossing" 278) :: ((.str "/claim/cut.py" 279) :: ((.int 35 0) :: ((.int 2 0) :: ((.int 0 0) :: ((.int 0 0) :: ((.int 3 0) :: ((.ref 88) :: ((.bool true) :: ((.int 181 0) :: ((.ref 89) :: (.none :: ((.ref 90) :: ((.ref 91) :: ((.ref 92) :: ((.int 285 0) :: ((.int 35 0) :: ((.str "/claim/cut.py" 286) :: [])))))))))))))))))))) ::
  (nat_lit 94, kf "crossing" s_p_crossing .none .none (.str "seamarks.sides" 229) (.ref 93) .none) ::
  (nat_lit 100, kc ((.str "in_water" 290) :: ((.str "in_water" 291) :: ((.str "/claim/cut.py" 292) :: ((.int 43 0) :: ((.int 2 0) :: ((.int 0 0) :: ((.int 0 0) :: ((.int 3 0) :: ((.ref 95) :: ((.bool true) :: ((.int 181 0) :: ((.ref 96) :: (.none :: ((.ref 97) :: ((.ref 98) :: ((.ref 99) :: ((.int 296 0) :: ((.int 43 0) :: ((.str "/claim/cut.py" 297) :: [])))))))))))))))))))) ::
  (nat_lit 101, kf "in_water" s_p_in_water .none .none (.str "seamarks.water" 288) (.ref 100) .none) ::
  (nat_lit 107, kc ((.str "foot" 299) :: ((.str "foot" 300) :: ((.str "/claim/cut.py" 301) :: ((.int 48 0) :: ((.int 1 0) :: ((.int 0 0) :: ((.int 0 0) :: ((.int 3 0) :: ((.ref 102) :: ((.bool true) :: ((.int 181 0) :: ((.ref 103) :: (.none :: ((.ref 104) :: ((.ref 105) :: ((.ref 106) :: ((.int 303 0) :: ((.int 48 0) :: ((.str "/claim/cut.py" 304) :: [])))))))))))))))))))) ::
  (nat_lit 108, kf "foot" s_p_foot .none .none (.str "seamarks.water" 288) (.ref 107) .none) ::
  (nat_lit 114, kc ((.str "edge_end" 306) :: ((.str "edge_end" 307) :: ((.str "/claim/cut.py" 308) :: ((.int 50 0) :: ((.int 3 0) :: ((.int 0 0) :: ((.int 0 0) :: ((.int 3 0) :: ((.ref 109) :: ((.bool true) :: ((.int 181 0) :: ((.ref 110) :: (.none :: ((.ref 111) :: ((.ref 112) :: ((.ref 113) :: ((.int 316 0) :: ((.int 50 0) :: ((.str "/claim/cut.py" 317) :: [])))))))))))))))))))) ::
  (nat_lit 115, kf "edge_end" s_p_edge_end .none .none (.str "seamarks.water" 288) (.ref 114) .none) ::
  (nat_lit 119, kc ((.str "edge_ends" 319) :: ((.str "edge_ends" 320) :: ((.str "/claim/cut.py" 321) :: ((.int 59 0) :: ((.int 2 0) :: ((.int 0 0) :: ((.int 0 0) :: ((.int 3 0) :: ((.ref 116) :: ((.bool true) :: ((.int 181 0) :: ((.ref 117) :: (.none :: (.none :: (.none :: ((.ref 118) :: ((.int 322 0) :: ((.int 59 0) :: ((.str "/claim/cut.py" 323) :: [])))))))))))))))))))) ::
  (nat_lit 120, kf "edge_ends" s_p_edge_ends .none .none (.str "seamarks.water" 288) (.ref 119) .none) ::
  (nat_lit 126, kc ((.str "spot_on_edge" 325) :: ((.str "spot_on_edge" 326) :: ((.str "/claim/cut.py" 327) :: ((.int 62 0) :: ((.int 2 0) :: ((.int 0 0) :: ((.int 0 0) :: ((.int 3 0) :: ((.ref 121) :: ((.bool true) :: ((.int 181 0) :: ((.ref 122) :: (.none :: ((.ref 123) :: ((.ref 124) :: ((.ref 125) :: ((.int 331 0) :: ((.int 62 0) :: ((.str "/claim/cut.py" 332) :: [])))))))))))))))))))) ::
  (nat_lit 127, kf "spot_on_edge" s_p_spot_on_edge .none .none (.str "seamarks.water" 288) (.ref 126) .none) ::
  (nat_lit 133, kc ((.str "sought" 334) :: ((.str "sought" 335) :: ((.str "/claim/cut.py" 336) :: ((.int 67 0) :: ((.int 1 0) :: ((.int 0 0) :: ((.int 0 0) :: ((.int 3 0) :: ((.ref 128) :: ((.bool true) :: ((.int 181 0) :: ((.ref 129) :: (.none :: ((.ref 130) :: ((.ref 131) :: ((.ref 132) :: ((.int 340 0) :: ((.int 67 0) :: ((.str "/claim/cut.py" 341) :: [])))))))))))))))))))) ::
  (nat_lit 134, kf "sought" s_p_sought .none .none (.str "seamarks.water" 288) (.ref 133) .none) ::
  (nat_lit 140, kc ((.str "some_spot" 343) :: ((.str "some_spot" 344) :: ((.str "/claim/cut.py" 345) :: ((.int 75 0) :: ((.int 1 0) :: ((.int 0 0) :: ((.int 0 0) :: ((.int 3 0) :: ((.ref 135) :: ((.bool true) :: ((.int 181 0) :: ((.ref 136) :: (.none :: ((.ref 137) :: ((.ref 138) :: ((.ref 139) :: ((.int 347 0) :: ((.int 75 0) :: ((.str "/claim/cut.py" 348) :: [])))))))))))))))))))) ::
  (nat_lit 141, kf "some_spot" s_p_some_spot .none .none (.str "seamarks.water" 288) (.ref 140) .none) ::
  (nat_lit 147, kc ((.str "is_way" 350) :: ((.str "is_way" 351) :: ((.str "/claim/cut.py" 352) :: ((.int 77 0) :: ((.int 2 0) :: ((.int 0 0) :: ((.int 0 0) :: ((.int 3 0) :: ((.ref 142) :: ((.bool true) :: ((.int 181 0) :: ((.ref 143) :: (.none :: ((.ref 144) :: ((.ref 145) :: ((.ref 146) :: ((.int 356 0) :: ((.int 77 0) :: ((.str "/claim/cut.py" 357) :: [])))))))))))))))))))) ::
  (nat_lit 148, kf "is_way" s_p_is_way .none .none (.str "seamarks.water" 288) (.ref 147) .none) ::
  (nat_lit 154, kc ((.str "ways" 359) :: ((.str "ways" 360) :: ((.str "/claim/cut.py" 361) :: ((.int 82 0) :: ((.int 1 0) :: ((.int 0 0) :: ((.int 0 0) :: ((.int 3 0) :: ((.ref 149) :: ((.bool true) :: ((.int 181 0) :: ((.ref 150) :: (.none :: ((.ref 151) :: ((.ref 152) :: ((.ref 153) :: ((.int 366 0) :: ((.int 82 0) :: ((.str "/claim/cut.py" 367) :: [])))))))))))))))))))) ::
  (nat_lit 155, kf "ways" s_p_ways .none .none (.str "seamarks.water" 288) (.ref 154) .none) ::
  (nat_lit 161, kc ((.str "span" 371) :: ((.str "span" 372) :: ((.str "/claim/cut.py" 373) :: ((.int 90 0) :: ((.int 1 0) :: ((.int 0 0) :: ((.int 0 0) :: ((.int 3 0) :: ((.ref 156) :: ((.bool true) :: ((.int 181 0) :: ((.ref 157) :: (.none :: ((.ref 158) :: ((.ref 159) :: ((.ref 160) :: ((.int 375 0) :: ((.int 90 0) :: ((.str "/claim/cut.py" 376) :: [])))))))))))))))))))) ::
  (nat_lit 162, kf "span" s_p_span .none .none (.str "seamarks.reach" 369) (.ref 161) .none) ::
  (nat_lit 166, kc ((.str "weighed" 378) :: ((.str "weighed" 379) :: ((.str "/claim/cut.py" 380) :: ((.int 92 0) :: ((.int 2 0) :: ((.int 0 0) :: ((.int 0 0) :: ((.int 3 0) :: ((.ref 163) :: ((.bool true) :: ((.int 181 0) :: ((.ref 164) :: (.none :: (.none :: (.none :: ((.ref 165) :: ((.int 381 0) :: ((.int 92 0) :: ((.str "/claim/cut.py" 382) :: [])))))))))))))))))))) ::
  (nat_lit 167, kf "weighed" s_p_weighed .none .none (.str "seamarks.reach" 369) (.ref 166) .none) ::
  (nat_lit 173, kc ((.str "clash_of_three" 384) :: ((.str "clash_of_three" 385) :: ((.str "/claim/cut.py" 386) :: ((.int 95 0) :: ((.int 2 0) :: ((.int 0 0) :: ((.int 0 0) :: ((.int 3 0) :: ((.ref 168) :: ((.bool true) :: ((.int 181 0) :: ((.ref 169) :: (.none :: ((.ref 170) :: ((.ref 171) :: ((.ref 172) :: ((.int 394 0) :: ((.int 95 0) :: ((.str "/claim/cut.py" 395) :: [])))))))))))))))))))) ::
  (nat_lit 174, kf "clash_of_three" s_p_clash_of_three .none .none (.str "seamarks.reach" 369) (.ref 173) .none) ::
  (nat_lit 180, kc ((.str "clash" 397) :: ((.str "clash" 398) :: ((.str "/claim/cut.py" 399) :: ((.int 102 0) :: ((.int 1 0) :: ((.int 0 0) :: ((.int 0 0) :: ((.int 3 0) :: ((.ref 175) :: ((.bool true) :: ((.int 181 0) :: ((.ref 176) :: (.none :: ((.ref 177) :: ((.ref 178) :: ((.ref 179) :: ((.int 405 0) :: ((.int 102 0) :: ((.str "/claim/cut.py" 406) :: [])))))))))))))))))))) ::
  (nat_lit 181, kf "clash" s_p_clash .none .none (.str "seamarks.reach" 369) (.ref 180) .none) ::
  (nat_lit 187, kc ((.str "way_onward" 408) :: ((.str "way_onward" 409) :: ((.str "/claim/cut.py" 410) :: ((.int 112 0) :: ((.int 2 0) :: ((.int 0 0) :: ((.int 0 0) :: ((.int 3 0) :: ((.ref 182) :: ((.bool true) :: ((.int 181 0) :: ((.ref 183) :: (.none :: ((.ref 184) :: ((.ref 185) :: ((.ref 186) :: ((.int 414 0) :: ((.int 112 0) :: ((.str "/claim/cut.py" 415) :: [])))))))))))))))))))) ::
  (nat_lit 188, kf "way_onward" s_p_way_onward .none .none (.str "seamarks.reach" 369) (.ref 187) .none) ::
  (nat_lit 194, kc ((.str "far_by_one" 417) :: ((.str "far_by_one" 418) :: ((.str "/claim/cut.py" 419) :: ((.int 117 0) :: ((.int 2 0) :: ((.int 0 0) :: ((.int 0 0) :: ((.int 3 0) :: ((.ref 189) :: ((.bool true) :: ((.int 181 0) :: ((.ref 190) :: (.none :: ((.ref 191) :: ((.ref 192) :: ((.ref 193) :: ((.int 425 0) :: ((.int 117 0) :: ((.str "/claim/cut.py" 426) :: [])))))))))))))))))))) ::
  (nat_lit 195, kf "far_by_one" s_p_far_by_one .none .none (.str "seamarks.reach" 369) (.ref 194) .none) ::
  (nat_lit 201, kc ((.str "weights_of_two" 428) :: ((.str "weights_of_two" 429) :: ((.str "/claim/cut.py" 430) :: ((.int 125 0) :: ((.int 3 0) :: ((.int 0 0) :: ((.int 0 0) :: ((.int 3 0) :: ((.ref 196) :: ((.bool true) :: ((.int 181 0) :: ((.ref 197) :: (.none :: ((.ref 198) :: ((.ref 199) :: ((.ref 200) :: ((.int 438 0) :: ((.int 125 0) :: ((.str "/claim/cut.py" 439) :: [])))))))))))))))))))) ::
  (nat_lit 202, kf "weights_of_two" s_p_weights_of_two .none .none (.str "seamarks.reach" 369) (.ref 201) .none) ::
  (nat_lit 208, kc ((.str "far_by_two" 441) :: ((.str "far_by_two" 442) :: ((.str "/claim/cut.py" 443) :: ((.int 131 0) :: ((.int 2 0) :: ((.int 0 0) :: ((.int 0 0) :: ((.int 3 0) :: ((.ref 203) :: ((.bool true) :: ((.int 181 0) :: ((.ref 204) :: (.none :: ((.ref 205) :: ((.ref 206) :: ((.ref 207) :: ((.int 450 0) :: ((.int 131 0) :: ((.str "/claim/cut.py" 451) :: [])))))))))))))))))))) ::
  (nat_lit 209, kf "far_by_two" s_p_far_by_two .none .none (.str "seamarks.reach" 369) (.ref 208) .none) ::
  (nat_lit 215, kc ((.str "reach" 453) :: ((.str "reach" 454) :: ((.str "/claim/cut.py" 455) :: ((.int 140 0) :: ((.int 2 0) :: ((.int 0 0) :: ((.int 0 0) :: ((.int 3 0) :: ((.ref 210) :: ((.bool true) :: ((.int 181 0) :: ((.ref 211) :: (.none :: ((.ref 212) :: ((.ref 213) :: ((.ref 214) :: ((.int 460 0) :: ((.int 140 0) :: ((.str "/claim/cut.py" 461) :: [])))))))))))))))))))) ::
  (nat_lit 216, kf "reach" s_p_reach .none .none (.str "seamarks.reach" 369) (.ref 215) .none) ::
  (nat_lit 222, kc ((.str "stretch_way" 465) :: ((.str "stretch_way" 466) :: ((.str "/claim/cut.py" 467) :: ((.int 149 0) :: ((.int 2 0) :: ((.int 0 0) :: ((.int 0 0) :: ((.int 3 0) :: ((.ref 217) :: ((.bool true) :: ((.int 181 0) :: ((.ref 218) :: (.none :: ((.ref 219) :: ((.ref 220) :: ((.ref 221) :: ((.int 470 0) :: ((.int 149 0) :: ((.str "/claim/cut.py" 471) :: [])))))))))))))))))))) ::
  (nat_lit 223, kf "stretch_way" s_p_stretch_way .none .none (.str "seamarks.banks" 463) (.ref 222) .none) ::
  (nat_lit 229, kc ((.str "stretch_side" 473) :: ((.str "stretch_side" 474) :: ((.str "/claim/cut.py" 475) :: ((.int 151 0) :: ((.int 2 0) :: ((.int 0 0) :: ((.int 0 0) :: ((.int 3 0) :: ((.ref 224) :: ((.bool true) :: ((.int 181 0) :: ((.ref 225) :: (.none :: ((.ref 226) :: ((.ref 227) :: ((.ref 228) :: ((.int 479 0) :: ((.int 151 0) :: ((.str "/claim/cut.py" 480) :: [])))))))))))))))))))) ::
  (nat_lit 230, kf "stretch_side" s_p_stretch_side .none .none (.str "seamarks.banks" 463) (.ref 229) .none) ::
  (nat_lit 234, kc ((.str "bank_sides" 482) :: ((.str "bank_sides" 483) :: ((.str "/claim/cut.py" 484) :: ((.int 154 0) :: ((.int 1 0) :: ((.int 0 0) :: ((.int 0 0) :: ((.int 3 0) :: ((.ref 231) :: ((.bool true) :: ((.int 181 0) :: ((.ref 232) :: (.none :: (.none :: (.none :: ((.ref 233) :: ((.int 485 0) :: ((.int 154 0) :: ((.str "/claim/cut.py" 486) :: [])))))))))))))))))))) ::
  (nat_lit 235, kf "bank_sides" s_p_bank_sides .none .none (.str "seamarks.banks" 463) (.ref 234) .none) ::
  (nat_lit 239, kc ((.str "word_of_cannot" 488) :: ((.str "word_of_cannot" 489) :: ((.str "/claim/cut.py" 490) :: ((.int 157 0) :: ((.int 2 0) :: ((.int 0 0) :: ((.int 0 0) :: ((.int 3 0) :: ((.ref 236) :: ((.bool true) :: ((.int 181 0) :: ((.ref 237) :: (.none :: (.none :: (.none :: ((.ref 238) :: ((.int 491 0) :: ((.int 157 0) :: ((.str "/claim/cut.py" 492) :: [])))))))))))))))))))) ::
  (nat_lit 240, kf "word_of_cannot" s_p_word_of_cannot .none .none (.str "seamarks.banks" 463) (.ref 239) .none) ::
  (nat_lit 246, kc ((.str "gone_beyond" 494) :: ((.str "gone_beyond" 495) :: ((.str "/claim/cut.py" 496) :: ((.int 162 0) :: ((.int 3 0) :: ((.int 0 0) :: ((.int 0 0) :: ((.int 3 0) :: ((.ref 241) :: ((.bool true) :: ((.int 181 0) :: ((.ref 242) :: (.none :: ((.ref 243) :: ((.ref 244) :: ((.ref 245) :: ((.int 502 0) :: ((.int 162 0) :: ((.str "/claim/cut.py" 503) :: [])))))))))))))))))))) ::
  (nat_lit 247, kf "gone_beyond" s_p_gone_beyond .none .none (.str "seamarks.banks" 463) (.ref 246) .none) ::
  (nat_lit 253, kc ((.str "beyond_or_weights" 505) :: ((.str "beyond_or_weights" 506) :: ((.str "/claim/cut.py" 507) :: ((.int 166 0) :: ((.int 2 0) :: ((.int 0 0) :: ((.int 0 0) :: ((.int 3 0) :: ((.ref 248) :: ((.bool true) :: ((.int 181 0) :: ((.ref 249) :: (.none :: ((.ref 250) :: ((.ref 251) :: ((.ref 252) :: ((.int 511 0) :: ((.int 166 0) :: ((.str "/claim/cut.py" 512) :: [])))))))))))))))))))) ::
  (nat_lit 254, kf "beyond_or_weights" s_p_beyond_or_weights .none .none (.str "seamarks.banks" 463) (.ref 253) .none) ::
  (nat_lit 260, kc ((.str "bank_word" 514) :: ((.str "bank_word" 515) :: ((.str "/claim/cut.py" 516) :: ((.int 173 0) :: ((.int 2 0) :: ((.int 0 0) :: ((.int 0 0) :: ((.int 3 0) :: ((.ref 255) :: ((.bool true) :: ((.int 181 0) :: ((.ref 256) :: (.none :: ((.ref 257) :: ((.ref 258) :: ((.ref 259) :: ((.int 525 0) :: ((.int 173 0) :: ((.str "/claim/cut.py" 526) :: [])))))))))))))))))))) ::
  (nat_lit 261, kf "bank_word" s_p_bank_word .none .none (.str "seamarks.banks" 463) (.ref 260) .none) ::
  (nat_lit 267, kc ((.str "_law_low" 530) :: ((.str "_law_low" 531) :: ((.str "/claim/cut.py" 532) :: ((.int 189 0) :: ((.int 2 0) :: ((.int 0 0) :: ((.int 0 0) :: ((.int 3 0) :: ((.ref 262) :: ((.bool true) :: ((.int 181 0) :: ((.ref 263) :: (.none :: ((.ref 264) :: ((.ref 265) :: ((.ref 266) :: ((.int 535 0) :: ((.int 189 0) :: ((.str "/claim/cut.py" 536) :: [])))))))))))))))))))) ::
  (nat_lit 268, kf "_law_low" s_L_low .none .none (.str "law_seamarks_k26_whole_words_by_places" 528) (.ref 267) .none) ::
  (nat_lit 274, kc ((.str "_law_spot_of" 538) :: ((.str "_law_spot_of" 539) :: ((.str "/claim/cut.py" 540) :: ((.int 195 0) :: ((.int 3 0) :: ((.int 0 0) :: ((.int 0 0) :: ((.int 3 0) :: ((.ref 269) :: ((.bool true) :: ((.int 181 0) :: ((.ref 270) :: (.none :: ((.ref 271) :: ((.ref 272) :: ((.ref 273) :: ((.int 545 0) :: ((.int 195 0) :: ((.str "/claim/cut.py" 546) :: [])))))))))))))))))))) ::
  (nat_lit 275, kf "_law_spot_of" s_L_spot_of .none .none (.str "law_seamarks_k26_whole_words_by_places" 528) (.ref 274) .none) ::
  (nat_lit 281, kc ((.str "_law_meet" 548) :: ((.str "_law_meet" 549) :: ((.str "/claim/cut.py" 550) :: ((.int 200 0) :: ((.int 2 0) :: ((.int 0 0) :: ((.int 0 0) :: ((.int 3 0) :: ((.ref 276) :: ((.bool true) :: ((.int 181 0) :: ((.ref 277) :: (.none :: ((.ref 278) :: ((.ref 279) :: ((.ref 280) :: ((.int 554 0) :: ((.int 200 0) :: ((.str "/claim/cut.py" 555) :: [])))))))))))))))))))) ::
  (nat_lit 282, kf "_law_meet" s_L_meet .none .none (.str "law_seamarks_k26_whole_words_by_places" 528) (.ref 281) .none) ::
  (nat_lit 286, kc ((.str "_law_has" 557) :: ((.str "_law_has" 558) :: ((.str "/claim/cut.py" 559) :: ((.int 205 0) :: ((.int 2 0) :: ((.int 0 0) :: ((.int 0 0) :: ((.int 3 0) :: ((.ref 283) :: ((.bool true) :: ((.int 181 0) :: ((.ref 284) :: (.none :: (.none :: (.none :: ((.ref 285) :: ((.int 560 0) :: ((.int 205 0) :: ((.str "/claim/cut.py" 561) :: [])))))))))))))))))))) ::
  (nat_lit 287, kf "_law_has" s_L_has .none .none (.str "law_seamarks_k26_whole_words_by_places" 528) (.ref 286) .none) ::
  (nat_lit 293, kc ((.str "_law_corners_of" 563) :: ((.str "_law_corners_of" 564) :: ((.str "/claim/cut.py" 565) :: ((.int 208 0) :: ((.int 1 0) :: ((.int 0 0) :: ((.int 0 0) :: ((.int 3 0) :: ((.ref 288) :: ((.bool true) :: ((.int 181 0) :: ((.ref 289) :: (.none :: ((.ref 290) :: ((.ref 291) :: ((.ref 292) :: ((.int 572 0) :: ((.int 208 0) :: ((.str "/claim/cut.py" 573) :: [])))))))))))))))))))) ::
  (nat_lit 294, kf "_law_corners_of" s_L_corners_of .none .none (.str "law_seamarks_k26_whole_words_by_places" 528) (.ref 293) .none) ::
  (nat_lit 298, kc ((.str "_law_feet" 575) :: ((.str "_law_feet" 576) :: ((.str "/claim/cut.py" 577) :: ((.int 216 0) :: ((.int 1 0) :: ((.int 0 0) :: ((.int 0 0) :: ((.int 3 0) :: ((.ref 295) :: ((.bool true) :: ((.int 181 0) :: ((.ref 296) :: (.none :: (.none :: (.none :: ((.ref 297) :: ((.int 578 0) :: ((.int 216 0) :: ((.str "/claim/cut.py" 579) :: [])))))))))))))))))))) ::
  (nat_lit 299, kf "_law_feet" s_L_feet .none .none (.str "law_seamarks_k26_whole_words_by_places" 528) (.ref 298) .none) ::
  (nat_lit 305, kc ((.str "_law_any_place" 581) :: ((.str "_law_any_place" 582) :: ((.str "/claim/cut.py" 583) :: ((.int 218 0) :: ((.int 1 0) :: ((.int 0 0) :: ((.int 0 0) :: ((.int 3 0) :: ((.ref 300) :: ((.bool true) :: ((.int 181 0) :: ((.ref 301) :: (.none :: ((.ref 302) :: ((.ref 303) :: ((.ref 304) :: ((.int 586 0) :: ((.int 218 0) :: ((.str "/claim/cut.py" 587) :: [])))))))))))))))))))) ::
  (nat_lit 306, kf "_law_any_place" s_L_any_place .none .none (.str "law_seamarks_k26_whole_words_by_places" 528) (.ref 305) .none) ::
  (nat_lit 310, kc ((.str "_law_flow" 589) :: ((.str "_law_flow" 590) :: ((.str "/claim/cut.py" 591) :: ((.int 223 0) :: ((.int 1 0) :: ((.int 0 0) :: ((.int 0 0) :: ((.int 3 0) :: ((.ref 307) :: ((.bool true) :: ((.int 181 0) :: ((.ref 308) :: (.none :: (.none :: (.none :: ((.ref 309) :: ((.int 592 0) :: ((.int 223 0) :: ((.str "/claim/cut.py" 593) :: [])))))))))))))))))))) ::
  (nat_lit 311, kf "_law_flow" s_L_flow .none .none (.str "law_seamarks_k26_whole_words_by_places" 528) (.ref 310) .none) ::
  (nat_lit 317, kc ((.str "_law_power" 595) :: ((.str "_law_power" 596) :: ((.str "/claim/cut.py" 597) :: ((.int 231 0) :: ((.int 1 0) :: ((.int 0 0) :: ((.int 0 0) :: ((.int 3 0) :: ((.ref 312) :: ((.bool true) :: ((.int 181 0) :: ((.ref 313) :: (.none :: ((.ref 314) :: ((.ref 315) :: ((.ref 316) :: ((.int 599 0) :: ((.int 231 0) :: ((.str "/claim/cut.py" 600) :: [])))))))))))))))))))) ::
  (nat_lit 318, kf "_law_power" s_L_power .none .none (.str "law_seamarks_k26_whole_words_by_places" 528) (.ref 317) .none) ::
  (nat_lit 324, kc ((.str "_law_draws" 602) :: ((.str "_law_draws" 603) :: ((.str "/claim/cut.py" 604) :: ((.int 233 0) :: ((.int 2 0) :: ((.int 0 0) :: ((.int 0 0) :: ((.int 3 0) :: ((.ref 319) :: ((.bool true) :: ((.int 181 0) :: ((.ref 320) :: (.none :: ((.ref 321) :: ((.ref 322) :: ((.ref 323) :: ((.int 611 0) :: ((.int 233 0) :: ((.str "/claim/cut.py" 612) :: [])))))))))))))))))))) ::
  (nat_lit 325, kf "_law_draws" s_L_draws .none .none (.str "law_seamarks_k26_whole_words_by_places" 528) (.ref 324) .none) ::
  (nat_lit 331, kc ((.str "_law_many" 614) :: ((.str "_law_many" 615) :: ((.str "/claim/cut.py" 616) :: ((.int 249 0) :: ((.int 4 0) :: ((.int 0 0) :: ((.int 0 0) :: ((.int 3 0) :: ((.ref 326) :: ((.bool true) :: ((.int 181 0) :: ((.ref 327) :: (.none :: ((.ref 328) :: ((.ref 329) :: ((.ref 330) :: ((.int 621 0) :: ((.int 249 0) :: ((.str "/claim/cut.py" 622) :: [])))))))))))))))))))) ::
  (nat_lit 332, kf "_law_many" s_L_many .none .none (.str "law_seamarks_k26_whole_words_by_places" 528) (.ref 331) .none) ::
  (nat_lit 336, kc ((.str "_law_tight" 624) :: ((.str "_law_tight" 625) :: ((.str "/claim/cut.py" 626) :: ((.int 253 0) :: ((.int 2 0) :: ((.int 0 0) :: ((.int 0 0) :: ((.int 3 0) :: ((.ref 333) :: ((.bool true) :: ((.int 181 0) :: ((.ref 334) :: (.none :: (.none :: (.none :: ((.ref 335) :: ((.int 627 0) :: ((.int 253 0) :: ((.str "/claim/cut.py" 628) :: [])))))))))))))))))))) ::
  (nat_lit 337, kf "_law_tight" s_L_tight .none .none (.str "law_seamarks_k26_whole_words_by_places" 528) (.ref 336) .none) ::
  (nat_lit 343, kc ((.str "_law_way" 630) :: ((.str "_law_way" 631) :: ((.str "/claim/cut.py" 632) :: ((.int 259 0) :: ((.int 3 0) :: ((.int 0 0) :: ((.int 0 0) :: ((.int 3 0) :: ((.ref 338) :: ((.bool true) :: ((.int 181 0) :: ((.ref 339) :: (.none :: ((.ref 340) :: ((.ref 341) :: ((.ref 342) :: ((.int 638 0) :: ((.int 259 0) :: ((.str "/claim/cut.py" 639) :: [])))))))))))))))))))) ::
  (nat_lit 344, kf "_law_way" s_L_way .none .none (.str "law_seamarks_k26_whole_words_by_places" 528) (.ref 343) .none) ::
  (nat_lit 350, kc ((.str "_law_side" 641) :: ((.str "_law_side" 642) :: ((.str "/claim/cut.py" 643) :: ((.int 265 0) :: ((.int 1 0) :: ((.int 0 0) :: ((.int 0 0) :: ((.int 3 0) :: ((.ref 345) :: ((.bool true) :: ((.int 181 0) :: ((.ref 346) :: (.none :: ((.ref 347) :: ((.ref 348) :: ((.ref 349) :: ((.int 648 0) :: ((.int 265 0) :: ((.str "/claim/cut.py" 649) :: [])))))))))))))))))))) ::
  (nat_lit 351, kf "_law_side" s_L_side .none .none (.str "law_seamarks_k26_whole_words_by_places" 528) (.ref 350) .none) ::
  (nat_lit 355, kc ((.str "_law_sides" 651) :: ((.str "_law_sides" 652) :: ((.str "/claim/cut.py" 653) :: ((.int 275 0) :: ((.int 2 0) :: ((.int 0 0) :: ((.int 0 0) :: ((.int 3 0) :: ((.ref 352) :: ((.bool true) :: ((.int 181 0) :: ((.ref 353) :: (.none :: (.none :: (.none :: ((.ref 354) :: ((.int 654 0) :: ((.int 275 0) :: ((.str "/claim/cut.py" 655) :: [])))))))))))))))))))) ::
  (nat_lit 356, kf "_law_sides" s_L_sides .none .none (.str "law_seamarks_k26_whole_words_by_places" 528) (.ref 355) .none) ::
  (nat_lit 362, kc ((.str "_law_turned" 657) :: ((.str "_law_turned" 658) :: ((.str "/claim/cut.py" 659) :: ((.int 285 0) :: ((.int 2 0) :: ((.int 0 0) :: ((.int 0 0) :: ((.int 3 0) :: ((.ref 357) :: ((.bool true) :: ((.int 181 0) :: ((.ref 358) :: (.none :: ((.ref 359) :: ((.ref 360) :: ((.ref 361) :: ((.int 662 0) :: ((.int 285 0) :: ((.str "/claim/cut.py" 663) :: [])))))))))))))))))))) ::
  (nat_lit 363, kf "_law_turned" s_L_turned .none .none (.str "law_seamarks_k26_whole_words_by_places" 528) (.ref 362) .none) ::
  (nat_lit 369, kc ((.str "_law_left_pair" 665) :: ((.str "_law_left_pair" 666) :: ((.str "/claim/cut.py" 667) :: ((.int 287 0) :: ((.int 2 0) :: ((.int 0 0) :: ((.int 0 0) :: ((.int 3 0) :: ((.ref 364) :: ((.bool true) :: ((.int 181 0) :: ((.ref 365) :: (.none :: ((.ref 366) :: ((.ref 367) :: ((.ref 368) :: ((.int 672 0) :: ((.int 287 0) :: ((.str "/claim/cut.py" 673) :: [])))))))))))))))))))) ::
  (nat_lit 370, kf "_law_left_pair" s_L_left_pair .none .none (.str "law_seamarks_k26_whole_words_by_places" 528) (.ref 369) .none) ::
  (nat_lit 376, kc ((.str "_law_bank" 675) :: ((.str "_law_bank" 676) :: ((.str "/claim/cut.py" 677) :: ((.int 297 0) :: ((.int 2 0) :: ((.int 0 0) :: ((.int 0 0) :: ((.int 3 0) :: ((.ref 371) :: ((.bool true) :: ((.int 181 0) :: ((.ref 372) :: (.none :: ((.ref 373) :: ((.ref 374) :: ((.ref 375) :: ((.int 694 0) :: ((.int 297 0) :: ((.str "/claim/cut.py" 695) :: [])))))))))))))))))))) ::
  (nat_lit 377, kf "_law_bank" s_L_bank .none .none (.str "law_seamarks_k26_whole_words_by_places" 528) (.ref 376) .none) ::
  (nat_lit 383, kc ((.str "_law_bank_rows" 697) :: ((.str "_law_bank_rows" 698) :: ((.str "/claim/cut.py" 699) :: ((.int 313 0) :: ((.int 1 0) :: ((.int 0 0) :: ((.int 0 0) :: ((.int 3 0) :: ((.ref 378) :: ((.bool true) :: ((.int 181 0) :: ((.ref 379) :: (.none :: ((.ref 380) :: ((.ref 381) :: ((.ref 382) :: ((.int 708 0) :: ((.int 313 0) :: ((.str "/claim/cut.py" 709) :: [])))))))))))))))))))) ::
  (nat_lit 384, kf "_law_bank_rows" s_L_bank_rows .none .none (.str "law_seamarks_k26_whole_words_by_places" 528) (.ref 383) .none) ::
  (nat_lit 388, kc ((.str "_law_banked" 711) :: ((.str "_law_banked" 712) :: ((.str "/claim/cut.py" 713) :: ((.int 321 0) :: ((.int 1 0) :: ((.int 0 0) :: ((.int 0 0) :: ((.int 3 0) :: ((.ref 385) :: ((.bool true) :: ((.int 181 0) :: ((.ref 386) :: (.none :: (.none :: (.none :: ((.ref 387) :: ((.int 714 0) :: ((.int 321 0) :: ((.str "/claim/cut.py" 715) :: [])))))))))))))))))))) ::
  (nat_lit 389, kf "_law_banked" s_L_banked .none .none (.str "law_seamarks_k26_whole_words_by_places" 528) (.ref 388) .none) ::
  (nat_lit 393, kc ((.str "_law_beyond" 717) :: ((.str "_law_beyond" 718) :: ((.str "/claim/cut.py" 719) :: ((.int 334 0) :: ((.int 2 0) :: ((.int 0 0) :: ((.int 0 0) :: ((.int 3 0) :: ((.ref 390) :: ((.bool true) :: ((.int 181 0) :: ((.ref 391) :: (.none :: (.none :: (.none :: ((.ref 392) :: ((.int 720 0) :: ((.int 334 0) :: ((.str "/claim/cut.py" 721) :: [])))))))))))))))))))) ::
  (nat_lit 394, kf "_law_beyond" s_L_beyond .none .none (.str "law_seamarks_k26_whole_words_by_places" 528) (.ref 393) .none) ::
  (nat_lit 398, kc ((.str "law" 723) :: ((.str "law" 724) :: ((.str "/claim/cut.py" 725) :: ((.int 344 0) :: ((.int 1 0) :: ((.int 0 0) :: ((.int 0 0) :: ((.int 3 0) :: ((.ref 395) :: ((.bool true) :: ((.int 181 0) :: ((.ref 396) :: (.none :: (.none :: (.none :: ((.ref 397) :: ((.int 726 0) :: ((.int 344 0) :: ((.str "/claim/cut.py" 727) :: [])))))))))))))))))))) ::
  (nat_lit 399, kf "law" s_law .none .none (.str "law_seamarks_k26_whole_words_by_places" 528) (.ref 398) .none) :: []
noncomputable def kas : List Nat := nat_lit 3 :: nat_lit 20 :: nat_lit 21 :: nat_lit 25 :: nat_lit 26 :: nat_lit 30 :: nat_lit 31 :: nat_lit 37 :: nat_lit 38 :: nat_lit 44 :: nat_lit 45 :: nat_lit 51 :: nat_lit 52 :: nat_lit 58 :: nat_lit 59 :: nat_lit 65 :: nat_lit 66 :: nat_lit 72 :: nat_lit 73 :: nat_lit 79 :: nat_lit 80 :: nat_lit 86 :: nat_lit 87 :: nat_lit 93 :: nat_lit 94 :: nat_lit 100 :: nat_lit 101 :: nat_lit 107 :: nat_lit 108 :: nat_lit 114 :: nat_lit 115 :: nat_lit 119 :: nat_lit 120 :: nat_lit 126 :: nat_lit 127 :: nat_lit 133 :: nat_lit 134 :: nat_lit 140 :: nat_lit 141 :: nat_lit 147 :: nat_lit 148 :: nat_lit 154 :: nat_lit 155 :: nat_lit 161 :: nat_lit 162 :: nat_lit 166 :: nat_lit 167 :: nat_lit 173 :: nat_lit 174 :: nat_lit 180 :: nat_lit 181 :: nat_lit 187 :: nat_lit 188 :: nat_lit 194 :: nat_lit 195 :: nat_lit 201 :: nat_lit 202 :: nat_lit 208 :: nat_lit 209 :: nat_lit 215 :: nat_lit 216 :: nat_lit 222 :: nat_lit 223 :: nat_lit 229 :: nat_lit 230 :: nat_lit 234 :: nat_lit 235 :: nat_lit 239 :: nat_lit 240 :: nat_lit 246 :: nat_lit 247 :: nat_lit 253 :: nat_lit 254 :: nat_lit 260 :: nat_lit 261 :: nat_lit 267 :: nat_lit 268 :: nat_lit 274 :: nat_lit 275 :: nat_lit 281 :: nat_lit 282 :: nat_lit 286 :: nat_lit 287 :: nat_lit 293 :: nat_lit 294 :: nat_lit 298 :: nat_lit 299 :: nat_lit 305 :: nat_lit 306 :: nat_lit 310 :: nat_lit 311 :: nat_lit 317 :: nat_lit 318 :: nat_lit 324 :: nat_lit 325 :: nat_lit 331 :: nat_lit 332 :: nat_lit 336 :: nat_lit 337 :: nat_lit 343 :: nat_lit 344 :: nat_lit 350 :: nat_lit 351 :: nat_lit 355 :: nat_lit 356 :: nat_lit 362 :: nat_lit 363 :: nat_lit 369 :: nat_lit 370 :: nat_lit 376 :: nat_lit 377 :: nat_lit 383 :: nat_lit 384 :: nat_lit 388 :: nat_lit 389 :: nat_lit 393 :: nat_lit 394 :: nat_lit 398 :: nat_lit 399 :: []
theorem kas_ok : ∀ P : Params, kas = (KK P).map (·.1) := fun _ => by kernel_rfl
open PySem.W in
theorem made : (fun (_ : Program) (_ : OpenLaw) => true) qv PySem.Challenge.rw_seamarks_k26_whole_words_by_places = true := by k_qdec
set_option maxHeartbeats 0 in
open PySem.W in
theorem left_ok : LeftO PySem.Challenge.rw_seamarks_k26_whole_words_by_places.row.prog qv [] (fun s => xlAt qv [] s && recOk (RowW.records (OpenRow.toRowW PySem.Challenge.rw_seamarks_k26_whole_words_by_places.row)) s)
    (fun s => kas.map s.heap.get?) (fun w => (KK w.params).map fun p => some p.2) 9000 := by
  unfold LeftO
  rw [Fast.te4187177175401517315, Fast.te5923862056798008813, Fast.te2368527892694137696, Fast.te14364793385576792824, Fast.te6838470164737621166, Fast.te5405148231988403317]
  intro w
  kernel_rfl
end Sea
-- BASE
namespace L2
open PySem PySem.Spec PyProof.Rows

abbrev Key := Sum Int Str
def keyIs : Key → Value → Bool
  | .inl k, v => Value.isInt k v
  | .inr x, v => Value.isStrOf x v
def keyH (w : World) : Key → Int
  | .inl k => hashInt k
  | .inr x => hashStr w x
theorem keyIs_shape : ∀ {k : Key} {v : Value}, keyIs k v = true → (∃ i t, k = Sum.inl i ∧ v = Value.int i t) ∨ (∃ x t, k = Sum.inr x ∧ v = Value.str x t)
  | .inl i, v, h => by
    obtain ⟨t, e⟩ := Value.isInt_shape (k := i) (v := v) h
    exact .inl ⟨i, t, rfl, e⟩
  | .inr x, v, h => by
    obtain ⟨t, e⟩ := Value.isStrOf_shape (x := x) (v := v) h
    exact .inr ⟨x, t, rfl, e⟩
theorem keyIs_int (i : Int) (t : Tok) : keyIs (.inl i) (.int i t) = true := by simp [keyIs, Value.isInt]
theorem keyIs_str (x : Str) (t : Tok) : keyIs (.inr x) (.str x t) = true := by simp [keyIs, Value.isStrOf]
theorem key_ll (a b : Int) : decide ((Sum.inl a : Key) = Sum.inl b) = (a == b) := by
  by_cases e : a = b
  · subst e; simp
  · have h : ¬ (Sum.inl a : Key) = Sum.inl b := fun q => e (Sum.inl.inj q)
    rw [decide_eq_false h]
    exact (beq_eq_false_iff_ne.mpr e).symm
theorem key_rr (a b : Str) : decide ((Sum.inr a : Key) = Sum.inr b) = decide (a = b) := by
  by_cases e : a = b
  · subst e; simp
  · have h : ¬ (Sum.inr a : Key) = Sum.inr b := fun q => e (Sum.inr.inj q)
    rw [decide_eq_false h, decide_eq_false e]
theorem key_lr (a : Int) (b : Str) : decide ((Sum.inl a : Key) = Sum.inr b) = false := decide_eq_false (fun q => nomatch q)
theorem key_rl (a : Str) (b : Int) : decide ((Sum.inr a : Key) = Sum.inl b) = false := decide_eq_false (fun q => nomatch q)

def mixKind (prog : Program) (w : World) : PySem.KeyKind prog w Key where
  is := keyIs
  hash := keyH w
  inj := fun v a b ha hb => by
    rcases keyIs_shape ha with ⟨i, t, rfl, rfl⟩ | ⟨x, t, rfl, rfl⟩
    · rcases keyIs_shape hb with ⟨j, u, rfl, e⟩ | ⟨y, u, rfl, e⟩
      · injection e with e1 _; rw [e1]
      · exact nomatch e
    · rcases keyIs_shape hb with ⟨j, u, rfl, e⟩ | ⟨y, u, rfl, e⟩
      · exact nomatch e
      · injection e with e1 _; rw [e1]
  byValue := fun k v h => by
    rcases keyIs_shape h with ⟨i, t, rfl, rfl⟩ | ⟨x, t, rfl, rfl⟩ <;> rfl
  pyHash := fun hv h => by
    rcases keyIs_shape hv with ⟨i, t, rfl, rfl⟩ | ⟨x, t, rfl, rfl⟩
    · exact wpAny_pyHash_int h
    · exact wpAny_pyHash_str h
  eqBool := fun hu hv h => by
    rcases keyIs_shape hu with ⟨i, t, rfl, rfl⟩ | ⟨x, t, rfl, rfl⟩
    · rcases keyIs_shape hv with ⟨j, u, rfl, rfl⟩ | ⟨y, u, rfl, rfl⟩
      · rw [key_ll] at h; exact wpAny_eqBool_int h
      · rw [key_lr] at h; exact SeqAt.EqAt.int_str i t y u _ _ _ _ h
    · rcases keyIs_shape hv with ⟨j, u, rfl, rfl⟩ | ⟨y, u, rfl, rfl⟩
      · rw [key_rl] at h; exact SeqAt.EqAt.str_int x t j u _ _ _ _ h
      · rw [key_rr] at h; exact wpAny_eqBool_str h
  «strs» := fun k x t v h => by
    rcases keyIs_shape h with ⟨i, u, rfl, e⟩ | ⟨y, u, rfl, e⟩
    · exact nomatch e
    · injection e with e1 _
      subst e1
      cases v <;> rfl

theorem mixKind_int (prog : Program) (w : World) (i : Int) (t : Tok) : (mixKind prog w).is (.inl i) (.int i t) = true := keyIs_int i t
theorem mixKind_str (prog : Program) (w : World) (x : Str) (t : Tok) : (mixKind prog w).is (.inr x) (.str x t) = true := keyIs_str x t
end L2

namespace L2
open PySem PySem.Spec PyProof.Rows

inductive V where
  | non | bl (b : Bool) | int (i : Int) | str (x : Str) | byt (b : Array UInt8) | flt (b : UInt64) | ref (a : Addr) | ty (n : String)
  deriving DecidableEq

def RelV : V → Value → Prop
  | .non, u => u = Value.none
  | .bl b, u => u = Value.bool b
  | .int i, u => ∃ t, u = Value.int i t
  | .str x, u => ∃ t, u = Value.str x t
  | .byt b, u => ∃ t, u = Value.bytes b t
  | .flt b, u => ∃ t, u = Value.float b t
  | .ref a, u => u = Value.ref a
  | .ty n, u => u = Value.type n

abbrev Vals : List V → List Value → Prop := Paired RelV
theorem Vals.length {xs : List V} {us : List Value} (r : Vals xs us) : xs.length = us.length := Paired.length r
theorem Vals.get : ∀ {xs : List V} {us : List Value} {i : Nat} {x : V}, Vals xs us → xs[i]? = some x → ∃ u, us[i]? = some u ∧ RelV x u
  | _, _, _, _, .nil, e => by simp at e
  | _, _, 0, _, .cons r _, e => by simp at e; subst e; exact ⟨_, rfl, r⟩
  | _, _, i + 1, x, .cons _ t, e => by
    obtain ⟨u, h1, h2⟩ := Vals.get (i := i) (x := x) t (by simpa using e)
    exact ⟨u, by simpa using h1, h2⟩
theorem Vals.set {x : V} {u : Value} (r : RelV x u) : ∀ {xs : List V} {us : List Value} (i : Nat), Vals xs us → Vals (xs.set i x) (us.set i u)
  | _, _, _, .nil => .nil
  | _, _, 0, .cons _ t => .cons r t
  | _, _, i + 1, .cons q t => .cons q (Vals.set r i t)
theorem Vals.append : ∀ {xs ys : List V} {us ws : List Value}, Vals xs us → Vals ys ws → Vals (xs ++ ys) (us ++ ws)
  | _, _, _, _, .nil, s => s
  | _, _, _, _, .cons r t, s => .cons r (Vals.append t s)
theorem Vals.take : ∀ {xs : List V} {us : List Value} (n : Nat), Vals xs us → Vals (xs.take n) (us.take n)
  | _, _, 0, _ => .nil
  | _, _, _ + 1, .nil => .nil
  | _, _, n + 1, .cons r t => .cons r (Vals.take n t)
theorem Vals.drop : ∀ {xs : List V} {us : List Value} (n : Nat), Vals xs us → Vals (xs.drop n) (us.drop n)
  | _, _, 0, r => r
  | _, _, _ + 1, .nil => .nil
  | _, _, n + 1, .cons _ t => Vals.drop n t
def RelO : Option V → Option Value → Prop
  | some v, some u => RelV v u
  | none, none => True
  | _, _ => False
def KV {κ : Type} : List (κ × V) → List (κ × Value) → Prop := Paired fun (p : κ × V) (q : κ × Value) => p.1 = q.1 ∧ RelV p.2 q.2

def kV : Key → V
  | .inl i => .int i
  | .inr x => .str x

inductive HO where
  | lst (xs : List V)
  | tup (xs : List V)
  | dK (kvs : List (Key × V)) | dT (kvs : List (List Key × V))
  | set (S : Int → Bool) (n : Nat)
  | ins (C dx : Addr) (fs : List (Str × V))
  | own (x : Addr)
  | xd (fs : List (Str × V))
  | met (f x : Addr)
  | rng (lo hi : Int)
  | frz (o : Obj) (u : HO)
  | tbl (ps : Array Value)
  | ext (φ : Heap → Prop)

abbrev Hp := Addr → Option HO
def upd (H : Hp) (a : Addr) (o : HO) : Hp := fun b => if b = a then some o else H b
theorem upd_same {H : Hp} {a : Addr} {o : HO} : upd H a o a = some o := by unfold upd; rw [if_pos rfl]
theorem upd_ne {H : Hp} {a b : Addr} {o : HO} (h : b ≠ a) : upd H a o b = H b := by unfold upd; rw [if_neg h]
theorem upd_upd {H : Hp} {a : Addr} {o u : HO} : upd (upd H a o) a u = upd H a u := by
  funext b; unfold upd; split <;> rfl
theorem ne_of {H : Hp} {a b : Addr} {o u : HO} (h : H a = some o) (h' : H b = some u) (d : o ≠ u) : a ≠ b := by
  intro e; subst e; rw [h] at h'; exact d (Option.some.inj h')
theorem ne_of_none {H : Hp} {a b : Addr} {o : HO} (h : H a = some o) (h' : H b = none) : a ≠ b := by
  intro e; subst e; rw [h] at h'; cases h'

section
variable (P : Program) (w : World)
def ObjOk (H : Hp) (h : Heap) (a : Addr) : HO → Prop
  | .lst xs => xs.length ≤ sizeLine ∧ ∃ (its : List Value) (n : Nat), Vals xs its ∧ h.get? a = some { cls := .type "list", data := .seq its.toArray n }
  | .tup xs => xs.length ≤ sizeLine ∧ ∃ its : List Value, Vals xs its ∧ IsTup h a its.toArray
  | .dK kvs => kvs.length ≤ sizeLine ∧ (a == sysModules) = false ∧ ∃ vs, KV kvs vs ∧ h.DictOf (mixKind P w) a vs
  | .dT kvs => kvs.length ≤ sizeLine ∧ (a == sysModules) = false ∧ ∃ xs : List (List Key × Addr × Value),
      Paired (fun (p : List Key × V) (q : List Key × Addr × Value) => p.1 = q.1 ∧ H q.2.1 = some (.tup (p.1.map kV)) ∧ RelV p.2 q.2.2) kvs xs ∧
      ∃ o es ep, h.get? a = some o ∧ o.ExactDict ∧ o.data = .dict es ep ∧ es.toList = xs.map (entryOfKey (tupleKind (mixKind P w))) ∧ (xs.map (·.1)).Nodup
  | .set S n => h.SetOf (intKind P w) a S n
  | .ins C dx fs => H dx = some (.own a) ∧ fs.length ≤ 1000 ∧ dx ≠ a ∧ h.get? a = some (PySem.W.instObj C dx) ∧
      ∃ mA, h.Ns1 dx mA ∧ (∀ f, RelO (fs.lookup f) (mA f)) ∧ PySem.Within mA (fs.map (·.1))
  | .own _ => ∃ o, h.get? a = some o
  | .xd fs => ∃ mA, h.Ns1 a mA ∧ ∀ f, RelO (fs.lookup f) (mA f)
  | .rng lo hi => ∃ t u v, h.get? a = some { cls := .type "range", data := .fields #[.int lo t, .int hi u, .int 1 v] }
  | .frz o u => h.get? a = some o ∧ ObjOk H h a u
  | .tbl ps => h.get? a = some { cls := .none, data := .fields ps }
  | .met f x => h.get? a = some (PySem.W.methodObj (.ref f) (.ref x))
  | .ext φ => φ h ∧ (∃ o, h.get? a = some o) ∧ ∀ h1 h2 : Heap, φ h1 → (∀ o, h1.get? a = some o → h2.get? a = some o) → φ h2
def HOk (H : Hp) (h : Heap) : Prop := ∀ a o, H a = some o → ObjOk P w H h a o
end

section
variable {P : Program} {w : World} {H H' : Hp} {h h' : Heap} {a : Addr} {o : HO}
theorem ObjOk.lt (x : ObjOk P w H h a o) : a < h.objs.size := by
  cases o with
  | lst xs => obtain ⟨_, _, _, _, e⟩ := x; exact Heap.lt_size e
  | tup xs => obtain ⟨_, _, _, p⟩ := x; exact p.lt
  | dK kvs => obtain ⟨_, _, _, _, o, _, _, e, _⟩ := x; exact Heap.lt_size e
  | dT kvs => obtain ⟨_, _, _, _, o, _, _, e, _⟩ := x; exact Heap.lt_size e
  | set S n => obtain ⟨o, _, _, _, e, _⟩ := x; exact Heap.lt_size e
  | ins C dx fs => obtain ⟨_, _, _, e, _⟩ := x; exact Heap.lt_size e
  | own y => obtain ⟨_, e⟩ := x; exact Heap.lt_size e
  | xd fs => obtain ⟨_, ⟨_, _, _, e, _⟩, _⟩ := x; exact Heap.lt_size e
  | rng lo hi => obtain ⟨_, _, _, e⟩ := x; exact Heap.lt_size e
  | frz ob u => obtain ⟨e, _⟩ := x; exact Heap.lt_size e
  | tbl ps => exact Heap.lt_size (show h.get? a = some _ from x)
  | met f y => exact Heap.lt_size (show h.get? a = some _ from x)
  | ext φ => obtain ⟨_, ⟨_, e⟩, _⟩ := x; exact Heap.lt_size e
theorem Paired.mapP {α β : Type} {F G : α → β → Prop} : ∀ {l₁ : List α} {l₂ : List β}, Paired F l₁ l₂ → (∀ a b, F a b → G a b) → Paired G l₁ l₂
  | _, _, .nil, _ => .nil
  | _, _, .cons r t, f => .cons (f _ _ r) (Paired.mapP t f)
theorem ObjOk.stay (x : ObjOk P w H h a o) (k : ∀ b u, (b = a ∨ H b = some (.own a)) → h.get? b = some u → h'.get? b = some u)
    (ho : ∀ b, H b = some (.own a) → H' b = some (.own a)) (ht : ∀ b xs, H b = some (.tup xs) → H' b = some (.tup xs)) : ObjOk P w H' h' a o := by
  induction o with
  | lst xs => obtain ⟨z, its, n, r, e⟩ := x; exact ⟨z, its, n, r, k _ _ (.inl rfl) e⟩
  | tup xs => obtain ⟨z, its, r, ob, e, c⟩ := x; exact ⟨z, its, r, ob, k _ _ (.inl rfl) e, c⟩
  | dK kvs => obtain ⟨z, y, vs, r, ob, es, ep, e, c⟩ := x; exact ⟨z, y, vs, r, ob, es, ep, k _ _ (.inl rfl) e, c⟩
  | dT kvs =>
    obtain ⟨z, y, xs, r, ob, es, ep, e, c⟩ := x
    exact ⟨z, y, xs, Paired.mapP r fun p q z => ⟨z.1, ht _ _ z.2.1, z.2.2⟩, ob, es, ep, k _ _ (.inl rfl) e, c⟩
  | set S n => obtain ⟨ob, es, ep, t, e, c⟩ := x; exact ⟨ob, es, ep, t, k _ _ (.inl rfl) e, c⟩
  | ins C dx fs =>
    obtain ⟨d, z, ne, e, mA, ⟨od, es, ep, e2, c⟩, r⟩ := x
    exact ⟨ho _ d, z, ne, k _ _ (.inl rfl) e, mA, ⟨od, es, ep, k _ _ (.inr d) e2, c⟩, r⟩
  | own y => obtain ⟨ob, e⟩ := x; exact ⟨ob, k _ _ (.inl rfl) e⟩
  | xd fs => obtain ⟨mA, ⟨od, es, ep, e, c⟩, r⟩ := x; exact ⟨mA, ⟨od, es, ep, k _ _ (.inl rfl) e, c⟩, r⟩
  | rng lo hi => obtain ⟨t, u, v, e⟩ := x; exact ⟨t, u, v, k _ _ (.inl rfl) e⟩
  | frz ob u ih => obtain ⟨e, q⟩ := x; exact ⟨k _ _ (.inl rfl) e, ih q⟩
  | tbl ps =>
    have e : h.get? a = some { cls := .none, data := .fields ps } := x
    show h'.get? a = some { cls := .none, data := .fields ps }
    exact k a _ (.inl rfl) e
  | met f y =>
    have e : h.get? a = some (PySem.W.methodObj (.ref f) (.ref y)) := x
    show h'.get? a = some (PySem.W.methodObj (.ref f) (.ref y))
    exact k a _ (.inl rfl) e
  | ext φ => obtain ⟨p, ⟨o, e⟩, st⟩ := x; exact ⟨st _ _ p fun o q => k _ _ (.inl rfl) q, ⟨o, k _ _ (.inl rfl) e⟩, st⟩
theorem HOk.lt (x : HOk P w H h) (e : H a = some o) : a < h.objs.size := (x a o e).lt
theorem HOk.fresh (x : HOk P w H h) (e : h.objs.size ≤ a) : H a = none := by
  cases q : H a with
  | none => rfl
  | some u => exact absurd (Nat.lt_of_lt_of_le (x.lt q) e) (Nat.lt_irrefl _)
theorem HOk.kept (x : HOk P w H h) (k : ∀ b u, h.get? b = some u → h'.get? b = some u) : HOk P w H h' := fun a o e =>
  (x a o e).stay (fun b u _ q => k b u q) (fun _ q => q) fun _ _ q => q
theorem HOk.laid (x : HOk P w H h) (k : ∀ b u, h.get? b = some u → h'.get? b = some u) (hp : h.objs.size ≤ a) (new : ObjOk P w (upd H a o) h' a o) : HOk P w (upd H a o) h' := fun b u e => by
  have hn := x.fresh hp
  by_cases hb : b = a
  · subst hb; rw [upd_same] at e; cases e; exact new
  · rw [upd_ne hb] at e
    exact (x b u e).stay (fun c v _ q => k c v q) (fun c q => by rw [upd_ne (ne_of_none q hn)]; exact q) fun c xs q => by rw [upd_ne (ne_of_none q hn)]; exact q
end

def Rd (H : Hp) (a : Addr) (u : HO) : Prop := H a = some u ∨ ∃ o, H a = some (.frz o u)
theorem Rd.ok {P : Program} {w : World} {H : Hp} {h : Heap} {a : Addr} {u : HO} (r : Rd H a u) (x : HOk P w H h) : ObjOk P w H h a u := by
  rcases r with r | ⟨o, r⟩
  · exact x a u r
  · obtain ⟨_, q⟩ := x a _ r
    exact q
def Mut : Option HO → Prop
  | some (.lst _) => True
  | some (.dK _) => True
  | some (.dT _) => True
  | some (.set _ _) => True
  | some (.ins _ _ _) => True
  | some (.ext _) => True
  | _ => False
section
variable {P : Program} {w : World} {H : Hp} {h h' : Heap} {x e : Addr} {o' : HO}
theorem HOk.write (ok : HOk P w H h) (mu : Mut (H x)) (he : e = x ∨ H e = some (.own x)) (k : ∀ b u, b ≠ e → h.get? b = some u → h'.get? b = some u) (heo : ∃ u, h'.get? e = some u)
    (new : ObjOk P w (upd H x o') h' x o') : HOk P w (upd H x o') h' := fun b u q => by
  have nown : ∀ c y, H c = some (.own y) → c ≠ x := fun c y r z => by subst z; rw [r] at mu; exact mu
  have ntup : ∀ c xs, H c = some (.tup xs) → c ≠ x := fun c xs r z => by subst z; rw [r] at mu; exact mu
  by_cases hb : b = x
  · subst hb; rw [upd_same] at q; cases q; exact new
  · rw [upd_ne hb] at q
    by_cases hbe : b = e
    · have q' : H b = some (.own x) := by
        rcases he with z | z
        · exact absurd (hbe.trans z) hb
        · rw [hbe]; exact z
      rw [q] at q'; cases q'
      obtain ⟨v, hv⟩ := heo
      exact ⟨v, by rw [hbe]; exact hv⟩
    · refine (ok b u q).stay (fun c v hc r => k c v ?_ r) (fun c r => by rw [upd_ne (nown c b r)]; exact r) fun c xs r => by rw [upd_ne (ntup c xs r)]; exact r
      rcases hc with rfl | hc
      · exact hbe
      · rintro rfl
        rcases he with z | z
        · exact nown c b hc z
        · rw [hc] at z; cases z; exact hb rfl
end

structure Un (fs ex : List Addr) (H H' : Hp) (h h' : Heap) : Prop where
  keep : ∀ b o, h.get? b = some o → H b = none → b ∉ fs → b ∉ ex → h'.get? b = some o
  slot : ∀ b o, h.get? b = some o → H b = none → b ∈ fs → b ∉ ex → ∃ sl, h'.get? b = some { o with slots := sl }
  free : ∀ b o, h.get? b = some o → H b = none → b ∉ ex → H' b = none
  there : ∀ b o, h.get? b = some o → b ∉ ex → ∃ o', h'.get? b = some o'
  tups : ∀ b xs, H b = some (.tup xs) → H' b = some (.tup xs)
  frzs : ∀ b o u, H b = some (.frz o u) → H' b = some (.frz o u)
  tbls : ∀ b ps, H b = some (.tbl ps) → ∃ more, H' b = some (.tbl (ps ++ more))
section
variable {fs fs' ex ex' : List Addr} {H H1 H2 : Hp} {h h1 h2 h' : Heap} {a x e : Addr} {o : HO}
theorem Un.any (u : Un fs ex H H1 h h1) {b : Addr} {ob : Obj} (q : h.get? b = some ob) (n : H b = none) (hx : b ∉ ex) : ∃ sl, h1.get? b = some { ob with slots := sl } := by
  by_cases hb : b ∈ fs
  · exact u.slot b ob q n hb hx
  · exact ⟨ob.slots, u.keep b ob q n hb hx⟩
theorem Un.kept (k : ∀ b u, h.get? b = some u → h'.get? b = some u) : Un fs ex H H h h' :=
  ⟨fun b ob q _ _ _ => k b ob q, fun b ob q _ _ _ => ⟨ob.slots, k b ob q⟩, fun _ _ _ n _ => n, fun b ob q _ => ⟨ob, k b ob q⟩, fun _ _ q => q, fun _ _ _ q => q, fun _ ps q => ⟨#[], by rw [q]; simp⟩⟩
theorem Un.refl : Un fs ex H H h h := Un.kept fun _ _ q => q
theorem Un.laid (k : ∀ b u, h.get? b = some u → h'.get? b = some u) (hp : h.objs.size ≤ a) (hn : H a = none) : Un fs ex H (upd H a o) h h' where
  keep := fun b u q _ _ _ => k b u q
  slot := fun b u q _ _ _ => ⟨u.slots, k b u q⟩
  free := fun b u q n _ => by rw [upd_ne (Nat.ne_of_lt (Nat.lt_of_lt_of_le (Heap.lt_size q) hp))]; exact n
  there := fun b u q _ => ⟨u, k b u q⟩
  tups := fun b xs q => by rw [upd_ne (ne_of_none q hn)]; exact q
  frzs := fun b u xs q => by rw [upd_ne (ne_of_none q hn)]; exact q
  tbls := fun b ps q => ⟨#[], by rw [upd_ne (ne_of_none q hn), q]; simp⟩
theorem Un.write (mu : Mut (H x)) (he : e = x ∨ H e = some (.own x)) (k : ∀ b u, b ≠ e → h.get? b = some u → h'.get? b = some u) (heo : ∃ u, h'.get? e = some u) : Un fs ex H (upd H x o) h h' := by
  have hx : ∀ b, H b = none → b ≠ x := fun b n z => by subst z; rw [n] at mu; exact mu
  have hb : ∀ b, H b = none → b ≠ e := fun b n z => by
    subst z
    rcases he with r | r
    · exact hx b n r
    · rw [n] at r; cases r
  have hm : ∀ b u, H b = some u → ¬ Mut (some u) → b ≠ x := fun b u q nm z => by subst z; rw [q] at mu; exact nm mu
  refine ⟨fun b u q n _ _ => k b u (hb b n) q, fun b u q n _ _ => ⟨u.slots, k b u (hb b n) q⟩, fun b u q n _ => by rw [upd_ne (hx b n)]; exact n, fun b u q _ => ?_,
    fun b xs q => by rw [upd_ne (hm b _ q fun z => z)]; exact q, fun b u xs q => by rw [upd_ne (hm b _ q fun z => z)]; exact q, fun b ps q => ⟨#[], by rw [upd_ne (hm b _ q fun z => z), q]; simp⟩⟩
  by_cases hbe : b = e
  · subst hbe; exact heo
  · exact ⟨u, k b u hbe q⟩
end

def trk (h : Heap) (H : Hp) : List Addr := (List.range h.objs.size).filter fun a => (H a).isSome
def hidT (h : Heap) (H : Hp) : Heap := PySem.W.hideAll h (trk h H)
theorem hidT_size (h : Heap) (H : Hp) : (hidT h H).objs.size = h.objs.size := PySem.W.hideAll_size _ _
theorem hidT_get {h : Heap} {H : Hp} {b : Addr} {o : Obj} (e : h.get? b = some o) (n : H b = none) : (hidT h H).get? b = some o :=
  PySem.W.hideAll_get _ e fun hm => by
    have q : (H b).isSome = true := (List.mem_filter.mp hm).2
    rw [n] at q; simp at q
theorem of_hidT {h : Heap} {H : Hp} {b : Addr} {o : Obj} (e : (hidT h H).get? b = some o) : h.get? b = some o ∧ H b = none := by
  have e' : h.get? b = some o := PySem.W.of_hideAll (trk h H) e
  refine ⟨e', ?_⟩
  cases q : H b with
  | none => rfl
  | some x =>
    have hm : b ∈ trk h H := List.mem_filter.mpr ⟨List.mem_range.mpr (Heap.lt_size e'), by simp [q]⟩
    have z : (hidT h H).get? b = none := PySem.W.hideAll_none (trk h H) hm
    rw [z] at e; cases e

end L2

namespace L2
open PySem PySem.Spec PyProof.Rows

structure Mod (K : PySem.W.Frag) (mg : Str → Option Value) (base : Heap) : Prop where
  kin : K.In base
  glob : base.Ns mainGlobals mg
  blt : ∃ mb, base.Ns builtinsNs mb ∧ ∀ x : Str, x ≠ "__name__" → mb x = bootBuiltins x
  nolimit : base.NoLimit

structure Cx where
  prog : Program
  w : World
  K : PySem.W.Frag
  mg : Str → Option Value
  base : Heap
  A : Around
  N : List Str
  s₀ : Shared
  H₀ : Hp
  env : Env
  outer : List Env
  stack : List Env
  ex : List Addr
  fn : Str → Bool
  calm : Bool
  pn : List (Addr × Obj)
  xe : Value → Shared → Prop
def frs (l : List Env) : List Addr := l.filterMap (·.frame)
abbrev Cx.fs (X : Cx) : List Addr := frs X.outer

def Vis (sc : Scope) (x : Str) : Prop := sc.names.lookup x = some .local ∨ sc.names.lookup x = some .cell ∨ sc.names.lookup x = some .free
def Loc (sc : Scope) (x : Str) : Prop := sc.names.lookup x = some .local ∨ sc.names.lookup x = some .cell
def Look (env : Env) (h : Heap) (m : Str → Option Value) (x : Str) (u : Value) : Prop :=
  (env.kindOf x = some .local ∧ m x = some u) ∨ ((env.kindOf x = some .cell ∨ env.kindOf x = some .free) ∧ ∃ c, env.cells.lookup x = some c ∧ h.IsCell c (some u))

structure Cx.Ok (X : Cx) : Prop where
  mod : Mod X.K X.mg X.base
  kind : X.env.scope.kind = .function
  glob : X.env.globals = mainGlobals
  blt : X.env.builtins = builtinsNs
  above : X.s₀.heap.objs.size ≤ X.env.locals
  inj : ∀ x y c, X.env.cells.lookup x = some c → X.env.cells.lookup y = some c → x = y
  has : ∀ x, (X.env.kindOf x = some .cell ∨ X.env.kindOf x = some .free) → ∃ c, X.env.cells.lookup x = some c
  cab : ∀ x c, X.fn x = true → X.env.cells.lookup x = some c → X.s₀.heap.objs.size ≤ c
  hd : X.calm = true → X.A.handled = none
  frames : X.A.frames = some X.stack
  stk : X.stack = X.outer ∨ (X.stack = X.env :: X.outer ∧ X.env.frame = some X.env.locals)
  exf : ∀ b ∈ X.ex, b ≠ X.env.locals ∧ ∀ x c, X.env.cells.lookup x = some c → c ≠ b
  bs : ∀ b o, X.base.get? b = some o → X.s₀.heap.get? b = some o ∧ X.H₀ b = none
  bsz : X.base.objs.size ≤ X.s₀.heap.objs.size
  noex : ∀ b o, X.base.get? b = some o → b ∉ X.ex
  exfs : ∀ b ∈ X.ex, b ∉ X.fs
  funs : X.s₀.heap.FunFrames X.base X.outer
  frf : ∀ b ∈ X.fs, X.H₀ b = none

structure Inv (X : Cx) (pins : List (Addr × Obj)) (σ : List (Option V)) (H : Hp) (s : Shared) : Prop where
  ok : X.Ok
  os : s.os = X.s₀.os
  bare : AllBare s.gens
  base : Un X.fs X.ex X.H₀ H X.s₀.heap s.heap
  loc : ∃ m, s.heap.Ns X.env.locals m ∧ ∀ (i : Nat) (x : Str) (v : V), X.N[i]? = some x → σ[i]? = some (some v) → Vis X.env.scope x → ∃ u, RelV v u ∧ Look X.env s.heap m x u
  cell : ∀ x c, X.env.cells.lookup x = some c → ∃ v, s.heap.IsCell c v
  free : H X.env.locals = none
  freeC : ∀ x c, X.env.cells.lookup x = some c → H c = none
  pin : ∀ p ∈ X.pn ++ pins, s.heap.get? p.1 = some p.2 ∧ H p.1 = none ∧ p.1 ≠ X.env.locals ∧ p.1 ∉ X.fs ∧ ∀ v, p.2.data ≠ .cell v
  hok : HOk X.prog X.w H s.heap
  len : σ.length = X.N.length

section
variable {X : Cx} {pins : List (Addr × Obj)} {σ : List (Option V)} {H H' : Hp} {s : Shared} {h' : Heap}

theorem Cx.Ok.nofr (ok : X.Ok) {b : Addr} {o : Obj} (e : X.base.get? b = some o) : b ∉ X.fs := fun hb => by
  have := (ok.funs.mem hb).1
  rw [e] at this; cases this
theorem Inv.bs (I : Inv X pins σ H s) : ∀ b o, X.base.get? b = some o → s.heap.get? b = some o ∧ H b = none := fun b o e =>
  ⟨I.base.keep b o (I.ok.bs b o e).1 (I.ok.bs b o e).2 (I.ok.nofr e) (I.ok.noex b o e), I.base.free b o (I.ok.bs b o e).1 (I.ok.bs b o e).2 (I.ok.noex b o e)⟩
theorem Inv.bk (I : Inv X pins σ H s) : ∀ b o, X.base.get? b = some o → s.heap.get? b = some o := fun b o e => (I.bs b o e).1
theorem Inv.mod (I : Inv X pins σ H s) : Mod X.K X.mg X.base := I.ok.mod
theorem Inv.kIn (I : Inv X pins σ H s) : X.K.In s.heap := I.ok.mod.kin.keeps I.bk
theorem Inv.lt (I : Inv X pins σ H s) : X.env.locals < s.heap.objs.size := let ⟨_, hn, _⟩ := I.loc; hn.lt
theorem Inv.sz (I : Inv X pins σ H s) : X.s₀.heap.objs.size ≤ s.heap.objs.size := Nat.le_trans I.ok.above (Nat.le_of_lt I.lt)
theorem Inv.nofs (I : Inv X pins σ H s) {a : Addr} (h : s.heap.objs.size ≤ a) : a ∉ X.fs := fun hb => by
  obtain ⟨_, o, ho, _⟩ := I.ok.funs.mem hb
  exact absurd (Nat.lt_of_lt_of_le (Heap.lt_size ho) (Nat.le_trans I.sz h)) (Nat.lt_irrefl _)
theorem Inv.cne (I : Inv X pins σ H s) : ∀ x c, X.env.cells.lookup x = some c → c ≠ X.env.locals := fun x c e z => by
  obtain ⟨v, o, ho, hd⟩ := I.cell x c e
  obtain ⟨m, ⟨o', es, ep, ho', hd', _⟩, _⟩ := I.loc
  rw [z, ho'] at ho; cases ho; rw [hd'] at hd; cases hd
theorem Inv.funs (I : Inv X pins σ H s) : s.heap.FunFrames X.base X.outer := by
  have all : ∀ (l : List Env), (∀ b ∈ frs l, b ∈ X.fs) → X.s₀.heap.FunFrames X.base l → s.heap.FunFrames X.base l := by
    intro l
    induction l with
    | nil => intro _ _; trivial
    | cons env r ih =>
      intro hs hl
      obtain ⟨hk, ⟨L, o, hf, hn, ho, hd⟩, hr⟩ := hl
      have hL : L ∈ X.fs := hs L (by unfold frs; rw [List.filterMap_cons, hf]; exact List.mem_cons_self)
      obtain ⟨sl, e⟩ := I.base.slot L o ho (I.ok.frf L hL) hL fun z => I.ok.exfs L z hL
      exact ⟨hk, ⟨L, _, hf, hn, e, hd⟩, ih (fun b hb => hs b (by unfold frs; rw [List.filterMap_cons, hf]; exact List.mem_cons_of_mem _ hb)) hr⟩
  exact all X.outer (fun _ hb => hb) I.ok.funs

theorem Inv.stack (I : Inv X pins σ H s) : s.heap.FunFrames X.base X.stack := by
  rcases I.ok.stk with e | ⟨e, hf⟩
  · rw [e]; exact I.funs
  · rw [e]
    obtain ⟨m, hn, _⟩ := I.loc
    refine .cons (by rw [I.ok.kind]; decide) hf hn ?_ I.funs
    exact Heap.get?_none_of_le (Nat.le_trans I.ok.bsz I.ok.above)
theorem Inv.stkSub (I : Inv X pins σ H s) : ∀ b ∈ frs X.stack, b ∈ X.env.locals :: X.fs := fun b hb => by
  rcases I.ok.stk with e | ⟨e, hf⟩
  · rw [e] at hb; exact List.mem_cons_of_mem _ hb
  · rw [e] at hb
    unfold frs at hb
    rw [List.filterMap_cons, hf] at hb
    exact hb
theorem Inv.stkFree (I : Inv X pins σ H s) : ∀ b ∈ frs X.stack, H b = none := fun b hb => by
  rcases List.mem_cons.mp (I.stkSub b hb) with e | hb
  · rw [e]; exact I.free
  · obtain ⟨_, o, ho, _⟩ := I.ok.funs.mem hb
    exact I.base.free b o ho (I.ok.frf b hb) fun z => I.ok.exfs b z hb

theorem Inv.step {g' : Array GenState} {t' : Nat} {d' : Drawn} {ch : List Addr} (I : Inv X pins σ H s)
    (hch : ∀ b ∈ ch, (b ∈ X.ex ∨ X.s₀.heap.objs.size ≤ b) ∧ b ≠ X.env.locals ∧ (∀ x c, X.env.cells.lookup x = some c → c ≠ b) ∧ ∀ p ∈ X.pn ++ pins, p.1 ≠ b)
    (keep : ∀ b o, b ≠ X.env.locals → b ∉ X.fs → b ∉ ch → s.heap.get? b = some o → H b = none → h'.get? b = some o)
    (slot : ∀ b o, b ≠ X.env.locals → b ∈ X.fs → b ∉ ch → s.heap.get? b = some o → H b = none → ∃ sl, h'.get? b = some { o with slots := sl }) (free : ∀ b o, b ∉ ch → s.heap.get? b = some o → H b = none → H' b = none)
    (there : ∀ b o, b ∉ ch → s.heap.get? b = some o → ∃ o', h'.get? b = some o')
    (tups : ∀ b xs, H b = some (.tup xs) → H' b = some (.tup xs)) (frzs : ∀ b o u, H b = some (.frz o u) → H' b = some (.frz o u)) (tbls : ∀ b ps, H b = some (.tbl ps) → ∃ more, H' b = some (.tbl (ps ++ more)))
    (ns : ∀ m, s.heap.Ns X.env.locals m → h'.Ns X.env.locals m) (hok : HOk X.prog X.w H' h') (hg : AllBare g') :
    Inv X pins σ H' { s with heap := h', gens := g', drawn := d', toks := t' } := by
  have neL : ∀ b o, X.s₀.heap.get? b = some o → b ≠ X.env.locals := fun b o e => Nat.ne_of_lt (Nat.lt_of_lt_of_le (Heap.lt_size e) I.ok.above)
  have neC : ∀ b o, X.s₀.heap.get? b = some o → b ∉ X.ex → b ∉ ch := fun b o e hx hb => by
    rcases (hch b hb).1 with z | z
    · exact hx z
    · exact absurd (Nat.lt_of_lt_of_le (Heap.lt_size e) z) (Nat.lt_irrefl _)
  have cellK : ∀ x c, X.env.cells.lookup x = some c → ∀ v, s.heap.IsCell c v → h'.IsCell c v := fun x c e v ⟨o, ho, hd⟩ => by
    have nch : c ∉ ch := fun z => (hch c z).2.2.1 x c e rfl
    by_cases hc : c ∈ X.fs
    · obtain ⟨sl, q⟩ := slot c o (I.cne x c e) hc nch ho (I.freeC x c e)
      exact ⟨_, q, hd⟩
    · exact ⟨o, keep c o (I.cne x c e) hc nch ho (I.freeC x c e), hd⟩
  refine ⟨I.ok, I.os, hg, ⟨fun b o e n hb hx => ?_, fun b o e n hb hx => ?_, fun b o e n hx => ?_, fun b o e hx => ?_, fun b xs e => tups b xs (I.base.tups b xs e), fun b o xs e => frzs b o xs (I.base.frzs b o xs e), fun b ps e => ?_⟩, ?_, fun x c e => ?_, ?_, fun x c e => ?_, fun p hp => ?_, hok, I.len⟩
  · exact keep b o (neL b o e) hb (neC b o e hx) (I.base.keep b o e n hb hx) (I.base.free b o e n hx)
  · obtain ⟨sl, e1⟩ := I.base.slot b o e n hb hx
    obtain ⟨sl', e2⟩ := slot b _ (neL b o e) hb (neC b o e hx) e1 (I.base.free b o e n hx)
    exact ⟨sl', e2⟩
  · obtain ⟨o', e1⟩ := I.base.there b o e hx
    exact free b o' (neC b o e hx) e1 (I.base.free b o e n hx)
  · obtain ⟨o', e1⟩ := I.base.there b o e hx
    exact there b o' (neC b o e hx) e1
  · obtain ⟨m1, e1⟩ := I.base.tbls b ps e
    obtain ⟨m2, e2⟩ := tbls b _ e1
    exact ⟨m1 ++ m2, by rw [e2, Array.append_assoc]⟩
  · obtain ⟨m, hn, hl⟩ := I.loc
    refine ⟨m, ns m hn, fun i x v e1 e2 e3 => ?_⟩
    obtain ⟨u, r, l⟩ := hl i x v e1 e2 e3
    refine ⟨u, r, ?_⟩
    rcases l with l | ⟨k, c, e, z⟩
    · exact .inl l
    · exact .inr ⟨k, c, e, cellK x c e _ z⟩
  · obtain ⟨v, z⟩ := I.cell x c e
    exact ⟨v, cellK x c e v z⟩
  · obtain ⟨m, ⟨o, _, _, ho, _⟩, _⟩ := I.loc
    exact free _ o (fun z => (hch _ z).2.1 rfl) ho I.free
  · obtain ⟨v, o, ho, hd⟩ := I.cell x c e
    exact free c o (fun z => (hch c z).2.2.1 x c e rfl) ho (I.freeC x c e)
  · obtain ⟨e, n, ne, nf, d⟩ := I.pin p hp
    have nch : p.1 ∉ ch := fun z => (hch p.1 z).2.2.2 p hp rfl
    exact ⟨keep p.1 p.2 ne nf nch e n, free p.1 p.2 nch e n, ne, nf, d⟩
theorem Inv.un {t' : Nat} (I : Inv X pins σ H s) (u : Un X.fs [] H H' s.heap h') (hok : HOk X.prog X.w H' h') : Inv X pins σ H' { s with heap := h', toks := t' } := by
  obtain ⟨m, ⟨o, es, ep, ho, r⟩, _⟩ := id I.loc
  obtain ⟨sl, hL⟩ := u.any ho I.free (by simp)
  exact I.step (g' := s.gens) (d' := s.drawn) (ch := []) (fun _ z => nomatch z) (fun b o _ hb _ e n => u.keep b o e n hb (by simp)) (fun b o _ hb _ e n => u.slot b o e n hb (by simp)) (fun b o _ e n => u.free b o e n (by simp)) (fun b o _ e => u.there b o e (by simp)) u.tups u.frzs u.tbls (fun m' hm => by
    obtain ⟨o', es', ep', ho', r'⟩ := hm
    rw [ho] at ho'; cases ho'
    exact ⟨_, es', ep', hL, r'⟩) hok I.bare
theorem Inv.call {g' : Array GenState} {t' : Nat} {d' : Drawn} {ch : List Addr} (I : Inv X pins σ H s) (u : Un (frs X.stack) ch H H' s.heap h') (hok : HOk X.prog X.w H' h') (hg : AllBare g')
    (hch : ∀ b ∈ ch, (b ∈ X.ex ∨ X.s₀.heap.objs.size ≤ b) ∧ b ≠ X.env.locals ∧ (∀ x c, X.env.cells.lookup x = some c → c ≠ b) ∧ ∀ p ∈ X.pn ++ pins, p.1 ≠ b) :
    Inv X pins σ H' { s with heap := h', gens := g', drawn := d', toks := t' } := by
  obtain ⟨m, ⟨o, es, ep, ho, r⟩, _⟩ := id I.loc
  obtain ⟨sl, hL⟩ := u.any ho I.free fun z => (hch _ z).2.1 rfl
  exact I.step (ch := ch) hch (fun b o hL hb hc e n => u.keep b o e n (fun z => (List.mem_cons.mp (I.stkSub b z)).elim hL hb) hc) (fun b o _ _ hc e n => u.any e n hc) (fun b o hc e n => u.free b o e n hc) (fun b o hc e => u.there b o e hc) u.tups u.frzs u.tbls (fun m' hm => by
    obtain ⟨o', es', ep', ho', r'⟩ := hm
    rw [ho] at ho'; cases ho'
    exact ⟨_, es', ep', hL, r'⟩) hok hg
theorem Inv.turned {t' : Nat} {it : Addr} (I : Inv X pins σ H s) (k : ∀ b o, b ≠ it → s.heap.get? b = some o → h'.get? b = some o) (hn : H it = none) (hL : it ≠ X.env.locals)
    (h1 : it ∈ X.ex ∨ X.s₀.heap.objs.size ≤ it) (h2 : ∀ x c, X.env.cells.lookup x = some c → c ≠ it) (h3 : ∀ p ∈ X.pn ++ pins, p.1 ≠ it) : Inv X pins σ H { s with heap := h', toks := t' } := by
  have nit : ∀ b u, H b = some u → b ≠ it := fun b u e z => by rw [z, hn] at e; cases e
  refine I.step (g' := s.gens) (d' := s.drawn) (ch := [it]) (fun b hb => ?_) (fun b o _ _ hc e _ => k b o (fun z => hc (by simp [z])) e) (fun b o _ _ hc e _ => ⟨o.slots, k b o (fun z => hc (by simp [z])) e⟩) (fun _ _ _ _ n => n)
    (fun b o hc e => ⟨o, k b o (fun z => hc (by simp [z])) e⟩) (fun _ _ e => e) (fun _ _ _ e => e) (fun b ps e => ⟨#[], by rw [e]; simp⟩) (fun m hm => ?_) (fun b u e => ?_) I.bare
  · have e : b = it := by simpa using hb
    subst e
    exact ⟨h1, hL, h2, h3⟩
  · obtain ⟨o, es, ep, ho, r⟩ := hm
    exact ⟨o, es, ep, k _ o (Ne.symm hL) ho, r⟩
  · refine (I.hok b u e).stay (fun c v hc q => k c v ?_ q) (fun _ q => q) fun _ _ q => q
    rcases hc with z | z
    · rw [z]; exact nit b u e
    · exact nit c _ z
theorem Inv.tok (I : Inv X pins σ H s) (t : Nat) : Inv X pins σ H { s with toks := t } := I.un (h' := s.heap) (t' := t) Un.refl I.hok
theorem Inv.kept {t' : Nat} (I : Inv X pins σ H s) (k : ∀ b u, s.heap.get? b = some u → h'.get? b = some u) : Inv X pins σ H { s with heap := h', toks := t' } := I.un (Un.kept k) (I.hok.kept k)
theorem Inv.laid {a : Addr} {o : HO} {t' : Nat} (I : Inv X pins σ H s) (k : ∀ b u, s.heap.get? b = some u → h'.get? b = some u) (hp : s.heap.objs.size ≤ a) (new : ObjOk X.prog X.w (upd H a o) h' a o) :
    Inv X pins σ (upd H a o) { s with heap := h', toks := t' } := I.un (Un.laid k hp (I.hok.fresh hp)) (I.hok.laid k hp new)
theorem Inv.write {x e : Addr} {o : HO} {t' : Nat} (I : Inv X pins σ H s) (mu : Mut (H x)) (he : e = x ∨ H e = some (.own x)) (k : ∀ b u, b ≠ e → s.heap.get? b = some u → h'.get? b = some u) (heo : ∃ u, h'.get? e = some u)
    (new : ObjOk X.prog X.w (upd H x o) h' x o) : Inv X pins σ (upd H x o) { s with heap := h', toks := t' } := I.un (Un.write mu he k heo) (I.hok.write mu he k heo new)
theorem Inv.pins_of {pins' : List (Addr × Obj)} (I : Inv X pins σ H s) (h : ∀ p ∈ pins', s.heap.get? p.1 = some p.2 ∧ H p.1 = none ∧ p.1 ≠ X.env.locals ∧ p.1 ∉ X.fs ∧ ∀ v, p.2.data ≠ .cell v) : Inv X pins' σ H s :=
  ⟨I.ok, I.os, I.bare, I.base, I.loc, I.cell, I.free, I.freeC, fun p hp => (List.mem_append.mp hp).elim (fun z => I.pin p (List.mem_append_left _ z)) (h p), I.hok, I.len⟩

theorem nodup_ix {N : List Str} (hN : N.Nodup) {i j : Nat} {x : Str} (a : N[i]? = some x) (b : N[j]? = some x) : i = j := by
  obtain ⟨h1, e1⟩ := List.getElem?_eq_some_iff.mp a
  obtain ⟨h2, e2⟩ := List.getElem?_eq_some_iff.mp b
  exact (List.getElem_inj hN).mp (e1.trans e2.symm)

theorem store_ok2 {M : Model} {A : Around} {E : Value → Shared → Prop} {i : Nat} {x : Str} {v : V} {u : Value} {Q : Unit → Shared → Prop} (I : Inv X pins σ H s) (hN : X.N.Nodup) (hi : X.N[i]? = some x) (hx : Loc X.env.scope x) (r : RelV v u)
    (h : ∀ s', Inv X pins (σ.set i (some v)) H s' → (∃ a, Heap.SameBut a s.heap s'.heap ∧ (a = X.env.locals ∨ X.env.cells.lookup x = some a)) → Q () s') (hf : X.fn x = true ∨ X.env.scope.names.lookup x = some .local := by first | exact .inl rfl | exact .inr rfl | assumption) : wpAny M A (storeName X.env x u) Q E s := by
  obtain ⟨m, hn, hl⟩ := id I.loc
  have hcls : (X.env.scope.kind == .class || (X.env.scope.kind == .module && X.env.locals != X.env.globals)) = false := by rw [I.ok.kind]; rfl
  have hiσ : i < σ.length := by rw [I.len]; exact (List.getElem?_eq_some_iff.mp hi).1
  have cne := I.cne
  have tracked : ∀ {a : Addr} {h' : Heap}, (∃ o, s.heap.get? a = some o ∧ H a = none) → Heap.SameBut a s.heap h' → HOk X.prog X.w H h' := fun {a h'} ha hs b ob e => by
    obtain ⟨_, _, hfree⟩ := ha
    refine (I.hok b ob e).stay (fun c w' hc q => (hs.2 c ?_).trans q) (fun _ q => q) fun _ _ q => q
    rintro rfl
    rcases hc with rfl | hc
    · rw [hfree] at e; cases e
    · rw [hfree] at hc; cases hc
  rcases hx with hk | hk
  · refine wpAny_storeName_local hk hn (fun h' hn' hs => ?_) hcls
    obtain ⟨oL, _, _, hoL, _⟩ := id hn
    refine h _ ⟨I.ok, I.os, I.bare, ⟨fun b o e n hb hx => ?_, fun b o e n hb hx => ?_, I.base.free, fun b o e hx => ?_, I.base.tups, I.base.frzs, I.base.tbls⟩, ⟨_, hn', fun j y v' e1 e2 e3 => ?_⟩, fun y c e => ?_, I.free, I.freeC, fun p hp => ?_, tracked ⟨oL, hoL, I.free⟩ hs, by simpa using I.len⟩ ⟨_, hs, .inl rfl⟩
    · exact (hs.2 b (Nat.ne_of_lt (Nat.lt_of_lt_of_le (Heap.lt_size e) I.ok.above))).trans (I.base.keep b o e n hb hx)
    · obtain ⟨sl, e1⟩ := I.base.slot b o e n hb hx
      exact ⟨sl, (hs.2 b (Nat.ne_of_lt (Nat.lt_of_lt_of_le (Heap.lt_size e) I.ok.above))).trans e1⟩
    · obtain ⟨o', e1⟩ := I.base.there b o e hx
      exact ⟨o', (hs.2 b (Nat.ne_of_lt (Nat.lt_of_lt_of_le (Heap.lt_size e) I.ok.above))).trans e1⟩
    · by_cases hj : j = i
      · subst hj
        rw [hi] at e1; cases e1
        rw [List.getElem?_set_self hiσ] at e2
        cases e2
        exact ⟨u, r, .inl ⟨hk, by simp⟩⟩
      · rw [List.getElem?_set_ne (Ne.symm hj)] at e2
        obtain ⟨u', r', q⟩ := hl j y v' e1 e2 e3
        refine ⟨u', r', ?_⟩
        rcases q with ⟨k, e⟩ | ⟨k, c, e, z⟩
        · refine .inl ⟨k, ?_⟩
          have : y ≠ x := fun e => hj (nodup_ix hN e1 (e ▸ hi))
          simp [this, e]
        · exact .inr ⟨k, c, e, z.sameBut hs (cne y c e)⟩
    · obtain ⟨w', z⟩ := I.cell y c e
      exact ⟨w', z.sameBut hs (cne y c e)⟩
    · obtain ⟨e, n, ne, nf, d⟩ := I.pin p hp
      exact ⟨(hs.2 p.1 ne).trans e, n, ne, nf, d⟩
  · have hfn : X.fn x = true := by
      rcases hf with z | z
      · exact z
      · rw [z] at hk; cases hk
    obtain ⟨c, hc⟩ := I.ok.has x (.inl hk)
    obtain ⟨w', z⟩ := I.cell x c hc
    refine wpAny_storeName_cell I.ok.kind hk hc z (fun h' hc' hs => ?_)
    obtain ⟨oc, hoc, hocd⟩ := id z
    refine h { s with heap := h' } ⟨I.ok, I.os, I.bare, ⟨fun b o e n hb hx => ?_, fun b o e n hb hx => ?_, I.base.free, fun b o e hx => ?_, I.base.tups, I.base.frzs, I.base.tbls⟩, ⟨m, hn.sameBut hs (Ne.symm (cne x c hc)), fun j y v' e1 e2 e3 => ?_⟩, fun y c' e => ?_, I.free, I.freeC, fun p hp => ?_, tracked ⟨oc, hoc, I.freeC x c hc⟩ hs, by simpa using I.len⟩ ⟨c, hs, .inr hc⟩
    · exact (hs.2 b (Nat.ne_of_lt (Nat.lt_of_lt_of_le (Heap.lt_size e) (I.ok.cab x c hfn hc)))).trans (I.base.keep b o e n hb hx)
    · obtain ⟨sl, e1⟩ := I.base.slot b o e n hb hx
      exact ⟨sl, (hs.2 b (Nat.ne_of_lt (Nat.lt_of_lt_of_le (Heap.lt_size e) (I.ok.cab x c hfn hc)))).trans e1⟩
    · obtain ⟨o', e1⟩ := I.base.there b o e hx
      exact ⟨o', (hs.2 b (Nat.ne_of_lt (Nat.lt_of_lt_of_le (Heap.lt_size e) (I.ok.cab x c hfn hc)))).trans e1⟩
    · by_cases hj : j = i
      · subst hj
        rw [hi] at e1; cases e1
        rw [List.getElem?_set_self hiσ] at e2
        cases e2
        exact ⟨u, r, .inr ⟨.inl hk, c, hc, hc'⟩⟩
      · rw [List.getElem?_set_ne (Ne.symm hj)] at e2
        obtain ⟨u', r', q⟩ := hl j y v' e1 e2 e3
        refine ⟨u', r', ?_⟩
        rcases q with q | ⟨k, c', e, z'⟩
        · exact .inl q
        · refine .inr ⟨k, c', e, z'.sameBut hs ?_⟩
          rintro rfl
          exact hj (nodup_ix hN e1 (I.ok.inj _ _ _ e hc ▸ hi))
    · by_cases hcc : c' = c
      · subst hcc; exact ⟨_, hc'⟩
      · obtain ⟨w2, z2⟩ := I.cell y c' e
        exact ⟨w2, z2.sameBut hs hcc⟩
    · obtain ⟨e, n, ne, nf, d⟩ := I.pin p hp
      refine ⟨(hs.2 p.1 ?_).trans e, n, ne, nf, d⟩
      intro q
      rw [q, hoc] at e
      have q' : oc = p.2 := Option.some.inj e
      exact d w' (by rw [← q']; exact hocd)
theorem store_ok {M : Model} {A : Around} {E : Value → Shared → Prop} {i : Nat} {x : Str} {v : V} {u : Value} {Q : Unit → Shared → Prop} (I : Inv X pins σ H s) (hN : X.N.Nodup) (hi : X.N[i]? = some x) (hx : Loc X.env.scope x) (r : RelV v u)
    (h : ∀ s', Inv X pins (σ.set i (some v)) H s' → Q () s') (hf : X.fn x = true ∨ X.env.scope.names.lookup x = some .local := by first | exact .inl rfl | exact .inr rfl | assumption) : wpAny M A (storeName X.env x u) Q E s :=
  store_ok2 I hN hi hx r (fun s' I' _ => h s' I') hf
theorem Inv.call' {s' : Shared} {ch : List Addr} (I : Inv X pins σ H s) (ho : s'.os = s.os) (u : Un (frs X.stack) ch H H' s.heap s'.heap) (hok : HOk X.prog X.w H' s'.heap) (hg : AllBare s'.gens)
    (hch : ∀ b ∈ ch, (b ∈ X.ex ∨ X.s₀.heap.objs.size ≤ b) ∧ b ≠ X.env.locals ∧ (∀ x c, X.env.cells.lookup x = some c → c ≠ b) ∧ ∀ p ∈ X.pn ++ pins, p.1 ≠ b) : Inv X pins σ H' s' := by
  obtain ⟨h', g', d', t', o'⟩ := s'
  have e : o' = s.os := ho
  subst e
  exact I.call (g' := g') (t' := t') (d' := d') u hok hg hch
end

abbrev XK := Value → Option Addr → Hp → Prop
abbrev St := List (Option V)
abbrev VK := V → Hp → Prop
abbrev TE := St → Hp → VK → Prop
abbrev TT := St → Hp → (Bool → Hp → Prop) → Prop
abbrev TA := St → Hp → (List V → Hp → Prop) → Prop
structure Ends where
  nx : St → Hp → Prop
  rt : VK
  bk : St → Hp → Prop := fun _ _ => False
  ct : St → Hp → Prop := fun _ _ => False
abbrev TS := Ends → St → Hp → Prop

def EP (X : Cx) (pins : List (Addr × Obj)) (σ : St) (Q : VK) (u : Value) (s' : Shared) : Prop := ∃ v H', Inv X pins σ H' s' ∧ RelV v u ∧ Q v H'
def TP (X : Cx) (pins : List (Addr × Obj)) (σ : St) (Q : Bool → Hp → Prop) (b : Bool) (s' : Shared) : Prop := ∃ H', Inv X pins σ H' s' ∧ Q b H'
def AP (X : Cx) (pins : List (Addr × Obj)) (σ : St) (Q : List V → Hp → Prop) (us : List Value) (s' : Shared) : Prop := ∃ vs H', Inv X pins σ H' s' ∧ Vals vs us ∧ Q vs H'
def SP (X : Cx) (pins : List (Addr × Obj)) (D : Ends) (f : Flow) (s' : Shared) : Prop :=
  match f with
  | .next => ∃ σ' H', Inv X pins σ' H' s' ∧ D.nx σ' H'
  | .brk => ∃ σ' H', Inv X pins σ' H' s' ∧ D.bk σ' H'
  | .cont => ∃ σ' H', Inv X pins σ' H' s' ∧ D.ct σ' H'
  | .ret u => ∃ v σ' H', Inv X pins σ' H' s' ∧ RelV v u ∧ D.rt v H'

def PE (X : Cx) (e : Expr) (t : TE) : Prop :=
  ∀ (pins : List (Addr × Obj)) (s : Shared) (σ : St) (H : Hp) (Q : VK), Inv X pins σ H s → t σ H Q → wpAny (model X.prog X.w) X.A (eval e X.env) (EP X pins σ Q) X.xe s
def PT (X : Cx) (e : Expr) (t : TT) : Prop :=
  ∀ (pins : List (Addr × Obj)) (s : Shared) (σ : St) (H : Hp) (Q : Bool → Hp → Prop), Inv X pins σ H s → t σ H Q → wpAny (model X.prog X.w) X.A (isTrue e X.env (eval e X.env)) (TP X pins σ Q) X.xe s
def PW (X : Cx) (e : Expr) (t : TT) : Prop :=
  ∀ (whole : Sem Value) (pins : List (Addr × Obj)) (s : Shared) (σ : St) (H : Hp) (Q : Bool → Hp → Prop), Inv X pins σ H s → t σ H Q → wpAny (model X.prog X.w) X.A (isTrue e X.env whole) (TP X pins σ Q) X.xe s
theorem PW.pt {X : Cx} {e : Expr} {t : TT} (h : PW X e t) : PT X e t := h _
def PA (X : Cx) (es : List Expr) (t : TA) : Prop :=
  ∀ (pos : Pos) (pins : List (Addr × Obj)) (s : Shared) (σ : St) (H : Hp) (Q : List V → Hp → Prop), Inv X pins σ H s → t σ H Q → wpAny (model X.prog X.w) X.A (spliced (backTo pos (starEach es X.env))) (AP X pins σ Q) X.xe s
def PS (X : Cx) (st : Stmt) (t : TS) : Prop :=
  ∀ (pins : List (Addr × Obj)) (s : Shared) (σ : St) (H : Hp) (D : Ends), Inv X pins σ H s → t D σ H → wpAny (model X.prog X.w) X.A (exec st X.env) (SP X pins D) X.xe s
def PSs (X : Cx) (st : List Stmt) (t : TS) : Prop :=
  ∀ (pins : List (Addr × Obj)) (s : Shared) (σ : St) (H : Hp) (D : Ends), Inv X pins σ H s → t D σ H → wpAny (model X.prog X.w) X.A (execs st X.env) (SP X pins D) X.xe s
theorem thn {α : Type} {t : Sem α} {Q Q' : α → Shared → Prop} {M : Model} {A : Around} {E : Value → Shared → Prop} {s : Shared} (h : wpAny M A t Q E s) (hQ : ∀ a s, Q a s → Q' a s) : wpAny M A t Q' E s := wpAny_mono h hQ fun _ _ x => x
end L2

namespace L2
open PySem PySem.Spec PyProof.Rows
section
variable {X : Cx}

theorem bin {a b : Expr} {ta tb : TE} (ha : PE X a ta) (hb : PE X b tb) {pins : List (Addr × Obj)} {s : Shared} {σ : St} {H : Hp} {R : V → V → Hp → Prop} (I : Inv X pins σ H s) (h : ta σ H fun x H1 => tb σ H1 fun y H2 => R x y H2)
    {α : Type} {Q : α → Shared → Prop} {f : Value → Value → Sem α}
    (hf : ∀ v u s2 x y H2, Inv X pins σ H2 s2 → RelV x v → RelV y u → R x y H2 → wpAny (model X.prog X.w) X.A (f v u) Q X.xe s2) :
    wpAny (model X.prog X.w) X.A (eval a X.env) (fun v s₁ => wpAny (model X.prog X.w) X.A (eval b X.env) (fun u s₂ => wpAny (model X.prog X.w) X.A (f v u) Q X.xe s₂) X.xe s₁) X.xe s := by
  refine thn (ha pins s σ H _ I h) fun v s1 ⟨x, H1, I1, r1, q1⟩ => ?_
  refine thn (hb pins s1 σ H1 _ I1 q1) fun u s2 ⟨y, H2, I2, r2, q2⟩ => ?_
  exact hf v u s2 x y H2 I2 r1 r2 q2

def tVar (i : Nat) : TE := fun σ H Q => ∃ v, σ[i]? = some (some v) ∧ Q v H
def tC (v : V) : TE := fun _ H Q => Q v H
theorem pe_var {i : Nat} {x : Str} {pos : Pos} (hN : X.N[i]? = some x) (hv : Vis X.env.scope x) (hd : (x == ("__debug__" : Str)) = false := by decide) (hcd : (x == ("__classdict__" : Str)) = false := by decide) : PE X (.Name x pos) (tVar i) := by
  intro pins s σ H Q I h
  obtain ⟨v, e, h⟩ := h
  obtain ⟨m, hn, hl⟩ := I.loc
  obtain ⟨u, r, l⟩ := hl i x v hN e hv
  have fin : EP X pins σ Q u s := ⟨v, H, I, r, h⟩
  rcases l with ⟨hk, hm⟩ | ⟨hk, c, hc, hcell⟩
  · exact wpAny_Name (wpAny_loadName_local I.ok.kind hk hn hm fin) hd
  · rcases hk with hk | hk
    · exact wpAny_Name (wpAny_loadName_cell I.ok.kind hk hc hcell fin) hd
    · exact wpAny_Name (wpAny_loadName_free I.ok.kind hk hc hcell fin hcd) hd
theorem pe_int {i j pos} : PE X (.Constant (.int i) j pos) (tC (.int i)) := fun _ _ _ H _ I h => wpAny_Constant_int ⟨.int i, H, I.tok _, ⟨_, rfl⟩, h⟩
theorem pe_bl {b j pos} : PE X (.Constant (.bool b) j pos) (tC (.bl b)) := fun _ _ _ H _ I h => Constant_bool ⟨.bl b, H, I, rfl, h⟩
theorem pe_non {j pos} : PE X (.Constant .none j pos) (tC .non) := fun _ _ _ H _ I h => Constant_none ⟨.non, H, I, rfl, h⟩
theorem pe_str {x j pos} : PE X (.Constant (.str x) j pos) (tC (.str x)) := fun _ _ _ H _ I h => Calls.Constant_str ⟨.str x, H, I.tok _, ⟨_, rfl⟩, h⟩

def Gl (X : Cx) (x : Str) : Prop := X.env.kindOf x = some .globalImplicit
theorem ld_glob {E : Value → Shared → Prop} {pins : List (Addr × Obj)} {s : Shared} {σ : St} {H : Hp} {x : Str} {u : Value} {pos : Pos} {Q : Value → Shared → Prop} (I : Inv X pins σ H s) (hg : Gl X x) (hm : X.mg x = some u) (h : Q u s)
    (hd : (x == ("__debug__" : Str)) = false := by decide) : wpAny (model X.prog X.w) X.A (eval (.Name x pos) X.env) Q E s :=
  Calls.Name_function_global I.ok.kind hg (Calls.loadGlobal_global (by rw [I.ok.glob]; exact I.mod.glob.keeps I.bk) hm h) hd
theorem ld_blt {E : Value → Shared → Prop} {pins : List (Addr × Obj)} {s : Shared} {σ : St} {H : Hp} {x : Str} {u : Value} {pos : Pos} {Q : Value → Shared → Prop} (I : Inv X pins σ H s) (hg : Gl X x) (hm : X.mg x = none) (hv : bootBuiltins x = some u) (h : Q u s)
    (hn : x ≠ "__name__" := by decide) (hd : (x == ("__debug__" : Str)) = false := by decide) : wpAny (model X.prog X.w) X.A (eval (.Name x pos) X.env) Q E s := by
  obtain ⟨mb, h1, h2⟩ := I.mod.blt
  exact Calls.Name_function_global I.ok.kind hg (Calls.loadGlobal_builtin (by rw [I.ok.glob]; exact I.mod.glob.keeps I.bk) hm (by rw [I.ok.blt]; exact h1.keeps I.bk) ((h2 x hn).trans hv) h) hd
variable {a b : Expr} {ta tb : TE} {pos : Pos}
def PC (X : Cx) (op : CmpOp) (a b : Expr) (t : TE) : Prop :=
  ∀ (pins : List (Addr × Obj)) (s : Shared) (σ : St) (H : Hp) (Q : VK), Inv X pins σ H s → t σ H Q →
    wpAny (model X.prog X.w) X.A (eval a X.env) (fun v s₁ => wpAny (model X.prog X.w) X.A (eval b X.env) (fun u s₂ => wpAny (model X.prog X.w) X.A (compareOp op v u) (EP X pins σ Q) X.xe s₂) X.xe s₁) X.xe s
def tB (t : TE) : TT := fun σ H Q => t σ H fun x H1 => ∃ c, x = .bl c ∧ Q c H1
theorem pt_cmp {op : CmpOp} {t : TE} (h : PC X op a b t) (h1 : behindInMarks op b = false := by first | exact nobehind _ (by decide) (by decide) | rfl) : PT X (.Compare a [op] [b] pos) (tB t) := by
  intro pins s σ H Q I hw
  refine wpAny_isTrue_Compare1 (thn (h pins s σ H _ I hw) fun v s1 h1 => thn h1 fun u s2 h2 => thn h2 fun c s3 ⟨x, H1, I1, r1, q1⟩ => ?_) h1
  obtain ⟨d, rfl, q⟩ := q1
  cases r1
  exact wpAny_truthy_bool ⟨H1, I1, q⟩
theorem pt_val {e : Expr} {t : TE} (h : PE X e t) (he : ∀ whole, isTrue e X.env whole = (do let v ← whole; standAt e.pos; holding [v] (truthy v)) := by intro _; rfl) : PT X e (tB t) := by
  intro pins s σ H Q I hw
  refine isTrue_plain (thn (h pins s σ H _ I hw) fun v s1 ⟨x, H1, I1, r1, q1⟩ => ?_) (he _)
  obtain ⟨d, rfl, q⟩ := q1
  cases r1
  exact wpAny_truthy_bool ⟨H1, I1, q⟩

variable {tA tB' : TT} {rest : List Expr}
def tAnd (t u : TT) : TT := fun σ H Q => t σ H fun c H1 => if c = true then u σ H1 Q else Q false H1
def tOr (t u : TT) : TT := fun σ H Q => t σ H fun c H1 => if c = true then Q true H1 else u σ H1 Q
def tNot (t : TT) : TT := fun σ H Q => t σ H fun c H1 => Q (!c) H1
theorem pw_and1 (ha : PT X a tA) : PW X (.BoolOp .And [a] pos) tA := by
  intro wh pins s σ H Q I h
  refine isTrue_and (thn (ha pins s σ H Q I h) fun c s1 e => ?_)
  cases c with
  | true => exact isTrue_and_nil e
  | false => exact e
theorem pw_or1 (ha : PT X a tA) : PW X (.BoolOp .Or [a] pos) tA := by
  intro wh pins s σ H Q I h
  refine isTrue_or (thn (ha pins s σ H Q I h) fun c s1 e => ?_)
  cases c with
  | false => exact isTrue_or_nil e
  | true => exact e
theorem pw_and (ha : PT X a tA) (hb : PW X (.BoolOp .And (b :: rest) pos) tB') : PW X (.BoolOp .And (a :: b :: rest) pos) (tAnd tA tB') := by
  intro wh pins s σ H Q I h
  refine isTrue_and (thn (ha pins s σ H _ I h) fun c s1 ⟨H1, I1, q1⟩ => ?_)
  cases c with
  | true => exact hb wh pins s1 σ H1 Q I1 q1
  | false => exact ⟨H1, I1, q1⟩
theorem pw_or (ha : PT X a tA) (hb : PW X (.BoolOp .Or (b :: rest) pos) tB') : PW X (.BoolOp .Or (a :: b :: rest) pos) (tOr tA tB') := by
  intro wh pins s σ H Q I h
  refine isTrue_or (thn (ha pins s σ H _ I h) fun c s1 ⟨H1, I1, q1⟩ => ?_)
  cases c with
  | true => exact ⟨H1, I1, q1⟩
  | false => exact hb wh pins s1 σ H1 Q I1 q1
theorem pt_not (ha : PT X a tA) : PT X (.UnaryOp .Not a pos) (tNot tA) := by
  intro pins s σ H Q I h
  exact isTrue_not (ha pins s σ H (fun c H1 => Q (!c) H1) I h)
def tAndV (ta tb : TE) : TE := fun σ H Q => ta σ H fun x H1 => ∃ c, x = .bl c ∧ if c = true then tb σ H1 Q else Q (.bl false) H1
def tNotV (ta : TE) : TE := fun σ H Q => ta σ H fun x H1 => ∃ c, x = .bl c ∧ Q (.bl (!c)) H1
theorem pe_one {op} {t : TE} (h : PE X a t) : PE X (.BoolOp op [a] pos) t := fun pins s σ H Q I hw => BoolOp_one (h pins s σ H Q I hw)
theorem pe_and (ha : PE X a ta) (hb : PE X (.BoolOp .And (b :: rest) pos) tb) : PE X (.BoolOp .And (a :: b :: rest) pos) (tAndV ta tb) := by
  intro pins s σ H Q I h
  refine BoolOp_and (thn (ha pins s σ H _ I h) fun v s1 ⟨x, H1, I1, r1, q1⟩ => ?_)
  obtain ⟨c, rfl, q1⟩ := q1
  cases r1
  refine wpAny_truthy_bool ?_
  cases c with
  | true => exact hb pins s1 σ H1 Q I1 q1
  | false => exact ⟨.bl false, H1, I1, rfl, q1⟩
theorem pe_not (ha : PE X a ta) : PE X (.UnaryOp .Not a pos) (tNotV ta) := by
  intro pins s σ H Q I h
  refine UnaryOp_ (thn (ha pins s σ H _ I h) fun v s1 ⟨x, H1, I1, r1, q1⟩ => ?_)
  obtain ⟨c, rfl, q1⟩ := q1
  cases r1
  exact not_of (wpAny_truthy_bool ⟨.bl (!c), H1, I1, rfl, q1⟩)
def tIf (t : TT) (ta tb : TE) : TE := fun σ H Q => t σ H fun c H1 => if c = true then ta σ H1 Q else tb σ H1 Q
theorem pe_ifExp {c : Expr} (hc : PT X c tA) (ha : PE X a ta) (hb : PE X b tb) : PE X (.IfExp c a b pos) (tIf tA ta tb) := by
  intro pins s σ H Q I h
  refine wpAny_IfExp (thn (hc pins s σ H _ I h) fun d s1 ⟨H1, I1, q1⟩ => ?_)
  cases d with
  | true => exact ha pins s1 σ H1 Q I1 q1
  | false => exact hb pins s1 σ H1 Q I1 q1
end
end L2

namespace L2
open PySem PySem.Spec PyProof.Rows

def SqL (K : PySem.W.Frag) (H : Hp) (a : Addr) (xs : List V) : Prop :=
  Rd H a (.lst xs) ∨
    ∃ (o : Obj) (its : Array Value) (n : Nat), K.lookup a = some o ∧ o.cls = .type "list" ∧ o.dict = none ∧ o.data = .seq its n ∧ its.size ≤ sizeLine ∧ Vals xs its.toList
def SqT (K : PySem.W.Frag) (H : Hp) (a : Addr) (xs : List V) : Prop :=
  Rd H a (.tup xs) ∨
    ∃ (o : Obj) (its : Array Value) (n : Nat), K.lookup a = some o ∧ o.cls = .type "tuple" ∧ o.data = .seq its n ∧ its.size ≤ sizeLine ∧ Vals xs its.toList
def absV : Value → Option V
  | .none => some .non
  | .bool b => some (.bl b)
  | .int i _ => some (.int i)
  | .str x _ => some (.str x)
  | .bytes b _ => some (.byt b)
  | .float b _ => some (.flt b)
  | .ref a => some (.ref a)
  | .type n => some (.ty n)
  | _ => none
theorem RelV.abs {x : V} {u : Value} (r : RelV x u) : absV u = some x := by
  cases x with
  | non => cases r; rfl
  | bl _ => cases r; rfl
  | int _ => obtain ⟨t, rfl⟩ := r; rfl
  | str _ => obtain ⟨t, rfl⟩ := r; rfl
  | byt _ => obtain ⟨t, rfl⟩ := r; rfl
  | flt _ => obtain ⟨t, rfl⟩ := r; rfl
  | ref _ => cases r; rfl
  | ty _ => cases r; rfl
theorem RelV.inj {x y : V} {u : Value} (r : RelV x u) (q : RelV y u) : x = y := Option.some.inj (r.abs.symm.trans q.abs)
theorem Vals.inj : ∀ {xs ys : List V} {us : List Value}, Vals xs us → Vals ys us → xs = ys
  | _, _, _, .nil, .nil => rfl
  | _, _, _, .cons r t, .cons r' t' => by rw [r.inj r', Vals.inj t t']
section
variable {X : Cx} {pins : List (Addr × Obj)} {σ : St} {H : Hp} {s : Shared} {a : Addr} {xs ys : List V}
theorem SqL.of {K : PySem.W.Frag} (h : H a = some (.lst xs)) : SqL K H a xs := .inl (.inl h)
theorem SqT.of {K : PySem.W.Frag} (h : H a = some (.tup xs)) : SqT K H a xs := .inl (.inl h)
theorem Inv.list (I : Inv X pins σ H s) (h : SqL X.K H a xs) : ∃ its : List Value, Vals xs its ∧ PlainL s.heap a its.toArray ∧ xs.length ≤ sizeLine := by
  rcases h with h | ⟨o, its, n, hk, hc, hd, hs, hz, r⟩
  · obtain ⟨z, its, n, r, e⟩ := h.ok I.hok
    exact ⟨its, r, ⟨_, n, e, rfl, rfl, rfl⟩, z⟩
  · refine ⟨its.toList, r, ⟨o, n, I.kIn a o hk, hc, hd, by simpa using hs⟩, ?_⟩
    have e := r.length
    simp only [Array.length_toList] at e
    omega
theorem Inv.tuple (I : Inv X pins σ H s) (h : SqT X.K H a xs) : ∃ its : List Value, Vals xs its ∧ IsTup s.heap a its.toArray ∧ xs.length ≤ sizeLine := by
  rcases h with h | ⟨o, its, n, hk, hc, hs, hz, r⟩
  · obtain ⟨z, its, r, p⟩ := h.ok I.hok
    exact ⟨its, r, p, z⟩
  · refine ⟨its.toList, r, ⟨o, I.kIn a o hk, hc, n, by simpa using hs⟩, ?_⟩
    have e := r.length
    simp only [Array.length_toList] at e
    omega
theorem Inv.list_inj (I : Inv X pins σ H s) (h : SqL X.K H a xs) (h' : SqL X.K H a ys) : xs = ys := by
  obtain ⟨its, r, ⟨o, n, e, _, _, d⟩, _⟩ := I.list h
  obtain ⟨its', r', ⟨o', n', e', _, _, d'⟩, _⟩ := I.list h'
  rw [e] at e'; cases e'
  rw [d] at d'
  injection d' with d1 _
  have : its = its' := by simpa using congrArg Array.toList d1
  subst this
  exact r.inj r'
theorem Inv.tuple_inj (I : Inv X pins σ H s) (h : SqT X.K H a xs) (h' : SqT X.K H a ys) : xs = ys := by
  obtain ⟨its, r, ⟨o, e, _, n, d⟩, _⟩ := I.tuple h
  obtain ⟨its', r', ⟨o', e', _, n', d'⟩, _⟩ := I.tuple h'
  rw [e] at e'; cases e'
  rw [d] at d'
  injection d' with d1 _
  have : its = its' := by simpa using congrArg Array.toList d1
  subst this
  exact r.inj r'
end

abbrev Cx.wish (X : Cx) (E : Value → Shared → Prop) : Cx := { X with xe := E }
abbrev Cx.nox (X : Cx) : Cx := X.wish fun _ _ => False
theorem Cx.Ok.wish {X : Cx} (ok : X.Ok) (E : Value → Shared → Prop) : (X.wish E).Ok :=
  ⟨ok.mod, ok.kind, ok.glob, ok.blt, ok.above, ok.inj, ok.has, ok.cab, ok.hd, ok.frames, ok.stk, ok.exf, ok.bs, ok.bsz, ok.noex, ok.exfs, ok.funs, ok.frf⟩
theorem Cx.Ok.unwish {X : Cx} {E : Value → Shared → Prop} (ok : (X.wish E).Ok) : X.Ok :=
  ⟨ok.mod, ok.kind, ok.glob, ok.blt, ok.above, ok.inj, ok.has, ok.cab, ok.hd, ok.frames, ok.stk, ok.exf, ok.bs, ok.bsz, ok.noex, ok.exfs, ok.funs, ok.frf⟩
section
variable {X : Cx} {pins : List (Addr × Obj)} {σ : St} {H : Hp} {s : Shared} {E : Value → Shared → Prop}
theorem Inv.wish (I : Inv X pins σ H s) (E : Value → Shared → Prop) : Inv (X.wish E) pins σ H s := ⟨I.ok.wish E, I.os, I.bare, I.base, I.loc, I.cell, I.free, I.freeC, I.pin, I.hok, I.len⟩
theorem Inv.unwish (I : Inv (X.wish E) pins σ H s) : Inv X pins σ H s := ⟨I.ok.unwish, I.os, I.bare, I.base, I.loc, I.cell, I.free, I.freeC, I.pin, I.hok, I.len⟩
theorem SP.unwish {D : Ends} {f : Flow} {s' : Shared} (h : SP (X.wish E) pins D f s') : SP X pins D f s' := by
  cases f with
  | next => obtain ⟨σ', H', I, q⟩ := h; exact ⟨σ', H', I.unwish, q⟩
  | brk => obtain ⟨σ', H', I, q⟩ := h; exact ⟨σ', H', I.unwish, q⟩
  | cont => obtain ⟨σ', H', I, q⟩ := h; exact ⟨σ', H', I.unwish, q⟩
  | ret u => obtain ⟨v, σ', H', I, r, q⟩ := h; exact ⟨v, σ', H', I.unwish, r, q⟩
theorem PSs.nox {st : List Stmt} {t : TS} (h : PSs X.nox st t) : PSs X st t := fun pins s σ H D I hw =>
  wpAny_mono (h pins s σ H D (I.wish _) hw) (fun _ _ q => q.unwish) fun _ _ z => False.elim z
end

section
variable {X : Cx} {st : Stmt} {rest : List Stmt} {t u : TS} {e : Expr} {te : TE} {pos : Pos}
def tNext : TS := fun D σ H => D.nx σ H
def tSeq (t u : TS) : TS := fun D σ H => t { D with nx := u D } σ H
theorem pss_nil : PSs X [] tNext := fun _ _ σ H _ I h => wpAny_execs_nil ⟨σ, H, I, h⟩
theorem pss_cons (h1 : PS X st t) (h2 : PSs X rest u) : PSs X (st :: rest) (tSeq t u) := by
  intro pins s σ H D I h
  refine wpAny_execs_cons (thn (h1 pins s σ H { D with nx := u D } I h) fun f s1 q => ?_)
  cases f with
  | next =>
    obtain ⟨σ', H', I', q⟩ := q
    exact h2 pins s1 σ' H' D I' q
  | ret v => exact q
  | brk => exact q
  | cont => exact q
theorem pss_one (h1 : PS X st t) : PSs X [st] t := by
  intro pins s σ H D I h
  refine wpAny_execs_cons (thn (h1 pins s σ H D I h) fun f s1 q => ?_)
  cases f with
  | next => exact wpAny_execs_nil q
  | ret v => exact q
  | brk => exact q
  | cont => exact q
theorem Inv.quiet {pins : List (Addr × Obj)} {σ : St} {H : Hp} {s : Shared} (I : Inv X pins σ H s) : interactive X.env = false := by simp [interactive, I.ok.kind]
def tDrop (te : TE) : TS := fun D σ H => te σ H fun _ H1 => D.nx σ H1
theorem ps_expr (he : PE X e te) (hs : swapsWith e none pos.line X.env = pure false := by rfl) : PS X (.Expr e pos) (tDrop te) := by
  intro pins s σ H D I h
  exact wpAny_Expr_any (thn (he pins s σ H _ I h) fun v s1 ⟨x, H1, I1, r1, q1⟩ => ⟨σ, H1, I1, q1⟩) I.quiet hs
def tRet (te : TE) : TS := fun D σ H => te σ H D.rt
theorem ps_ret (he : PE X e te) : PS X (.Return (some e) pos) (tRet te) := by
  intro pins s σ H D I h
  exact wpAny_Return_some (thn (he pins s σ H _ I h) fun v s1 ⟨x, H1, I1, r1, q1⟩ => ⟨x, σ, H1, I1, r1, q1⟩)
def tIfS (c : TT) (t u : TS) : TS := fun D σ H => c σ H fun b H1 => if b = true then t D σ H1 else u D σ H1
theorem ps_if {c : Expr} {a b : List Stmt} {tc : TT} (hc : PT X c tc) (ha : PSs X a t) (hb : PSs X b u) : PS X (.If c a b pos) (tIfS tc t u) := by
  intro pins s σ H D I h
  refine wpAny_If (thn (hc pins s σ H _ I h) fun d s1 ⟨H1, I1, q1⟩ => ?_)
  cases d with
  | true => exact ha pins s1 σ H1 D I1 q1
  | false => exact hb pins s1 σ H1 D I1 q1
end

abbrev TG := V → St → Hp → (St → Hp → Prop) → Prop
abbrev TGs := List V → St → Hp → (St → Hp → Prop) → Prop
def PG (X : Cx) (target : Expr) (t : TG) : Prop :=
  ∀ (pins : List (Addr × Obj)) (s : Shared) (σ : St) (H : Hp) (v : V) (u : Value) (Q : St → Hp → Prop), Inv X pins σ H s → RelV v u → t v σ H Q →
    wpAny (model X.prog X.w) X.A (assign target X.env u) (fun _ s' => ∃ σ' H', Inv X pins σ' H' s' ∧ Q σ' H') X.xe s
def PGs (X : Cx) (ts : List Expr) (t : TGs) : Prop :=
  ∀ (pins : List (Addr × Obj)) (s : Shared) (σ : St) (H : Hp) (vs : List V) (us : List Value) (Q : St → Hp → Prop), Inv X pins σ H s → Vals vs us → t vs σ H Q →
    wpAny (model X.prog X.w) X.A (assignInOrder ((assignEach ts X.env).map (·.2)) us) (fun _ s' => ∃ σ' H', Inv X pins σ' H' s' ∧ Q σ' H') X.xe s
abbrev TSet := V → V → V → Hp → (Hp → Prop) → Prop
def PSet (X : Cx) (t : TSet) : Prop :=
  ∀ (pins : List (Addr × Obj)) (s : Shared) (σ : St) (H : Hp) (o i v : V) (ov iv u : Value) (Q : Hp → Prop), Inv X pins σ H s → RelV o ov → RelV i iv → RelV v u → t o i v H Q →
    wpAny (model X.prog X.w) X.A (setItem ov iv u) (fun _ s' => ∃ H', Inv X pins σ H' s' ∧ Q H') X.xe s
section
variable {X : Cx} {pos : Pos}
def gName (i : Nat) : TG := fun v σ H Q => Q (σ.set i (some v)) H
theorem pg_name {i : Nat} {x : Str} (hN : X.N.Nodup) (hi : X.N[i]? = some x) (hx : Loc X.env.scope x) (hf : X.fn x = true ∨ X.env.scope.names.lookup x = some .local := by first | exact .inl rfl | exact .inr rfl | assumption) : PG X (.Name x pos) (gName i) := by
  intro pins s σ H v u Q I r h
  exact wpAny_assign_Name (store_ok I hN hi hx r (fun s' I' => ⟨_, H, I', h⟩) hf)
def gNil : TGs := fun vs σ H Q => vs = [] ∧ Q σ H
def gCons (t : TG) (u : TGs) : TGs := fun vs σ H Q => ∃ v r, vs = v :: r ∧ t v σ H fun σ' H' => u r σ' H' Q
theorem pgs_nil : PGs X [] gNil := by
  intro pins s σ H vs us Q I r h
  obtain ⟨e, h⟩ := h
  subst e
  cases r
  exact assignInOrder_nil ⟨σ, H, I, h⟩
theorem pgs_cons {e : Expr} {es : List Expr} {t : TG} {u : TGs} (h1 : PG X e t) (h2 : PGs X es u)
    (hs : (assignEach (e :: es) X.env).map (·.2) = assign e X.env :: (assignEach es X.env).map (·.2) := by rfl) : PGs X (e :: es) (gCons t u) := by
  intro pins s σ H vs us Q I r h
  obtain ⟨v, vr, e1, h⟩ := h
  subst e1
  cases r with
  | cons r rr =>
    rw [hs]
    refine assignInOrder_cons (thn (h1 pins s σ H _ _ _ I r h) fun _ s1 ⟨σ1, H1, I1, q1⟩ => ?_)
    exact h2 pins s1 σ1 H1 _ _ Q I1 rr q1
def gTup (K : PySem.W.Frag) (n : Nat) (t : TGs) : TG := fun v σ H Q => ∃ a xs, v = .ref a ∧ SqT K H a xs ∧ xs.length = n ∧ t xs σ H Q
theorem pg_tup {es : List Expr} {k : Nat} {t : TGs} {n : Nat} (hc : X.calm = true) (h : PGs X es t)
    (hn : (assignEach es X.env).length = n := by rfl) (hst : (assignEach es X.env).findIdx? (·.1) = none := by rfl) : PG X (.Tuple es k pos) (gTup X.K n t) := by
  intro pins s σ H v u Q I r hw
  obtain ⟨a, xs, e1, hq, hl, hw⟩ := hw
  subst e1
  cases r
  obtain ⟨its, rv, ht, hz⟩ := I.tuple hq
  refine assign_Tuple_tuple (I.ok.hd hc) ht (by simp [hn, ← hl, rv.length]) hst fun h' hx => ?_
  have I1 : Inv X pins σ H { s with heap := h' } := I.kept (t' := s.toks) fun b o e => hx b o (Nat.ne_of_lt (Heap.lt_size e)) e
  exact h pins _ σ H xs _ Q I1 (by simpa using rv) hw
def gSub (to ti : TE) (t : TSet) : TG := fun v σ H Q => to σ H fun o H1 => ti σ H1 fun i H2 => t o i v H2 fun H3 => Q σ H3
theorem pg_sub {o i : Expr} {to ti : TE} {t : TSet} (ho : PE X o to) (hi : PE X i ti) (hs : PSet X t)
    (ha : ∀ v, assign (.Subscript o i pos) X.env v = (do
      let ov ← holding [v] (eval o X.env)
      let iv ← holding [v, ov] (eval i X.env)
      standAt pos
      holding [v, ov, iv] (setItem ov iv v)
      release [v, ov, iv] []) := by intro _; rfl) : PG X (.Subscript o i pos) (gSub to ti t) := by
  intro pins s σ H v u Q I r h
  rw [ha]
  refine wpAny_bind (wpAny_holding (thn (ho pins s σ H _ I h) fun ov s1 ⟨x, H1, I1, r1, q1⟩ => ?_))
  refine wpAny_bind (wpAny_holding (thn (hi pins s1 σ H1 _ I1 q1) fun iv s2 ⟨y, H2, I2, r2, q2⟩ => ?_))
  refine wpAny_bind (wpAny_standAt (wpAny_bind (wpAny_holding (thn (hs pins s2 σ H2 x y v ov iv u _ I2 r1 r2 r q2) fun _ s3 ⟨H3, I3, q3⟩ => ?_))))
  exact wpAny_release ⟨σ, H3, I3, q3⟩
def tAsg (te : TE) (g : TG) : TS := fun D σ H => te σ H fun x H1 => g x σ H1 D.nx
theorem ps_asg {tg e : Expr} {te : TE} {g : TG} (he : PE X e te) (hg : PG X tg g) (hs : swapsWithSole [tg] e pos.line X.env = pure false := by rfl) (hw : swappedStores [tg] e X.env = pure none := by rfl)
    (h1 : (assignEach [tg] X.env).map (·.2) = [assign tg X.env] := by rfl) : PS X (.Assign [tg] e pos) (tAsg te g) := by
  intro pins s σ H D I h
  refine wpAny_Assign_stores (thn (he pins s σ H _ I h) fun v s1 ⟨x, H1, I1, r1, q1⟩ => ?_) hs hw
  rw [h1]
  exact thn (hg pins s1 σ H1 x v _ I1 r1 q1) fun _ s2 q => q
theorem ps_set {i : Nat} {x : Str} {e : Expr} {te : TE} {pos' : Pos} (hN : X.N.Nodup) (hi : X.N[i]? = some x) (hx : Loc X.env.scope x) (he : PE X e te) (hs : swapsWith e (some (.Name x pos')) pos.line X.env = pure false := by rfl) (hf : X.fn x = true ∨ X.env.scope.names.lookup x = some .local := by first | exact .inl rfl | exact .inr rfl | assumption) :
    PS X (.Assign [.Name x pos'] e pos) (tAsg te (gName i)) := by
  intro pins s σ H D I h
  refine wpAny_Assign_Name (thn (he pins s σ H _ I h) fun v s1 ⟨y, H1, I1, r1, q1⟩ => ?_) hs
  exact store_ok I1 hN hi hx r1 (fun s2 I2 => ⟨_, H1, I2, q1⟩) hf
def tPar (i j : Nat) (ta : TA) : TS := fun D σ H => ta σ H fun vs H1 => ∃ v w, vs = [v, w] ∧ D.nx ((σ.set i (some v)).set j (some w)) H1
theorem ps_par {i j : Nat} {x y : Str} {a b : Expr} {ta : TA} {px py pt : Pos} {kt k2 pt2} (hc : X.calm = true) (hN : X.N.Nodup) (hi : X.N[i]? = some x) (hj : X.N[j]? = some y) (hij : i ≠ j)
    (hx : X.env.scope.names.lookup x = some .local) (hy : X.env.scope.names.lookup y = some .local) (ha : PA X [a, b] ta)
    (hw : swappedStores [.Tuple [.Name x px, .Name y py] kt pt] (.Tuple [a, b] k2 pt2) X.env = pure (some [x, y]))
    (hs : swapsWithSole [.Tuple [.Name x px, .Name y py] kt pt] (.Tuple [a, b] k2 pt2) pos.line X.env = pure false := by rfl) :
    PS X (.Assign [.Tuple [.Name x px, .Name y py] kt pt] (.Tuple [a, b] k2 pt2) pos) (tPar i j ta) := by
  intro pins s σ H D I h
  rw [exec_Assign_arm]
  refine wpAny_bind (wpAny_standAt ?_)
  rw [hs]
  refine wpAny_bind (wpAny_pure ?_)
  rw [if_neg (by decide)]
  refine wpAny_bind (Tuple_ (thn (ha _ pins s σ H _ I h) fun us s1 ⟨vs, H1, I1, r1, q1⟩ => ?_))
  obtain ⟨v, w, e1, q1⟩ := q1
  subst e1
  obtain ⟨u1, u2, rfl, rv, rw'⟩ : ∃ u1 u2, us = [u1, u2] ∧ RelV v u1 ∧ RelV w u2 := by
    cases r1 with
    | cons p q =>
      cases q with
      | cons p' q' =>
        cases q'
        exact ⟨_, _, rfl, p, p'⟩
  refine wpAny_newObj_type ?_ (by show 2 ≤ sizeLine; decide)
  have I2 : Inv X pins σ H1 { s1 with heap := s1.heap.push { cls := .type "tuple", data := .seq [u1, u2].toArray } } := I1.kept (t' := s1.toks) fun b o e => Heap.get?_push_of_some _ e
  rw [hw]
  refine wpAny_bind (wpAny_pure ?_)
  show wpAny (model X.prog X.w) X.A (do rule "assign.swapped-stores"; let items ← unpackItems (.ref s1.heap.objs.size) 2 none; assignInOrder [fun v => bindName X.env y v, fun v => bindName X.env x v] items.reverse; pure Flow.next) _ _ _
  refine wpAny_bind (wpAny_rule (wpAny_bind (unpackItems_tuple (items := #[u1, u2]) (I.ok.hd hc) (IsTup.new s1.heap _) fun h' hx' => ?_)))
  have I3 := I2.kept (h' := h') (t' := s1.toks) fun b o e => hx' b o (Nat.ne_of_lt (Heap.lt_size e)) e
  show wpAny _ _ (assignInOrder [fun v => bindName X.env y v, fun v => bindName X.env x v] [u2, u1] >>= fun _ => pure Flow.next) _ _ _
  refine wpAny_bind (assignInOrder_cons (wpAny_bindName (store_ok I3 hN hj (.inl hy) rw' (fun s2 I4 => ?_) (.inr hy))))
  refine assignInOrder_cons (wpAny_bindName (store_ok I4 hN hi (.inl hx) rv (fun s3 I5 => assignInOrder_nil (wpAny_pure ?_)) (.inr hx)))
  rw [List.set_comm _ _ (Ne.symm hij)] at I5
  exact ⟨_, H1, I5, q1⟩
end

section
variable {X : Cx} {pos : Pos}
def tWhile (c : TT) (tb : TS) : TS := fun D σ H => ∃ W : Nat → St → Hp → Prop, (∃ m, W m σ H) ∧ ∀ m σ H, W m σ H →
  c σ H fun b H1 => if b = true then ∃ N : St → Hp → Prop, (∀ σ' H', N σ' H' → ∃ m', m' < m ∧ W m' σ' H') ∧ tb { D with nx := N, ct := N, bk := D.nx } σ H1 else D.nx σ H1
theorem ps_while {c : Expr} {body : List Stmt} {tc : TT} {tb : TS} (hp : PassesOwn (model X.prog X.w) X.A X.env X.xe) (hc : PT X c tc) (hb : PSs X body tb) : PS X (.While c body [] pos) (tWhile tc tb) := by
  intro pins s σ H D I h
  obtain ⟨W, ⟨m0, w0⟩, turn⟩ := h
  refine wpAny_While (codeAny_whileLoop (fun n s' => ∃ σ' H', Inv X pins σ' H' s' ∧ W n σ' H') ?_ m0 ⟨σ, H, I, w0⟩)
  rintro n s1 ⟨σ1, H1, I1, w1⟩
  refine wpAny_passesOwn hp (thn (hc pins s1 σ1 H1 _ I1 (turn n σ1 H1 w1)) fun b s2 ⟨H2, I2, q2⟩ => ?_)
  cases b with
  | true =>
    obtain ⟨N, hN, q2⟩ := q2
    rw [if_pos rfl]
    refine wpAny_passesOwn hp (thn (hb pins s2 σ1 H2 _ I2 q2) fun f s3 q3 => ?_)
    cases f with
    | next =>
      obtain ⟨σ3, H3, I3, n3⟩ := q3
      obtain ⟨m', hm, w3⟩ := hN σ3 H3 n3
      exact ⟨m', hm, σ3, H3, I3, w3⟩
    | cont =>
      obtain ⟨σ3, H3, I3, n3⟩ := q3
      obtain ⟨m', hm, w3⟩ := hN σ3 H3 n3
      exact ⟨m', hm, σ3, H3, I3, w3⟩
    | brk => exact q3
    | ret v => exact q3
  | false =>
    rw [if_neg Bool.false_ne_true]
    exact wpAny_execs_nil ⟨σ1, H2, I2, q2⟩
end

structure It where
  go : Nat → Hp → Prop
  yld : Nat → Hp → V → Hp → Prop
  stop : Nat → Hp → Prop
def FpOk (X : Cx) (pins : List (Addr × Obj)) (H : Hp) (b : Addr) : Prop :=
  H b = none ∧ b ≠ X.env.locals ∧ b ∉ X.fs ∧ (b ∈ X.ex ∨ X.s₀.heap.objs.size ≤ b) ∧ (∀ x c, X.env.cells.lookup x = some c → c ≠ b) ∧ ∀ p ∈ X.pn ++ pins, p.1 ≠ b
theorem Inv.fpOk {X : Cx} {pins : List (Addr × Obj)} {σ : St} {H H' : Hp} {s : Shared} {b : Addr} (I : Inv X pins σ H s) (hb : s.heap.objs.size ≤ b) (hn : H' b = none) : FpOk X pins H' b := by
  refine ⟨hn, Nat.ne_of_gt (Nat.lt_of_lt_of_le I.lt hb), I.nofs hb, .inr (Nat.le_trans I.sz hb), fun x c e z => ?_, fun p hp z => ?_⟩
  · obtain ⟨v, q⟩ := I.cell x c e
    exact absurd (Nat.lt_of_lt_of_le q.lt (by rw [z]; exact hb)) (Nat.lt_irrefl _)
  · exact absurd (Nat.lt_of_lt_of_le (Heap.lt_size (I.pin p hp).1) (by rw [z]; exact hb)) (Nat.lt_irrefl _)
structure Turn (P : Program) (w : World) (K : PySem.W.Frag) (tg : Expr) (J : It) (fp : List Addr) (it : Addr) (tn : Nat → Heap → Prop) : Prop where
  mem : it ∈ fp
  obj : ∀ i h, tn i h → ∀ b ∈ fp, ∃ o, h.get? b = some o ∧ ∀ v, o.data ≠ .cell v
  keep : ∀ i h h', tn i h → (∀ b ∈ fp, ∀ o, h.get? b = some o → h'.get? b = some o) → tn i h'
  item : ∀ (X : Cx), X.prog = P → X.w = w → X.K = K → X.calm = true → ∀ (i : Nat) (pins : List (Addr × Obj)) (s : Shared) (σ : St) (H : Hp) (E : Value → Shared → Prop), Inv X pins σ H s → (∀ b ∈ fp, FpOk X pins H b) → tn i s.heap → J.go i H →
    wpAny (model P w) X.A (pyNext (.ref it)) (fun r s1 => ∃ u, r = some u ∧
      wpAny (model P w) X.A (letOwnedTupleGo tg (.ref it) u) (fun _ s2 => ∃ x H', Inv X pins σ H' s2 ∧ RelV x u ∧ J.yld i H x H' ∧ tn (i + 1) s2.heap ∧ ∀ b ∈ fp, H' b = none) E s1) E s
  done : ∀ (X : Cx), X.prog = P → X.w = w → X.K = K → X.calm = true → ∀ (i : Nat) (pins : List (Addr × Obj)) (s : Shared) (σ : St) (H : Hp) (E : Value → Shared → Prop), Inv X pins σ H s → (∀ b ∈ fp, FpOk X pins H b) → tn i s.heap → J.stop i H →
    wpAny (model P w) X.A (pyNext (.ref it)) (fun r s1 => r = none ∧ Inv X pins σ H s1) E s
  self : ∀ (A : Around) (i : Nat) (s : Shared) (Q : Value → Shared → Prop) (E : Value → Shared → Prop), tn i s.heap → Q (.ref it) s → wpAny (model P w) A (pyIter (.ref it)) Q E s
abbrev TI := St → Hp → (It → Hp → Prop) → Prop
def PIE (X : Cx) (pins : List (Addr × Obj)) (σ : St) (tg : Expr) (R : It → Hp → Prop) (itv : Value) (s2 : Shared) : Prop :=
  ∃ (it : Addr) (fp : List Addr) (tn : Nat → Heap → Prop) (J : It) (H' : Hp), itv = .ref it ∧ Inv X pins σ H' s2 ∧ Turn X.prog X.w X.K tg J fp it tn ∧ tn 0 s2.heap ∧ (∀ b ∈ fp, FpOk X pins H' b) ∧ R J H'
def PI (X : Cx) (tg iter : Expr) (wi : TI) : Prop :=
  ∀ (pins : List (Addr × Obj)) (s : Shared) (σ : St) (H : Hp) (R : It → Hp → Prop), Inv X pins σ H s → wi σ H R →
    wpAny (model X.prog X.w) X.A (eval iter X.env) (fun v s1 => wpAny (model X.prog X.w) X.A (pyIter v) (PIE X pins σ tg R) X.xe s1) X.xe s

theorem go_of {M : Model} {A : Around} {E : Value → Shared → Prop} {s : Shared} {tg : Expr} {it : Addr} {u : Value} {o : Obj} {n : String} {vs : Array Value} {Q : Unit → Shared → Prop} (ho : s.heap.get? it = some o) (hc : o.cls = .type n) (hd : o.data = .fields vs)
    (hn : ["enumerate", "zip", "dict_itemiterator", "dict_reverseitemiterator", "odict_iterator", "itertools.zip_longest", "itertools.pairwise"].contains n = false) (hQ : Q () s) : wpAny M A (letOwnedTupleGo tg (.ref it) u) Q E s := by
  unfold letOwnedTupleGo
  cases tg <;> first
    | exact wpAny_pure hQ
    | (cases u <;> first
        | exact wpAny_pure hQ
        | (refine wpAny_bind (wpAny_load ho ?_)
           rw [hc, hd]
           show wpAny M A (if (["enumerate", "zip", "dict_itemiterator", "dict_reverseitemiterator", "odict_iterator", "itertools.zip_longest", "itertools.pairwise"].contains n && vs[0]? == some (rawInt _)) = true then _ else _) Q E s
           rw [if_neg (by intro h; rw [hn, Bool.false_and] at h; cases h)]
           exact wpAny_pure hQ))

def Itl (K : PySem.W.Frag) (a : Addr) : It :=
  ⟨fun i H => ∃ xs x, SqL K H a xs ∧ xs[i]? = some x, fun i H x H' => H' = H ∧ ∀ xs, SqL K H a xs → xs[i]? = some x, fun i H => ∃ xs, SqL K H a xs ∧ xs.length ≤ i⟩
def Itt (K : PySem.W.Frag) (a : Addr) : It :=
  ⟨fun i H => ∃ xs x, SqT K H a xs ∧ xs[i]? = some x, fun i H x H' => H' = H ∧ ∀ xs, SqT K H a xs → xs[i]? = some x, fun i H => ∃ xs, SqT K H a xs ∧ xs.length ≤ i⟩
def Itr (lo : Int) (n : Nat) : It := ⟨fun i _ => i < n, fun i H x H' => H' = H ∧ x = .int (lo + i), fun i _ => n ≤ i⟩
theorem turn_list {P : Program} {w : World} {K : PySem.W.Frag} {tg : Expr} (a it : Addr) : Turn P w K tg (Itl K a) [it] it (fun i h => h.IsListIter it a i) where
  mem := by simp
  obj := fun i h st b hb => by
    have e : b = it := by simpa using hb
    subst e
    obtain ⟨o, e, c, d⟩ := st
    exact ⟨o, e, fun v z => by rw [d] at z; cases z⟩
  keep := fun i h h' st k => st.at fun o e => k it (by simp) o e
  item := by
    intro X hP hw hK hc i pins s σ H E I hf st hg
    subst hP hw hK
    obtain ⟨xs, x, hq, hx⟩ := hg
    obtain ⟨its, rv, p, hz⟩ := I.list hq
    obtain ⟨u, hu, ru⟩ := rv.get hx
    obtain ⟨f0, f1, f2, f3, f4, f5⟩ := hf it (by simp)
    refine wpAny_pyNext_list_item st p.isList (x := u) (by simpa using hu) fun h' st' sb => ?_
    have I1 : Inv X pins σ H { s with heap := h' } := I.turned (t' := s.toks) (fun b o hb e => (sb.2 b hb).trans e) f0 f1 f3 f4 f5
    obtain ⟨o, e, c, d⟩ := id st'
    exact ⟨u, rfl, go_of (s := { s with heap := h' }) e c d (by decide) ⟨x, H, I1, ru, ⟨rfl, fun ys hy => by rw [I.list_inj hy hq]; exact hx⟩, st', fun b hb => (hf b hb).1⟩⟩
  done := by
    intro X hP hw hK hc i pins s σ H E I hf st hg
    subst hP hw hK
    obtain ⟨xs, hq, hx⟩ := hg
    obtain ⟨its, rv, p, hz⟩ := I.list hq
    obtain ⟨f0, f1, f2, f3, f4, f5⟩ := hf it (by simp)
    have hl := rv.length
    exact wpAny_pyNext_list_end (I.ok.hd hc) st p.isList (by simp; omega) fun h' eb => ⟨rfl, I.turned (t' := s.toks) (fun b o hb e => eb b o hb e) f0 f1 f3 f4 f5⟩
  self := fun _ _ _ _ _ st h => wpAny_pyIter_listiter st h
theorem turn_tuple {P : Program} {w : World} {K : PySem.W.Frag} {tg : Expr} (a it : Addr) : Turn P w K tg (Itt K a) [it] it (fun i h => h.IsTupleIter it a i) where
  mem := by simp
  obj := fun i h st b hb => by
    have e : b = it := by simpa using hb
    subst e
    obtain ⟨o, e, c, d⟩ := st
    exact ⟨o, e, fun v z => by rw [d] at z; cases z⟩
  keep := fun i h h' st k => st.at fun o e => k it (by simp) o e
  item := by
    intro X hP hw hK hc i pins s σ H E I hf st hg
    subst hP hw hK
    obtain ⟨xs, x, hq, hx⟩ := hg
    obtain ⟨its, rv, p, hz⟩ := I.tuple hq
    obtain ⟨u, hu, ru⟩ := rv.get hx
    obtain ⟨f0, f1, f2, f3, f4, f5⟩ := hf it (by simp)
    refine wpAny_pyNext_tuple_item st (show s.heap.IsTuple a its.toArray from p) (x := u) (by simpa using hu) fun h' st' sb => ?_
    have I1 : Inv X pins σ H { s with heap := h' } := I.turned (t' := s.toks) (fun b o hb e => (sb.2 b hb).trans e) f0 f1 f3 f4 f5
    obtain ⟨o, e, c, d⟩ := id st'
    exact ⟨u, rfl, go_of (s := { s with heap := h' }) e c d (by decide) ⟨x, H, I1, ru, ⟨rfl, fun ys hy => by rw [I.tuple_inj hy hq]; exact hx⟩, st', fun b hb => (hf b hb).1⟩⟩
  done := by
    intro X hP hw hK hc i pins s σ H E I hf st hg
    subst hP hw hK
    obtain ⟨xs, hq, hx⟩ := hg
    obtain ⟨its, rv, p, hz⟩ := I.tuple hq
    obtain ⟨f0, f1, f2, f3, f4, f5⟩ := hf it (by simp)
    have hl := rv.length
    exact wpAny_pyNext_tuple_end (I.ok.hd hc) st (show s.heap.IsTuple a its.toArray from p) (by simp; omega) fun h' eb => ⟨rfl, I.turned (t' := s.toks) (fun b o hb e => eb b o hb e) f0 f1 f3 f4 f5⟩
  self := fun _ _ _ _ _ st h => wpAny_pyIter_tupleiter st h
theorem turn_range {P : Program} {w : World} {K : PySem.W.Frag} {tg : Expr} (it : Addr) (lo : Int) (n : Nat) : Turn P w K tg (Itr lo n) [it] it (fun i h => IsRangeIter h it (lo + (i : Nat) * 1) ((n : Int) - (i : Nat)) 1) where
  mem := by simp
  obj := fun i h st b hb => by
    have e : b = it := by simpa using hb
    subst e
    exact ⟨_, st, fun v z => by
      have z' : Data.fields _ = Data.cell v := z
      cases z'⟩
  keep := fun i h h' st k => k it (by simp) _ st
  item := by
    intro X hP hw hK hc i pins s σ H E I hf st hg
    subst hP hw hK
    obtain ⟨f0, f1, f2, f3, f4, f5⟩ := hf it (by simp)
    have W := Walks.range (prog := X.prog) (w := X.w) (I.ok.hd hc) it lo 1 n
    refine W.item i s _ _ hg st fun v h' tk hv st' kk => ?_
    obtain ⟨t, rfl⟩ := hv
    have I1 : Inv X pins σ H { s with heap := h', toks := tk } := I.turned (fun b o hb e => kk b o (by simpa using hb) e) f0 f1 f3 f4 f5
    refine ⟨_, rfl, go_of (s := { s with heap := h', toks := tk }) (n := "range_iterator") st' rfl rfl (by decide) ⟨.int (lo + i), H, I1, ⟨t, ?_⟩, ⟨rfl, rfl⟩, st', fun b hb => (hf b hb).1⟩⟩
    rw [Int.mul_one]
  done := by
    intro X hP hw hK hc i pins s σ H E I hf st hg
    subst hP hw hK
    obtain ⟨f0, f1, f2, f3, f4, f5⟩ := hf it (by simp)
    exact wpAny_pyNext_range_end (I.ok.hd hc) st (by have : n ≤ i := hg; omega) fun h' eb => ⟨rfl, I.turned (t' := s.toks) (fun b o hb e => eb b o hb e) f0 f1 f3 f4 f5⟩
  self := fun _ _ _ _ _ st h => wpAny_pyIter_rangeiter st h
end L2

namespace L2
open PySem PySem.Spec PyProof.Rows
section
variable {X : Cx} {tg : Expr}
def iList (K : PySem.W.Frag) (tl : TE) : TI := fun σ H R => tl σ H fun x H1 => ∃ a, x = .ref a ∧ (∃ xs, SqL K H1 a xs) ∧ R (Itl K a) H1
def iTup (K : PySem.W.Frag) (tl : TE) : TI := fun σ H R => tl σ H fun x H1 => ∃ a, x = .ref a ∧ (∃ xs, SqT K H1 a xs) ∧ R (Itt K a) H1
theorem pi_list {l : Expr} {tl : TE} (hl : PE X l tl) : PI X tg l (iList X.K tl) := by
  intro pins s σ H R I h
  refine thn (hl pins s σ H _ I h) fun v s1 ⟨x, H1, I1, r1, q1⟩ => ?_
  obtain ⟨a, e, ⟨xs, hq⟩, q⟩ := q1
  subst e
  cases r1
  obtain ⟨its, rv, p, hz⟩ := I1.list hq
  refine wpAny_pyIter_list p.isList ?_
  refine ⟨s1.heap.objs.size, [s1.heap.objs.size], _, _, H1, rfl, I1.kept (t' := s1.toks) fun b o e => Heap.get?_push_of_some _ e, turn_list a _, ⟨_, Heap.get?_push_size _ rfl, rfl, rfl⟩, fun b hb => ?_, q⟩
  have e : b = s1.heap.objs.size := by simpa using hb
  subst e
  exact I1.fpOk (Nat.le_refl _) (I1.hok.fresh (Nat.le_refl _))
theorem pi_tup {l : Expr} {tl : TE} (hl : PE X l tl) : PI X tg l (iTup X.K tl) := by
  intro pins s σ H R I h
  refine thn (hl pins s σ H _ I h) fun v s1 ⟨x, H1, I1, r1, q1⟩ => ?_
  obtain ⟨a, e, ⟨xs, hq⟩, q⟩ := q1
  subst e
  cases r1
  obtain ⟨its, rv, p, hz⟩ := I1.tuple hq
  refine wpAny_pyIter_tuple (show s1.heap.IsTuple a its.toArray from p) ?_
  refine ⟨s1.heap.objs.size, [s1.heap.objs.size], _, _, H1, rfl, I1.kept (t' := s1.toks) fun b o e => Heap.get?_push_of_some _ e, turn_tuple a _, ⟨_, Heap.get?_push_size _ rfl, rfl, rfl⟩, fun b hb => ?_, q⟩
  have e : b = s1.heap.objs.size := by simpa using hb
  subst e
  exact I1.fpOk (Nat.le_refl _) (I1.hok.fresh (Nat.le_refl _))
theorem range_it {pins : List (Addr × Obj)} {σ : St} {H : Hp} {s : Shared} {R : It → Hp → Prop} {E : Value → Shared → Prop} {lo hi : Int} {t u v : Tok} {tk : Nat} (I : Inv X pins σ H s) (h1 : -(2 ^ 62) ≤ lo) (h2 : lo < 2 ^ 62) (h3 : -(2 ^ 62) ≤ hi) (h4 : hi < 2 ^ 62)
    (q : R (Itr lo (hi - lo).toNat) H) : wpAny (model X.prog X.w) X.A (pyIter (.ref s.heap.objs.size)) (PIE X pins σ tg R) E { s with heap := s.heap.push { cls := .type "range", data := .fields #[.int lo t, .int hi u, .int 1 v] }, toks := tk } := by
  refine wpAny_pyIter_range (IsRange.new ..) (small_one h1 h2 h3 h4) ?_
  have I1 : Inv X pins σ H { s with heap := s.heap.push { cls := .type "range", data := .fields #[.int lo t, .int hi u, .int 1 v] }, toks := tk } := I.kept fun b o e => Heap.get?_push_of_some _ e
  refine ⟨(s.heap.push { cls := .type "range", data := .fields #[.int lo t, .int hi u, .int 1 v] }).objs.size, [(s.heap.push { cls := .type "range", data := .fields #[.int lo t, .int hi u, .int 1 v] }).objs.size], _, _, H, rfl,
    I1.kept (t' := tk) fun b o e => Heap.get?_push_of_some _ e, turn_range _ lo (hi - lo).toNat, ?_, fun b hb => ?_, q⟩
  · have e1 : lo + ((0 : Nat) : Int) * 1 = lo := by simp
    have e2 : (((hi - lo).toNat : Nat) : Int) - ((0 : Nat) : Int) = Builtin.Range.rangeSize lo hi 1 := by rw [rangeSize_one]; split <;> omega
    show IsRangeIter _ _ (lo + ((0 : Nat) : Int) * 1) ((((hi - lo).toNat : Nat) : Int) - ((0 : Nat) : Int)) 1
    rw [e1, e2]
    exact Heap.get?_push_size _ rfl
  · have e : b = (s.heap.push { cls := .type "range", data := .fields #[.int lo t, .int hi u, .int 1 v] }).objs.size := by simpa using hb
    subst e
    exact I1.fpOk (Nat.le_refl _) (I1.hok.fresh (Nat.le_refl _))
def iRng1 (ta : TA) : TI := fun σ H R => ta σ H fun vs H1 => ∃ j : Int, vs = [.int j] ∧ -(2 ^ 62) ≤ j ∧ j < 2 ^ 62 ∧ R (Itr 0 j.toNat) H1
theorem pi_range1 {a : Expr} {ta : TA} {p pos : Pos} (hg : Gl X "range") (hm : X.mg "range" = none) (ha : PA X [a] ta) (hs : starEach [a] X.env = [(false, eval a X.env)] := by rfl) : PI X tg (.Call (.Name "range" p) [a] [] pos) (iRng1 ta) := by
  intro pins s σ H R I h
  refine Call_ (ld_blt I hg hm boot_range (PyProof.Rows.callWith_type1 (thn (ha pos pins s σ H _ I h) fun us s1 ⟨vs, H1, I1, r1, q1⟩ => ?_) hs rfl))
  obtain ⟨j, e, q1, q2, q⟩ := q1
  subst e
  cases r1 with
  | cons r rr =>
    cases rr
    obtain ⟨t, rfl⟩ := r
    exact call_range_1 (range_it I1 (by omega) (by omega) q1 q2 (by simpa using q))
def tFor (wi : TI) (g : TG) (tb : TS) : TS := fun D σ H => wi σ H fun J H1 => ∃ W : Nat → Nat → St → Hp → Prop, (∃ m, W 0 m σ H1) ∧ ∀ i m σ H, W i m σ H →
  (J.stop i H ∧ D.nx σ H) ∨ (J.go i H ∧ ∃ N : St → Hp → Prop, (∀ σ' H', N σ' H' → ∃ m', m' < m ∧ W (i + 1) m' σ' H') ∧ ∀ x H', J.yld i H x H' → g x σ H' fun σ2 H2 => tb { D with nx := N, ct := N, bk := D.nx } σ2 H2)
def pinsAt (fp : List Addr) (h : Heap) : List (Addr × Obj) := fp.filterMap fun b => (h.get? b).map fun o => (b, o)
theorem mem_pinsAt {fp : List Addr} {h : Heap} {b : Addr} {o : Obj} (hb : b ∈ fp) (e : h.get? b = some o) : (b, o) ∈ pinsAt fp h := List.mem_filterMap.mpr ⟨b, hb, by rw [e]; rfl⟩
theorem of_pinsAt {fp : List Addr} {h : Heap} {p : Addr × Obj} (hp : p ∈ pinsAt fp h) : p.1 ∈ fp ∧ h.get? p.1 = some p.2 := by
  obtain ⟨b, hb, e⟩ := List.mem_filterMap.mp hp
  cases q : h.get? b with
  | none => rw [q] at e; cases e
  | some o =>
    rw [q] at e
    have e' : (b, o) = p := Option.some.inj e
    subst e'
    exact ⟨hb, q⟩
theorem Inv.pinned {pins : List (Addr × Obj)} {σ : St} {H : Hp} {s : Shared} {fp : List Addr} (I : Inv X pins σ H s) (hf : ∀ b ∈ fp, FpOk X pins H b) (ho : ∀ b ∈ fp, ∃ o, s.heap.get? b = some o ∧ ∀ v, o.data ≠ .cell v) : Inv X (pins ++ pinsAt fp s.heap) σ H s :=
  I.pins_of fun p hp => (List.mem_append.mp hp).elim (fun z => I.pin p (List.mem_append_right _ z)) fun z => by
    obtain ⟨hb, e⟩ := of_pinsAt z
    obtain ⟨f0, f1, f2, _⟩ := hf p.1 hb
    obtain ⟨o, e', d⟩ := ho p.1 hb
    rw [e] at e'; cases e'
    exact ⟨e, f0, f1, f2, d⟩
theorem Inv.unpinned {pins pl : List (Addr × Obj)} {σ : St} {H : Hp} {s : Shared} (I : Inv X (pins ++ pl) σ H s) : Inv X pins σ H s := I.pins_of fun p hp => I.pin p (List.mem_append_right _ (List.mem_append_left _ hp))
theorem ps_for {iter : Expr} {body : List Stmt} {wi : TI} {g : TG} {tb : TS} {pos : Pos} (hp : PassesOwn (model X.prog X.w) X.A X.env X.xe) (hc : X.calm = true) (hi : PI X tg iter wi) (hg : PG X tg g) (hb : PSs X body tb)
    (hs : ∀ x, foldedSetIterable iter X.env x = pure x := by intro _; rfl) : PS X (.For tg iter body [] pos) (tFor wi g tb) := by
  intro pins s σ H D I h
  refine wpAny_For (thn (hi pins s σ H _ I h) fun v s1 h1 => thn h1 fun itv s2 h2 => ?_) hs
  obtain ⟨it, fp, tn, J, H2, e, I2, T, st2, f2, W, ⟨m0, w0⟩, turn⟩ := h2
  subst e
  have stat : ∀ {H' : Hp}, (∀ b ∈ fp, H' b = none) → ∀ b ∈ fp, FpOk X pins H' b := fun hn b hb => ⟨hn b hb, (f2 b hb).2⟩
  refine codeAny_forLoop_any (fun n s' => ∃ i σ' H', Inv X pins σ' H' s' ∧ tn i s'.heap ∧ (∀ b ∈ fp, H' b = none) ∧ W i n σ' H') ?_ m0 ⟨0, σ, H2, I2, st2, fun b hb => (f2 b hb).1, w0⟩
  rintro n s3 ⟨i, σ3, H3, I3, st3, fr3, w3⟩
  rcases turn i n σ3 H3 w3 with ⟨stop, qn⟩ | ⟨go, N, hN, step⟩
  · refine wpAny_passesOwn hp (thn (T.done X rfl rfl rfl hc i pins s3 σ3 H3 X.xe I3 (stat fr3) st3 stop) fun r s4 ⟨hr, I4⟩ => ?_)
    subst hr
    exact wpAny_execs_nil ⟨σ3, H3, I4, qn⟩
  · refine wpAny_passesOwn hp (thn (T.item X rfl rfl rfl hc i pins s3 σ3 H3 X.xe I3 (stat fr3) st3 go) fun r s4 ⟨u, hr, h4⟩ => ?_)
    subst hr
    refine wpAny_passesOwn hp (thn h4 fun _ s5 ⟨x, H5, I5, r5, y5, st5, fr5⟩ => ?_)
    have I5' := I5.pinned (stat fr5) (T.obj _ _ st5)
    refine wpAny_passesOwn hp (thn (hg _ s5 σ3 H5 x u _ I5' r5 (step x H5 y5)) fun _ s6 ⟨σ6, H6, I6, q6⟩ => ?_)
    refine wpAny_passesOwn hp (thn (hb _ s6 σ6 H6 _ I6 q6) fun f s7 q7 => ?_)
    have again : ∀ {σ7 : St} {H7 : Hp}, Inv X (pins ++ pinsAt fp s5.heap) σ7 H7 s7 → N σ7 H7 → ∃ m, m < n ∧ ∃ i σ' H', Inv X pins σ' H' s7 ∧ tn i s7.heap ∧ (∀ b ∈ fp, H' b = none) ∧ W i m σ' H' := fun {σ7 H7} I7 n7 => by
      obtain ⟨m', hm, w7⟩ := hN σ7 H7 n7
      refine ⟨m', hm, i + 1, σ7, H7, I7.unpinned, T.keep _ _ _ st5 fun b hb o e => (I7.pin (b, o) (List.mem_append_right _ (List.mem_append_right _ (mem_pinsAt hb e)))).1, fun b hb => ?_, w7⟩
      obtain ⟨o, e, d⟩ := T.obj _ _ st5 b hb
      exact (I7.pin (b, o) (List.mem_append_right _ (List.mem_append_right _ (mem_pinsAt hb e)))).2.1
    cases f with
    | next => obtain ⟨σ7, H7, I7, n7⟩ := q7; exact again I7 n7
    | cont => obtain ⟨σ7, H7, I7, n7⟩ := q7; exact again I7 n7
    | brk => obtain ⟨σ7, H7, I7, q7⟩ := q7; exact ⟨σ7, H7, I7.unpinned, q7⟩
    | ret v => obtain ⟨x7, σ7, H7, I7, r7, q7⟩ := q7; exact ⟨x7, σ7, H7, I7.unpinned, r7, q7⟩
end

theorem for_list {K : PySem.W.Frag} {a : Addr} {xs : List V} {g : TG} {tb : TS} {D : Ends} {σ : St} {H : Hp} (Pv : Nat → St → Hp → Prop) (h0 : Pv 0 σ H) (hl : ∀ i σ H, i ≤ xs.length → Pv i σ H → SqL K H a xs)
    (hs : ∀ i x σ H, xs[i]? = some x → Pv i σ H → g x σ H fun σ2 H2 => tb { D with nx := Pv (i + 1), ct := Pv (i + 1), bk := D.nx } σ2 H2) (hd : ∀ σ H, Pv xs.length σ H → D.nx σ H) :
    ∃ W : Nat → Nat → St → Hp → Prop, (∃ m, W 0 m σ H) ∧ ∀ i m σ H, W i m σ H →
      ((Itl K a).stop i H ∧ D.nx σ H) ∨ ((Itl K a).go i H ∧ ∃ N : St → Hp → Prop, (∀ σ' H', N σ' H' → ∃ m', m' < m ∧ W (i + 1) m' σ' H') ∧ ∀ x H', (Itl K a).yld i H x H' → g x σ H' fun σ2 H2 => tb { D with nx := N, ct := N, bk := D.nx } σ2 H2) := by
  refine ⟨fun i m σ H => m = xs.length - i ∧ i ≤ xs.length ∧ Pv i σ H, ⟨xs.length, by simp, Nat.zero_le _, h0⟩, ?_⟩
  rintro i m σ H ⟨rfl, hi, p⟩
  have q := hl i σ H hi p
  by_cases hlt : i < xs.length
  · refine .inr ⟨⟨xs, xs[i], q, by simp [hlt]⟩, Pv (i + 1), fun σ' H' p' => ⟨xs.length - (i + 1), by omega, rfl, hlt, p'⟩, fun x H' y => ?_⟩
    obtain ⟨e, y⟩ := y
    subst e
    exact hs i x σ _ (y xs q) p
  · have e : i = xs.length := by omega
    subst e
    exact .inl ⟨⟨xs, q, Nat.le_refl _⟩, hd σ H p⟩
theorem for_tup {K : PySem.W.Frag} {a : Addr} {xs : List V} {g : TG} {tb : TS} {D : Ends} {σ : St} {H : Hp} (Pv : Nat → St → Hp → Prop) (h0 : Pv 0 σ H) (hl : ∀ i σ H, i ≤ xs.length → Pv i σ H → SqT K H a xs)
    (hs : ∀ i x σ H, xs[i]? = some x → Pv i σ H → g x σ H fun σ2 H2 => tb { D with nx := Pv (i + 1), ct := Pv (i + 1), bk := D.nx } σ2 H2) (hd : ∀ σ H, Pv xs.length σ H → D.nx σ H) :
    ∃ W : Nat → Nat → St → Hp → Prop, (∃ m, W 0 m σ H) ∧ ∀ i m σ H, W i m σ H →
      ((Itt K a).stop i H ∧ D.nx σ H) ∨ ((Itt K a).go i H ∧ ∃ N : St → Hp → Prop, (∀ σ' H', N σ' H' → ∃ m', m' < m ∧ W (i + 1) m' σ' H') ∧ ∀ x H', (Itt K a).yld i H x H' → g x σ H' fun σ2 H2 => tb { D with nx := N, ct := N, bk := D.nx } σ2 H2) := by
  refine ⟨fun i m σ H => m = xs.length - i ∧ i ≤ xs.length ∧ Pv i σ H, ⟨xs.length, by simp, Nat.zero_le _, h0⟩, ?_⟩
  rintro i m σ H ⟨rfl, hi, p⟩
  have q := hl i σ H hi p
  by_cases hlt : i < xs.length
  · refine .inr ⟨⟨xs, xs[i], q, by simp [hlt]⟩, Pv (i + 1), fun σ' H' p' => ⟨xs.length - (i + 1), by omega, rfl, hlt, p'⟩, fun x H' y => ?_⟩
    obtain ⟨e, y⟩ := y
    subst e
    exact hs i x σ _ (y xs q) p
  · have e : i = xs.length := by omega
    subst e
    exact .inl ⟨⟨xs, q, Nat.le_refl _⟩, hd σ H p⟩
theorem for_range {lo : Int} {n : Nat} {g : TG} {tb : TS} {D : Ends} {σ : St} {H : Hp} (Pv : Nat → St → Hp → Prop) (h0 : Pv 0 σ H)
    (hs : ∀ i σ H, i < n → Pv i σ H → g (.int (lo + i)) σ H fun σ2 H2 => tb { D with nx := Pv (i + 1), ct := Pv (i + 1), bk := D.nx } σ2 H2) (hd : ∀ σ H, Pv n σ H → D.nx σ H) :
    ∃ W : Nat → Nat → St → Hp → Prop, (∃ m, W 0 m σ H) ∧ ∀ i m σ H, W i m σ H →
      ((Itr lo n).stop i H ∧ D.nx σ H) ∨ ((Itr lo n).go i H ∧ ∃ N : St → Hp → Prop, (∀ σ' H', N σ' H' → ∃ m', m' < m ∧ W (i + 1) m' σ' H') ∧ ∀ x H', (Itr lo n).yld i H x H' → g x σ H' fun σ2 H2 => tb { D with nx := N, ct := N, bk := D.nx } σ2 H2) := by
  refine ⟨fun i m σ H => m = n - i ∧ i ≤ n ∧ Pv i σ H, ⟨n, by simp, Nat.zero_le _, h0⟩, ?_⟩
  rintro i m σ H ⟨rfl, hi, p⟩
  by_cases hlt : i < n
  · refine .inr ⟨hlt, Pv (i + 1), fun σ' H' p' => ⟨n - (i + 1), by omega, rfl, hlt, p'⟩, fun x H' y => ?_⟩
    obtain ⟨e, y⟩ := y
    subst e y
    exact hs i σ _ hlt p
  · have e : i = n := by omega
    subst e
    exact .inl ⟨Nat.le_refl _, hd σ H p⟩
theorem while_by {c : TT} {tb : TS} {D : Ends} {σ : St} {H : Hp} (Pv : St → Hp → Prop) (μ : St → Hp → Nat) (h0 : Pv σ H)
    (hs : ∀ σ H, Pv σ H → c σ H fun b H1 => if b = true then tb { D with nx := fun σ' H' => Pv σ' H' ∧ μ σ' H' < μ σ H, ct := fun σ' H' => Pv σ' H' ∧ μ σ' H' < μ σ H, bk := D.nx } σ H1 else D.nx σ H1)
    (mono : ∀ σ H Q Q', (∀ b H1, Q b H1 → Q' b H1) → c σ H Q → c σ H Q') : tWhile c tb D σ H := by
  refine ⟨fun m σ H => m = μ σ H ∧ Pv σ H, ⟨_, rfl, h0⟩, ?_⟩
  rintro m σ H ⟨rfl, p⟩
  refine mono σ H _ _ (fun b H1 q => ?_) (hs σ H p)
  cases b with
  | true => exact ⟨_, fun σ' H' ⟨p', l⟩ => ⟨_, l, rfl, p'⟩, q⟩
  | false => exact q
end L2

namespace L2
open PySem PySem.Spec PyProof.Rows

abbrev R2 := V → V → Hp → VK → Prop
def OpR (X : Cx) (f : Value → Value → Sem Value) (r : R2) : Prop :=
  ∀ (pins : List (Addr × Obj)) (s : Shared) (σ : St) (H : Hp) (x y : V) (v u : Value) (Q : VK), Inv X pins σ H s → RelV x v → RelV y u → r x y H Q →
    wpAny (model X.prog X.w) X.A (f v u) (EP X pins σ Q) X.xe s
def UnR (X : Cx) (f : Value → Sem Value) (r : V → Hp → VK → Prop) : Prop :=
  ∀ (pins : List (Addr × Obj)) (s : Shared) (σ : St) (H : Hp) (x : V) (v : Value) (Q : VK), Inv X pins σ H s → RelV x v → r x H Q →
    wpAny (model X.prog X.w) X.A (f v) (EP X pins σ Q) X.xe s
def CallR (X : Cx) (f : Value) (r : List V → Hp → VK → Prop) : Prop :=
  ∀ (pins : List (Addr × Obj)) (s : Shared) (σ : St) (H : Hp) (xs : List V) (us : List Value) (Q : VK), Inv X pins σ H s → Vals xs us → r xs H Q →
    wpAny (model X.prog X.w) X.A (call f us) (EP X pins σ Q) X.xe s
def TruR (X : Cx) (r : V → Hp → (Bool → Hp → Prop) → Prop) : Prop :=
  ∀ (pins : List (Addr × Obj)) (s : Shared) (σ : St) (H : Hp) (x : V) (v : Value) (Q : Bool → Hp → Prop), Inv X pins σ H s → RelV x v → r x H Q →
    wpAny (model X.prog X.w) X.A (truthy v) (TP X pins σ Q) X.xe s

def tOp (r : R2) (ta tb : TE) : TE := fun σ H Q => ta σ H fun x H1 => tb σ H1 fun y H2 => r x y H2 Q
def tUn (r : V → Hp → VK → Prop) (ta : TE) : TE := fun σ H Q => ta σ H fun x H1 => r x H1 Q
def rI (C : Int → Int → Prop) (g : Int → Int → V) : R2 := fun x y H Q => ∃ i j, x = .int i ∧ y = .int j ∧ C i j ∧ Q (g i j) H
def rI0 (g : Int → Int → V) : R2 := fun x y H Q => ∃ i j, x = .int i ∧ y = .int j ∧ Q (g i j) H
def rU (g : Int → V) : V → Hp → VK → Prop := fun x H Q => ∃ i, x = .int i ∧ Q (g i) H

section
variable {X : Cx} {a b c : Expr} {ta tb tc : TE} {pos : Pos}

theorem binT (ha : PE X a ta) (hb : PE X b tb) {pins : List (Addr × Obj)} {s : Shared} {σ : St} {H : Hp} {R : V → V → Hp → Prop} (I : Inv X pins σ H s)
    (h : ta σ H fun x H1 => tb σ H1 fun y H2 => R x y H2) {Q : Value → Shared → Prop} {f : Value → Value → Sem Value}
    (hf : ∀ v u s2 x y H2, Inv X pins σ H2 s2 → RelV x v → RelV y u → R x y H2 → wpAny (model X.prog X.w) X.A (f v u) Q X.xe s2) :
    wpAny (model X.prog X.w) X.A (eval a X.env) (fun v s₁ => wpAny (model X.prog X.w) X.A (eval b X.env) (fun u s₂ => wpAny (model X.prog X.w) X.A (f v u) Q X.xe s₂) X.xe s₁) X.xe s := by
  refine thn (ha pins s σ H _ I h) fun v s1 ⟨x, H1, I1, r1, q1⟩ => ?_
  refine thn (hb pins s1 σ H1 _ I1 q1) fun u s2 ⟨y, H2, I2, r2, q2⟩ => ?_
  exact hf v u s2 x y H2 I2 r1 r2 q2

theorem pe_op {op : Operator} {r : R2} (ho : OpR X (binaryOp op) r) (ha : PE X a ta) (hb : PE X b tb) : PE X (.BinOp a op b pos) (tOp r ta tb) := by
  intro pins s σ H Q I h
  exact wpAny_BinOp (binT ha hb I h fun v u s2 x y H2 I2 rx ry q => ho pins s2 σ H2 x y v u Q I2 rx ry q)
theorem pe_un {op : UnaryOp} {r : V → Hp → VK → Prop} (ho : UnR X (unaryOp op) r) (ha : PE X a ta) : PE X (.UnaryOp op a pos) (tUn r ta) := by
  intro pins s σ H Q I h
  exact UnaryOp_ (thn (ha pins s σ H _ I h) fun v s1 ⟨x, H1, I1, r1, q1⟩ => ho pins s1 σ H1 x v Q I1 r1 q1)
theorem opI {f : Value → Value → Sem Value} {C : Int → Int → Prop} {g : Int → Int → Int}
    (rule : ∀ (i j : Int) (t u : Tok) (s : Shared) (Q : Value → Shared → Prop) (E : Value → Shared → Prop), C i j → Q (.int (g i j) s.toks) { s with toks := s.toks + 1 } → wpAny (model X.prog X.w) X.A (f (.int i t) (.int j u)) Q E s) :
    OpR X f (rI C fun i j => .int (g i j)) := by
  intro pins s σ H x y v u Q I rx ry h
  obtain ⟨i, j, rfl, rfl, hc, q⟩ := h
  obtain ⟨t, rfl⟩ := rx
  obtain ⟨t', rfl⟩ := ry
  exact rule i j t t' s _ _ hc ⟨.int (g i j), H, I.tok _, ⟨_, rfl⟩, q⟩
theorem opI0 {f : Value → Value → Sem Value} {g : Int → Int → Int}
    (rule : ∀ (i j : Int) (t u : Tok) (s : Shared) (Q : Value → Shared → Prop) (E : Value → Shared → Prop), Q (.int (g i j) s.toks) { s with toks := s.toks + 1 } → wpAny (model X.prog X.w) X.A (f (.int i t) (.int j u)) Q E s) :
    OpR X f (rI0 fun i j => .int (g i j)) := by
  intro pins s σ H x y v u Q I rx ry h
  obtain ⟨i, j, rfl, rfl, q⟩ := h
  obtain ⟨t, rfl⟩ := rx
  obtain ⟨t', rfl⟩ := ry
  exact rule i j t t' s _ _ ⟨.int (g i j), H, I.tok _, ⟨_, rfl⟩, q⟩
theorem opB0 {f : Value → Value → Sem Value} {g : Int → Int → Bool}
    (rule : ∀ (i j : Int) (t u : Tok) (s : Shared) (Q : Value → Shared → Prop) (E : Value → Shared → Prop), Q (.bool (g i j)) s → wpAny (model X.prog X.w) X.A (f (.int i t) (.int j u)) Q E s) :
    OpR X f (rI0 fun i j => .bl (g i j)) := by
  intro pins s σ H x y v u Q I rx ry h
  obtain ⟨i, j, rfl, rfl, q⟩ := h
  obtain ⟨t, rfl⟩ := rx
  obtain ⟨t', rfl⟩ := ry
  exact rule i j t t' s _ _ ⟨.bl (g i j), H, I, rfl, q⟩

def CPow (i j : Int) : Prop := 0 ≤ j ∧ j ≤ 1000000 ∧ i.natAbs < 2 ^ 64
def CMul (i j : Int) : Prop := (-(2 ^ 64) < i ∧ i < 2 ^ 64) ∨ (-(2 ^ 64) < j ∧ j < 2 ^ 64)
theorem CMul.ok {i j : Int} (h : CMul i j) : IntMulOk i j := by
  rcases h with ⟨h1, h2⟩ | ⟨h1, h2⟩
  · exact .of_left (intBits_le_64 h1 h2)
  · exact .of_right (intBits_le_64 h1 h2)
theorem op_add : OpR X (binaryOp .Add) (rI0 fun i j => .int (i + j)) := opI0 fun _ _ _ _ _ _ _ q => add_int q
theorem op_sub : OpR X (binaryOp .Sub) (rI0 fun i j => .int (i - j)) := opI0 fun _ _ _ _ _ _ _ q => sub_int q
theorem op_mul : OpR X (binaryOp .Mult) (rI CMul fun i j => .int (i * j)) := opI fun _ _ _ _ _ _ _ hc q => mul_int q hc.ok
theorem op_mod : OpR X (binaryOp .Mod) (rI (fun _ j => 0 < j) fun i j => .int (i % j)) := opI fun i j _ _ _ _ _ hc q => by
  have h1 : (0 : Int) < j := hc
  exact mod_int' (by omega) (by rw [Int.fmod_eq_emod_of_nonneg i (by omega)]; exact q)
theorem op_pow : OpR X (binaryOp .Pow) (rI CPow fun i j => .int (i ^ j.toNat)) := opI fun _ _ _ _ _ _ _ hc q => pow_int_small hc.1 hc.2.1 hc.2.2 q
theorem unI {f : Value → Sem Value} {g : Int → Int}
    (rule : ∀ (i : Int) (t : Tok) (s : Shared) (Q : Value → Shared → Prop) (E : Value → Shared → Prop), Q (.int (g i) s.toks) { s with toks := s.toks + 1 } → wpAny (model X.prog X.w) X.A (f (.int i t)) Q E s) :
    UnR X f (rU fun i => .int (g i)) := by
  intro pins s σ H x v Q I rx h
  obtain ⟨i, rfl, q⟩ := h
  obtain ⟨t, rfl⟩ := rx
  exact rule i t s _ _ ⟨.int (g i), H, I.tok _, ⟨_, rfl⟩, q⟩
theorem un_neg : UnR X (unaryOp .USub) (rU fun i => .int (-i)) := unI fun _ _ _ _ _ q => neg_int q
end

def scal : V → V → Bool
  | .non, .non => true | .non, .int _ => true | .int _, .non => true | .non, .bl _ => true | .bl _, .non => true | .non, .str _ => true | .str _, .non => true
  | .int _, .int _ => true | .bl _, .bl _ => true | .str _, .str _ => true | .byt _, .byt _ => true
  | .int _, .str _ => true | .str _, .int _ => true | .bl _, .str _ => true | .str _, .bl _ => true
  | _, _ => false
def rEq : R2 := fun x y H Q => scal x y = true ∧ Q (.bl (decide (x = y))) H
def rNe : R2 := fun x y H Q => scal x y = true ∧ Q (.bl (!decide (x = y))) H

theorem dec_int {i j : Int} : decide (V.int i = V.int j) = (i == j) := by
  rw [Bool.eq_iff_iff]
  simp
theorem dec_bl {i j : Bool} : decide (V.bl i = V.bl j) = (i == j) := by
  rw [Bool.eq_iff_iff]
  simp
theorem dec_str {i j : Str} : decide (V.str i = V.str j) = (i == j) := by
  rw [Bool.eq_iff_iff]
  simp
theorem dec_byt {i j : Array UInt8} : decide (V.byt i = V.byt j) = (i.toList == j.toList) := by
  rw [Bool.eq_iff_iff]
  cases i
  cases j
  simp

section
variable {X : Cx} {a b c : Expr} {ta tb tc : TE} {pos : Pos}
theorem fin_bl {pins : List (Addr × Obj)} {σ : St} {H : Hp} {s : Shared} {Q : VK} {k k' : Bool} (I : Inv X pins σ H s) (q : Q (.bl k) H) (e : k = k') : EP X pins σ Q (.bool k') s := by
  subst e
  exact ⟨.bl k, H, I, rfl, q⟩
theorem op_eq : OpR X (compareOp .Eq) rEq := by
  intro pins s σ H x y v u Q I rx ry h
  obtain ⟨hs, q⟩ := h
  cases x with
  | non =>
    cases rx
    cases y with
    | non => cases ry; exact PySem.EqNone.eq_none_none (fin_bl I q (by simp))
    | bl j => cases ry; exact PySem.EqNone.eq_none_bool (fin_bl I q (by simp))
    | int j => obtain ⟨t', rfl⟩ := ry; exact PySem.EqNone.eq_none_int (fin_bl I q (by simp))
    | str j => obtain ⟨t', rfl⟩ := ry; exact PySem.EqNone.eq_none_str (fin_bl I q (by simp))
    | _ => exact absurd (show false = true from hs) Bool.false_ne_true
  | bl i =>
    cases rx
    cases y with
    | non => cases ry; exact PySem.EqNone.eq_bool_none (fin_bl I q (by simp))
    | bl j => cases ry; exact eq_bool (fin_bl I q dec_bl)
    | str j => obtain ⟨t', rfl⟩ := ry; exact PySem.EqMixed.eq_bool_str (fin_bl I q (by simp))
    | _ => exact absurd (show false = true from hs) Bool.false_ne_true
  | int i =>
    obtain ⟨t, rfl⟩ := rx
    cases y with
    | non => cases ry; exact PySem.EqNone.eq_int_none (fin_bl I q (by simp))
    | int j => obtain ⟨t', rfl⟩ := ry; exact eq_int (fin_bl I q dec_int)
    | str j => obtain ⟨t', rfl⟩ := ry; exact PySem.EqMixed.eq_int_str (fin_bl I q (by simp))
    | _ => exact absurd (show false = true from hs) Bool.false_ne_true
  | str i =>
    obtain ⟨t, rfl⟩ := rx
    cases y with
    | non => cases ry; exact PySem.EqNone.eq_str_none (fin_bl I q (by simp))
    | bl j => cases ry; exact PySem.EqMixed.eq_str_bool (fin_bl I q (by simp))
    | int j => obtain ⟨t', rfl⟩ := ry; exact PySem.EqMixed.eq_str_int (fin_bl I q (by simp))
    | str j => obtain ⟨t', rfl⟩ := ry; exact eq_str (fin_bl I q dec_str)
    | _ => exact absurd (show false = true from hs) Bool.false_ne_true
  | byt i =>
    obtain ⟨t, rfl⟩ := rx
    cases y with
    | byt j => obtain ⟨t', rfl⟩ := ry; exact PySem.W.eq_bytes (fin_bl I q dec_byt)
    | _ => exact absurd (show false = true from hs) Bool.false_ne_true
  | _ => cases y <;> exact absurd (show false = true from hs) Bool.false_ne_true
theorem op_ne : OpR X (compareOp .NotEq) rNe := by
  intro pins s σ H x y v u Q I rx ry h
  obtain ⟨hs, q⟩ := h
  cases x with
  | non =>
    cases rx
    cases y with
    | non => cases ry; exact PySem.EqNone.ne_none_none (fin_bl I q (by simp))
    | bl j => cases ry; exact PySem.EqNone.ne_none_bool (fin_bl I q (by simp))
    | int j => obtain ⟨t', rfl⟩ := ry; exact PySem.EqNone.ne_none_int (fin_bl I q (by simp))
    | str j => obtain ⟨t', rfl⟩ := ry; exact PySem.EqNone.ne_none_str (fin_bl I q (by simp))
    | _ => exact absurd (show false = true from hs) Bool.false_ne_true
  | bl i =>
    cases rx
    cases y with
    | non => cases ry; exact PySem.EqNone.ne_bool_none (fin_bl I q (by simp))
    | bl j => cases ry; exact ne_bool (fin_bl I q (congrArg not dec_bl))
    | str j => obtain ⟨t', rfl⟩ := ry; exact PySem.EqMixed.ne_bool_str (fin_bl I q (by simp))
    | _ => exact absurd (show false = true from hs) Bool.false_ne_true
  | int i =>
    obtain ⟨t, rfl⟩ := rx
    cases y with
    | non => cases ry; exact PySem.EqNone.ne_int_none (fin_bl I q (by simp))
    | int j => obtain ⟨t', rfl⟩ := ry; exact ne_int (fin_bl I q (congrArg not dec_int))
    | str j => obtain ⟨t', rfl⟩ := ry; exact PySem.EqMixed.ne_int_str (fin_bl I q (by simp))
    | _ => exact absurd (show false = true from hs) Bool.false_ne_true
  | str i =>
    obtain ⟨t, rfl⟩ := rx
    cases y with
    | non => cases ry; exact PySem.EqNone.ne_str_none (fin_bl I q (by simp))
    | bl j => cases ry; exact PySem.EqMixed.ne_str_bool (fin_bl I q (by simp))
    | int j => obtain ⟨t', rfl⟩ := ry; exact PySem.EqMixed.ne_str_int (fin_bl I q (by simp))
    | str j => obtain ⟨t', rfl⟩ := ry; exact ne_str (fin_bl I q (congrArg not dec_str))
    | _ => exact absurd (show false = true from hs) Bool.false_ne_true
  | byt i =>
    obtain ⟨t, rfl⟩ := rx
    cases y with
    | byt j => obtain ⟨t', rfl⟩ := ry; exact PySem.W.ne_bytes (fin_bl I q (congrArg not dec_byt))
    | _ => exact absurd (show false = true from hs) Bool.false_ne_true
  | _ => cases y <;> exact absurd (show false = true from hs) Bool.false_ne_true

theorem op_lt : OpR X (compareOp .Lt) (rI0 fun i j => .bl (decide (i < j))) := opB0 fun _ _ _ _ _ _ _ q => lt_int q
theorem op_le : OpR X (compareOp .LtE) (rI0 fun i j => .bl (decide (i ≤ j))) := opB0 fun _ _ _ _ _ _ _ q => le_int q
theorem op_gt : OpR X (compareOp .Gt) (rI0 fun i j => .bl (decide (j < i))) := opB0 fun _ _ _ _ _ _ _ q => gt_int q
theorem op_isN : OpR X (compareOp .Is) (fun x y H Q => y = .non ∧ Q (.bl (decide (x = .non))) H) := by
  intro pins s σ H x y v u Q I rx ry h
  obtain ⟨rfl, q⟩ := h
  cases ry
  refine is_none_gen (fin_bl I q ?_)
  cases x <;> first
    | (cases rx; rfl)
    | (obtain ⟨t, rfl⟩ := rx; rfl)
theorem op_notN : OpR X (compareOp .IsNot) (fun x y H Q => y = .non ∧ Q (.bl (!decide (x = .non))) H) := by
  intro pins s σ H x y v u Q I rx ry h
  obtain ⟨rfl, q⟩ := h
  cases ry
  refine isnot_none_gen (fin_bl I q ?_)
  cases x <;> first
    | (cases rx; rfl)
    | (obtain ⟨t, rfl⟩ := rx; rfl)

theorem nomark (b : Expr) {op : CmpOp} (h : op ≠ .In := by decide) (h2 : op ≠ .NotIn := by decide) : behindInMarks op b = false := by
  have e1 : (op == CmpOp.In) = false := by cases op <;> first | rfl | exact absurd rfl h
  have e2 : (op == CmpOp.NotIn) = false := by cases op <;> first | rfl | exact absurd rfl h2
  cases b <;> simp [behindInMarks, e1, e2]
theorem pe_cmpR {op : CmpOp} {r : R2} (ho : OpR X (compareOp op) r) (ha : PE X a ta) (hb : PE X b tb) (hm : behindInMarks op b = false) : PE X (.Compare a [op] [b] pos) (tOp r ta tb) := by
  intro pins s σ H Q I h
  exact wpAny_Compare1 (binT ha hb I h fun v u s2 x y H2 I2 rx ry q => ho pins s2 σ H2 x y v u Q I2 rx ry q) hm
def tTest (t : TE) : TT := fun σ H Q => t σ H fun x H' => ∃ k, x = .bl k ∧ Q k H'
theorem pt_cmpR {op : CmpOp} {r : R2} (ho : OpR X (compareOp op) r) (ha : PE X a ta) (hb : PE X b tb) (hm : behindInMarks op b = false) : PT X (.Compare a [op] [b] pos) (tTest (tOp r ta tb)) := by
  intro pins s σ H Q I h
  refine wpAny_isTrue_Compare1 (thn (ha pins s σ H _ I h) fun v s1 ⟨x, H1, I1, r1, q1⟩ => thn (hb pins s1 σ H1 _ I1 q1) fun u s2 ⟨y, H2, I2, r2, q2⟩ =>
    thn (ho pins s2 σ H2 x y v u _ I2 r1 r2 q2) fun c s3 ⟨z, H3, I3, r3, k, e, q3⟩ => ?_) hm
  subst e
  cases r3
  exact wpAny_truthy_bool ⟨H3, I3, q3⟩
def TruV (K : PySem.W.Frag) (x : V) (H : Hp) (k : Bool) : Prop :=
  match x with
  | .non => k = false
  | .bl b => k = b
  | .int i => k = (i != 0)
  | .str y => y.length ≤ sizeLine ∧ k = ((y.length : Int) != 0)
  | .byt y => y.size ≤ sizeLine ∧ k = ((y.size : Int) != 0)
  | .ref p => (∃ xs, SqL K H p xs ∧ k = !xs.isEmpty) ∨ (∃ xs, SqT K H p xs ∧ k = !xs.isEmpty) ∨ ∃ kvs, H p = some (.dK kvs) ∧ k = !kvs.isEmpty
  | _ => False
theorem isEmpty_kv {κ : Type} {kvs : List (κ × V)} {vs : List (κ × Value)} (r : KV kvs vs) : (!vs.isEmpty) = !kvs.isEmpty := by
  cases r <;> rfl
theorem isEmpty_of {xs : List V} {its : List Value} (r : Vals xs its) : (!its.toArray.isEmpty) = !xs.isEmpty := by
  cases r <;> simp
theorem line63 : (sizeLine : Nat) < 2 ^ 63 := by rw [sizeLine_eq]; decide
theorem tru_ok : TruR X (fun x H Q => ∃ k, TruV X.K x H k ∧ Q k H) := by
  intro pins s σ H x v Q I rx h
  obtain ⟨k, e, q⟩ := h
  have hl := line63
  have hs : sizeLine = 16777216 := sizeLine_eq
  cases x with
  | non =>
    cases rx
    have e' : k = false := e
    subst e'
    exact truthy_none ⟨H, I, q⟩
  | bl b =>
    cases rx
    have e' : k = b := e
    subst e'
    exact wpAny_truthy_bool ⟨H, I, q⟩
  | int i =>
    obtain ⟨t, rfl⟩ := rx
    have e' : k = (i != 0) := e
    subst e'
    exact PySem.P.truthy_int ⟨H, I, q⟩
  | str y =>
    obtain ⟨t, rfl⟩ := rx
    obtain ⟨hy, e'⟩ : y.length ≤ sizeLine ∧ k = ((y.length : Int) != 0) := e
    subst e'
    exact PySem.P.truthy_str (by omega) ⟨H, I.tok _, q⟩
  | byt y =>
    obtain ⟨t, rfl⟩ := rx
    obtain ⟨hy, e'⟩ : y.size ≤ sizeLine ∧ k = ((y.size : Int) != 0) := e
    subst e'
    exact PySem.W.truthy_bytes (by omega) ⟨H, I.tok _, q⟩
  | ref p =>
    cases rx
    have e' : (∃ xs, SqL X.K H p xs ∧ k = !xs.isEmpty) ∨ (∃ xs, SqT X.K H p xs ∧ k = !xs.isEmpty) ∨ ∃ kvs, H p = some (.dK kvs) ∧ k = !kvs.isEmpty := e
    rcases e' with ⟨xs, hx, e'⟩ | ⟨xs, hx, e'⟩ | ⟨kvs, hx, e'⟩
    · subst e'
      obtain ⟨its, r, pl, hz⟩ := I.list hx
      have hlen := r.length
      exact wpAny_truthy_list pl.isList (by simp only [List.size_toArray]; omega) ⟨H, I.tok _, by rw [isEmpty_of r]; exact q⟩
    · subst e'
      obtain ⟨its, r, pl, hz⟩ := I.tuple hx
      have hlen := r.length
      exact truthy_tuple pl (by simp only [List.size_toArray]; omega) ⟨H, I.tok _, by rw [isEmpty_of r]; exact q⟩
    · subst e'
      obtain ⟨hz, hS, vs, r, m⟩ : kvs.length ≤ sizeLine ∧ (p == sysModules) = false ∧ ∃ vs, KV kvs vs ∧ s.heap.DictOf (mixKind X.prog X.w) p vs := I.hok p _ hx
      have hlen : kvs.length = vs.length := Paired.length r
      exact wpAny_truthy_dict hS m (by omega) ⟨H, I.tok _, by rw [isEmpty_kv r]; exact q⟩
  | _ => exact (show False from e).elim
theorem vals1 {x : V} {us : List Value} (r : Vals [x] us) : ∃ u, us = [u] ∧ RelV x u := by
  cases r with
  | cons r1 r2 => cases r2; exact ⟨_, rfl, r1⟩
theorem vals2 {x y : V} {us : List Value} (r : Vals [x, y] us) : ∃ u w', us = [u, w'] ∧ RelV x u ∧ RelV y w' := by
  cases r with
  | cons r1 r2 =>
    cases r2 with
    | cons r3 r4 => cases r4; exact ⟨_, _, rfl, r1, r3⟩
theorem call_abs : CallR X (.builtin "abs") (fun xs H Q => ∃ i, xs = [.int i] ∧ Q (.int (if i < 0 then -i else i)) H) := by
  intro pins s σ H xs us Q I r h
  obtain ⟨i, rfl, q⟩ := h
  obtain ⟨u, rfl, t, rfl⟩ := vals1 r
  exact call_abs_int fun u tk => ⟨.int (if i < 0 then -i else i), H, I.tok _, ⟨_, rfl⟩, q⟩
theorem call_max2 (hc : X.calm = true) : CallR X (.builtin "max") (fun xs H Q => ∃ i j, xs = [.int i, .int j] ∧ Q (.int (if j > i then j else i)) H) := by
  intro pins s σ H xs us Q I r h
  obtain ⟨i, j, rfl, q⟩ := h
  obtain ⟨u, w', rfl, ⟨t, rfl⟩, ⟨t', rfl⟩⟩ := vals2 r
  refine max_two_ints (I.ok.hd hc) fun h' tk k => ⟨_, H, I.kept k, ?_, q⟩
  by_cases hj : j > i
  · rw [if_pos hj, if_pos hj]; exact ⟨_, rfl⟩
  · rw [if_neg hj, if_neg hj]; exact ⟨_, rfl⟩
end
end L2

namespace L2
open PySem PySem.Spec PyProof.Rows

structure ObjM (h : Heap) (x dx C : Addr) (mA : Str → Option Value) : Prop where
  obj : h.get? x = some (PySem.W.instObj C dx)
  ns : h.Ns1 dx mA
  ne : dx ≠ x

section
variable {prog : Program} {w : World} {A : Around} {E : Value → Shared → Prop} {s : Shared} {K : PySem.W.Frag} {x dx C f : Addr} {mA : Str → Option Value} {name : Str} {v : Value}

end

section
variable {P : Program} {w : World} {H H' : Hp} {h h' : Heap} {a C dx : Addr} {fs fs' : List (Str × V)}
end

structure Cls (K : PySem.W.Frag) (C : Addr) : Prop where
  pg : PySem.W.plainGet K C Str.empty = true
  hd : PySem.W.hasDictIn K C = true
  po : PySem.W.plainOver K C = true
  sa : PySem.W.findIn K (.ref C) "__setattr__" = some (some (.builtin "object.__setattr__"))
structure Con (K : PySem.W.Frag) (C : Addr) (f : Str) (v : V) (u : Value) : Prop where
  at_ : PySem.W.findIn K (.ref C) f = some (some u)
  rel : RelV v u
  get : PySem.W.specialIn K u "__get__" = some none
  cp : PySem.W.copiedNames.contains f = false
structure Meth (K : PySem.W.Frag) (C : Addr) (m : Str) (f : Addr) : Prop where
  at_ : PySem.W.findIn K (.ref C) m = some (some (.ref f))
  fn : PySem.W.isFn K (.ref f) = true
  kp : PySem.W.keepIn K (.ref f) = true

section
variable {X : Cx} {pins : List (Addr × Obj)} {σ : St} {H : Hp} {s : Shared} {a C dx : Addr} {fs : List (Str × V)} {f : Str} {v : V} {A : Around} {E : Value → Shared → Prop}

end

section
variable {X : Cx} {o e value : Expr} {f : Str} {pos pos' tpos : Pos} {ta tv : TE}
end

section
variable {X : Cx} {pins : List (Addr × Obj)} {σ : St} {H : Hp} {s : Shared} {A : Around} {E : Value → Shared → Prop} {Q : Value → Shared → Prop} {c : Value} {b : Bool}
inductive TyOf (K : PySem.W.Frag) (H : Hp) : V → Value → Prop where
  | non : TyOf K H .non (.type "NoneType")
  | bl (x : Bool) : TyOf K H (.bl x) (.type "bool")
  | int (i : Int) : TyOf K H (.int i) (.type "int")
  | str (x : Str) : TyOf K H (.str x) (.type "str")
  | flt (x : UInt64) : TyOf K H (.flt x) (.type "float")
  | lst {a : Addr} {xs : List V} (e : H a = some (.lst xs)) : TyOf K H (.ref a) (.type "list")
  | frz {a : Addr} {o : Obj} {xs : List V} (e : H a = some (.frz o (.lst xs))) : TyOf K H (.ref a) (.type "list")
  | tup {a : Addr} {xs : List V} (e : H a = some (.tup xs)) : TyOf K H (.ref a) (.type "tuple")
  | dK {a : Addr} {kvs : List (Key × V)} (e : H a = some (.dK kvs)) : TyOf K H (.ref a) (.type "dict")
  | dT {a : Addr} {kvs : List (List Key × V)} (e : H a = some (.dT kvs)) : TyOf K H (.ref a) (.type "dict")
  | ins {a C dx : Addr} {fs : List (Str × V)} (e : H a = some (.ins C dx fs)) (cl : Cls K C) (ha : PySem.W.findIn K (.ref C) "__class__" = some (some (.builtin "object.__class__")))
      (hn : PySem.W.specialIn K (.builtin "object.__class__") "__get__" = some (some (.builtin "getset_descriptor.__get__"))) (htk : PySem.W.takesIn K (.builtin "object.__class__") = some true)
      (hm : PySem.W.mroIn K C (.type "object") = some true) : TyOf K H (.ref a) (.ref C)
end
end L2

namespace L2
open PySem PySem.Spec PyProof.Rows

structure Room (k : Nat) (A : Around) : Prop where
  hd : A.handled = none
  dp : A.depth + 3 * k + 5 < recursionLimit
  un : A.units + 16 * k + 200 < cLine
theorem Room.mono {j k : Nat} {A : Around} (r : Room k A) (h : j ≤ k) : Room j A := ⟨r.hd, by have := r.dp; omega, by have := r.un; omega⟩
theorem Room.deeper {k : Nat} {A : Around} (r : Room (k + 1) A) (env : Env) : Room k (A.deeper env) :=
  ⟨r.hd, by have := r.dp; show A.depth + 1 + 3 * k + 5 < _; omega, by have := r.un; show A.units + 3 + 16 * k + 200 < _; omega⟩
theorem Room.depth {k : Nat} {A : Around} (r : Room k A) : A.depth < recursionLimit := by have := r.dp; omega
theorem Room.units {k : Nat} {A : Around} (r : Room k A) : A.units + 64 < cLine := by have := r.un; omega
def tNil : TA := fun _ H Q => Q [] H
def tCons (ta : TE) (tr : TA) : TA := fun σ H Q => ta σ H fun x H1 => tr σ H1 fun xs H2 => Q (x :: xs) H2
section
variable {X : Cx} {e : Expr} {es : List Expr} {te : TE} {t : TA} {pos : Pos}
theorem pa_nil : PA X [] tNil := fun _ _ _ _ H Q I h => Calls.spliced_nil ⟨[], H, I, .nil, h⟩
theorem pa_cons (ha : PE X e te) (hr : PA X es t) (hs : starEach (e :: es) X.env = (false, eval e X.env) :: starEach es X.env := by rfl) : PA X (e :: es) (tCons te t) := by
  intro pos pins s σ H Q I h
  rw [hs]
  show wpAny _ _ (spliced ((false, eval e X.env) :: backTo pos (starEach es X.env))) _ _ s
  refine Calls.spliced_cons (thn (ha pins s σ H _ I h) fun u s1 ⟨x, H1, I1, r1, q1⟩ => ?_)
  exact thn (hr pos pins s1 σ H1 _ I1 q1) fun us s2 ⟨xs, H2, I2, r2, q2⟩ => ⟨x :: xs, H2, I2, .cons r1 r2, q2⟩

def tTup (t : TA) : TE := fun σ H Q => t σ H fun xs H1 => xs.length ≤ sizeLine ∧ ∀ p, H1 p = none → Q (.ref p) (upd H1 p (.tup xs))
def tLst (t : TA) : TE := fun σ H Q => t σ H fun xs H1 => xs.length ≤ sizeLine ∧ ∀ p, H1 p = none → Q (.ref p) (upd H1 p (.lst xs))
theorem pe_tup {x1} (h : PA X es t) : PE X (.Tuple es x1 pos) (tTup t) := by
  intro pins s σ H Q I hq
  refine wpAny_Tuple_spliced (thn (h pos pins s σ H _ I hq) fun us s1 ⟨xs, H1, I1, r, z, q⟩ => ⟨by rw [← r.length]; exact z, ?_⟩)
  have hf : H1 s1.heap.objs.size = none := I1.hok.fresh (Nat.le_refl _)
  refine ⟨.ref s1.heap.objs.size, upd H1 s1.heap.objs.size (.tup xs), I1.laid (t' := s1.toks) (fun b u e => Heap.get?_push_of_some _ e) (Nat.le_refl _) ?_, rfl, q _ hf⟩
  exact ⟨z, us, r, ⟨_, Heap.get?_push_size _ rfl, rfl, _, rfl⟩⟩
theorem pe_lst (h : PA X es t) : PE X (.List es pos) (tLst t) := by
  intro pins s σ H Q I hq
  refine wpAny_List_spliced (thn (h pos pins s σ H _ I hq) fun us s1 ⟨xs, H1, I1, r, z, q⟩ => ⟨by rw [← r.length]; exact z, ?_⟩)
  have hf : H1 s1.heap.objs.size = none := I1.hok.fresh (Nat.le_refl _)
  refine ⟨.ref s1.heap.objs.size, upd H1 s1.heap.objs.size (.lst xs), I1.laid (t' := s1.toks) (fun b u e => Heap.get?_push_of_some _ e) (Nat.le_refl _) ?_, rfl, q _ hf⟩
  exact ⟨z, us, 0, r, Heap.get?_push_size _ rfl⟩
end

abbrev Sp := List V → Hp → VK → XK → Prop
abbrev CXT := List Env → Hp → Shared → XK → Value → Shared → Prop

structure Env0 (P : Program) (w : World) (K : PySem.W.Frag) (mg : Str → Option Value) (base : Heap) (A : Around) (outer : List Env) (s : Shared) (H : Hp) : Prop where
  frames : A.frames = some outer
  mod : Mod K mg base
  bs : ∀ b o, base.get? b = some o → s.heap.get? b = some o ∧ H b = none
  bsz : base.objs.size ≤ s.heap.objs.size
  funs : s.heap.FunFrames base outer
  frf : ∀ b ∈ frs outer, H b = none
  hok : HOk P w H s.heap
  bare : AllBare s.gens
def CE (outer : List Env) (P : Program) (w : World) (H : Hp) (s : Shared) (Q : VK) (u : Value) (s' : Shared) : Prop :=
  ∃ v H', s'.os = s.os ∧ AllBare s'.gens ∧ Un (frs outer) [] H H' s.heap s'.heap ∧ HOk P w H' s'.heap ∧ RelV v u ∧ Q v H'
def CR (CX : CXT) (outer : List Env) (P : Program) (w : World) (H : Hp) (s : Shared) (Q : VK) (E : XK) (r : Result) (s' : Shared) : Prop :=
  match r with
  | .ok (.ret u) => CE outer P w H s Q u s'
  | .ok _ => False
  | .error e => CX outer H s E e s'
structure FnOk (P : Program) (w : World) (K : PySem.W.Frag) (mg : Str → Option Value) (base : Heap) (CX : CXT) (k : Nat) (f : Addr) (fd : FuncData) (ps : List Str) (sp : Sp) : Prop where
  len : ∀ vs H Q E, sp vs H Q E → vs.length = ps.length
  run : ∀ (A : Around) (outer : List Env) (s : Shared) (H : Hp) (args : Args) (us : List Value) (vs : List V) (Q : VK) (E : XK), Room k A → Env0 P w K mg base A outer s H → BindsTo s fd args (ps.zip us) → Vals vs us → sp vs H Q E →
    codeAny (model P w) A (.call (.ref f) args) (CR CX outer P w H s Q E) s
section
variable {X : Cx} {pins : List (Addr × Obj)} {σ : St} {H : Hp} {s s' : Shared}
theorem Inv.env0 (I : Inv X pins σ H s) : Env0 X.prog X.w X.K X.mg X.base X.A X.stack s H :=
  ⟨I.ok.frames, I.ok.mod, I.bs, Nat.le_trans I.ok.bsz I.sz, I.stack, I.stkFree, I.hok, I.bare⟩
theorem Inv.after {Q : VK} {u : Value} (I : Inv X pins σ H s) (h : CE X.stack X.prog X.w H s Q u s') : EP X pins σ Q u s' := by
  obtain ⟨v, H', os, bare, un, hok, r, q⟩ := h
  obtain ⟨hh, g, d, t, os'⟩ := s'
  obtain rfl : os' = s.os := os
  exact ⟨v, H', I.call (h' := hh) (g' := g) (d' := d) (t' := t) (ch := []) un hok bare (fun b z => absurd z (by simp)), r, q⟩
end

def tCall (sp : Sp) (dvs : List V) (E : XK) (t : TA) : TE := fun σ H Q => t σ H fun vs H1 => sp (vs ++ dvs) H1 Q E
def Binds (K : PySem.W.Frag) (fd : FuncData) (ps : List Str) (ds : List Value) : Prop :=
  ∀ (s : Shared) (us : List Value), K.In s.heap → (us ++ ds).length = ps.length → BindsTo s fd ⟨us, []⟩ (ps.zip (us ++ ds))
theorem Binds.all {K : PySem.W.Frag} {fd : FuncData} {ps : List Str} (h : ∀ us : List Value, us.length = ps.length → bindArgs fd ⟨us, []⟩ = pure (ps.zip us)) : Binds K fd ps [] := fun s us _ hl => by
  rw [List.append_nil] at hl ⊢
  exact .of_eq (h us hl)

def Passes (CX : CXT) (X : Cx) (E : XK) : Prop := ∀ (pins : List (Addr × Obj)) (σ : St) (H : Hp) (s : Shared) (e : Value) (s' : Shared), Inv X pins σ H s → CX X.stack H s E e s' → X.xe e s'

section
variable {X : Cx} {CX : CXT} {k : Nat} {f C : Addr} {fd : FuncData} {ps : List Str} {sp : Sp} {dvs : List V} {ds : List Value} {E : XK} {x m : Str} {p pos apos : Pos} {e o : Expr} {es : List Expr} {ta : TE} {t : TA}

theorem run_fn {pins : List (Addr × Obj)} {σ : St} {H : Hp} {s : Shared} {Q : VK} {us : List Value} {vs : List V} (F : FnOk X.prog X.w X.K X.mg X.base CX k f fd ps sp) (hr : Room k X.A) (hb : Binds X.K fd ps ds) (hd : Vals dvs ds) (hx : Passes CX X E)
    (I : Inv X pins σ H s) (r : Vals vs us) (h : sp (vs ++ dvs) H Q E) : wpAny (model X.prog X.w) X.A (call (.ref f) us) (EP X pins σ Q) X.xe s := by
  have r2 : Vals (vs ++ dvs) (us ++ ds) := r.append hd
  have hl : (us ++ ds).length = ps.length := by rw [← r2.length]; exact F.len _ _ _ _ h
  refine wpAny_call (codeAny_mono (F.run X.A X.stack s H ⟨us, []⟩ (us ++ ds) (vs ++ dvs) Q E hr I.env0 (hb s us I.kIn hl) r2 h) fun r s' hq => ?_)
  cases r with
  | error e => exact hx pins σ H s e s' I hq
  | ok fl =>
    cases fl with
    | ret u => exact I.after hq
    | next => exact False.elim hq
    | brk => exact False.elim hq
    | cont => exact False.elim hq

theorem pe_call (F : FnOk X.prog X.w X.K X.mg X.base CX k f fd ps sp) (hr : Room k X.A) (hg : Gl X x) (hm : X.mg x = some (.ref f)) (hk : PySem.W.keepIn X.K (.ref f) = true) (hb : Binds X.K fd ps ds) (hd : Vals dvs ds) (hx : Passes CX X E)
    (ha : PA X (e :: es) t) (hdb : (x == ("__debug__" : Str)) = false := by decide) (he : starEach (e :: es) X.env = (false, eval e X.env) :: starEach es X.env := by rfl) (hpl : (backTo pos (starEach es X.env)).any (·.1) = false := by rfl) :
    PE X (.Call (.Name x p) (e :: es) [] pos) (tCall sp dvs E t) := by
  intro pins s σ H Q I h
  refine wpAny_Call_Name_kw (ld_glob I hg hm ?_ hdb)
  refine PySem.W.callWith_K (h₀ := X.base) I.ok.mod.kin hk (thn (ha pos pins s σ H _ I h) fun us s1 ⟨vs, H1, I1, r, q⟩ => ⟨I1.kIn, ?_⟩) he hpl
  exact run_fn F hr hb hd hx I1 r q
structure Mk (K : PySem.W.Frag) (C f : Addr) : Prop where
  makes : PySem.W.makesIn K C = true
  init : PySem.W.findIn K (.ref C) "__init__" = some (some (.ref f))
  fn : PySem.W.isFn K (.ref f) = true
  kp : PySem.W.keepIn K (.ref C) = true

end

section
variable {X : Cx} {CX : CXT} {k : Nat} {f C : Addr} {fd : FuncData} {ps ks : List Str} {sp : Sp} {E : XK} {x m : Str} {p pos apos kpos : Pos} {e o : Expr} {es : List Expr} {kws : List Keyword} {te ta : TE} {t tk : TA} {nm : Option Str}
structure KBinds (K : PySem.W.Frag) (fd : FuncData) (ps ks : List Str) (g : List Value → List Value → List Value) (gV : List V → List V → List V) : Prop where
  to : ∀ (s : Shared) (us ws : List Value), K.In s.heap → (g us ws).length = ps.length → BindsTo s fd ⟨us, ks.zip ws⟩ (ps.zip (g us ws))
  rel : ∀ {vs : List V} {us : List Value} {zs : List V} {ws : List Value}, Vals vs us → Vals zs ws → Vals (gV vs zs) (g us ws)
variable {g : List Value → List Value → List Value} {gV : List V → List V → List V}
end

structure FnScope (N P : List Str) (sc : Scope) : Prop where
  kind : sc.kind = .function
  co : sc.isCoroutine = false
  gen : sc.isGenerator = false
  nd : N.Nodup
  pre : N.take P.length = P
  par : ∀ x ∈ P, sc.names.lookup x = some .local ∨ sc.names.lookup x = some .cell
  nofree : ∀ y ∈ sc.names, y.2 ≠ .free

theorem bindL_out {kindOf : Str → Option NameKind} {x : Str} : ∀ {binds : List (Str × Value)} {m : Str → Option Value}, (∀ v, (x, v) ∉ binds) → bindL kindOf binds m x = m x
  | [], _, _ => rfl
  | (n, v) :: r, m, h => by
    unfold bindL
    rw [bindL_out fun w hw => h w (List.mem_cons_of_mem _ hw)]
    split
    · have : x ≠ n := by rintro rfl; exact h v List.mem_cons_self
      simp [this]
    · rfl
theorem bindC_out {kindOf : Str → Option NameKind} {x : Str} : ∀ {binds : List (Str × Value)} {m : Str → Option Value}, (∀ v, (x, v) ∉ binds) → bindC kindOf binds m x = m x
  | [], _, _ => rfl
  | (n, v) :: r, m, h => by
    unfold bindC
    rw [bindC_out fun w hw => h w (List.mem_cons_of_mem _ hw)]
    split
    · rfl
    · have : x ≠ n := by rintro rfl; exact h v List.mem_cons_self
      simp [this]
theorem bindL_get {kindOf : Str → Option NameKind} {x : Str} {v : Value} : ∀ {P : List Str} {vs : List Value} {i : Nat} {m : Str → Option Value}, P.Nodup → P[i]? = some x → vs[i]? = some v → kindOf x = some .local →
    bindL kindOf (P.zip vs) m x = some v
  | [], _, _, _, _, h, _, _ => by simp at h
  | _ :: _, [], _, _, _, _, h, _ => by simp at h
  | p :: P, w :: vs, 0, m, nd, h1, h2, hk => by
    simp at h1 h2; subst h1; subst h2
    show bindL kindOf ((p, w) :: P.zip vs) m p = _
    unfold bindL
    rw [bindL_out fun v hv => (List.nodup_cons.mp nd).1 (List.of_mem_zip hv).1, if_pos hk]
    simp
  | p :: P, w :: vs, i + 1, m, nd, h1, h2, hk => by
    show bindL kindOf ((p, w) :: P.zip vs) m x = _
    unfold bindL
    exact bindL_get (i := i) (List.nodup_cons.mp nd).2 (by simpa using h1) (by simpa using h2) hk
theorem bindC_get {kindOf : Str → Option NameKind} {x : Str} {v : Value} : ∀ {P : List Str} {vs : List Value} {i : Nat} {m : Str → Option Value}, P.Nodup → P[i]? = some x → vs[i]? = some v → kindOf x ≠ some .local →
    bindC kindOf (P.zip vs) m x = some v
  | [], _, _, _, _, h, _, _ => by simp at h
  | _ :: _, [], _, _, _, _, h, _ => by simp at h
  | p :: P, w :: vs, 0, m, nd, h1, h2, hk => by
    simp at h1 h2; subst h1; subst h2
    show bindC kindOf ((p, w) :: P.zip vs) m p = _
    unfold bindC
    rw [bindC_out fun v hv => (List.nodup_cons.mp nd).1 (List.of_mem_zip hv).1, if_neg hk]
    simp
  | p :: P, w :: vs, i + 1, m, nd, h1, h2, hk => by
    show bindC kindOf ((p, w) :: P.zip vs) m x = _
    unfold bindC
    exact bindC_get (i := i) (List.nodup_cons.mp nd).2 (by simpa using h1) (by simpa using h2) hk

def start (N : List Str) (vs : List V) : St := vs.map some ++ List.replicate (N.length - vs.length) none

def cxOf (CX : CXT) (P : Program) (w : World) (K : PySem.W.Frag) (mg : Str → Option Value) (base : Heap) (N : List Str) (qual : Str) (scope : Scope) (f : Addr) (cd : Value) (A : Around) (outer : List Env) (s : Shared) (H : Hp) (E : XK) : Cx where
  prog := P
  w := w
  K := K
  mg := mg
  base := base
  A := A.deeper (envOfC qual scope s.heap.objs.size f cd)
  N := N
  s₀ := s
  H₀ := H
  env := envOfC qual scope s.heap.objs.size f cd
  outer := outer
  stack := envOfC qual scope s.heap.objs.size f cd :: outer
  ex := []
  calm := true
  fn := fun _ => true
  pn := []
  xe := fun e s' => wpAny (model P w) (A.deeper (envOfC qual scope s.heap.objs.size f cd)) (leaving (envOfC qual scope s.heap.objs.size f cd) e) (fun _ s'' => CX outer H s E e s'') (fun e' s'' => CX outer H s E e' s'') s'

theorem cell_has {sc : Scope} {n : Nat} {x : Str} (h : sc.names.lookup x = some .cell) : ∃ c, (cellsFrom n sc.names []).lookup x = some c := by
  have q := PySem.W.cellsFrom_some sc.names n [] (.inl h)
  exact Option.isSome_iff_exists.mp q

theorem inv_start {CX : CXT} {P : Program} {w : World} {K : PySem.W.Frag} {mg : Str → Option Value} {base : Heap} {N ps : List Str} {qual : Str} {scope : Scope} {f : Addr} {cd : Value} {A : Around} {outer : List Env} {s s1 : Shared} {H : Hp} {E : XK} {us : List Value} {vs : List V}
    (S : FnScope N ps scope) (hd : A.handled = none) (e0 : Env0 P w K mg base A outer s H) (hl : vs.length = ps.length) (r : Vals vs us)
    (x : InCallC s s.heap.objs.size (bindL (envOfC qual scope s.heap.objs.size f cd).kindOf (ps.zip us) fun _ => none) (cellsFrom (s.heap.objs.size + 1) scope.names []) (bindC (envOfC qual scope s.heap.objs.size f cd).kindOf (ps.zip us) fun _ => none) s1) :
    Inv (cxOf CX P w K mg base N qual scope f cd A outer s H E) [] (start N vs) H s1 := by
  have hpl : ps.length ≤ N.length := by have := congrArg List.length S.pre; rw [List.length_take] at this; omega
  obtain ⟨h1, tk, rfl, hk⟩ := x.done
  have noA : ∀ b : Addr, b ∉ (cxOf CX P w K mg base N qual scope f cd A outer s H E).ex := fun b z => absurd (show b ∈ ([] : List Addr) from z) (by simp)
  refine ⟨⟨e0.mod, S.kind, rfl, rfl, Nat.le_refl _, fun y z c h1 h2 => ?_, fun y hy => ?_, fun y c _ h => ?_, fun _ => hd, Around.frames_deeper e0.frames, .inr ⟨rfl, rfl⟩, fun b z => absurd z (noA b), e0.bs, e0.bsz, fun b _ _ => noA b, fun b z => absurd z (noA b), e0.funs, e0.frf⟩,
    rfl, e0.bare, Un.kept hk, ⟨_, x.toInCall.ns, fun i y v h1 h2 h3 => ?_⟩, fun y c h => ⟨_, x.cell y c h⟩, e0.hok.fresh (Nat.le_refl _), fun y c h => ?_, fun p hp => absurd (show p ∈ ([] : List (Addr × Obj)) from hp) (by simp), e0.hok.kept hk, ?_⟩
  · exact name_of_addr x.apart (PySem.mem_of_lookup h1) (PySem.mem_of_lookup h2)
  · have hy : scope.names.lookup y = some .cell ∨ scope.names.lookup y = some .free := hy
    rcases hy with hy | hy
    · exact cell_has hy
    · exact absurd rfl (S.nofree _ (PySem.mem_of_lookup hy))
  · exact Nat.le_of_lt (x.above y c (PySem.mem_of_lookup h))
  · have hi : i < vs.length := by
      unfold start at h2
      by_cases hi : i < vs.length
      · exact hi
      · rw [List.getElem?_append_right (by simpa using hi)] at h2
        rw [List.getElem?_replicate] at h2
        split at h2 <;> cases h2
    have ha : vs[i]? = some v := by
      unfold start at h2
      rw [List.getElem?_append_left (by simpa using hi), List.getElem?_map] at h2
      cases e : vs[i]? with
      | none => rw [e] at h2; cases h2
      | some a => rw [e] at h2; cases h2; rfl
    obtain ⟨u, hu, rv⟩ := r.get ha
    have hp : ps[i]? = some y := by
      rw [← S.pre, List.getElem?_take_of_lt (by omega)]; exact h1
    have ndP : ps.Nodup := by rw [← S.pre]; exact S.nd.sublist (List.take_sublist _ _)
    refine ⟨u, rv, ?_⟩
    rcases S.par y (List.mem_of_getElem? hp) with k | k
    · exact .inl ⟨k, bindL_get ndP hp hu k⟩
    · obtain ⟨c, e⟩ := cell_has (n := s.heap.objs.size + 1) k
      refine .inr ⟨.inl k, c, e, ?_⟩
      have q := x.cell y c e
      rw [bindC_get ndP hp hu (by show scope.names.lookup y ≠ _; rw [k]; decide)] at q
      exact q
  · exact e0.hok.fresh (Nat.le_of_lt (x.above y c (PySem.mem_of_lookup h)))
  · unfold start
    show _ = N.length
    rw [List.length_append, List.length_map, List.length_replicate]
    omega

theorem fn_of {CX : CXT} {P : Program} {w : World} {K : PySem.W.Frag} {mg : Str → Option Value} {base : Heap} {k : Nat} {f : Addr} {name qual : Str} {params : Arguments} {body : List Stmt} {scope : Scope} {dV kV doc pm cdv ct oc : Value} {an od : Option Addr}
    {osl : Array (Option Value)} {N ps : List Str} {sp : Sp} (lk : K.lookup f = some ⟨oc, od, .func (PySem.W.fnOf name qual params body scope dV kV doc pm an cdv ct), osl⟩) (hcd : PySem.W.codeIn K cdv qual = true) (S : FnScope N ps scope)
    (len : ∀ vs H Q E, sp vs H Q E → vs.length = ps.length)
    (hbody : ∀ (A : Around) (outer : List Env) (s : Shared) (H : Hp) (vs : List V) (Q : VK) (E : XK), Room k (A.deeper (envOfC qual scope s.heap.objs.size f cdv)) → sp vs H Q E →
      ∃ t, PSs (cxOf CX P w K mg base N qual scope f cdv A outer s H E) body t ∧ t { nx := fun _ H' => Q .non H', rt := Q } (start N vs) H) :
    FnOk P w K mg base CX (k + 1) f (PySem.W.fnOf name qual params body scope dV kV doc pm an cdv ct) ps sp := by
  refine ⟨len, fun A outer s H args us vs Q E hr e0 hb r hsp => ?_⟩
  have hl := len _ _ _ _ hsp
  have KX : K.In s.heap := e0.mod.kin.keeps fun b o e => (e0.bs b o e).1
  have lim : s.heap.NoLimit := e0.mod.nolimit.keeps fun b o e => (e0.bs b o e).1
  have hkind : ∀ y ∈ ps.zip us, scope.names.lookup y.1 = some .local ∨ (scope.names.lookup y.1 = some .cell ∧ ((cellsFrom (s.heap.objs.size + 1) scope.names []).lookup y.1).isSome = true) := fun ⟨n, v⟩ hy => by
    rcases S.par n (List.of_mem_zip hy).1 with q | q
    · exact .inl q
    · exact .inr ⟨q, PySem.W.cellsFrom_some _ _ _ (.inl q)⟩
  refine codeAny_call_function hr.depth (KX _ _ lk) rfl S.co S.gen rfl (PySem.W.codeRec_of KX hcd) (hb _ _ _ _ ?_)
  refine wpAny_newFunctionEnv_cells S.kind hkind fun env he s1 x => ?_
  subst he
  refine ⟨lim.keeps x.toInCall.keep, codeAny_func ?_⟩
  obtain ⟨t, ht, hq⟩ := hbody A outer s H vs Q E (hr.deeper _) hsp
  have I : Inv (cxOf CX P w K mg base N qual scope f cdv A outer s H E) [] (start N vs) H s1 := inv_start S hr.hd e0 hl r x
  refine wpAny_mono (ht [] s1 (start N vs) H _ I hq) (fun fl s' hs => ?_) fun e s' hs => hs
  have fin : ∀ {σ' : St} {H' : Hp} {v : V} {u : Value}, Inv (cxOf CX P w K mg base N qual scope f cdv A outer s H E) [] σ' H' s' → RelV v u → Q v H' → CE outer P w H s Q u s' :=
    fun {σ' H' v u} J rv q => ⟨v, H', J.os, J.bare, J.base, J.hok, rv, q⟩
  cases fl with
  | ret u =>
    obtain ⟨v, σ', H', J, rv, q⟩ := hs
    exact fin J rv q
  | next =>
    obtain ⟨σ', H', J, q⟩ := hs
    exact fin (v := V.non) (u := Value.none) J rfl q
  | brk =>
    obtain ⟨_, _, _, q⟩ := hs
    exact False.elim q
  | cont =>
    obtain ⟨_, _, _, q⟩ := hs
    exact False.elim q
end L2

namespace L2
open PySem PySem.Spec PyProof.Rows
section
variable {X : Cx} {x : Str} {p pos : Pos} {e : Expr} {es : List Expr} {t : TA} {id T : String} {r : List V → Hp → VK → Prop}

def tCB (r : List V → Hp → VK → Prop) (t : TA) : TE := fun σ H Q => t σ H fun vs H1 => r vs H1 Q
theorem pe_callB (hc : CallR X (.builtin id) r) (hg : Gl X x) (hm : X.mg x = none) (hv : bootBuiltins x = some (.builtin id)) (ha : PA X (e :: es) t) (hn : x ≠ "__name__" := by decide) (hdb : (x == ("__debug__" : Str)) = false := by decide)
    (he : starEach (e :: es) X.env = (false, eval e X.env) :: starEach es X.env := by rfl) (hpl : (backTo pos (starEach es X.env)).any (·.1) = false := by rfl) : PE X (.Call (.Name x p) (e :: es) [] pos) (tCB r t) := by
  intro pins s σ H Q I h
  refine wpAny_Call_Name_kw (ld_blt I hg hm hv ?_ hn hdb)
  exact PyProof.Rows.callWith_builtin1 (thn (ha pos pins s σ H _ I h) fun us s1 ⟨vs, H1, I1, r1, q1⟩ => hc pins s1 σ H1 vs us Q I1 r1 q1) he hpl
theorem pe_callTy (hc : CallR X (.type T) r) (hg : Gl X x) (hm : X.mg x = none) (hv : bootBuiltins x = some (.type T)) (ha : PA X (e :: es) t) (hn : x ≠ "__name__" := by decide) (hdb : (x == ("__debug__" : Str)) = false := by decide)
    (he : starEach (e :: es) X.env = (false, eval e X.env) :: starEach es X.env := by rfl) (hpl : (backTo pos (starEach es X.env)).any (·.1) = false := by rfl) : PE X (.Call (.Name x p) (e :: es) [] pos) (tCB r t) := by
  intro pins s σ H Q I h
  refine wpAny_Call_Name_kw (ld_blt I hg hm hv ?_ hn hdb)
  exact PyProof.Rows.callWith_type1 (thn (ha pos pins s σ H _ I h) fun us s1 ⟨vs, H1, I1, r1, q1⟩ => hc pins s1 σ H1 vs us Q I1 r1 q1) he hpl
end
end L2

namespace HT
open PySem PyProof.Rows

def lexLt : List Int → List Int → Bool
  | [], [] => false
  | [], _ :: _ => true
  | _ :: _, [] => false
  | x :: xs, y :: ys => if x = y then lexLt xs ys else decide (x < y)
theorem lexLt_cons (x y : Int) (xs ys : List Int) : lexLt (x :: xs) (y :: ys) = if x = y then lexLt xs ys else decide (x < y) := rfl
section
open PySem.SeqAt
open PySem.AutoSeq1 (wpAny_loadPart')
open PySem.MeetsSeq PySem.MeetsSeq2 PySem.MeetsSeq3

end

section
variable {prog : Program} {w : World} {A : Around} {E : Value → Shared → Prop} {s : Shared}

def sIx (n d : Nat) : Option Int → Nat
  | none => d
  | some v => if v < 0 then (v + (n : Int)).toNat else min v.toNat n
theorem sIx_nat (n d k : Nat) : sIx n d (some (k : Int)) = min k n := by
  show (if (k : Int) < 0 then ((k : Int) + (n : Int)).toNat else min (k : Int).toNat n) = min k n
  rw [if_neg (by omega), Int.toNat_natCast]
end
end HT

namespace L2
open PySem PySem.Spec PyProof.Rows

abbrev TO := St → Hp → (Option Int → Hp → Prop) → Prop
def PO (X : Cx) (e : Option Expr) (t : TO) : Prop :=
  ∀ (pins : List (Addr × Obj)) (s : Shared) (σ : St) (H : Hp) (Q : Option Int → Hp → Prop), Inv X pins σ H s → t σ H Q →
    wpAny (model X.prog X.w) X.A (evalPart e X.env) (fun u s' => ∃ o H', Inv X pins σ H' s' ∧ IsPart u o ∧ Q o H') X.xe s
def tNoPart : TO := fun _ H Q => Q none H
def tPart (t : TE) : TO := fun σ H Q => t σ H fun x H1 => ∃ i, x = .int i ∧ Q (some i) H1

theorem intsAre_of {ns : List Int} : ∀ {us : List Value}, Vals (ns.map V.int) us → IntsAre us ns := by
  induction ns with
  | nil => intro us r; rw [List.map_nil] at r; cases r; exact .nil
  | cons n ns ih =>
    intro us r
    rw [List.map_cons] at r
    cases r with
    | cons r1 r2 =>
      obtain ⟨t, e⟩ := r1
      subst e
      exact .cons n t (ih r2)

section
variable {X : Cx} {e : Expr} {te : TE} {lo hi : Option Expr} {tl th : TO} {pos p2 : Pos}

theorem po_none : PO X none tNoPart := by
  intro pins s σ H Q I h
  rw [evalPart_none]
  exact wpAny_pure ⟨none, H, I, .none, h⟩
theorem po_some (h : PE X e te) : PO X (some e) (tPart te) := by
  intro pins s σ H Q I hw
  rw [evalPart_some]
  refine thn (h pins s σ H _ I hw) fun u s1 ⟨x, H1, I1, r1, q1⟩ => ?_
  obtain ⟨i, rfl, q⟩ := q1
  obtain ⟨t, rfl⟩ := r1
  exact ⟨some i, H1, I1, .int i t, q⟩

def SlR (X : Cx) (r : V → Option Int → Option Int → Hp → VK → Prop) : Prop :=
  ∀ (pins : List (Addr × Obj)) (s : Shared) (σ : St) (H : Hp) (x : V) (v vl vu : Value) (lo hi : Option Int) (sl : Addr) (Q : VK), Inv X pins σ H s → RelV x v → s.heap.IsSliceOf sl vl vu .none → IsPart vl lo → IsPart vu hi → r x lo hi H Q →
    ∃ T id, typeLookup (.type T) "__getitem__" = pure (some (.builtin id)) ∧ s.TypeIs v T ∧ wpAny (model X.prog X.w) X.A (getItem v (.ref sl)) (EP X pins σ Q) X.xe s
def tSl (r : V → Option Int → Option Int → Hp → VK → Prop) (te : TE) (tl th : TO) : TE := fun σ H Q => te σ H fun x H1 => tl σ H1 fun l H2 => th σ H2 fun u H3 => r x l u H3 Q
theorem pe_slice {r : V → Option Int → Option Int → Hp → VK → Prop} (hr : SlR X r) (he : PE X e te) (hl : PO X lo tl) (hu : PO X hi th) : PE X (.Subscript e (.Slice lo hi none p2) pos) (tSl r te tl th) := by
  intro pins s σ H Q I h
  refine Subscript_ (thn (he pins s σ H _ I h) fun v s1 ⟨x, H1, I1, r1, q1⟩ => ?_)
  refine wpAny_Slice (thn (hl pins s1 σ H1 _ I1 q1) fun vl s2 ⟨l, H2, I2, pl, q2⟩ => thn (hu pins s2 σ H2 _ I2 q2) fun vu s3 ⟨u, H3, I3, pu, q3⟩ => ?_)
  rw [evalPart_none]
  refine wpAny_pure ?_
  have I4 : Inv X pins σ H3 { s3 with heap := s3.heap.push { cls := .type "slice", data := .fields #[vl, vu, .none] } } := I3.kept (t' := s3.toks) fun b ob q => Heap.get?_push_of_some _ q
  obtain ⟨T, id, hT, ht, hg⟩ := hr pins { s3 with heap := s3.heap.push { cls := .type "slice", data := .fields #[vl, vu, .none] } } σ H3 x v vl vu l u s3.heap.objs.size Q I4 r1 (Heap.IsSliceOf.new ..) pl pu q3
  show wpAny (model X.prog X.w) X.A (subscriptTail e (.Slice lo hi none p2) v (.ref s3.heap.objs.size)) (EP X pins σ Q) X.xe { s3 with heap := s3.heap.push { cls := .type "slice", data := .fields #[vl, vu, .none] } }
  exact tail_any (ops := [.ref s3.heap.objs.size, v]) ht hT hg (by with_unfolding_all rfl)

def cutV (xs : List V) (lo hi : Option Int) : List V := (xs.drop (HT.sIx xs.length 0 lo)).take (HT.sIx xs.length xs.length hi - HT.sIx xs.length 0 lo)
theorem cutV_length (xs : List V) (lo hi : Option Int) : (cutV xs lo hi).length ≤ xs.length := by
  unfold cutV
  rw [List.length_take, List.length_drop]
  omega
end
end L2

namespace L2
open PySem PySem.Spec PyProof.Rows

def ixN (n : Nat) (i : Int) : Option Nat := if 0 ≤ i then (if i < n then some i.toNat else none) else if -(n : Int) ≤ i then some (i + n).toNat else none
def atI {α : Type} (xs : List α) (i : Int) : Option α := (ixN xs.length i).bind fun j => xs[j]?
theorem ixN_seq {n : Nat} {i : Int} {j : Nat} (h : ixN n i = some j) : seqIndex? i n = some j ∧ j < n ∧ -(n : Int) ≤ i ∧ i < n := by
  unfold ixN at h
  by_cases h0 : 0 ≤ i
  · rw [if_pos h0] at h
    by_cases h1 : i < n
    · rw [if_pos h1] at h
      have e : i.toNat = j := Option.some.inj h
      exact ⟨by rw [seqIndex_of h0 h1, e], by omega, by omega, h1⟩
    · rw [if_neg h1] at h; cases h
  · rw [if_neg h0] at h
    by_cases h1 : -(n : Int) ≤ i
    · rw [if_pos h1] at h
      have e : (i + n).toNat = j := Option.some.inj h
      exact ⟨by rw [seqIndex_neg (by omega) h1, e], by omega, h1, by omega⟩
    · rw [if_neg h1] at h; cases h
theorem atI_get {α : Type} {xs : List α} {i : Int} {v : α} (h : atI xs i = some v) : ∃ j, seqIndex? i xs.length = some j ∧ xs[j]? = some v ∧ j < xs.length ∧ -(xs.length : Int) ≤ i ∧ i < xs.length := by
  unfold atI at h
  cases e : ixN xs.length i with
  | none => rw [e] at h; cases h
  | some j =>
    rw [e] at h
    obtain ⟨h1, h2, h3, h4⟩ := ixN_seq e
    exact ⟨j, h1, h, h2, h3, h4⟩
theorem atI_nat {α : Type} {xs : List α} {j : Nat} {v : α} (h : xs[j]? = some v) : atI xs (j : Int) = some v := by
  have hj : j < xs.length := (List.getElem?_eq_some_iff.mp h).1
  have e : ixN xs.length (j : Int) = some j := by
    unfold ixN
    rw [if_pos (by omega), if_pos (by omega)]; simp
  unfold atI; rw [e]; exact h
def PlainIx (b : Expr) : Prop := ∀ o i, subscripted b false o i = operate [o, i] (getItem o i)
def IxR (X : Cx) (r : R2) : Prop :=
  ∀ (value slice : Expr) (pins : List (Addr × Obj)) (s : Shared) (σ : St) (H : Hp) (x y : V) (v u : Value) (Q : VK), Inv X pins σ H s → RelV x v → RelV y u → r x y H Q →
    subscripted slice false v u = operate [v, u] (getItem v u) → wpAny (model X.prog X.w) X.A (subscriptTail value slice v u) (EP X pins σ Q) X.xe s
def MtR (X : Cx) (id : String) (r : V → List V → Hp → VK → Prop) : Prop :=
  ∀ (pins : List (Addr × Obj)) (s : Shared) (σ : St) (H : Hp) (x : V) (xs : List V) (v : Value) (us : List Value) (Q : VK), Inv X pins σ H s → RelV x v → Vals xs us → r x xs H Q →
    wpAny (model X.prog X.w) X.A (call (.builtin id) (v :: us)) (EP X pins σ Q) X.xe s
section
variable {X : Cx} {a b : Expr} {ta tb : TE} {pos : Pos}
theorem pe_ix {r : R2} (hr : IxR X r) (ha : PE X a ta) (hb : PE X b tb) (hs : PlainIx b) : PE X (.Subscript a b pos) (tOp r ta tb) := by
  intro pins s σ H Q I h
  exact Subscript_ (binT ha hb I h fun v u s2 x y H2 I2 rx ry q => hr a b pins s2 σ H2 x y v u Q I2 rx ry q (hs _ _))

def rIxL (K : PySem.W.Frag) : R2 := fun x y H Q => ∃ p xs i v, x = .ref p ∧ y = .int i ∧ SqL K H p xs ∧ atI xs i = some v ∧ Q v H
def rIxT (K : PySem.W.Frag) : R2 := fun x y H Q => ∃ p xs i v, x = .ref p ∧ y = .int i ∧ SqT K H p xs ∧ atI xs i = some v ∧ Q v H
theorem ix_list : IxR X (rIxL X.K) := by
  intro value slice pins s σ H x y v u Q I rx ry h hs
  obtain ⟨p, xs, i, z, rfl, rfl, hq, he, q⟩ := h
  cases rx
  obtain ⟨t, rfl⟩ := ry
  obtain ⟨its, r, pl, hz⟩ := I.list hq
  obtain ⟨j, h1, h2, h3, h4, h5⟩ := atI_get he
  obtain ⟨w, ew, rw'⟩ := r.get h2
  have hl := r.length
  have hn := line63
  have fin : EP X pins σ Q w s := ⟨z, H, I, rw', q⟩
  by_cases h0 : 0 ≤ i
  · have hj : i.toNat = j := by
      rw [seqIndex_of h0 h5] at h1
      exact Option.some.inj h1
    exact item_listR pl.isList h0 (by omega) (by rw [hj]; simpa using ew) fin hs
  · have hj : (i + (its.toArray.size : Int)).toNat = j := by
      rw [seqIndex_neg (by omega) h4] at h1
      rw [List.size_toArray, ← hl]
      exact Option.some.inj h1
    exact subscriptTail_builtinR (x := w) pl.isList.typeIs slot_list_getitem.lookup
      (wpAny_getItem_list_neg (Q := fun r s' => r = w ∧ EP X pins σ Q r s') pl.isList (by omega) (by rw [List.size_toArray] <;> omega) (by omega) (by rw [hj]; simpa using ew) ⟨rfl, fin⟩) hs
theorem ix_tup : IxR X (rIxT X.K) := by
  intro value slice pins s σ H x y v u Q I rx ry h hs
  obtain ⟨p, xs, i, z, rfl, rfl, hq, he, q⟩ := h
  cases rx
  obtain ⟨t, rfl⟩ := ry
  obtain ⟨its, r, pl, hz⟩ := I.tuple hq
  obtain ⟨j, h1, h2, h3, h4, h5⟩ := atI_get he
  obtain ⟨w, ew, rw'⟩ := r.get h2
  have hl := r.length
  have hn := line63
  have fin : EP X pins σ Q w s := ⟨z, H, I, rw', q⟩
  exact subscriptTail_builtinR (x := w) pl.typeIs slot_tuple_getitem.lookup
    (getItem_tuple (j := j) (Q := fun r s' => r = w ∧ EP X pins σ Q r s') pl (by omega) (by omega) (by rw [List.size_toArray, ← hl]; exact h1) (by simpa using ew) ⟨rfl, fin⟩) hs
theorem mapSeq_set (its : List Value) (n j : Nat) (u : Value) : Obj.mapSeq (·.setIfInBounds j u) { cls := .type "list", data := .seq its.toArray n } = { cls := .type "list", data := .seq (its.set j u).toArray n } := by
  simp [Obj.mapSeq]
theorem Inv.lst {pins : List (Addr × Obj)} {σ : St} {H : Hp} {s : Shared} {p : Addr} {xs : List V} (I : Inv X pins σ H s) (h : H p = some (.lst xs)) :
    ∃ (its : List Value) (n : Nat), Vals xs its ∧ s.heap.get? p = some { cls := .type "list", data := .seq its.toArray n } ∧ xs.length ≤ sizeLine := by
  obtain ⟨z, its, n, r, e⟩ := I.hok p _ h
  exact ⟨its, n, r, e, z⟩
theorem Inv.lstUpd {pins : List (Addr × Obj)} {σ : St} {H : Hp} {s : Shared} {p : Addr} {xs ys : List V} {its its' : List Value} {n n' : Nat} {f : Obj → Obj} (I : Inv X pins σ H s) (h : H p = some (.lst xs))
    (ho : s.heap.get? p = some { cls := .type "list", data := .seq its.toArray n }) (hf : f { cls := .type "list", data := .seq its.toArray n } = { cls := .type "list", data := .seq its'.toArray n' }) (r : Vals ys its') (hz : ys.length ≤ sizeLine) (t : Nat) :
    Inv X pins σ (upd H p (.lst ys)) { s with heap := s.heap.update p f, toks := t } := by
  have e : (s.heap.update p f).get? p = some { cls := .type "list", data := .seq its'.toArray n' } := by
    rw [Heap.get?_update_self f ho (by rw [hf] <;> rfl), hf]
  refine I.write (x := p) (e := p) (by rw [h]; trivial) (.inl rfl) (fun b u hb q => (Heap.get?_update_other _ _ (Ne.symm hb)).trans q) ⟨_, e⟩ ?_
  exact ⟨hz, its', n', r, e⟩
def rSetL : V → V → V → Hp → (Hp → Prop) → Prop := fun o i v H Q => ∃ p xs k j, o = .ref p ∧ i = .int k ∧ H p = some (.lst xs) ∧ ixN xs.length k = some j ∧ Q (upd H p (.lst (xs.set j v)))
theorem set_list : PSet X rSetL := by
  intro pins s σ H o i v ov iv u Q I ro ri rv h
  obtain ⟨p, xs, k, j, rfl, rfl, hp, hj, q⟩ := h
  cases ro
  obtain ⟨t, rfl⟩ := ri
  obtain ⟨its, n, r, ho, hz⟩ := I.lst hp
  obtain ⟨h1, h2, h3, h4⟩ := ixN_seq hj
  have hl := r.length
  have hn := line63
  have I' : Inv X pins σ (upd H p (.lst (xs.set j v))) { s with heap := s.heap.update p (Obj.mapSeq (·.setIfInBounds j u)) } :=
    I.lstUpd hp ho (mapSeq_set its n j u) (r.set rv j) (by rw [List.length_set]; exact hz) s.toks
  by_cases h0 : 0 ≤ k
  · have hk : k.toNat = j := by
      rw [seqIndex_of h0 h4] at h1
      exact Option.some.inj h1
    exact PySem.W.ki_setAt ho h0 (by omega) (by rw [List.size_toArray, ← hl]; exact h4) (by rw [hk]; exact ⟨_, I', q⟩)
  · have hk : (k + (its.toArray.size : Int)).toNat = j := by
      rw [seqIndex_neg (by omega) h3] at h1
      rw [List.size_toArray, ← hl]
      exact Option.some.inj h1
    exact PySem.W.ki_setBack ho (by omega) (by rw [List.size_toArray, ← hl]; exact h3) (by omega) (by rw [hk]; exact ⟨_, I', q⟩)

theorem slice_bounds (lo hi : Option Int) (n : Nat) : (sliceBounds lo hi none n).1 = ((HT.sIx n 0 lo : Nat) : Int) ∧ (sliceBounds lo hi none n).2.1 = ((HT.sIx n n hi : Nat) : Int) ∧ (sliceBounds lo hi none n).2.2 = 1 := by
  refine ⟨?_, ?_, rfl⟩
  · cases lo with
    | none => simp [sliceBounds, HT.sIx]
    | some i =>
      simp only [sliceBounds, HT.sIx, Option.getD_none, show (1 : Int) > 0 by decide, if_true]
      by_cases h : i < 0
      · simp only [h, if_true] <;> omega
      · simp only [h, if_false] <;> omega
  · cases hi with
    | none => simp [sliceBounds, HT.sIx]
    | some i =>
      simp only [sliceBounds, HT.sIx, Option.getD_none, show (1 : Int) > 0 by decide, if_true]
      by_cases h : i < 0
      · simp only [h, if_true] <;> omega
      · simp only [h, if_false] <;> omega
theorem slicePick_cut (its : List Value) (lo hi : Option Int) : slicePick its.toArray lo hi none = ((its.drop (HT.sIx its.length 0 lo)).take (HT.sIx its.length its.length hi - HT.sIx its.length 0 lo)).toArray := by
  obtain ⟨h1, h2, h3⟩ := slice_bounds lo hi its.toArray.size
  unfold slicePick
  rw [h1, h2, h3]
  simp only [sliceRange_one, pick_run, List.size_toArray] <;> rfl
def rSlL (K : PySem.W.Frag) : V → Option Int → Option Int → Hp → VK → Prop := fun x lo hi H Q => ∃ a xs, x = .ref a ∧ SqL K H a xs ∧ ∀ p, H p = none → Q (.ref p) (upd H p (.lst (cutV xs lo hi)))
theorem sl_list : SlR X (rSlL X.K) := by
  intro pins s σ H x v vl vu lo hi sl Q I rx hs pl pu h
  obtain ⟨a, xs, rfl, hx, q⟩ := h
  cases rx
  obtain ⟨its, r, ht, hz⟩ := I.list hx
  have hlen := r.length
  refine ⟨"list", _, slot_list_getitem.lookup, ht.isList.typeIs, ?_⟩
  refine wpAny_getItem_list_slice ht.isList hs pl pu .none (by simp) ?_ (by rw [List.size_toArray] <;> omega)
  rw [slicePick_cut, ← hlen]
  refine ⟨.ref s.heap.objs.size, _, I.laid (t' := s.toks) (o := .lst (cutV xs lo hi)) (fun b ob q => Heap.get?_push_of_some _ q) (Nat.le_refl _) ?_, rfl, q _ (I.hok.fresh (Nat.le_refl _))⟩
  exact ⟨Nat.le_trans (cutV_length xs lo hi) hz, _, 0, (r.drop (HT.sIx xs.length 0 lo)).take (HT.sIx xs.length xs.length hi - HT.sIx xs.length 0 lo), Heap.get?_push_size _ rfl⟩

theorem call_len_seq : CallR X (.builtin "len") (fun xs H Q => ∃ p ys, xs = [.ref p] ∧ (SqL X.K H p ys ∨ SqT X.K H p ys) ∧ Q (.int ys.length) H) := by
  intro pins s σ H xs us Q I r h
  obtain ⟨p, ys, rfl, hq, q⟩ := h
  obtain ⟨u, rfl, rx⟩ := vals1 r
  cases rx
  have hn := line63
  rcases hq with hq | hq
  · obtain ⟨its, r', pl, hz⟩ := I.list hq
    have hlen := r'.length
    exact Calls.call_len_list pl.isList (by simp only [List.size_toArray] <;> omega) ⟨.int ys.length, H, I.tok _, ⟨s.toks + 1, by rw [List.size_toArray, hlen]⟩, q⟩
  · obtain ⟨its, r', pl, hz⟩ := I.tuple hq
    have hlen := r'.length
    exact len_tuple pl (by simp only [List.size_toArray] <;> omega) ⟨.int ys.length, H, I.tok _, ⟨s.toks + 1, by rw [List.size_toArray, hlen]⟩, q⟩
theorem call_list_of : CallR X (.type "list") (fun xs H Q => ∃ p ys, xs = [.ref p] ∧ (SqL X.K H p ys ∨ SqT X.K H p ys) ∧ ∀ l, H l = none → Q (.ref l) (upd H l (.lst ys))) := by
  intro pins s σ H xs us Q I r h
  obtain ⟨p, ys, rfl, hq, q⟩ := h
  obtain ⟨u, rfl, rx⟩ := vals1 r
  cases rx
  have fin : ∀ (its : List Value), Vals ys its → ys.length ≤ sizeLine → ∀ (h' : Heap) (c' : Nat), (∀ b o', s.heap.get? b = some o' → h'.get? b = some o') →
      h'.get? s.heap.objs.size = some { cls := .type "list", dict := none, data := .seq its.toArray c', slots := #[] } → EP X pins σ Q (.ref s.heap.objs.size) { s with heap := h' } := fun its r' hz h' c' kp e =>
    ⟨.ref s.heap.objs.size, _, I.laid (t' := s.toks) kp (Nat.le_refl _) (show ObjOk X.prog X.w _ h' _ (.lst ys) from ⟨hz, its, c', r', e⟩), rfl, q _ (I.hok.fresh (Nat.le_refl _))⟩
  rcases hq with hq | hq
  · obtain ⟨its, r', pl, hz⟩ := I.list hq
    have hlen := r'.length
    obtain ⟨o, ho, hc, n, hd⟩ := pl.isList
    exact call_list_seq p (.inl rfl) ho hc hd (fun h' c' kp e => fin its r' hz h' c' kp e) (by simp only [List.size_toArray] <;> omega)
  · obtain ⟨its, r', pl, hz⟩ := I.tuple hq
    have hlen := r'.length
    obtain ⟨o, ho, hc, n, hd⟩ := pl
    exact call_list_seq p (.inr rfl) ho hc hd (fun h' c' kp e => fin its r' hz h' c' kp e) (by simp only [List.size_toArray] <;> omega)
theorem call_tuple_of : CallR X (.type "tuple") (fun xs H Q => ∃ p ys, xs = [.ref p] ∧ ((SqL X.K H p ys ∧ ∀ l, H l = none → Q (.ref l) (upd H l (.tup ys))) ∨ (SqT X.K H p ys ∧ Q (.ref p) H))) := by
  intro pins s σ H xs us Q I r h
  obtain ⟨p, ys, rfl, h⟩ := h
  obtain ⟨u, rfl, rx⟩ := vals1 r
  cases rx
  rcases h with ⟨hq, q⟩ | ⟨hq, q⟩
  · obtain ⟨its, r', pl, hz⟩ := I.list hq
    have hlen := r'.length
    refine call_tuple_list pl.isList (fun h' kp => ?_) (by simp only [List.size_toArray] <;> omega)
    have I1 : Inv X pins σ H { s with heap := h' } := I.kept (t' := s.toks) kp
    have I2 : Inv X pins σ (upd H h'.objs.size (.tup ys)) { s with heap := h'.push { cls := .type "tuple", data := .seq its.toArray } } :=
      I1.laid (t' := s.toks) (fun b o e => Heap.get?_push_of_some _ e) (Nat.le_refl _) (show ObjOk X.prog X.w _ _ _ (.tup ys) from ⟨hz, its, r', IsTup.new _ _⟩)
    exact ⟨.ref h'.objs.size, _, I2, rfl, q _ (I1.hok.fresh (Nat.le_refl _))⟩
  · obtain ⟨its, r', pl, hz⟩ := I.tuple hq
    exact call_tuple_same pl ⟨.ref p, H, I, rfl, q⟩

def tyV (K : PySem.W.Frag) (T : String) (x : V) (H : Hp) : Prop := match x with
  | .str _ => T = "str"
  | .int _ => T = "int"
  | .ref p => (T = "list" ∧ ∃ xs, SqL K H p xs) ∨ (T = "tuple" ∧ ∃ o, K.lookup p = some o ∧ o.cls = .type "tuple" ∧ o.dict = none) ∨
      (T = "dict" ∧ ((∃ kvs, H p = some (.dK kvs)) ∨ ∃ kvs, H p = some (.dT kvs))) ∨ (T = "set" ∧ ∃ S n, H p = some (.set S n))
  | _ => False
theorem tyV_is {pins : List (Addr × Obj)} {σ : St} {H : Hp} {s : Shared} {T : String} {x : V} {v : Value} (I : Inv X pins σ H s) (r : RelV x v) (ty : tyV X.K T x H) :
    s.TypeIs v T ∧ ∀ a, v = .ref a → ∃ ob, s.heap.get? a = some ob ∧ ob.dict = none := by
  cases x with
  | str z =>
    obtain ⟨t, rfl⟩ := r
    cases (show T = "str" from ty)
    exact ⟨typeIs_str s z t, fun _ e => nomatch e⟩
  | int i =>
    obtain ⟨t, rfl⟩ := r
    cases (show T = "int" from ty)
    exact ⟨typeIs_int s i t, fun _ e => nomatch e⟩
  | ref p =>
    cases r
    rcases ty with ⟨rfl, xs, hq⟩ | ⟨rfl, o, hk, hc, hd⟩ | ⟨rfl, hk⟩ | ⟨rfl, S, n, hk⟩
    · obtain ⟨its, _, pl, _⟩ := I.list hq
      refine ⟨pl.isList.typeIs, fun a e => ?_⟩
      cases e
      obtain ⟨o, n, e, c, hd, _⟩ := pl
      exact ⟨o, e, hd⟩
    · refine ⟨⟨o, I.kIn p o hk, hc⟩, fun a e => ?_⟩
      cases e
      exact ⟨o, I.kIn _ o hk, hd⟩
    · have z : ∃ o, s.heap.get? p = some o ∧ o.ExactDict := by
        rcases hk with ⟨kvs, hk⟩ | ⟨kvs, hk⟩
        · obtain ⟨_, _, _, _, o, _, _, e, ex, _⟩ := I.hok p _ hk
          exact ⟨o, e, ex⟩
        · obtain ⟨_, _, _, _, o, _, _, e, ex, _⟩ := I.hok p _ hk
          exact ⟨o, e, ex⟩
      obtain ⟨o, e, ex⟩ := z
      refine ⟨⟨o, e, ex.1⟩, fun a e2 => ?_⟩
      cases e2
      exact ⟨o, e, ex.2.1⟩
    · obtain ⟨o, _, _, _, e, ex, _⟩ := I.hok p _ hk
      refine ⟨⟨o, e, ex.1⟩, fun a e2 => ?_⟩
      cases e2
      exact ⟨o, e, ex.2.1⟩
  | _ => exact False.elim ty
def tBM (K : PySem.W.Frag) (T : String) (r : V → List V → Hp → VK → Prop) (to : TE) (t : TA) : TE := fun σ H Q => to σ H fun x H1 => tyV K T x H1 ∧ t σ H1 fun xs H2 => r x xs H2 Q
variable {o e : Expr} {es : List Expr} {to : TE} {t : TA} {name : Str} {apos cpos : Pos} {T id : String} {r : V → List V → Hp → VK → Prop}
theorem pe_bm (pa : PlainAttrs T) (slot : Slot T name id) (hty : typeOf (.builtin id) = pure (.type "method_descriptor")) (hm : MtR X id r) (ho : PE X o to) (ha : PA X (e :: es) t)
    (hbase : attributeBase o name X.env (eval o X.env) = eval o X.env := by rfl)
    (hfew : ((backTo cpos (starEach (e :: es) X.env)).all (fun x => !x.1) && (backToKw cpos (keywordEach [] X.env)).all (fun x => x.1.isSome)
      && decide ((e :: es).length + ([] : List Keyword).length + (if ([] : List Keyword).isEmpty then 0 else 1) < 30)) = true := by rfl)
    (hline : (apos.endLine == cpos.line) = true := by rfl) (hs : starEach (e :: es) X.env = (false, eval e X.env) :: starEach es X.env := by rfl) (hplain : (backTo cpos (starEach es X.env)).any (·.1) = false := by rfl) :
    PE X (.Call (.Attribute o name apos) (e :: es) [] cpos) (tBM X.K T r to t) := by
  intro pins s σ H Q I h
  refine wpAny_Call_method_late hbase hfew hline rfl (thn (ho pins s σ H _ I h) fun v s1 ⟨x, H1, I1, r1, ty, q1⟩ => ?_)
  obtain ⟨h1, h2⟩ := tyV_is I1 r1 ty
  refine ⟨T, id, pa, slot, hty, h1, h2, ?_⟩
  have hA := ha cpos pins s1 σ H1 _ I1 q1
  rw [hs] at hA ⊢
  refine Calls.callWith_builtin (by show (false || (backTo cpos (starEach es X.env)).any (·.1)) = false; rw [hplain] <;> rfl) (Calls.evalArgs_plain ?_)
  exact thn hA fun us s2 ⟨vs, H2, I2, r2, q2⟩ => hm pins s2 σ H2 x vs v us Q I2 r1 r2 q2
end
end L2

namespace L2
open PySem PySem.Spec PyProof.Rows

def MtM (X : Cx) (id : String) (r : V → List V → Hp → VK → Prop) : Prop :=
  ∀ (pins : List (Addr × Obj)) (s : Shared) (σ : St) (H : Hp) (x : V) (xs : List V) (v : Value) (us : List Value) (Q : VK), Inv X pins σ H s → RelV x v → Vals xs us → r x xs H Q →
    wpAny (model X.prog X.w) X.A (call (.builtin id) (v :: us)) (EP X pins σ Q) X.xe s

theorem Vals.one : ∀ {x : V} {us : List Value}, Vals [x] us → ∃ u, us = [u] ∧ RelV x u
  | _, _, .cons r .nil => ⟨_, rfl, r⟩
theorem Vals.zero : ∀ {us : List Value}, Vals [] us → us = []
  | _, .nil => rfl
section
variable {X : Cx} {pins : List (Addr × Obj)} {σ : St} {H : Hp} {s : Shared} {l b : Addr} {xs ys zs : List V}

theorem Inv.lset {its its' : List Value} {n : Nat} {f : Array Value → Array Value} {t' : Nat} (I : Inv X pins σ H s) (hH : H l = some (.lst xs))
    (e : s.heap.get? l = some { cls := .type "list", data := .seq its.toArray n }) (hf : f its.toArray = its'.toArray) (hv : Vals ys its') (hz : ys.length ≤ sizeLine) :
    Inv X pins σ (upd H l (.lst ys)) { s with heap := s.heap.update l (Obj.mapSeq f), toks := t' } := by
  have q := PySem.IsL.update e f
  rw [hf] at q
  refine I.write (x := l) (e := l) (by rw [hH]; exact trivial) (.inl rfl) (fun b' u hb hu => (Heap.get?_update_other s.heap (Obj.mapSeq f) (Ne.symm hb)).trans hu) ⟨_, q⟩ ?_
  exact ⟨hz, its', _, hv, q⟩
theorem Inv.lnew {its : List Value} {t' : Nat} (I : Inv X pins σ H s) (hv : Vals ys its) (hz : ys.length ≤ sizeLine) :
    Inv X pins σ (upd H s.heap.objs.size (.lst ys)) { s with heap := s.heap.push { cls := .type "list", data := .seq its.toArray }, toks := t' } :=
  I.laid (fun _ _ q => Heap.get?_push_of_some _ q) (Nat.le_refl _) ⟨hz, its, 0, hv, Heap.get?_push_size _ rfl⟩
theorem Inv.fresh (I : Inv X pins σ H s) : H s.heap.objs.size = none := I.hok.fresh (Nat.le_refl _)
theorem Inv.lstM (I : Inv X pins σ H s) (hH : H l = some (.lst xs)) : xs.length ≤ sizeLine ∧ ∃ (its : List Value) (n : Nat), Vals xs its ∧ xs.length = its.length ∧ s.heap.get? l = some { cls := .type "list", data := .seq its.toArray n } := by
  obtain ⟨z, its, n, r, e⟩ := I.hok l _ hH
  exact ⟨z, its, n, r, r.length, e⟩

theorem notLongL {n : Nat} (h : n ≤ sizeLine) : Builtin.List.listTooLong n = false := by
  unfold Builtin.List.listTooLong
  exact decide_eq_false (by omega)
end

section
variable {X : Cx}

def rAppend : V → List V → Hp → VK → Prop := fun x vs H Q => ∃ l xs y, x = .ref l ∧ vs = [y] ∧ H l = some (.lst xs) ∧ xs.length < sizeLine ∧ Q .non (upd H l (.lst (xs ++ [y])))
theorem mt_append : MtM X "list.append" rAppend := by
  intro pins s σ H x vs v us Q I rx rv h
  obtain ⟨l, xs, y, rfl, rfl, hH, hz, q⟩ := h
  cases rx
  obtain ⟨u, rfl, ru⟩ := rv.one
  obtain ⟨z, its, n, r, hl, e⟩ := I.lstM hH
  refine call_meets F.slot_list_append ⟨_, e, rfl⟩ F.entry_list_append (F.args_list_append_2 _ _) (PySem.list_append l its.toArray n u (by rw [List.size_toArray]; omega)) ⟨e, ?_⟩
  refine ⟨.non, _, I.lset (its' := its ++ [u]) hH e (by simp) (r.append (.cons ru .nil)) ?_, rfl, q⟩
  rw [List.length_append, List.length_singleton]
  omega

def rExtend : V → List V → Hp → VK → Prop := fun x vs H Q => ∃ l b xs zs, x = .ref l ∧ vs = [.ref b] ∧ H l = some (.lst xs) ∧ H b = some (.lst zs) ∧ xs.length + zs.length ≤ sizeLine ∧ Q .non (upd H l (.lst (xs ++ zs)))
theorem mt_extend : MtM X "list.extend" rExtend := by
  intro pins s σ H x vs v us Q I rx rv h
  obtain ⟨l, b, xs, zs, rfl, rfl, hH, hB, hz, q⟩ := h
  cases rx
  obtain ⟨u, rfl, ru⟩ := rv.one
  cases ru
  obtain ⟨z, its, n, r, hl, e⟩ := I.lstM hH
  obtain ⟨z2, its2, n2, r2, hl2, e2⟩ := I.lstM hB
  have hsz : its.toArray.size + its2.toArray.size ≤ sizeLine := by rw [List.size_toArray, List.size_toArray]; omega
  have hlong : ¬ (!its.toArray.isEmpty && Builtin.List.listTooLong (its.toArray.size + its2.toArray.size)) = true := by
    rw [notLongL hsz, Bool.and_false]
    exact Bool.false_ne_true
  refine call_meets F.slot_list_extend ⟨_, e, rfl⟩ F.entry_list_extend (F.args_list_extend_2 _ _)
    (AutoSeq1.list_extend_list_list_0 l its.toArray n b its2.toArray n2 hlong (by rw [List.size_toArray]; omega) (by omega)) ⟨e, e2, ?_⟩
  refine ⟨.non, _, I.lset (its' := its ++ its2) hH e (by simp) (r.append r2) ?_, rfl, q⟩
  rw [List.length_append]
  omega

def rCat : R2 := fun x y H Q => ∃ l b xs zs, x = .ref l ∧ y = .ref b ∧ H l = some (.lst xs) ∧ H b = some (.lst zs) ∧ xs.length + zs.length ≤ sizeLine ∧ ∀ p, H p = none → Q (.ref p) (upd H p (.lst (xs ++ zs)))
theorem op_cat : OpR X (binaryOp .Add) rCat := by
  intro pins s σ H x y v u Q I rx ry h
  obtain ⟨l, b, xs, zs, rfl, rfl, hH, hB, hz, q⟩ := h
  cases rx
  cases ry
  obtain ⟨z, its, n, r, hl, e⟩ := I.lstM hH
  obtain ⟨z2, its2, n2, r2, hl2, e2⟩ := I.lstM hB
  refine PySem.P.add_list e e2 ?_ (by rw [List.size_toArray, List.size_toArray]; omega)
  have ea : its.toArray ++ its2.toArray = (its ++ its2).toArray := by simp
  rw [ea]
  exact ⟨.ref _, _, I.lnew (t' := s.toks) (r.append r2) (by rw [List.length_append]; omega), rfl, q _ I.fresh⟩
end

section
variable {prog : Program} {w : World} {A : Around} {E : Value → Shared → Prop} {s : Shared}
set_option maxRecDepth 100000 in
end

section
variable {X : Cx}
end
end L2

namespace Att
open PySem PySem.W PySem.Calls PyProof.Rows

theorem ints_of_wellAll {P : Params} {h : Heap} : ∀ (ns : List Int) (vs : List Value), WellAll P h vs (ns.map WData.int) → IntsAre vs ns := by
  intro ns
  induction ns with
  | nil =>
    intro vs w
    rw [List.map_nil] at w
    cases w
    exact .nil
  | cons n ns ih =>
    intro vs w
    rw [List.map_cons] at w
    cases w with
    | cons a b =>
      cases a
      exact .cons _ _ (ih _ b)

theorem script_of {l : OpenLaw} {n : Nat} (hn : l.most = some n) {P : Params} {h : Heap} {args : List WData} {vals : List Value}
    (hpre : l.row.toRowW.claim.pre args = true) (hwl : WellAll P h vals args) :
    ∃ a vs ns, vals = [Value.ref a] ∧ args = [WData.list (ns.map WData.int)] ∧ h.get? a = some { cls := .type "list", data := .seq vs.toArray } ∧ IntsAre vs ns ∧ ns.length ≤ n := by
  have hsh : WShape.hasAll [] args [.list .int] = true := (pre_splitW hpre).1
  have hc : l.pre.holds [] { args := args } = true := (pre_splitW hpre).2
  obtain ⟨d, r, rfl, h1, h2⟩ := hasAllW_cons hsh
  obtain rfl := hasAllW_nil h2
  obtain ⟨xs, rfl, h3⟩ := hasW_list h1
  obtain ⟨ns, rfl⟩ := items_int h3
  have hlen : ns.length ≤ n := by
    unfold OpenLaw.pre at hc
    have h4 : (WTm.not (.lt (.lit (.int (n : Int))) (.len (.arg 0)))).holds [] { args := [.list (ns.map .int)] } = true := by
      have h4 := (holds_andW hc).1
      rw [hn] at h4
      exact h4
    have h5 := condW_of h4 (w_not (w_lt w_lit (w_len_list (w_arg rfl))))
    rw [List.length_map] at h5
    refine Nat.le_of_not_lt fun q => ?_
    have q' : (n : Int) < ((ns.length : Nat) : Int) := by omega
    first
      | (rw [decide_eq_true q'] at h5; exact absurd h5 (by decide))
      | (simp at h5; omega)
  cases hwl with
  | cons w1 w2 =>
    cases w2
    cases w1 with
    | list ho hall => exact ⟨_, _, ns, rfl, rfl, ho, ints_of_wellAll ns _ hall, hlen⟩

theorem post_true (l : OpenLaw) (args : List WData) : l.row.toRowW.claim.post args (.bool true) args = true :=
  postW_of (r := l.row.toRowW) (X := (true == true))
    (show WShape.has [] (.bool true) .bool = true by first | rfl | decide | simp [WShape.has, WShape.arms, WShape.armsAll])
    (show (WTm.eq .res (.lit (.bool true))).value [] { args := args, res := some (.bool true), after := args } = some (.bool (true == true)) from w_eq_bool (w_res rfl) w_lit) rfl

theorem attach_call {l : OpenLaw} {n : Nat} {q : Program} {loose : List Str} {XP : (Str → Option Value) → Heap → Prop} {YP : World → Heap → Prop} {d : DefRec}
    (hn : l.most = some n) (hdf : d.params.defaults = [])
    (call : ∀ (w : World) (s₀ s₁ : Shared) (mg mb : Str → Option Value) (fa : Addr) (o : Obj) (pm cd doc : Value) (a : Addr) (vs : List Value) (ns : List Int),
      Ground q loose [] XP w s₀ mg mb s₁.heap → YP w s₁.heap →
      s₁.heap.get? fa = some o → o.data = .func (docDef d.name d.params d.body d.scope pm cd doc) → s₁.heap.CodeRec cd d.name → mg d.name = some (.ref fa) →
      s₁.heap.get? a = some { cls := .type "list", data := .seq vs.toArray } → IntsAre vs ns → ns.length ≤ n → s₁.gens = #[] →
      codeAny (model l.prog w) callerA (.call (.ref fa) ⟨[.ref a], []⟩) (fun r s' => r = .ok (.ret (.bool true)) ∧ OldK s₁.heap s'.heap ∧ s'.os = s₁.os ∧ AllBare s'.gens) s₁) :
    WalkO q loose XP YP l.row.toRowW d [] (fun f vs => PySem.call f vs) := by
  intro w s₀ s₁ mg mb G Y fa o pm cd doc dV kV ho hd hcd hD hmg hg args vals as hpre hlay hrd hwl hlo
  obtain rfl : dV = .none := Dflts.none hD hdf
  obtain rfl : kV = .none := Dflts.noKw hD
  obtain ⟨a, vs, ns, rfl, rfl, hobj, hints, hlen⟩ := script_of hn hpre hwl
  refine enter_call (codeAny_mono (call w s₀ s₁ mg mb fa o pm cd doc a vs ns G Y ho (fd_plain hd) hcd hmg hobj hints hlen hg) fun r s' hq => ?_)
  obtain ⟨rfl, h2, h3, h4⟩ := hq
  exact ⟨.inl ⟨.bool true, .bool true, [], rfl, fun _ => rfl, .bool true, post_true l _, fun _ => ⟨List.Pairwise.nil, fun _ hm => (nomatch hm)⟩⟩, h2, h3, h4⟩

section
variable {prog : Program} {w : World} {A : Around} {E : Value → Shared → Prop} {s : Shared} {K : Frag}

end
end Att

namespace L2
open PySem PySem.Spec PyProof.Rows

theorem vals_ints : ∀ {vs : List Value} {ns : List Int}, IntsAre vs ns → Vals (ns.map V.int) vs
  | _, _, .nil => .nil
  | _, _, .cons n t h => .cons ⟨t, rfl⟩ (vals_ints h)

def Only (H : Hp) : Prop := ∀ b, H b = none ∨ ∃ o xs, H b = some (.frz o (.lst xs))

theorem law_call {P : Program} {w : World} {K : PySem.W.Frag} {mg mb : Str → Option Value} {CX : CXT} {k : Nat} {fa a : Addr} {fd : FuncData} {x : Str} {sp : Sp} {s₁ : Shared} {vs : List Value} {ns : List Int}
    (KX : K.In s₁.heap) (hns : s₁.heap.Ns mainGlobals mg) (hb : s₁.heap.Ns builtinsNs mb) (hbb : ∀ x : Str, x ≠ "__name__" → mb x = bootBuiltins x) (hlim : s₁.heap.NoLimit) (hg : s₁.gens = #[])
    (ha : s₁.heap.get? a = some { cls := .type "list", data := .seq vs.toArray }) (hi : IntsAre vs ns) (hl : ns.length ≤ sizeLine) (hr : Room k callerA)
    (F : ∀ base : Heap, K.In base → base.Ns mainGlobals mg → FnOk P w K mg base CX k fa fd [x] sp) (hbind : ∀ (s : Shared) (u : Value), BindsTo s fd ⟨[u], []⟩ [(x, u)])
    (hsp : ∀ H : Hp, Only H → SqL K H a (ns.map V.int) → sp [.ref a] H (fun v _ => v = .bl true) fun _ _ _ => False)
    (hCX : ∀ H e s', CX [] H s₁ (fun _ _ _ => False) e s' → False) :
    codeAny (model P w) callerA (.call (.ref fa) ⟨[.ref a], []⟩) (fun r s' => r = .ok (.ret (.bool true)) ∧ OldK s₁.heap s'.heap ∧ s'.os = s₁.os ∧ AllBare s'.gens) s₁ := by
  have rv := vals_ints hi
  have lenV := hi.length
  have core : ∀ H : Hp, Only H → SqL K H a (ns.map V.int) → HOk P w H s₁.heap → (∀ b, H b ≠ none → b = a) → (H a ≠ none → K.lookup a = none) →
      codeAny (model P w) callerA (.call (.ref fa) ⟨[.ref a], []⟩) (fun r s' => r = .ok (.ret (.bool true)) ∧ OldK s₁.heap s'.heap ∧ s'.os = s₁.os ∧ AllBare s'.gens) s₁ := by
    intro H hO hS hok hA hK
    have base_of : ∀ {b : Addr} {o : Obj}, s₁.heap.get? b = some o → H b = none → (hidT s₁.heap H).get? b = some o := fun e n => hidT_get e n
    have noA : ∀ {b : Addr} {o : Obj} {es : Array DictEntry} {ep : Nat}, s₁.heap.get? b = some o → o.data = .dict es ep → H b = none := fun {b o es ep} e d => by
      cases q : H b with
      | none => rfl
      | some u =>
        have e' : b = a := hA b (by rw [q]; simp)
        subst e'
        rw [ha] at e; cases e
        have d' : Data.seq vs.toArray _ = Data.dict es ep := d
        cases d'
    have nsK : ∀ {b : Addr} {m : Str → Option Value}, s₁.heap.Ns b m → (hidT s₁.heap H).Ns b m := fun {b m} ⟨o, es, ep, e, d, r⟩ => ⟨o, es, ep, base_of e (noA e d), d, r⟩
    have hKb : K.In (hidT s₁.heap H) := fun b o e => base_of (KX b o e) (by
      cases q : H b with
      | none => rfl
      | some u =>
        have e' : b = a := hA b (by rw [q]; simp)
        subst e'
        rw [hK (by rw [q]; simp)] at e; cases e)
    have hM : Mod K mg (hidT s₁.heap H) := ⟨hKb, nsK hns, ⟨mb, nsK hb, hbb⟩, let ⟨mc, h1, h2⟩ := hlim; ⟨mc, nsK h1, h2⟩⟩
    have e0 : Env0 P w K mg (hidT s₁.heap H) callerA [] s₁ H := ⟨rfl, hM, fun b o e => of_hidT e, Nat.le_of_eq (hidT_size _ _), trivial, fun b hb => absurd (show b ∈ ([] : List Addr) from hb) (by simp), hok, .of_eq hg⟩
    refine codeAny_mono ((F _ hKb (nsK hns)).run callerA [] s₁ H ⟨[.ref a], []⟩ [.ref a] [.ref a] _ _ hr e0 (hbind s₁ (.ref a)) (.cons rfl .nil) (hsp H hO hS)) fun r s' h => ?_
    cases r with
    | error e => exact (hCX H e s' h).elim
    | ok fl =>
      cases fl with
      | next => exact False.elim h
      | brk => exact False.elim h
      | cont => exact False.elim h
      | ret u =>
        obtain ⟨v, H', os, bare, un, hok', r', q⟩ := h
        have q' : v = .bl true := q
        subst q'
        obtain rfl : u = Value.bool true := r'
        refine ⟨rfl, OldK.of_keep fun b o e => ?_, os, bare⟩
        cases q : H b with
        | none => exact un.keep b o e q (by intro z; exact absurd (show b ∈ ([] : List Addr) from z) (by simp)) (by simp)
        | some u =>
          rcases hO b with z | ⟨ob, xs, z⟩
          · rw [q] at z; cases z
          · have z2 := un.frzs b ob _ z
            obtain ⟨e1, _⟩ := hok b _ z
            obtain ⟨e2, _⟩ := hok' b _ z2
            rw [e] at e1; cases e1
            exact e2
  cases hk : K.lookup a with
  | some o =>
    have e := KX a o hk
    rw [ha] at e
    cases e
    refine core (fun _ => none) (fun _ => .inl rfl) (.inr ⟨_, vs.toArray, _, hk, rfl, rfl, rfl, by rw [List.size_toArray, lenV]; exact hl, by simpa using rv⟩) (fun b u z => by have z' : (none : Option HO) = some u := z; cases z') (fun b z => absurd rfl z) fun z => absurd rfl z
  | none =>
    refine core (fun b => if b = a then some (.frz { cls := .type "list", data := .seq vs.toArray } (.lst (ns.map V.int))) else none) (fun b => ?_) (.inl (.inr ⟨{ cls := .type "list", data := .seq vs.toArray }, if_pos rfl⟩)) (fun b u z => ?_) (fun b z => ?_) fun _ => hk
    · by_cases hb : b = a
      · exact .inr ⟨_, _, if_pos hb⟩
      · exact .inl (if_neg hb)
    · by_cases hb : b = a
      · have z' := (if_pos hb).symm.trans z
        cases z'
        subst hb
        exact ⟨ha, by rw [List.length_map]; exact hl, vs, _, rv, ha⟩
      · have z' := (if_neg hb).symm.trans z
        cases z'
    · by_cases hb : b = a
      · exact hb
      · exact absurd (if_neg hb) z
end L2

namespace L2
open PySem PySem.Spec PyProof.Rows

theorem walk_of {l : PySem.W.OpenLaw} {n k : Nat} {q : Program} {loose : List Str} {XP : (Str → Option Value) → Heap → Prop} {YP : World → Heap → Prop} {d : DefRec} {K : Params → PySem.W.Frag} {CX : World → CXT} {sp : World → Sp} {x : Str}
    (hn : l.most = some n) (hn2 : n ≤ sizeLine) (hdf : d.params.defaults = []) (hr : Room k callerA)
    (hY : ∀ (w : World) (h : Heap), YP w h → (K w.params).In h)
    (F : ∀ (w : World) (mg : Str → Option Value) (fa : Addr) (h : Heap), (K w.params).In h → h.Ns mainGlobals mg → mg d.name = some (.ref fa) →
      ∃ fd : FuncData, (∀ (s : Shared) (u : Value), BindsTo s fd ⟨[u], []⟩ [(x, u)]) ∧
        ∀ base : Heap, (K w.params).In base → base.Ns mainGlobals mg → FnOk l.prog w (K w.params) mg base (CX w) k fa fd [x] (sp w))
    (hsp : ∀ (w : World) (H : Hp) (a : Addr) (ns : List Int), ns.length ≤ n → Only H → SqL (K w.params) H a (ns.map V.int) → sp w [.ref a] H (fun v _ => v = .bl true) fun _ _ _ => False)
    (hCX : ∀ (w : World) (H : Hp) (s : Shared) (e : Value) (s' : Shared), CX w [] H s (fun _ _ _ => False) e s' → False) :
    PySem.W.WalkO q loose XP YP l.row.toRowW d [] (fun f vs => PySem.call f vs) := by
  refine Att.attach_call hn hdf fun w s₀ s₁ mg mb fa o pm cd doc a vs ns G Y ho hd hcd hmg hobj hints hlen hg => ?_
  have KX := hY w _ Y
  obtain ⟨fd, hb, hF⟩ := F w mg fa _ KX G.T.g hmg
  exact law_call KX G.T.g G.T.b G.T.builtins G.T.nolimit hg hobj hints (Nat.le_trans hlen hn2) hr hF hb (fun H hO hS => hsp w H a ns hlen hO hS) fun H e s' => hCX w H s₁ e s'
end L2

namespace L2
open PySem PySem.Spec PyProof.Rows


abbrev CX0 : CXT := fun _ _ _ _ _ _ => False
abbrev E0 : XK := fun _ _ _ => False
theorem pass0 {X : Cx} : Passes CX0 X E0 := fun _ _ _ _ _ _ _ h => h.elim

structure Fun (K : PySem.W.Frag) (x qual : Str) (st : Stmt) (f : Addr) (fd : FuncData) : Prop where
  ex : ∃ (oc : Value) (od : Option Addr) (kV doc pm : Value) (an : Option Addr) (cdv ct : Value) (osl : Array (Option Value)),
    fd = PySem.W.fnOf x qual (defArgs st) (defBody st) (defScope st) .none kV doc pm an cdv ct ∧ K.lookup f = some ⟨oc, od, .func fd, osl⟩ ∧ PySem.W.codeIn K cdv qual = true
  kp : PySem.W.keepIn K (.ref f) = true
section
variable {P : Program} {w : World} {K : PySem.W.Frag} {mg : Str → Option Value} {base : Heap}
theorem Fun.ok {x qual : Str} {st : Stmt} {f : Addr} {fd : FuncData} {N ps : List Str} {k : Nat} {sp : Sp} (F : Fun K x qual st f fd) (S : FnScope N ps (defScope st)) (len : ∀ vs H Q E, sp vs H Q E → vs.length = ps.length)
    (hbody : ∀ (cdv : Value) (A : Around) (outer : List Env) (s : Shared) (H : Hp) (vs : List V) (Q : VK) (E : XK), Room k (A.deeper (envOfC qual (defScope st) s.heap.objs.size f cdv)) → sp vs H Q E →
      ∃ t, PSs (cxOf CX0 P w K mg base N qual (defScope st) f cdv A outer s H E).nox (defBody st) t ∧ t { nx := fun _ H' => Q .non H', rt := Q } (start N vs) H) : FnOk P w K mg base CX0 (k + 1) f fd ps sp := by
  obtain ⟨oc, od, kV, doc, pm, an, cdv, ct, osl, rfl, lk, hcd⟩ := F.ex
  refine fn_of lk hcd S len fun A outer s H vs Q E hr hsp => ?_
  obtain ⟨t, h, q⟩ := hbody cdv A outer s H vs Q E hr hsp
  exact ⟨t, h.nox, q⟩
theorem Fun.binds {x qual : Str} {st : Stmt} {f : Addr} {fd : FuncData} {ps : List Str} (F : Fun K x qual st f fd)
    (h : ∀ (kV doc pm : Value) (an : Option Addr) (cdv ct : Value) (us : List Value), us.length = ps.length → bindArgs (PySem.W.fnOf x qual (defArgs st) (defBody st) (defScope st) .none kV doc pm an cdv ct) ⟨us, []⟩ = pure (ps.zip us)) : Binds K fd ps [] := by
  obtain ⟨oc, od, kV, doc, pm, an, cdv, ct, osl, rfl, lk, hcd⟩ := F.ex
  exact .all (h kV doc pm an cdv ct)
theorem fun_mk {x qual : Str} {st : Stmt} {f : Addr} {oc : Value} {od an : Option Addr} {osl : Array (Option Value)} {kV doc pm cdv ct : Value} (l : K.lookup f = some ⟨oc, od, .func (PySem.W.fnOf x qual (defArgs st) (defBody st) (defScope st) .none kV doc pm an cdv ct), osl⟩)
    (c : PySem.W.codeIn K cdv qual = true) (k : PySem.W.keepIn K (.ref f) = true) : Fun K x qual st f (PySem.W.fnOf x qual (defArgs st) (defBody st) (defScope st) .none kV doc pm an cdv ct) := ⟨⟨oc, od, kV, doc, pm, an, cdv, ct, osl, rfl, l, c⟩, k⟩
end
theorem small1000 {n : Nat} (h : n ≤ 1000) : n < sizeLine := Nat.lt_of_le_of_lt h (by decide)

section
variable {X : Cx}
theorem pv (i : Nat) {x : Str} {pos : Pos} (hN : X.N[i]? = some x := by rfl) (hv : Vis X.env.scope x := by first | exact Or.inl rfl | exact Or.inr (Or.inl rfl) | exact Or.inr (Or.inr rfl)) (hd : (x == ("__debug__" : Str)) = false := by decide)
    (hcd : (x == ("__classdict__" : Str)) = false := by decide) : PE X (.Name x pos) (tVar i) := pe_var hN hv hd hcd
end

theorem iteF {A B : Prop} (h : B) : if false = true then A else B := by
  rw [if_neg Bool.false_ne_true]
  exact h
theorem iteT {A B : Prop} (h : A) : if true = true then A else B := by
  rw [if_pos rfl]
  exact h
def Same (H H' : Hp) : Prop := ∀ b o, H b = some o → H' b = some o
theorem Same.refl (H : Hp) : Same H H := fun _ _ h => h
theorem Same.trans {H H1 H2 : Hp} (a : Same H H1) (b : Same H1 H2) : Same H H2 := fun c o h => b c o (a c o h)
theorem Same.free {H H' : Hp} (e : Same H H') {l : Addr} (h : H' l = Option.none) : H l = Option.none := by
  cases q : H l with
  | none => rfl
  | some o =>
    rw [e l o q] at h
    cases h
theorem Same.seq {K : PySem.W.Frag} {H H' : Hp} {a : Addr} {xs : List V} (e : Same H H') (h : SqL K H a xs) : SqL K H' a xs := by
  rcases h with (h | ⟨o, h⟩) | h
  · exact .inl (.inl (e _ _ h))
  · exact .inl (.inr ⟨o, e _ _ h⟩)
  · exact .inr h

end L2

namespace Sea
def gcdL (ns : List Int) : Nat := ns.foldl (fun g n => Nat.gcd g n.natAbs) 0
theorem gcdL_snoc (ns : List Int) (n : Int) : gcdL (ns ++ [n]) = Nat.gcd (gcdL ns) n.natAbs := by
  unfold gcdL
  rw [List.foldl_append]
  rfl
theorem gcdF_dvd : ∀ (ns : List Int) (g : Nat), ns.foldl (fun g n => Nat.gcd g n.natAbs) g ∣ g ∧ ∀ n ∈ ns, ns.foldl (fun g n => Nat.gcd g n.natAbs) g ∣ n.natAbs
  | [], g => ⟨Nat.dvd_refl g, fun _ h => nomatch h⟩
  | x :: r, g => by
    obtain ⟨h1, h2⟩ := gcdF_dvd r (Nat.gcd g x.natAbs)
    refine ⟨Nat.dvd_trans h1 (Nat.gcd_dvd_left _ _), fun n hn => ?_⟩
    rcases List.mem_cons.mp hn with e | e
    · rw [e]
      exact Nat.dvd_trans h1 (Nat.gcd_dvd_right _ _)
    · exact h2 n e
theorem gcdL_dvd {ns : List Int} {n : Int} (h : n ∈ ns) : gcdL ns ∣ n.natAbs := (gcdF_dvd ns 0).2 n h
theorem gcdL_dvdI {ns : List Int} {n : Int} (h : n ∈ ns) : (gcdL ns : Int) ∣ n := Int.ofNat_dvd_left.mpr (gcdL_dvd h)
theorem dvd_gcdF {d : Nat} : ∀ (ns : List Int) (g : Nat), d ∣ g → (∀ n ∈ ns, d ∣ n.natAbs) → d ∣ ns.foldl (fun g n => Nat.gcd g n.natAbs) g
  | [], _, h, _ => h
  | x :: r, g, h, hr => dvd_gcdF r _ (Nat.dvd_gcd h (hr x List.mem_cons_self)) fun n hn => hr n (List.mem_cons_of_mem _ hn)
theorem dvd_gcdL {d : Nat} {ns : List Int} (h : ∀ n ∈ ns, d ∣ n.natAbs) : d ∣ gcdL ns := dvd_gcdF ns 0 (Nat.dvd_zero d) h
theorem gcdL_pos {ns : List Int} {n : Int} (h : n ∈ ns) (h0 : n ≠ 0) : 0 < gcdL ns := by
  rcases Nat.eq_zero_or_pos (gcdL ns) with e | e
  · have q := gcdL_dvd h
    rw [e, Nat.zero_dvd] at q
    omega
  · exact e
theorem gcdL_le {ns : List Int} {n : Int} (h : n ∈ ns) (h0 : n ≠ 0) : (gcdL ns : Int) ≤ n.natAbs := by
  have q := Nat.le_of_dvd (by omega) (gcdL_dvd h)
  omega
def lowL (ns : List Int) : List Int := ns.map fun n => n / (gcdL ns : Int)
theorem lowL_mul {ns : List Int} {n : Int} (h : n ∈ ns) : n / (gcdL ns : Int) * (gcdL ns : Int) = n := Int.ediv_mul_cancel (gcdL_dvdI h)
theorem gcdL_lowL {ns : List Int} (h : 0 < gcdL ns) : gcdL (lowL ns) = 1 := by
  have key : gcdL ns * gcdL (lowL ns) ∣ gcdL ns := by
    refine dvd_gcdL fun n hn => ?_
    have h1 : gcdL (lowL ns) ∣ (n / (gcdL ns : Int)).natAbs := gcdL_dvd (List.mem_map.mpr ⟨n, hn, rfl⟩)
    obtain ⟨c, hc⟩ := h1
    have h2 := congrArg Int.natAbs (lowL_mul hn)
    rw [Int.natAbs_mul, Int.natAbs_natCast, hc] at h2
    rw [← h2]
    exact ⟨c, by rw [Nat.mul_comm, Nat.mul_assoc]⟩
  obtain ⟨c, hc⟩ := key
  have h3 : gcdL ns * (gcdL (lowL ns) * c) = gcdL ns * 1 := by
    rw [← Nat.mul_assoc, ← hc, Nat.mul_one]
  have h4 := Nat.eq_of_mul_eq_mul_left h h3
  exact Nat.dvd_one.mp ⟨c, h4.symm⟩
theorem gcdL_two (x y : Int) : gcdL [x, y] = Nat.gcd x.natAbs y.natAbs := by
  show Nat.gcd (Nat.gcd 0 x.natAbs) y.natAbs = _
  rw [Nat.gcd_zero_left]
theorem gcdL_three (x y z : Int) : gcdL [x, y, z] = Nat.gcd (Nat.gcd x.natAbs y.natAbs) z.natAbs := by
  show Nat.gcd (Nat.gcd (Nat.gcd 0 x.natAbs) y.natAbs) z.natAbs = _
  rw [Nat.gcd_zero_left]
theorem gcdL_neg (ns : List Int) : gcdL (ns.map fun n => -n) = gcdL ns := by
  have key : ∀ (l : List Int) (g : Nat), (l.map fun n => -n).foldl (fun g n => Nat.gcd g n.natAbs) g = l.foldl (fun g n => Nat.gcd g n.natAbs) g := by
    intro l
    induction l with
    | nil => intro g; rfl
    | cons x r ih =>
      intro g
      show (r.map fun n => -n).foldl _ (Nat.gcd g (-x).natAbs) = r.foldl _ (Nat.gcd g x.natAbs)
      rw [ih, Int.natAbs_neg]
  exact key ns 0
theorem gcd_step {a b : Int} (ha : 0 ≤ a) (hb : 0 < b) : Nat.gcd b.toNat (a % b).toNat = Nat.gcd a.toNat b.toNat := by
  obtain ⟨m, rfl⟩ := Int.eq_ofNat_of_zero_le ha
  obtain ⟨n, rfl⟩ := Int.eq_ofNat_of_zero_le (Int.le_of_lt hb)
  have e : ((m : Int) % (n : Int)).toNat = m % n := by
    rw [← Int.natCast_emod]
    rfl
  show Nat.gcd n ((m : Int) % (n : Int)).toNat = Nat.gcd m n
  rw [e, Nat.gcd_comm m n, Nat.gcd_rec n m, Nat.gcd_comm]
theorem abs_if (i : Int) : (if i < 0 then -i else i) = (i.natAbs : Int) := by
  split <;> omega
end Sea
namespace Sea
structure PartOf (t b x y : Int) : Prop where
  pos : 1 ≤ y
  low : Nat.gcd x.natAbs y.natAbs = 1
  eq : x * b = y * t
  xle : x.natAbs ≤ t.natAbs
  yle : y.natAbs ≤ b.natAbs
theorem ediv_le_abs (n : Int) {g : Int} (hg : 0 < g) (h : g ∣ n) : (n / g).natAbs ≤ n.natAbs := by
  obtain ⟨c, hc⟩ := h
  subst hc
  rw [Int.mul_ediv_cancel_left c (by omega), Int.natAbs_mul]
  exact Nat.le_mul_of_pos_left _ (by omega)
theorem partOf_low (t : Int) {b : Int} (hb : b ≠ 0) : ∃ x y : Int, (lowL (if b < 0 then [t, b].map (fun n => -n) else [t, b])) = [x, y] ∧ PartOf t b x y := by
  have key : ∀ (t b : Int), 0 < b → ∃ x y : Int, lowL [t, b] = [x, y] ∧ PartOf t b x y := fun t b hb => by
    have gp : 0 < gcdL [t, b] := gcdL_pos (n := b) (by simp) (by omega)
    have e1 := lowL_mul (ns := [t, b]) (n := t) (by simp)
    have e2 := lowL_mul (ns := [t, b]) (n := b) (by simp)
    have gI : (0 : Int) < (gcdL [t, b] : Int) := by omega
    refine ⟨t / (gcdL [t, b] : Int), b / (gcdL [t, b] : Int), rfl, ?_, ?_, ?_, ediv_le_abs t gI (gcdL_dvdI (by simp)), ediv_le_abs b gI (gcdL_dvdI (by simp))⟩
    · exact Int.ediv_pos_of_pos_of_dvd hb (Int.le_of_lt gI) (gcdL_dvdI (by simp))
    · have h3 := gcdL_lowL gp
      rw [← gcdL_two]
      exact h3
    · generalize (gcdL [t, b] : Int) = g at e1 e2
      calc t / g * b = t / g * (b / g * g) := by rw [e2]
        _ = b / g * (t / g * g) := by rw [← Int.mul_assoc, ← Int.mul_assoc, Int.mul_comm (t / g)]
        _ = b / g * t := by rw [e1]
  by_cases h : b < 0
  · rw [if_pos h]
    obtain ⟨x, y, e, p⟩ := key (-t) (-b) (by omega)
    refine ⟨x, y, e, p.pos, p.low, ?_, by have := p.xle; omega, by have := p.yle; omega⟩
    have q := p.eq
    rw [Int.mul_neg, Int.mul_neg] at q
    omega
  · rw [if_neg h]
    exact key t b (by omega)
end Sea
namespace Sea
theorem natAbs_mul_le (a b : Int) {m n : Nat} (ha : a.natAbs ≤ m) (hb : b.natAbs ≤ n) : (a * b).natAbs ≤ m * n := by
  rw [Int.natAbs_mul]
  exact Nat.mul_le_mul ha hb
theorem big_ok {b : Int} (h : b.natAbs ≤ 10 ^ 40) : b.natAbs < 10 ^ 500 := Nat.lt_of_le_of_lt h (by decide +kernel)
end Sea
namespace Sea
theorem dir_low {X Y : Int} (h : X ≠ 0 ∨ Y ≠ 0) : ∃ x y : Int, lowL [X, Y] = [x, y] ∧ 0 < gcdL [X, Y] ∧ (gcdL [X, Y] ≤ X.natAbs ∨ gcdL [X, Y] ≤ Y.natAbs) ∧ Nat.gcd x.natAbs y.natAbs = 1 ∧ x * Y - y * X = 0 ∧ 0 < x * X + y * Y ∧ x.natAbs ≤ X.natAbs ∧ y.natAbs ≤ Y.natAbs := by
  have gp : 0 < gcdL [X, Y] := by
    rcases h with h | h
    · exact gcdL_pos (n := X) (by simp) h
    · exact gcdL_pos (n := Y) (by simp) h
  have gI : (0 : Int) < (gcdL [X, Y] : Int) := by omega
  have e1 := lowL_mul (ns := [X, Y]) (n := X) (by simp)
  have e2 := lowL_mul (ns := [X, Y]) (n := Y) (by simp)
  refine ⟨X / (gcdL [X, Y] : Int), Y / (gcdL [X, Y] : Int), rfl, gp, ?_, ?_, ?_, ?_, ediv_le_abs X gI (gcdL_dvdI (by simp)), ediv_le_abs Y gI (gcdL_dvdI (by simp))⟩
  · rcases h with h | h
    · exact .inl (Nat.le_of_dvd (by omega) (gcdL_dvd (by simp)))
    · exact .inr (Nat.le_of_dvd (by omega) (gcdL_dvd (by simp)))
  · rw [← gcdL_two]
    exact gcdL_lowL gp
  · generalize (gcdL [X, Y] : Int) = g at e1 e2
    generalize X / g = x at e1
    generalize Y / g = y at e2
    rw [← e1, ← e2, ← Int.mul_assoc, ← Int.mul_assoc, Int.mul_comm x y]
    omega
  · generalize (gcdL [X, Y] : Int) = g at e1 e2 gI
    have f1 : 0 ≤ X / g * X := by
      have : X / g * X = X / g * (X / g) * g := by rw [Int.mul_assoc, e1]
      rw [this]
      exact Int.mul_nonneg (by rw [← Int.natAbs_mul_self]; exact Int.natCast_nonneg _) (Int.le_of_lt gI)
    have f2 : 0 ≤ Y / g * Y := by
      have : Y / g * Y = Y / g * (Y / g) * g := by rw [Int.mul_assoc, e2]
      rw [this]
      exact Int.mul_nonneg (by rw [← Int.natAbs_mul_self]; exact Int.natCast_nonneg _) (Int.le_of_lt gI)
    rcases h with h | h
    · have : X / g * X ≠ 0 := Int.mul_ne_zero (fun z => h (by rw [← e1, z, Int.zero_mul])) h
      omega
    · have : Y / g * Y ≠ 0 := Int.mul_ne_zero (fun z => h (by rw [← e2, z, Int.zero_mul])) h
      omega
end Sea
namespace Sea
end Sea
namespace Sea
def upL (X Y W : Int) : List Int := if W < 0 then [-X, -Y, -W] else [X, Y, W]
theorem upL_neg {X Y W : Int} (h : W ≠ 0) : upL (-X) (-Y) (-W) = upL X Y W := by
  unfold upL
  by_cases c : W < 0
  · rw [if_pos c, if_neg (by omega)]
  · rw [if_neg c, if_pos (by omega), Int.neg_neg, Int.neg_neg, Int.neg_neg]
structure SpotOf (X Y W x y w : Int) : Prop where
  pos : 1 ≤ w
  low : Nat.gcd (Nat.gcd x.natAbs y.natAbs) w.natAbs = 1
  ex : x * W = X * w
  ey : y * W = Y * w
  xle : x.natAbs ≤ X.natAbs
  yle : y.natAbs ≤ Y.natAbs
  wle : w.natAbs ≤ W.natAbs
theorem spot_key {X Y W : Int} (h : 0 < W) : ∃ x y w : Int, lowL [X, Y, W] = [x, y, w] ∧ SpotOf X Y W x y w := by
  have gp : 0 < gcdL [X, Y, W] := gcdL_pos (n := W) (by simp) (by omega)
  have gI : (0 : Int) < (gcdL [X, Y, W] : Int) := by omega
  have e1 := lowL_mul (ns := [X, Y, W]) (n := X) (by simp)
  have e2 := lowL_mul (ns := [X, Y, W]) (n := Y) (by simp)
  have e3 := lowL_mul (ns := [X, Y, W]) (n := W) (by simp)
  have lo := gcdL_lowL gp
  refine ⟨X / (gcdL [X, Y, W] : Int), Y / (gcdL [X, Y, W] : Int), W / (gcdL [X, Y, W] : Int), rfl, Int.ediv_pos_of_pos_of_dvd h (Int.le_of_lt gI) (gcdL_dvdI (by simp)), ?_, ?_, ?_, ediv_le_abs X gI (gcdL_dvdI (by simp)), ediv_le_abs Y gI (gcdL_dvdI (by simp)), ediv_le_abs W gI (gcdL_dvdI (by simp))⟩
  · rw [← gcdL_three]
    exact lo
  · generalize (gcdL [X, Y, W] : Int) = g at e1 e3
    generalize X / g = x at e1
    generalize W / g = w at e3
    rw [← e1, ← e3, Int.mul_assoc, Int.mul_comm g w]
  · generalize (gcdL [X, Y, W] : Int) = g at e2 e3
    generalize Y / g = y at e2
    generalize W / g = w at e3
    rw [← e2, ← e3, Int.mul_assoc, Int.mul_comm g w]
theorem spot_low {X Y W : Int} (h : W ≠ 0) : ∃ x y w : Int, lowL (upL X Y W) = [x, y, w] ∧ SpotOf X Y W x y w := by
  unfold upL
  by_cases c : W < 0
  · rw [if_pos c]
    obtain ⟨x, y, w, e, p⟩ := spot_key (X := -X) (Y := -Y) (W := -W) (by omega)
    refine ⟨x, y, w, e, p.pos, p.low, ?_, ?_, by have := p.xle; omega, by have := p.yle; omega, by have := p.wle; omega⟩
    · have q := p.ex
      rw [Int.mul_neg, Int.neg_mul] at q
      omega
    · have q := p.ey
      rw [Int.mul_neg, Int.neg_mul] at q
      omega
  · rw [if_neg c]
    exact spot_key (by omega)
theorem cross_on {A B C X Y W x y w : Int} (h : W ≠ 0) (p : SpotOf X Y W x y w) (e : A * X + B * Y = C * W) : A * x + B * y = C * w := by
  refine Int.eq_of_mul_eq_mul_right h ?_
  have e1 : (A * x + B * y) * W = A * (x * W) + B * (y * W) := by rw [Int.add_mul, Int.mul_assoc, Int.mul_assoc]
  have e2 : A * (X * w) + B * (Y * w) = (A * X + B * Y) * w := by rw [Int.add_mul, Int.mul_assoc, Int.mul_assoc]
  rw [e1, p.ex, p.ey, e2, e, Int.mul_assoc, Int.mul_comm W w, ← Int.mul_assoc]
theorem cross_one (A1 B1 C1 A2 B2 C2 : Int) : A1 * (C1 * B2 - B1 * C2) + B1 * (A1 * C2 - C1 * A2) = C1 * (A1 * B2 - B1 * A2) := by
  simp only [Int.mul_sub, Int.mul_comm, Int.mul_left_comm]
  omega
theorem cross_two (A1 B1 C1 A2 B2 C2 : Int) : A2 * (C1 * B2 - B1 * C2) + B2 * (A1 * C2 - C1 * A2) = C2 * (A1 * B2 - B1 * A2) := by
  simp only [Int.mul_sub, Int.mul_comm, Int.mul_left_comm]
  omega
end Sea
namespace Sea
theorem gcd3 (D0 D1 D2 : Int) : (Nat.gcd ((Nat.gcd D0.natAbs D1.natAbs : Nat) : Int).natAbs D2.natAbs : Nat) = gcdL [D0, D1, D2] := by
  rw [gcdL_three, Int.natAbs_natCast]
end Sea

namespace Sea
theorem sq_pos {a b : Int} (h : a ≠ 0 ∨ b ≠ 0) : 1 ≤ a * a + b * b := by
  have s1 : 0 ≤ a * a := by rw [← Int.natAbs_mul_self]; exact Int.natCast_nonneg _
  have s2 : 0 ≤ b * b := by rw [← Int.natAbs_mul_self]; exact Int.natCast_nonneg _
  rcases h with h | h
  · have : a * a ≠ 0 := Int.mul_ne_zero h h
    omega
  · have : b * b ≠ 0 := Int.mul_ne_zero h h
    omega
end Sea
namespace Sea
end Sea

namespace Sea
end Sea

namespace L2
open PySem PySem.Spec PyProof.Rows

structure CC where
  C : Addr
  s : Shared
  H : Hp
  fp : List Addr

def closL (env : Env) : List (Str × NameKind) → List (Str × Addr) → List (Str × Addr)
  | [], cs => cs
  | (n, k) :: r, cs => closL env r (if (k == NameKind.free) = true then (n, (env.cells.lookup n).getD 0) :: cs else cs)
theorem clos_eq {scope : Scope} {env : Env} (h : ∀ x ∈ scope.names, x.2 = .free → ∃ c, env.cells.lookup x.1 = some c) : closureFor scope env = pure (closL env scope.names []) := by
  simp only [closureFor]
  have key : ∀ (names : List (Str × NameKind)) (cs : List (Str × Addr)), (∀ x ∈ names, x.2 = .free → ∃ c, env.cells.lookup x.1 = some c) →
    (forIn names cs (fun (x : Str × NameKind) (r : List (Str × Addr)) => match x with | (name, kind) => if (kind == NameKind.free) = true then (do let a ← cellOf env name; pure (ForInStep.yield ((name, a) :: r))) else pure (ForInStep.yield r)) : Sem (List (Str × Addr))) = pure (closL env names cs) := by
    intro names
    induction names with
    | nil => intro cs _; rfl
    | cons x r ih =>
      intro cs hx
      obtain ⟨n, k⟩ := x
      rw [List.forIn_cons]
      have hr := ih (if (k == NameKind.free) = true then (n, (env.cells.lookup n).getD 0) :: cs else cs) fun y hy => hx y (List.mem_cons_of_mem _ hy)
      by_cases hk : (k == NameKind.free) = true
      · obtain ⟨c, hc⟩ := hx (n, k) List.mem_cons_self (by simpa using hk)
        have e : cellOf env n = pure c := by unfold cellOf; rw [hc]
        rw [if_pos hk] at hr
        have hc' : env.cells.lookup n = some c := hc
        rw [hc'] at hr
        show (((if (k == NameKind.free) = true then (do let a ← cellOf env n; pure (ForInStep.yield ((n, a) :: cs))) else pure (ForInStep.yield cs)) : Sem _) >>= _) = _
        rw [if_pos hk, e]
        refine Eq.trans ?_ (hr.trans ?_)
        · rfl
        · rw [closL, if_pos hk, hc']
      · rw [if_neg hk] at hr
        show (((if (k == NameKind.free) = true then (do let a ← cellOf env n; pure (ForInStep.yield ((n, a) :: cs))) else pure (ForInStep.yield cs)) : Sem _) >>= _) = _
        rw [if_neg hk]
        refine Eq.trans ?_ (hr.trans ?_)
        · rfl
        · rw [closL, if_neg hk]
  exact congrArg (fun (z : Sem (List (Str × Addr))) => z >>= fun cs => pure cs) (key scope.names [] h)
theorem closL_sound {env : Env} : ∀ (names : List (Str × NameKind)) (cs : List (Str × Addr)), (∀ x ∈ names, x.2 = .free → ∃ c, env.cells.lookup x.1 = some c) →
    (∀ x c, cs.lookup x = some c → env.cells.lookup x = some c) → ∀ x c, (closL env names cs).lookup x = some c → env.cells.lookup x = some c
  | [], _, _, hc => hc
  | (n, k) :: r, cs, h, hc => by
    refine closL_sound r _ (fun y hy => h y (List.mem_cons_of_mem _ hy)) fun x c => ?_
    by_cases hk : (k == NameKind.free) = true
    · rw [if_pos hk]
      obtain ⟨d, hd⟩ := h (n, k) List.mem_cons_self (by simpa using hk)
      have hd' : env.cells.lookup n = some d := hd
      intro e
      rw [List.lookup_cons] at e
      cases hx : x == n with
      | true =>
        rw [hx, hd'] at e
        have ex : x = n := by simpa using hx
        rw [ex, hd']
        exact e
      | false =>
        rw [hx] at e
        exact hc x c e
    · rw [if_neg hk]
      exact hc x c
theorem closL_has {env : Env} : ∀ (names : List (Str × NameKind)) (cs : List (Str × Addr)) (x : Str), ((x, NameKind.free) ∈ names ∨ ∃ c, cs.lookup x = some c) → ∃ c, (closL env names cs).lookup x = some c
  | [], _, _, h => h.elim (fun z => nomatch z) id
  | (n, k) :: r, cs, x, h => by
    refine closL_has r _ x ?_
    by_cases hk : (k == NameKind.free) = true
    · rw [if_pos hk]
      cases hx : x == n with
      | true => exact .inr ⟨_, by rw [List.lookup_cons, hx]⟩
      | false =>
        rcases h with h | ⟨c, h⟩
        · rcases List.mem_cons.mp h with e | e
          · injection e with e1 _
            subst e1
            simp at hx
          · exact .inl e
        · exact .inr ⟨c, by rw [List.lookup_cons, hx]; exact h⟩
    · rw [if_neg hk]
      rcases h with h | h
      · rcases List.mem_cons.mp h with e | e
        · injection e with _ e2
          subst e2
          exact absurd rfl hk
        · exact .inl e
      · exact .inr h
theorem relabel_free {env : Env} : ∀ {names : List (Str × NameKind)} {x : Str}, names.lookup x = some .free →
    (names.map fun (n, k) => if (k == NameKind.free && env.scope.kind == .function && env.kindOf n == some .cell) then (n, NameKind.cell) else (n, k)).lookup x = some .cell ∨
    (names.map fun (n, k) => if (k == NameKind.free && env.scope.kind == .function && env.kindOf n == some .cell) then (n, NameKind.cell) else (n, k)).lookup x = some .free
  | [], _, h => by simp at h
  | (n, k) :: r, x, h => by
    have ih := @relabel_free env r x
    show List.lookup x ((if (k == NameKind.free && env.scope.kind == .function && env.kindOf n == some .cell) = true then (n, NameKind.cell) else (n, k)) :: _) = _ ∨ List.lookup x ((if (k == NameKind.free && env.scope.kind == .function && env.kindOf n == some .cell) = true then (n, NameKind.cell) else (n, k)) :: _) = _
    by_cases hc : (k == NameKind.free && env.scope.kind == .function && env.kindOf n == some .cell) = true
    · rw [if_pos hc]
      cases hx : x == n with
      | true => exact .inl (by rw [List.lookup_cons, hx])
      | false =>
        rw [List.lookup_cons, hx] at h
        rw [List.lookup_cons, hx]
        exact ih h
    · rw [if_neg hc]
      cases hx : x == n with
      | true =>
        rw [List.lookup_cons, hx] at h
        exact .inr (by rw [List.lookup_cons, hx]; exact h)
      | false =>
        rw [List.lookup_cons, hx] at h
        rw [List.lookup_cons, hx]
        exact ih h
theorem relabel_back {env : Env} : ∀ {names : List (Str × NameKind)} {x : Str} {j : NameKind}, (∀ y ∈ names, y.2 ≠ .cell) → (j = .cell ∨ j = .free) →
    (names.map fun (n, k) => if (k == NameKind.free && env.scope.kind == .function && env.kindOf n == some .cell) then (n, NameKind.cell) else (n, k)).lookup x = some j → (x, NameKind.free) ∈ names
  | [], _, _, _, _, h => by simp at h
  | (n, k) :: r, x, j, hn, hj, h => by
    have ih := @relabel_back env r x j (fun y hy => hn y (List.mem_cons_of_mem _ hy)) hj
    have hk0 : k ≠ .cell := hn (n, k) List.mem_cons_self
    replace h : List.lookup x ((if (k == NameKind.free && env.scope.kind == .function && env.kindOf n == some .cell) = true then (n, NameKind.cell) else (n, k)) :: (r.map fun (n, k) => if (k == NameKind.free && env.scope.kind == .function && env.kindOf n == some .cell) then (n, NameKind.cell) else (n, k))) = some j := h
    by_cases hc : (k == NameKind.free && env.scope.kind == .function && env.kindOf n == some .cell) = true
    · rw [if_pos hc] at h
      have hf : k = .free := by
        simp only [Bool.and_eq_true] at hc
        simpa using hc.1.1
      cases hx : x == n with
      | true =>
        have ex : x = n := by simpa using hx
        subst ex
        rw [← hf]
        exact List.mem_cons_self
      | false =>
        rw [List.lookup_cons, hx] at h
        exact List.mem_cons_of_mem _ (ih h)
    · rw [if_neg hc] at h
      cases hx : x == n with
      | true =>
        rw [List.lookup_cons, hx] at h
        have ex : x = n := by simpa using hx
        have ek : k = j := Option.some.inj h
        subst ex
        rcases hj with hj | hj
        · exact absurd (ek.trans hj) hk0
        · rw [← hj, ← ek]
          exact List.mem_cons_self
      | false =>
        rw [List.lookup_cons, hx] at h
        exact List.mem_cons_of_mem _ (ih h)

def cxComp (X : Cx) (N : List Str) (scope : Scope) (c : CC) : Cx where
  prog := X.prog
  w := X.w
  K := X.K
  mg := X.mg
  base := X.base
  A := X.A
  N := N
  s₀ := c.s
  H₀ := c.H
  env := compEnvC scope (closL X.env scope.names []) c.C X.env
  outer := X.stack
  stack := X.stack
  ex := c.fp
  fn := fun _ => false
  calm := X.calm
  pn := []
  xe := fun _ _ => False

def CapsOk (X : Cx) (scope : Scope) : List (Str × Nat) → Prop
  | [] => True
  | p :: r => (X.N[p.2]? = some p.1 ∧ scope.names.lookup p.1 = some .free ∧ (X.env.kindOf p.1 = some .cell ∨ X.env.kindOf p.1 = some .free)) ∧ CapsOk X scope r
theorem CapsOk.mem {X : Cx} {scope : Scope} : ∀ {caps : List (Str × Nat)}, CapsOk X scope caps → ∀ p ∈ caps, X.N[p.2]? = some p.1 ∧ scope.names.lookup p.1 = some .free ∧ (X.env.kindOf p.1 = some .cell ∨ X.env.kindOf p.1 = some .free)
  | [], _, _, h => nomatch h
  | q :: r, h, p, hp => by
    rcases List.mem_cons.mp hp with e | e
    · rw [e]; exact h.1
    · exact CapsOk.mem h.2 p e
structure CompScope (X : Cx) (caps : List (Str × Nat)) (scope : Scope) : Prop where
  kind : scope.kind = .function
  nocell : ∀ y ∈ scope.names, y.2 ≠ .cell
  loc : ∀ y ∈ scope.names, y.2 = .local → scope.names.lookup y.1 = some .local
  clos : (scope.names.all fun x => !(x.2 == .free) || (X.env.cells.lookup x.1).isSome) = true
  cap : CapsOk X scope caps
theorem CompScope.cells {X : Cx} {caps : List (Str × Nat)} {scope : Scope} (S : CompScope X caps scope) : ∀ x ∈ scope.names, x.2 = .free → ∃ c, X.env.cells.lookup x.1 = some c := fun x hx hf => by
  have h := List.all_eq_true.mp S.clos x hx
  rw [hf] at h
  simp only [Bool.or_eq_true] at h
  rcases h with h | h
  · exact absurd h (by decide)
  · exact Option.isSome_iff_exists.mp h

def capSt (caps : List (Str × Nat)) (nt : Nat) (σ : St) : St := List.replicate nt none ++ caps.map fun p => (σ[p.2]?).join

def PIfs (Y : Cx) (ifs : List Expr) (t : TT) : Prop :=
  ∀ (pins : List (Addr × Obj)) (s : Shared) (σ : St) (H : Hp) (Q : Bool → Hp → Prop), Inv Y pins σ H s → t σ H Q →
    wpAny (model Y.prog Y.w) Y.A (forIn ifs true fun c r => if r = true then do let ok ← isTrue c Y.env (eval c Y.env); pure (ForInStep.yield ok) else pure (ForInStep.yield r)) (TP Y pins σ Q) Y.xe s
def tYes : TT := fun _ H Q => Q true H
theorem pifs_nil {Y : Cx} : PIfs Y [] tYes := fun _ _ _ H _ I h => wpAny_tests_nil ⟨H, I, h⟩
theorem pifs_one {Y : Cx} {c : Expr} {t : TT} (h : PT Y c t) : PIfs Y [c] t := fun pins s σ H Q I q => wpAny_tests_one (h pins s σ H Q I q)

def CompW (J : It) (D : Addr) (g : TG) (tt : TT) (te : TE) (σ0 : St) (H1 : Hp) (Q : VK) : Prop :=
  ∃ W : Nat → Nat → St → List V → Hp → Prop, (∃ m, W 0 m σ0 [] (upd H1 D (.lst []))) ∧ ∀ i m σ ys H, W i m σ ys H → H D = some (.lst ys) ∧
    ((J.stop i H ∧ Q (.ref D) H) ∨ (J.go i H ∧ ∃ N : St → List V → Hp → Prop, (∀ σ' zs H', N σ' zs H' → ∃ m', m' < m ∧ W (i + 1) m' σ' zs H') ∧ ∀ x H', J.yld i H x H' → g x σ H' fun σ2 H2 => tt σ2 H2 fun b H3 =>
      if b = true then te σ2 H3 fun y H4 => H4 D = some (.lst ys) ∧ ys.length < sizeLine ∧ N σ2 (ys ++ [y]) (upd H4 D (.lst (ys ++ [y]))) else N σ2 ys H3))
def tComp (nt : Nat) (caps : List (Str × Nat)) (wi : TI) (g : CC → TG) (tt : CC → TT) (te : CC → TE) : TE := fun σ H Q =>
  wi σ H fun J H1 => ∀ (c : CC) (D : Addr), H1 D = none → CompW J D (g c) (tt c) (te c) (capSt caps nt σ) H1 Q

theorem thnF {α : Type} {t : Sem α} {Q Q' : α → Shared → Prop} {M : Model} {A : Around} {E : Value → Shared → Prop} {s : Shared} (h : wpAny M A t Q (fun _ _ => False) s) (hQ : ∀ a s, Q a s → Q' a s) : wpAny M A t Q' E s := wpAny_mono h hQ fun _ _ x => x.elim
theorem Un.same {fs ex : List Addr} {H H' : Hp} {h h1 h2 : Heap} {C : Addr} (u : Un fs ex H H' h h1) (sb : Heap.SameBut C h1 h2) (hC : h.get? C = none) : Un fs ex H H' h h2 := by
  have ne : ∀ b o, h.get? b = some o → b ≠ C := fun b o e z => by rw [z, hC] at e; cases e
  refine ⟨fun b o e n hb hx => (sb.2 b (ne b o e)).trans (u.keep b o e n hb hx), fun b o e n hb hx => ?_, u.free, fun b o e hx => ?_, u.tups, u.frzs, u.tbls⟩
  · obtain ⟨sl, q⟩ := u.slot b o e n hb hx
    exact ⟨sl, (sb.2 b (ne b o e)).trans q⟩
  · obtain ⟨o', q⟩ := u.there b o e hx
    exact ⟨o', (sb.2 b (ne b o e)).trans q⟩
theorem HOk.same {P : Program} {w : World} {H : Hp} {h h' : Heap} {C : Addr} (k : HOk P w H h) (sb : Heap.SameBut C h h') (hC : H C = none) : HOk P w H h' := fun b o e => by
  refine (k b o e).stay (fun c v hc q => (sb.2 c ?_).trans q) (fun _ q => q) fun _ _ q => q
  rintro rfl
  rcases hc with z | z
  · rw [z, e] at hC; cases hC
  · rw [hC] at z; cases z

section
variable {X : Cx} {T : List Str} {caps : List (Str × Nat)} {scope : Scope} {elt target iter : Expr} {ifs : List Expr} {pos : Pos} {wi : TI} {g : CC → TG} {tt : CC → TT} {te : CC → TE}

theorem comp_start {pins : List (Addr × Obj)} {σ : St} {H2 : Hp} {s2 : Shared} {fp : List Addr} {C D : Addr} {h1 : Heap} {tk : Nat} {m : Str → Option Value} (S : CompScope X caps scope) (I2 : Inv X pins σ H2 s2) (f2 : ∀ b ∈ fp, FpOk X pins H2 b)
    (hfp : ∀ b ∈ fp, b < s2.heap.objs.size) (hD : s2.heap.objs.size ≤ D) (hC : s2.heap.objs.size ≤ C) (hDC : C ≠ D) (old : ∀ b o, s2.heap.get? b = some o → h1.get? b = some o)
    (acc : ∃ n, h1.get? D = some { cls := .type "list", data := .seq ([] : List Value).toArray n }) (hn : h1.Ns C m) :
    Inv (cxComp X (T ++ caps.map (·.1)) scope ⟨C, s2, H2, fp⟩) [] (capSt caps T.length σ) (upd H2 D (.lst [])) { s2 with heap := h1, toks := tk } := by
  have cs := closL_sound (env := X.env) scope.names [] S.cells (fun _ _ z => by cases z)
  have cellOld : ∀ x c, X.env.cells.lookup x = some c → c < s2.heap.objs.size := fun x c e => by
    obtain ⟨v, q⟩ := I2.cell x c e
    exact q.lt
  have stkNo : ∀ b ∈ fp, b ∉ frs X.stack := fun b hb z => by
    rcases List.mem_cons.mp (I2.stkSub b z) with e | e
    · exact (f2 b hb).2.1 e
    · exact (f2 b hb).2.2.1 e
  have fr : H2 D = none := I2.hok.fresh hD
  refine ⟨⟨I2.ok.mod, S.kind, I2.ok.glob, I2.ok.blt, hC, fun x y c e1 e2 => I2.ok.inj x y c (cs x c e1) (cs y c e2), fun x hx => ?_, fun _ _ z => absurd (show false = true from z) Bool.false_ne_true, I2.ok.hd, I2.ok.frames, .inl rfl, fun b hb => ⟨?_, fun x c e => (f2 b hb).2.2.2.2.1 x c (cs x c e)⟩,
    fun b o e => I2.bs b o e, Nat.le_trans I2.ok.bsz I2.sz, fun b o e hb => ?_, stkNo, I2.stack, I2.stkFree⟩, rfl, I2.bare, ?_, ⟨m, hn, fun i x v e1 e2 e3 => ?_⟩, fun x c e => ?_, ?_, fun x c e => ?_, fun p hp => absurd (show p ∈ ([] : List (Addr × Obj)) from hp) (by simp), ?_, ?_⟩
  · have hx' : (x, NameKind.free) ∈ scope.names := by
      rcases hx with z | z
      · exact relabel_back S.nocell (.inl rfl) z
      · exact relabel_back S.nocell (.inr rfl) z
    exact closL_has scope.names [] x (.inl hx')
  · exact Nat.ne_of_lt (Nat.lt_of_lt_of_le (hfp b hb) hC)
  · rcases (f2 b hb).2.2.2.1 with z | z
    · exact I2.ok.noex b o e z
    · exact absurd (Nat.lt_of_lt_of_le (Heap.lt_size (show X.base.get? b = some o from e)) (Nat.le_trans I2.ok.bsz z)) (Nat.lt_irrefl _)
  · exact Un.laid old hD fr
  · have hlt : ¬ i < T.length := fun hi => by
      unfold capSt at e2
      rw [List.getElem?_append_left (by simpa using hi), List.getElem?_replicate, if_pos hi] at e2
      cases e2
    have hge : T.length ≤ i := Nat.le_of_not_lt hlt
    have e1' : (T ++ caps.map (·.1))[i]? = some x := e1
    rw [List.getElem?_append_right hge, List.getElem?_map] at e1'
    unfold capSt at e2
    rw [List.getElem?_append_right (by simpa using hge), List.length_replicate, List.getElem?_map] at e2
    cases hp : caps[i - T.length]? with
    | none => rw [hp] at e1'; cases e1'
    | some p =>
      rw [hp] at e1' e2
      have ex : p.1 = x := Option.some.inj e1'
      have ev : (σ[p.2]?).join = some v := Option.some.inj e2
      obtain ⟨hN, hf, hk⟩ := S.cap.mem p (List.mem_of_getElem? hp)
      have ev' : σ[p.2]? = some (some v) := by
        cases hq : σ[p.2]? with
        | none => rw [hq] at ev; cases ev
        | some o =>
          rw [hq] at ev
          exact congrArg some ev
      obtain ⟨m2, _, hl2⟩ := I2.loc
      obtain ⟨u, ru, l⟩ := hl2 p.2 p.1 v hN ev' (hk.elim (fun z => .inr (.inl z)) fun z => .inr (.inr z))
      refine ⟨u, ru, .inr ⟨?_, ?_⟩⟩
      · rw [← ex]
        exact relabel_free (env := X.env) hf
      · rcases l with ⟨kl, _⟩ | ⟨_, c, ec, hcell⟩
        · rcases hk with z | z <;> (rw [kl] at z; cases z)
        · obtain ⟨d, hd⟩ := closL_has (env := X.env) scope.names [] p.1 (.inl (PySem.mem_of_lookup hf))
          have hd' := cs p.1 d hd
          rw [ec] at hd'
          cases hd'
          obtain ⟨o, ho, hod⟩ := hcell
          exact ⟨c, by rw [← ex]; exact hd, o, old c o ho, hod⟩
  · obtain ⟨v, o, ho, hd⟩ := I2.cell x c (cs x c e)
    exact ⟨v, o, old c o ho, hd⟩
  · show upd H2 D (.lst []) C = none
    rw [upd_ne hDC]
    exact I2.hok.fresh hC
  · show upd H2 D (.lst []) c = none
    rw [upd_ne (Nat.ne_of_lt (Nat.lt_of_lt_of_le (cellOld x c (cs x c e)) hD))]
    exact I2.freeC x c (cs x c e)
  · obtain ⟨n, e⟩ := acc
    exact I2.hok.laid old hD ⟨Nat.zero_le _, [], n, .nil, e⟩
  · show (capSt caps T.length σ).length = (T ++ caps.map (·.1)).length
    unfold capSt
    rw [List.length_append, List.length_append, List.length_map, List.length_map, List.length_replicate]

theorem pe_comp (S : CompScope X caps scope) (hc : X.calm = true) (hi : PI X target iter wi) (hg : ∀ c, PG (cxComp X (T ++ caps.map (·.1)) scope c) target (g c)) (ht : ∀ c, PIfs (cxComp X (T ++ caps.map (·.1)) scope c) ifs (tt c)) (he : ∀ c, PE (cxComp X (T ++ caps.map (·.1)) scope c) elt (te c))
    (hs : ∀ x, foldedSetIterable iter X.env x = pure x := by intro _; rfl) : PE X (.ListComp elt [⟨target, iter, ifs, 0⟩] scope pos) (tComp T.length caps wi g tt te) := by
  intro pins s σ H Q I h
  rw [eval_ListComp]
  refine wpAny_comprehension_free (use := none) rfl hs (clos_eq S.cells) S.kind S.loc (thn (hi pins s σ H _ I h) fun v s1 h1 => thn h1 fun itv s2 h2 => ?_)
  obtain ⟨it, fp, tn, J, H2, e, I2, TT, st2, f2, q2⟩ := h2
  subst e
  refine wpAny_newObj_type (wpAny_newFunctionEnv S.nocell (by intro y hy; simp at hy) (fun h1 hn hsb => ?_) S.kind)
  dsimp only at hn hsb ⊢
  generalize hg2 : s2.heap.push { cls := .type "list", dict := none, data := .seq ([] : List Value).toArray } = G at hn hsb ⊢
  have hCv : G.objs.size = s2.heap.objs.size + 1 := by rw [← hg2, Heap.size_push]
  have hDC : G.objs.size ≠ s2.heap.objs.size := by rw [hCv]; exact Nat.succ_ne_self _
  have hCle : s2.heap.objs.size ≤ G.objs.size := by rw [hCv]; exact Nat.le_succ _
  have old : ∀ b o, s2.heap.get? b = some o → h1.get? b = some o := fun b o e => hsb.extBut b o (Nat.ne_of_lt (Nat.lt_of_lt_of_le (Heap.lt_size e) hCle)) (Heap.get?_push_of_some _ (hg2 ▸ Heap.get?_push_of_some _ e))
  have hacc : ∃ n, h1.get? s2.heap.objs.size = some { cls := .type "list", data := .seq ([] : List Value).toArray n } := ⟨_, hsb.extBut _ _ (Ne.symm hDC) (Heap.get?_push_of_some _ (hg2 ▸ Heap.get?_push_size _ rfl))⟩
  have hfp : ∀ b ∈ fp, b < s2.heap.objs.size := fun b hb => by
    obtain ⟨o, e, _⟩ := TT.obj _ _ st2 b hb
    exact Heap.lt_size e
  have cs := closL_sound (env := X.env) scope.names [] S.cells (fun _ _ z => by cases z)
  have I0 := comp_start (T := T) (tk := s2.toks + ([] : List (Str × Value)).length) S I2 f2 hfp (Nat.le_refl _) hCle hDC old hacc hn
  have st0 : tn 0 h1 := TT.keep _ _ _ st2 fun b _ o e => old b o e
  obtain ⟨W, ⟨m0, w0⟩, turn⟩ := q2 ⟨G.objs.size, s2, H2, fp⟩ s2.heap.objs.size (I2.hok.fresh (Nat.le_refl _))
  have fr0 : ∀ b ∈ fp, upd H2 s2.heap.objs.size (.lst []) b = none := fun b hb => by
    rw [upd_ne (Nat.ne_of_lt (hfp b hb))]
    exact (f2 b hb).1
  have stat : ∀ {H' : Hp}, (∀ b ∈ fp, H' b = none) → ∀ b ∈ fp, FpOk (cxComp X (T ++ caps.map (·.1)) scope ⟨G.objs.size, s2, H2, fp⟩) [] H' b := fun {H'} hn' b hb =>
    ⟨hn' b hb, Nat.ne_of_lt (Nat.lt_of_lt_of_le (hfp b hb) hCle), I0.ok.exfs b hb, .inl hb, fun x c e => (f2 b hb).2.2.2.2.1 x c (cs x c e), fun p hp => absurd (show p ∈ ([] : List (Addr × Obj)) from hp) (by simp)⟩
  have loop : codeAny (model X.prog X.w) X.A (.compLoop (.ListComp elt [⟨target, iter, ifs, 0⟩] scope pos) 0 (.ref it) (.ref s2.heap.objs.size) (compEnvC scope (closL X.env scope.names []) G.objs.size X.env))
      (compPost (model X.prog X.w) X.A X.xe none (EP X pins σ Q) (.ref s2.heap.objs.size) G.objs.size) { s2 with heap := h1, toks := s2.toks + ([] : List (Str × Value)).length } := by
    refine codeAny_loop rfl (fun n s' => ∃ i σ' ys H', Inv (cxComp X (T ++ caps.map (·.1)) scope ⟨G.objs.size, s2, H2, fp⟩) [] σ' H' s' ∧ tn i s'.heap ∧ (∀ b ∈ fp, H' b = none) ∧ W i n σ' ys H') (fun n s3 hI => ?_) m0 ⟨0, _, [], _, I0, st0, fr0, w0⟩
    obtain ⟨i, σ3, ys, H3, I3, st3, fr3, w3⟩ := hI
    show wpAny _ X.A ((compTurn (.ListComp elt [⟨target, iter, ifs, 0⟩] scope pos) 0 (.ref it) (.ref s2.heap.objs.size) (compEnvC scope (closL X.env scope.names []) G.objs.size X.env)).onRaise (fun x => do noteFrame x (compEnvC scope (closL X.env scope.names []) G.objs.size X.env); theTreesLotGoes x)) _ _ s3
    refine wpAny_noted ?_
    rw [compTurn_list]
    refine wpAny_bind (wpAny_standAt (wpAny_bind ?_))
    obtain ⟨hD3, turn3⟩ := turn i n σ3 ys H3 w3
    rcases turn3 with ⟨stop, qn⟩ | ⟨go, N, hN, step⟩
    · refine thnF (TT.done (cxComp X (T ++ caps.map (·.1)) scope ⟨G.objs.size, s2, H2, fp⟩) rfl rfl rfl hc i [] s3 σ3 H3 _ I3 (stat fr3) st3 stop) fun r s4 ⟨hr, I4⟩ => ?_
      subst hr
      refine wpAny_pure ?_
      show ∃ m, s4.heap.Ns G.objs.size m ∧ ∀ h', Heap.SameBut G.objs.size s4.heap h' → EP X pins σ Q (.ref s2.heap.objs.size) { s4 with heap := h' }
      obtain ⟨m4, hn4, _⟩ := I4.loc
      refine ⟨m4, hn4, fun h' sb => ⟨.ref s2.heap.objs.size, H3, ?_, rfl, qn⟩⟩
      refine I2.call' (s' := { s4 with heap := h' }) (ch := fp) I4.os (Un.same I4.base sb (Heap.get?_none_of_le hCle)) (HOk.same I4.hok sb I4.free) I4.bare fun b hb => ?_
      obtain ⟨_, f1, _, f3, f4, f5⟩ := f2 b hb
      exact ⟨f3, f1, f4, f5⟩
    · refine thnF (TT.item (cxComp X (T ++ caps.map (·.1)) scope ⟨G.objs.size, s2, H2, fp⟩) rfl rfl rfl hc i [] s3 σ3 H3 _ I3 (stat fr3) st3 go) fun r s4 ⟨u, hr, h4⟩ => ?_
      subst hr
      refine wpAny_bind (thnF h4 fun _ s5 ⟨x, H5, I5, r5, y5, st5, fr5⟩ => ?_)
      have I5' := I5.pinned (stat fr5) (TT.obj _ _ st5)
      refine wpAny_bind (thnF (hg _ _ s5 σ3 H5 x u _ I5' r5 (step x H5 y5)) fun _ s6 ⟨σ6, H6, I6, q6⟩ => ?_)
      have again : ∀ {s7 : Shared} {σ7 : St} {zs : List V} {H7 : Hp}, Inv (cxComp X (T ++ caps.map (·.1)) scope ⟨G.objs.size, s2, H2, fp⟩) ([] ++ pinsAt fp s5.heap) σ7 H7 s7 → N σ7 zs H7 →
          ∃ m, m < n ∧ ∃ i σ' ys H', Inv (cxComp X (T ++ caps.map (·.1)) scope ⟨G.objs.size, s2, H2, fp⟩) [] σ' H' s7 ∧ tn i s7.heap ∧ (∀ b ∈ fp, H' b = none) ∧ W i m σ' ys H' := fun {s7 σ7 zs H7} I7 n7 => by
        obtain ⟨m', hm, w7⟩ := hN σ7 zs H7 n7
        refine ⟨m', hm, i + 1, σ7, zs, H7, I7.unpinned, TT.keep _ _ _ st5 fun b hb o e => (I7.pin (b, o) (List.mem_append_right _ (List.mem_append_right _ (mem_pinsAt hb e)))).1, fun b hb => ?_, w7⟩
        obtain ⟨o, e, d⟩ := TT.obj _ _ st5 b hb
        exact (I7.pin (b, o) (List.mem_append_right _ (List.mem_append_right _ (mem_pinsAt hb e)))).2.1
      refine wpAny_bind (thnF (ht _ _ s6 σ6 H6 _ I6 q6) fun ok s7 ⟨H7, I7, q7⟩ => ?_)
      cases ok with
      | false => exact wpAny_pure ⟨rfl, again I7 q7⟩
      | true =>
        refine wpAny_bind (wpAny_bind (thnF (he _ _ s7 σ6 H7 _ I7 q7) fun y s8 ⟨yv, H8, I8, r8, hD8, hl8, q8⟩ => ?_))
        refine wpAny_bind (thnF (mt_append _ s8 σ6 H8 (.ref s2.heap.objs.size) [yv] (.ref s2.heap.objs.size) [y] (fun _ H9 => N σ6 (ys ++ [yv]) H9) I8 rfl (.cons r8 .nil) ⟨_, ys, yv, rfl, rfl, hD8, hl8, q8⟩) fun _ s9 ⟨_, H9, I9, _, q9⟩ => ?_)
        exact wpAny_pure (wpAny_pure ⟨rfl, again I9 q9⟩)
  exact codeAny_compStart_list loop (TT.self _ 0 _ _ _ st0 loop)
end
end L2

namespace L2
open PySem PySem.Spec PyProof.Rows

theorem bt_len : bootBuiltins "len" = some (.builtin "len") := by decide +kernel
theorem bt_abs : bootBuiltins "abs" = some (.builtin "abs") := by decide +kernel
theorem bt_all : bootBuiltins "all" = some (.builtin "all") := by decide +kernel
theorem bt_any : bootBuiltins "any" = some (.builtin "any") := by decide +kernel
theorem bt_max : bootBuiltins "max" = some (.builtin "max") := by decide +kernel
theorem bt_list : bootBuiltins "list" = some (.type "list") := by decide +kernel
theorem bt_tuple : bootBuiltins "tuple" = some (.type "tuple") := by decide +kernel
def Has (P : Program) (w : World) (K : PySem.W.Frag) (mg : Str → Option Value) (base : Heap) (x : Str) (n : Nat) (ps : List Str) (sp : Sp) : Prop :=
  ∃ (f : Addr) (fd : FuncData), FnOk P w K mg base CX0 n f fd ps sp ∧ Binds K fd ps [] ∧ PySem.W.keepIn K (.ref f) = true ∧ mg x = some (.ref f)
section
variable {X : Cx} {x : Str} {p pos : Pos} {e : Expr} {es : List Expr} {t : TA} {n : Nat} {ps : List Str} {sp : Sp}
theorem pe_callH (h : Has X.prog X.w X.K X.mg X.base x n ps sp) (hr : Room n X.A) (hg : Gl X x) (ha : PA X (e :: es) t) (hdb : (x == ("__debug__" : Str)) = false := by decide)
    (he : starEach (e :: es) X.env = (false, eval e X.env) :: starEach es X.env := by rfl) (hpl : (backTo pos (starEach es X.env)).any (·.1) = false := by rfl) : PE X (.Call (.Name x p) (e :: es) [] pos) (tCall sp [] E0 t) := by
  obtain ⟨f, fd, F, b, k, m⟩ := h
  exact pe_call F hr hg m k b .nil pass0 ha hdb he hpl
end

section
variable {X : Cx}
def CDivP (i j : Int) : Prop := 0 < j ∧ j.natAbs < 2 ^ 4096
theorem op_fdivP : OpR X (binaryOp .FloorDiv) (rI CDivP fun i j => .int (i / j)) := opI fun i j _ _ _ _ _ hc q => by
  have h1 : (0 : Int) < j := hc.1
  have h3 : j.natAbs.log2 < 9000 := Nat.lt_trans ((Nat.log2_lt (by omega)).mpr hc.2) (by decide)
  exact floordiv_int (by omega) (by rw [Int.fdiv_eq_ediv_of_nonneg i (by omega)]; exact q) (.inl (PyProof.noPylong_of_log2 h3))
theorem CDivP.of {i j : Int} (h : 0 < j) (h2 : j < 10 ^ 600) : CDivP i j := by
  refine ⟨h, ?_⟩
  have e : (10 : Nat) ^ 600 < 2 ^ 4096 := by decide +kernel
  omega
def CMulB (i j : Int) : Prop := i.natAbs < 2 ^ 4096 ∧ j.natAbs < 2 ^ 4096
theorem bits_small {i : Int} (h : i.natAbs < 2 ^ 4096) : Builtin.Int.intBits i ≤ 2 ^ 20 := by
  unfold Builtin.Int.intBits
  split
  · exact Nat.zero_le _
  · have q : i.natAbs.log2 < 4096 := by
      rcases Nat.eq_zero_or_pos i.natAbs with h0 | hp
      · rw [h0]; decide
      · exact (Nat.log2_lt (Nat.ne_of_gt hp)).mpr h
    have e : (2 : Nat) ^ 20 = 1048576 := by decide
    omega
theorem op_mulB : OpR X (binaryOp .Mult) (rI CMulB fun i j => .int (i * j)) := opI fun _ _ _ _ _ _ _ hc q => mul_int q (IntMulOk.of_bits (bits_small hc.1) (bits_small hc.2))

def Sq (K : PySem.W.Frag) (H : Hp) (p : Addr) (xs : List V) : Prop := SqL K H p xs ∨ SqT K H p xs
def rIxA (K : PySem.W.Frag) : R2 := fun x y H Q => ∃ p xs i v, x = .ref p ∧ y = .int i ∧ Sq K H p xs ∧ atI xs i = some v ∧ Q v H
theorem ix_any : IxR X (rIxA X.K) := by
  intro value slice pins s σ H x y v u Q I rx ry q hs
  obtain ⟨p, xs, i, z, e1, e2, hq, ha, q⟩ := q
  rcases hq with hq | hq
  · exact ix_list value slice pins s σ H x y v u Q I rx ry ⟨p, xs, i, z, e1, e2, hq, ha, q⟩ hs
  · exact ix_tup value slice pins s σ H x y v u Q I rx ry ⟨p, xs, i, z, e1, e2, hq, ha, q⟩ hs
def iSeq (K : PySem.W.Frag) (tl : TE) : TI := fun σ H R => tl σ H fun x H1 => ∃ a, x = .ref a ∧ (((∃ xs, SqL K H1 a xs) ∧ R (Itl K a) H1) ∨ ((∃ xs, SqT K H1 a xs) ∧ R (Itt K a) H1))
theorem pi_seq {tg l : Expr} {tl : TE} (hl : PE X l tl) : PI X tg l (iSeq X.K tl) := by
  intro pins s σ H R I h
  refine thn (hl pins s σ H _ I h) fun v s1 ⟨x, H1, I1, r1, q1⟩ => ?_
  obtain ⟨a, e, q⟩ := q1
  subst e
  cases r1
  have own : ∀ b, b ∈ [s1.heap.objs.size] → FpOk X pins H1 b := fun b hb => by
    rw [List.mem_singleton] at hb
    subst hb
    exact I1.fpOk (Nat.le_refl _) (I1.hok.fresh (Nat.le_refl _))
  rcases q with ⟨⟨xs, hq⟩, q⟩ | ⟨⟨xs, hq⟩, q⟩
  · obtain ⟨its, rv, p, hz⟩ := I1.list hq
    exact wpAny_pyIter_list p.isList ⟨s1.heap.objs.size, [s1.heap.objs.size], _, _, H1, rfl, I1.kept (t' := s1.toks) fun b o e => Heap.get?_push_of_some _ e, turn_list a _, ⟨_, Heap.get?_push_size _ rfl, rfl, rfl⟩, own, q⟩
  · obtain ⟨its, rv, p, hz⟩ := I1.tuple hq
    exact wpAny_pyIter_tuple (show s1.heap.IsTuple a its.toArray from p) ⟨s1.heap.objs.size, [s1.heap.objs.size], _, _, H1, rfl, I1.kept (t' := s1.toks) fun b o e => Heap.get?_push_of_some _ e, turn_tuple a _, ⟨_, Heap.get?_push_size _ rfl, rfl, rfl⟩, own, q⟩
end

section
variable {K : PySem.W.Frag} {a D : Addr} {xs : List V} {g : TG} {tt : TT} {te : TE} {σ0 : St} {H1 : Hp} {Q : VK}
theorem comp_list (Pv : Nat → St → List V → Hp → Prop) (h0 : Pv 0 σ0 [] (upd H1 D (.lst []))) (hl : ∀ i σ ys H, i ≤ xs.length → Pv i σ ys H → SqL K H a xs ∧ H D = some (.lst ys))
    (hs : ∀ i x σ ys H, xs[i]? = some x → Pv i σ ys H → g x σ H fun σ2 H2 => tt σ2 H2 fun b H3 =>
      if b = true then te σ2 H3 fun y H4 => H4 D = some (.lst ys) ∧ ys.length < sizeLine ∧ Pv (i + 1) σ2 (ys ++ [y]) (upd H4 D (.lst (ys ++ [y]))) else Pv (i + 1) σ2 ys H3)
    (hd : ∀ σ ys H, Pv xs.length σ ys H → Q (.ref D) H) : CompW (Itl K a) D g tt te σ0 H1 Q := by
  refine ⟨fun i m σ ys H => m = xs.length - i ∧ i ≤ xs.length ∧ Pv i σ ys H, ⟨xs.length, by simp, Nat.zero_le _, h0⟩, ?_⟩
  rintro i m σ ys H ⟨rfl, hi, p⟩
  obtain ⟨q, qd⟩ := hl i σ ys H hi p
  refine ⟨qd, ?_⟩
  by_cases hlt : i < xs.length
  · refine .inr ⟨⟨xs, xs[i], q, by simp [hlt]⟩, Pv (i + 1), fun σ' zs H' z => ⟨xs.length - (i + 1), by omega, rfl, hlt, z⟩, fun x H' y => ?_⟩
    obtain ⟨e, y⟩ := y
    subst e
    exact hs i x σ ys _ (y xs q) p
  · have e : i = xs.length := by omega
    subst e
    exact .inl ⟨⟨xs, q, Nat.le_refl _⟩, hd σ ys H p⟩
theorem comp_tup (Pv : Nat → St → List V → Hp → Prop) (h0 : Pv 0 σ0 [] (upd H1 D (.lst []))) (hl : ∀ i σ ys H, i ≤ xs.length → Pv i σ ys H → SqT K H a xs ∧ H D = some (.lst ys))
    (hs : ∀ i x σ ys H, xs[i]? = some x → Pv i σ ys H → g x σ H fun σ2 H2 => tt σ2 H2 fun b H3 =>
      if b = true then te σ2 H3 fun y H4 => H4 D = some (.lst ys) ∧ ys.length < sizeLine ∧ Pv (i + 1) σ2 (ys ++ [y]) (upd H4 D (.lst (ys ++ [y]))) else Pv (i + 1) σ2 ys H3)
    (hd : ∀ σ ys H, Pv xs.length σ ys H → Q (.ref D) H) : CompW (Itt K a) D g tt te σ0 H1 Q := by
  refine ⟨fun i m σ ys H => m = xs.length - i ∧ i ≤ xs.length ∧ Pv i σ ys H, ⟨xs.length, by simp, Nat.zero_le _, h0⟩, ?_⟩
  rintro i m σ ys H ⟨rfl, hi, p⟩
  obtain ⟨q, qd⟩ := hl i σ ys H hi p
  refine ⟨qd, ?_⟩
  by_cases hlt : i < xs.length
  · refine .inr ⟨⟨xs, xs[i], q, by simp [hlt]⟩, Pv (i + 1), fun σ' zs H' z => ⟨xs.length - (i + 1), by omega, rfl, hlt, z⟩, fun x H' y => ?_⟩
    obtain ⟨e, y⟩ := y
    subst e
    exact hs i x σ ys _ (y xs q) p
  · have e : i = xs.length := by omega
    subst e
    exact .inl ⟨⟨xs, q, Nat.le_refl _⟩, hd σ ys H p⟩
theorem comp_range {lo : Int} {n : Nat} (Pv : Nat → St → List V → Hp → Prop) (h0 : Pv 0 σ0 [] (upd H1 D (.lst []))) (hl : ∀ i σ ys H, i ≤ n → Pv i σ ys H → H D = some (.lst ys))
    (hs : ∀ i σ ys H, i < n → Pv i σ ys H → g (.int (lo + i)) σ H fun σ2 H2 => tt σ2 H2 fun b H3 =>
      if b = true then te σ2 H3 fun y H4 => H4 D = some (.lst ys) ∧ ys.length < sizeLine ∧ Pv (i + 1) σ2 (ys ++ [y]) (upd H4 D (.lst (ys ++ [y]))) else Pv (i + 1) σ2 ys H3)
    (hd : ∀ σ ys H, Pv n σ ys H → Q (.ref D) H) : CompW (Itr lo n) D g tt te σ0 H1 Q := by
  refine ⟨fun i m σ ys H => m = n - i ∧ i ≤ n ∧ Pv i σ ys H, ⟨n, by simp, Nat.zero_le _, h0⟩, ?_⟩
  rintro i m σ ys H ⟨rfl, hi, p⟩
  have qd := hl i σ ys H hi p
  refine ⟨qd, ?_⟩
  by_cases hlt : i < n
  · refine .inr ⟨hlt, Pv (i + 1), fun σ' zs H' z => ⟨n - (i + 1), by omega, rfl, hlt, z⟩, fun x H' y => ?_⟩
    obtain ⟨e, y⟩ := y
    subst e y
    exact hs i σ ys _ hlt p
  · have e : i = n := by omega
    subst e
    exact .inl ⟨Nat.le_refl _, hd σ ys H p⟩
end
section
variable {K : PySem.W.Frag} {a D : Addr} {xs : List V} {g : TG} {te : TE} {σ0 : St} {H1 : Hp} {Q : VK}
theorem comp_list0 (Pv : Nat → St → List V → Hp → Prop) (h0 : Pv 0 σ0 [] (upd H1 D (.lst []))) (hl : ∀ i σ ys H, i ≤ xs.length → Pv i σ ys H → SqL K H a xs ∧ H D = some (.lst ys))
    (hs : ∀ i x σ ys H, xs[i]? = some x → Pv i σ ys H → g x σ H fun σ2 H2 => te σ2 H2 fun y H4 => H4 D = some (.lst ys) ∧ ys.length < sizeLine ∧ Pv (i + 1) σ2 (ys ++ [y]) (upd H4 D (.lst (ys ++ [y]))))
    (hd : ∀ σ ys H, Pv xs.length σ ys H → Q (.ref D) H) : CompW (Itl K a) D g tYes te σ0 H1 Q := comp_list Pv h0 hl (fun i x σ ys H e p => hs i x σ ys H e p) hd
theorem comp_tup0 (Pv : Nat → St → List V → Hp → Prop) (h0 : Pv 0 σ0 [] (upd H1 D (.lst []))) (hl : ∀ i σ ys H, i ≤ xs.length → Pv i σ ys H → SqT K H a xs ∧ H D = some (.lst ys))
    (hs : ∀ i x σ ys H, xs[i]? = some x → Pv i σ ys H → g x σ H fun σ2 H2 => te σ2 H2 fun y H4 => H4 D = some (.lst ys) ∧ ys.length < sizeLine ∧ Pv (i + 1) σ2 (ys ++ [y]) (upd H4 D (.lst (ys ++ [y]))))
    (hd : ∀ σ ys H, Pv xs.length σ ys H → Q (.ref D) H) : CompW (Itt K a) D g tYes te σ0 H1 Q := comp_tup Pv h0 hl (fun i x σ ys H e p => hs i x σ ys H e p) hd
theorem comp_range0 {lo : Int} {n : Nat} (Pv : Nat → St → List V → Hp → Prop) (h0 : Pv 0 σ0 [] (upd H1 D (.lst []))) (hl : ∀ i σ ys H, i ≤ n → Pv i σ ys H → H D = some (.lst ys))
    (hs : ∀ i σ ys H, i < n → Pv i σ ys H → g (.int (lo + i)) σ H fun σ2 H2 => te σ2 H2 fun y H4 => H4 D = some (.lst ys) ∧ ys.length < sizeLine ∧ Pv (i + 1) σ2 (ys ++ [y]) (upd H4 D (.lst (ys ++ [y]))))
    (hd : ∀ σ ys H, Pv n σ ys H → Q (.ref D) H) : CompW (Itr lo n) D g tYes te σ0 H1 Q := comp_range Pv h0 hl (fun i σ ys H e p => hs i σ ys H e p) hd
end
end L2

namespace L2
open PySem PySem.Spec PyProof.Rows
theorem all_range : ∀ bs : List Bool, (List.range bs.length).all (fun i => (bs[i]?).getD true) = bs.all id := by
  intro bs
  rw [Bool.eq_iff_iff, List.all_eq_true, List.all_eq_true]
  constructor
  · intro h b hb
    obtain ⟨i, hi, e⟩ := List.getElem_of_mem hb
    have q := h i (List.mem_range.mpr hi)
    rw [List.getElem?_eq_getElem hi, e] at q
    exact q
  · intro h i hi
    have hi' := List.mem_range.mp hi
    rw [List.getElem?_eq_getElem hi']
    exact h _ (List.getElem_mem hi')
theorem any_range : ∀ bs : List Bool, (List.range bs.length).any (fun i => (bs[i]?).getD true) = bs.any id := by
  intro bs
  rw [Bool.eq_iff_iff, List.any_eq_true, List.any_eq_true]
  constructor
  · rintro ⟨i, hi, q⟩
    have hi' := List.mem_range.mp hi
    rw [List.getElem?_eq_getElem hi'] at q
    exact ⟨_, List.getElem_mem hi', q⟩
  · rintro ⟨b, hb, q⟩
    obtain ⟨i, hi, e⟩ := List.getElem_of_mem hb
    refine ⟨i, List.mem_range.mpr hi, ?_⟩
    rw [List.getElem?_eq_getElem hi, e]
    exact q
theorem bools_at {bs : List Bool} {its : List Value} (r : Vals (bs.map V.bl) its) {i : Nat} {v : Value} (h : its[i]? = some v) : v = .bool ((bs[i]?).getD true) := by
  have hl := r.length
  rw [List.length_map] at hl
  have hi : i < its.length := (List.getElem?_eq_some_iff.mp h).1
  have hb : i < bs.length := by omega
  obtain ⟨u, hu, ru⟩ := r.get (i := i) (x := .bl bs[i]) (by rw [List.getElem?_map, List.getElem?_eq_getElem hb]; rfl)
  rw [hu] at h
  cases h
  rw [List.getElem?_eq_getElem hb]
  exact ru
section
variable {X : Cx}
theorem call_allB (hc : X.calm = true) : CallR X (.builtin "all") (fun xs H Q => ∃ (p : Addr) (bs : List Bool), xs = [.ref p] ∧ SqL X.K H p (bs.map V.bl) ∧ Q (.bl (bs.all id)) H) := by
  intro pins s σ H xs us Q I r h
  obtain ⟨p, bs, rfl, hq, q⟩ := h
  obtain ⟨u, rfl, ru⟩ := Vals.one r
  cases ru
  obtain ⟨its, rv, pl, hz⟩ := I.list hq
  have plt : p < s.heap.objs.size := by
    obtain ⟨_, e, _⟩ := pl.isList
    exact Heap.lt_size e
  refine call_all_walk (wpAny_pyIter_list pl.isList ?_)
  refine ⟨s.heap.objs.size, _, _, _, _, _, fun i => (bs[i]?).getD true, rfl, Walks.list (A := X.A.in1) (show X.A.in1.handled = none from I.ok.hd hc) _ p (Nat.ne_of_lt plt) its.toArray, ⟨⟨_, Heap.get?_push_size _ rfl, rfl, rfl⟩, Heap.IsList.push pl.isList _⟩, fun i v s Q E hP hQ => ?_, fun h' tk k => ?_⟩
  · have e := bools_at rv (by simpa using hP)
    subst e
    exact wpAny_truthy_bool hQ
  · have e : (List.range its.toArray.size).all (fun i => (bs[i]?).getD true) = bs.all id := by
      have hl := rv.length
      rw [List.length_map] at hl
      rw [List.size_toArray, ← hl]
      exact all_range bs
    rw [e]
    exact ⟨.bl (bs.all id), H, I.kept (t' := tk) fun b o z => k b o (fun w => by rw [List.mem_singleton] at w; exact Nat.lt_irrefl _ (w ▸ Heap.lt_size z)) (Heap.get?_push_of_some _ z), rfl, q⟩
theorem call_anyB (hc : X.calm = true) : CallR X (.builtin "any") (fun xs H Q => ∃ (p : Addr) (bs : List Bool), xs = [.ref p] ∧ SqL X.K H p (bs.map V.bl) ∧ Q (.bl (bs.any id)) H) := by
  intro pins s σ H xs us Q I r h
  obtain ⟨p, bs, rfl, hq, q⟩ := h
  obtain ⟨u, rfl, ru⟩ := Vals.one r
  cases ru
  obtain ⟨its, rv, pl, hz⟩ := I.list hq
  have plt : p < s.heap.objs.size := by
    obtain ⟨_, e, _⟩ := pl.isList
    exact Heap.lt_size e
  refine call_any_walk (wpAny_pyIter_list pl.isList ?_)
  refine ⟨s.heap.objs.size, _, _, _, _, _, fun i => (bs[i]?).getD true, rfl, Walks.list (A := X.A.in1) (show X.A.in1.handled = none from I.ok.hd hc) _ p (Nat.ne_of_lt plt) its.toArray, ⟨⟨_, Heap.get?_push_size _ rfl, rfl, rfl⟩, Heap.IsList.push pl.isList _⟩, fun i v s Q E hP hQ => ?_, fun h' tk k => ?_⟩
  · have e := bools_at rv (by simpa using hP)
    subst e
    exact wpAny_truthy_bool hQ
  · have e : (List.range its.toArray.size).any (fun i => (bs[i]?).getD true) = bs.any id := by
      have hl := rv.length
      rw [List.length_map] at hl
      rw [List.size_toArray, ← hl]
      exact any_range bs
    rw [e]
    exact ⟨.bl (bs.any id), H, I.kept (t' := tk) fun b o z => k b o (fun w => by rw [List.mem_singleton] at w; exact Nat.lt_irrefl _ (w ▸ Heap.lt_size z)) (Heap.get?_push_of_some _ z), rfl, q⟩
end
end L2

namespace L2
open PySem PySem.Spec PyProof.Rows

section
variable {prog : Program} {w : World} {A : Around} {E : Value → Shared → Prop} {s : Shared}
end
end L2

namespace L2
open PySem PySem.Spec PyProof.Rows
section
variable {X : Cx}
end
section
variable {K : PySem.W.Frag} {b1 b2 : Bool} {l1 l2 D : Addr} {xs ys : List V} {g : TG} {tt : TT} {te : TE} {σ0 : St} {H1 : Hp} {Q : VK}
end
end L2

namespace L2
open PySem PySem.Spec PyProof.Rows
theorem ifD {p A B : Prop} [Decidable p] (h1 : p → A) (h2 : ¬ p → B) : if decide p = true then A else B := by
  by_cases h : p
  · rw [if_pos (decide_eq_true h)]; exact h1 h
  · rw [if_neg (by rw [decide_eq_false h]; exact Bool.false_ne_true)]; exact h2 h
theorem ifN {p A B : Prop} [Decidable p] (h1 : ¬ p → A) (h2 : p → B) : if (!decide p) = true then A else B := by
  by_cases h : p
  · rw [if_neg (by rw [decide_eq_true h]; exact Bool.false_ne_true)]; exact h2 h
  · rw [if_pos (by rw [decide_eq_false h]; rfl)]; exact h1 h
theorem ifE {x y : Int} {A B : Prop} (h1 : x = y → A) (h2 : x ≠ y → B) : if decide (V.int x = V.int y) = true then A else B :=
  ifD (fun h => h1 (V.int.inj h)) fun h => h2 fun e => h (congrArg V.int e)
theorem ifNe {x y : Int} {A B : Prop} (h1 : x ≠ y → A) (h2 : x = y → B) : if (!decide (V.int x = V.int y)) = true then A else B :=
  ifN (fun h => h1 fun e => h (congrArg V.int e)) fun h => h2 (V.int.inj h)
theorem same_new {H : Hp} {p : Addr} (h : H p = none) (o : HO) : Same H (upd H p o) := fun b u q => by rw [upd_ne (ne_of_none q h)]; exact q
theorem Sq.same {K : PySem.W.Frag} {H H' : Hp} {a : Addr} {xs : List V} (h : Sq K H a xs) (e : Same H H') : Sq K H' a xs := by
  rcases h with h | h
  · exact .inl (e.seq h)
  · refine .inr ?_
    rcases h with h | h
    · rcases h with h | ⟨o, h⟩
      · exact .inl (.inl (e _ _ h))
      · exact .inl (.inr ⟨o, e _ _ h⟩)
    · exact .inr h
theorem mapInt_get {ns : List Int} {i : Nat} {x : V} (h : (ns.map V.int)[i]? = some x) : ∃ n, ns[i]? = some n ∧ x = .int n := by
  rw [List.getElem?_map] at h
  cases e : ns[i]? with
  | none => rw [e] at h; cases h
  | some n => rw [e] at h; exact ⟨n, rfl, (Option.some.inj h).symm⟩
theorem take_snoc {α : Type} {l : List α} {i : Nat} {x : α} (h : l[i]? = some x) : l.take (i + 1) = l.take i ++ [x] := by
  rw [List.take_succ, h]; rfl
theorem small {n : Nat} (h : n ≤ 1000) : n ≤ sizeLine := Nat.le_of_lt (small1000 h)
end L2
namespace L2
open PySem PySem.Spec PyProof.Rows
theorem SqT.same {K : PySem.W.Frag} {H H' : Hp} {a : Addr} {xs : List V} (h : SqT K H a xs) (e : Same H H') : SqT K H' a xs := by
  rcases h with h | h
  · rcases h with h | ⟨o, h⟩
    · exact .inl (.inl (e _ _ h))
    · exact .inl (.inr ⟨o, e _ _ h⟩)
  · exact .inr h
end L2
namespace L2
open PySem PySem.Spec PyProof.Rows
def MonoT (t : TT) : Prop := ∀ (σ : St) (H : Hp) (Q Q' : Bool → Hp → Prop), (∀ b H1, Q b H1 → Q' b H1) → t σ H Q → t σ H Q'
def MonoE (t : TE) : Prop := ∀ (σ : St) (H : Hp) (Q Q' : VK), (∀ b H1, Q b H1 → Q' b H1) → t σ H Q → t σ H Q'
def MonoA (t : TA) : Prop := ∀ (σ : St) (H : Hp) (Q Q' : List V → Hp → Prop), (∀ b H1, Q b H1 → Q' b H1) → t σ H Q → t σ H Q'
def MonoR (r : R2) : Prop := ∀ (x y : V) (H : Hp) (Q Q' : VK), (∀ b H1, Q b H1 → Q' b H1) → r x y H Q → r x y H Q'
def MonoC (r : List V → Hp → VK → Prop) : Prop := ∀ (xs : List V) (H : Hp) (Q Q' : VK), (∀ b H1, Q b H1 → Q' b H1) → r xs H Q → r xs H Q'
theorem mo_var {i : Nat} : MonoE (tVar i) := fun _ _ _ _ hq ⟨v, e, z⟩ => ⟨v, e, hq _ _ z⟩
theorem mo_c {v : V} : MonoE (tC v) := fun _ _ _ _ hq z => hq _ _ z
theorem mo_op {r : R2} {ta tb : TE} (hr : MonoR r) (ha : MonoE ta) (hb : MonoE tb) : MonoE (tOp r ta tb) := fun σ _ _ _ hq z => ha σ _ _ _ (fun _ _ z => hb σ _ _ _ (fun _ _ z => hr _ _ _ _ _ hq z) z) z
theorem mo_i0 {g : Int → Int → V} : MonoR (rI0 g) := fun _ _ _ _ _ hq ⟨i, j, e1, e2, z⟩ => ⟨i, j, e1, e2, hq _ _ z⟩
theorem mo_test {t : TE} (h : MonoE t) : MonoT (tTest t) := fun σ _ _ _ hq z => h σ _ _ _ (fun _ _ ⟨k, e, z⟩ => ⟨k, e, hq _ _ z⟩) z
theorem mo_and {t u : TT} (h : MonoT t) (h' : MonoT u) : MonoT (tAnd t u) := fun σ _ _ _ hq z => h σ _ _ _ (fun b _ z => by
  cases b with
  | true => exact h' σ _ _ _ hq z
  | false => exact hq _ _ z) z
theorem mo_nil : MonoA tNil := fun _ _ _ _ hq z => hq _ _ z
theorem mo_cons {te : TE} {ta : TA} (h : MonoE te) (h' : MonoA ta) : MonoA (tCons te ta) := fun σ _ _ _ hq z => h σ _ _ _ (fun _ _ z => h' σ _ _ _ (fun _ _ z => hq _ _ z) z) z
theorem mo_cb {r : List V → Hp → VK → Prop} {t : TA} (hr : MonoC r) (h : MonoA t) : MonoE (tCB r t) := fun σ _ _ _ hq z => h σ _ _ _ (fun _ _ z => hr _ _ _ _ hq z) z
theorem mo_len {K : PySem.W.Frag} : MonoC (fun xs H Q => ∃ p ys, xs = [.ref p] ∧ (SqL K H p ys ∨ SqT K H p ys) ∧ Q (.int ys.length) H) := fun _ _ _ _ hq ⟨p, ys, e, s, z⟩ => ⟨p, ys, e, s, hq _ _ z⟩
theorem cutV_ints (ns : List Int) (lo hi : Option Int) : cutV (ns.map V.int) lo hi = ((ns.drop (HT.sIx ns.length 0 lo)).take (HT.sIx ns.length ns.length hi - HT.sIx ns.length 0 lo)).map V.int := by
  unfold cutV
  rw [List.length_map, List.map_take, List.map_drop]
end L2
namespace L2
open PySem PySem.Spec PyProof.Rows
end L2

namespace L2
open PySem PySem.Spec PyProof.Rows
section
variable {X : Cx}
end
end L2
namespace L2
open PySem
theorem row_at {rows : List Int} {P : Int → Prop} (bd : ∀ x ∈ rows, P x) {k : Int} (k0 : 0 ≤ k) (k1 : k < rows.length) : ∃ v : Int, atI (rows.map V.int) k = some (.int v) ∧ P v := by
  have hk : k.toNat < rows.length := by omega
  refine ⟨rows[k.toNat], ?_, bd _ (List.getElem_mem hk)⟩
  have q : atI (rows.map V.int) ((k.toNat : Nat) : Int) = some (.int rows[k.toNat]) := atI_nat (by rw [List.getElem?_map, List.getElem?_eq_getElem hk] <;> rfl)
  rw [show ((k.toNat : Nat) : Int) = k from by omega] at q
  exact q
end L2
namespace L2
end L2

namespace L2
open PySem PySem.Spec PyProof.Rows
section
variable {X : Cx} {T : List Str} {caps : List (Str × Nat)} {scope : Scope} {elt target iter : Expr} {ifs : List Expr} {pos cpos : Pos} {wi : TI} {g : CC → TG} {tt : CC → TT} {te : CC → TE}
theorem comp_use (S : CompScope X caps scope) (hc : X.calm = true) (hi : PI X target iter wi) (hg : ∀ c, PG (cxComp X (T ++ caps.map (·.1)) scope c) target (g c)) (ht : ∀ c, PIfs (cxComp X (T ++ caps.map (·.1)) scope c) ifs (tt c)) (he : ∀ c, PE (cxComp X (T ++ caps.map (·.1)) scope c) elt (te c))
    {use : Option (Value → Sem Unit)} {Qv : Value → Shared → Prop} {pins : List (Addr × Obj)} {s : Shared} {σ : St} {H : Hp} {Q : VK} (I : Inv X pins σ H s) (h : tComp T.length caps wi g tt te σ H Q)
    (hfin : ∀ (D C : Addr) (s4 : Shared) (H3 : Hp), Inv X pins σ H3 s4 → Q (.ref D) H3 → ∀ m, s4.heap.Ns C m → H3 C = none → C ≠ X.env.locals → X.s₀.heap.objs.size ≤ C → (∀ x c, X.env.cells.lookup x = some c → c ≠ C) → (∀ p ∈ X.pn ++ pins, p.1 ≠ C) → compPost (model X.prog X.w) X.A X.xe use Qv (.ref D) C (.ok .next) s4)
    (hs : ∀ x, foldedSetIterable iter X.env x = pure x := by intro _; rfl) :
    wpAny (model X.prog X.w) X.A (comprehension (.ListComp elt [⟨target, iter, ifs, 0⟩] scope pos) scope X.env cpos (newList []) false (eval iter X.env) use) Qv X.xe s := by
  refine wpAny_comprehension_free (use := use) rfl hs (clos_eq S.cells) S.kind S.loc (thn (hi pins s σ H _ I h) fun v s1 h1 => thn h1 fun itv s2 h2 => ?_)
  obtain ⟨it, fp, tn, J, H2, e, I2, TT, st2, f2, q2⟩ := h2
  subst e
  refine wpAny_newObj_type (wpAny_newFunctionEnv S.nocell (by intro y hy; simp at hy) (fun h1 hn hsb => ?_) S.kind)
  dsimp only at hn hsb ⊢
  generalize hg2 : s2.heap.push { cls := .type "list", dict := none, data := .seq ([] : List Value).toArray } = G at hn hsb ⊢
  have hCv : G.objs.size = s2.heap.objs.size + 1 := by rw [← hg2, Heap.size_push]
  have hDC : G.objs.size ≠ s2.heap.objs.size := by rw [hCv]; exact Nat.succ_ne_self _
  have hCle : s2.heap.objs.size ≤ G.objs.size := by rw [hCv]; exact Nat.le_succ _
  have old : ∀ b o, s2.heap.get? b = some o → h1.get? b = some o := fun b o e => hsb.extBut b o (Nat.ne_of_lt (Nat.lt_of_lt_of_le (Heap.lt_size e) hCle)) (Heap.get?_push_of_some _ (hg2 ▸ Heap.get?_push_of_some _ e))
  have hacc : ∃ n, h1.get? s2.heap.objs.size = some { cls := .type "list", data := .seq ([] : List Value).toArray n } := ⟨_, hsb.extBut _ _ (Ne.symm hDC) (Heap.get?_push_of_some _ (hg2 ▸ Heap.get?_push_size _ rfl))⟩
  have hfp : ∀ b ∈ fp, b < s2.heap.objs.size := fun b hb => by
    obtain ⟨o, e, _⟩ := TT.obj _ _ st2 b hb
    exact Heap.lt_size e
  have cs := closL_sound (env := X.env) scope.names [] S.cells (fun _ _ z => by cases z)
  have I0 := comp_start (T := T) (tk := s2.toks + ([] : List (Str × Value)).length) S I2 f2 hfp (Nat.le_refl _) hCle hDC old hacc hn
  have st0 : tn 0 h1 := TT.keep _ _ _ st2 fun b _ o e => old b o e
  obtain ⟨W, ⟨m0, w0⟩, turn⟩ := q2 ⟨G.objs.size, s2, H2, fp⟩ s2.heap.objs.size (I2.hok.fresh (Nat.le_refl _))
  have fr0 : ∀ b ∈ fp, upd H2 s2.heap.objs.size (.lst []) b = none := fun b hb => by
    rw [upd_ne (Nat.ne_of_lt (hfp b hb))]
    exact (f2 b hb).1
  have stat : ∀ {H' : Hp}, (∀ b ∈ fp, H' b = none) → ∀ b ∈ fp, FpOk (cxComp X (T ++ caps.map (·.1)) scope ⟨G.objs.size, s2, H2, fp⟩) [] H' b := fun {H'} hn' b hb =>
    ⟨hn' b hb, Nat.ne_of_lt (Nat.lt_of_lt_of_le (hfp b hb) hCle), I0.ok.exfs b hb, .inl hb, fun x c e => (f2 b hb).2.2.2.2.1 x c (cs x c e), fun p hp => absurd (show p ∈ ([] : List (Addr × Obj)) from hp) (by simp)⟩
  have loop : codeAny (model X.prog X.w) X.A (.compLoop (.ListComp elt [⟨target, iter, ifs, 0⟩] scope pos) 0 (.ref it) (.ref s2.heap.objs.size) (compEnvC scope (closL X.env scope.names []) G.objs.size X.env))
      (compPost (model X.prog X.w) X.A X.xe use Qv (.ref s2.heap.objs.size) G.objs.size) { s2 with heap := h1, toks := s2.toks + ([] : List (Str × Value)).length } := by
    refine codeAny_loop rfl (fun n s' => ∃ i σ' ys H', Inv (cxComp X (T ++ caps.map (·.1)) scope ⟨G.objs.size, s2, H2, fp⟩) [] σ' H' s' ∧ tn i s'.heap ∧ (∀ b ∈ fp, H' b = none) ∧ W i n σ' ys H') (fun n s3 hI => ?_) m0 ⟨0, _, [], _, I0, st0, fr0, w0⟩
    obtain ⟨i, σ3, ys, H3, I3, st3, fr3, w3⟩ := hI
    show wpAny _ X.A ((compTurn (.ListComp elt [⟨target, iter, ifs, 0⟩] scope pos) 0 (.ref it) (.ref s2.heap.objs.size) (compEnvC scope (closL X.env scope.names []) G.objs.size X.env)).onRaise (fun x => do noteFrame x (compEnvC scope (closL X.env scope.names []) G.objs.size X.env); theTreesLotGoes x)) _ _ s3
    refine wpAny_noted ?_
    rw [compTurn_list]
    refine wpAny_bind (wpAny_standAt (wpAny_bind ?_))
    obtain ⟨hD3, turn3⟩ := turn i n σ3 ys H3 w3
    rcases turn3 with ⟨stop, qn⟩ | ⟨go, N, hN, step⟩
    · refine thnF (TT.done (cxComp X (T ++ caps.map (·.1)) scope ⟨G.objs.size, s2, H2, fp⟩) rfl rfl rfl hc i [] s3 σ3 H3 _ I3 (stat fr3) st3 stop) fun r s4 ⟨hr, I4⟩ => ?_
      subst hr
      refine wpAny_pure ?_
      obtain ⟨m4, hn4, _⟩ := I4.loc
      have J4 : Inv X pins σ H3 s4 := by
        refine I2.call' (s' := s4) (ch := fp) I4.os I4.base I4.hok I4.bare fun b hb => ?_
        obtain ⟨_, f1, _, f3, f4, f5⟩ := f2 b hb
        exact ⟨f3, f1, f4, f5⟩
      refine hfin _ G.objs.size s4 H3 J4 qn m4 hn4 I4.free (Nat.ne_of_gt (Nat.lt_of_lt_of_le I2.lt hCle)) (Nat.le_trans I2.sz hCle) (fun x c e z => ?_) (fun p hp z => ?_)
      · obtain ⟨v, qq⟩ := I2.cell x c e
        exact absurd (Nat.lt_of_lt_of_le qq.lt (by rw [z]; exact hCle)) (Nat.lt_irrefl _)
      · exact absurd (Nat.lt_of_lt_of_le (Heap.lt_size (I2.pin p hp).1) (by rw [z]; exact hCle)) (Nat.lt_irrefl _)
    · refine thnF (TT.item (cxComp X (T ++ caps.map (·.1)) scope ⟨G.objs.size, s2, H2, fp⟩) rfl rfl rfl hc i [] s3 σ3 H3 _ I3 (stat fr3) st3 go) fun r s4 ⟨u, hr, h4⟩ => ?_
      subst hr
      refine wpAny_bind (thnF h4 fun _ s5 ⟨x, H5, I5, r5, y5, st5, fr5⟩ => ?_)
      have I5' := I5.pinned (stat fr5) (TT.obj _ _ st5)
      refine wpAny_bind (thnF (hg _ _ s5 σ3 H5 x u _ I5' r5 (step x H5 y5)) fun _ s6 ⟨σ6, H6, I6, q6⟩ => ?_)
      have again : ∀ {s7 : Shared} {σ7 : St} {zs : List V} {H7 : Hp}, Inv (cxComp X (T ++ caps.map (·.1)) scope ⟨G.objs.size, s2, H2, fp⟩) ([] ++ pinsAt fp s5.heap) σ7 H7 s7 → N σ7 zs H7 →
          ∃ m, m < n ∧ ∃ i σ' ys H', Inv (cxComp X (T ++ caps.map (·.1)) scope ⟨G.objs.size, s2, H2, fp⟩) [] σ' H' s7 ∧ tn i s7.heap ∧ (∀ b ∈ fp, H' b = none) ∧ W i m σ' ys H' := fun {s7 σ7 zs H7} I7 n7 => by
        obtain ⟨m', hm, w7⟩ := hN σ7 zs H7 n7
        refine ⟨m', hm, i + 1, σ7, zs, H7, I7.unpinned, TT.keep _ _ _ st5 fun b hb o e => (I7.pin (b, o) (List.mem_append_right _ (List.mem_append_right _ (mem_pinsAt hb e)))).1, fun b hb => ?_, w7⟩
        obtain ⟨o, e, d⟩ := TT.obj _ _ st5 b hb
        exact (I7.pin (b, o) (List.mem_append_right _ (List.mem_append_right _ (mem_pinsAt hb e)))).2.1
      refine wpAny_bind (thnF (ht _ _ s6 σ6 H6 _ I6 q6) fun ok s7 ⟨H7, I7, q7⟩ => ?_)
      cases ok with
      | false => exact wpAny_pure ⟨rfl, again I7 q7⟩
      | true =>
        refine wpAny_bind (wpAny_bind (thnF (he _ _ s7 σ6 H7 _ I7 q7) fun y s8 ⟨yv, H8, I8, r8, hD8, hl8, q8⟩ => ?_))
        refine wpAny_bind (thnF (mt_append _ s8 σ6 H8 (.ref s2.heap.objs.size) [yv] (.ref s2.heap.objs.size) [y] (fun _ H9 => N σ6 (ys ++ [yv]) H9) I8 rfl (.cons r8 .nil) ⟨_, ys, yv, rfl, rfl, hD8, hl8, q8⟩) fun _ s9 ⟨_, H9, I9, _, q9⟩ => ?_)
        exact wpAny_pure (wpAny_pure ⟨rfl, again I9 q9⟩)
  exact codeAny_compStart_list loop (TT.self _ 0 _ _ _ st0 loop)
theorem ps_setComp {i : Nat} {y : Str} {py spos : Pos} (hN : X.N.Nodup) (hy : X.N[i]? = some y) (hloc : X.env.scope.names.lookup y = some .local) (S : CompScope X caps scope) (hc : X.calm = true) (hi : PI X target iter wi) (hg : ∀ c, PG (cxComp X (T ++ caps.map (·.1)) scope c) target (g c)) (ht : ∀ c, PIfs (cxComp X (T ++ caps.map (·.1)) scope c) ifs (tt c)) (he : ∀ c, PE (cxComp X (T ++ caps.map (·.1)) scope c) elt (te c))
    (hsw : swapsWith (.ListComp elt [⟨target, iter, ifs, 0⟩] scope pos) (some (.Name y py)) spos.line X.env = pure true := by rfl) (hs : ∀ x, foldedSetIterable iter X.env x = pure x := by intro _; rfl) :
    PS X (.Assign [.Name y py] (.ListComp elt [⟨target, iter, ifs, 0⟩] scope pos) spos) (tAsg (tComp T.length caps wi g tt te) (gName i)) := by
  intro pins s σ H D I h
  rw [exec_Assign_Name_used _ _ _ _ hsw]
  refine wpAny_bind (wpAny_standAt (wpAny_bind ?_))
  show wpAny _ X.A (do let _ ← comprehension (.ListComp elt [⟨target, iter, ifs, 0⟩] scope pos) scope X.env _ (newList []) false (eval iter X.env) (some (assign (.Name y py) X.env))) _ _ s
  refine wpAny_bind (wpAny_mono (comp_use (Qv := fun _ s' => SP X pins D .next s') S hc hi hg ht he I h (fun D' C s4 H3 J4 q4 m4 hn4 hC hL hS hcell hpin => ?_) hs) (fun _ s' hq => wpAny_pure (wpAny_pure hq)) fun _ _ e => e)
  show wpAny (model X.prog X.w) X.A (assign (.Name y py) X.env (.ref D')) (fun _ s'' => ∃ m, s''.heap.Ns C m ∧ ∀ h', Heap.SameBut C s''.heap h' → SP X pins D .next { s'' with heap := h' }) X.xe s4
  refine wpAny_assign_Name (store_ok2 J4 hN hy (.inl hloc) (v := .ref D') rfl (fun s5 J5 hb => ?_) (.inr hloc))
  obtain ⟨a, sb, ha⟩ := hb
  have hCa : C ≠ a := by
    rcases ha with z | z
    · rw [z]; exact hL
    · exact fun e => hcell y a z e.symm
  refine ⟨m4, hn4.sameBut sb hCa, fun h' sb' => ⟨_, H3, ?_, q4⟩⟩
  exact J5.turned (t' := s5.toks) (fun b o hb e => (sb'.2 b hb).trans e) hC hL (.inr hS) hcell hpin
end
end L2

namespace L2
open PySem PySem.Spec PyProof.Rows
theorem bt_enumerate : bootBuiltins "enumerate" = some (.type "enumerate") := by decide +kernel
def Ite (K : PySem.W.Frag) (l : Addr) : It :=
  ⟨fun k H => ∃ xs x, SqL K H l xs ∧ xs[k]? = some x,
   fun k H v H' => ∃ T x, v = .ref T ∧ H T = none ∧ H' = upd H T (.tup [.int k, x]) ∧ ∀ xs, SqL K H l xs → xs[k]? = some x,
   fun k H => ∃ xs, SqL K H l xs ∧ xs.length ≤ k⟩
theorem turn_enum {P : Program} {w : World} {K : PySem.W.Frag} {elts : List Expr} {kt : Nat} {pt : Pos} {e it l : Addr} (hne : e ≠ it) :
    Turn P w K (.Tuple elts kt pt) (Ite K l) [e, it] e (fun k h => (∃ old, IsEnum h e it k old) ∧ h.IsListIter it l k) where
  mem := by simp
  obj := fun k h st b hb => by
    obtain ⟨⟨old, he⟩, h1⟩ := st
    obtain ⟨o1, g1, _, d1⟩ := h1
    simp only [List.mem_cons, List.not_mem_nil, or_false] at hb
    rcases hb with rfl | rfl
    · exact ⟨_, he, fun v z => by cases z⟩
    · exact ⟨_, g1, fun v z => by rw [d1] at z; cases z⟩
  keep := fun k h h' st kp => by
    obtain ⟨⟨old, he⟩, h1⟩ := st
    exact ⟨⟨old, kp e (by simp) _ he⟩, h1.at fun o z => kp it (by simp) o z⟩
  item := by
    intro X hP hw hK hc k pins s σ H E I hf st hg
    subst hP hw hK
    obtain ⟨⟨old, he⟩, h1⟩ := st
    obtain ⟨xs, x, q1, hx⟩ := hg
    obtain ⟨its, r1, p1, _⟩ := I.list q1
    obtain ⟨u1, e1, v1⟩ := r1.get hx
    have fresh : H s.heap.objs.size = none := I.hok.fresh (Nat.le_refl _)
    refine wpAny_pyNext_enum_item he h1 p1.isList (by simpa using e1) hne fun h' z1 j1 t1 _ kp => ?_
    refine ⟨_, rfl, wpAny_letOwnedTupleGo_enum z1 fun h2' z2 sb => ?_⟩
    have kp2 : ∀ c o, c ∉ [e, it] → s.heap.get? c = some o → h2'.get? c = some o := fun c o hc q => by
      simp only [List.mem_cons, List.not_mem_nil, or_false, not_or] at hc
      exact sb.extBut c o hc.1 (kp c o hc.1 hc.2 q)
    have neT : ∀ b o, s.heap.get? b = some o → b ≠ s.heap.objs.size := fun b o q => Nat.ne_of_lt (Heap.lt_size q)
    have neH : ∀ b o, H b = some o → b ∉ [e, it] := fun b o q hb => by
      rw [(hf b hb).1] at q
      cases q
    have upn : ∀ b o, H b = some o → upd H s.heap.objs.size (.tup [.int k, x]) b = some o := fun b o q => by
      rw [upd_ne (ne_of_none q fresh)]
      exact q
    refine ⟨.ref s.heap.objs.size, upd H s.heap.objs.size (.tup [.int k, x]), ?_, rfl, ⟨_, x, rfl, fresh, rfl, fun zs hz' => by rw [I.list_inj hz' q1]; exact hx⟩, ?_, fun b hb => ?_⟩
    · refine Inv.step (s := s) (h' := h2') (g' := s.gens) (d' := s.drawn) (t' := s.toks + 1) (ch := [e, it]) I (fun b hb => ?_) (fun b o _ _ hc q _ => kp2 b o hc q) (fun b o _ _ hc q _ => ⟨o.slots, kp2 b o hc q⟩) (fun b o _ q n => ?_) (fun b o hc q => ⟨o, kp2 b o hc q⟩)
        (fun b zs q => upn b _ q) (fun b o zs q => upn b _ q) (fun b ps q => ⟨#[], by rw [upn b _ q]; simp⟩) (fun m hm => ?_) (fun b o q => ?_) I.bare
      · obtain ⟨_, f1, _, f3, f4, f5⟩ := hf b hb
        exact ⟨f3, f1, f4, f5⟩
      · rw [upd_ne (neT b o q)]
        exact n
      · obtain ⟨o, es, ep, ho, r⟩ := hm
        refine ⟨o, es, ep, kp2 _ o (fun hb => ?_) ho, r⟩
        exact (hf _ hb).2.1 rfl
      · by_cases hb : b = s.heap.objs.size
        · subst hb
          rw [upd_same] at q
          cases q
          exact ⟨by show 2 ≤ sizeLine; decide, [_, u1], .cons ⟨_, rfl⟩ (.cons v1 .nil), _, sb.extBut _ _ (Nat.ne_of_gt (Heap.lt_size he)) t1, rfl, _, rfl⟩
        · rw [upd_ne hb] at q
          refine (I.hok b o q).stay (fun c u hc z => kp2 c u ?_ z) (fun c z => upn c _ z) fun c zs z => upn c _ z
          rcases hc with hc | hc
          · rw [hc]; exact neH b o q
          · exact neH c _ hc
    · exact ⟨⟨_, z2⟩, j1.at fun o z => sb.extBut _ o (Ne.symm hne) z⟩
    · obtain ⟨o, q, _⟩ : ∃ o, s.heap.get? b = some o ∧ True := by
        obtain ⟨o1, g1, _⟩ := h1
        simp only [List.mem_cons, List.not_mem_nil, or_false] at hb
        rcases hb with rfl | rfl
        · exact ⟨_, he, trivial⟩
        · exact ⟨_, g1, trivial⟩
      rw [upd_ne (neT b o q)]
      exact (hf b hb).1
  done := by
    intro X hP hw hK hc k pins s σ H E I hf st hg
    subst hP hw hK
    obtain ⟨⟨old, he⟩, h1⟩ := st
    obtain ⟨xs, q1, hend⟩ := hg
    obtain ⟨its, r1, p1, _⟩ := I.list q1
    have l1' := r1.length
    refine wpAny_pyNext_enum_end (I.ok.hd hc) he h1 p1.isList (Array.getElem?_eq_none (by rw [List.size_toArray]; omega)) fun h' eb => ⟨rfl, ?_⟩
    obtain ⟨f0, f1, f2, f3, f4, f5⟩ := hf it (by simp)
    exact I.turned (t' := s.toks) (fun b o hb q => eb b o hb q) f0 f1 f3 f4 f5
  self := fun _ _ _ _ _ st h => by
    obtain ⟨⟨old, he⟩, _⟩ := st
    exact wpAny_pyIter_enum he h
section
variable {X : Cx}
def iEnum (K : PySem.W.Frag) (ta : TA) : TI := fun σ H R => ta σ H fun vs H1 => ∃ (l : Addr) (xs : List V), vs = [.ref l] ∧ H1 l = some (.lst xs) ∧ R (Ite K l) H1
theorem pi_enum {elts : List Expr} {kt : Nat} {pt : Pos} {a : Expr} {ta : TA} {p pos : Pos} (hg : Gl X "enumerate") (hm : X.mg "enumerate" = none) (ha : PA X [a] ta) (hs : starEach [a] X.env = [(false, eval a X.env)] := by rfl) :
    PI X (.Tuple elts kt pt) (.Call (.Name "enumerate" p) [a] [] pos) (iEnum X.K ta) := by
  intro pins s σ H R I h
  refine Call_ (ld_blt I hg hm bt_enumerate (PyProof.Rows.callWith_type1 (thn (ha pos pins s σ H _ I h) fun us s1 ⟨vs, H1, I1, r1, q1⟩ => ?_) hs rfl))
  obtain ⟨l, xs, e, hl, q⟩ := q1
  subst e
  obtain ⟨u1, rfl, v1⟩ := Vals.one r1
  cases v1
  obtain ⟨_, its, n, _, _, eo⟩ := I1.lstM hl
  refine call_enumerate_1 eo fun h' he hi _ kp => ?_
  refine wpAny_pyIter_enum he ?_
  refine ⟨_, _, _, _, H1, rfl, I1.kept (t' := s1.toks) kp, turn_enum (Nat.succ_ne_self _), ⟨⟨_, he⟩, hi⟩, fun b hb => ?_, q⟩
  have hge : s1.heap.objs.size ≤ b := by
    simp only [List.mem_cons, List.not_mem_nil, or_false] at hb
    rcases hb with rfl | rfl <;> omega
  exact I1.fpOk hge (I1.hok.fresh hge)
end
section
variable {K : PySem.W.Frag} {l D : Addr} {xs : List V} {g : TG} {tt : TT} {te : TE} {σ0 : St} {H1 : Hp} {Q : VK}
theorem comp_enum (Pv : Nat → St → List V → Hp → Prop) (h0 : Pv 0 σ0 [] (upd H1 D (.lst []))) (hl : ∀ i σ zs H, Pv i σ zs H → SqL K H l xs ∧ H D = some (.lst zs))
    (hs : ∀ i x T σ zs H, xs[i]? = some x → H T = none → Pv i σ zs H → g (.ref T) σ (upd H T (.tup [.int i, x])) fun σ2 H2 => tt σ2 H2 fun b H3 =>
      if b = true then te σ2 H3 fun z H4 => H4 D = some (.lst zs) ∧ zs.length < sizeLine ∧ Pv (i + 1) σ2 (zs ++ [z]) (upd H4 D (.lst (zs ++ [z]))) else Pv (i + 1) σ2 zs H3)
    (hd : ∀ σ zs H, Pv xs.length σ zs H → Q (.ref D) H) : CompW (Ite K l) D g tt te σ0 H1 Q := by
  refine ⟨fun i m σ zs H => m = xs.length - i ∧ i ≤ xs.length ∧ Pv i σ zs H, ⟨_, rfl, Nat.zero_le _, h0⟩, ?_⟩
  rintro i m σ zs H ⟨rfl, hi, p⟩
  obtain ⟨q1, qd⟩ := hl i σ zs H p
  refine ⟨qd, ?_⟩
  by_cases hlt : i < xs.length
  · refine .inr ⟨⟨xs, xs[i], q1, by simp [hlt]⟩, Pv (i + 1), fun σ' zs' H' z => ⟨xs.length - (i + 1), by omega, rfl, hlt, z⟩, fun v H' y => ?_⟩
    obtain ⟨T, x, rfl, hT, rfl, y1⟩ := y
    exact hs i x T σ zs H (y1 xs q1) hT p
  · have e : i = xs.length := by omega
    subst e
    exact .inl ⟨⟨xs, q1, Nat.le_refl _⟩, hd σ zs H p⟩
theorem for_enum {tb : TS} {E : Ends} {σ : St} {H : Hp} (Pv : Nat → St → Hp → Prop) (h0 : Pv 0 σ H) (hl : ∀ i σ H, Pv i σ H → SqL K H l xs)
    (hs : ∀ i x T σ H, xs[i]? = some x → H T = none → Pv i σ H → g (.ref T) σ (upd H T (.tup [.int i, x])) fun σ2 H2 => tb { E with nx := Pv (i + 1), ct := Pv (i + 1), bk := E.nx } σ2 H2) (hd : ∀ σ H, Pv xs.length σ H → E.nx σ H) :
    ∃ W : Nat → Nat → St → Hp → Prop, (∃ m, W 0 m σ H) ∧ ∀ i m σ H, W i m σ H →
      ((Ite K l).stop i H ∧ E.nx σ H) ∨ ((Ite K l).go i H ∧ ∃ N : St → Hp → Prop, (∀ σ' H', N σ' H' → ∃ m', m' < m ∧ W (i + 1) m' σ' H') ∧ ∀ x H', (Ite K l).yld i H x H' → g x σ H' fun σ2 H2 => tb { E with nx := N, ct := N, bk := E.nx } σ2 H2) := by
  refine ⟨fun i m σ H => m = xs.length - i ∧ i ≤ xs.length ∧ Pv i σ H, ⟨_, rfl, Nat.zero_le _, h0⟩, ?_⟩
  rintro i m σ H ⟨rfl, hi, p⟩
  have q1 := hl i σ H p
  by_cases hlt : i < xs.length
  · refine .inr ⟨⟨xs, xs[i], q1, by simp [hlt]⟩, Pv (i + 1), fun σ' H' z => ⟨xs.length - (i + 1), by omega, rfl, hlt, z⟩, fun v H' y => ?_⟩
    obtain ⟨T, x, rfl, hT, rfl, y1⟩ := y
    exact hs i x T σ H (y1 xs q1) hT p
  · have e : i = xs.length := by omega
    subst e
    exact .inl ⟨⟨xs, q1, Nat.le_refl _⟩, hd σ H p⟩
end
end L2

namespace L2
open PySem PySem.Spec PyProof.Rows
section
variable {X : Cx} {e : Expr} {te : TE} {lo hi : Option Expr} {st : Expr} {tl th ts : TO} {pos p2 : Pos}
end
theorem refs_of : ∀ {rs : List Addr} {us : List Value}, Vals (rs.map V.ref) us → us = rs.map Value.ref
  | [], _, r => by cases r; rfl
  | a :: rs, _, r => by
    cases r with
    | cons r1 r2 =>
      cases r1
      rw [refs_of r2]
      rfl
section
variable {X : Cx}
end
theorem Same.putNew {H H4 : Hp} {D : Addr} {o : HO} (s : Same H H4) (h : H D = none) : Same H (upd H4 D o) := fun b u q => by
  rw [upd_ne (ne_of_none q h)]
  exact s _ _ q
abbrev Pr := Addr × Int × Int
abbrev refsOf (ps : List Pr) : List V := (ps.map (·.1)).map V.ref
def PrOk (H : Hp) (M : Nat) (ps : List Pr) : Prop := ∀ t ∈ ps, H t.1 = some (.tup [.int t.2.1, .int t.2.2]) ∧ t.2.1.natAbs ≤ M ∧ t.2.2.natAbs ≤ M
theorem PrOk.same {H H' : Hp} {M : Nat} {ps : List Pr} (h : PrOk H M ps) (s : Same H H') : PrOk H' M ps := fun t ht => ⟨s _ _ (h t ht).1, (h t ht).2⟩
theorem PrOk.app {H : Hp} {M : Nat} {ps qs : List Pr} (h : PrOk H M ps) (g : PrOk H M qs) : PrOk H M (ps ++ qs) := fun t ht => (List.mem_append.mp ht).elim (h t) (g t)
theorem PrOk.sub {H : Hp} {M : Nat} {ps qs : List Pr} (h : PrOk H M ps) (g : ∀ t ∈ qs, t ∈ ps) : PrOk H M qs := fun t ht => h t (g t ht)
theorem refsOf_length (ps : List Pr) : (refsOf ps).length = ps.length := by simp [refsOf]
theorem refsOf_app (ps qs : List Pr) : refsOf (ps ++ qs) = refsOf ps ++ refsOf qs := by simp [refsOf]
theorem refsOf_at {ps : List Pr} {i : Nat} {k : Int} (e : k = i) (h : i < ps.length) : ∃ t, t ∈ ps ∧ ps[i]? = some t ∧ atI (refsOf ps) k = some (.ref t.1) := by
  refine ⟨ps[i], List.getElem_mem h, List.getElem?_eq_getElem h, ?_⟩
  rw [e]
  exact atI_nat (by rw [List.getElem?_map, List.getElem?_map, List.getElem?_eq_getElem h] <;> rfl)
theorem refsOf_back {ps : List Pr} {i : Nat} {k : Int} (e : k = (i : Int) - ps.length) (h : i < ps.length) : ∃ t, t ∈ ps ∧ ps[i]? = some t ∧ atI (refsOf ps) k = some (.ref t.1) := by
  refine ⟨ps[i], List.getElem_mem h, List.getElem?_eq_getElem h, ?_⟩
  unfold atI ixN
  rw [refsOf_length, if_neg (by omega), if_pos (by omega), show (k + (ps.length : Int)).toNat = i by omega]
  show (refsOf ps)[i]? = _
  rw [List.getElem?_map, List.getElem?_map, List.getElem?_eq_getElem h]
  rfl
theorem cut_refs_upto (ps : List Pr) (n : Nat) : cutV (refsOf ps) none (some (n : Int)) = refsOf (ps.take n) := by
  unfold cutV
  rw [show HT.sIx (refsOf ps).length 0 none = 0 from rfl, HT.sIx_nat (refsOf ps).length (refsOf ps).length n, List.drop_zero, Nat.sub_zero]
  rw [refsOf_length]
  simp only [refsOf, ← List.map_take]
  congr 2
  rw [List.take_eq_take_iff]
  omega
end L2
namespace L2
open PySem PySem.Spec PyProof.Rows
theorem mapInt_inj : ∀ {xs ys : List Int}, xs.map V.int = ys.map V.int → xs = ys
  | [], [], _ => rfl
  | [], _ :: _, h => nomatch h
  | _ :: _, [], h => nomatch h
  | x :: xs, y :: ys, h => by
    rw [List.map_cons, List.map_cons] at h
    injection h with h1 h2
    rw [V.int.inj h1, mapInt_inj h2]
section
variable {X : Cx}
end
end L2

namespace L2
open PySem
def crs (p q r : Int × Int) : Int := (q.1 - p.1) * (r.2 - p.2) - (q.2 - p.2) * (r.1 - p.1)
theorem wrap {a n : Nat} (h : a < 2 * n) : a % n = if a < n then a else a - n := by
  by_cases h' : a < n
  · rw [if_pos h', Nat.mod_eq_of_lt h']
  · rw [if_neg h', Nat.mod_eq_sub_mod (by omega), Nat.mod_eq_of_lt (by omega)]
end L2
namespace L2
open PySem
def walkP : Int × Int → List (Int × Int) → List (Int × Int)
  | _, [] => []
  | h, d :: ds => h :: walkP (h.1 + d.1, h.2 + d.2) ds
def endP : Int × Int → List (Int × Int) → Int × Int
  | h, [] => h
  | h, d :: ds => endP (h.1 + d.1, h.2 + d.2) ds
theorem walkP_snoc : ∀ (ds : List (Int × Int)) (h d : Int × Int), walkP h (ds ++ [d]) = walkP h ds ++ [endP h ds]
  | [], _, _ => rfl
  | e :: ds, h, d => by
    show h :: walkP _ (ds ++ [d]) = h :: (walkP _ ds ++ [endP _ ds])
    rw [walkP_snoc ds]
theorem endP_snoc : ∀ (ds : List (Int × Int)) (h d : Int × Int), endP h (ds ++ [d]) = ((endP h ds).1 + d.1, (endP h ds).2 + d.2)
  | [], _, _ => rfl
  | e :: ds, h, d => by
    show endP _ (ds ++ [d]) = _
    rw [endP_snoc ds]
    rfl
theorem walkP_length : ∀ (ds : List (Int × Int)) (h : Int × Int), (walkP h ds).length = ds.length
  | [], _ => rfl
  | e :: ds, h => by
    show (walkP _ ds).length + 1 = ds.length + 1
    rw [walkP_length ds]
def leadsOf (x y p q : Int) : Nat → List (Int × Int)
  | 0 => [(x, y), (p - x, q - y), (-p, -q)]
  | 1 => [(x, y), (p, q), (-x, -y), (-p, -q)]
  | 2 => [(2 * x, 2 * y), (p, q), (p - x, q - y), (-x, -y), (-2 * p, -2 * q)]
  | 3 => [(x, y), (x + p, y + q), (p, q), (-x, -y), (-x - p, -y - q), (-p, -q)]
  | 4 => [(x, y), (2 * x + p, 2 * y + q), (x + 2 * p, y + 2 * q), (p, q), (-x, -y), (-2 * x - p, -2 * y - q), (-x - 3 * p, -y - 3 * q)]
  | _ => [(x, y), (2 * x + p, 2 * y + q), (x + 2 * p, y + 2 * q), (p, q), (-x, -y), (-2 * x - p, -2 * y - q), (-x - 2 * p, -y - 2 * q), (-p, -q)]
def tabB : Nat → List (Int × Int)
  | 0 => [(0, 0), (1, 0), (0, 1)]
  | 1 => [(0, 0), (1, 0), (1, 1), (0, 1)]
  | 2 => [(0, 0), (2, 0), (2, 1), (1, 2), (0, 2)]
  | 3 => [(0, 0), (1, 0), (2, 1), (2, 2), (1, 2), (0, 1)]
  | 4 => [(0, 0), (1, 0), (3, 1), (4, 3), (4, 4), (3, 4), (1, 3)]
  | _ => [(0, 0), (1, 0), (3, 1), (4, 3), (4, 4), (3, 4), (1, 3), (0, 1)]
def ptsB (c : Nat) (hx hy x y p q : Int) : List (Int × Int) := (tabB c).map fun ab => (hx + ab.1 * x + ab.2 * p, hy + ab.1 * y + ab.2 * q)
theorem six {c : Nat} (h : c < 6) : c = 0 ∨ c = 1 ∨ c = 2 ∨ c = 3 ∨ c = 4 ∨ c = 5 := by omega
theorem walk_pts {c : Nat} (hc : c < 6) (hx hy x y p q : Int) : walkP (hx, hy) (leadsOf x y p q c) = ptsB c hx hy x y p q := by
  rcases six hc with rfl | rfl | rfl | rfl | rfl | rfl <;>
    simp only [leadsOf, ptsB, tabB, walkP, List.map_cons, List.map_nil, List.cons.injEq, Prod.mk.injEq, and_true, true_and] <;> omega
theorem tabB_length {c : Nat} (hc : c < 6) : 3 ≤ (tabB c).length ∧ (tabB c).length ≤ 8 := by
  rcases six hc with rfl | rfl | rfl | rfl | rfl | rfl <;> exact ⟨by decide, by decide⟩
def BankS (vs : List (Int × Int)) : Prop := ∃ (c k : Nat) (hx hy x y p q : Int), c < 6 ∧ k < (tabB c).length ∧ 0 < x * q - y * p ∧ vs = (ptsB c hx hy x y p q).drop k ++ (ptsB c hx hy x y p q).take k
theorem BankS.len {vs : List (Int × Int)} (h : BankS vs) : 3 ≤ vs.length ∧ vs.length ≤ 8 := by
  obtain ⟨c, k, hx, hy, x, y, p, q, hc, hk, _, rfl⟩ := h
  have := tabB_length hc
  rw [List.length_append, List.length_drop, List.length_take]
  unfold ptsB
  rw [List.length_map]
  omega
end L2

namespace Sea
open PySem L2
theorem crs_lin (a b c d x y p q : Int) : (a * x + b * p) * (c * y + d * q) - (a * y + b * q) * (c * x + d * p) = (a * d - b * c) * (x * q - y * p) := by
  simp only [Int.mul_sub, Int.sub_mul, Int.mul_add, Int.add_mul, Int.mul_comm, Int.mul_left_comm]
  omega
theorem lin_sub (hx a b a' b' x p : Int) : (hx + a * x + b * p) - (hx + a' * x + b' * p) = (a - a') * x + (b - b') * p := by
  rw [Int.sub_mul, Int.sub_mul]
  omega
def detB (u v w : Int × Int) : Int := (v.1 - u.1) * (w.2 - u.2) - (v.2 - u.2) * (w.1 - u.1)
theorem crs_coef (hx hy x y p q : Int) (u v w : Int × Int) : crs (hx + u.1 * x + u.2 * p, hy + u.1 * y + u.2 * q) (hx + v.1 * x + v.2 * p, hy + v.1 * y + v.2 * q) (hx + w.1 * x + w.2 * p, hy + w.1 * y + w.2 * q) = detB u v w * (x * q - y * p) := by
  unfold crs detB
  simp only [lin_sub]
  exact crs_lin _ _ _ _ _ _ _ _
def atP (vs : List (Int × Int)) (i : Nat) : Int × Int := (vs[i]?).getD (0, 0)
theorem tab_left : ∀ c < 6, ∀ i < (tabB c).length, ∀ k < (tabB c).length, k ≠ i → k ≠ (i + 1) % (tabB c).length → 0 < detB (atP (tabB c) i) (atP (tabB c) ((i + 1) % (tabB c).length)) (atP (tabB c) k) := by decide +kernel
theorem atP_pts {c : Nat} {hx hy x y p q : Int} {i : Nat} (h : i < (tabB c).length) : atP (ptsB c hx hy x y p q) i = (hx + (atP (tabB c) i).1 * x + (atP (tabB c) i).2 * p, hy + (atP (tabB c) i).1 * y + (atP (tabB c) i).2 * q) := by
  unfold atP ptsB
  rw [List.getElem?_map, List.getElem?_eq_getElem h]
  rfl
theorem rot_at {vs : List (Int × Int)} {k j : Nat} (hk : k < vs.length) (hj : j < vs.length) : atP (vs.drop k ++ vs.take k) j = atP vs ((j + k) % vs.length) := by
  unfold atP
  congr 1
  rw [wrap (by omega)]
  by_cases h : j < vs.length - k
  · rw [List.getElem?_append_left (by rw [List.length_drop]; exact h), List.getElem?_drop, if_pos (by omega), Nat.add_comm]
  · rw [List.getElem?_append_right (by rw [List.length_drop]; omega), List.length_drop, List.getElem?_take, if_pos (by omega), if_neg (by omega)]
    congr 1
    omega
theorem bank_left {vs : List (Int × Int)} (h : BankS vs) {i k : Nat} (hi : i < vs.length) (hk : k < vs.length) (h1 : k ≠ i) (h2 : k ≠ (i + 1) % vs.length) : 0 < crs (atP vs i) (atP vs ((i + 1) % vs.length)) (atP vs k) := by
  obtain ⟨c, r, hx, hy, x, y, p, q, hc, hr, tp, rfl⟩ := h
  have hn : (ptsB c hx hy x y p q).length = (tabB c).length := List.length_map _
  have e : ((ptsB c hx hy x y p q).drop r ++ (ptsB c hx hy x y p q).take r).length = (tabB c).length := by
    rw [List.length_append, List.length_drop, List.length_take, hn]
    omega
  have n3 := tabB_length hc
  rw [e] at hi hk h2 ⊢
  have hm : (i + 1) % (tabB c).length < (tabB c).length := Nat.mod_lt _ (by omega)
  rw [rot_at (by omega) (by omega), rot_at (by omega) (by omega), rot_at (by omega) (by omega), hn]
  have hi' : (i + r) % (tabB c).length < (tabB c).length := Nat.mod_lt _ (by omega)
  have hk' : (k + r) % (tabB c).length < (tabB c).length := Nat.mod_lt _ (by omega)
  have hm' : ((i + 1) % (tabB c).length + r) % (tabB c).length < (tabB c).length := Nat.mod_lt _ (by omega)
  rw [atP_pts hi', atP_pts hm', atP_pts hk', crs_coef]
  have em : ((i + 1) % (tabB c).length + r) % (tabB c).length = ((i + r) % (tabB c).length + 1) % (tabB c).length := by
    rw [Nat.mod_add_mod, Nat.mod_add_mod]
    congr 1
    omega
  have inj : ∀ a b : Nat, a < (tabB c).length → b < (tabB c).length → (a + r) % (tabB c).length = (b + r) % (tabB c).length → a = b := fun a b ha hb z => by
    rw [wrap (by omega), wrap (by omega)] at z
    split at z <;> split at z <;> omega
  refine Int.mul_pos ?_ tp
  rw [em]
  refine tab_left c hc _ hi' _ hk' (fun z => h1 (inj _ _ hk hi z)) fun z => h2 (inj _ _ hk hm ?_)
  rw [z, em]
def sideOf (u v : Int × Int) : List Int := [v.2 - u.2, -(v.1 - u.1), u.1 * (v.2 - u.2) - u.2 * (v.1 - u.1)]
end Sea

namespace PySem.W
open PySem PySem.Calls PyProof.Rows
def AskOk {α : Type} (n : Nat) (lt : Nat → Nat → Bool) : KasT α → (α → Prop) → Prop
  | .ret a, Q => Q a
  | .ask i j k, Q => i < n ∧ j < n ∧ AskOk n lt (k (lt i j)) Q
theorem AskOk.bind {α β : Type} {n : Nat} {lt : Nat → Nat → Bool} {f : α → KasT β} {Q : β → Prop} : ∀ {t : KasT α}, AskOk n lt t (fun a => AskOk n lt (f a) Q) → AskOk n lt (t.bind f) Q
  | .ret _, h => h
  | .ask _ _ _, h => ⟨h.1, h.2.1, AskOk.bind h.2.2⟩
theorem AskOk.wp {α : Type} {n : Nat} {lt : Nat → Nat → Bool} {cmp : Nat → Nat → (Bool → Shared → Prop) → Shared → Prop} {P : α → Prop} {Q : α → Shared → Prop} {s : Shared}
    (hc : ∀ i j (C : Bool → Shared → Prop), i < n → j < n → C (lt i j) s → cmp i j C s) (hq : ∀ a, P a → Q a s) : ∀ {t : KasT α}, AskOk n lt t P → t.kasWp cmp Q s
  | .ret a, h => hq a h
  | .ask i j _, h => hc i j _ h.1 h.2.1 (AskOk.wp hc hq h.2.2)
section
variable {O : KeyOrd} (key : Nat → O.α)
def KP (p : Array Nat) (i : Nat) : O.α := key (p.getD i 0)
def SoT (p : Array Nat) (k : Nat) : Prop := ∀ i j, i ≤ j → j < k → O.kle (KP key p i) (KP key p j)
def NiT (p : Array Nat) (k : Nat) : Prop := ∀ i j, i ≤ j → j < k → O.kle (KP key p j) (KP key p i)
structure PIn (n : Nat) (p : Array Nat) : Prop where
  perm : p.Perm (List.toArray (List.range n))
variable {key} {n : Nat}
theorem PIn.size {p : Array Nat} (h : PIn n p) : p.size = n := by rw [h.perm.size_eq]; simp
theorem PIn.lt {p : Array Nat} (h : PIn n p) {i : Nat} (hi : i < n) : p.getD i 0 < n := by
  have hs := h.size
  have e : p.getD i 0 = p[i]'(by omega) := by simp [Array.getD, show i < p.size by omega]
  rw [e]
  have hm : p[i]'(by omega) ∈ p.toList := by simp
  have := (Array.perm_iff_toList_perm.mp h.perm).mem_iff.mp hm
  simpa using this
theorem PIn.rev {p : Array Nat} (h : PIn n p) (i j : Nat) : PIn n (kas_rev p i j) := ⟨(mirror_perm _ _ _ _).trans h.perm⟩
theorem PIn.bub {p : Array Nat} (h : PIn n p) (i j : Nat) : PIn n (bubble p i j) := ⟨(bubble_perm _ _ _).trans h.perm⟩
theorem KP_congr {p q : Array Nat} {i j : Nat} (h : p[i]? = q[j]?) : KP key p i = KP key q j := by
  unfold KP; rw [Array.getD_eq_getD_getElem?, Array.getD_eq_getD_getElem?, h]
theorem KP_bub {p : Array Nat} {src d : Nat} (hs : src < p.size) (hd : d ≤ src) (k : Nat) :
    KP key (bubble p src d) k = if k = src - d then KP key p src else if src - d < k ∧ k ≤ src then KP key p (k - 1) else KP key p k := by
  have e := getElem?_bubble hs d hd k
  split
  · rename_i h; rw [if_pos h] at e; exact KP_congr e
  · rename_i h
    rw [if_neg h] at e
    split
    · rename_i h2; rw [if_pos h2] at e; exact KP_congr e
    · rename_i h2; rw [if_neg h2] at e; exact KP_congr e
theorem KP_rev {p : Array Nat} {i j : Nat} (hj : j ≤ p.size) (k : Nat) : KP key (kas_rev p i j) k = if i ≤ k ∧ k < j then KP key p (i + j - 1 - k) else KP key p k := by
  have e := getElem?_mirror_all (i := i) hj k
  split
  · rename_i h; rw [if_pos h] at e; exact KP_congr e
  · rename_i h; rw [if_neg h] at e; exact KP_congr e
theorem KP_rev_eq {p : Array Nat} {i j : Nat} (hj : j ≤ p.size) (he : ∀ k, i ≤ k → k < j → KP key p k = KP key p (j - 1)) (k : Nat) : KP key (kas_rev p i j) k = KP key p k := by
  rw [KP_rev hj]
  split
  · rw [he _ (by omega) (by omega), he k (by omega) (by omega)]
  · rfl
abbrev ltK (key : Nat → O.α) (i j : Nat) : Bool := O.blt (key i) (key j)

theorem SoT_one {p : Array Nat} : SoT key p 1 := by
  intro i j hij hj
  have e : i = j := by omega
  subst e
  exact KeyOrd.kle_refl _
theorem ask_asc {p : Array Nat} (hp : PIn n p) {Q : Nat → Prop} : ∀ (f a : Nat), 1 ≤ a → a + f ≤ n → SoT key p a →
    (∀ m, a ≤ m → m ≤ a + f → SoT key p m → (m = a + f ∨ O.klt (KP key p m) (KP key p (m - 1))) → Q m) → AskOk n (ltK key) (kas_asc p f a) Q
  | 0, a, _, _, hs, q => q a (Nat.le_refl _) (by omega) hs (.inl rfl)
  | f + 1, a, h1, hn, hs, q => by
    refine ⟨hp.lt (by omega), hp.lt (by omega), ?_⟩
    dsimp only
    by_cases hl : ltK key (p.getD a 0) (p.getD (a - 1) 0) = true
    · rw [if_pos hl]
      exact q a (Nat.le_refl _) (by omega) hs (.inr hl)
    · rw [if_neg hl]
      refine ask_asc hp f (a + 1) (by omega) (by omega) (fun i j hij hj => ?_) fun m m1 m2 hm ho => q m (by omega) (by omega) hm (ho.imp (by omega) id)
      by_cases hja : j < a
      · exact hs i j hij hja
      · have hj' : j = a := by omega
        subst hj'
        by_cases hi : i = j
        · subst hi; exact KeyOrd.kle_refl _
        · exact KeyOrd.kle_trans (hs i (j - 1) (by omega) (by omega)) (KeyOrd.kle_of_not_klt hl)

theorem ask_tail3 {p : Array Nat} (hp : PIn n p) {m : Nat} {Q : Nat × Array Nat → Prop} (h1 : 1 ≤ m) (hm : m ≤ n) (hs : NiT key p m)
    (q : ∀ k p', PIn n p' → 1 ≤ k → k ≤ n → SoT key p' k → Q (k, p')) : AskOk n (ltK key) (kas_tail3 m n p) Q := by
  have hz : m ≤ p.size := by rw [hp.size]; exact hm
  refine AskOk.bind (ask_asc (hp.rev 0 m) (n - m) m h1 (by omega) (fun i j hij hj => ?_) fun k k1 k2 hk _ => q k _ (hp.rev 0 m) (by omega) (by omega) hk)
  rw [KP_rev hz, KP_rev hz, if_pos (by omega), if_pos (by omega)]
  exact hs _ _ (by omega) (by omega)

theorem ask_desc {Q : Array Nat × Nat × Nat → Prop} : ∀ (f : Nat) (p : Array Nat) (a e : Nat), PIn n p → 1 ≤ a → a + f = n → NiT key p a → e + 1 ≤ a → (∀ i, a - (e + 1) ≤ i → i < a → KP key p i = KP key p (a - 1)) →
    (∀ p' m e', PIn n p' → 1 ≤ m → m ≤ n → NiT key p' m → e' + 1 ≤ m → (∀ i, m - (e' + 1) ≤ i → i < m → KP key p' i = KP key p' (m - 1)) → Q (p', m, e')) → AskOk n (ltK key) (kas_desc f p a e) Q
  | 0, p, a, e, hp, h1, hf, hs, he, heq, q => q p a e hp h1 (by omega) hs he heq
  | f + 1, p, a, e, hp, h1, hf, hs, he, heq, q => by
    have hz : a ≤ p.size := by rw [hp.size]; omega
    refine ⟨hp.lt (by omega), hp.lt (by omega), ?_⟩
    dsimp only
    by_cases hl : ltK key (p.getD a 0) (p.getD (a - 1) 0) = true
    · rw [if_pos hl]
      have step : ∀ p', (∀ k, KP key p' k = KP key p k) → NiT key p' (a + 1) := by
        intro p' hk i j hij hj
        rw [hk, hk]
        by_cases hja : j < a
        · exact hs i j hij hja
        · have hj' : j = a := by omega
          subst hj'
          by_cases hi : i = j
          · subst hi; exact KeyOrd.kle_refl _
          · exact KeyOrd.kle_trans (KeyOrd.kle_of_klt hl) (hs i (j - 1) (by omega) (by omega))
      split
      · exact ask_desc f _ (a + 1) 0 (hp.rev _ _) (by omega) (by omega) (step _ (KP_rev_eq hz heq)) (by omega) (fun i i1 i2 => by congr 1; omega) q
      · exact ask_desc f p (a + 1) 0 hp (by omega) (by omega) (step _ fun _ => rfl) (by omega) (fun i i1 i2 => by congr 1; omega) q
    · rw [if_neg hl]
      refine ⟨hp.lt (by omega), hp.lt (by omega), ?_⟩
      dsimp only
      by_cases hg : ltK key (p.getD (a - 1) 0) (p.getD a 0) = true
      · rw [if_pos hg]
        exact q p a e hp h1 (by omega) hs he heq
      · rw [if_neg hg]
        have ee : KP key p a = KP key p (a - 1) := KeyOrd.kle_antisymm (KeyOrd.kle_of_not_klt hg) (KeyOrd.kle_of_not_klt hl)
        refine ask_desc f p (a + 1) (e + 1) hp (by omega) (by omega) (fun i j hij hj => ?_) (by omega) (fun i i1 i2 => ?_) q
        · by_cases hja : j < a
          · exact hs i j hij hja
          · have hj' : j = a := by omega
            subst hj'
            by_cases hi : i = j
            · subst hi; exact KeyOrd.kle_refl _
            · rw [ee]; exact hs i (j - 1) (by omega) (by omega)
        · rw [show a + 1 - 1 = a by omega]
          by_cases hi : i = a
          · rw [hi]
          · rw [ee]; exact heq i (by omega) (by omega)

theorem ask_descPart {p : Array Nat} (hp : PIn n p) {m : Nat} {Q : Nat × Array Nat → Prop} (hm : m + 1 ≤ n) (hs : NiT key p (m + 1))
    (q : ∀ k p', PIn n p' → 1 ≤ k → k ≤ n → SoT key p' k → Q (k, p')) : AskOk n (ltK key) (kas_descPart m n p) Q := by
  refine AskOk.bind (ask_desc (n - (m + 1)) p (m + 1) 0 hp (by omega) (by omega) hs (by omega) (fun i i1 i2 => by congr 1; omega) fun p' k e hp' k1 k2 hs' he heq => ?_)
  have hz : k ≤ p'.size := by rw [hp'.size]; exact k2
  dsimp only
  split
  · refine ask_tail3 (hp'.rev _ _) k1 k2 (fun i j hij hj => ?_) q
    rw [KP_rev_eq hz heq, KP_rev_eq hz heq]
    exact hs' i j hij hj
  · exact ask_tail3 hp' k1 k2 hs' q

theorem ask_count {p : Array Nat} (hp : PIn n p) {Q : Nat × Array Nat → Prop} (hn : 1 ≤ n)
    (q : ∀ k p', PIn n p' → 1 ≤ k → k ≤ n → SoT key p' k → Q (k, p')) : AskOk n (ltK key) (kas_count n p) Q := by
  refine AskOk.bind (ask_asc hp (n - 1) 1 (Nat.le_refl _) (by omega) SoT_one fun m m1 m2 hm ho => ?_)
  have hz : m ≤ p.size := by rw [hp.size]; omega
  by_cases hmn : m = n
  · rw [if_pos (by simpa using hmn)]
    exact q m p hp m1 (by omega) hm
  · rw [if_neg (by simpa using hmn)]
    have hlt : O.klt (KP key p m) (KP key p (m - 1)) := ho.resolve_left (by omega)
    split
    · refine ⟨hp.lt (by omega), hp.lt (by omega), ?_⟩
      dsimp only
      by_cases hr : ltK key (p.getD 0 0) (p.getD (m - 1) 0) = true
      · rw [if_pos hr]
        exact q m p hp m1 (by omega) hm
      · rw [if_neg hr]
        have hall : ∀ k, 0 ≤ k → k < m → KP key p k = KP key p (m - 1) := by
          intro k _ hk
          have a1 := hm 0 k (by omega) hk
          have a2 := hm k (m - 1) (by omega) (by omega)
          exact KeyOrd.kle_antisymm a2 (KeyOrd.kle_trans (KeyOrd.kle_of_not_klt hr) a1)
        refine ask_descPart (hp.rev _ _) (by omega) (fun i j hij hj => ?_) q
        rw [KP_rev_eq hz hall, KP_rev_eq hz hall]
        by_cases hjm : j < m
        · rw [hall i (by omega) (by omega), hall j (by omega) hjm]; exact KeyOrd.kle_refl _
        · have hj' : j = m := by omega
          subst hj'
          by_cases hi : i = j
          · subst hi; exact KeyOrd.kle_refl _
          · rw [hall i (by omega) (by omega)]; exact KeyOrd.kle_of_klt hlt
    · have hm1 : m = 1 := by omega
      subst hm1
      refine ask_descPart hp (by omega) (fun i j hij hj => ?_) q
      by_cases hi : i = j
      · subst hi; exact KeyOrd.kle_refl _
      · have hi0 : i = 0 := by omega
        have hj1 : j = 1 := by omega
        subst hi0; subst hj1
        exact KeyOrd.kle_of_klt hlt

theorem ask_place {p : Array Nat} (hp : PIn n p) {k : Nat} (hk : k < n) (hs : SoT key p k) {Q : Nat → Prop}
    (q : ∀ l, l ≤ k → (∀ i, i < l → O.kle (KP key p i) (KP key p k)) → (∀ i, l ≤ i → i < k → O.klt (KP key p k) (KP key p i)) → Q l) : ∀ (f l r : Nat), l ≤ r → r ≤ k → r - l ≤ f →
      (∀ i, i < l → O.kle (KP key p i) (KP key p k)) → (∀ i, r ≤ i → i < k → O.klt (KP key p k) (KP key p i)) → AskOk n (ltK key) (kas_place p k f l r) Q
  | 0, l, r, h1, h2, h3, lo, hi => q l (by omega) lo (by rw [show l = r by omega]; exact hi)
  | f + 1, l, r, h1, h2, h3, lo, hi => by
    show AskOk n (ltK key) (if l ≥ r then _ else _) Q
    by_cases hlr : l ≥ r
    · rw [if_pos hlr]
      exact q l (by omega) lo (by rw [show l = r by omega]; exact hi)
    · rw [if_neg hlr]
      refine ⟨hp.lt hk, hp.lt (by omega), ?_⟩
      dsimp only
      by_cases hl : ltK key (p.getD k 0) (p.getD ((l + r) / 2) 0) = true
      · rw [if_pos hl]
        exact ask_place hp hk hs q f l ((l + r) / 2) (by omega) (by omega) (by omega) lo fun i i1 i2 => KeyOrd.klt_of_klt_of_kle hl (hs _ _ i1 i2)
      · rw [if_neg hl]
        exact ask_place hp hk hs q f ((l + r) / 2 + 1) r (by omega) h2 (by omega) (fun i i1 => KeyOrd.kle_trans (hs i ((l + r) / 2) (by omega) (by omega)) (KeyOrd.kle_of_not_klt hl)) hi

theorem ask_bin {Q : Array Nat → Prop} (q : ∀ p', PIn n p' → SoT key p' n → Q p') : ∀ (f : Nat) (p : Array Nat) (k : Nat), PIn n p → k + f = n → SoT key p k → AskOk n (ltK key) (kas_bin f p k) Q
  | 0, p, k, hp, h, hs => q p hp (by rw [← h]; exact hs)
  | f + 1, p, k, hp, h, hs => by
    have hks : k < p.size := by rw [hp.size]; omega
    refine AskOk.bind (ask_place hp (by omega) hs (fun l hl lo hi => ?_) k 0 k (by omega) (by omega) (by omega) (fun i hi => absurd hi (by omega)) (fun i h1 h2 => absurd h2 (by omega)))
    refine ask_bin q f _ (k + 1) (hp.bub _ _) (by omega) fun i j hij hj => ?_
    rw [KP_bub hks (by omega), KP_bub hks (by omega), show k - (k - l) = l by omega]
    repeat' split
    all_goals first
      | (exfalso; omega)
      | exact KeyOrd.kle_refl _
      | exact lo _ (by omega)
      | exact KeyOrd.kle_of_klt (hi _ (by omega) (by omega))
      | exact hs _ _ (by omega) (by omega)

theorem ask_sort {Q : Array Nat → Prop} (hn : 2 ≤ n) (q : ∀ p', PIn n p' → SoT key p' n → Q p') : AskOk n (ltK key) (kas_sort n) Q := by
  refine AskOk.bind (ask_count ⟨Array.Perm.refl _⟩ (by omega) fun k p hp k1 k2 hs => ?_)
  dsimp only
  split
  · rw [show max k 1 = k by omega]
    exact ask_bin q (n - k) p k hp (by omega) hs
  · exact q p hp (by rw [show n = k by omega]; exact hs)
end
end PySem.W

namespace PySem.W
open PySem PySem.Calls PyProof.Rows
section
variable {prog : Program} {w : World} {A : Around} {E : Value → Shared → Prop} {s : Shared}
def midHeap (h : Heap) (a : Addr) (vs : List Value) : Heap := ((h.update a (Obj.mapSeq fun _ => #[])).push (seqObj "tuple" vs.toArray 0)).push (seqObj "list" #[] 0)
theorem midHeap_old {h : Heap} {a b : Addr} {vs : List Value} (hb : b ≠ a) {o : Obj} (e : h.get? b = some o) : (midHeap h a vs).get? b = some o := by
  unfold midHeap
  refine Heap.get?_push_of_some _ (Heap.get?_push_of_some _ ?_)
  rw [Heap.get?_update_ne _ _ _ _ hb]
  exact e
theorem tsort_list {a : Addr} {vs : List Value} {n : Nat} {κ : SortKind} {G : List Value → Prop} {P : PySem.Fin → Shared → Prop} (ho : s.heap.get? a = some (seqObj "list" vs.toArray n)) (h64 : vs.length < 64)
    (hk : 2 ≤ vs.length → ∀ Q : SortKind → Shared → Prop, Q κ { s with heap := midHeap s.heap a vs } → wpAny (model prog w) A (keyKind' vs.toArray) Q E { s with heap := midHeap s.heap a vs })
    (ask : 2 ≤ vs.length → (kas_sort vs.length).kasWp (kas_ask prog w A κ vs) (fun p s' => s' = { s with heap := midHeap s.heap a vs } ∧ G (p.toList.map fun i => vs.getD i Value.none)) { s with heap := midHeap s.heap a vs })
    (few : vs.length < 2 → G vs)
    (h : ∀ out : List Value, out.length = vs.length → G out → P (.done (.ret .none)) { s with heap := sortedHeap s.heap a vs out.toArray }) :
    wpAny (model prog w) A (Builtin.«list.sort» ⟨[.ref a], []⟩) P E s := by
  have ha : a < s.heap.objs.size := Heap.lt_size ho
  obtain ⟨e1, ho1⟩ : ∃ e1, (s.heap.update a (Obj.mapSeq fun _ => (#[] : Array Value))).get? a = some (seqObj "list" #[] e1) := ⟨_, get?_update_seq ho fun _ => #[]⟩
  have ho3 : (midHeap s.heap a vs).get? a = some (seqObj "list" #[] e1) := Heap.get?_push_of_some _ (Heap.get?_push_of_some _ ho1)
  rw [list_sort_plain]
  refine wpAny_bind (listItems_at ho rfl ?_)
  refine wpAny_bind (listUpdate_at ho rfl ?_ (by rw [List.size_toArray, sizeLine_eq]; omega) (Nat.zero_le _))
  refine wpAny_bind (seqEpoch_at ho1 rfl ?_)
  refine wpAny_bind (wpAny_newTuple ?_ (by show vs.length ≤ _; rw [sizeLine_eq]; omega))
  refine wpAny_bind (wpAny_newList ?_ (Nat.zero_le _))
  refine wpAny_holding ?_
  show wpAny (model prog w) A _ P E { s with heap := midHeap s.heap a vs }
  dsimp only
  by_cases h2 : vs.toArray.size < 2
  · rw [if_pos h2, if_pos h2]
    rw [List.size_toArray] at h2
    refine wpAny_bind (wpAny_pure ?_)
    rw [StateT.run_pure]
    refine wpAny_bind (wpAny_pure ?_)
    dsimp only
    refine wpAny_bind (seqEpoch_at ho3 rfl ?_)
    have hout : (vs.toArray.zip vs.toArray).map (·.2) = vs.toArray := by
      apply Array.toList_inj.mp
      rw [Array.toList_map, Array.toList_zip]
      exact List.map_snd_zip (Nat.le_refl _)
    refine wpAny_bind (listUpdate_at ho3 rfl ?_ (Nat.zero_le _) (by
      refine Nat.le_trans (Nat.le_of_eq ((congrArg Array.size hout).trans List.size_toArray)) ?_
      rw [sizeLine_eq]; omega))
    simp only [bne_self_eq_false, Bool.false_eq_true, if_false]
    refine wpAny_pure ?_
    have hq := h vs rfl (few h2)
    rw [← hout] at hq
    exact hq
  · rw [if_neg h2, if_neg h2]
    rw [List.size_toArray] at h2
    have h2' : 2 ≤ vs.length := by omega
    refine wpAny_bind (hk h2' _ ?_)
    refine wpAny_bind (wpAny_mono (kat_run (E := E) (Q := fun st' s' => s' = { s with heap := midHeap s.heap a vs } ∧ ∃ p : Array Nat, p.size = vs.length ∧ arrOf st' = p.map (kas_item (vs.toArray.zip vs.toArray)) ∧ failedOf st' = none ∧ G (p.toList.map fun i => vs.getD i Value.none))
      rfl h2' h64 (fun p' st' s' a1 a2 a3 a4 => ⟨a4.1, p', a1, a2, a3, a4.2⟩) (ask h2')) ?_ fun _ _ e => e)
    rintro ⟨⟨⟩, st'⟩ s' ⟨rfl, p, hp, har, hf, hg⟩
    dsimp only
    have hout := kat_snds rfl har
    have hsz : (p.toList.map fun i => vs.getD i Value.none).length = vs.length := by rw [List.length_map, Array.length_toList, hp]
    rw [hout]
    refine wpAny_bind (seqEpoch_at ho3 rfl ?_)
    refine wpAny_bind (listUpdate_at ho3 rfl ?_ (Nat.zero_le _) (by rw [List.size_toArray, hsz, sizeLine_eq]; omega))
    rw [hf]
    simp only [bne_self_eq_false, Bool.false_eq_true, if_false]
    exact wpAny_pure (h _ hsz hg)
def preHeap (h : Heap) (vs : List Value) : Heap := ((h.push (seqObj "list" #[] 0)).update h.objs.size (Obj.mapSeq (· ++ vs.toArray))).push (seqObj "list" vs.toArray 0)
theorem preHeap_old {h : Heap} {b : Addr} {vs : List Value} {o : Obj} (e : h.get? b = some o) : (preHeap h vs).get? b = some o := by
  have hlt : b < h.objs.size := Heap.lt_size e
  unfold preHeap
  refine Heap.get?_push_of_some _ ?_
  rw [Heap.get?_update_ne _ _ _ _ (Nat.ne_of_lt hlt), Heap.get?_push_ne _ _ _ (Nat.ne_of_lt hlt)]
  exact e
theorem tsorted {l : Addr} {vs : List Value} {κ : SortKind} {G : List Value → Prop} {Q : Value → Shared → Prop} (hl : s.heap.IsList l vs.toArray) (h64 : vs.length < 64)
    (hk : 2 ≤ vs.length → ∀ s' : Shared, (∀ b o, s.heap.get? b = some o → s'.heap.get? b = some o) → ∀ (E' : Value → Shared → Prop) (Q : SortKind → Shared → Prop), Q κ s' → wpAny (model prog w) A.in1.in1 (keyKind' vs.toArray) Q E' s')
    (ask : 2 ≤ vs.length → ∀ s' : Shared, (∀ b o, s.heap.get? b = some o → s'.heap.get? b = some o) → (kas_sort vs.length).kasWp (kas_ask prog w A.in1.in1 κ vs) (fun p s'' => s'' = s' ∧ G (p.toList.map fun i => vs.getD i Value.none)) s')
    (few : vs.length < 2 → G vs)
    (h : ∀ out : List Value, out.length = vs.length → G out → Q (.ref (s.heap.objs.size + 1)) { s with heap := sortedAll s.heap vs out.toArray }) :
    wpAny (model prog w) A (call (.builtin "sorted") [.ref l]) Q E s := by
  refine Calls.call_function_entry kind_sorted plain_sorted entry_sorted (args_sorted1 _) ?_
  unfold Builtin.«sorted»
  refine wpAny_bind (m := checkCount "sorted" 1 1 _) (wpAny_pure ?_)
  refine wpAny_bind (collect_list hl ?_ (by rw [sizeLine_eq]; omega))
  refine wpAny_bind (wpAny_newList ?_ (by rw [sizeLine_eq]; omega))
  have hsz : ((s.heap.push (seqObj "list" #[] 0)).update s.heap.objs.size (Obj.mapSeq (· ++ vs.toArray))).objs.size = s.heap.objs.size + 1 := by
    rw [Heap.size_update, size_push']
  have hoL : (preHeap s.heap vs).get? (s.heap.objs.size + 1) = some (seqObj "list" vs.toArray 0) := by
    unfold preHeap
    rw [← hsz]; exact Heap.get?_push_size _ rfl
  have keep : ∀ b o, s.heap.get? b = some o → (midHeap (preHeap s.heap vs) (s.heap.objs.size + 1) vs).get? b = some o := fun b o e => by
    have hlt : b < s.heap.objs.size := Heap.lt_size e
    exact midHeap_old (Nat.ne_of_lt (Nat.lt_succ_of_lt hlt)) (preHeap_old e)
  show wpAny _ _ _ _ _ { s with heap := preHeap s.heap vs }
  rw [hsz]
  refine wpAny_bind (wpAny_holding (wpAny_call_entry slot_list_sort ⟨_, hoL, rfl⟩ entry_list_sort ?body (args_list_sort _)))
  case body =>
    exact tsort_list (s := { s with heap := preHeap s.heap vs }) hoL h64 (fun h2 Q' hq => hk h2 _ keep _ Q' hq) (fun h2 => ask h2 _ keep) few fun out hz hg => ⟨_, rfl, wpAny_pure ⟨_, rfl, h out hz hg⟩⟩
end
end PySem.W

namespace L2
open PySem PySem.Spec PyProof.Rows PySem.W
theorem lexLt_irr : ∀ a : List Int, HT.lexLt a a = false
  | [] => rfl
  | x :: xs => by rw [HT.lexLt_cons, if_pos rfl]; exact lexLt_irr xs
theorem lexLt_tr : ∀ a b c : List Int, HT.lexLt a b = true → HT.lexLt b c = true → HT.lexLt a c = true
  | [], [], _, h, _ => nomatch h
  | [], _ :: _, [], _, h => nomatch h
  | [], _ :: _, _ :: _, _, _ => rfl
  | _ :: _, [], _, h, _ => nomatch h
  | _ :: _, _ :: _, [], _, h => nomatch h
  | x :: xs, y :: ys, z :: zs, h1, h2 => by
    rw [HT.lexLt_cons] at h1 h2 ⊢
    by_cases e1 : x = y
    · rw [if_pos e1] at h1
      by_cases e2 : y = z
      · rw [if_pos e2] at h2
        rw [if_pos (e1.trans e2)]
        exact lexLt_tr xs ys zs h1 h2
      · rw [if_neg e2] at h2
        rw [if_neg (by omega), e1]
        exact h2
    · rw [if_neg e1] at h1
      have g1 := of_decide_eq_true h1
      by_cases e2 : y = z
      · rw [if_neg (by omega), ← e2]
        exact h1
      · rw [if_neg e2] at h2
        have g2 := of_decide_eq_true h2
        rw [if_neg (by omega)]
        exact decide_eq_true (by omega)
theorem lexLt_or : ∀ a b c : List Int, HT.lexLt a c = true → HT.lexLt a b = true ∨ HT.lexLt b c = true
  | [], _, [], h => nomatch h
  | [], [], _ :: _, _ => .inr rfl
  | [], _ :: _, _ :: _, _ => .inl rfl
  | _ :: _, _, [], h => nomatch h
  | _ :: _, [], _ :: _, _ => .inr rfl
  | x :: xs, y :: ys, z :: zs, h => by
    rw [HT.lexLt_cons] at h ⊢
    rw [HT.lexLt_cons]
    by_cases e1 : x = y
    · by_cases e2 : y = z
      · rw [if_pos (e1.trans e2)] at h
        rw [if_pos e1, if_pos e2]
        exact lexLt_or xs ys zs h
      · rw [if_neg (by omega)] at h
        right
        rw [if_neg e2, ← e1]
        exact h
    · by_cases e2 : y = z
      · rw [if_neg (by omega)] at h
        left
        rw [if_neg e1, e2]
        exact h
      · rw [if_neg e1, if_neg e2]
        by_cases g : x < y
        · exact .inl (decide_eq_true g)
        · right
          by_cases e3 : x = z
          · exact decide_eq_true (by omega)
          · rw [if_neg e3] at h
            have := of_decide_eq_true h
            exact decide_eq_true (by omega)
theorem lexLt_tot : ∀ a b : List Int, HT.lexLt a b = false → HT.lexLt b a = false → a = b
  | [], [], _, _ => rfl
  | [], _ :: _, h, _ => nomatch h
  | _ :: _, [], _, h => nomatch h
  | x :: xs, y :: ys, h1, h2 => by
    rw [HT.lexLt_cons] at h1 h2
    by_cases e : x = y
    · rw [if_pos e] at h1
      rw [if_pos e.symm] at h2
      rw [e, lexLt_tot xs ys h1 h2]
    · rw [if_neg e] at h1
      rw [if_neg (fun z => e z.symm)] at h2
      have g1 := of_decide_eq_false h1
      have g2 := of_decide_eq_false h2
      omega
def ordL : KeyOrd where
  α := List Int
  blt := HT.lexLt
  irrefl := lexLt_irr
  trans := lexLt_tr
  negTrans := lexLt_or
  total := lexLt_tot
def TupN (h : Heap) (v : Value) (ns : List Int) : Prop := ∃ (a : Addr) (o : Obj) (n : Nat) (its : List Value), v = .ref a ∧ h.get? a = some o ∧ o.cls = .type "tuple" ∧ o.data = .seq its.toArray n ∧ Vals (ns.map V.int) its
theorem TupN.keep {h h' : Heap} {v : Value} {t : List Int} (e : TupN h v t) (k : ∀ b o, h.get? b = some o → h'.get? b = some o) : TupN h' v t := by
  obtain ⟨a, o, n, its, e1, e2, e3⟩ := e
  exact ⟨a, o, n, its, e1, k _ _ e2, e3⟩
section
variable {prog : Program} {w : World} {A : Around} {E : Value → Shared → Prop} {s : Shared}
theorem lex_ints {C : Bool → Shared → Prop} : ∀ {ns ms : List Int} {us ws : List Value} (_ : Vals (ns.map V.int) us) (_ : Vals (ms.map V.int) ws) (_ : ns.length = ms.length) (i : Nat) (_ : C (HT.lexLt ns ms) s), KatLex prog w A true false C (us.zip ws) i s
  | [], [], _, _, r1, r2, _, i, h => by
    cases r1
    cases r2
    exact kat_nil h
  | [], _ :: _, _, _, _, _, hl, _, _ => nomatch hl
  | _ :: _, [], _, _, _, _, hl, _, _ => nomatch hl
  | x :: xs, y :: ys, _, _, r1, r2, hl, i, h => by
    cases r1 with
    | cons p1 q1 =>
      cases r2 with
      | cons p2 q2 =>
        obtain ⟨t, rfl⟩ := p1
        obtain ⟨t', rfl⟩ := p2
        rw [List.zip_cons_cons]
        refine kat_cons (wpAny_eqBool_int ?_)
        rw [HT.lexLt_cons] at h
        by_cases e : x = y
        · rw [if_pos e] at h
          rw [show (x == y) = true from by simpa using e]
          exact kat_yes (lex_ints q1 q2 (by simpa using hl) (i + 1) h)
        · rw [if_neg e] at h
          rw [show (x == y) = false from by simpa using e]
          refine kat_no ?_
          cases i with
          | zero => exact oneLt_int h
          | succ i => exact kat_one _ _ (wpAny_lt_int h)
theorem lt_tups {u v : Value} {a b : List Int} {C : Bool → Shared → Prop} (hu : TupN s.heap u a) (hv : TupN s.heap v b) (hl : a.length = b.length) (h : C (HT.lexLt a b) s) : wpAny (model prog w) A (keyLt' (tuples' true) u v) C E s := by
  obtain ⟨p, o, n, us, rfl, ho, _, hd, r1⟩ := hu
  obtain ⟨q, o', n', ws, rfl, ho', _, hd', r2⟩ := hv
  refine kat_lt ho hd ho' hd' ?_
  have l1 := r1.length
  have l2 := r2.length
  rw [List.length_map] at l1 l2
  rw [show decide (us.toArray.size < ws.toArray.size) = false from decide_eq_false (by rw [List.size_toArray, List.size_toArray]; omega)]
  exact lex_ints r1 r2 hl 0 h
theorem firstsN {h : Heap} : ∀ (vs : List Value), (∀ v ∈ vs, ∃ x xs, TupN h v (x :: xs)) → ∃ fs : List Value, KatTups h vs fs ∧ fs.length = vs.length ∧ ∀ v ∈ fs, ∃ i t, v = Value.int i t
  | [], _ => ⟨[], .nil, rfl, fun _ hv => absurd hv (List.not_mem_nil)⟩
  | v :: vs, hv => by
    obtain ⟨fs, a1, a2, a3⟩ := firstsN vs fun u hu => hv u (.tail _ hu)
    obtain ⟨x, xs, p, o, n, its, rfl, ho, hc, hd, r⟩ := hv v (.head _)
    cases r with
    | cons p1 q1 =>
      obtain ⟨t, rfl⟩ := p1
      refine ⟨.int x t :: fs, KatTups.cons ho hc hd rfl a1, by rw [List.length_cons, List.length_cons, a2], fun u hu => ?_⟩
      rcases List.mem_cons.mp hu with rfl | hu
      · exact ⟨_, _, rfl⟩
      · exact a3 u hu
theorem sorted_tups {l : Addr} {vs : List Value} {ks : List (List Int)} {m : Nat} {Q : Value → Shared → Prop} (hl : s.heap.IsList l vs.toArray) (h64 : vs.length < 64) (hT : ∀ i, i < vs.length → TupN s.heap (vs.getD i Value.none) (ks.getD i []) ∧ (ks.getD i []).length = m + 1)
    (h : ∀ is : List Nat, is.Perm (List.range vs.length) → (is.map fun i => ks.getD i []).Pairwise (fun a b => HT.lexLt b a = false) →
      Q (.ref (s.heap.objs.size + 1)) { s with heap := sortedAll s.heap vs (is.map fun i => vs.getD i Value.none).toArray }) :
    wpAny (model prog w) A (call (.builtin "sorted") [.ref l]) Q E s := by
  refine tsorted (κ := tuples' true) (G := fun out => ∃ is : List Nat, is.Perm (List.range vs.length) ∧ (is.map fun i => ks.getD i []).Pairwise (fun a b => HT.lexLt b a = false) ∧ out = is.map fun i => vs.getD i Value.none)
    hl h64 (fun h2 s' kp E' Q' hq => ?_) (fun h2 s' kp => ?_) (fun h2 => ?_) fun out hz ⟨is, p1, p2, e⟩ => by rw [e]; exact h is p1 p2
  · obtain ⟨fs, a1, a2, a3⟩ := firstsN (h := s'.heap) vs fun v hv => by
      obtain ⟨i, hi, rfl⟩ := List.getElem_of_mem hv
      obtain ⟨e, en⟩ := hT i hi
      have e' := e.keep kp
      rw [show vs.getD i Value.none = vs[i] by simp [hi]] at e'
      cases ek : ks.getD i [] with
      | nil => rw [ek] at en; cases en
      | cons x xs => rw [ek] at e'; exact ⟨x, xs, e'⟩
    refine kat_kind (T := Value.type "int") a1 (by omega) (fun v hv => ?_) rfl (by first | exact hq | (rw [show (Value.type "int" != Value.type "tuple") = true from by first | decide | simp]; exact hq))
    obtain ⟨i, t, rfl⟩ := a3 v hv
    exact .now
  · refine AskOk.wp (n := vs.length) (lt := ltK (O := ordL) fun i => ks.getD i []) (fun i j C hi hj hc => ?_) (fun p hp => ⟨rfl, hp⟩) (ask_sort (O := ordL) (key := fun i => ks.getD i []) h2 fun p hp hs => ?_)
    · exact lt_tups ((hT i hi).1.keep kp) ((hT j hj).1.keep kp) (by rw [(hT i hi).2, (hT j hj).2]) hc
    · refine ⟨p.toList, by simpa using Array.perm_iff_toList_perm.mp hp.perm, ?_, rfl⟩
      rw [List.pairwise_map, List.pairwise_iff_getElem]
      intro i j hi hj hij
      have hi' : i < p.size := by simpa using hi
      have hj' : j < p.size := by simpa using hj
      have q := hs i j (Nat.le_of_lt hij) (by rw [← hp.size]; exact hj')
      unfold KP at q
      rw [show p.getD i 0 = p.toList[i] by simp [Array.getD, hi'], show p.getD j 0 = p.toList[j] by simp [Array.getD, hj']] at q
      exact q
  · refine ⟨List.range vs.length, .refl _, ?_, ?_⟩
    · rw [List.pairwise_map, List.pairwise_iff_getElem]
      intro i j hi hj hij
      rw [List.length_range] at hj
      omega
    · refine List.ext_getElem (by simp) fun i h1 h3 => ?_
      rw [List.getElem_map, List.getElem_range]
      simp [h1]
end
theorem getD_map_range {α β : Type} (f : α → β) (d : α) (e : β) (xs : List α) : ((List.range xs.length).map fun i => f (xs.getD i d)) = xs.map f := by
  refine List.ext_getElem (by simp) fun i h1 h2 => ?_
  have hi : i < xs.length := by simpa using h1
  rw [List.getElem_map, List.getElem_range, List.getElem_map]
  simp [hi]
theorem vals_refs : ∀ rs : List Addr, Vals (rs.map V.ref) (rs.map Value.ref)
  | [] => .nil
  | _ :: rs => .cons rfl (vals_refs rs)
section
variable {X : Cx}
theorem bt_sorted : bootBuiltins "sorted" = some (.builtin "sorted") := by decide +kernel
theorem call_sortedT : CallR X (.builtin "sorted") (fun xs H Q => ∃ (l : Addr) (ts : List (Addr × List Int)) (m : Nat), xs = [.ref l] ∧ SqL X.K H l ((ts.map (·.1)).map V.ref) ∧ ts.length < 64 ∧ (∀ t ∈ ts, H t.1 = some (.tup (t.2.map V.int)) ∧ t.2.length = m + 1) ∧
    ∀ (p : Addr) (us : List (Addr × List Int)), H p = none → us.Perm ts → us.Pairwise (fun a b => HT.lexLt b.2 a.2 = false) → Q (.ref p) (upd H p (.lst ((us.map (·.1)).map V.ref)))) := by
  intro pins s σ H xs us Q I r h
  obtain ⟨l, ts, m, rfl, hq, h64, hts, q⟩ := h
  obtain ⟨u, rfl, ru⟩ := Vals.one r
  cases ru
  obtain ⟨its, rv, pl, hz⟩ := I.list hq
  have ei := refs_of rv
  subst ei
  have hn : ((ts.map (·.1)).map Value.ref).length = ts.length := by rw [List.length_map, List.length_map]
  refine sorted_tups (ks := ts.map (·.2)) (m := m) pl.isList (by rw [hn]; exact h64) (fun i hi => ?_) fun is hp hs => ?_
  · rw [hn] at hi
    have ht := hts ts[i] (List.getElem_mem hi)
    have e1 : ((ts.map (·.1)).map Value.ref).getD i Value.none = Value.ref ts[i].1 := by simp [hi]
    have e2 : (ts.map (·.2)).getD i [] = ts[i].2 := by simp [hi]
    rw [e1, e2]
    refine ⟨?_, ht.2⟩
    obtain ⟨its, r1, ⟨o, e, c, n, d⟩, _⟩ := I.tuple (SqT.of ht.1)
    exact ⟨_, o, n, its, rfl, e, c, d, r1⟩
  · rw [hn] at hp
    have lt : ∀ i ∈ is, i < ts.length := fun i hi => List.mem_range.mp (hp.mem_iff.mp hi)
    let d : Addr × List Int := (0, [])
    have pm : (is.map fun i => ts.getD i d).Perm ts := by
      have z := hp.map fun i => ts.getD i d
      have e := getD_map_range (fun t : Addr × List Int => t) d d ts
      rw [show (List.range ts.length).map (fun i => ts.getD i d) = ts from by simpa using e] at z
      exact z
    have e1 : (is.map fun i => ((ts.map (·.1)).map Value.ref).getD i Value.none) = ((is.map fun i => ts.getD i d).map (·.1)).map Value.ref := by
      simp only [List.map_map]
      refine List.map_congr_left fun i hi => ?_
      have := lt i hi
      simp [this]
    have e2 : (is.map fun i => (ts.map (·.2)).getD i []) = (is.map fun i => ts.getD i d).map (·.2) := by
      rw [List.map_map]
      refine List.map_congr_left fun i hi => ?_
      have := lt i hi
      simp [this]
    rw [e2, List.pairwise_map] at hs
    rw [e1]
    obtain ⟨e, at'⟩ := sortedAll_at s.heap ((ts.map (·.1)).map Value.ref) (((is.map fun i => ts.getD i d).map (·.1)).map Value.ref).toArray
    have fr : H (s.heap.objs.size + 1) = none := I.hok.fresh (Nat.le_succ _)
    refine ⟨.ref (s.heap.objs.size + 1), _, I.laid (t' := s.toks) (a := s.heap.objs.size + 1) (o := .lst (((is.map fun i => ts.getD i d).map (·.1)).map V.ref)) (fun b ob q => sortedAll_old q) (Nat.le_succ _) ?_, rfl, q _ _ fr pm hs⟩
    refine ⟨?_, _, e, vals_refs _, at'⟩
    rw [List.length_map, List.length_map, pm.length_eq]
    exact Nat.le_trans (Nat.le_of_lt h64) (by rw [sizeLine_eq]; decide)
end
end L2
namespace L2
open PySem PySem.Spec PyProof.Rows
section
variable {X : Cx}
end
end L2

namespace Sea
open PySem L2
end Sea

namespace L2
open PySem PySem.Spec PyProof.Rows
section
variable {κ : Type} [DecidableEq κ]
def valV (kvs : List (κ × V)) (k : κ) : Option V := (kvs.find? fun kv => decide (kv.1 = k)).map (·.2)
def putK (kvs : List (κ × V)) (k : κ) (v : V) : List (κ × V) :=
  if (kvs.any fun kv => decide (kv.1 = k)) = true then kvs.map (fun kv => if kv.1 = k then (kv.1, v) else kv) else kvs ++ [(k, v)]
theorem valV_pos {p : κ × V} {r : List (κ × V)} {k : κ} (e : p.1 = k) : valV (p :: r) k = some p.2 := by simp [valV, List.find?_cons, e]
theorem valV_neg {p : κ × V} {r : List (κ × V)} {k : κ} (e : ¬ p.1 = k) : valV (p :: r) k = valV r k := by simp [valV, List.find?_cons, e]
theorem valV_any (k : κ) : ∀ kvs : List (κ × V), (kvs.any fun kv => decide (kv.1 = k)) = (valV kvs k).isSome
  | [] => rfl
  | p :: r => by
    rw [List.any_cons]
    by_cases e : p.1 = k
    · simp only [valV_pos e, decide_eq_true e, Bool.true_or, Option.isSome_some]
    · rw [valV_neg e, decide_eq_false e, Bool.false_or]; exact valV_any k r
theorem length_putK (kvs : List (κ × V)) (k : κ) (v : V) : (putK kvs k v).length ≤ kvs.length + 1 := by
  unfold putK
  split
  · rw [List.length_map]; omega
  · rw [List.length_append, List.length_cons, List.length_nil]; omega
theorem RelO.isSome_eq {o : Option V} {u : Option Value} (r : RelO o u) : o.isSome = u.isSome := by
  cases o with
  | none => cases u with
    | none => rfl
    | some _ => exact (show False from r).elim
  | some _ => cases u with
    | none => exact (show False from r).elim
    | some _ => rfl
theorem KV.any {kvs : List (κ × V)} {vs : List (κ × Value)} (r : KV kvs vs) (k : κ) : (kvs.any fun kv => decide (kv.1 = k)) = vs.any fun kv => decide (kv.1 = k) := by
  unfold KV at r
  induction r with
  | nil => rfl
  | cons h t ih => rw [List.any_cons, List.any_cons, ih, h.1]
theorem KV.repl {kvs : List (κ × V)} {vs : List (κ × Value)} (r : KV kvs vs) (k : κ) {y : V} {u : Value} (ry : RelV y u) :
    KV (kvs.map fun kv => if kv.1 = k then (kv.1, y) else kv) (vs.map fun kv => if kv.1 = k then (kv.1, u) else kv) := by
  unfold KV at r ⊢
  induction r with
  | nil => exact .nil
  | @cons p q ps qs h t ih =>
    rw [List.map_cons, List.map_cons]
    refine .cons ?_ ih
    obtain ⟨h1, h2⟩ := h
    by_cases e : p.1 = k
    · rw [if_pos e, if_pos (h1.symm.trans e)]; exact ⟨h1, ry⟩
    · rw [if_neg e, if_neg (fun z => e (h1.trans z))]; exact ⟨h1, h2⟩
theorem KV.put {kvs : List (κ × V)} {vs : List (κ × Value)} (r : KV kvs vs) (k : κ) {y : V} {u : Value} (ry : RelV y u) : KV (putK kvs k y) (stored vs k u) := by
  unfold putK stored
  rw [r.any k]
  by_cases e : (vs.any fun kv => decide (kv.1 = k)) = true
  · rw [if_pos e, if_pos e]; exact r.repl k ry
  · rw [if_neg e, if_neg e]; exact Paired.snoc r ⟨rfl, ry⟩
theorem KV.length {kvs : List (κ × V)} {vs : List (κ × Value)} (r : KV kvs vs) : kvs.length = vs.length := Paired.length r
end


theorem kV_is {P : Program} {w : World} {k : Key} {u : Value} (r : RelV (kV k) u) : (mixKind P w).is k u = true := by
  cases k with
  | inl i => obtain ⟨t, e⟩ := (show ∃ t, u = Value.int i t from r); subst e; exact mixKind_int P w i t
  | inr x => obtain ⟨t, e⟩ := (show ∃ t, u = Value.str x t from r); subst e; exact mixKind_str P w x t
theorem items_are {P : Program} {w : World} : ∀ {ks : List Key} {us : List Value}, Vals (ks.map kV) us → ItemsAre (mixKind P w) ks us
  | [], _, r => by rw [List.map_nil] at r; cases r; exact .nil
  | k :: ks, _, r => by
    rw [List.map_cons] at r
    cases r with
    | cons h t => exact .cons (kV_is h) (items_are t)

abbrev KT (H : Hp) : List (List Key × V) → List (List Key × Addr × Value) → Prop := Paired fun p q => p.1 = q.1 ∧ H q.2.1 = some (.tup (p.1.map kV)) ∧ RelV p.2 q.2.2
theorem KT.val {H : Hp} {kvs : List (List Key × V)} {xs : List (List Key × Addr × Value)} (r : KT H kvs xs) (k : List Key) : RelO (valV kvs k) ((atKey xs k).map (·.2)) := by
  induction r with
  | nil => exact True.intro
  | @cons p q ps qs h t ih =>
    obtain ⟨h1, _, h2⟩ := h
    by_cases e : p.1 = k
    · have e' : q.1 = k := h1.symm.trans e
      have b : atKey (q :: qs) k = some q.2 := by simp [atKey, List.find?_cons, e']
      rw [valV_pos e, b]; exact h2
    · have e' : ¬ q.1 = k := fun z => e (h1.trans z)
      have b : atKey (q :: qs) k = atKey qs k := by simp [atKey, List.find?_cons, e']
      rw [valV_neg e, b]; exact ih
theorem KT.repl {H : Hp} {kvs : List (List Key × V)} {xs : List (List Key × Addr × Value)} (r : KT H kvs xs) (k : List Key) {y : V} {u : Value} (ry : RelV y u) :
    KT H (kvs.map fun kv => if kv.1 = k then (kv.1, y) else kv) (xs.map (putAt k u)) := by
  induction r with
  | nil => exact .nil
  | @cons p q ps qs h t ih =>
    rw [List.map_cons, List.map_cons]
    refine .cons ?_ ih
    obtain ⟨h1, h2, h3⟩ := h
    unfold putAt
    by_cases e : p.1 = k
    · rw [if_pos e, if_pos (h1.symm.trans e)]; exact ⟨h1, h2, ry⟩
    · rw [if_neg e, if_neg (fun z => e (h1.trans z))]; exact ⟨h1, h2, h3⟩
theorem KT.put {H : Hp} {kvs : List (List Key × V)} {xs : List (List Key × Addr × Value)} (r : KT H kvs xs) (k : List Key) {b : Addr} {y : V} {u : Value} (hb : H b = some (.tup (k.map kV))) (ry : RelV y u) :
    KT H (putK kvs k y) (storedH xs k b u) := by
  have e : (kvs.any fun kv => decide (kv.1 = k)) = (atKey xs k).isSome := by
    rw [valV_any, (r.val k).isSome_eq, Option.isSome_map]
  unfold putK storedH
  rw [e]
  by_cases q : (atKey xs k).isSome = true
  · rw [if_pos q, if_pos q]; exact r.repl k ry
  · rw [if_neg q, if_neg q]; exact Paired.snoc r ⟨rfl, hb, ry⟩
theorem KT.keeps {H H' : Hp} {kvs : List (List Key × V)} {xs : List (List Key × Addr × Value)} (r : KT H kvs xs) (ht : ∀ b ys, H b = some (.tup ys) → H' b = some (.tup ys)) : KT H' kvs xs :=
  Paired.mapP r fun _ _ z => ⟨z.1, ht _ _ z.2.1, z.2.2⟩

section
variable {P : Program} {w : World} {H : Hp} {h : Heap} {a : Addr}
theorem rd_of {u : HO} (ok : HOk P w H h) (e : Rd H a u) : ObjOk P w H h a u := e.ok ok
theorem dk_rd {kvs : List (Key × V)} (ok : HOk P w H h) (e : Rd H a (.dK kvs)) : kvs.length ≤ sizeLine ∧ (a == sysModules) = false ∧ ∃ vs, KV kvs vs ∧ h.DictOf (mixKind P w) a vs :=
  show ObjOk P w H h a (.dK kvs) from rd_of ok e
theorem dk_of {kvs : List (Key × V)} (ok : HOk P w H h) (e : H a = some (.dK kvs)) : kvs.length ≤ sizeLine ∧ (a == sysModules) = false ∧ ∃ vs, KV kvs vs ∧ h.DictOf (mixKind P w) a vs := dk_rd ok (.inl e)
theorem key_of {ks : List Key} (ok : HOk P w H h) (e : H a = some (.tup (ks.map kV))) : (tupleKind (mixKind P w)).is h ks a := by
  obtain ⟨_, its, r, o, h1, h2, n, h3⟩ := (show ObjOk P w H h a (.tup (ks.map kV)) from ok a _ e)
  exact ⟨o, its.toArray, n, h1, h2, h3, by simpa using items_are r⟩
theorem dt_rd {kvs : List (List Key × V)} (ok : HOk P w H h) (e : Rd H a (.dT kvs)) : kvs.length ≤ sizeLine ∧ (a == sysModules) = false ∧
    ∃ xs, KT H kvs xs ∧ h.DictOfH (tupleKind (mixKind P w)) a xs := by
  obtain ⟨z, y, xs, r, o, es, ep, h1, h2, h3, h4, h5⟩ := (show ObjOk P w H h a (.dT kvs) from rd_of ok e)
  refine ⟨z, y, xs, r, o, es, ep, h1, h2, h3, h4, fun x hx => ?_, h5⟩
  have all : ∀ {l : List (List Key × V)} {m : List (List Key × Addr × Value)}, KT H l m → ∀ x ∈ m, (tupleKind (mixKind P w)).is h x.1 x.2.1 := by
    intro l m q
    induction q with
    | nil => intro x hx; exact nomatch hx
    | @cons p q ps qs hq t ih =>
      intro x hx
      rcases List.mem_cons.mp hx with e | hx
      · subst e
        exact key_of ok (by rw [← hq.1]; exact hq.2.1)
      · exact ih x hx
  exact all r x hx
theorem dt_of {kvs : List (List Key × V)} (ok : HOk P w H h) (e : H a = some (.dT kvs)) : kvs.length ≤ sizeLine ∧ (a == sysModules) = false ∧
    ∃ xs, KT H kvs xs ∧ h.DictOfH (tupleKind (mixKind P w)) a xs := dt_rd ok (.inl e)
end

def DPut (H : Hp) (a : Addr) (y v : V) (H' : Hp) : Prop :=
  (∃ kvs k, H a = some (.dK kvs) ∧ y = kV k ∧ kvs.length < sizeLine ∧ H' = upd H a (.dK (putK kvs k v))) ∨
  ∃ kvs k b, H a = some (.dT kvs) ∧ y = .ref b ∧ H b = some (.tup (k.map kV)) ∧ kvs.length < sizeLine ∧ H' = upd H a (.dT (putK kvs k v))
theorem DPut.t {H : Hp} {a b : Addr} {kvs : List (List Key × V)} {k : List Key} {v : V} (e : H a = some (.dT kvs)) (eb : H b = some (.tup (k.map kV))) (hl : kvs.length < sizeLine) :
    DPut H a (.ref b) v (upd H a (.dT (putK kvs k v))) := .inr ⟨kvs, k, b, e, rfl, eb, hl, rfl⟩


section
variable {X : Cx} {pins : List (Addr × Obj)} {σ : St} {H : Hp} {s : Shared} {a : Addr} {y v : V} {u r : Value} {o : Option V} {A : Around} {E : Value → Shared → Prop}

theorem Inv.big (I : Inv X pins σ H s) : sysModules < s.heap.objs.size := by
  have h : mainGlobals < s.heap.objs.size := (I.mod.glob.keeps I.bk).lt
  exact Nat.lt_trans (by decide) h

theorem d_write {h' : Heap} {t' : Nat} {ob : HO} (I : Inv X pins σ H s) (mu : Mut (H a)) (hs : Heap.SameBut a s.heap h') (he : ∃ q, h'.get? a = some q) (new : ObjOk X.prog X.w (upd H a ob) h' a ob) :
    Inv X pins σ (upd H a ob) { s with heap := h', toks := t' } :=
  I.write (x := a) (e := a) mu (.inl rfl) (fun b q hb z => (hs.2 b hb).trans z) he new
theorem dk_new {P : Program} {w : World} {H' : Hp} {h' : Heap} {kvs : List (Key × V)} {vs : List (Key × Value)} (z : kvs.length ≤ sizeLine) (hd : (a == sysModules) = false) (rel : KV kvs vs) (dd : h'.DictOf (mixKind P w) a vs) :
    ObjOk P w H' h' a (.dK kvs) := ⟨z, hd, vs, rel, dd⟩
theorem d_setItem {H' : Hp} {Q : Unit → Shared → Prop} (hu : A.units + 1 < cLine) (I : Inv X pins σ H s) (g : DPut H a y v H') (ry : RelV y u) (rv : RelV v r) (h : ∀ s', Inv X pins σ H' s' → Q () s') :
    wpAny (model X.prog X.w) A (setItem (.ref a) u r) Q E s := by
  rcases g with ⟨kvs, k, e, ey, l, eH⟩ | ⟨kvs, k, b, e, ey, eb, l, eH⟩
  · subst ey eH
    obtain ⟨z, hd, vs, rel, dd⟩ := dk_of I.hok e
    have hz : vs.length ≤ sizeLine := by rw [← rel.length]; exact z
    have hl : (putK kvs k v).length ≤ sizeLine := by have := length_putK kvs k v; omega
    refine wpAny_setItem_pairs (hsz := hz) (kV_is ry) dd fun h' dd' hs => h _ ?_
    have he : ∃ q, h'.get? a = some q := let ⟨q, _, _, hq, _⟩ := dd'; ⟨q, hq⟩
    exact d_write I (by rw [e]; exact True.intro) hs he (dk_new hl hd (rel.put k rv) dd')
  · subst ey eH
    cases (show u = Value.ref b from ry)
    obtain ⟨z, hd, xs, rel, dd⟩ := dt_of I.hok e
    have hz : xs.length ≤ sizeLine := by rw [← Paired.length rel]; exact z
    have hl : (putK kvs k v).length ≤ sizeLine := by have := length_putK kvs k v; omega
    refine wpAny_setItem_heap (hsz := hz) (tupleKind_room_in1 hu) (key_of I.hok eb) dd fun h' dd' hs => h _ ?_
    obtain ⟨q, es, ep, hq, h2, h3, h4, _, h5⟩ := dd'
    refine d_write I (by rw [e]; exact True.intro) hs ⟨q, hq⟩ ⟨hl, hd, _, (rel.put k eb rv).keeps fun c ys ec => ?_, q, es, ep, hq, h2, h3, h4, h5⟩
    rw [upd_ne (ne_of ec e (fun z => nomatch z))]
    exact ec
end

section
variable {X : Cx} {pins : List (Addr × Obj)} {σ : St} {H : Hp} {s : Shared} {a : Addr} {kvs : List (Key × V)} {k : Key} {u : Value} {A : Around} {E : Value → Shared → Prop}
end


def sDPut (td ty tv : TE) : TS := fun D σ H => tv σ H fun v H1 => td σ H1 fun x H2 => ty σ H2 fun y H3 => ∃ a H4, x = .ref a ∧ DPut H3 a y v H4 ∧ D.nx σ H4
section
variable {X : Cx} {o i e value : Expr} {pos pos' tpos : Pos} {td ty tv : TE}
theorem ps_dput (hu : X.A.units + 1 < cLine) (ho : PE X o td) (hi : PE X i ty) (hv : PE X value tv) (hs : swapsWith value (some (.Subscript o i pos')) pos.line X.env = pure false) :
    PS X (.Assign [.Subscript o i pos'] value pos) (sDPut td ty tv) := by
  intro pins s σ H D I h
  refine wpAny_Assign_Subscript (thn (hv pins s σ H _ I h) fun r s1 ⟨v, H1, I1, rv, q1⟩ => thn (ho pins s1 σ H1 _ I1 q1) fun u s2 ⟨x, H2, I2, rx, q2⟩ => thn (hi pins s2 σ H2 _ I2 q2) fun iv s3 ⟨y, H3, I3, ry, a, H4, ex, g, q3⟩ => ?_) hs
  subst ex
  obtain rfl : u = Value.ref a := rx
  exact d_setItem hu I3 g ry rv fun s4 I4 => ⟨σ, H4, I4, q3⟩
end


theorem dt_empty {P : Program} {w : World} {H : Hp} (h : Heap) (hb : sysModules < h.objs.size) : ObjOk P w H (h.push { cls := .type "dict", data := .dict #[] }) h.objs.size (.dT []) :=
  ⟨Nat.zero_le _, beq_eq_false_iff_ne.mpr (Ne.symm (Nat.ne_of_lt hb)), [], .nil, _, #[], 0, Heap.get?_push_size _ rfl, ⟨rfl, rfl, rfl⟩, rfl, rfl, List.nodup_nil⟩
def tDNewT : TE := fun _ H Q => ∀ p, H p = none → Q (.ref p) (upd H p (.dT []))
section
variable {X : Cx} {pos : Pos}
theorem pe_dnewT : PE X (.Dict [] [] pos) tDNewT := fun pins s σ H Q I h =>
  wpAny_Dict_empty ⟨.ref s.heap.objs.size, _, I.laid (a := s.heap.objs.size) (o := .dT []) (t' := s.toks) (fun _ _ q => Heap.get?_push_of_some _ q) (Nat.le_refl _) (dt_empty s.heap I.big), rfl, h _ (I.hok.fresh (Nat.le_refl _))⟩
end

end L2

namespace L2
open PySem PySem.Spec PyProof.Rows
def RawD (h : Heap) (a : Addr) (rows : Array DictEntry) (age : Nat) : Prop := ∃ ob, h.get? a = some ob ∧ ob.ExactDict ∧ ob.data = .dict rows age
theorem RawD.at {h h' : Heap} {a : Addr} {rows : Array DictEntry} {age : Nat} (x : RawD h a rows age) (e : ∀ ob, h.get? a = some ob → h'.get? a = some ob) : RawD h' a rows age := let ⟨ob, g, r⟩ := x; ⟨ob, e _ g, r⟩
theorem RawD.typeIs {z : Shared} {a : Addr} {rows : Array DictEntry} {age : Nat} (x : RawD z.heap a rows age) : z.TypeIs (.ref a) "dict" := let ⟨ob, g, c, _⟩ := x; ⟨ob, g, c.1⟩
section
variable {prog : Program} {w : World} {A : Around} {E : Value → Shared → Prop} {z : Shared} {it a : Addr} {rows : Array DictEntry} {age k : Nat}
theorem raw_iter {R : Value → Shared → Prop} (hs : (a == sysModules) = false) (x : RawD z.heap a rows age) (hR : R (.ref z.heap.objs.size) { z with heap := z.heap.push { cls := .type "dict_keyiterator", data := .fields #[.ref a, .int 0 0, .int rows.size 0, .int age 0] } }) :
    wpAny (model prog w) A (pyIter (.ref a)) R E z := by
  have ty := x.typeIs
  obtain ⟨ob, g, _, dat⟩ := x
  refine wpAny_pyIter_slot ty F.slot_dict_iter (wpAny_call_entry F.slot_dict_iter ty F.entry_dict_iter ?walk (F.args_dict_iter_1 _))
  case walk =>
    unfold Builtin.«dict.__iter__» Builtin.Dict.dictSlotNone
    refine wpAny_bind (wpAny_bind (wpAny_notOrdered_dict ty (show wpAny _ _ (pure (Value.ref a)) _ _ z from wpAny_pure ?_)))
    show wpAny _ _ (Builtin.Dict.showsAll a >>= _) _ _ z
    unfold Builtin.Dict.showsAll
    rw [if_neg (by rw [hs]; decide)]
    refine wpAny_bind (wpAny_pure (wpAny_bind (wpAny_dictEntries g dat (wpAny_bind (wpAny_dictEpoch g dat ?_)))))
    refine wpAny_bind (wpAny_newObj_type (wpAny_pure ⟨_, rfl, "dict_keyiterator", _, ⟨_, Heap.get?_push_size _ rfl, rfl⟩, F.slot_dict_keyiterator_next.lookup, ?_⟩))
    simpa [rawInt] using hR
theorem raw_next {R : Option Value → Shared → Prop} (ki : z.heap.IsKeyIter it a k rows.size age) (x : RawD z.heap a rows age) (hk : k < rows.size)
    (hR : ∀ h', h'.IsKeyIter it a (k + 1) rows.size age → Heap.SameBut it z.heap h' → R (some rows[k].key) { z with heap := h' }) : wpAny (model prog w) A (pyNext (.ref it)) R E z := by
  have ty := ki.typeIs
  obtain ⟨oi, gi, ci, di⟩ := id ki
  obtain ⟨ob, g, _, dat⟩ := x
  unfold pyNext
  refine wpAny_bind (wpAny_attempt (wpAny_callSpecial?_slot (name := Str.ofString "__next__") ty F.slot_dict_keyiterator_next (wpAny_call_entry F.slot_dict_keyiterator_next ty F.entry_dict_keyiterator_next ?walk (F.args_dict_keyiterator_next_1 _))))
  case walk =>
    refine wpAny_bind (wpAny_pure (wpAny_bind (wpAny_bind ?_)))
    first | refine wpAny_bind (wpAny_typeNameOfWhole_keyiter ty (wpAny_pure (wpAny_bind (wpAny_fieldsOf gi di ?_)))) | refine wpAny_bind (wpAny_typeNameOf_keyiter ty (wpAny_pure (wpAny_bind (wpAny_fieldsOf gi di ?_))))
    simp only [show Builtin.Dict_items.ownsTuple "dict_keyiterator" = false by decide, Bool.false_eq_true, if_false]
    show wpAny _ _ (if (Value.ref a == Value.none) = true then _ else _) _ _ z
    rw [if_neg (show ¬ ((Value.ref a == Value.none) = true) from Bool.false_ne_true)]
    refine wpAny_bind (wpAny_pure (wpAny_bind (wpAny_dictEntries g dat ?_)))
    rw [if_neg (by simp)]
    refine wpAny_bind (wpAny_pure (wpAny_bind (wpAny_dictEpoch g dat ?_)))
    rw [if_neg (by simp)]
    refine wpAny_pure ?_
    simp only [show ¬ ((k : Int) < 0) from by omega, if_false, Int.toNat_natCast, Array.getElem?_eq_getElem hk]
    refine wpAny_bind ?_
    first | refine wpAny_bind (wpAny_typeNameOfWhole_keyiter ty (wpAny_pure (wpAny_bind (wpAny_isOneOf_keyiter ty ?_)))) | refine wpAny_bind (wpAny_typeNameOf_keyiter ty (wpAny_pure (wpAny_bind (wpAny_isOneOf_keyiter ty ?_))))
    show wpAny _ _ (setField (.ref it) 1 (rawInt ((k : Int) + 1)) >>= _) _ _ z
    refine wpAny_bind (wpAny_setField gi di (by simp) ?_)
    have ki' : (z.heap.update it (Obj.mapFields (·.setIfInBounds 1 (rawInt ((k : Int) + 1))))).IsKeyIter it a (k + 1) rows.size age :=
      ⟨_, Heap.get?_update_self _ gi (Obj.isFreed_of_fields (Obj.data_mapFields di _)), (Obj.cls_mapFields ..).trans ci, by rw [Obj.data_mapFields di]; simp [rawInt]⟩
    refine wpAny_bind (wpAny_holding (wpAny_bind (wpAny_isOneOf_keyiter (s := { z with heap := z.heap.update it (Obj.mapFields (·.setIfInBounds 1 (rawInt ((k : Int) + 1)))) }) ki'.typeIs ?_)))
    show wpAny _ _ (pure rows[k].key) _ _ _
    exact wpAny_pure (wpAny_pure ⟨_, rfl, wpAny_pure (hR _ ki' (Heap.SameBut.update ..))⟩)
theorem raw_end {R : Option Value → Shared → Prop} (hh : A.handled = none) (ki : z.heap.IsKeyIter it a k rows.size age) (x : RawD z.heap a rows age) (hk : rows.size ≤ k)
    (hR : ∀ h', Heap.ExtBut it z.heap h' → R none { z with heap := h' }) : wpAny (model prog w) A (pyNext (.ref it)) R E z := by
  have ty := ki.typeIs
  obtain ⟨oi, gi, ci, di⟩ := id ki
  obtain ⟨ob, g, _, dat⟩ := x
  unfold pyNext
  refine wpAny_bind (wpAny_attempt (wpAny_callSpecial?_slot (name := Str.ofString "__next__") ty F.slot_dict_keyiterator_next (wpAny_call_entry F.slot_dict_keyiterator_next ty F.entry_dict_keyiterator_next ?walk (F.args_dict_keyiterator_next_1 _))))
  case walk =>
    refine wpAny_bind (wpAny_pure (wpAny_bind (wpAny_bind ?_)))
    first | refine wpAny_bind (wpAny_typeNameOfWhole_keyiter ty (wpAny_pure (wpAny_bind (wpAny_fieldsOf gi di ?_)))) | refine wpAny_bind (wpAny_typeNameOf_keyiter ty (wpAny_pure (wpAny_bind (wpAny_fieldsOf gi di ?_))))
    simp only [show Builtin.Dict_items.ownsTuple "dict_keyiterator" = false by decide, Bool.false_eq_true, if_false]
    show wpAny _ _ (if (Value.ref a == Value.none) = true then _ else _) _ _ z
    rw [if_neg (show ¬ ((Value.ref a == Value.none) = true) from Bool.false_ne_true)]
    refine wpAny_bind (wpAny_pure (wpAny_bind (wpAny_dictEntries g dat ?_)))
    rw [if_neg (by simp)]
    refine wpAny_bind (wpAny_pure (wpAny_bind (wpAny_dictEpoch g dat ?_)))
    rw [if_neg (by simp)]
    refine wpAny_pure ?_
    simp only [show ¬ ((k : Int) < 0) from by omega, if_false, Int.toNat_natCast, Array.getElem?_eq_none hk]
    refine wpAny_bind ?_
    first | refine wpAny_bind (wpAny_typeNameOfWhole_keyiter ty (wpAny_pure ?_)) | refine wpAny_bind (wpAny_typeNameOf_keyiter ty (wpAny_pure ?_))
    show wpAny _ _ (setField (.ref it) 0 .none >>= _) _ _ z
    refine wpAny_bind (wpAny_setField gi di (by simp) (show wpAny _ _ (newExc (.type "StopIteration") [] >>= _) _ _ _ from wpAny_bind ?_))
    simp only [newExc, newTuple]
    refine wpAny_bind (wpAny_newObj_type (wpAny_bind (m := firstArgMember _ _) (wpAny_of_eq (a := Value.none) (by first | rfl | (simp only [firstArgMember]; rfl)) (wpAny_newObj_type ?_ (by size_fits)))) (by size_fits))
    simp only [raiseNew]
    refine wpAny_bind (wpAny_handled ?_)
    rw [show A.in1.handled = none from hh]
    refine wpAny_bind (wpAny_pure (wpAny_throw ?_))
    refine wpAny_bind (wpAny_isInstance (T := "StopIteration") (b := true) ⟨_, Heap.get?_push_size _ rfl, rfl⟩ isSubtype_stop ?_)
    exact wpAny_pure (hR _ (((Heap.SameBut.update ..).extBut.push _).push _))
theorem raw_walks (hh : A.handled = none) (hne : a ≠ it) : Walks prog w A it [it, a] [it] rows.size (fun i v => ∃ h : i < rows.size, v = rows[i].key) (fun i h => h.IsKeyIter it a i rows.size age ∧ RawD h a rows age) where
  sub := fun b hb => by simp at hb; simp [hb]
  frame := fun _ _ _ st hk => ⟨st.1.at fun o e => hk it (by simp) o e, st.2.at fun o e => hk a (by simp) o e⟩
  item := fun i s Q E hi st hQ => raw_next st.1 st.2 hi fun h' ki' hs' =>
    hQ _ h' s.toks ⟨hi, rfl⟩ ⟨ki', st.2.at fun o e => hs'.extBut a o hne e⟩ fun b o hb e => hs'.extBut b o (fun h => hb (by simp [h])) e
  done := fun s Q E st hQ => raw_end hh st.1 st.2 (Nat.le_refl _) fun h' he' => hQ h' s.toks fun b o hb e => he' b o (fun h => hb (by simp [h])) e
  self := fun _ _ _ _ st hQ => wpAny_pyIter_keyiter st.1 hQ
theorem raw_src (hs : (a == sysModules) = false) : PySem.W.KdlSrc prog w "dict" a a rows.size (fun i v => ∃ h : i < rows.size, v = rows[i].key) (fun h => RawD h a rows age) where
  type := fun _ x => x.typeIs
  there := fun _ x => let ⟨_, g, _⟩ := x; ⟨Heap.lt_size g, Heap.lt_size g⟩
  keep := fun _ _ x hk => x.at fun o e => hk a (.inl rfl) o e
  notList := by decide
  notTuple := by decide
  hint := fun _ _ _ _ x hq => PySem.W.kdl_hint_dict x.typeIs hq
  iter := fun _ s hh x => ⟨_, _, (fun _ _ hq => raw_iter hs x hq), raw_walks hh (let ⟨_, g, _⟩ := x; Nat.ne_of_lt (Heap.lt_size g)), ⟨⟨_, Heap.get?_push_size _ rfl, rfl, rfl⟩, x.at fun o e => Heap.get?_push_of_some _ e⟩⟩
end
section
variable {X : Cx}
theorem call_list_dT (hc : X.calm = true) : CallR X (.type "list") (fun xs H Q => ∃ (d : Addr) (kvs : List (List Key × V)), xs = [.ref d] ∧ H d = some (.dT kvs) ∧
    ∀ (p : Addr) (ts : List (Addr × List Key)), H p = none → ts.map (·.2) = kvs.map (·.1) → (∀ t ∈ ts, H t.1 = some (.tup (t.2.map kV))) → Q (.ref p) (upd H p (.lst ((ts.map (·.1)).map V.ref)))) := by
  intro pins s σ H xs us Q I r h
  obtain ⟨d, kvs, rfl, hd, q⟩ := h
  obtain ⟨u, rfl, ru⟩ := Vals.one r
  cases ru
  obtain ⟨hz, hsm, ys, rel, ob, es, age, g, ex, dat, hes, hjunk⟩ := dt_of I.hok hd
  have hsz : es.size = ys.length := size_of_entries hes
  have hlen : kvs.length = ys.length := Paired.length rel
  refine PySem.W.kdl_call (raw_src (rows := es) (age := age) hsm) (show X.A.handled = none from I.ok.hd hc) ⟨ob, g, ex, dat⟩ (by rw [hsz, ← hlen]; exact hz) fun h' tk acc c keep at' its => ?_
  have eqs : acc.toList = ((ys.map fun y => (y.2.1, y.1)).map (·.1)).map Value.ref := by
    refine List.ext_getElem? fun j => ?_
    by_cases hj : j < ys.length
    · have ja : j < acc.size := by rw [its.1, hsz]; exact hj
      obtain ⟨hj', e⟩ := its.2 j acc[j] (by simp [ja])
      have ek := entry_at hes j
      rw [Array.getElem?_eq_getElem hj', List.getElem?_eq_getElem hj, Option.map_some] at ek
      have ev : es[j].key = Value.ref ys[j].2.1 := by rw [Option.some.inj ek]; rfl
      rw [Array.getElem?_toList, Array.getElem?_eq_getElem ja, e, ev, List.getElem?_map, List.getElem?_map, List.getElem?_map, List.getElem?_eq_getElem hj]
      rfl
    · rw [List.getElem?_eq_none (by rw [Array.length_toList, its.1, hsz]; omega), List.getElem?_eq_none (by simp; omega)]
  have props : (ys.map fun y => (y.2.1, y.1)).map (·.2) = kvs.map (·.1) ∧ ∀ t ∈ ys.map (fun y => (y.2.1, y.1)), H t.1 = some (.tup (t.2.map kV)) := by
    clear hes hsz hlen q eqs hd hz hjunk
    induction rel with
    | nil => exact ⟨rfl, fun t ht => nomatch ht⟩
    | @cons p y ps zs hp t ih =>
      refine ⟨by rw [List.map_cons, List.map_cons, List.map_cons, ih.1, hp.1], fun t' ht' => ?_⟩
      rcases List.mem_cons.mp ht' with e | ht'
      · subst e
        show H y.2.1 = some (.tup (y.1.map kV))
        rw [← hp.1]
        exact hp.2.1
      · exact ih.2 t' ht'
  have fr : H s.heap.objs.size = none := I.hok.fresh (Nat.le_refl _)
  refine ⟨.ref s.heap.objs.size, _, I.laid (t' := tk) (a := s.heap.objs.size) (o := .lst (((ys.map fun y => (y.2.1, y.1)).map (·.1)).map V.ref)) keep (Nat.le_refl _) ?_, rfl, q _ _ fr props.1 props.2⟩
  refine ⟨by rw [List.length_map, List.length_map, List.length_map, ← hlen]; exact hz, _, c, vals_refs _, ?_⟩
  rw [← eqs, Array.toArray_toList]
  exact at'
end
end L2

namespace Sea
open PySem L2
abbrev Sd := Addr × Int × Int × Int
abbrev sdRefs (ss : List Sd) : List V := (ss.map (·.1)).map V.ref
def SdOk (H : Hp) (ss : List Sd) : Prop := ∀ t ∈ ss, H t.1 = some (.tup [.int t.2.1, .int t.2.2.1, .int t.2.2.2]) ∧ (t.2.1 ≠ 0 ∨ t.2.2.1 ≠ 0) ∧ t.2.1.natAbs ≤ 10 ^ 9 ∧ t.2.2.1.natAbs ≤ 10 ^ 9 ∧ t.2.2.2.natAbs ≤ 10 ^ 13
theorem SdOk.same {H H' : Hp} {ss : List Sd} (h : SdOk H ss) (s : Same H H') : SdOk H' ss := fun t ht => ⟨s _ _ (h t ht).1, (h t ht).2⟩
theorem sdRefs_length (ss : List Sd) : (sdRefs ss).length = ss.length := by simp [sdRefs]
theorem sdRefs_get {ss : List Sd} {i : Nat} {v : V} (h : (sdRefs ss)[i]? = some v) : ∃ t, ss[i]? = some t ∧ v = .ref t.1 ∧ i < ss.length := by
  rw [List.getElem?_map, List.getElem?_map] at h
  cases e : ss[i]? with
  | none => rw [e] at h; cases h
  | some t => rw [e] at h; exact ⟨t, rfl, (Option.some.inj h).symm, (List.getElem?_eq_some_iff.mp e).1⟩
theorem sdRefs_at {ss : List Sd} {i : Nat} {k : Int} (e : k = i) (h : i < ss.length) : ∃ t, t ∈ ss ∧ ss[i]? = some t ∧ atI (sdRefs ss) k = some (.ref t.1) := by
  refine ⟨ss[i], List.getElem_mem h, List.getElem?_eq_getElem h, ?_⟩
  rw [e]
  exact atI_nat (by rw [List.getElem?_map, List.getElem?_map, List.getElem?_eq_getElem h] <;> rfl)
def wayB (ss : List Sd) (x y : Int) : Bool := ss.all fun t => decide (t.2.1 * x + t.2.2.1 * y ≤ 0)
def WK (ss : List Sd) (n : Nat) (k : List Int) : Prop := ∃ j t, j < n ∧ ss[j]? = some t ∧ ((k = lowL [-t.2.2.1, t.2.1] ∧ wayB ss (-t.2.2.1) t.2.1 = true) ∨ (k = lowL [t.2.2.1, -t.2.1] ∧ wayB ss t.2.2.1 (-t.2.1) = true))
theorem WK_zero (ss : List Sd) (k : List Int) : ¬ WK ss 0 k := fun ⟨_, _, h, _⟩ => absurd h (Nat.not_lt_zero _)
theorem WK_succ {ss : List Sd} {n : Nat} {t : Sd} (h : ss[n]? = some t) (k : List Int) : WK ss (n + 1) k ↔ WK ss n k ∨ (k = lowL [-t.2.2.1, t.2.1] ∧ wayB ss (-t.2.2.1) t.2.1 = true) ∨ (k = lowL [t.2.2.1, -t.2.1] ∧ wayB ss t.2.2.1 (-t.2.1) = true) := by
  constructor
  · rintro ⟨j, u, hj, hu, r⟩
    by_cases e : j = n
    · subst e
      rw [h] at hu
      cases hu
      exact .inr r
    · exact .inl ⟨j, u, by omega, hu, r⟩
  · rintro (⟨j, u, hj, hu, r⟩ | r)
    · exact ⟨j, u, by omega, hu, r⟩
    · exact ⟨n, t, by omega, h, r⟩
theorem wayB_mul {ss : List Sd} {x y g : Int} (hg : 0 < g) : wayB ss (x * g) (y * g) = wayB ss x y := by
  unfold wayB
  congr 1
  funext t
  refine decide_eq_decide.mpr ?_
  have e : t.2.1 * (x * g) + t.2.2.1 * (y * g) = (t.2.1 * x + t.2.2.1 * y) * g := by rw [Int.add_mul, Int.mul_assoc, Int.mul_assoc]
  rw [e]
  constructor
  · intro h
    by_cases c : t.2.1 * x + t.2.2.1 * y ≤ 0
    · exact c
    · have := Int.mul_pos (show 0 < t.2.1 * x + t.2.2.1 * y by omega) hg
      omega
  · intro h
    have := Int.mul_nonneg (show 0 ≤ -(t.2.1 * x + t.2.2.1 * y) by omega) (Int.le_of_lt hg)
    rw [Int.neg_mul] at this
    omega
theorem gcd2 {x y : Int} (n : x ≠ 0 ∨ y ≠ 0) (m0 : x.natAbs ≤ 10 ^ 9) (m1 : y.natAbs ≤ 10 ^ 9) : 0 < gcdL [x, y] ∧ (gcdL [x, y] : Int) < 10 ^ 600 := by
  have gp : 0 < gcdL [x, y] := by
    rcases n with n | n
    · exact gcdL_pos (n := x) (by simp) n
    · exact gcdL_pos (n := y) (by simp) n
  have z : (gcdL [x, y] : Int) ≤ 10 ^ 9 := by
    rcases n with n | n
    · have := gcdL_le (ns := [x, y]) (n := x) (by simp) n
      omega
    · have := gcdL_le (ns := [x, y]) (n := y) (by simp) n
      omega
  exact ⟨gp, Int.lt_of_le_of_lt z (by decide +kernel)⟩
theorem way_low {ss : List Sd} {x y : Int} (gp : 0 < gcdL [x, y]) : wayB ss (x / (gcdL [x, y] : Int)) (y / (gcdL [x, y] : Int)) = wayB ss x y := by
  have gI : (0 : Int) < (gcdL [x, y] : Int) := by omega
  have e1 := lowL_mul (ns := [x, y]) (n := x) (by simp)
  have e2 := lowL_mul (ns := [x, y]) (n := y) (by simp)
  have z := wayB_mul (ss := ss) (x := x / (gcdL [x, y] : Int)) (y := y / (gcdL [x, y] : Int)) gI
  rw [e1, e2] at z
  exact z.symm
def keyI (ns : List Int) : List Key := ns.map Sum.inl
theorem keyI_kV (ns : List Int) : (keyI ns).map kV = ns.map V.int := by
  unfold keyI
  rw [List.map_map]
  rfl
theorem keyI_inj {a b : List Int} (h : keyI a = keyI b) : a = b := by
  have z := congrArg (List.map kV) h
  rw [keyI_kV, keyI_kV] at z
  exact mapInt_inj z
structure TabK (kvs : List (List Key × V)) (ks : List (List Int)) : Prop where
  keys : kvs.map (·.1) = ks.map keyI
  nodup : ks.Nodup
theorem TabK.nil : TabK [] [] := ⟨rfl, List.nodup_nil⟩
theorem TabK.put {kvs : List (List Key × V)} {ks : List (List Int)} (h : TabK kvs ks) (k : List Int) (v : V) : ∃ ks', TabK (putK kvs (keyI k) v) ks' ∧ (∀ x, x ∈ ks' ↔ x ∈ ks ∨ x = k) ∧ ks'.length ≤ ks.length + 1 := by
  have hm : ∀ kv ∈ kvs, ∃ x ∈ ks, kv.1 = keyI x := fun kv hkv => by
    have z : kv.1 ∈ ks.map keyI := by rw [← h.keys]; exact List.mem_map_of_mem hkv
    obtain ⟨x, hx, e⟩ := List.mem_map.mp z
    exact ⟨x, hx, e.symm⟩
  unfold putK
  by_cases c : (kvs.any fun kv => decide (kv.1 = keyI k)) = true
  · rw [if_pos c]
    obtain ⟨kv, hkv, e⟩ := List.any_eq_true.mp c
    obtain ⟨x, hx, ex⟩ := hm kv hkv
    have exk : x = k := keyI_inj (ex.symm.trans (of_decide_eq_true e))
    refine ⟨ks, ⟨?_, h.nodup⟩, fun y => ⟨.inl, fun z => z.elim id fun z => by rw [z, ← exk]; exact hx⟩, Nat.le_succ _⟩
    rw [List.map_map, ← h.keys]
    refine List.map_congr_left fun a _ => ?_
    show (if a.1 = keyI k then (a.1, v) else a).1 = a.1
    split <;> rfl
  · rw [if_neg c]
    have nk : k ∉ ks := fun hk => c (by
      have z : keyI k ∈ kvs.map (·.1) := by rw [h.keys]; exact List.mem_map_of_mem hk
      obtain ⟨kv, hkv, e⟩ := List.mem_map.mp z
      exact List.any_eq_true.mpr ⟨kv, hkv, decide_eq_true e⟩)
    refine ⟨ks ++ [k], ⟨by rw [List.map_append, List.map_append, h.keys]; rfl, ?_⟩, fun y => by rw [List.mem_append, List.mem_singleton], by rw [List.length_append]; exact Nat.le_refl _⟩
    rw [List.nodup_append]
    refine ⟨h.nodup, by simp, fun a ha b hb => ?_⟩
    rw [List.mem_singleton] at hb
    intro e
    exact nk (hb ▸ e ▸ ha)
theorem TabK.len {kvs : List (List Key × V)} {ks : List (List Int)} (h : TabK kvs ks) : kvs.length = ks.length := by
  have z := congrArg List.length h.keys
  rwa [List.length_map, List.length_map] at z
theorem TabK.refs {H : Hp} {kvs : List (List Key × V)} {ks : List (List Int)} {ts : List (Addr × List Key)} (h : TabK kvs ks) (e : ts.map (·.2) = kvs.map (·.1)) (ht : ∀ t ∈ ts, H t.1 = some (.tup (t.2.map kV))) :
    ∃ us : List (Addr × List Int), us.map (·.1) = ts.map (·.1) ∧ us.map (·.2) = ks ∧ ∀ u ∈ us, H u.1 = some (.tup (u.2.map V.int)) := by
  rw [h.keys] at e
  clear h
  induction ts generalizing ks with
  | nil =>
    cases ks with
    | nil => exact ⟨[], rfl, rfl, fun u hu => nomatch hu⟩
    | cons k ks => exact absurd e (by simp)
  | cons t ts ih =>
    cases ks with
    | nil => exact absurd e (by simp)
    | cons k ks =>
      rw [List.map_cons, List.map_cons] at e
      injection e with e1 e2
      obtain ⟨us, h1, h2, h3⟩ := ih e2 fun t' ht' => ht t' (List.mem_cons_of_mem _ ht')
      refine ⟨(t.1, k) :: us, by rw [List.map_cons, List.map_cons, h1], by rw [List.map_cons, h2], fun u hu => ?_⟩
      rcases List.mem_cons.mp hu with rfl | hu
      · have z := ht t (List.mem_cons_self ..)
        rw [e1, keyI_kV] at z
        exact z
      · exact h3 u hu
structure WaysAt (H : Hp) (l : Addr) (ss : List Sd) (us : List (Addr × List Int)) : Prop where
  at' : H l = some (.lst ((us.map (·.1)).map V.ref))
  all : ∀ u ∈ us, H u.1 = some (.tup (u.2.map V.int))
  rises : (us.map (·.2)).Pairwise (fun a b => HT.lexLt b a = false)
  nodup : (us.map (·.2)).Nodup
  mem : ∀ k, k ∈ us.map (·.2) ↔ WK ss ss.length k
  few : us.length ≤ 80
structure SdSt (H0 : Hp) (D : Addr) (ss : List Sd) (H : Hp) : Prop where
  same : Same H0 H
  new : H0 D = none
  at' : H D = some (.lst (sdRefs ss))
  all : SdOk H ss
theorem SdSt.app {H0 H H2 : Hp} {D p : Addr} {ss : List Sd} {a b c : Int} (P : SdSt H0 D ss H) (s : Same H H2) (hp : H p = none) (ep : H2 p = some (.tup [.int a, .int b, .int c])) (n : a ≠ 0 ∨ b ≠ 0) (ma : a.natAbs ≤ 10 ^ 9) (mb : b.natAbs ≤ 10 ^ 9) (mc : c.natAbs ≤ 10 ^ 13) :
    SdSt H0 D (ss ++ [(p, a, b, c)]) (upd H2 D (.lst (sdRefs ss ++ [.ref p]))) := by
  have npD : p ≠ D := fun e => by rw [e, P.at'] at hp; cases hp
  refine ⟨(P.same.trans s).putNew P.new, P.new, by rw [upd_same]; simp [sdRefs], fun t ht => ?_⟩
  rcases List.mem_append.mp ht with h | h
  · obtain ⟨h1, h2⟩ := P.all t h
    refine ⟨?_, h2⟩
    rw [upd_ne (ne_of h1 P.at' (by intro z; cases z))]
    exact s _ _ h1
  · rw [List.mem_singleton] at h
    subst h
    refine ⟨?_, n, ma, mb, mc⟩
    show upd H2 D _ p = _
    rw [upd_ne npD]
    exact ep
theorem cutS {ok : Addr → List Sd → Hp → Prop} {G : Prop} {R : Addr → List Sd → Hp → Prop} (h1 : (∀ D ss H, ok D ss H → R D ss H) → G) (h2 : ∀ D ss H, ok D ss H → R D ss H) : G := h1 h2
end Sea

namespace Sea
open PySem L2
theorem cm_l {i j : Int} (h : i.natAbs ≤ 10 ^ 18) : CMul i j := .inl ⟨by omega, by omega⟩
theorem cm_r {i j : Int} (h : j.natAbs ≤ 10 ^ 18) : CMul i j := .inr ⟨by omega, by omega⟩
abbrev P3 := Int × Int × Int
def sv (t p : P3) : Int := t.1 * p.1 + t.2.1 * p.2.1 - t.2.2 * p.2.2
def tn (e s : P3) : Int := e.1 * s.2.1 - e.2.1 * s.1
def dl (e p q : P3) : Int := e.1 * (p.2.1 * q.2.2 - q.2.1 * p.2.2) - e.2.1 * (p.1 * q.2.2 - q.1 * p.2.2)
theorem key_id (a b u v X Y : Int) : (a * a + b * b) * (u * X + v * Y) = (a * Y - b * X) * (a * v - b * u) + (a * X + b * Y) * (a * u + b * v) := by
  simp only [Int.mul_sub, Int.sub_mul, Int.mul_add, Int.add_mul, Int.mul_comm, Int.mul_left_comm]
  omega
theorem sv_diff (s p q : P3) : sv s p * q.2.2 - sv s q * p.2.2 = s.1 * (p.1 * q.2.2 - q.1 * p.2.2) + s.2.1 * (p.2.1 * q.2.2 - q.2.1 * p.2.2) := by
  unfold sv
  simp only [Int.mul_sub, Int.sub_mul, Int.add_mul, Int.mul_add, Int.mul_comm, Int.mul_left_comm]
  omega
theorem key_sv {e p q : P3} (hp : sv e p = 0) (hq : sv e q = 0) (s : P3) : (e.1 * e.1 + e.2.1 * e.2.1) * (sv s p * q.2.2 - sv s q * p.2.2) = dl e p q * tn e s := by
  have z := sv_diff e p q
  rw [hp, hq, Int.zero_mul, Int.zero_mul, Int.sub_self] at z
  rw [sv_diff s p q, key_id, ← z, Int.zero_mul, Int.add_zero]
  rfl
theorem sq_hand {x y h : Int} (hh : h * h = 1) : (x * h) * (y * h) = x * y := by
  have e : (x * h) * (y * h) = x * y * (h * h) := by simp only [Int.mul_comm, Int.mul_left_comm]
  rw [e, hh, Int.mul_one]
theorem sv_on {e p q : P3} {h : Int} (hh : h * h = 1) (hN : 0 < e.1 * e.1 + e.2.1 * e.2.1) (hp : sv e p = 0) (hq : sv e q = 0) (pw : 0 < p.2.2) (qw : 0 < q.2.2) (s : P3) (hs : (dl e p q * h) * (tn e s * h) ≤ 0) (hv : sv s q ≤ 0) : sv s p ≤ 0 := by
  have k := key_sv hp hq s
  rw [← sq_hand (x := dl e p q) (y := tn e s) hh] at k
  rw [← k] at hs
  have h1 : sv s p * q.2.2 - sv s q * p.2.2 ≤ 0 := by
    by_cases c : sv s p * q.2.2 - sv s q * p.2.2 ≤ 0
    · exact c
    · have := Int.mul_pos hN (show 0 < sv s p * q.2.2 - sv s q * p.2.2 by omega)
      omega
  have h2 : sv s q * p.2.2 ≤ 0 := by
    have := Int.mul_nonneg (show 0 ≤ -sv s q by omega) (Int.le_of_lt pw)
    rw [Int.neg_mul] at this
    omega
  by_cases c : sv s p ≤ 0
  · exact c
  · have := Int.mul_pos (show 0 < sv s p by omega) qw
    omega
theorem dl_ge {e p q s : P3} {h : Int} (hh : h * h = 1) (hN : 0 < e.1 * e.1 + e.2.1 * e.2.1) (hp : sv e p = 0) (hq : sv e q = 0) (pw : 0 < p.2.2) (h0 : sv s p = 0) (hv : sv s q ≤ 0) (ht : 0 < tn e s * h) : 0 ≤ dl e p q * h := by
  have k := key_sv hp hq s
  rw [h0, Int.zero_mul, ← sq_hand (x := dl e p q) (y := tn e s) hh] at k
  have h2 : 0 ≤ -sv s q * p.2.2 := Int.mul_nonneg (by omega) (Int.le_of_lt pw)
  rw [Int.neg_mul] at h2
  have h3 := Int.mul_nonneg (Int.le_of_lt hN) (show 0 ≤ 0 - sv s q * p.2.2 by omega)
  rw [k] at h3
  by_cases c : 0 ≤ dl e p q * h
  · exact c
  · have := Int.mul_pos (show 0 < -(dl e p q * h) by omega) ht
    rw [Int.neg_mul] at this
    omega
theorem dl_le {e p q s : P3} {h : Int} (hh : h * h = 1) (hN : 0 < e.1 * e.1 + e.2.1 * e.2.1) (hp : sv e p = 0) (hq : sv e q = 0) (pw : 0 < p.2.2) (h0 : sv s p = 0) (hv : 0 < sv s q) (ht : 0 < tn e s * h) : dl e p q * h ≤ 0 := by
  have k := key_sv hp hq s
  rw [h0, Int.zero_mul, ← sq_hand (x := dl e p q) (y := tn e s) hh] at k
  have h2 := Int.mul_pos hv pw
  have h3 := Int.mul_nonneg (Int.le_of_lt hN) (show 0 ≤ sv s q * p.2.2 by omega)
  have h4 : (e.1 * e.1 + e.2.1 * e.2.1) * (0 - sv s q * p.2.2) = -((e.1 * e.1 + e.2.1 * e.2.1) * (sv s q * p.2.2)) := by rw [Int.zero_sub, Int.mul_neg]
  rw [h4] at k
  by_cases c : dl e p q * h ≤ 0
  · exact c
  · have := Int.mul_pos (show 0 < dl e p q * h by omega) ht
    omega
def pt3 (l : List Int) : P3 := match l with
  | [x, y, w] => (x, y, w)
  | _ => (0, 0, 1)
def crL (e s : P3) : List Int := lowL (upL (e.2.2 * s.2.1 - e.2.1 * s.2.2) (e.1 * s.2.2 - e.2.2 * s.1) (e.1 * s.2.1 - e.2.1 * s.1))
def ftL (t : P3) : List Int := lowL (upL (t.1 * t.2.2) (t.2.1 * t.2.2) (t.1 * t.1 + t.2.1 * t.2.1))
structure IsSpot (l : List Int) (p : P3) : Prop where
  list : l = [p.1, p.2.1, p.2.2]
  pos : 0 < p.2.2
  low : Nat.gcd (Nat.gcd p.1.natAbs p.2.1.natAbs) p.2.2.natAbs = 1
theorem cr_ok {e s : P3} (h : tn e s ≠ 0) : IsSpot (crL e s) (pt3 (crL e s)) ∧ sv e (pt3 (crL e s)) = 0 ∧ sv s (pt3 (crL e s)) = 0 := by
  obtain ⟨x, y, w, el, sp⟩ := spot_low (X := e.2.2 * s.2.1 - e.2.1 * s.2.2) (Y := e.1 * s.2.2 - e.2.2 * s.1) (W := e.1 * s.2.1 - e.2.1 * s.1) h
  have e1 : crL e s = [x, y, w] := el
  rw [e1]
  refine ⟨⟨rfl, by have := sp.pos; show 0 < w; omega, sp.low⟩, ?_, ?_⟩
  · have z := cross_on (A := e.1) (B := e.2.1) (C := e.2.2) h sp (cross_one e.1 e.2.1 e.2.2 s.1 s.2.1 s.2.2)
    show e.1 * x + e.2.1 * y - e.2.2 * w = 0
    omega
  · have z := cross_on (A := s.1) (B := s.2.1) (C := s.2.2) h sp (cross_two e.1 e.2.1 e.2.2 s.1 s.2.1 s.2.2)
    show s.1 * x + s.2.1 * y - s.2.2 * w = 0
    omega
theorem nn_pos {t : P3} (h : t.1 ≠ 0 ∨ t.2.1 ≠ 0) : 0 < t.1 * t.1 + t.2.1 * t.2.1 := sq_pos h
theorem ft_ok {t : P3} (h : t.1 ≠ 0 ∨ t.2.1 ≠ 0) : IsSpot (ftL t) (pt3 (ftL t)) ∧ sv t (pt3 (ftL t)) = 0 := by
  have hw := nn_pos h
  obtain ⟨x, y, w, el, sp⟩ := spot_low (X := t.1 * t.2.2) (Y := t.2.1 * t.2.2) (W := t.1 * t.1 + t.2.1 * t.2.1) (by omega)
  have e1 : ftL t = [x, y, w] := el
  rw [e1]
  refine ⟨⟨rfl, by have := sp.pos; show 0 < w; omega, sp.low⟩, ?_⟩
  have z := cross_on (A := t.1) (B := t.2.1) (C := t.2.2) (show t.1 * t.1 + t.2.1 * t.2.1 ≠ 0 by omega) sp (by simp only [Int.mul_add, Int.mul_comm, Int.mul_left_comm])
  show t.1 * x + t.2.1 * y - t.2.2 * w = 0
  omega
def inW (ss : List Sd) (p : P3) : Prop := ∀ t ∈ ss, sv t.2 p ≤ 0
def EndOk (ss : List Sd) (e : P3) (h : Int) : Option Nat → Prop
  | none => ∀ t ∈ ss, tn e t.2 * h ≤ 0
  | some j => ∃ t, ss[j]? = some t ∧ 0 < tn e t.2 * h ∧ ∀ u ∈ ss, 0 < tn e u.2 * h → sv u.2 (pt3 (crL e t.2)) ≤ 0
theorem ne_hand {x h : Int} (h0 : 0 < x * h) : x ≠ 0 := fun z => by rw [z, Int.zero_mul] at h0; exact absurd h0 (by decide)
theorem end_in {ss : List Sd} {e z : P3} {h : Int} {j : Nat} {t : Sd} (hh : h * h = 1) (hN : 0 < e.1 * e.1 + e.2.1 * e.2.1) (hz : sv e z = 0) (zw : 0 < z.2.2) (wz : inW ss z) (gt : ss[j]? = some t) (h0 : 0 < tn e t.2 * h) (ha : ∀ u ∈ ss, 0 < tn e u.2 * h → sv u.2 (pt3 (crL e t.2)) ≤ 0) : inW ss (pt3 (crL e t.2)) := fun u hu => by
  obtain ⟨sp, c1, c2⟩ := cr_ok (ne_hand h0)
  by_cases hp : 0 < tn e u.2 * h
  · exact ha u hu hp
  · have d0 := dl_ge hh hN c1 hz sp.pos c2 (wz t (List.mem_of_getElem? gt)) h0
    refine sv_on hh hN c1 hz sp.pos zw u.2 ?_ (wz u hu)
    have := Int.mul_nonneg d0 (show 0 ≤ -(tn e u.2 * h) by omega)
    rw [Int.mul_neg] at this
    omega
theorem beside_in {ss : List Sd} {e z p : P3} (hN : 0 < e.1 * e.1 + e.2.1 * e.2.1) (hz : sv e z = 0) (zw : 0 < z.2.2) (wz : inW ss z) (hp : sv e p = 0) (pw : 0 < p.2.2) (n1 : EndOk ss e 1 none) (n2 : EndOk ss e (-1) none) : inW ss p := fun u hu => by
  have e1 := n1 u hu
  have e2 := n2 u hu
  rw [Int.mul_one] at e1
  have e0 : tn e u.2 = 0 := by
    rw [Int.mul_neg, Int.mul_one] at e2
    omega
  refine sv_on (h := 1) (by decide) hN hp hz pw zw u.2 ?_ (wz u hu)
  rw [e0, Int.zero_mul, Int.mul_zero]
  exact Int.le_refl _
theorem sv_comb (t p z : P3) (b a : Int) : sv t (b * p.1 + a * z.1, b * p.2.1 + a * z.2.1, b * p.2.2 + a * z.2.2) = b * sv t p + a * sv t z := by
  unfold sv
  simp only [Int.mul_sub, Int.mul_add, Int.mul_comm, Int.mul_left_comm]
  omega
theorem between {ss : List Sd} {e p z : P3} (wp : inW ss p) (wz : inW ss z) (pw : 0 < p.2.2) (zw : 0 < z.2.2) (hp : 0 < sv e p) (hz : sv e z ≤ 0) : ∃ m : P3, sv e m = 0 ∧ 0 < m.2.2 ∧ inW ss m := by
  refine ⟨(-sv e z * p.1 + sv e p * z.1, -sv e z * p.2.1 + sv e p * z.2.1, -sv e z * p.2.2 + sv e p * z.2.2), ?_, ?_, fun t ht => ?_⟩
  · rw [sv_comb, Int.neg_mul, Int.mul_comm (sv e p)]
    omega
  · have h1 := Int.mul_nonneg (show 0 ≤ -sv e z by omega) (Int.le_of_lt pw)
    have h2 := Int.mul_pos hp zw
    show 0 < -sv e z * p.2.2 + sv e p * z.2.2
    omega
  · rw [sv_comb]
    have h1 := Int.mul_nonneg (show 0 ≤ -sv e z by omega) (show 0 ≤ -sv t.2 p by have := wp t ht; omega)
    have h2 := Int.mul_nonneg (Int.le_of_lt hp) (show 0 ≤ -sv t.2 z by have := wz t ht; omega)
    rw [Int.mul_neg] at h1 h2
    omega
end Sea

namespace L2
open PySem PySem.Spec PyProof.Rows
section
variable {X : Cx} {pos : Pos}
def tPar3 (i j k : Nat) (ta : TA) : TS := fun D σ H => ta σ H fun vs H1 => ∃ u v w, vs = [u, v, w] ∧ D.nx (((σ.set i (some u)).set j (some v)).set k (some w)) H1
theorem ps_par3 {i j k : Nat} {x y z : Str} {a b c : Expr} {ta : TA} {px py pz pt : Pos} {kt k2 pt2} (hc : X.calm = true) (hN : X.N.Nodup) (hi : X.N[i]? = some x) (hj : X.N[j]? = some y) (hk : X.N[k]? = some z) (hij : i ≠ j) (hik : i ≠ k) (hjk : j ≠ k)
    (hx : X.env.scope.names.lookup x = some .local) (hy : X.env.scope.names.lookup y = some .local) (hz : X.env.scope.names.lookup z = some .local) (ha : PA X [a, b, c] ta)
    (hw : swappedStores [.Tuple [.Name x px, .Name y py, .Name z pz] kt pt] (.Tuple [a, b, c] k2 pt2) X.env = pure (some [x, y, z]))
    (hs : swapsWithSole [.Tuple [.Name x px, .Name y py, .Name z pz] kt pt] (.Tuple [a, b, c] k2 pt2) pos.line X.env = pure false := by rfl) :
    PS X (.Assign [.Tuple [.Name x px, .Name y py, .Name z pz] kt pt] (.Tuple [a, b, c] k2 pt2) pos) (tPar3 i j k ta) := by
  intro pins s σ H D I h
  rw [exec_Assign_arm]
  refine wpAny_bind (wpAny_standAt ?_)
  rw [hs]
  refine wpAny_bind (wpAny_pure ?_)
  rw [if_neg (by decide)]
  refine wpAny_bind (Tuple_ (thn (ha _ pins s σ H _ I h) fun us s1 ⟨vs, H1, I1, r1, q1⟩ => ?_))
  obtain ⟨u, v, t, e1, q1⟩ := q1
  subst e1
  obtain ⟨u1, u2, u3, rfl, ru, rv, rt⟩ : ∃ u1 u2 u3, us = [u1, u2, u3] ∧ RelV u u1 ∧ RelV v u2 ∧ RelV t u3 := by
    cases r1 with
    | cons p q =>
      cases q with
      | cons p' q' =>
        cases q' with
        | cons p'' q'' =>
          cases q''
          exact ⟨_, _, _, rfl, p, p', p''⟩
  refine wpAny_newObj_type ?_ (by show 3 ≤ sizeLine; decide)
  have I2 : Inv X pins σ H1 { s1 with heap := s1.heap.push { cls := .type "tuple", data := .seq [u1, u2, u3].toArray } } := I1.kept (t' := s1.toks) fun b o e => Heap.get?_push_of_some _ e
  rw [hw]
  refine wpAny_bind (wpAny_pure ?_)
  show wpAny (model X.prog X.w) X.A (do rule "assign.swapped-stores"; let items ← unpackItems (.ref s1.heap.objs.size) 3 none; assignInOrder [fun v => bindName X.env z v, fun v => bindName X.env y v, fun v => bindName X.env x v] items.reverse; pure Flow.next) _ _ _
  refine wpAny_bind (wpAny_rule (wpAny_bind (unpackItems_tuple (items := #[u1, u2, u3]) (I.ok.hd hc) (IsTup.new s1.heap _) fun h' hx' => ?_)))
  have I3 := I2.kept (h' := h') (t' := s1.toks) fun b o e => hx' b o (Nat.ne_of_lt (Heap.lt_size e)) e
  show wpAny _ _ (assignInOrder [fun v => bindName X.env z v, fun v => bindName X.env y v, fun v => bindName X.env x v] [u3, u2, u1] >>= fun _ => pure Flow.next) _ _ _
  refine wpAny_bind (assignInOrder_cons (wpAny_bindName (store_ok I3 hN hk (.inl hz) rt (fun s2 I4 => ?_) (.inr hz))))
  refine assignInOrder_cons (wpAny_bindName (store_ok I4 hN hj (.inl hy) rv (fun s3 I5 => ?_) (.inr hy)))
  refine assignInOrder_cons (wpAny_bindName (store_ok I5 hN hi (.inl hx) ru (fun s4 I6 => assignInOrder_nil (wpAny_pure ?_)) (.inr hx)))
  rw [List.set_comm (some t) (some v) (Ne.symm hjk), List.set_comm (some t) (some u) (Ne.symm hik), List.set_comm (some v) (some u) (Ne.symm hij)] at I6
  exact ⟨_, H1, I6, q1⟩
end
end L2
namespace Sea
open PySem L2
theorem sd_from (ss : List Sd) (n : Nat) : cutV (sdRefs ss) (some (n : Int)) none = sdRefs (ss.drop n) := by
  unfold cutV
  rw [HT.sIx_nat (sdRefs ss).length 0 n, show HT.sIx (sdRefs ss).length (sdRefs ss).length none = (sdRefs ss).length from rfl, List.take_of_length_le (by rw [List.length_drop] <;> omega)]
  rw [sdRefs_length]
  simp only [sdRefs, ← List.map_drop]
  congr 2
  by_cases h : n ≤ ss.length
  · rw [Nat.min_eq_left h]
  · rw [Nat.min_eq_right (by omega), List.drop_length, List.drop_eq_nil_of_le (by omega)]
theorem sdRefs_map (ss : List Sd) : sdRefs ss = ss.map fun t => V.ref t.1 := by simp [sdRefs]
theorem cr_swap {e s : P3} (h : tn e s ≠ 0) : crL e s = crL s e := by
  unfold crL
  have e1 : s.2.2 * e.2.1 - s.2.1 * e.2.2 = -(e.2.2 * s.2.1 - e.2.1 * s.2.2) := by rw [Int.mul_comm s.2.2, Int.mul_comm s.2.1]; omega
  have e2 : s.1 * e.2.2 - s.2.2 * e.1 = -(e.1 * s.2.2 - e.2.2 * s.1) := by rw [Int.mul_comm s.1, Int.mul_comm s.2.2]; omega
  have e3 : s.1 * e.2.1 - s.2.1 * e.1 = -(e.1 * s.2.1 - e.2.1 * s.1) := by rw [Int.mul_comm s.1, Int.mul_comm s.2.1]; omega
  rw [e1, e2, e3, upL_neg (show e.1 * s.2.1 - e.2.1 * s.1 ≠ 0 from h)]
end Sea

namespace Sea
open PySem L2
theorem dl_anti (e p q : P3) : dl e p q = -dl e q p := by
  unfold dl
  simp only [Int.mul_sub]
  omega
def Cor (ss : List Sd) (P : P3) : Prop := ∃ t ∈ ss, ∃ u ∈ ss, tn t.2 u.2 ≠ 0 ∧ P = pt3 (crL t.2 u.2) ∧ inW ss P
def FullE (ss : List Sd) (e : P3) (h : Int) (qs : List P3) : Prop := EndOk ss e h none ∨ ∃ (j : Nat) (t : Sd), ss[j]? = some t ∧ 0 < tn e t.2 * h ∧ (∀ u ∈ ss, 0 < tn e u.2 * h → sv u.2 (pt3 (crL e t.2)) ≤ 0) ∧ pt3 (crL e t.2) ∈ qs
theorem FullE.app {ss : List Sd} {e : P3} {h : Int} {qs rs : List P3} (f : FullE ss e h qs) : FullE ss e h (qs ++ rs) := by
  rcases f with f | ⟨j, t, g, p, a, m⟩
  · exact .inl f
  · exact .inr ⟨j, t, g, p, a, List.mem_append_left _ m⟩
theorem hand_of {x : Int} (h : x ≠ 0) : ∃ k : Int, (k = 1 ∨ k = -1) ∧ k * k = 1 ∧ 0 < x * k := by
  by_cases c : 0 < x
  · exact ⟨1, .inl rfl, by decide, by omega⟩
  · exact ⟨-1, .inr rfl, by decide, by omega⟩
theorem cr_small {e s : P3} (h : tn e s ≠ 0) (b1 : e.1.natAbs ≤ 10 ^ 9) (b2 : e.2.1.natAbs ≤ 10 ^ 9) (b3 : e.2.2.natAbs ≤ 10 ^ 13) (c1 : s.1.natAbs ≤ 10 ^ 9) (c2 : s.2.1.natAbs ≤ 10 ^ 9) (c3 : s.2.2.natAbs ≤ 10 ^ 13) :
    (pt3 (crL e s)).1.natAbs ≤ 10 ^ 40 ∧ (pt3 (crL e s)).2.1.natAbs ≤ 10 ^ 40 ∧ (pt3 (crL e s)).2.2.natAbs ≤ 10 ^ 40 := by
  obtain ⟨x, y, w, el, sp⟩ := spot_low (X := e.2.2 * s.2.1 - e.2.1 * s.2.2) (Y := e.1 * s.2.2 - e.2.2 * s.1) (W := e.1 * s.2.1 - e.2.1 * s.1) h
  have e1 : crL e s = [x, y, w] := el
  rw [e1]
  have z1 := natAbs_mul_le e.2.2 s.2.1 b3 c2
  have z2 := natAbs_mul_le e.2.1 s.2.2 b2 c3
  have z3 := natAbs_mul_le e.1 s.2.2 b1 c3
  have z4 := natAbs_mul_le e.2.2 s.1 b3 c1
  have z5 := natAbs_mul_le e.1 s.2.1 b1 c2
  have z6 := natAbs_mul_le e.2.1 s.1 b2 c1
  have x1 := sp.xle
  have x2 := sp.yle
  have x3 := sp.wle
  refine ⟨?_, ?_, ?_⟩
  · show x.natAbs ≤ 10 ^ 40
    omega
  · show y.natAbs ≤ 10 ^ 40
    omega
  · show w.natAbs ≤ 10 ^ 40
    omega
end Sea

namespace Sea
open PySem L2
def absI (x : Int) : Int := if x < 0 then -x else x
def span2 (a b : Int) : Int := absI a + absI b
theorem span2_pos {a b : Int} (h : a ≠ 0 ∨ b ≠ 0) : 0 < span2 a b := by
  unfold span2 absI
  split <;> split <;> omega
theorem par {e1 e2 s1 s2 : Int} (h : e1 * s2 = e2 * s1) (hs : e2 * s2 ≤ 0) : absI e2 * s1 + absI s2 * e1 = 0 := by
  unfold absI
  rw [Int.mul_comm e1 s2] at h
  by_cases c : e2 < 0
  · rw [if_pos c]
    by_cases d : s2 < 0
    · have := Int.mul_pos_of_neg_of_neg c d
      omega
    · rw [if_neg d, Int.neg_mul]
      omega
  · rw [if_neg c]
    by_cases d : s2 < 0
    · rw [if_pos d, Int.neg_mul]
      omega
    · rw [if_neg d]
      have z : e2 * s2 = 0 := by
        have := Int.mul_nonneg (show 0 ≤ e2 by omega) (show 0 ≤ s2 by omega)
        omega
      rcases Int.mul_eq_zero.mp z with z | z
      · rw [z, Int.zero_mul] at h
        rw [z, Int.zero_mul, h]
        rfl
      · rw [z, Int.zero_mul] at h
        rw [z, Int.zero_mul, ← h]
        rfl
theorem neg_neg_of {x y : Int} (h : x + y < 0) (hp : 0 ≤ x * y) : x ≤ 0 ∧ y ≤ 0 := by
  by_cases cx : x ≤ 0
  · by_cases cy : y ≤ 0
    · exact ⟨cx, cy⟩
    · by_cases c0 : x = 0
      · omega
      · have := Int.mul_neg_of_neg_of_pos (show x < 0 by omega) (show 0 < y by omega)
        omega
  · by_cases cy : y < 0
    · have := Int.mul_neg_of_pos_of_neg (show 0 < x by omega) cy
      omega
    · omega
theorem sq_nn (x : Int) : 0 ≤ x * x := by
  by_cases h : 0 ≤ x
  · exact Int.mul_nonneg h h
  · exact Int.le_of_lt (Int.mul_pos_of_neg_of_neg (by omega) (by omega))
theorem contrary {e s f P : P3} (ht : tn e s = 0) (hN : 0 < e.1 * e.1 + e.2.1 * e.2.1) (he : e.1 ≠ 0 ∨ e.2.1 ≠ 0) (fw : 0 < f.2.2) (pw : 0 < P.2.2) (h1 : sv e f = 0) (h2 : 0 < sv s f) (h3 : sv s P ≤ 0) (h4 : 0 < sv e P) :
    span2 e.1 e.2.1 * s.1 + span2 s.1 s.2.1 * e.1 = 0 ∧ span2 e.1 e.2.1 * s.2.1 + span2 s.1 s.2.1 * e.2.1 = 0 ∧ span2 e.1 e.2.1 * s.2.2 + span2 s.1 s.2.1 * e.2.2 < 0 := by
  have d1 := sv_diff e P f
  have d2 := sv_diff s P f
  rw [h1, Int.zero_mul] at d1
  have p1 := Int.mul_pos h4 fw
  have p2 := Int.mul_pos h2 pw
  have p3 : sv s P * f.2.2 ≤ 0 := by
    have := Int.mul_nonneg (show 0 ≤ -sv s P by omega) (Int.le_of_lt fw)
    rw [Int.neg_mul] at this
    omega
  have k := key_id e.1 e.2.1 s.1 s.2.1 (P.1 * f.2.2 - f.1 * P.2.2) (P.2.1 * f.2.2 - f.2.1 * P.2.2)
  rw [← d1, ← d2, show e.1 * s.2.1 - e.2.1 * s.1 = 0 from ht, Int.mul_zero, Int.zero_add] at k
  have n1 : (e.1 * e.1 + e.2.1 * e.2.1) * (sv s P * f.2.2 - sv s f * P.2.2) < 0 := Int.mul_neg_of_pos_of_neg hN (by omega)
  rw [k] at n1
  have dot : e.1 * s.1 + e.2.1 * s.2.1 < 0 := by
    by_cases c : e.1 * s.1 + e.2.1 * s.2.1 < 0
    · exact c
    · have := Int.mul_nonneg (show 0 ≤ sv e P * f.2.2 - 0 by omega) (show 0 ≤ e.1 * s.1 + e.2.1 * s.2.1 by omega)
      omega
  have cr : e.1 * s.2.1 = e.2.1 * s.1 := by unfold tn at ht; omega
  have pr : 0 ≤ (e.1 * s.1) * (e.2.1 * s.2.1) := by
    have e0 : (e.1 * s.1) * (e.2.1 * s.2.1) = (e.1 * s.2.1) * (e.2.1 * s.1) := by simp only [Int.mul_comm, Int.mul_left_comm]
    rw [e0, ← cr]
    exact sq_nn _
  obtain ⟨o1, o2⟩ := neg_neg_of dot pr
  have a1 := par (e1 := e.1) (e2 := e.1) (s1 := s.1) (s2 := s.1) rfl o1
  have a2 := par (e1 := e.1) (e2 := e.2.1) (s1 := s.1) (s2 := s.2.1) cr o2
  have a3 := par (e1 := e.2.1) (e2 := e.1) (s1 := s.2.1) (s2 := s.1) cr.symm o1
  have a4 := par (e1 := e.2.1) (e2 := e.2.1) (s1 := s.2.1) (s2 := s.2.1) rfl o2
  have z1 : span2 e.1 e.2.1 * s.1 + span2 s.1 s.2.1 * e.1 = 0 := by
    unfold span2
    rw [Int.add_mul, Int.add_mul]
    omega
  have z2 : span2 e.1 e.2.1 * s.2.1 + span2 s.1 s.2.1 * e.2.1 = 0 := by
    unfold span2
    rw [Int.add_mul, Int.add_mul]
    omega
  refine ⟨z1, z2, ?_⟩
  have up := span2_pos he
  generalize span2 e.1 e.2.1 = u at z1 z2 up ⊢
  generalize span2 s.1 s.2.1 = v at z1 z2 ⊢
  have q : (u * s.2.2 + v * e.2.2) * f.2.2 = (u * s.1 + v * e.1) * f.1 + (u * s.2.1 + v * e.2.1) * f.2.1 - u * sv s f - v * sv e f := by
    unfold sv
    simp only [Int.mul_sub, Int.mul_add, Int.add_mul, Int.mul_comm, Int.mul_left_comm]
    omega
  rw [z1, z2, h1, Int.zero_mul, Int.zero_mul, Int.mul_zero] at q
  have q2 := Int.mul_pos up h2
  by_cases c : u * s.2.2 + v * e.2.2 < 0
  · exact c
  · have := Int.mul_nonneg (show 0 ≤ u * s.2.2 + v * e.2.2 by omega) (Int.le_of_lt fw)
    omega
structure Stuck (ss : List Sd) (j : Nat) (e : Sd) (P : P3) : Prop where
  at' : ss[j]? = some e
  pos : 0 < P.2.2
  ahead : inW (ss.take j) P
  out : 0 < sv e.2 P
  no : ∀ z : P3, sv e.2 z = 0 → 0 < z.2.2 → ¬ inW (ss.take j) z
theorem Stuck.none {ss : List Sd} {j : Nat} {e : Sd} {P : P3} (S : Stuck ss j e P) (z : P3) (zw : 0 < z.2.2) : ¬ inW ss z := fun wz => by
  obtain ⟨m, m1, m2, m3⟩ := between S.ahead (fun u hu => wz u (List.mem_of_mem_take hu)) S.pos zw S.out (wz e (List.mem_of_getElem? S.at'))
  exact S.no m m1 m2 m3
theorem beside_on {e p f s : P3} (hN : 0 < e.1 * e.1 + e.2.1 * e.2.1) (hp : sv e p = 0) (hf : sv e f = 0) (pw : 0 < p.2.2) (fw : 0 < f.2.2) (ht : tn e s = 0) (hs : sv s f ≤ 0) : sv s p ≤ 0 := by
  refine sv_on (h := 1) (by decide) hN hp hf pw fw s ?_ hs
  rw [ht, Int.zero_mul, Int.mul_zero]
  exact Int.le_refl _
theorem neg_hand {x h : Int} : x * -h = -(x * h) := Int.mul_neg _ _
theorem end_some {ss : List Sd} {e f : P3} {h : Int} (hh : h * h = 1) (hN : 0 < e.1 * e.1 + e.2.1 * e.2.1) (hf : sv e f = 0) (fw : 0 < f.2.2) (no : ∀ z : P3, sv e z = 0 → 0 < z.2.2 → ¬ inW ss z) (bes : ∀ t ∈ ss, tn e t.2 = 0 → sv t.2 f ≤ 0) {r : Option Nat} (n : EndOk ss e h none) (o : EndOk ss e (-h) r) : False := by
  cases r with
  | none =>
    refine no f hf fw fun t ht => bes t ht ?_
    have a := n t ht
    have b := o t ht
    rw [neg_hand] at b
    have z : tn e t.2 * h = 0 := by omega
    rcases Int.mul_eq_zero.mp z with z | z
    · exact z
    · rw [z] at hh
      exact absurd hh (by decide)
  | some j =>
    obtain ⟨t, gt, hp, ha⟩ := o
    obtain ⟨sp, c1, c2⟩ := cr_ok (ne_hand hp)
    refine no _ c1 sp.pos fun u hu => ?_
    by_cases c : 0 < tn e u.2 * -h
    · exact ha u hu c
    · have a := n u hu
      rw [neg_hand] at c
      have z : tn e u.2 * h = 0 := by omega
      rcases Int.mul_eq_zero.mp z with z | z
      · exact beside_on hN c1 hf sp.pos fw z (bes u hu z)
      · rw [z] at hh
        exact absurd hh (by decide)
theorem three {ss : List Sd} {e f P : P3} {a b : Sd} {h : Int} (hh : h * h = 1) (hN : 0 < e.1 * e.1 + e.2.1 * e.2.1) (hf : sv e f = 0) (fw : 0 < f.2.2) (no : ∀ z : P3, sv e z = 0 → 0 < z.2.2 → ¬ inW ss z) (bes : ∀ t ∈ ss, tn e t.2 = 0 → sv t.2 f ≤ 0)
    (ma : a ∈ ss) (mb : b ∈ ss) (ha : 0 < tn e a.2 * h) (hb : 0 < tn e b.2 * -h) (ta : ∀ u ∈ ss, 0 < tn e u.2 * h → sv u.2 (pt3 (crL e a.2)) ≤ 0) (tb : ∀ u ∈ ss, 0 < tn e u.2 * -h → sv u.2 (pt3 (crL e b.2)) ≤ 0)
    (pw : 0 < P.2.2) (wP : inW ss P) (oP : 0 < sv e P) :
    0 < tn b.2 e * h ∧ 0 < tn e a.2 * h ∧ 0 < tn a.2 b.2 * h ∧ (tn b.2 e * a.2.2.2 + tn e a.2 * b.2.2.2 + tn a.2 b.2 * e.2.2) * h < 0 := by
  obtain ⟨sa, a1, a2⟩ := cr_ok (ne_hand ha)
  obtain ⟨sb, b1, b2⟩ := cr_ok (ne_hand hb)
  have hh' : -h * -h = 1 := by rw [Int.neg_mul_neg]; exact hh
  have outb : 0 < sv b.2 (pt3 (crL e a.2)) := by
    by_cases c : 0 < sv b.2 (pt3 (crL e a.2))
    · exact c
    · refine absurd ?_ (no _ a1 sa.pos)
      have d := dl_ge hh' hN b1 a1 sb.pos b2 (show sv b.2 (pt3 (crL e a.2)) ≤ 0 by omega) hb
      intro u hu
      by_cases c1 : 0 < tn e u.2 * h
      · exact ta u hu c1
      · by_cases c2 : 0 < tn e u.2 * -h
        · refine sv_on hh' hN a1 b1 sa.pos sb.pos u.2 ?_ (tb u hu c2)
          rw [dl_anti, Int.neg_mul] 
          have := Int.mul_nonneg d (Int.le_of_lt c2)
          rw [Int.neg_mul]
          omega
        · rw [neg_hand] at c2
          have z : tn e u.2 * h = 0 := by omega
          rcases Int.mul_eq_zero.mp z with z | z
          · exact beside_on hN a1 hf sa.pos fw z (bes u hu z)
          · rw [z] at hh
            exact absurd hh (by decide)
  have A : 0 < tn b.2 e * h := by
    rw [neg_hand] at hb
    have z : tn b.2 e = -tn e b.2 := by unfold tn; rw [Int.mul_comm b.2.1, Int.mul_comm b.2.2.1]; omega
    rw [z, Int.neg_mul]
    omega
  have S : ∀ z : P3, tn b.2 e * sv a.2 z + tn e a.2 * sv b.2 z + tn a.2 b.2 * sv e z = -((tn b.2 e * a.2.2.2 + tn e a.2 * b.2.2.2 + tn a.2 b.2 * e.2.2) * z.2.2) := fun z => by
    unfold tn sv
    simp only [Int.mul_sub, Int.sub_mul, Int.mul_add, Int.add_mul, Int.mul_comm, Int.mul_left_comm]
    omega
  have k1 := S (pt3 (crL e a.2))
  rw [a1, a2, Int.mul_zero, Int.mul_zero, Int.zero_add, Int.add_zero] at k1
  have k2 := S P
  generalize tn b.2 e * a.2.2.2 + tn e a.2 * b.2.2.2 + tn a.2 b.2 * e.2.2 = M at k1 k2 ⊢
  have m1 : M * h < 0 := by
    have p := Int.mul_pos ha outb
    have e1 : tn e a.2 * h * sv b.2 (pt3 (crL e a.2)) = -(M * h * (pt3 (crL e a.2)).2.2) := by
      rw [Int.mul_right_comm, k1, Int.neg_mul, Int.mul_right_comm]
    rw [e1] at p
    by_cases c : M * h < 0
    · exact c
    · have := Int.mul_nonneg (show 0 ≤ M * h by omega) (Int.le_of_lt sa.pos)
      omega
  refine ⟨A, ha, ?_, m1⟩
  have e2 : tn b.2 e * h * sv a.2 P + tn e a.2 * h * sv b.2 P + tn a.2 b.2 * h * sv e P = -(M * h * P.2.2) := by
    have z : (tn b.2 e * sv a.2 P + tn e a.2 * sv b.2 P + tn a.2 b.2 * sv e P) * h = -(M * P.2.2) * h := by rw [k2]
    rw [Int.neg_mul, Int.mul_right_comm M] at z
    rw [← z, Int.add_mul, Int.add_mul, Int.mul_right_comm, Int.mul_right_comm (tn e a.2), Int.mul_right_comm (tn a.2 b.2)]
  have x1 := Int.mul_nonneg (Int.le_of_lt A) (show 0 ≤ -sv a.2 P by have := wP a ma; omega)
  have x2 := Int.mul_nonneg (Int.le_of_lt ha) (show 0 ≤ -sv b.2 P by have := wP b mb; omega)
  have x3 := Int.mul_pos (show 0 < -(M * h) by omega) pw
  rw [Int.mul_neg] at x1 x2
  rw [Int.neg_mul] at x3
  by_cases c : 0 < tn a.2 b.2 * h
  · exact c
  · have := Int.mul_nonneg (show 0 ≤ -(tn a.2 b.2 * h) by omega) (Int.le_of_lt oP)
    rw [Int.neg_mul] at this
    omega
theorem absI_hand {x h : Int} (hh : h = 1 ∨ h = -1) (hx : 0 < x * h) : absI x = x * h := by
  unfold absI
  rcases hh with rfl | rfl
  · rw [if_neg (by omega)]
    omega
  · rw [if_pos (by omega)]
    omega
theorem turns_zero (a b e : P3) : tn b e * a.1 + tn e a * b.1 + tn a b * e.1 = 0 ∧ tn b e * a.2.1 + tn e a * b.2.1 + tn a b * e.2.1 = 0 := by
  unfold tn
  constructor
  · simp only [Int.sub_mul, Int.mul_sub, Int.mul_comm, Int.mul_left_comm]
    omega
  · simp only [Int.sub_mul, Int.mul_sub, Int.mul_comm, Int.mul_left_comm]
    omega
def Clash (ss : List Sd) (cs : List (Int × Int)) : Prop :=
  (∃ (i j : Nat) (u v : Int) (s t : Sd), cs = [((i : Int), u), ((j : Int), v)] ∧ i < j ∧ ss[i]? = some s ∧ ss[j]? = some t ∧ 0 < u ∧ 0 < v ∧ u ≤ 10 ^ 19 ∧ v ≤ 10 ^ 19 ∧
    u * s.2.1 + v * t.2.1 = 0 ∧ u * s.2.2.1 + v * t.2.2.1 = 0 ∧ u * s.2.2.2 + v * t.2.2.2 < 0) ∨
  ∃ (i j k : Nat) (u v x : Int) (s t r : Sd), cs = [((i : Int), u), ((j : Int), v), ((k : Int), x)] ∧ i < j ∧ j < k ∧ ss[i]? = some s ∧ ss[j]? = some t ∧ ss[k]? = some r ∧ 0 < u ∧ 0 < v ∧ 0 < x ∧ u ≤ 10 ^ 19 ∧ v ≤ 10 ^ 19 ∧ x ≤ 10 ^ 19 ∧
    u * s.2.1 + v * t.2.1 + x * r.2.1 = 0 ∧ u * s.2.2.1 + v * t.2.2.1 + x * r.2.2.1 = 0 ∧ u * s.2.2.2 + v * t.2.2.2 + x * r.2.2.2 < 0
theorem z_of {x g : Int} (hg : 0 < g) (h : x * g = 0) : x = 0 := by
  rcases Int.mul_eq_zero.mp h with z | z
  · exact z
  · omega
theorem n_of {x g : Int} (hg : 0 < g) (h : x * g < 0) : x < 0 := by
  by_cases c : x < 0
  · exact c
  · have := Int.mul_nonneg (show 0 ≤ x by omega) (Int.le_of_lt hg)
    omega
theorem gcd_ok {ws : List Int} {n : Int} (h : n ∈ ws) (h0 : 0 < n) (hb : n ≤ 10 ^ 30) : 0 < gcdL ws ∧ (gcdL ws : Int) < 10 ^ 600 := by
  refine ⟨gcdL_pos h (by omega), ?_⟩
  have h1 := gcdL_le h (show n ≠ 0 by omega)
  exact Int.lt_of_le_of_lt (show (gcdL ws : Int) ≤ 10 ^ 30 by omega) (by decide +kernel)
theorem low_pos {ws : List Int} {n : Int} (h : n ∈ ws) (h0 : 0 < n) : 0 < n / (gcdL ws : Int) ∧ n / (gcdL ws : Int) ≤ n := by
  have gp := gcdL_pos h (show n ≠ 0 by omega)
  have e := lowL_mul h
  have p : 0 < n / (gcdL ws : Int) := by
    by_cases c : 0 < n / (gcdL ws : Int)
    · exact c
    · have := Int.mul_nonneg (show 0 ≤ -(n / (gcdL ws : Int)) by omega) (show (0 : Int) ≤ (gcdL ws : Int) by omega)
      rw [Int.neg_mul] at this
      omega
  refine ⟨p, ?_⟩
  have := Int.mul_le_mul_of_nonneg_left (show (1 : Int) ≤ (gcdL ws : Int) by omega) (Int.le_of_lt p)
  omega
theorem clash_two {ss : List Sd} {i j : Nat} {s t : Sd} {U V : Int} (hij : i < j) (gs : ss[i]? = some s) (gt : ss[j]? = some t) (hU : 0 < U) (hV : 0 < V) (bU : U ≤ 10 ^ 19) (bV : V ≤ 10 ^ 19)
    (z1 : U * s.2.1 + V * t.2.1 = 0) (z2 : U * s.2.2.1 + V * t.2.2.1 = 0) (z3 : U * s.2.2.2 + V * t.2.2.2 < 0) : Clash ss ([(i : Int), (j : Int)].zip (lowL [U, V])) := by
  have mU : U ∈ [U, V] := by simp
  have mV : V ∈ [U, V] := by simp
  have gp : (0 : Int) < (gcdL [U, V] : Int) := by have := gcdL_pos mU (show U ≠ 0 by omega); omega
  have pU := low_pos mU hU
  have pV := low_pos mV hV
  have eU := lowL_mul mU
  have eV := lowL_mul mV
  have sum : ∀ a b : Int, (U / (gcdL [U, V] : Int) * a + V / (gcdL [U, V] : Int) * b) * (gcdL [U, V] : Int) = U * a + V * b := fun a b => by
    rw [Int.add_mul, Int.mul_right_comm, eU, Int.mul_right_comm, eV]
  refine .inl ⟨i, j, U / (gcdL [U, V] : Int), V / (gcdL [U, V] : Int), s, t, rfl, hij, gs, gt, pU.1, pV.1, Int.le_trans pU.2 bU, Int.le_trans pV.2 bV, ?_, ?_, ?_⟩
  · exact z_of gp (by rw [sum]; exact z1)
  · exact z_of gp (by rw [sum]; exact z2)
  · exact n_of gp (by rw [sum]; exact z3)
theorem clash_three {ss : List Sd} {i j k : Nat} {s t r : Sd} {U V X : Int} (hij : i < j) (hjk : j < k) (gs : ss[i]? = some s) (gt : ss[j]? = some t) (gr : ss[k]? = some r) (hU : 0 < U) (hV : 0 < V) (hX : 0 < X) (bU : U ≤ 10 ^ 19) (bV : V ≤ 10 ^ 19) (bX : X ≤ 10 ^ 19)
    (z1 : U * s.2.1 + V * t.2.1 + X * r.2.1 = 0) (z2 : U * s.2.2.1 + V * t.2.2.1 + X * r.2.2.1 = 0) (z3 : U * s.2.2.2 + V * t.2.2.2 + X * r.2.2.2 < 0) : Clash ss ([(i : Int), (j : Int), (k : Int)].zip (lowL [U, V, X])) := by
  have mU : U ∈ [U, V, X] := by simp
  have mV : V ∈ [U, V, X] := by simp
  have mX : X ∈ [U, V, X] := by simp
  have gp : (0 : Int) < (gcdL [U, V, X] : Int) := by have := gcdL_pos mU (show U ≠ 0 by omega); omega
  have pU := low_pos mU hU
  have pV := low_pos mV hV
  have pX := low_pos mX hX
  have eU := lowL_mul mU
  have eV := lowL_mul mV
  have eX := lowL_mul mX
  have sum : ∀ a b c : Int, (U / (gcdL [U, V, X] : Int) * a + V / (gcdL [U, V, X] : Int) * b + X / (gcdL [U, V, X] : Int) * c) * (gcdL [U, V, X] : Int) = U * a + V * b + X * c := fun a b c => by
    rw [Int.add_mul, Int.add_mul, Int.mul_right_comm, eU, Int.mul_right_comm, eV, Int.mul_right_comm, eX]
  refine .inr ⟨i, j, k, U / (gcdL [U, V, X] : Int), V / (gcdL [U, V, X] : Int), X / (gcdL [U, V, X] : Int), s, t, r, rfl, hij, hjk, gs, gt, gr, pU.1, pV.1, pX.1, Int.le_trans pU.2 bU, Int.le_trans pV.2 bV, Int.le_trans pX.2 bX, ?_, ?_, ?_⟩
  · exact z_of gp (by rw [sum]; exact z1)
  · exact z_of gp (by rw [sum]; exact z2)
  · exact n_of gp (by rw [sum]; exact z3)
theorem sum2 {u v : Int} {s t z : P3} (h1 : u * s.1 + v * t.1 = 0) (h2 : u * s.2.1 + v * t.2.1 = 0) : u * sv s z + v * sv t z = -((u * s.2.2 + v * t.2.2) * z.2.2) := by
  have e : u * sv s z + v * sv t z = (u * s.1 + v * t.1) * z.1 + (u * s.2.1 + v * t.2.1) * z.2.1 - (u * s.2.2 + v * t.2.2) * z.2.2 := by
    unfold sv
    simp only [Int.mul_sub, Int.mul_add, Int.add_mul, Int.mul_comm, Int.mul_left_comm]
    omega
  rw [e, h1, h2, Int.zero_mul, Int.zero_mul]
  omega
theorem sum3 {u v x : Int} {s t r z : P3} (h1 : u * s.1 + v * t.1 + x * r.1 = 0) (h2 : u * s.2.1 + v * t.2.1 + x * r.2.1 = 0) : u * sv s z + v * sv t z + x * sv r z = -((u * s.2.2 + v * t.2.2 + x * r.2.2) * z.2.2) := by
  have e : u * sv s z + v * sv t z + x * sv r z = (u * s.1 + v * t.1 + x * r.1) * z.1 + (u * s.2.1 + v * t.2.1 + x * r.2.1) * z.2.1 - (u * s.2.2 + v * t.2.2 + x * r.2.2) * z.2.2 := by
    unfold sv
    simp only [Int.mul_sub, Int.mul_add, Int.add_mul, Int.mul_comm, Int.mul_left_comm]
    omega
  rw [e, h1, h2, Int.zero_mul, Int.zero_mul]
  omega
theorem le_mul {u x : Int} (hu : 0 < u) (hx : x ≤ 0) : u * x ≤ 0 := by
  have := Int.mul_nonneg (Int.le_of_lt hu) (show 0 ≤ -x by omega)
  rw [Int.mul_neg] at this
  omega
theorem Clash.no {ss : List Sd} {cs : List (Int × Int)} (h : Clash ss cs) (z : P3) (zw : 0 < z.2.2) : ¬ inW ss z := fun wz => by
  rcases h with ⟨i, j, u, v, s, t, _, _, gs, gt, hu, hv, _, _, z1, z2, z3⟩ | ⟨i, j, k, u, v, x, s, t, r, _, _, _, gs, gt, gr, hu, hv, hx, _, _, _, z1, z2, z3⟩
  · have e := sum2 (z := z) (s := s.2) (t := t.2) z1 z2
    have a1 := le_mul hu (wz s (List.mem_of_getElem? gs))
    have a2 := le_mul hv (wz t (List.mem_of_getElem? gt))
    have a3 := Int.mul_neg_of_neg_of_pos z3 zw
    omega
  · have e := sum3 (z := z) (s := s.2) (t := t.2) (r := r.2) z1 z2
    have a1 := le_mul hu (wz s (List.mem_of_getElem? gs))
    have a2 := le_mul hv (wz t (List.mem_of_getElem? gt))
    have a4 := le_mul hx (wz r (List.mem_of_getElem? gr))
    have a3 := Int.mul_neg_of_neg_of_pos z3 zw
    omega
def goB (ss : List Sd) : List (Int × Int) → Int → P3 → Bool
  | [], _, T => decide ([T.1, T.2.1] = [0, 0]) && decide (T.2.2 < 0)
  | c :: cs, last, T => if last < c.1 ∧ c.1 < ss.length ∧ 1 ≤ c.2 then
      match ss[c.1.toNat]? with
      | some t => goB ss cs c.1 (T.1 + c.2 * t.2.1, T.2.1 + c.2 * t.2.2.1, T.2.2 + c.2 * t.2.2.2)
      | none => false
    else false
def clashB (ss : List Sd) (cs : List (Int × Int)) : Bool := decide (2 ≤ cs.length) && (decide (cs.length ≤ 3) && goB ss cs (-1) (0, 0, 0))
theorem goB_step {ss : List Sd} {n w last : Int} {t : Sd} {T : P3} {cs : List (Int × Int)} (h1 : last < n) (h2 : n < ss.length) (h3 : 1 ≤ w) (g : ss[n.toNat]? = some t) : goB ss ((n, w) :: cs) last T = goB ss cs n (T.1 + w * t.2.1, T.2.1 + w * t.2.2.1, T.2.2 + w * t.2.2.2) := by
  rw [goB, if_pos ⟨h1, h2, h3⟩]
  show (match ss[n.toNat]? with | some t => goB ss cs n (T.1 + w * t.2.1, T.2.1 + w * t.2.2.1, T.2.2 + w * t.2.2.2) | none => false) = _
  rw [g]
theorem Clash.b {ss : List Sd} {cs : List (Int × Int)} (h : Clash ss cs) : clashB ss cs = true := by
  rcases h with ⟨i, j, u, v, s, t, rfl, hij, gs, gt, hu, hv, _, _, z1, z2, z3⟩ | ⟨i, j, k, u, v, x, s, t, r, rfl, hij, hjk, gs, gt, gr, hu, hv, hx, _, _, _, z1, z2, z3⟩
  · have hi := (List.getElem?_eq_some_iff.mp gs).1
    have hj := (List.getElem?_eq_some_iff.mp gt).1
    unfold clashB
    rw [goB_step (t := s) (by omega) (by omega) (by omega) (by rw [Int.toNat_natCast]; exact gs), goB_step (t := t) (by omega) (by omega) (by omega) (by rw [Int.toNat_natCast]; exact gt), goB]
    show (decide (2 ≤ 2) && (decide (2 ≤ 3) && (decide ([0 + u * s.2.1 + v * t.2.1, 0 + u * s.2.2.1 + v * t.2.2.1] = [0, 0]) && decide (0 + u * s.2.2.2 + v * t.2.2.2 < 0)))) = true
    rw [Int.zero_add, Int.zero_add, Int.zero_add, z1, z2, decide_eq_true z3]
    rfl
  · have hi := (List.getElem?_eq_some_iff.mp gs).1
    have hj := (List.getElem?_eq_some_iff.mp gt).1
    have hk := (List.getElem?_eq_some_iff.mp gr).1
    unfold clashB
    rw [goB_step (t := s) (by omega) (by omega) (by omega) (by rw [Int.toNat_natCast]; exact gs), goB_step (t := t) (by omega) (by omega) (by omega) (by rw [Int.toNat_natCast]; exact gt), goB_step (t := r) (by omega) (by omega) (by omega) (by rw [Int.toNat_natCast]; exact gr), goB]
    show (decide (2 ≤ 3) && (decide (3 ≤ 3) && (decide ([0 + u * s.2.1 + v * t.2.1 + x * r.2.1, 0 + u * s.2.2.1 + v * t.2.2.1 + x * r.2.2.1] = [0, 0]) && decide (0 + u * s.2.2.2 + v * t.2.2.2 + x * r.2.2.2 < 0)))) = true
    rw [Int.zero_add, Int.zero_add, Int.zero_add, z1, z2, decide_eq_true z3]
    rfl
theorem Clash.range {ss : List Sd} {cs : List (Int × Int)} (h : Clash ss cs) : (cs.length = 2 ∨ cs.length = 3) ∧ ∀ c ∈ cs, 0 ≤ c.1 ∧ c.1 < ss.length := by
  rcases h with ⟨i, j, u, v, s, t, rfl, _, gs, gt, _⟩ | ⟨i, j, k, u, v, x, s, t, r, rfl, _, _, gs, gt, gr, _⟩
  · have h1 := (List.getElem?_eq_some_iff.mp gs).1
    have h2 := (List.getElem?_eq_some_iff.mp gt).1
    refine ⟨.inl rfl, fun c hc => ?_⟩
    simp only [List.mem_cons, List.not_mem_nil, or_false] at hc
    rcases hc with rfl | rfl
    · exact ⟨by show (0 : Int) ≤ (i : Int); omega, by show (i : Int) < _; omega⟩
    · exact ⟨by show (0 : Int) ≤ (j : Int); omega, by show (j : Int) < _; omega⟩
  · have h1 := (List.getElem?_eq_some_iff.mp gs).1
    have h2 := (List.getElem?_eq_some_iff.mp gt).1
    have h3 := (List.getElem?_eq_some_iff.mp gr).1
    refine ⟨.inr rfl, fun c hc => ?_⟩
    simp only [List.mem_cons, List.not_mem_nil, or_false] at hc
    rcases hc with rfl | rfl | rfl
    · exact ⟨by show (0 : Int) ≤ (i : Int); omega, by show (i : Int) < _; omega⟩
    · exact ⟨by show (0 : Int) ≤ (j : Int); omega, by show (j : Int) < _; omega⟩
    · exact ⟨by show (0 : Int) ≤ (k : Int); omega, by show (k : Int) < _; omega⟩
def Cand (ss : List Sd) (P : P3) : Prop := P = (0, 0, 1) ∨ (∃ t ∈ ss, P = pt3 (ftL t.2)) ∨ ∃ t ∈ ss, ∃ u ∈ ss, tn t.2 u.2 ≠ 0 ∧ P = pt3 (crL t.2 u.2)
theorem exists_end {e : P3} {h : Int} (hh : h * h = 1) (hN : 0 < e.1 * e.1 + e.2.1 * e.2.1) : ∀ ss : List Sd, (∀ t ∈ ss, tn e t.2 * h ≤ 0) ∨ ∃ t ∈ ss, 0 < tn e t.2 * h ∧ ∀ u ∈ ss, 0 < tn e u.2 * h → sv u.2 (pt3 (crL e t.2)) ≤ 0
  | [] => .inl fun _ h => nomatch h
  | s :: ss => by
    by_cases hs : 0 < tn e s.2 * h
    · obtain ⟨sp1, r1, r2⟩ := cr_ok (ne_hand hs)
      rcases exists_end hh hN ss with n | ⟨t, mt, ht, a⟩
      · refine .inr ⟨s, List.mem_cons_self .., hs, fun u hu hp => ?_⟩
        rcases List.mem_cons.mp hu with rfl | hu
        · exact Int.le_of_eq r2
        · have := n u hu
          omega
      · obtain ⟨sp0, q1, q2⟩ := cr_ok (ne_hand ht)
        by_cases hin : sv s.2 (pt3 (crL e t.2)) ≤ 0
        · refine .inr ⟨t, List.mem_cons_of_mem _ mt, ht, fun u hu hp => ?_⟩
          rcases List.mem_cons.mp hu with rfl | hu
          · exact hin
          · exact a u hu hp
        · have d1 := dl_le hh hN r1 q1 sp1.pos r2 (show 0 < sv s.2 (pt3 (crL e t.2)) by omega) hs
          refine .inr ⟨s, List.mem_cons_self .., hs, fun u hu hp => ?_⟩
          rcases List.mem_cons.mp hu with rfl | hu
          · exact Int.le_of_eq r2
          · refine sv_on hh hN r1 q1 sp1.pos sp0.pos u.2 ?_ (a u hu hp)
            have := Int.mul_nonneg (show 0 ≤ -(dl e (pt3 (crL e s.2)) (pt3 (crL e t.2)) * h) by omega) (Int.le_of_lt hp)
            rw [Int.neg_mul] at this
            omega
    · rcases exists_end hh hN ss with n | ⟨t, mt, ht, a⟩
      · refine .inl fun u hu => ?_
        rcases List.mem_cons.mp hu with rfl | hu
        · omega
        · exact n u hu
      · refine .inr ⟨t, List.mem_cons_of_mem _ mt, ht, fun u hu hp => ?_⟩
        rcases List.mem_cons.mp hu with rfl | hu
        · exact absurd hp hs
        · exact a u hu hp
theorem on_edge_cand {ss : List Sd} {e : P3} (he : e.1 ≠ 0 ∨ e.2.1 ≠ 0) {m : P3} (hm : sv e m = 0) (mw : 0 < m.2.2) (wm : inW ss m) : ∃ P : P3, 0 < P.2.2 ∧ inW ss P ∧ sv e P = 0 ∧ (P = pt3 (ftL e) ∨ ∃ t ∈ ss, tn e t.2 ≠ 0 ∧ P = pt3 (crL e t.2)) := by
  have hN := nn_pos he
  obtain ⟨sf, f1⟩ := ft_ok he
  have one : ∀ h : Int, h * h = 1 → (∀ t ∈ ss, tn e t.2 * h ≤ 0) ∨ ∃ P : P3, 0 < P.2.2 ∧ inW ss P ∧ sv e P = 0 ∧ (P = pt3 (ftL e) ∨ ∃ t ∈ ss, tn e t.2 ≠ 0 ∧ P = pt3 (crL e t.2)) := fun h hh => by
    rcases exists_end hh hN ss with n | ⟨t, mt, ht, a⟩
    · exact .inl n
    · obtain ⟨sp, c1, c2⟩ := cr_ok (ne_hand ht)
      obtain ⟨j, gj⟩ := List.getElem?_of_mem mt
      exact .inr ⟨pt3 (crL e t.2), sp.pos, end_in hh hN hm mw wm gj ht a, c1, .inr ⟨t, mt, ne_hand ht, rfl⟩⟩
  rcases one 1 (by decide) with n1 | r
  · rcases one (-1) (by decide) with n2 | r
    · exact ⟨pt3 (ftL e), sf.pos, beside_in hN hm mw wm f1 sf.pos n1 n2, f1, .inl rfl⟩
    · exact r
  · exact r
theorem Cand.cons {ss : List Sd} {P : P3} (s : Sd) (h : Cand ss P) : Cand (s :: ss) P := by
  rcases h with h | ⟨t, ht, h⟩ | ⟨t, ht, u, hu, h⟩
  · exact .inl h
  · exact .inr (.inl ⟨t, List.mem_cons_of_mem _ ht, h⟩)
  · exact .inr (.inr ⟨t, List.mem_cons_of_mem _ ht, u, List.mem_cons_of_mem _ hu, h⟩)
theorem cand_of : ∀ {ss : List Sd}, (∀ t ∈ ss, t.2.1 ≠ 0 ∨ t.2.2.1 ≠ 0) → ∀ z : P3, 0 < z.2.2 → inW ss z → ∃ P : P3, Cand ss P ∧ 0 < P.2.2 ∧ inW ss P
  | [], _, _, _, _ => ⟨(0, 0, 1), .inl rfl, by decide, fun _ h => nomatch h⟩
  | s :: ss, hn, z, zw, wz => by
    obtain ⟨P, cP, pw, wP⟩ := cand_of (fun t ht => hn t (List.mem_cons_of_mem _ ht)) z zw fun t ht => wz t (List.mem_cons_of_mem _ ht)
    by_cases hin : sv s.2 P ≤ 0
    · refine ⟨P, cP.cons s, pw, fun t ht => ?_⟩
      rcases List.mem_cons.mp ht with rfl | ht
      · exact hin
      · exact wP t ht
    · obtain ⟨m, m1, m2, m3⟩ := between wP (fun t ht => wz t (List.mem_cons_of_mem _ ht)) pw zw (show 0 < sv s.2 P by omega) (wz s (List.mem_cons_self ..))
      obtain ⟨R, rw', wR, oR, cR⟩ := on_edge_cand (hn s (List.mem_cons_self ..)) m1 m2 m3
      refine ⟨R, ?_, rw', fun t ht => ?_⟩
      · rcases cR with h | ⟨t, ht, h1, h2⟩
        · exact .inr (.inl ⟨s, List.mem_cons_self .., h⟩)
        · exact .inr (.inr ⟨s, List.mem_cons_self .., t, List.mem_cons_of_mem _ ht, h1, h2⟩)
      · rcases List.mem_cons.mp ht with rfl | ht
        · exact Int.le_of_eq oR
        · exact wR t ht
end Sea

namespace L2
open PySem PySem.Spec PyProof.Rows PySem.W
section
variable {X : Cx}
theorem call_sortedI : CallR X (.builtin "sorted") (fun xs H Q => ∃ (l : Addr) (ns : List Int), xs = [.ref l] ∧ SqL X.K H l (ns.map V.int) ∧ ns.length < 64 ∧
    ∀ (p : Addr) (ms : List Int), H p = none → ms.Perm ns → ms.Pairwise (· ≤ ·) → Q (.ref p) (upd H p (.lst (ms.map V.int)))) := by
  intro pins s σ H xs us Q I r h
  obtain ⟨l, ns, rfl, hq, h64, q⟩ := h
  obtain ⟨u, rfl, ru⟩ := Vals.one r
  cases ru
  obtain ⟨its, rv, pl, hz⟩ := I.list hq
  have hn := rv.length
  rw [List.length_map] at hn
  refine sorted_ints (ns := ns) pl.isList (intsAre_of rv) (by omega) fun out ms a1 a2 a3 => ?_
  obtain ⟨e, at'⟩ := sortedAll_at s.heap its out
  have fr : H (s.heap.objs.size + 1) = none := I.hok.fresh (Nat.le_succ _)
  refine ⟨.ref (s.heap.objs.size + 1), _, I.laid (t' := s.toks) (a := s.heap.objs.size + 1) (o := .lst (ms.map V.int)) (fun b ob q => sortedAll_old q) (Nat.le_succ _) ?_, rfl, q _ ms fr a2 a3⟩
  refine ⟨?_, out.toList, e, vals_ints a1, by simpa using at'⟩
  rw [List.length_map, a2.length_eq]
  exact Nat.le_trans (Nat.le_of_lt h64) (by rw [sizeLine_eq]; decide)
end
theorem ints_at {ns : List Int} {i : Nat} {k : Int} (e : k = i) (h : i < ns.length) : ∃ n, ns[i]? = some n ∧ atI (ns.map V.int) k = some (.int n) := by
  refine ⟨ns[i], List.getElem?_eq_getElem h, ?_⟩
  rw [e]
  exact atI_nat (by rw [List.getElem?_map, List.getElem?_eq_getElem h] <;> rfl)
theorem two_sorted {a b : Int} {ms : List Int} (h : ms.Perm [a, b]) (s : ms.Pairwise (· ≤ ·)) : (ms = [a, b] ∧ a ≤ b) ∨ (ms = [b, a] ∧ b ≤ a) := by
  match ms, h, s, h.length_eq with
  | [c, d], h, s, _ =>
    have le : c ≤ d := by simpa using s
    have mc : c ∈ [a, b] := h.mem_iff.mp (List.mem_cons_self ..)
    rw [List.mem_cons, List.mem_singleton] at mc
    rcases mc with rfl | rfl
    · have z := List.perm_cons c |>.mp h
      have e := List.perm_singleton.mp z
      cases e
      exact .inl ⟨rfl, le⟩
    · have z := List.perm_cons c |>.mp (h.trans (List.Perm.swap c a []))
      have e := List.perm_singleton.mp z
      cases e
      exact .inr ⟨rfl, le⟩
def PrAt (H : Hp) (cs : List Pr) : Prop := ∀ t ∈ cs, H t.1 = some (.tup [.int t.2.1, .int t.2.2])
theorem PrAt.same {H H' : Hp} {cs : List Pr} (h : PrAt H cs) (s : Same H H') : PrAt H' cs := fun t ht => s _ _ (h t ht)
end L2

namespace Sea
open PySem L2
theorem flat {a b x y u v : Int} (hn : a ≠ 0 ∨ b ≠ 0) (h1 : a * x + b * y = 0) (h2 : a * u + b * v = 0) : x * v - y * u = 0 := by
  have e1 : a * (x * v - y * u) = (a * x + b * y) * v - (a * u + b * v) * y := by
    simp only [Int.mul_sub, Int.add_mul, Int.mul_add, Int.mul_comm, Int.mul_left_comm]
    omega
  have e2 : b * (x * v - y * u) = (a * u + b * v) * x - (a * x + b * y) * u := by
    simp only [Int.mul_sub, Int.add_mul, Int.mul_add, Int.mul_comm, Int.mul_left_comm]
    omega
  rw [h1, h2, Int.zero_mul, Int.zero_mul, Int.sub_self] at e1 e2
  rcases hn with h | h
  · exact (Int.mul_eq_zero.mp e1).resolve_left h
  · exact (Int.mul_eq_zero.mp e2).resolve_left h
theorem dir_uniq {x y u v : Int} (h1 : Nat.gcd x.natAbs y.natAbs = 1) (h2 : Nat.gcd u.natAbs v.natAbs = 1) (h : x * v - y * u = 0) (hp : 0 < x * u + y * v) : x = u ∧ y = v := by
  have e : x.natAbs * v.natAbs = y.natAbs * u.natAbs := by
    rw [← Int.natAbs_mul, ← Int.natAbs_mul]
    congr 1
    omega
  have d1 : x.natAbs ∣ u.natAbs := Nat.Coprime.dvd_of_dvd_mul_left (m := y.natAbs) h1 (by rw [← e]; exact Nat.dvd_mul_right _ _)
  have d2 : u.natAbs ∣ x.natAbs := Nat.Coprime.dvd_of_dvd_mul_right (n := v.natAbs) h2 (by rw [e]; exact Nat.dvd_mul_left _ _)
  have h1' : Nat.gcd y.natAbs x.natAbs = 1 := by rw [Nat.gcd_comm]; exact h1
  have h2' : Nat.gcd v.natAbs u.natAbs = 1 := by rw [Nat.gcd_comm]; exact h2
  have d3 : y.natAbs ∣ v.natAbs := Nat.Coprime.dvd_of_dvd_mul_left (m := x.natAbs) h1' (by rw [e]; exact Nat.dvd_mul_right _ _)
  have d4 : v.natAbs ∣ y.natAbs := Nat.Coprime.dvd_of_dvd_mul_right (n := u.natAbs) h2' (by rw [← e]; exact Nat.dvd_mul_left _ _)
  have ex := Nat.dvd_antisymm d1 d2
  have ey := Nat.dvd_antisymm d3 d4
  have sx : x = u ∨ x = -u := by omega
  have sy : y = v ∨ y = -v := by omega
  have q1 : 0 ≤ u * u := by
    by_cases c : 0 ≤ u
    · exact Int.mul_nonneg c c
    · exact Int.le_of_lt (Int.mul_pos_of_neg_of_neg (by omega) (by omega))
  have q2 : 0 ≤ v * v := by
    by_cases c : 0 ≤ v
    · exact Int.mul_nonneg c c
    · exact Int.le_of_lt (Int.mul_pos_of_neg_of_neg (by omega) (by omega))
  rcases sx with rfl | rfl
  · rcases sy with rfl | rfl
    · exact ⟨rfl, rfl⟩
    · rw [Int.neg_mul, Int.mul_comm v] at h
      have z : x * v = 0 := by omega
      rcases Int.mul_eq_zero.mp z with z | z
      · rw [z, Int.zero_mul, Int.neg_mul] at hp
        omega
      · rw [z]
        exact ⟨rfl, rfl⟩
  · rcases sy with rfl | rfl
    · rw [Int.neg_mul, Int.mul_comm y] at h
      have z : u * y = 0 := by omega
      rcases Int.mul_eq_zero.mp z with z | z
      · rw [z]
        exact ⟨rfl, rfl⟩
      · rw [z, Int.zero_mul, Int.neg_mul] at hp
        omega
    · rw [Int.neg_mul, Int.neg_mul] at hp
      omega
structure EdgeWay (ss : List Sd) (x y : Int) : Prop where
  low : Nat.gcd x.natAbs y.natAbs = 1
  way : ∀ t ∈ ss, t.2.1 * x + t.2.2.1 * y ≤ 0
  edge : ∃ t ∈ ss, (t.2.1 ≠ 0 ∨ t.2.2.1 ≠ 0) ∧ t.2.1 * x + t.2.2.1 * y = 0
theorem both_zero {a b p q : Int} (h : a * p + b * q = 0) (hp : p ≤ 0) (hq : q ≤ 0) (hab : 0 < a * b) : p = 0 ∧ q = 0 := by
  have ha : a ≠ 0 := fun z => by rw [z, Int.zero_mul] at hab; omega
  have hb : b ≠ 0 := fun z => by rw [z, Int.mul_zero] at hab; omega
  by_cases c : 0 < a
  · have cb : 0 < b := by
      by_cases d : 0 < b
      · exact d
      · have := Int.mul_neg_of_pos_of_neg c (show b < 0 by omega)
        omega
    have z1 := Int.mul_nonneg (Int.le_of_lt c) (show 0 ≤ -p by omega)
    have z2 := Int.mul_nonneg (Int.le_of_lt cb) (show 0 ≤ -q by omega)
    rw [Int.mul_neg] at z1 z2
    exact ⟨(Int.mul_eq_zero.mp (show a * p = 0 by omega)).resolve_left ha, (Int.mul_eq_zero.mp (show b * q = 0 by omega)).resolve_left hb⟩
  · have cb : b < 0 := by
      by_cases d : b < 0
      · exact d
      · have := Int.mul_neg_of_neg_of_pos (show a < 0 by omega) (show 0 < b by omega)
        omega
    have z1 := Int.mul_nonneg (show 0 ≤ -a by omega) (show 0 ≤ -p by omega)
    have z2 := Int.mul_nonneg (show 0 ≤ -b by omega) (show 0 ≤ -q by omega)
    rw [Int.neg_mul_neg] at z1 z2
    exact ⟨(Int.mul_eq_zero.mp (show a * p = 0 by omega)).resolve_left ha, (Int.mul_eq_zero.mp (show b * q = 0 by omega)).resolve_left hb⟩
theorem rel3 (a b x1 y1 x2 y2 x3 y3 : Int) : (x2 * y3 - y2 * x3) * (a * x1 + b * y1) + (x3 * y1 - y3 * x1) * (a * x2 + b * y2) + (x1 * y2 - y1 * x2) * (a * x3 + b * y3) = 0 := by
  simp only [Int.mul_sub, Int.sub_mul, Int.add_mul, Int.mul_add, Int.mul_comm, Int.mul_left_comm]
  omega
theorem low_ne {x y : Int} (h : Nat.gcd x.natAbs y.natAbs = 1) : x ≠ 0 ∨ y ≠ 0 := by
  by_cases c : x = 0
  · right
    intro z
    rw [c, z] at h
    exact absurd h (by decide)
  · exact .inl c
theorem EdgeWay.contra {ss : List Sd} {x1 y1 x2 y2 x3 y3 : Int} (w1 : EdgeWay ss x1 y1) (w2 : EdgeWay ss x2 y2) (w3 : EdgeWay ss x3 y3) (h : x1 * y2 - y1 * x2 = 0) (hn : x1 * x2 + y1 * y2 < 0) : x1 * y3 - y1 * x3 = 0 := by
  obtain ⟨t, mt, nt, et⟩ := w3.edge
  have p1 := w1.way t mt
  have p2 := w2.way t mt
  have hN := sq_pos (low_ne w1.low)
  have e : (x1 * x1 + y1 * y1) * (t.2.1 * x2 + t.2.2.1 * y2) = (x1 * x2 + y1 * y2) * (t.2.1 * x1 + t.2.2.1 * y1) + (x1 * y2 - y1 * x2) * (t.2.2.1 * x1 - t.2.1 * y1) := by
    simp only [Int.mul_sub, Int.sub_mul, Int.add_mul, Int.mul_add, Int.mul_comm, Int.mul_left_comm]
    omega
  rw [h, Int.zero_mul, Int.add_zero] at e
  have z1 := Int.mul_nonneg (show 0 ≤ x1 * x1 + y1 * y1 by omega) (show 0 ≤ -(t.2.1 * x2 + t.2.2.1 * y2) by omega)
  have z2 := Int.mul_nonneg (show 0 ≤ -(x1 * x2 + y1 * y2) by omega) (show 0 ≤ -(t.2.1 * x1 + t.2.2.1 * y1) by omega)
  rw [Int.mul_neg] at z1
  rw [Int.neg_mul_neg] at z2
  have z : t.2.1 * x1 + t.2.2.1 * y1 = 0 := (Int.mul_eq_zero.mp (show (x1 * x2 + y1 * y2) * (t.2.1 * x1 + t.2.2.1 * y1) = 0 by omega)).resolve_left (by omega)
  exact flat nt z et
theorem dot_ne {x y u v : Int} (h : x * v - y * u = 0) (n1 : x ≠ 0 ∨ y ≠ 0) (n2 : u ≠ 0 ∨ v ≠ 0) : x * u + y * v ≠ 0 := fun z => by
  have e : (x * x + y * y) * (u * u + v * v) = (x * u + y * v) * (x * u + y * v) + (x * v - y * u) * (x * v - y * u) := by
    simp only [Int.mul_sub, Int.sub_mul, Int.add_mul, Int.mul_add, Int.mul_comm, Int.mul_left_comm]
    omega
  rw [h, z, Int.zero_mul, Int.add_zero] at e
  have q1 := sq_pos n1
  have q2 := sq_pos n2
  have := Int.mul_pos (show 0 < x * x + y * y by omega) (show 0 < u * u + v * v by omega)
  omega
theorem EdgeWay.same {ss : List Sd} {x1 y1 x2 y2 : Int} (w1 : EdgeWay ss x1 y1) (w2 : EdgeWay ss x2 y2) (d : ¬ (x1 = x2 ∧ y1 = y2)) (h : x1 * y2 - y1 * x2 = 0) : x1 * x2 + y1 * y2 < 0 := by
  have := dot_ne h (low_ne w1.low) (low_ne w2.low)
  by_cases c : 0 < x1 * x2 + y1 * y2
  · exact absurd (dir_uniq w1.low w2.low h c) d
  · omega
theorem three_ways {ss : List Sd} {x1 y1 x2 y2 x3 y3 : Int} (w1 : EdgeWay ss x1 y1) (w2 : EdgeWay ss x2 y2) (w3 : EdgeWay ss x3 y3) (d12 : ¬ (x1 = x2 ∧ y1 = y2)) (d13 : ¬ (x1 = x3 ∧ y1 = y3)) (d23 : ¬ (x2 = x3 ∧ y2 = y3)) : False := by
  have par : ∀ {x1 y1 x2 y2 x3 y3 : Int}, EdgeWay ss x1 y1 → EdgeWay ss x2 y2 → EdgeWay ss x3 y3 → ¬ (x1 = x2 ∧ y1 = y2) → ¬ (x1 = x3 ∧ y1 = y3) → ¬ (x2 = x3 ∧ y2 = y3) → x1 * y2 - y1 * x2 ≠ 0 := fun {x1 y1 x2 y2 x3 y3} w1 w2 w3 d12 d13 d23 h => by
    have n12 := w1.same w2 d12 h
    have h13 := w1.contra w2 w3 h n12
    have n13 := w1.same w3 d13 h13
    have hN := sq_pos (low_ne w1.low)
    have e : (x1 * x1 + y1 * y1) * (x2 * x3 + y2 * y3) = (x1 * x2 + y1 * y2) * (x1 * x3 + y1 * y3) + (x1 * y2 - y1 * x2) * (x1 * y3 - y1 * x3) := by
      simp only [Int.mul_sub, Int.sub_mul, Int.add_mul, Int.mul_add, Int.mul_comm, Int.mul_left_comm]
      omega
    have e2 : (x1 * x1 + y1 * y1) * (x2 * y3 - y2 * x3) = (x1 * x2 + y1 * y2) * (x1 * y3 - y1 * x3) - (x1 * y2 - y1 * x2) * (x1 * x3 + y1 * y3) := by
      simp only [Int.mul_sub, Int.sub_mul, Int.add_mul, Int.mul_add, Int.mul_comm, Int.mul_left_comm]
      omega
    rw [h, h13, Int.zero_mul, Int.add_zero] at e
    rw [h, h13, Int.zero_mul, Int.mul_zero, Int.sub_self] at e2
    have z := (Int.mul_eq_zero.mp e2).resolve_left (by omega)
    have n23 := w2.same w3 d23 z
    have p := Int.mul_pos_of_neg_of_neg n12 n13
    have q := Int.mul_neg_of_pos_of_neg (show 0 < x1 * x1 + y1 * y1 by omega) n23
    omega
  have sw : ∀ x y u v : Int, x * v - y * u = -(u * y - v * x) := fun x y u v => by rw [Int.mul_comm u, Int.mul_comm v]; omega
  have a0 : x2 * y3 - y2 * x3 ≠ 0 := par w2 w3 w1 d23 (fun z => d12 ⟨z.1.symm, z.2.symm⟩) (fun z => d13 ⟨z.1.symm, z.2.symm⟩)
  have b0 : x3 * y1 - y3 * x1 ≠ 0 := par w3 w1 w2 (fun z => d13 ⟨z.1.symm, z.2.symm⟩) (fun z => d23 ⟨z.1.symm, z.2.symm⟩) d12
  have c0 : x1 * y2 - y1 * x2 ≠ 0 := par w1 w2 w3 d12 d13 d23
  obtain ⟨t1, m1, n1, e1⟩ := w1.edge
  obtain ⟨t2, m2, n2, e2⟩ := w2.edge
  obtain ⟨t3, m3, n3, e3⟩ := w3.edge
  have r1 := rel3 t1.2.1 t1.2.2.1 x1 y1 x2 y2 x3 y3
  have r2 := rel3 t2.2.1 t2.2.2.1 x1 y1 x2 y2 x3 y3
  have r3 := rel3 t3.2.1 t3.2.2.1 x1 y1 x2 y2 x3 y3
  rw [e1, Int.mul_zero, Int.zero_add] at r1
  rw [e2, Int.mul_zero, Int.add_zero] at r2
  rw [e3, Int.mul_zero, Int.add_zero] at r3
  have k1 : ¬ 0 < (x3 * y1 - y3 * x1) * (x1 * y2 - y1 * x2) := fun p => by
    have z := both_zero r1 (w2.way t1 m1) (w3.way t1 m1) p
    exact c0 (flat n1 e1 z.1)
  have k2 : ¬ 0 < (x2 * y3 - y2 * x3) * (x1 * y2 - y1 * x2) := fun p => by
    have z := both_zero r2 (w1.way t2 m2) (w3.way t2 m2) p
    exact c0 (flat n2 z.1 e2)
  have k3 : ¬ 0 < (x2 * y3 - y2 * x3) * (x3 * y1 - y3 * x1) := fun p => by
    have z := both_zero r3 (w1.way t3 m3) (w2.way t3 m3) p
    exact c0 (flat n3 z.1 z.2)
  generalize x2 * y3 - y2 * x3 = a at *
  generalize x3 * y1 - y3 * x1 = b at *
  generalize x1 * y2 - y1 * x2 = c at *
  have sg : ∀ {p q : Int}, p ≠ 0 → q ≠ 0 → ¬ 0 < p * q → (0 < p ∧ q < 0) ∨ (p < 0 ∧ 0 < q) := fun {p q} hp hq h => by
    by_cases cp : 0 < p
    · by_cases cq : 0 < q
      · exact absurd (Int.mul_pos cp cq) h
      · exact .inl ⟨cp, by omega⟩
    · by_cases cq : 0 < q
      · exact .inr ⟨by omega, cq⟩
      · exact absurd (Int.mul_pos_of_neg_of_neg (by omega) (by omega)) h
  have s1 := sg b0 c0 k1
  have s2 := sg a0 c0 k2
  have s3 := sg a0 b0 k3
  omega
theorem WK.dir {ss : List Sd} {n : Nat} {k : List Int} (hn : ∀ t ∈ ss, t.2.1 ≠ 0 ∨ t.2.2.1 ≠ 0) (h : WK ss n k) : ∃ x y : Int, k = [x, y] ∧ EdgeWay ss x y := by
  obtain ⟨j, t, _, gt, h⟩ := h
  have mt := List.mem_of_getElem? gt
  have nt := hn t mt
  have one : ∀ X Y : Int, (X ≠ 0 ∨ Y ≠ 0) → t.2.1 * X + t.2.2.1 * Y = 0 → k = lowL [X, Y] → wayB ss X Y = true → ∃ x y : Int, k = [x, y] ∧ EdgeWay ss x y := fun X Y nXY e ek hw => by
    obtain ⟨x, y, exy, gp, _, low, _⟩ := dir_low nXY
    have ex : x = X / (gcdL [X, Y] : Int) ∧ y = Y / (gcdL [X, Y] : Int) := by
      have z : [X / (gcdL [X, Y] : Int), Y / (gcdL [X, Y] : Int)] = [x, y] := exy
      cases z
      exact ⟨rfl, rfl⟩
    refine ⟨x, y, ek.trans exy, low, fun u hu => ?_, t, mt, nt, ?_⟩
    · have z := way_low (ss := ss) gp
      rw [hw, ← ex.1, ← ex.2] at z
      exact of_decide_eq_true (List.all_eq_true.mp z u hu)
    · have g0 : (0 : Int) < (gcdL [X, Y] : Int) := by omega
      have eX := lowL_mul (ns := [X, Y]) (n := X) (by simp)
      have eY := lowL_mul (ns := [X, Y]) (n := Y) (by simp)
      rw [← ex.1] at eX
      rw [← ex.2] at eY
      have z : (t.2.1 * x + t.2.2.1 * y) * (gcdL [X, Y] : Int) = 0 := by
        rw [Int.add_mul, Int.mul_assoc, Int.mul_assoc, eX, eY]
        exact e
      rcases Int.mul_eq_zero.mp z with z | z
      · exact z
      · omega
  rcases h with ⟨e, hw⟩ | ⟨e, hw⟩
  · exact one _ _ (by omega) (by rw [Int.mul_neg, Int.mul_comm t.2.2.1]; omega) e hw
  · exact one _ _ (by omega) (by rw [Int.mul_neg, Int.mul_comm t.2.2.1]; omega) e hw
theorem ways_few {ss : List Sd} {n : Nat} {ks : List (List Int)} (hn : ∀ t ∈ ss, t.2.1 ≠ 0 ∨ t.2.2.1 ≠ 0) (nd : ks.Nodup) (h : ∀ k ∈ ks, WK ss n k) : ks.length ≤ 2 := by
  match ks, nd, h with
  | [], _, _ => exact Nat.zero_le _
  | [_], _, _ => exact (by decide : 1 ≤ 2)
  | [_, _], _, _ => exact Nat.le_refl 2
  | a :: b :: c :: r, nd, h =>
    obtain ⟨x1, y1, rfl, w1⟩ := (h a (by simp)).dir hn
    obtain ⟨x2, y2, rfl, w2⟩ := (h b (by simp)).dir hn
    obtain ⟨x3, y3, rfl, w3⟩ := (h c (by simp)).dir hn
    simp only [List.nodup_cons, List.mem_cons, not_or] at nd
    exact (three_ways w1 w2 w3 (fun z => nd.1.1 (by rw [z.1, z.2])) (fun z => nd.1.2.1 (by rw [z.1, z.2])) (fun z => nd.2.1.1 (by rw [z.1, z.2]))).elim
end Sea

namespace Sea
open PySem L2
def dt (s g : P3) : Int := s.1 * g.1 + s.2.1 * g.2.1
theorem tn_anti (s t : P3) : tn s t = -tn t s := by
  unfold tn
  rw [Int.mul_comm s.1, Int.mul_comm s.2.1]
  omega
theorem tn_self (s : P3) : tn s s = 0 := by
  unfold tn
  rw [Int.mul_comm]
  omega
theorem cone_id (t e g : P3) : tn t e * (g.1 * g.1 + g.2.1 * g.2.1) = tn t g * dt e g + tn g e * dt t g := by
  unfold tn dt
  simp only [Int.mul_sub, Int.sub_mul, Int.mul_add, Int.add_mul, Int.mul_comm, Int.mul_left_comm]
  omega
theorem pluck (t u e g : P3) : tn t u * tn e g = tn t e * tn u g + tn t g * tn e u := by
  unfold tn
  simp only [Int.mul_sub, Int.sub_mul, Int.mul_comm, Int.mul_left_comm]
  omega
theorem pos_of_mul {x y : Int} (h : 0 < x * y) (hy : 0 < y) : 0 < x := by
  by_cases c : 0 < x
  · exact c
  · have := Int.mul_nonneg (show 0 ≤ -x by omega) (Int.le_of_lt hy)
    rw [Int.neg_mul] at this
    omega
theorem count_lt {α : Type} {p q : α → Bool} : ∀ {l : List α}, (∀ a ∈ l, p a = true → q a = true) → (∃ a ∈ l, q a = true ∧ p a = false) → l.countP p < l.countP q
  | [], _, ⟨_, h, _⟩ => nomatch h
  | x :: l, h, ⟨a, ha, q1, p1⟩ => by
    have le : l.countP p ≤ l.countP q := List.countP_mono_left fun b hb => h b (List.mem_cons_of_mem _ hb)
    rw [List.countP_cons, List.countP_cons]
    rcases List.mem_cons.mp ha with rfl | ha
    · rw [q1, p1]
      simp
      omega
    · have z := count_lt (fun b hb => h b (List.mem_cons_of_mem _ hb)) ⟨a, ha, q1, p1⟩
      by_cases hx : p x = true
      · rw [hx, h x (List.mem_cons_self ..) hx]
        omega
      · have hx' : p x = false := by simpa using hx
        rw [hx', if_neg (by decide)]
        omega
structure Bound (ss : List Sd) (g : P3) : Prop where
  nz : ∀ t ∈ ss, t.2.1 ≠ 0 ∨ t.2.2.1 ≠ 0
  gz : g.1 ≠ 0 ∨ g.2.1 ≠ 0
  ways : ∀ t ∈ ss, ∀ h : Int, (h = 1 ∨ h = -1) → (∀ s ∈ ss, tn t.2 s.2 * h ≤ 0) → tn t.2 g * h ≤ 0
  lead : ¬ ∀ s ∈ ss, dt s.2 g ≤ 0
  one : ∀ t ∈ ss, tn t.2 g = 0 → 0 < dt t.2 g → ∀ P : P3, 0 < P.2.2 → sv t.2 P = 0 → ¬ inW ss P
theorem Bound.right {ss : List Sd} {g : P3} (B : Bound ss g) (two : ∀ t ∈ ss, 0 < tn t.2 g → ∃ e ∈ ss, 0 < tn t.2 e.2 ∧ (∀ u ∈ ss, 0 < tn t.2 u.2 → sv u.2 (pt3 (crL t.2 e.2)) ≤ 0) ∧ ¬ (0 < tn g e.2 ∧ inW ss (pt3 (crL t.2 e.2)))) :
    ∀ (n : Nat) (t : Sd), t ∈ ss → 0 < tn t.2 g → ss.countP (fun u => decide (0 < tn u.2 g) && decide (0 < tn t.2 u.2)) < n → ∀ P : P3, 0 < P.2.2 → sv t.2 P = 0 → inW ss P → False
  | 0, _, _, _, h, _, _, _, _ => absurd h (Nat.not_lt_zero _)
  | n + 1, t, mt, ht, hc, P, pw, oP, wP => by
    have hN := nn_pos (B.nz t mt)
    obtain ⟨e, me, he, ha, hno⟩ := two t mt ht
    obtain ⟨j, gj⟩ := List.getElem?_of_mem me
    have w1 := end_in (h := 1) (by decide) hN oP pw wP gj (by omega) (fun u hu hp => ha u hu (by omega))
    obtain ⟨sp, c1, c2⟩ := cr_ok (show tn t.2 e.2 ≠ 0 by omega)
    have hge : ¬ 0 < tn g e.2 := fun z => hno ⟨z, w1⟩
    have an := tn_anti g e.2
    by_cases h0 : tn g e.2 = 0
    · have k := cone_id t.2 e.2 g
      rw [h0, Int.zero_mul, Int.add_zero] at k
      have p := Int.mul_pos he (nn_pos B.gz)
      rw [k, Int.mul_comm] at p
      exact B.one e me (by omega) (pos_of_mul p ht) _ sp.pos c2 w1
    · have heg : 0 < tn e.2 g := by omega
      refine Bound.right B two n e me heg (Nat.lt_of_lt_of_le (count_lt (q := fun u => decide (0 < tn u.2 g) && decide (0 < tn t.2 u.2)) (fun u hu hp => ?_) ⟨e, me, ?_, ?_⟩) (Nat.le_of_lt_succ hc)) _ sp.pos c2 w1
      · rw [Bool.and_eq_true, decide_eq_true_iff, decide_eq_true_iff] at hp ⊢
        refine ⟨hp.1, ?_⟩
        have k := pluck t.2 u.2 e.2 g
        have p1 := Int.mul_pos he hp.1
        have p2 := Int.mul_pos ht hp.2
        exact pos_of_mul (y := tn e.2 g) (by omega) heg
      · rw [decide_eq_true heg, decide_eq_true he]
        rfl
      · rw [decide_eq_false (p := 0 < tn e.2 e.2) (by rw [tn_self]; decide), Bool.and_false]
theorem Bound.left {ss : List Sd} {g : P3} (B : Bound ss g) (rt : ∀ t ∈ ss, 0 < tn t.2 g → ∀ P : P3, 0 < P.2.2 → sv t.2 P = 0 → inW ss P → False) :
    ∀ (n : Nat) (t : Sd), t ∈ ss → 0 < tn g t.2 → ss.countP (fun u => decide (0 < tn g u.2) && decide (0 < tn u.2 t.2)) < n → ∀ P : P3, 0 < P.2.2 → sv t.2 P = 0 → inW ss P → False
  | 0, _, _, _, h, _, _, _, _ => absurd h (Nat.not_lt_zero _)
  | n + 1, t, mt, ht, hc, P, pw, oP, wP => by
    have hN := nn_pos (B.nz t mt)
    have at' := tn_anti t.2 g
    rcases exists_end (h := -1) (by decide) hN ss with no | ⟨e, me, he, ha⟩
    · have := B.ways t mt (-1) (.inr rfl) no
      omega
    · obtain ⟨j, gj⟩ := List.getElem?_of_mem me
      have w1 := end_in (h := -1) (by decide) hN oP pw wP gj he ha
      obtain ⟨sp, c1, c2⟩ := cr_ok (ne_hand he)
      have a1 := tn_anti t.2 e.2
      have a2 := tn_anti g e.2
      have het : 0 < tn e.2 t.2 := by omega
      by_cases h1 : 0 < tn e.2 g
      · exact rt e me h1 _ sp.pos c2 w1
      · by_cases h0 : tn e.2 g = 0
        · have k := cone_id e.2 t.2 g
          rw [h0, Int.zero_mul, Int.zero_add] at k
          have p := Int.mul_pos het (nn_pos B.gz)
          rw [k, Int.mul_comm] at p
          exact B.one e me h0 (pos_of_mul p ht) _ sp.pos c2 w1
        · have hge : 0 < tn g e.2 := by omega
          refine Bound.left B rt n e me hge (Nat.lt_of_lt_of_le (count_lt (q := fun u => decide (0 < tn g u.2) && decide (0 < tn u.2 t.2)) (fun u hu hp => ?_) ⟨e, me, ?_, ?_⟩) (Nat.le_of_lt_succ hc)) _ sp.pos c2 w1
          · rw [Bool.and_eq_true, decide_eq_true_iff, decide_eq_true_iff] at hp ⊢
            refine ⟨hp.1, ?_⟩
            have k := pluck u.2 t.2 e.2 g
            have p1 := Int.mul_pos hp.2 ht
            have p2 := Int.mul_pos hp.1 het
            have e1 : tn u.2 t.2 * tn g e.2 = tn u.2 e.2 * tn g t.2 + tn g u.2 * tn e.2 t.2 := by
              have b1 := tn_anti e.2 g
              have b2 := tn_anti u.2 g
              rw [b1, at', b2, Int.mul_neg, Int.mul_neg, Int.neg_mul] at k
              omega
            exact pos_of_mul (y := tn g e.2) (by omega) hge
          · rw [decide_eq_true hge, decide_eq_true het]
            rfl
          · rw [decide_eq_false (p := 0 < tn e.2 e.2) (by rw [tn_self]; decide), Bool.and_false]
theorem no_far {ss : List Sd} {g : P3} (B : Bound ss g) (two : ∀ t ∈ ss, 0 < tn t.2 g → ∃ e ∈ ss, 0 < tn t.2 e.2 ∧ (∀ u ∈ ss, 0 < tn t.2 u.2 → sv u.2 (pt3 (crL t.2 e.2)) ≤ 0) ∧ ¬ (0 < tn g e.2 ∧ inW ss (pt3 (crL t.2 e.2))))
    {z : P3} (zw : 0 < z.2.2) (wz : inW ss z) : False := by
  have rt : ∀ t ∈ ss, 0 < tn t.2 g → ∀ P : P3, 0 < P.2.2 → sv t.2 P = 0 → inW ss P → False := fun t mt ht => B.right two _ t mt ht (Nat.lt_succ_self _)
  have lf : ∀ t ∈ ss, 0 < tn g t.2 → ∀ P : P3, 0 < P.2.2 → sv t.2 P = 0 → inW ss P → False := fun t mt ht => B.left rt _ t mt ht (Nat.lt_succ_self _)
  let e0 : P3 := (g.2.1 * z.2.2, -(g.1 * z.2.2), g.2.1 * z.1 - g.1 * z.2.1)
  have o0 : sv e0 z = 0 := by
    show g.2.1 * z.2.2 * z.1 + -(g.1 * z.2.2) * z.2.1 - (g.2.1 * z.1 - g.1 * z.2.1) * z.2.2 = 0
    simp only [Int.sub_mul, Int.mul_sub, Int.neg_mul, Int.mul_neg, Int.mul_comm, Int.mul_left_comm]
    omega
  have t0 : ∀ t : P3, tn e0 t = dt t g * z.2.2 := fun t => by
    show g.2.1 * z.2.2 * t.2.1 - -(g.1 * z.2.2) * t.1 = (t.1 * g.1 + t.2.1 * g.2.1) * z.2.2
    simp only [Int.add_mul, Int.mul_add, Int.neg_mul, Int.mul_neg, Int.mul_comm, Int.mul_left_comm]
    omega
  have n0 : e0.1 ≠ 0 ∨ e0.2.1 ≠ 0 := by
    rcases B.gz with h | h
    · right
      show -(g.1 * z.2.2) ≠ 0
      have := Int.mul_ne_zero h (show z.2.2 ≠ 0 by omega)
      omega
    · left
      exact Int.mul_ne_zero h (by omega)
  have hN := nn_pos n0
  rcases exists_end (h := 1) (by decide) hN ss with no | ⟨t, mt, ht, ha⟩
  · refine B.lead fun s hs => ?_
    have := no s hs
    rw [t0, Int.mul_one] at this
    by_cases c : dt s.2 g ≤ 0
    · exact c
    · have := Int.mul_pos (show 0 < dt s.2 g by omega) zw
      omega
  · obtain ⟨j, gj⟩ := List.getElem?_of_mem mt
    have w1 := end_in (h := 1) (by decide) hN o0 zw wz gj ht ha
    obtain ⟨sp, c1, c2⟩ := cr_ok (ne_hand ht)
    have hd : 0 < dt t.2 g := by
      rw [t0, Int.mul_one] at ht
      exact pos_of_mul ht zw
    have an := tn_anti g t.2
    by_cases h1 : 0 < tn t.2 g
    · exact rt t mt h1 _ sp.pos c2 w1
    · by_cases h0 : tn t.2 g = 0
      · exact B.one t mt h0 hd _ sp.pos c2 w1
      · exact lf t mt (by omega) _ sp.pos c2 w1
end Sea

namespace L2
open PySem PySem.Spec PyProof.Rows PySem.W
def TupF (h : Heap) (v : Value) (x : Int) : Prop := ∃ (a : Addr) (o : Obj) (n : Nat) (t : Tok) (rest : List Value), v = .ref a ∧ h.get? a = some o ∧ o.cls = .type "tuple" ∧ o.data = .seq (Value.int x t :: rest).toArray n
theorem TupF.keep {h h' : Heap} {v : Value} {x : Int} (e : TupF h v x) (k : ∀ b o, h.get? b = some o → h'.get? b = some o) : TupF h' v x := by
  obtain ⟨a, o, n, t, r, e1, e2, e3⟩ := e
  exact ⟨a, o, n, t, r, e1, k _ _ e2, e3⟩
theorem sort_two : kas_sort 2 = .ask 1 0 fun c => if c = true then .ret #[1, 0] else .ret #[0, 1] := by
  have e : kas_sort 2 = .ask 1 0 fun c => match c with | true => .ret #[1, 0] | false => .ret #[0, 1] := by
    unfold kas_sort
    show KasT.ask 1 0 _ = _
    congr 1
    funext c
    cases c <;> rfl
  rw [e]
  congr 1
  funext c
  cases c <;> rfl
section
variable {prog : Program} {w : World} {A : Around} {E : Value → Shared → Prop} {s : Shared}
theorem lt_firsts {u v : Value} {x y : Int} {C : Bool → Shared → Prop} (hu : TupF s.heap u x) (hv : TupF s.heap v y) (hn : x ≠ y) (h : C (decide (x < y)) s) : wpAny (model prog w) A (keyLt' (tuples' true) u v) C E s := by
  obtain ⟨p, o, n, t, us, rfl, ho, _, hd⟩ := hu
  obtain ⟨q, o', n', t', ws, rfl, ho', _, hd'⟩ := hv
  refine kat_lt ho hd ho' hd' ?_
  show KatLex prog w A true _ C ((Value.int x t, Value.int y t') :: us.zip ws) 0 s
  refine kat_cons (wpAny_eqBool_int ?_)
  rw [show (x == y) = false from by simpa using hn]
  exact kat_no (oneLt_int h)
theorem sorted_two {l : Addr} {u v : Value} {x y : Int} {Q : Value → Shared → Prop} (hl : s.heap.IsList l [u, v].toArray) (hu : TupF s.heap u x) (hv : TupF s.heap v y) (hn : x ≠ y)
    (h : Q (.ref (s.heap.objs.size + 1)) { s with heap := sortedAll s.heap [u, v] (if y < x then [v, u] else [u, v]).toArray }) :
    wpAny (model prog w) A (call (.builtin "sorted") [.ref l]) Q E s := by
  refine tsorted (κ := tuples' true) (G := fun out => out = if y < x then [v, u] else [u, v]) hl (by show 2 < 64; decide) (fun h2 s' kp E' Q' hq => ?_) (fun h2 s' kp => ?_) (fun h2 => absurd (show 2 < 2 from h2) (by decide)) fun out hz e => by rw [e]; exact h
  · have hu' := hu.keep kp
    have hv' := hv.keep kp
    obtain ⟨p, o, n, t, us, e1, ho, hc, hd⟩ := hu'
    obtain ⟨q, o', n', t', ws, e2, ho', hc', hd'⟩ := hv'
    have a1 : KatTups s'.heap [u, v] [.int x t, .int y t'] := by
      rw [e1, e2]
      exact KatTups.cons ho hc hd rfl (KatTups.cons ho' hc' hd' rfl .nil)
    refine kat_kind (T := Value.type "int") a1 (by show 0 < 2; decide) (fun z hz => ?_) rfl (by first | exact hq | (rw [show (Value.type "int" != Value.type "tuple") = true from by first | decide | simp]; exact hq))
    rcases List.mem_cons.mp hz with rfl | hz
    · exact .now
    · rw [List.mem_singleton] at hz
      rw [hz]
      exact .now
  · rw [show [u, v].length = 2 from rfl, sort_two]
    show kas_ask prog w A.in1.in1 (tuples' true) [u, v] 1 0 _ s'
    refine lt_firsts (hv.keep kp) (hu.keep kp) (fun z => hn z.symm) ?_
    by_cases c : y < x
    · rw [decide_eq_true c, if_pos c]
      exact ⟨rfl, rfl⟩
    · rw [decide_eq_false c, if_neg c]
      exact ⟨rfl, rfl⟩
end
section
variable {X : Cx}
theorem call_sorted2 : CallR X (.builtin "sorted") (fun xs H Q => ∃ (l a b : Addr) (x y : Int) (us ws : List V), xs = [.ref l] ∧ SqL X.K H l [.ref a, .ref b] ∧ H a = some (.tup (.int x :: us)) ∧ H b = some (.tup (.int y :: ws)) ∧ x ≠ y ∧
    ∀ p : Addr, H p = none → Q (.ref p) (upd H p (.lst (if y < x then [.ref b, .ref a] else [.ref a, .ref b])))) := by
  intro pins s σ H xs us Q I r h
  obtain ⟨l, a, b, x, y, us', ws', rfl, hq, ha, hb, hn, q⟩ := h
  obtain ⟨u, rfl, ru⟩ := Vals.one r
  cases ru
  obtain ⟨its, rv, pl, hz⟩ := I.list hq
  have ei := refs_of (rs := [a, b]) rv
  subst ei
  have tf : ∀ {a : Addr} {x : Int} {us : List V}, H a = some (.tup (.int x :: us)) → TupF s.heap (.ref a) x := fun {a x us} ha => by
    obtain ⟨its, r1, ⟨o, e, c, n, d⟩, _⟩ := I.tuple (SqT.of ha)
    cases r1 with
    | cons p1 q1 =>
      obtain ⟨t, rfl⟩ := p1
      exact ⟨_, o, n, t, _, rfl, e, c, d⟩
  refine sorted_two (u := .ref a) (v := .ref b) pl.isList (tf ha) (tf hb) hn ?_
  have fr : H (s.heap.objs.size + 1) = none := I.hok.fresh (Nat.le_succ _)
  by_cases c : y < x
  · rw [if_pos c]
    have q' := q _ fr
    rw [if_pos c] at q'
    obtain ⟨e, at'⟩ := sortedAll_at s.heap [.ref a, .ref b] [Value.ref b, Value.ref a].toArray
    exact ⟨.ref (s.heap.objs.size + 1), _, I.laid (t' := s.toks) (a := s.heap.objs.size + 1) (o := .lst [.ref b, .ref a]) (fun b ob q => sortedAll_old q) (Nat.le_succ _) ⟨(by show 2 ≤ sizeLine; rw [sizeLine_eq]; decide), _, e, vals_refs [b, a], at'⟩, rfl, q'⟩
  · rw [if_neg c]
    have q' := q _ fr
    rw [if_neg c] at q'
    obtain ⟨e, at'⟩ := sortedAll_at s.heap [.ref a, .ref b] [Value.ref a, Value.ref b].toArray
    exact ⟨.ref (s.heap.objs.size + 1), _, I.laid (t' := s.toks) (a := s.heap.objs.size + 1) (o := .lst [.ref a, .ref b]) (fun b ob q => sortedAll_old q) (Nat.le_succ _) ⟨(by show 2 ≤ sizeLine; rw [sizeLine_eq]; decide), _, e, vals_refs [a, b], at'⟩, rfl, q'⟩
def tOrT (K : PySem.W.Frag) (ta tb : TE) : TE := fun σ H Q => ta σ H fun x H1 => ∃ k, TruV K x H1 k ∧ if k = true then Q x H1 else tb σ H1 Q
theorem pe_orT {a b : Expr} {rest : List Expr} {pos : Pos} {ta tb : TE} (ha : PE X a ta) (hb : PE X (.BoolOp .Or (b :: rest) pos) tb) : PE X (.BoolOp .Or (a :: b :: rest) pos) (tOrT X.K ta tb) := by
  intro pins s σ H Q I h
  refine BoolOp_or (thn (ha pins s σ H _ I h) fun v s1 ⟨x, H1, I1, r1, q1⟩ => ?_)
  obtain ⟨k, tk, q1⟩ := q1
  refine thn (tru_ok pins s1 σ H1 x v (fun c H2 => H2 = H1 ∧ c = k) I1 r1 ⟨k, tk, rfl, rfl⟩) fun c s2 ⟨H2, I2, e, ec⟩ => ?_
  subst e ec
  cases c with
  | false => exact hb pins s2 σ H2 Q I2 q1
  | true => exact ⟨x, H2, I2, r1, q1⟩
end
theorem ifSf {a b : Str} {A B : Prop} (h : a ≠ b) (hB : B) : if decide (V.str a = V.str b) = true then A else B := by
  rw [decide_eq_false (fun z => h (by injection z))]
  exact hB
theorem ifSt {a : Str} {A B : Prop} (hA : A) : if decide (V.str a = V.str a) = true then A else B := by
  rw [decide_eq_true rfl]
  exact hA
end L2

namespace Sea
open PySem L2
def Far (ss : List Sd) (g P : P3) (ws : List (Int × Int × Int)) : Prop :=
  (∃ (i : Nat) (p q : Int) (s : Sd), ws = [((i : Int), p, q)] ∧ ss[i]? = some s ∧ 0 < p ∧ 0 < q ∧ p ≤ 10 ^ 19 ∧ q ≤ 10 ^ 19 ∧ Nat.gcd p.natAbs q.natAbs = 1 ∧ p * s.2.1 = q * g.1 ∧ p * s.2.2.1 = q * g.2.1 ∧ sv s.2 P = 0) ∨
  ∃ (i j : Nat) (p q p' q' : Int) (s t : Sd), ws = [((i : Int), p, q), ((j : Int), p', q')] ∧ i < j ∧ ss[i]? = some s ∧ ss[j]? = some t ∧ (0 < p ∧ 0 < q ∧ p ≤ 10 ^ 19 ∧ q ≤ 10 ^ 19 ∧ Nat.gcd p.natAbs q.natAbs = 1) ∧ (0 < p' ∧ 0 < q' ∧ p' ≤ 10 ^ 19 ∧ q' ≤ 10 ^ 19 ∧ Nat.gcd p'.natAbs q'.natAbs = 1) ∧
    p * s.2.1 * q' + p' * t.2.1 * q = q * q' * g.1 ∧ p * s.2.2.1 * q' + p' * t.2.2.1 * q = q * q' * g.2.1 ∧ sv s.2 P = 0 ∧ sv t.2 P = 0
theorem absI_neg (x : Int) : absI (-x) = absI x := by
  unfold absI
  split <;> split <;> omega
theorem par_same {s g : P3} (ht : tn s g = 0) (hd : 0 < dt s g) : span2 g.1 g.2.1 * s.1 = span2 s.1 s.2.1 * g.1 ∧ span2 g.1 g.2.1 * s.2.1 = span2 s.1 s.2.1 * g.2.1 := by
  have cr : g.1 * s.2.1 = g.2.1 * s.1 := by
    unfold tn at ht
    rw [Int.mul_comm g.1, Int.mul_comm g.2.1]
    rw [Int.mul_comm s.1, Int.mul_comm s.2.1] at ht
    rw [Int.mul_comm s.2.1 g.1, Int.mul_comm s.1 g.2.1]
    omega
  have pr : 0 ≤ (g.1 * -s.1) * (g.2.1 * -s.2.1) := by
    have e0 : (g.1 * -s.1) * (g.2.1 * -s.2.1) = (g.1 * s.2.1) * (g.2.1 * s.1) := by
      simp only [Int.mul_neg, Int.neg_mul, Int.neg_neg, Int.mul_comm, Int.mul_left_comm]
    rw [e0, ← cr]
    exact sq_nn _
  obtain ⟨o1, o2⟩ := neg_neg_of (show g.1 * -s.1 + g.2.1 * -s.2.1 < 0 by
    unfold dt at hd
    rw [Int.mul_neg, Int.mul_neg, Int.mul_comm g.1, Int.mul_comm g.2.1]
    omega) pr
  have cn : g.1 * -s.2.1 = g.2.1 * -s.1 := by rw [Int.mul_neg, Int.mul_neg, cr]
  have a1 := par (e1 := g.1) (e2 := g.1) (s1 := -s.1) (s2 := -s.1) rfl o1
  have a2 := par (e1 := g.1) (e2 := g.2.1) (s1 := -s.1) (s2 := -s.2.1) cn o2
  have a3 := par (e1 := g.2.1) (e2 := g.1) (s1 := -s.2.1) (s2 := -s.1) cn.symm o1
  have a4 := par (e1 := g.2.1) (e2 := g.2.1) (s1 := -s.2.1) (s2 := -s.2.1) rfl o2
  rw [absI_neg, Int.mul_neg] at a1 a2 a3 a4
  unfold span2
  constructor
  · rw [Int.add_mul, Int.add_mul]
    omega
  · rw [Int.add_mul, Int.add_mul]
    omega
theorem cancel {x y k : Int} (hk : k ≠ 0) (h : x * k = y * k) : x = y := Int.eq_of_mul_eq_mul_right hk h
theorem pos_part {t b x y : Int} (pt : PartOf t b x y) (ht : 0 < t) (hb : 0 < b) : 0 < x ∧ 0 < y := by
  have hy := pt.pos
  refine ⟨?_, by omega⟩
  have e := pt.eq
  have p := Int.mul_pos (show 0 < y by omega) ht
  rw [← e] at p
  exact pos_of_mul p hb
theorem far_one {ss : List Sd} {g P : P3} {i : Nat} {s : Sd} {x y : Int} (gs : ss[i]? = some s) (ns : s.2.1 ≠ 0 ∨ s.2.2.1 ≠ 0) (ng : g.1 ≠ 0 ∨ g.2.1 ≠ 0) (ht : tn s.2 g = 0) (hd : 0 < dt s.2 g) (pt : PartOf (span2 g.1 g.2.1) (span2 s.2.1 s.2.2.1) x y) (b1 : span2 g.1 g.2.1 ≤ 10 ^ 19) (b2 : span2 s.2.1 s.2.2.1 ≤ 10 ^ 19) (on : sv s.2 P = 0) : Far ss g P [((i : Int), x, y)] := by
  obtain ⟨e1, e2⟩ := par_same ht hd
  have pS := span2_pos ns
  have pG := span2_pos ng
  obtain ⟨px, py⟩ := pos_part pt pG pS
  have xl := pt.xle
  have yl := pt.yle
  have e := pt.eq
  refine .inl ⟨i, x, y, s, rfl, gs, px, py, by omega, by omega, pt.low, ?_, ?_, on⟩
  · refine cancel (k := span2 s.2.1 s.2.2.1) (by omega) ?_
    rw [Int.mul_right_comm, e, Int.mul_assoc, show span2 g.1 g.2.1 * s.2.1 = span2 s.2.1 s.2.2.1 * g.1 from e1, Int.mul_assoc, Int.mul_comm g.1]
  · refine cancel (k := span2 s.2.1 s.2.2.1) (by omega) ?_
    rw [Int.mul_right_comm, e, Int.mul_assoc, show span2 g.1 g.2.1 * s.2.2.1 = span2 s.2.1 s.2.2.1 * g.2.1 from e2, Int.mul_assoc, Int.mul_comm g.2.1]
theorem cone_two (s t g : P3) : tn g t * s.1 + tn s g * t.1 = tn s t * g.1 ∧ tn g t * s.2.1 + tn s g * t.2.1 = tn s t * g.2.1 := by
  unfold tn
  constructor
  · simp only [Int.sub_mul, Int.mul_sub, Int.mul_comm, Int.mul_left_comm]
    omega
  · simp only [Int.sub_mul, Int.mul_sub, Int.mul_comm, Int.mul_left_comm]
    omega
theorem two_sum {p q p' q' A B W a b c : Int} (hW : W ≠ 0) (h1 : p * W = q * A) (h2 : p' * W = q' * B) (h : A * a + B * b = W * c) : p * a * q' + p' * b * q = q * q' * c := by
  refine cancel hW ?_
  have e : (p * a * q' + p' * b * q) * W = p * W * (a * q') + p' * W * (b * q) := by
    simp only [Int.add_mul, Int.mul_add, Int.mul_comm, Int.mul_left_comm]
  rw [e, h1, h2]
  have e2 : q * A * (a * q') + q' * B * (b * q) = q * q' * (A * a + B * b) := by
    simp only [Int.mul_add, Int.add_mul, Int.mul_comm, Int.mul_left_comm]
  rw [e2, h]
  simp only [Int.mul_comm, Int.mul_left_comm]
theorem far_two {ss : List Sd} {g P : P3} {i j : Nat} {s t : Sd} {p q p' q' : Int} (gs : ss[i]? = some s) (gt : ss[j]? = some t) (hW : 0 < tn s.2 t.2) (hA : 0 < tn g t.2) (hB : 0 < tn s.2 g) (p1 : PartOf (tn g t.2) (tn s.2 t.2) p q) (p2 : PartOf (tn s.2 g) (tn s.2 t.2) p' q')
    (bA : tn g t.2 ≤ 10 ^ 19) (bB : tn s.2 g ≤ 10 ^ 19) (bW : tn s.2 t.2 ≤ 10 ^ 19) (o1 : sv s.2 P = 0) (o2 : sv t.2 P = 0) (hij : i ≠ j) : Far ss g P (if j < i then [((j : Int), p', q'), ((i : Int), p, q)] else [((i : Int), p, q), ((j : Int), p', q')]) := by
  obtain ⟨c1, c2⟩ := cone_two s.2 t.2 g
  obtain ⟨a1, a2⟩ := pos_part p1 hA hW
  obtain ⟨a3, a4⟩ := pos_part p2 hB hW
  have x1 := p1.xle
  have x2 := p1.yle
  have x3 := p2.xle
  have x4 := p2.yle
  have k1 := two_sum (show tn s.2 t.2 ≠ 0 by omega) p1.eq p2.eq c1
  have k2 := two_sum (show tn s.2 t.2 ≠ 0 by omega) p1.eq p2.eq c2
  have w1 : 0 < p ∧ 0 < q ∧ p ≤ 10 ^ 19 ∧ q ≤ 10 ^ 19 ∧ Nat.gcd p.natAbs q.natAbs = 1 := ⟨a1, a2, by omega, by omega, p1.low⟩
  have w2 : 0 < p' ∧ 0 < q' ∧ p' ≤ 10 ^ 19 ∧ q' ≤ 10 ^ 19 ∧ Nat.gcd p'.natAbs q'.natAbs = 1 := ⟨a3, a4, by omega, by omega, p2.low⟩
  by_cases c : j < i
  · rw [if_pos c]
    refine .inr ⟨j, i, p', q', p, q, t, s, rfl, c, gt, gs, w2, w1, ?_, ?_, o2, o1⟩
    · rw [Int.mul_comm q' q]
      have z : p * s.2.1 * q' + p' * t.2.1 * q = q * q' * g.1 := k1
      omega
    · rw [Int.mul_comm q' q]
      have z : p * s.2.2.1 * q' + p' * t.2.2.1 * q = q * q' * g.2.1 := k2
      omega
  · rw [if_neg c]
    exact .inr ⟨i, j, p, q, p', q', s, t, rfl, by omega, gs, gt, w1, w2, k1, k2, o1, o2⟩
theorem on_two {a b c x y w : Int} (h : a * x + b * y - c * w = 0) : a * x + b * y = c * w := by omega
theorem ft_small {t : P3} (h : t.1 ≠ 0 ∨ t.2.1 ≠ 0) (b1 : t.1.natAbs ≤ 10 ^ 9) (b2 : t.2.1.natAbs ≤ 10 ^ 9) (b3 : t.2.2.natAbs ≤ 10 ^ 13) : (pt3 (ftL t)).1.natAbs ≤ 10 ^ 40 ∧ (pt3 (ftL t)).2.1.natAbs ≤ 10 ^ 40 ∧ (pt3 (ftL t)).2.2.natAbs ≤ 10 ^ 40 := by
  have hw := nn_pos h
  obtain ⟨x, y, w, el, sp⟩ := spot_low (X := t.1 * t.2.2) (Y := t.2.1 * t.2.2) (W := t.1 * t.1 + t.2.1 * t.2.1) (by omega)
  have e1 : ftL t = [x, y, w] := el
  rw [e1]
  have z1 := natAbs_mul_le t.1 t.2.2 b1 b3
  have z2 := natAbs_mul_le t.2.1 t.2.2 b2 b3
  have z3 := natAbs_mul_le t.1 t.1 b1 b1
  have z4 := natAbs_mul_le t.2.1 t.2.1 b2 b2
  have x1 := sp.xle
  have x2 := sp.yle
  have x3 := sp.wle
  refine ⟨?_, ?_, ?_⟩
  · show x.natAbs ≤ 10 ^ 40
    omega
  · show y.natAbs ≤ 10 ^ 40
    omega
  · show w.natAbs ≤ 10 ^ 40
    omega
theorem Cand.small {ss : List Sd} {P : P3} (c : Cand ss P) (sm : ∀ t ∈ ss, (t.2.1 ≠ 0 ∨ t.2.2.1 ≠ 0) ∧ t.2.1.natAbs ≤ 10 ^ 9 ∧ t.2.2.1.natAbs ≤ 10 ^ 9 ∧ t.2.2.2.natAbs ≤ 10 ^ 13) : P.1.natAbs ≤ 10 ^ 40 ∧ P.2.1.natAbs ≤ 10 ^ 40 ∧ P.2.2.natAbs ≤ 10 ^ 40 := by
  rcases c with rfl | ⟨t, mt, rfl⟩ | ⟨t, mt, u, mu, h, rfl⟩
  · exact ⟨by decide, by decide, by decide⟩
  · obtain ⟨n, b1, b2, b3⟩ := sm t mt
    exact ft_small n b1 b2 b3
  · obtain ⟨_, b1, b2, b3⟩ := sm t mt
    obtain ⟨_, d1, d2, d3⟩ := sm u mu
    exact cr_small h b1 b2 b3 d1 d2 d3
end Sea

namespace Sea
open PySem L2
theorem Far.most {ss : List Sd} {g P : P3} {ws : List (Int × Int × Int)} (h : Far ss g P ws) {z : P3} (zw : 0 < z.2.2) (pw : 0 < P.2.2) (wz : inW ss z) : (g.1 * z.1 + g.2.1 * z.2.1) * P.2.2 ≤ (g.1 * P.1 + g.2.1 * P.2.1) * z.2.2 := by
  have fin : ∀ {X Y k : Int}, 0 < k → X * k ≤ Y * k → X ≤ Y := fun hk h => Int.le_of_mul_le_mul_right h hk
  rcases h with ⟨i, p, q, s, rfl, gs, hp, hq, _, _, _, e1, e2, on⟩ | ⟨i, j, p, q, p', q', s, t, rfl, hij, gs, gt, ⟨hp, hq, _⟩, ⟨hp', hq', _⟩, e1, e2, o1, o2⟩
  · refine fin hq ?_
    have a1 : (g.1 * z.1 + g.2.1 * z.2.1) * P.2.2 * q = p * (s.2.1 * z.1 + s.2.2.1 * z.2.1) * P.2.2 := by
      have z1 : (g.1 * z.1 + g.2.1 * z.2.1) * P.2.2 * q = (q * g.1 * z.1 + q * g.2.1 * z.2.1) * P.2.2 := by
        simp only [Int.add_mul, Int.mul_add, Int.mul_comm, Int.mul_left_comm]
      rw [z1, ← e1, ← e2]
      simp only [Int.add_mul, Int.mul_add, Int.mul_comm, Int.mul_left_comm]
    have a2 : (g.1 * P.1 + g.2.1 * P.2.1) * z.2.2 * q = p * (s.2.1 * P.1 + s.2.2.1 * P.2.1) * z.2.2 := by
      have z1 : (g.1 * P.1 + g.2.1 * P.2.1) * z.2.2 * q = (q * g.1 * P.1 + q * g.2.1 * P.2.1) * z.2.2 := by
        simp only [Int.add_mul, Int.mul_add, Int.mul_comm, Int.mul_left_comm]
      rw [z1, ← e1, ← e2]
      simp only [Int.add_mul, Int.mul_add, Int.mul_comm, Int.mul_left_comm]
    have o := on_two (show s.2.1 * P.1 + s.2.2.1 * P.2.1 - s.2.2.2 * P.2.2 = 0 from on)
    have wi : s.2.1 * z.1 + s.2.2.1 * z.2.1 - s.2.2.2 * z.2.2 ≤ 0 := wz s (List.mem_of_getElem? gs)
    rw [a1, a2, o]
    have b1 : p * (s.2.1 * z.1 + s.2.2.1 * z.2.1) * P.2.2 ≤ p * (s.2.2.2 * z.2.2) * P.2.2 := Int.mul_le_mul_of_nonneg_right (Int.mul_le_mul_of_nonneg_left (by omega) (Int.le_of_lt hp)) (Int.le_of_lt pw)
    refine Int.le_trans b1 (Int.le_of_eq ?_)
    simp only [Int.mul_comm, Int.mul_left_comm]
  · refine fin (Int.mul_pos hq hq') ?_
    have key : ∀ v : P3, (g.1 * v.1 + g.2.1 * v.2.1) * (q * q') = p * q' * (s.2.1 * v.1 + s.2.2.1 * v.2.1) + p' * q * (t.2.1 * v.1 + t.2.2.1 * v.2.1) := fun v => by
      have z1 : (g.1 * v.1 + g.2.1 * v.2.1) * (q * q') = (q * q' * g.1) * v.1 + (q * q' * g.2.1) * v.2.1 := by
        simp only [Int.add_mul, Int.mul_add, Int.mul_comm, Int.mul_left_comm]
      rw [z1, ← e1, ← e2]
      simp only [Int.add_mul, Int.mul_add, Int.mul_comm, Int.mul_left_comm]
      omega
    rw [Int.mul_right_comm, key z, Int.mul_right_comm (g.1 * P.1 + g.2.1 * P.2.1), key P]
    have oa := on_two (show s.2.1 * P.1 + s.2.2.1 * P.2.1 - s.2.2.2 * P.2.2 = 0 from o1)
    have ob := on_two (show t.2.1 * P.1 + t.2.2.1 * P.2.1 - t.2.2.2 * P.2.2 = 0 from o2)
    have wi : s.2.1 * z.1 + s.2.2.1 * z.2.1 - s.2.2.2 * z.2.2 ≤ 0 := wz s (List.mem_of_getElem? gs)
    have wj : t.2.1 * z.1 + t.2.2.1 * z.2.1 - t.2.2.2 * z.2.2 ≤ 0 := wz t (List.mem_of_getElem? gt)
    rw [oa, ob]
    have c1 := Int.mul_le_mul_of_nonneg_left (show s.2.1 * z.1 + s.2.2.1 * z.2.1 ≤ s.2.2.2 * z.2.2 by omega) (Int.le_of_lt (Int.mul_pos hp hq'))
    have c2 := Int.mul_le_mul_of_nonneg_left (show t.2.1 * z.1 + t.2.2.1 * z.2.1 ≤ t.2.2.2 * z.2.2 by omega) (Int.le_of_lt (Int.mul_pos hp' hq))
    have b1 := Int.mul_le_mul_of_nonneg_right (Int.add_le_add c1 c2) (Int.le_of_lt pw)
    refine Int.le_trans b1 (Int.le_of_eq ?_)
    simp only [Int.add_mul, Int.mul_add, Int.mul_comm, Int.mul_left_comm]
theorem inW_app {ss : List Sd} {e : Sd} {z : P3} : inW (ss ++ [e]) z ↔ inW ss z ∧ sv e.2 z ≤ 0 := by
  constructor
  · intro h
    exact ⟨fun t ht => h t (List.mem_append_left _ ht), h e (List.mem_append_right _ (List.mem_singleton.mpr rfl))⟩
  · rintro ⟨h1, h2⟩ t ht
    rcases List.mem_append.mp ht with ht | ht
    · exact h1 t ht
    · rw [List.mem_singleton] at ht
      rw [ht]
      exact h2
structure FarNums (x y m : Int) (P : P3) : Prop where
  a1 : (-x * P.2.2).natAbs ≤ 10 ^ 60
  a2 : (-y * P.2.2).natAbs ≤ 10 ^ 60
  top : (x * P.1 + y * P.2.1).natAbs ≤ 10 ^ 60
  t0 : (-(x * P.1 + y * P.2.1)).natAbs ≤ 10 ^ 60
  t1 : (-(x * P.1 + y * P.2.1) - 1).natAbs ≤ 10 ^ 60
  u1 : (-x * P.2.2 * m).natAbs ≤ 10 ^ 60
  u2 : (-y * P.2.2 * m).natAbs ≤ 10 ^ 60
  u3 : (-(x * P.1 + y * P.2.1) * m - 1).natAbs ≤ 10 ^ 60
  nw : -x * P.2.2 ≠ 0 ∨ -y * P.2.2 ≠ 0
  nm : -x * P.2.2 * m ≠ 0 ∨ -y * P.2.2 * m ≠ 0
  wd : P.2.2.natAbs ≤ 10 ^ 60
end Sea

namespace L2
open PySem PySem.Spec PyProof.Rows
section
variable {prog : Program} {w : World} {A : Around} {E : Value → Shared → Prop}
end
section
variable {X : Cx} {pos : Pos}
end
end L2

namespace Sea
open PySem L2
def awB (N : Nat) : List (Int × Int) → Int → Bool
  | [], _ => true
  | c :: cs, least => if least ≤ c.1 ∧ c.1 < N ∧ 1 ≤ c.2 then awB N cs (c.1 + 1) else false
def sideAt (ss : List Sd) (f : Sd → Int) (n : Int) : Int := match ss[n.toNat]? with
  | some t => f t
  | none => 0
def sumF (ss : List Sd) (f : Sd → Int) : List (Int × Int) → Int → Int
  | [], T => T
  | c :: cs, T => sumF ss f cs (T + c.2 * sideAt ss f c.1)
def fAt (k : Int) (t : Sd) : Int := if k = 0 then t.2.1 else if k = 1 then t.2.2.1 else t.2.2.2
theorem part_one {t b x y : Int} (hb : b = 1) (p : PartOf t b x y) : x = t ∧ y = 1 := by
  subst hb
  have h1 := p.pos
  have h2 := p.yle
  have hy : y = 1 := by
    have : (1 : Int).natAbs = 1 := rfl
    omega
  have h3 := p.eq
  rw [hy] at h3
  exact ⟨by omega, hy⟩
abbrev Wo := Addr × Addr × Int × Int
def woRefs (ws : List Wo) : List V := ws.map fun t => V.ref t.1
def WoAt (H : Hp) (ws : List Wo) : Prop := ∀ t ∈ ws, H t.1 = some (.tup [.int t.2.2.1, .ref t.2.1]) ∧ H t.2.1 = some (.tup [.int t.2.2.2, .int 1])
theorem WoAt.same {H H' : Hp} {ws : List Wo} (h : WoAt H ws) (s : Same H H') : WoAt H' ws := fun t ht => ⟨s _ _ (h t ht).1, s _ _ (h t ht).2⟩
theorem woRefs_length (ws : List Wo) : (woRefs ws).length = ws.length := List.length_map ..
theorem refsOf_get {ps : List Pr} {i : Nat} {v : V} (h : (refsOf ps)[i]? = some v) : ∃ t, ps[i]? = some t ∧ v = .ref t.1 ∧ i < ps.length := by
  unfold refsOf at h
  rw [List.getElem?_map, List.getElem?_map] at h
  cases e : ps[i]? with
  | none => rw [e] at h; cases h
  | some t =>
    rw [e] at h
    cases h
    exact ⟨t, rfl, rfl, (List.getElem?_eq_some_iff.mp e).1⟩
structure PrSt (H0 : Hp) (D : Addr) (cs : List Pr) (H : Hp) : Prop where
  same : Same H0 H
  new : H0 D = none
  at' : H D = some (.lst (refsOf cs))
  all : PrAt H cs
def firsts (n : Nat) (cs : List Pr) : List Pr := cs.filter fun c => decide (c.2.1 < (n : Int))
theorem sumF_eq (ss : List Sd) (f : Sd → Int) : ∀ (cs : List (Int × Int)) (T : Int), sumF ss f cs T = T + (cs.map fun c => c.2 * sideAt ss f c.1).sum
  | [], T => by simp [sumF]
  | c :: cs, T => by
    rw [sumF, sumF_eq ss f cs, List.map_cons, List.sum_cons]
    omega
theorem woAt_app {H H2 : Hp} {W p1 p2 : Addr} {ws : List Wo} {n v : Int} {o : HO} {xs : List V} (h : WoAt H ws) (s : Same H H2) (eW : H2 W = some (.lst xs)) (e2 : H2 p2 = some (.tup [.int n, .ref p1])) (e1 : H2 p1 = some (.tup [.int v, .int 1])) : WoAt (upd H2 W o) (ws ++ [(p2, p1, n, v)]) := fun u hu => by
  have keep : ∀ (b : Addr) (ys : List V), H2 b = some (.tup ys) → upd H2 W o b = some (.tup ys) := fun b ys e => by
    rw [upd_ne (ne_of e eW (by intro z; cases z))]
    exact e
  rcases List.mem_append.mp hu with h' | h'
  · obtain ⟨z1, z2⟩ := (h.same s) u h'
    exact ⟨keep _ _ z1, keep _ _ z2⟩
  · rw [List.mem_singleton] at h'
    subst h'
    exact ⟨keep _ _ e2, keep _ _ e1⟩
end Sea

namespace L2
open PySem PySem.Spec PyProof.Rows
theorem bt_sum : bootBuiltins "sum" = some (.builtin "sum") := by decide +kernel
theorem preSum_all (ns : List Int) : ∀ n, n ≤ ns.length → preSum (fun i => ns.getD i 0) n = (ns.take n).sum
  | 0, _ => by simp [preSum]
  | n + 1, h => by
    have hn : n < ns.length := h
    rw [preSum, preSum_all ns n (Nat.le_of_lt hn), List.take_succ, List.getElem?_eq_getElem hn, List.sum_append]
    simp [List.getD, List.getElem?_eq_getElem hn]
theorem vals_int_at : ∀ {ns : List Int} {us : List Value}, Vals (ns.map V.int) us → ∀ (i : Nat) (v : Value), us[i]? = some v → ∃ t, v = .int (ns.getD i 0) t
  | [], us, r, i, v, h => by
    have e := Vals.zero r
    subst e
    simp at h
  | n :: ns, us, r, i, v, h => by
    cases r with
    | cons r1 r2 =>
      match i, h with
      | 0, h =>
        obtain ⟨t, rfl⟩ := r1
        exact ⟨t, (Option.some.inj h).symm⟩
      | i + 1, h => exact vals_int_at r2 i v h
section
variable {X : Cx}
theorem call_sumI (hc : X.calm = true) : CallR X (.builtin "sum") (fun xs H Q => ∃ (p : Addr) (ns : List Int), xs = [.ref p] ∧ SqL X.K H p (ns.map V.int) ∧ Q (.int ns.sum) H) := by
  intro pins s σ H xs us Q I r h
  obtain ⟨p, ns, rfl, hq, q⟩ := h
  obtain ⟨u, rfl, r1⟩ := vals1 r
  cases r1
  obtain ⟨its, rv, pl, hz⟩ := I.list hq
  have hL : s.heap.IsList p its.toArray := pl.isList
  have hlt : p < s.heap.objs.size := by obtain ⟨o, ho, _⟩ := hL; exact Heap.lt_size ho
  have nn : its.length = ns.length := by
    have z := rv.length
    rw [List.length_map] at z
    exact z.symm
  refine call_sum_walkG (wpAny_pyIter_list hL ?_)
  refine ⟨_, [_, p], [_], _, _, _, fun i => ns.getD i 0, rfl, Walks.list (A := X.A.in1) (I.ok.hd hc) _ p (Nat.ne_of_lt hlt) its.toArray,
    ⟨⟨_, Heap.get?_push_size _ rfl, rfl, rfl⟩, hL.push _⟩, fun c hc => ?_, fun i v hv => vals_int_at rv i v (by simpa using hv), fun h' tk t' hk => ?_⟩
  · have sz : (s.heap.push { cls := .type "list_iterator", data := .fields #[.ref p, .int 0 0] }).objs.size = s.heap.objs.size + 1 := Heap.size_push ..
    show c < (s.heap.push { cls := .type "list_iterator", data := .fields #[.ref p, .int 0 0] }).objs.size
    rw [sz]
    simp only [List.mem_cons, List.not_mem_nil, or_false] at hc
    rcases hc with e | e
    · rw [e]; exact Nat.lt_succ_self _
    · rw [e]; exact Nat.lt_succ_of_lt hlt
  · refine ⟨.int ns.sum, H, I.kept (t' := tk) fun c o e => hk c o (fun hm => ?_) (Heap.get?_push_of_some _ e), ⟨t', ?_⟩, q⟩
    · have e1 := List.mem_singleton.mp hm
      have z := Heap.lt_size e
      rw [e1] at z
      exact Nat.lt_irrefl _ z
    · have e : its.toArray.size = ns.length := by simp [nn]
      rw [e, preSum_all ns ns.length (Nat.le_refl _), List.take_length]
end
end L2

namespace Sea
open PySem L2
structure PIb (t : TE) (σ : St) (i : Int) (n : Nat) : Prop where
  rd : ∀ (H : Hp) (Q : VK), Q (.int i) H → t σ H Q
  le : i.natAbs ≤ n
section
variable {σ : St} {ta tb : TE} {i j : Int} {m n : Nat}
theorem PIb.var {k : Nat} (h : σ[k]? = some (some (.int i))) (hn : i.natAbs ≤ n) : PIb (tVar k) σ i n := ⟨fun _ _ q => ⟨_, h, q⟩, hn⟩
theorem PIb.con (h : i.natAbs ≤ n) : PIb (tC (.int i)) σ i n := ⟨fun _ _ q => q, h⟩
theorem PIb.add (a : PIb ta σ i m) (b : PIb tb σ j n) : PIb (tOp (rI0 fun i j => .int (i + j)) ta tb) σ (i + j) (m + n) :=
  ⟨fun _ _ q => a.rd _ _ (b.rd _ _ ⟨i, j, rfl, rfl, q⟩), Nat.le_trans (Int.natAbs_add_le ..) (Nat.add_le_add a.le b.le)⟩
theorem PIb.sub (a : PIb ta σ i m) (b : PIb tb σ j n) : PIb (tOp (rI0 fun i j => .int (i - j)) ta tb) σ (i - j) (m + n) :=
  ⟨fun _ _ q => a.rd _ _ (b.rd _ _ ⟨i, j, rfl, rfl, q⟩), Nat.le_trans (Int.natAbs_sub_le ..) (Nat.add_le_add a.le b.le)⟩
theorem PIb.neg (a : PIb ta σ i m) : PIb (tUn (rU fun i => .int (-i)) ta) σ (-i) m := ⟨fun _ _ q => a.rd _ _ ⟨i, rfl, q⟩, by rw [Int.natAbs_neg]; exact a.le⟩
theorem PIb.mul (a : PIb ta σ i m) (b : PIb tb σ j n) (h : m ≤ 10 ^ 9) : PIb (tOp (rI CMul fun i j => .int (i * j)) ta tb) σ (i * j) (m * n) :=
  ⟨fun _ _ q => a.rd _ _ (b.rd _ _ ⟨i, j, rfl, rfl, .inl ⟨by have := a.le; omega, by have := a.le; omega⟩, q⟩), natAbs_mul_le i j a.le b.le⟩
end
def PPs (M : Nat) (ta : TA) (σ : St) (vs : List (Int × Int)) : Prop := ∀ (H : Hp) (Q : List V → Hp → Prop), (∀ (ps : List Pr) (H' : Hp), Same H H' → PrOk H' M ps → ps.map (·.2) = vs → Q (refsOf ps) H') → ta σ H Q
theorem PPs.nil {M : Nat} {σ : St} : PPs M tNil σ [] := fun H _ q => q [] H (Same.refl _) (fun _ ht => nomatch ht) rfl
theorem PPs.cons {M m n : Nat} {σ : St} {ta tb : TE} {tr : TA} {i j : Int} {vs : List (Int × Int)} (a : PIb ta σ i m) (b : PIb tb σ j n) (r : PPs M tr σ vs) (hm : m ≤ M := by decide) (hn : n ≤ M := by decide) : PPs M (tCons (tTup (tCons ta (tCons tb tNil))) tr) σ ((i, j) :: vs) := fun _ _ q =>
  a.rd _ _ (b.rd _ _ ⟨(by show 2 ≤ sizeLine; decide), fun p hp => r _ _ fun ps _ s pk e => q ((p, i, j) :: ps) _ ((same_new hp _).trans s) (fun t ht => by
    rcases List.mem_cons.mp ht with h | h
    · rw [h]
      exact ⟨s _ _ upd_same, Nat.le_trans a.le hm, Nat.le_trans b.le hn⟩
    · exact pk t h) (by rw [List.map_cons, e])⟩)
theorem lst_pairs {M : Nat} {σ : St} {ta : TA} {vs : List (Int × Int)} (r : PPs M ta σ vs) {H : Hp} {Q : VK} (n : vs.length ≤ 1000) (q : ∀ (l : Addr) (ps : List Pr) (H' : Hp), Same H H' → H l = none → H' l = some (.lst (refsOf ps)) → PrOk H' M ps → ps.map (·.2) = vs → Q (.ref l) H') : tLst ta σ H Q :=
  r _ _ fun ps _ s pk e => ⟨by
    rw [refsOf_length, ← List.length_map (f := (·.2)), e]
    exact Nat.le_of_lt (small1000 n), fun l hl => q l ps _ (s.trans (same_new hl _)) (s.free hl) upd_same (pk.same (same_new hl _)) e⟩
theorem args_pairs {M : Nat} {σ : St} {ta tr : TA} {vs : List (Int × Int)} (r : PPs M ta σ vs) {H : Hp} {K : List V → Hp → Prop} (n : vs.length ≤ 1000) (q : ∀ (l : Addr) (ps : List Pr) (H' : Hp), Same H H' → H l = none → H' l = some (.lst (refsOf ps)) → PrOk H' M ps → ps.map (·.2) = vs → tr σ H' fun xs H2 => K (.ref l :: xs) H2) : tCons (tLst ta) tr σ H K :=
  lst_pairs (Q := fun x H1 => tr σ H1 fun xs H2 => K (x :: xs) H2) r n q
abbrev rwRefs (xs : List (Addr × List Pr)) : List V := (xs.map (·.1)).map V.ref
structure Leads (G : Hp) (lo : Addr) (M : Nat) (xs : List (Addr × List Pr)) : Prop where
  at' : G lo = some (.lst (rwRefs xs))
  all : ∀ u ∈ xs, u.1 ≠ lo ∧ G u.1 = some (.lst (refsOf u.2)) ∧ PrOk G M u.2
theorem Leads.same {G G2 : Hp} {lo : Addr} {M : Nat} {xs : List (Addr × List Pr)} (L : Leads G lo M xs) (s : Same G G2) : Leads G2 lo M xs := ⟨s _ _ L.at', fun u hu => ⟨(L.all u hu).1, s _ _ (L.all u hu).2.1, (L.all u hu).2.2.same s⟩⟩
theorem Leads.app {G : Hp} {lo l : Addr} {M : Nat} {xs : List (Addr × List Pr)} {ps : List Pr} (L : Leads G lo M xs) (n : l ≠ lo) (e : G l = some (.lst (refsOf ps))) (pk : PrOk G M ps) : Leads (upd G lo (.lst (rwRefs xs ++ [.ref l]))) lo M (xs ++ [(l, ps)]) := by
  have pr : ∀ {qs : List Pr} {o : HO}, PrOk G M qs → PrOk (upd G lo o) M qs := fun h t ht => ⟨by rw [upd_ne (ne_of (h t ht).1 L.at' (by intro z; cases z))]; exact (h t ht).1, (h t ht).2⟩
  refine ⟨by rw [upd_same]; simp [rwRefs], fun u hu => ?_⟩
  rcases List.mem_append.mp hu with h | h
  · obtain ⟨h1, h2, h3⟩ := L.all u h
    exact ⟨h1, by rw [upd_ne h1]; exact h2, pr h3⟩
  · rw [List.mem_singleton] at h
    subst h
    exact ⟨n, by show upd G lo _ l = _; rw [upd_ne n]; exact e, pr pk⟩
theorem prOk_put {G : Hp} {lo : Addr} {M : Nat} {xs : List V} {qs : List Pr} (e : G lo = some (.lst xs)) (h : PrOk G M qs) (o : HO) : PrOk (upd G lo o) M qs := fun t ht => ⟨by rw [upd_ne (ne_of (h t ht).1 e (by intro z; cases z))]; exact (h t ht).1, (h t ht).2⟩
theorem lst_four {M : Nat} {σ : St} {t0 t1 t2 t3 : TA} {v0 v1 v2 v3 : List (Int × Int)} (r0 : PPs M t0 σ v0) (r1 : PPs M t1 σ v1) (r2 : PPs M t2 σ v2) (r3 : PPs M t3 σ v3) {H : Hp} {Q : VK} (n0 : v0.length ≤ 1000) (n1 : v1.length ≤ 1000) (n2 : v2.length ≤ 1000) (n3 : v3.length ≤ 1000)
    (q : ∀ (lo : Addr) (xs : List (Addr × List Pr)) (H' : Hp), Same H H' → H lo = none → Leads H' lo M xs → xs.map (fun u => u.2.map (·.2)) = [v0, v1, v2, v3] → Q (.ref lo) H') : tLst (tCons (tLst t0) (tCons (tLst t1) (tCons (tLst t2) (tCons (tLst t3) tNil)))) σ H Q := by
  show (tCons (tLst t0) (tCons (tLst t1) (tCons (tLst t2) (tCons (tLst t3) tNil)))) σ H (fun xs H1 => xs.length ≤ sizeLine ∧ ∀ p, H1 p = none → Q (.ref p) (upd H1 p (.lst xs)))
  refine args_pairs r0 n0 fun l0 p0 G0 s0 h0 e0 k0 m0 => ?_
  refine args_pairs r1 n1 fun l1 p1 G1 s1 h1 e1 k1 m1 => ?_
  refine args_pairs r2 n2 fun l2 p2 G2 s2 h2 e2 k2 m2 => ?_
  refine args_pairs r3 n3 fun l3 p3 G3 s3 h3 e3 k3 m3 => ?_
  refine ⟨(by show 4 ≤ sizeLine; decide), fun lo hlo => ?_⟩
  have so := same_new hlo (.lst [.ref l0, .ref l1, .ref l2, .ref l3])
  have ne : ∀ {l : Addr} {o : HO}, G3 l = some o → l ≠ lo := fun e z => by rw [z, hlo] at e; cases e
  have f0 := s3 _ _ (s2 _ _ (s1 _ _ e0))
  have f1 := s3 _ _ (s2 _ _ e1)
  have f2 := s3 _ _ e2
  refine q lo [(l0, p0), (l1, p1), (l2, p2), (l3, p3)] _ ((((s0.trans s1).trans s2).trans s3).trans so) ((((s0.trans s1).trans s2).trans s3).free hlo) ⟨upd_same, fun u hu => ?_⟩ (by simp only [List.map_cons, List.map_nil, m0, m1, m2, m3])
  simp only [List.mem_cons, List.not_mem_nil, or_false] at hu
  rcases hu with rfl | rfl | rfl | rfl
  · exact ⟨ne f0, so _ _ f0, (((k0.same s1).same s2).same s3).same so⟩
  · exact ⟨ne f1, so _ _ f1, ((k1.same s2).same s3).same so⟩
  · exact ⟨ne f2, so _ _ f2, (k2.same s3).same so⟩
  · exact ⟨ne e3, so _ _ e3, k3.same so⟩
theorem seq_four {M : Nat} {σ : St} {t0 t1 t2 t3 : TA} {v0 v1 v2 v3 : List (Int × Int)} {H : Hp} {g : TG} {u : TS} {D : Ends} (r0 : PPs M t0 σ v0) (r1 : PPs M t1 σ v1) (r2 : PPs M t2 σ v2) (r3 : PPs M t3 σ v3) (n0 : v0.length ≤ 1000) (n1 : v1.length ≤ 1000) (n2 : v2.length ≤ 1000) (n3 : v3.length ≤ 1000)
    (q : ∀ (lo : Addr) (xs : List (Addr × List Pr)) (H' : Hp), Same H H' → H lo = none → Leads H' lo M xs → xs.map (fun u => u.2.map (·.2)) = [v0, v1, v2, v3] → g (.ref lo) σ H' (u D)) : tSeq (tAsg (tLst (tCons (tLst t0) (tCons (tLst t1) (tCons (tLst t2) (tCons (tLst t3) tNil))))) g) u D σ H :=
  lst_four (Q := fun x H1 => g x σ H1 (u D)) r0 r1 r2 r3 n0 n1 n2 n3 q
theorem seq_pairs {M : Nat} {σ : St} {ta : TA} {vs : List (Int × Int)} {H : Hp} {g : TG} {u : TS} {D : Ends} (r : PPs M ta σ vs) (n : vs.length ≤ 1000) (q : ∀ (l : Addr) (ps : List Pr) (H' : Hp), Same H H' → H l = none → H' l = some (.lst (refsOf ps)) → PrOk H' M ps → ps.map (·.2) = vs → g (.ref l) σ H' (u D)) : tSeq (tAsg (tLst ta) g) u D σ H :=
  lst_pairs (Q := fun x H1 => g x σ H1 (u D)) r n q
end Sea

-- LAW
namespace Sea
open PySem L2
structure Zs (mg : Str → Option Value) : Prop where
  abs : mg "abs" = none
  all : mg "all" = none
  any : mg "any" = none
  enumerate : mg "enumerate" = none
  len : mg "len" = none
  list : mg "list" = none
  max : mg "max" = none
  range : mg "range" = none
  sorted : mg "sorted" = none
  sum : mg "sum" = none
  tuple : mg "tuple" = none
theorem sc_p_common_factor : FnScope ["numbers", "shared", "number", "rest", "smaller"] ["numbers"] (defScope s_p_common_factor) := ⟨rfl, rfl, rfl, by decide +kernel, rfl, by decide +kernel, by decide +kernel⟩
theorem sc_p_lowest : FnScope ["numbers", "shared"] ["numbers"] (defScope s_p_lowest) := ⟨rfl, rfl, rfl, by decide +kernel, rfl, by decide +kernel, by decide +kernel⟩
theorem sc_p_upright : FnScope ["numbers"] ["numbers"] (defScope s_p_upright) := ⟨rfl, rfl, rfl, by decide +kernel, rfl, by decide +kernel, by decide +kernel⟩
theorem sc_p_part : FnScope ["top", "bottom"] ["top", "bottom"] (defScope s_p_part) := ⟨rfl, rfl, rfl, by decide +kernel, rfl, by decide +kernel, by decide +kernel⟩
theorem sc_p_spot : FnScope ["x", "y", "w"] ["x", "y", "w"] (defScope s_p_spot) := ⟨rfl, rfl, rfl, by decide +kernel, rfl, by decide +kernel, by decide +kernel⟩
theorem sc_p_turn : FnScope ["one", "other"] ["one", "other"] (defScope s_p_turn) := ⟨rfl, rfl, rfl, by decide +kernel, rfl, by decide +kernel, by decide +kernel⟩
theorem sc_p_along : FnScope ["one", "other"] ["one", "other"] (defScope s_p_along) := ⟨rfl, rfl, rfl, by decide +kernel, rfl, by decide +kernel, by decide +kernel⟩
theorem sc_p_plain : FnScope ["direction"] ["direction"] (defScope s_p_plain) := ⟨rfl, rfl, rfl, by decide +kernel, rfl, by decide +kernel, by decide +kernel⟩
theorem sc_p_plain_side : FnScope ["side"] ["side"] (defScope s_p_plain_side) := ⟨rfl, rfl, rfl, by decide +kernel, rfl, by decide +kernel, by decide +kernel⟩
theorem sc_p_beyond : FnScope ["side", "spot"] ["side", "spot"] (defScope s_p_beyond) := ⟨rfl, rfl, rfl, by decide +kernel, rfl, by decide +kernel, by decide +kernel⟩
theorem sc_p_holds : FnScope ["side", "spot"] ["side", "spot"] (defScope s_p_holds) := ⟨rfl, rfl, rfl, by decide +kernel, rfl, by decide +kernel, by decide +kernel⟩
theorem sc_p_crossing : FnScope ["one", "other", "w", "x", "y"] ["one", "other"] (defScope s_p_crossing) := ⟨rfl, rfl, rfl, by decide +kernel, rfl, by decide +kernel, by decide +kernel⟩
theorem sc_p_in_water : FnScope ["sides", "place", "side"] ["sides", "place"] (defScope s_p_in_water) := ⟨rfl, rfl, rfl, by decide +kernel, rfl, by decide +kernel, by decide +kernel⟩
theorem sc_p_foot : FnScope ["side"] ["side"] (defScope s_p_foot) := ⟨rfl, rfl, rfl, by decide +kernel, rfl, by decide +kernel, by decide +kernel⟩
theorem sc_p_edge_end : FnScope ["sides", "edge", "hand", "found", "place", "number", "side"] ["sides", "edge", "hand"] (defScope s_p_edge_end) := ⟨rfl, rfl, rfl, by decide +kernel, rfl, by decide +kernel, by decide +kernel⟩
theorem sc_p_edge_ends : FnScope ["sides", "edge", "numbers"] ["sides", "edge"] (defScope s_p_edge_ends) := ⟨rfl, rfl, rfl, by decide +kernel, rfl, by decide +kernel, by decide +kernel⟩
theorem sc_p_spot_on_edge : FnScope ["sides", "edge", "place"] ["sides", "edge"] (defScope s_p_spot_on_edge) := ⟨rfl, rfl, rfl, by decide +kernel, rfl, by decide +kernel, by decide +kernel⟩
theorem sc_p_sought : FnScope ["sides", "place", "number"] ["sides"] (defScope s_p_sought) := ⟨rfl, rfl, rfl, by decide +kernel, rfl, by decide +kernel, by decide +kernel⟩
theorem sc_p_some_spot : FnScope ["sides"] ["sides"] (defScope s_p_some_spot) := ⟨rfl, rfl, rfl, by decide +kernel, rfl, by decide +kernel, by decide +kernel⟩
theorem sc_p_is_way : FnScope ["sides", "direction", "side"] ["sides", "direction"] (defScope s_p_is_way) := ⟨rfl, rfl, rfl, by decide +kernel, rfl, by decide +kernel, by decide +kernel⟩
theorem sc_p_ways : FnScope ["sides", "found", "side", "direction"] ["sides"] (defScope s_p_ways) := ⟨rfl, rfl, rfl, by decide +kernel, rfl, by decide +kernel, by decide +kernel⟩
theorem sc_p_span : FnScope ["direction"] ["direction"] (defScope s_p_span) := ⟨rfl, rfl, rfl, by decide +kernel, rfl, by decide +kernel, by decide +kernel⟩
theorem sc_p_weighed : FnScope ["numbers", "weights", "least"] ["numbers", "weights"] (defScope s_p_weighed) := ⟨rfl, rfl, rfl, by decide +kernel, rfl, by decide +kernel, by decide +kernel⟩
theorem sc_p_clash_of_three : FnScope ["sides", "last", "edge", "numbers", "one", "other", "weights"] ["sides", "last"] (defScope s_p_clash_of_three) := ⟨rfl, rfl, rfl, by decide +kernel, rfl, by decide +kernel, by decide +kernel⟩
theorem sc_p_clash : FnScope ["sides", "last", "edge", "number", "side"] ["sides"] (defScope s_p_clash) := ⟨rfl, rfl, rfl, by decide +kernel, rfl, by decide +kernel, by decide +kernel⟩
theorem sc_p_way_onward : FnScope ["sides", "direction", "way"] ["sides", "direction"] (defScope s_p_way_onward) := ⟨rfl, rfl, rfl, by decide +kernel, rfl, by decide +kernel, by decide +kernel⟩
theorem sc_p_far_by_one : FnScope ["sides", "direction", "number", "side", "place"] ["sides", "direction"] (defScope s_p_far_by_one) := ⟨rfl, rfl, rfl, by decide +kernel, rfl, by decide +kernel, by decide +kernel⟩
theorem sc_p_weights_of_two : FnScope ["sides", "numbers", "direction", "one", "other", "whole", "shares"] ["sides", "numbers", "direction"] (defScope s_p_weights_of_two) := ⟨rfl, rfl, rfl, by decide +kernel, rfl, by decide +kernel, by decide +kernel⟩
theorem sc_p_far_by_two : FnScope ["sides", "direction", "number", "one", "end", "place"] ["sides", "direction"] (defScope s_p_far_by_two) := ⟨rfl, rfl, rfl, by decide +kernel, rfl, by decide +kernel, by decide +kernel⟩
theorem sc_p_reach : FnScope ["sides", "direction", "shown", "way"] ["sides", "direction"] (defScope s_p_reach) := ⟨rfl, rfl, rfl, by decide +kernel, rfl, by decide +kernel, by decide +kernel⟩
theorem sc_p_stretch_way : FnScope ["start", "end"] ["start", "end"] (defScope s_p_stretch_way) := ⟨rfl, rfl, rfl, by decide +kernel, rfl, by decide +kernel, by decide +kernel⟩
theorem sc_p_stretch_side : FnScope ["start", "end", "way"] ["start", "end"] (defScope s_p_stretch_side) := ⟨rfl, rfl, rfl, by decide +kernel, rfl, by decide +kernel, by decide +kernel⟩
theorem sc_p_bank_sides : FnScope ["corners", "following"] ["corners"] (defScope s_p_bank_sides) := ⟨rfl, rfl, rfl, by decide +kernel, rfl, by decide +kernel, by decide +kernel⟩
theorem sc_p_word_of_cannot : FnScope ["sides", "shown", "shares", "east", "north"] ["sides", "shown"] (defScope s_p_word_of_cannot) := ⟨rfl, rfl, rfl, by decide +kernel, rfl, by decide +kernel, by decide +kernel⟩
theorem sc_p_gone_beyond : FnScope ["edge", "place", "way", "left", "steps"] ["edge", "place", "way"] (defScope s_p_gone_beyond) := ⟨rfl, rfl, rfl, by decide +kernel, rfl, by decide +kernel, by decide +kernel⟩
theorem sc_p_beyond_or_weights : FnScope ["sides", "edge", "told"] ["sides", "edge"] (defScope s_p_beyond_or_weights) := ⟨rfl, rfl, rfl, by decide +kernel, rfl, by decide +kernel, by decide +kernel⟩
theorem sc_p_bank_word : FnScope ["sides", "corners", "shown", "edges", "apart", "weights", "edge", "told"] ["sides", "corners"] (defScope s_p_bank_word) := ⟨rfl, rfl, rfl, by decide +kernel, rfl, by decide +kernel, by decide +kernel⟩
theorem sc_L_low : FnScope ["_law_one", "_law_other"] ["_law_one", "_law_other"] (defScope s_L_low) := ⟨rfl, rfl, rfl, by decide +kernel, rfl, by decide +kernel, by decide +kernel⟩
theorem sc_L_spot_of : FnScope ["_law_x", "_law_y", "_law_w", "_law_by"] ["_law_x", "_law_y", "_law_w"] (defScope s_L_spot_of) := ⟨rfl, rfl, rfl, by decide +kernel, rfl, by decide +kernel, by decide +kernel⟩
theorem sc_L_meet : FnScope ["_law_one", "_law_other", "_law_by"] ["_law_one", "_law_other"] (defScope s_L_meet) := ⟨rfl, rfl, rfl, by decide +kernel, rfl, by decide +kernel, by decide +kernel⟩
theorem sc_L_has : FnScope ["_law_sides_here", "_law_place", "_law_x", "_law_y", "_law_w"] ["_law_sides_here", "_law_place"] (defScope s_L_has) := ⟨rfl, rfl, rfl, by decide +kernel, rfl, by decide +kernel, by decide +kernel⟩
theorem sc_L_corners_of : FnScope ["_law_sides_here", "_law_found", "_law_at", "_law_one", "_law_other", "_law_place"] ["_law_sides_here"] (defScope s_L_corners_of) := ⟨rfl, rfl, rfl, by decide +kernel, rfl, by decide +kernel, by decide +kernel⟩
theorem sc_L_feet : FnScope ["_law_sides_here"] ["_law_sides_here"] (defScope s_L_feet) := ⟨rfl, rfl, rfl, by decide +kernel, rfl, by decide +kernel, by decide +kernel⟩
theorem sc_L_any_place : FnScope ["_law_sides_here", "_law_place"] ["_law_sides_here"] (defScope s_L_any_place) := ⟨rfl, rfl, rfl, by decide +kernel, rfl, by decide +kernel, by decide +kernel⟩
theorem sc_L_flow : FnScope ["_law_sides_here", "_law_found", "_law_a", "_law_b", "_law_c", "_law_by", "_law_x", "_law_y"] ["_law_sides_here"] (defScope s_L_flow) := ⟨rfl, rfl, rfl, by decide +kernel, rfl, by decide +kernel, by decide +kernel⟩
theorem sc_L_power : FnScope ["_law_number"] ["_law_number"] (defScope s_L_power) := ⟨rfl, rfl, rfl, by decide +kernel, rfl, by decide +kernel, by decide +kernel⟩
theorem sc_L_draws : FnScope ["_law_script", "_law_many_here", "_law_rows", "_law_mix", "_law_cell", "_law_rest"] ["_law_script", "_law_many_here"] (defScope s_L_draws) := ⟨rfl, rfl, rfl, by decide +kernel, rfl, by decide +kernel, by decide +kernel⟩
theorem sc_L_many : FnScope ["_law_one", "_law_two", "_law_few", "_law_most"] ["_law_one", "_law_two", "_law_few", "_law_most"] (defScope s_L_many) := ⟨rfl, rfl, rfl, by decide +kernel, rfl, by decide +kernel, by decide +kernel⟩
theorem sc_L_tight : FnScope ["_law_some", "_law_sides_here"] ["_law_some", "_law_sides_here"] (defScope s_L_tight) := ⟨rfl, rfl, rfl, by decide +kernel, rfl, by decide +kernel, by decide +kernel⟩
theorem sc_L_way : FnScope ["_law_one", "_law_two", "_law_wide", "_law_x", "_law_y"] ["_law_one", "_law_two", "_law_wide"] (defScope s_L_way) := ⟨rfl, rfl, rfl, by decide +kernel, rfl, by decide +kernel, by decide +kernel⟩
theorem sc_L_side : FnScope ["_law_d", "_law_a", "_law_b", "_law_c"] ["_law_d"] (defScope s_L_side) := ⟨rfl, rfl, rfl, by decide +kernel, rfl, by decide +kernel, by decide +kernel⟩
theorem sc_L_sides : FnScope ["_law_some", "_law_many_here", "_law_rows", "_law_x", "_law_y"] ["_law_some", "_law_many_here"] (defScope s_L_sides) := ⟨rfl, rfl, rfl, by decide +kernel, rfl, by decide +kernel, by decide +kernel⟩
theorem sc_L_turned : FnScope ["_law_one", "_law_other"] ["_law_one", "_law_other"] (defScope s_L_turned) := ⟨rfl, rfl, rfl, by decide +kernel, rfl, by decide +kernel, by decide +kernel⟩
theorem sc_L_left_pair : FnScope ["_law_d", "_law_wide", "_law_one", "_law_other"] ["_law_d", "_law_wide"] (defScope s_L_left_pair) := ⟨rfl, rfl, rfl, by decide +kernel, rfl, by decide +kernel, by decide +kernel⟩
theorem sc_L_bank : FnScope ["_law_d", "_law_wide", "_law_one", "_law_other", "_law_x", "_law_y", "_law_p", "_law_q", "_law_leads", "_law_turned_here", "_law_here", "_law_row", "_law_found", "_law_dx", "_law_dy", "_law_at"] ["_law_d", "_law_wide"] (defScope s_L_bank) := ⟨rfl, rfl, rfl, by decide +kernel, rfl, by decide +kernel, by decide +kernel⟩
theorem sc_L_bank_rows : FnScope ["_law_places", "_law_found", "_law_at", "_law_x", "_law_y", "_law_p", "_law_q", "_law_by"] ["_law_places"] (defScope s_L_bank_rows) := ⟨rfl, rfl, rfl, by decide +kernel, rfl, by decide +kernel, by decide +kernel⟩
theorem sc_L_banked : FnScope ["_law_some", "_law_many_here", "_law_sides_here", "_law_places", "_law_x", "_law_y", "_law_a", "_law_b"] ["_law_some"] (defScope s_L_banked) := ⟨rfl, rfl, rfl, by decide +kernel, rfl, by decide +kernel, by decide +kernel⟩
theorem sc_L_beyond : FnScope ["_law_sides_here", "_law_side_here", "_law_a", "_law_b", "_law_c", "_law_rows"] ["_law_sides_here", "_law_side_here"] (defScope s_L_beyond) := ⟨rfl, rfl, rfl, by decide +kernel, rfl, by decide +kernel, by decide +kernel⟩
theorem sc_law : FnScope ["_law_script", "_law_some", "_law_sides_here", "_law_places", "_law_rows", "_law_word"] ["_law_script"] (defScope s_law) := ⟨rfl, rfl, rfl, by decide +kernel, rfl, by decide +kernel, by decide +kernel⟩
section
variable {P : Program} {w : World} {K : PySem.W.Frag} {mg : Str → Option Value} {base : Heap} {f : Addr} {fd : FuncData}
def sp_p_common_factor (K : PySem.W.Frag) : Sp := fun vs H Q _ => ∃ (a : Addr) (ns : List Int), vs = [.ref a] ∧ Sq K H a (ns.map V.int) ∧ Q (.int (gcdL ns)) H
theorem ok_p_common_factor (F : Fun K "common_factor" "common_factor" s_p_common_factor f fd) (Z : Zs mg) : FnOk P w K mg base CX0 1 f fd ["numbers"] (sp_p_common_factor K) := by
  refine F.ok sc_p_common_factor (fun vs H Q E h => ?_) (fun cdv A outer s H vs Q E hr h => ?_)
  · obtain ⟨a, ns, rfl, _⟩ := h
    rfl
  obtain ⟨a, ns, rfl, hS, q⟩ := h
  refine ⟨_, (pss_cons (ps_set (i := 1) sc_p_common_factor.nd rfl (Or.inl rfl) pe_int)
      (pss_cons (ps_for PassesOwn.never rfl (pi_seq (pv 0)) (pg_name (i := 2) sc_p_common_factor.nd rfl (Or.inl rfl)) (pss_cons (ps_set (i := 3) sc_p_common_factor.nd rfl (Or.inl rfl) (pe_callB call_abs rfl Z.abs bt_abs (pa_cons (pv 2) pa_nil)))
      (pss_one (ps_while PassesOwn.never (pt_cmpR op_ne (pv 3) pe_int (nomark _)) (pss_cons (ps_set (i := 4) sc_p_common_factor.nd rfl (Or.inl rfl) (pe_op op_mod (pv 1) (pv 3)))
      (pss_cons (ps_set (i := 1) sc_p_common_factor.nd rfl (Or.inl rfl) (pv 3))
      (pss_one (ps_set (i := 3) sc_p_common_factor.nd rfl (Or.inl rfl) (pv 4)))))))))
      (pss_one (ps_ret (pv 1))))), ?_⟩
  have mono : ∀ (σ : St) (H : Hp) (Q Q' : Bool → Hp → Prop), (∀ b H1, Q b H1 → Q' b H1) → tTest (tOp rNe (tVar 3) (tC (.int 0))) σ H Q → tTest (tOp rNe (tVar 3) (tC (.int 0))) σ H Q' := fun σ H Q Q' hq z => by
    obtain ⟨v, hv, hs, k, hk, z⟩ := z
    exact ⟨v, hv, hs, k, hk, hq _ _ z⟩
  rcases hS with hS | hS
  · refine ⟨_, rfl, a, rfl, .inl ⟨⟨_, hS⟩, for_list (K := K) (a := a) (xs := ns.map V.int) (fun i σ H' => H' = H ∧ ∃ (u v z : Option V), σ = [some (.ref a), some (.int (gcdL (ns.take i))), u, v, z]) ⟨rfl, none, none, none, rfl⟩ (fun i σ H' _ ⟨e, _⟩ => by rw [e]; exact hS) ?_ ?_⟩⟩
    · rintro i x σ H' hi ⟨rfl, u, v, z, rfl⟩
      obtain ⟨n, hn, rfl⟩ := mapInt_get hi
      refine ⟨_, rfl, n, rfl, ?_⟩
      refine while_by (fun σ H1 => H1 = H' ∧ ∃ (g r : Int) (y : Option V), σ = [some (.ref a), some (.int g), some (.int n), some (.int r), y] ∧ 0 ≤ g ∧ 0 ≤ r ∧ Nat.gcd g.toNat r.toNat = gcdL (ns.take (i + 1)))
        (fun σ _ => match σ with | [_, _, _, some (.int r), _] => r.toNat | _ => 0) ⟨rfl, _, _, _, rfl, Int.natCast_nonneg _, by split <;> omega, ?_⟩ ?_ mono
      · rw [take_snoc hn, gcdL_snoc, abs_if]; rfl
      · rintro σ H1 ⟨rfl, g, r, y, rfl, h1, h2, h3⟩
        refine ⟨_, rfl, rfl, _, rfl, ?_⟩
        refine ifNe (fun hr0 => ?_) (fun hr0 => ?_)
        · refine ⟨_, rfl, _, rfl, _, _, rfl, rfl, (by show (0 : Int) < r; omega), _, rfl, _, rfl, ⟨rfl, _, _, _, rfl, h2, Int.emod_nonneg g hr0, ?_⟩, ?_⟩
          · rw [gcd_step h1 (by omega)]; exact h3
          · have h4 := Int.emod_lt_of_pos g (show 0 < r by omega)
            show (g % r).toNat < r.toNat
            omega
        · subst hr0
          have h5 : g = ((gcdL (ns.take (i + 1)) : Nat) : Int) := by
            rw [← h3]
            show g = ((Nat.gcd g.toNat 0 : Nat) : Int)
            rw [Nat.gcd_zero_right]
            omega
          exact ⟨rfl, some (.int n), some (.int 0), y, by rw [h5]⟩
    · rintro σ H' ⟨rfl, u, v, z, rfl⟩
      refine ⟨_, rfl, ?_⟩
      rw [List.length_map, List.take_length]
      exact q
  · refine ⟨_, rfl, a, rfl, .inr ⟨⟨_, hS⟩, for_tup (K := K) (a := a) (xs := ns.map V.int) (fun i σ H' => H' = H ∧ ∃ (u v z : Option V), σ = [some (.ref a), some (.int (gcdL (ns.take i))), u, v, z]) ⟨rfl, none, none, none, rfl⟩ (fun i σ H' _ ⟨e, _⟩ => by rw [e]; exact hS) ?_ ?_⟩⟩
    · rintro i x σ H' hi ⟨rfl, u, v, z, rfl⟩
      obtain ⟨n, hn, rfl⟩ := mapInt_get hi
      refine ⟨_, rfl, n, rfl, ?_⟩
      refine while_by (fun σ H1 => H1 = H' ∧ ∃ (g r : Int) (y : Option V), σ = [some (.ref a), some (.int g), some (.int n), some (.int r), y] ∧ 0 ≤ g ∧ 0 ≤ r ∧ Nat.gcd g.toNat r.toNat = gcdL (ns.take (i + 1)))
        (fun σ _ => match σ with | [_, _, _, some (.int r), _] => r.toNat | _ => 0) ⟨rfl, _, _, _, rfl, Int.natCast_nonneg _, by split <;> omega, ?_⟩ ?_ mono
      · rw [take_snoc hn, gcdL_snoc, abs_if]; rfl
      · rintro σ H1 ⟨rfl, g, r, y, rfl, h1, h2, h3⟩
        refine ⟨_, rfl, rfl, _, rfl, ?_⟩
        refine ifNe (fun hr0 => ?_) (fun hr0 => ?_)
        · refine ⟨_, rfl, _, rfl, _, _, rfl, rfl, (by show (0 : Int) < r; omega), _, rfl, _, rfl, ⟨rfl, _, _, _, rfl, h2, Int.emod_nonneg g hr0, ?_⟩, ?_⟩
          · rw [gcd_step h1 (by omega)]; exact h3
          · have h4 := Int.emod_lt_of_pos g (show 0 < r by omega)
            show (g % r).toNat < r.toNat
            omega
        · subst hr0
          have h5 : g = ((gcdL (ns.take (i + 1)) : Nat) : Int) := by
            rw [← h3]
            show g = ((Nat.gcd g.toNat 0 : Nat) : Int)
            rw [Nat.gcd_zero_right]
            omega
          exact ⟨rfl, some (.int n), some (.int 0), y, by rw [h5]⟩
    · rintro σ H' ⟨rfl, u, v, z, rfl⟩
      refine ⟨_, rfl, ?_⟩
      rw [List.length_map, List.take_length]
      exact q
def sp_p_lowest (K : PySem.W.Frag) : Sp := fun vs H Q _ => ∃ (a : Addr) (ns : List Int), vs = [.ref a] ∧ Sq K H a (ns.map V.int) ∧ ns.length ≤ 1000 ∧ 0 < gcdL ns ∧ (gcdL ns : Int) < 10 ^ 600 ∧
  ∀ (p : Addr) (H' : Hp), Same H H' → H p = none → H' p = some (.tup ((lowL ns).map V.int)) → Q (.ref p) H'
theorem ok_p_lowest (F : Fun K "lowest" "lowest" s_p_lowest f fd) (Z : Zs mg) (h_p_common_factor : Has P w K mg base "common_factor" 1 ["numbers"] (sp_p_common_factor K)) : FnOk P w K mg base CX0 2 f fd ["numbers"] (sp_p_lowest K) := by
  refine F.ok sc_p_lowest (fun vs H Q E h => ?_) (fun cdv A outer s H vs Q E hr h => ?_)
  · obtain ⟨a, ns, rfl, _⟩ := h
    rfl
  obtain ⟨a, ns, rfl, hS, hl, hg, hg2, q⟩ := h
  refine ⟨_, (pss_cons (ps_set (i := 1) sc_p_lowest.nd rfl (Or.inr rfl) (pe_callH h_p_common_factor (hr.mono (by decide)) rfl (pa_cons (pv 0) pa_nil)))
      (pss_one (ps_ret (pe_callTy call_tuple_of rfl Z.tuple bt_tuple (pa_cons (pe_comp (T := ["number"]) (caps := [("shared", 1)]) ⟨rfl, by decide +kernel, by decide +kernel, rfl, ⟨⟨rfl, rfl, Or.inl rfl⟩, True.intro⟩⟩ rfl (pi_seq (pv 0)) (fun _ => (pg_name (i := 0) (show (["number", "shared"] : List Str).Nodup by decide +kernel) rfl (Or.inl rfl))) (fun _ => pifs_nil) (fun _ => (pe_op op_fdivP (pv 0) (pv 1)))) pa_nil))))), ?_⟩
  refine ⟨_, rfl, a, ns, rfl, hS, ?_⟩
  have fin : ∀ (D : Addr) (H' : Hp), H D = none → Same H H' → H' D = some (.lst ((lowL ns).map V.int)) → ∀ l, H' l = none → Q (.ref l) (upd H' l (.tup ((lowL ns).map V.int))) := fun D H' hD hs e l hl =>
    q l _ (hs.trans (same_new hl _)) (hs.free hl) upd_same
  have len : ∀ i, ((ns.take i).map fun n => V.int (n / (gcdL ns : Int))).length < sizeLine := fun i => small1000 (by rw [List.length_map, List.length_take]; omega)
  rcases hS with hS | hS
  · refine ⟨_, rfl, a, rfl, .inl ⟨⟨_, hS⟩, fun c D hD => comp_list0 (K := K) (a := a) (xs := ns.map V.int) (fun i σ ys H' => H' = upd H D (.lst ys) ∧ ys = (ns.take i).map (fun n => V.int (n / (gcdL ns : Int))) ∧ ∃ u, σ = [u, some (.int (gcdL ns))])
      ⟨rfl, rfl, none, rfl⟩ (fun i σ ys H' _ ⟨e, _⟩ => by rw [e]; exact ⟨(same_new hD _).seq hS, upd_same⟩) ?_ ?_⟩⟩
    · rintro i x σ ys H' hi ⟨rfl, rfl, u, rfl⟩
      obtain ⟨n, hn, rfl⟩ := mapInt_get hi
      refine ⟨_, rfl, _, rfl, _, _, rfl, rfl, CDivP.of (by omega) hg2, upd_same, len i, ?_⟩
      refine ⟨upd_upd, ?_, _, rfl⟩
      rw [take_snoc hn, List.map_append]
      rfl
    · rintro σ ys H' ⟨rfl, rfl, u, rfl⟩
      rw [List.length_map, List.take_length]
      have e : (ns.map fun n => V.int (n / (gcdL ns : Int))) = (lowL ns).map V.int := by unfold lowL; rw [List.map_map]; rfl
      rw [e]
      exact ⟨D, _, rfl, .inl ⟨SqL.of upd_same, fin D _ hD (same_new hD _) upd_same⟩⟩
  · refine ⟨_, rfl, a, rfl, .inr ⟨⟨_, hS⟩, fun c D hD => comp_tup0 (K := K) (a := a) (xs := ns.map V.int) (fun i σ ys H' => H' = upd H D (.lst ys) ∧ ys = (ns.take i).map (fun n => V.int (n / (gcdL ns : Int))) ∧ ∃ u, σ = [u, some (.int (gcdL ns))])
      ⟨rfl, rfl, none, rfl⟩ (fun i σ ys H' _ ⟨e, _⟩ => by rw [e]; exact ⟨SqT.same hS (same_new hD _), upd_same⟩) ?_ ?_⟩⟩
    · rintro i x σ ys H' hi ⟨rfl, rfl, u, rfl⟩
      obtain ⟨n, hn, rfl⟩ := mapInt_get hi
      refine ⟨_, rfl, _, rfl, _, _, rfl, rfl, CDivP.of (by omega) hg2, upd_same, len i, ?_⟩
      refine ⟨upd_upd, ?_, _, rfl⟩
      rw [take_snoc hn, List.map_append]
      rfl
    · rintro σ ys H' ⟨rfl, rfl, u, rfl⟩
      rw [List.length_map, List.take_length]
      have e : (ns.map fun n => V.int (n / (gcdL ns : Int))) = (lowL ns).map V.int := by unfold lowL; rw [List.map_map]; rfl
      rw [e]
      exact ⟨D, _, rfl, .inl ⟨SqL.of upd_same, fin D _ hD (same_new hD _) upd_same⟩⟩
def sp_p_upright (K : PySem.W.Frag) : Sp := fun vs H Q _ => ∃ (a : Addr) (ns : List Int) (l : Int), vs = [.ref a] ∧ Sq K H a (ns.map V.int) ∧ ns.length ≤ 1000 ∧ atI (ns.map V.int) (-1) = some (.int l) ∧ l ∈ ns ∧ l ≠ 0 ∧ l.natAbs < 10 ^ 500 ∧
  ∀ (p : Addr) (H' : Hp), Same H H' → H p = none → H' p = some (.tup ((lowL (if l < 0 then ns.map (fun n => -n) else ns)).map V.int)) → Q (.ref p) H'
theorem ok_p_upright (F : Fun K "upright" "upright" s_p_upright f fd) (Z : Zs mg) (h_p_lowest : Has P w K mg base "lowest" 2 ["numbers"] (sp_p_lowest K)) : FnOk P w K mg base CX0 3 f fd ["numbers"] (sp_p_upright K) := by
  refine F.ok sc_p_upright (fun vs H Q E h => ?_) (fun cdv A outer s H vs Q E hr h => ?_)
  · obtain ⟨a, ns, l, rfl, _⟩ := h
    rfl
  obtain ⟨a, ns, l, rfl, hS, hl, hat, hm, h0, hb, q⟩ := h
  refine ⟨_, (pss_cons (ps_if (pt_cmpR op_lt (pe_ix ix_any (pv 0) (pe_un un_neg pe_int) (fun _ _ => rfl)) pe_int (nomark _)) (pss_one (ps_ret (pe_callH h_p_lowest (hr.mono (by decide)) rfl (pa_cons (pe_comp (T := ["number"]) (caps := []) ⟨rfl, by decide +kernel, by decide +kernel, rfl, True.intro⟩ rfl (pi_seq (pv 0)) (fun _ => (pg_name (i := 0) (show (["number"] : List Str).Nodup by decide +kernel) rfl (Or.inl rfl))) (fun _ => pifs_nil) (fun _ => (pe_un un_neg (pv 0)))) pa_nil)))) pss_nil)
      (pss_one (ps_ret (pe_callH h_p_lowest (hr.mono (by decide)) rfl (pa_cons (pv 0) pa_nil))))), ?_⟩
  refine ⟨_, rfl, _, rfl, a, _, _, _, rfl, rfl, hS, hat, _, _, rfl, rfl, _, rfl, ?_⟩
  have gp : 0 < gcdL ns := gcdL_pos hm h0
  have gb : (gcdL ns : Int) < 10 ^ 600 := by
    have h1 := gcdL_le hm h0
    have h2 : (10 : Nat) ^ 500 < 10 ^ 600 := by decide +kernel
    have h3 : ((10 : Int) ^ 600) = ((10 ^ 600 : Nat) : Int) := by rw [Int.natCast_pow]; rfl
    rw [h3]
    omega
  refine ifD (fun hneg => ?_) (fun hneg => ?_)
  · have len : ∀ i, ((ns.take i).map fun n => V.int (-n)).length < sizeLine := fun i => small1000 (by rw [List.length_map, List.length_take]; omega)
    have fin : ∀ (D : Addr) (H' : Hp), H D = none → Same H H' → H' D = some (.lst ((ns.map fun n => -n).map V.int)) → sp_p_lowest K [.ref D] H' Q E0 := fun D H' hD hs e => by
      refine ⟨D, ns.map fun n => -n, rfl, .inl (SqL.of e), by rw [List.length_map]; exact hl, by rw [gcdL_neg]; exact gp, by rw [gcdL_neg]; exact gb, fun p H2 s2 hp e2 => ?_⟩
      exact q p H2 (hs.trans s2) (hs.free hp) (by rw [if_pos hneg]; exact e2)
    rcases hS with hS | hS
    · refine ⟨_, rfl, a, rfl, .inl ⟨⟨_, hS⟩, fun c D hD => comp_list0 (K := K) (a := a) (xs := ns.map V.int) (fun i σ ys H' => H' = upd H D (.lst ys) ∧ ys = (ns.take i).map (fun n => V.int (-n)) ∧ ∃ u, σ = [u])
        ⟨rfl, rfl, none, rfl⟩ (fun i σ ys H' _ ⟨e, _⟩ => by rw [e]; exact ⟨(same_new hD _).seq hS, upd_same⟩) ?_ ?_⟩⟩
      · rintro i x σ ys H' hi ⟨rfl, rfl, u, rfl⟩
        obtain ⟨n, hn, rfl⟩ := mapInt_get hi
        refine ⟨_, rfl, _, rfl, upd_same, len i, ?_⟩
        refine ⟨upd_upd, ?_, _, rfl⟩
        rw [take_snoc hn, List.map_append]
        rfl
      · rintro σ ys H' ⟨rfl, rfl, u, rfl⟩
        rw [List.length_map, List.take_length]
        have e : (ns.map fun n => V.int (-n)) = (ns.map fun n => -n).map V.int := by rw [List.map_map]; rfl
        rw [e]
        exact fin D _ hD (same_new hD _) upd_same
    · refine ⟨_, rfl, a, rfl, .inr ⟨⟨_, hS⟩, fun c D hD => comp_tup0 (K := K) (a := a) (xs := ns.map V.int) (fun i σ ys H' => H' = upd H D (.lst ys) ∧ ys = (ns.take i).map (fun n => V.int (-n)) ∧ ∃ u, σ = [u])
        ⟨rfl, rfl, none, rfl⟩ (fun i σ ys H' _ ⟨e, _⟩ => by rw [e]; exact ⟨SqT.same hS (same_new hD _), upd_same⟩) ?_ ?_⟩⟩
      · rintro i x σ ys H' hi ⟨rfl, rfl, u, rfl⟩
        obtain ⟨n, hn, rfl⟩ := mapInt_get hi
        refine ⟨_, rfl, _, rfl, upd_same, len i, ?_⟩
        refine ⟨upd_upd, ?_, _, rfl⟩
        rw [take_snoc hn, List.map_append]
        rfl
      · rintro σ ys H' ⟨rfl, rfl, u, rfl⟩
        rw [List.length_map, List.take_length]
        have e : (ns.map fun n => V.int (-n)) = (ns.map fun n => -n).map V.int := by rw [List.map_map]; rfl
        rw [e]
        exact fin D _ hD (same_new hD _) upd_same
  · refine ⟨_, rfl, a, ns, rfl, hS, hl, gp, gb, fun p H2 s2 hp e2 => ?_⟩
    exact q p H2 s2 hp (by rw [if_neg hneg]; exact e2)
def sp_p_part (K : PySem.W.Frag) : Sp := fun vs H Q _ => ∃ (t b : Int), vs = [.int t, .int b] ∧ b ≠ 0 ∧ b.natAbs < 10 ^ 500 ∧
  ∀ (p : Addr) (x y : Int) (H' : Hp), Same H H' → H p = none → H' p = some (.tup [.int x, .int y]) → PartOf t b x y → Q (.ref p) H'
theorem ok_p_part (F : Fun K "part" "part" s_p_part f fd) (Z : Zs mg) (h_p_upright : Has P w K mg base "upright" 3 ["numbers"] (sp_p_upright K)) : FnOk P w K mg base CX0 4 f fd ["top", "bottom"] (sp_p_part K) := by
  refine F.ok sc_p_part (fun vs H Q E h => ?_) (fun cdv A outer s H vs Q E hr h => ?_)
  · obtain ⟨t, b, rfl, _⟩ := h
    rfl
  obtain ⟨t, b, rfl, hb, hb2, q⟩ := h
  refine ⟨_, (pss_one (ps_ret (pe_callH h_p_upright (hr.mono (by decide)) rfl (pa_cons (pe_tup (pa_cons (pv 0) (pa_cons (pv 1) pa_nil))) pa_nil)))), ?_⟩
  refine ⟨_, rfl, _, rfl, (by show 2 ≤ sizeLine; decide), fun p hp => ⟨p, [t, b], b, rfl, .inr (SqT.of upd_same), by show 2 ≤ 1000; decide, rfl, by simp, hb, hb2, fun r H2 s2 hr2 e2 => ?_⟩⟩
  obtain ⟨x, y, exy, hxy⟩ := partOf_low t hb
  rw [exy] at e2
  exact q r x y H2 ((same_new hp _).trans s2) ((same_new hp _).free hr2) e2 hxy
def sp_p_spot (K : PySem.W.Frag) : Sp := fun vs H Q _ => ∃ (X Y W : Int), vs = [.int X, .int Y, .int W] ∧ W ≠ 0 ∧ W.natAbs < 10 ^ 500 ∧ ∀ (p : Addr) (H' : Hp), Same H H' → H p = none → H' p = some (.tup ((lowL (upL X Y W)).map V.int)) → Q (.ref p) H'
theorem ok_p_spot (F : Fun K "spot" "spot" s_p_spot f fd) (Z : Zs mg) (h_p_upright : Has P w K mg base "upright" 3 ["numbers"] (sp_p_upright K)) : FnOk P w K mg base CX0 4 f fd ["x", "y", "w"] (sp_p_spot K) := by
  refine F.ok sc_p_spot (fun vs H Q E h => ?_) (fun cdv A outer s H vs Q E hr h => ?_)
  · obtain ⟨X, Y, W, rfl, _⟩ := h
    rfl
  obtain ⟨X, Y, W, rfl, hw, hw2, q⟩ := h
  refine ⟨_, (pss_one (ps_ret (pe_callH h_p_upright (hr.mono (by decide)) rfl (pa_cons (pe_tup (pa_cons (pv 0) (pa_cons (pv 1) (pa_cons (pv 2) pa_nil)))) pa_nil)))), ?_⟩
  refine ⟨_, rfl, _, rfl, _, rfl, (by show 3 ≤ sizeLine; decide), fun p hp => ⟨p, [X, Y, W], W, rfl, .inr (SqT.of upd_same), by show 3 ≤ 1000; decide, rfl, by simp, hw, hw2, fun r H2 s2 hr2 e2 => ?_⟩⟩
  exact q r H2 ((same_new hp _).trans s2) ((same_new hp _).free hr2) e2
def spTurn (K : PySem.W.Frag) : Sp := fun vs H Q _ => ∃ (a b : Addr) (us ws : List V) (x1 y1 x2 y2 : Int), vs = [.ref a, .ref b] ∧ Sq K H a us ∧ Sq K H b ws ∧ atI us 0 = some (.int x1) ∧ atI us 1 = some (.int y1) ∧ atI ws 0 = some (.int x2) ∧ atI ws 1 = some (.int y2) ∧
  x1.natAbs ≤ 10 ^ 18 ∧ y1.natAbs ≤ 10 ^ 18 ∧ Q (.int (x1 * y2 - y1 * x2)) H
def sp_p_turn (K : PySem.W.Frag) : Sp := spTurn K
theorem ok_p_turn (F : Fun K "turn" "turn" s_p_turn f fd) (Z : Zs mg)  : FnOk P w K mg base CX0 1 f fd ["one", "other"] (sp_p_turn K) := by
  refine F.ok sc_p_turn (fun vs H Q E h => ?_) (fun cdv A outer s H vs Q E hr h => ?_)
  · obtain ⟨a, b, us, ws, x1, y1, x2, y2, rfl, _⟩ := h
    rfl
  obtain ⟨a, b, us, ws, x1, y1, x2, y2, rfl, ha, hb, u0, u1, w0, w1, m1, m2, q⟩ := h
  refine ⟨_, (pss_one (ps_ret (pe_op op_sub (pe_op op_mul (pe_ix ix_any (pv 0) pe_int (fun _ _ => rfl)) (pe_ix ix_any (pv 1) pe_int (fun _ _ => rfl))) (pe_op op_mul (pe_ix ix_any (pv 0) pe_int (fun _ _ => rfl)) (pe_ix ix_any (pv 1) pe_int (fun _ _ => rfl)))))), ?_⟩
  exact ⟨_, rfl, a, _, _, .int x1, rfl, rfl, ha, u0, _, rfl, b, _, _, .int y2, rfl, rfl, hb, w1, _, _, rfl, rfl, cm_l (by omega),
    _, rfl, a, _, _, .int y1, rfl, rfl, ha, u1, _, rfl, b, _, _, .int x2, rfl, rfl, hb, w0, _, _, rfl, rfl, cm_l (by omega), _, _, rfl, rfl, q⟩
def sp_p_along (K : PySem.W.Frag) : Sp := fun vs H Q _ => ∃ (a b : Addr) (us ws : List V) (x1 y1 x2 y2 : Int), vs = [.ref a, .ref b] ∧ Sq K H a us ∧ Sq K H b ws ∧ atI us 0 = some (.int x1) ∧ atI us 1 = some (.int y1) ∧ atI ws 0 = some (.int x2) ∧ atI ws 1 = some (.int y2) ∧
  x1.natAbs ≤ 10 ^ 18 ∧ y1.natAbs ≤ 10 ^ 18 ∧ Q (.int (x1 * x2 + y1 * y2)) H
theorem ok_p_along (F : Fun K "along" "along" s_p_along f fd) (Z : Zs mg)  : FnOk P w K mg base CX0 1 f fd ["one", "other"] (sp_p_along K) := by
  refine F.ok sc_p_along (fun vs H Q E h => ?_) (fun cdv A outer s H vs Q E hr h => ?_)
  · obtain ⟨a, b, us, ws, x1, y1, x2, y2, rfl, _⟩ := h
    rfl
  obtain ⟨a, b, us, ws, x1, y1, x2, y2, rfl, ha, hb, u0, u1, w0, w1, m1, m2, q⟩ := h
  refine ⟨_, (pss_one (ps_ret (pe_op op_add (pe_op op_mul (pe_ix ix_any (pv 0) pe_int (fun _ _ => rfl)) (pe_ix ix_any (pv 1) pe_int (fun _ _ => rfl))) (pe_op op_mul (pe_ix ix_any (pv 0) pe_int (fun _ _ => rfl)) (pe_ix ix_any (pv 1) pe_int (fun _ _ => rfl)))))), ?_⟩
  exact ⟨_, rfl, a, _, _, .int x1, rfl, rfl, ha, u0, _, rfl, b, _, _, .int x2, rfl, rfl, hb, w0, _, _, rfl, rfl, cm_l (by omega),
    _, rfl, a, _, _, .int y1, rfl, rfl, ha, u1, _, rfl, b, _, _, .int y2, rfl, rfl, hb, w1, _, _, rfl, rfl, cm_l (by omega), _, _, rfl, rfl, q⟩
def sp_p_plain (K : PySem.W.Frag) : Sp := sp_p_lowest K
theorem ok_p_plain (F : Fun K "plain" "plain" s_p_plain f fd) (Z : Zs mg) (h_p_lowest : Has P w K mg base "lowest" 2 ["numbers"] (sp_p_lowest K)) : FnOk P w K mg base CX0 3 f fd ["direction"] (sp_p_plain K) := by
  refine F.ok sc_p_plain (fun vs H Q E h => ?_) (fun cdv A outer s H vs Q E hr h => ?_)
  · obtain ⟨a, ns, rfl, _⟩ := h
    rfl
  obtain ⟨a, ns, rfl, h⟩ := h
  exact ⟨_, (pss_one (ps_ret (pe_callH h_p_lowest (hr.mono (by decide)) rfl (pa_cons (pv 0) pa_nil)))), ⟨_, rfl, a, ns, rfl, h⟩⟩
def sp_p_plain_side (K : PySem.W.Frag) : Sp := sp_p_lowest K
theorem ok_p_plain_side (F : Fun K "plain_side" "plain_side" s_p_plain_side f fd) (Z : Zs mg) (h_p_lowest : Has P w K mg base "lowest" 2 ["numbers"] (sp_p_lowest K)) : FnOk P w K mg base CX0 3 f fd ["side"] (sp_p_plain_side K) := by
  refine F.ok sc_p_plain_side (fun vs H Q E h => ?_) (fun cdv A outer s H vs Q E hr h => ?_)
  · obtain ⟨a, ns, rfl, _⟩ := h
    rfl
  obtain ⟨a, ns, rfl, h⟩ := h
  exact ⟨_, (pss_one (ps_ret (pe_callH h_p_lowest (hr.mono (by decide)) rfl (pa_cons (pv 0) pa_nil)))), ⟨_, rfl, a, ns, rfl, h⟩⟩
def spSide (K : PySem.W.Frag) (R : Int → Int → Int → Int → Int → Int → Hp → VK → Prop) : Sp := fun vs H Q _ => ∃ (a b : Addr) (A B C x y z : Int), vs = [.ref a, .ref b] ∧ Sq K H a [.int A, .int B, .int C] ∧ Sq K H b [.int x, .int y, .int z] ∧ A.natAbs ≤ 10 ^ 18 ∧ B.natAbs ≤ 10 ^ 18 ∧ C.natAbs ≤ 10 ^ 18 ∧ R A B C x y z H Q
def sp_p_beyond (K : PySem.W.Frag) : Sp := spSide K fun A B C x y z H Q => Q (.int (A * x + B * y - C * z)) H
theorem ok_p_beyond (F : Fun K "beyond" "beyond" s_p_beyond f fd) (Z : Zs mg)  : FnOk P w K mg base CX0 1 f fd ["side", "spot"] (sp_p_beyond K) := by
  refine F.ok sc_p_beyond (fun vs H Q E h => ?_) (fun cdv A outer s H vs Q E hr h => ?_)
  · obtain ⟨a, b, A, B, C, x, y, z, rfl, _⟩ := h
    rfl
  obtain ⟨a, b, A', B, C, x, y, z, rfl, ha, hb, m1, m2, m3, q⟩ := h
  refine ⟨_, (pss_one (ps_ret (pe_op op_sub (pe_op op_add (pe_op op_mul (pe_ix ix_any (pv 0) pe_int (fun _ _ => rfl)) (pe_ix ix_any (pv 1) pe_int (fun _ _ => rfl))) (pe_op op_mul (pe_ix ix_any (pv 0) pe_int (fun _ _ => rfl)) (pe_ix ix_any (pv 1) pe_int (fun _ _ => rfl)))) (pe_op op_mul (pe_ix ix_any (pv 0) pe_int (fun _ _ => rfl)) (pe_ix ix_any (pv 1) pe_int (fun _ _ => rfl)))))), ?_⟩
  exact ⟨_, rfl, a, _, _, .int A', rfl, rfl, ha, rfl, _, rfl, b, _, _, .int x, rfl, rfl, hb, rfl, _, _, rfl, rfl, cm_l (by omega), _, rfl, a, _, _, .int B, rfl, rfl, ha, rfl, _, rfl, b, _, _, .int y, rfl, rfl, hb, rfl, _, _, rfl, rfl, cm_l (by omega), _, _, rfl, rfl, _, rfl, a, _, _, .int C, rfl, rfl, ha, rfl, _, rfl, b, _, _, .int z, rfl, rfl, hb, rfl, _, _, rfl, rfl, cm_l (by omega), _, _, rfl, rfl, q⟩
def sp_p_holds (K : PySem.W.Frag) : Sp := spSide K fun A B C x y z H Q => Q (.bl (decide (A * x + B * y - C * z ≤ 0))) H
theorem ok_p_holds (F : Fun K "holds" "holds" s_p_holds f fd) (Z : Zs mg) (h_p_beyond : Has P w K mg base "beyond" 1 ["side", "spot"] (sp_p_beyond K)) : FnOk P w K mg base CX0 2 f fd ["side", "spot"] (sp_p_holds K) := by
  refine F.ok sc_p_holds (fun vs H Q E h => ?_) (fun cdv A outer s H vs Q E hr h => ?_)
  · obtain ⟨a, b, A, B, C, x, y, z, rfl, _⟩ := h
    rfl
  obtain ⟨a, b, A', B, C, x, y, z, rfl, ha, hb, m1, m2, m3, q⟩ := h
  refine ⟨_, (pss_one (ps_ret (pe_cmpR op_le (pe_callH h_p_beyond (hr.mono (by decide)) rfl (pa_cons (pv 0) (pa_cons (pv 1) pa_nil))) pe_int (nomark _)))), ?_⟩
  exact ⟨_, rfl, _, rfl, a, b, A', B, C, x, y, z, rfl, ha, hb, m1, m2, m3, _, _, rfl, rfl, q⟩
def sp_p_crossing (K : PySem.W.Frag) : Sp := fun vs H Q _ => ∃ (a b : Addr) (A1 B1 C1 A2 B2 C2 : Int), vs = [.ref a, .ref b] ∧ Sq K H a [.int A1, .int B1, .int C1] ∧ Sq K H b [.int A2, .int B2, .int C2] ∧
  A1.natAbs ≤ 10 ^ 18 ∧ B1.natAbs ≤ 10 ^ 18 ∧ C1.natAbs ≤ 10 ^ 18 ∧ A2.natAbs ≤ 10 ^ 18 ∧ B2.natAbs ≤ 10 ^ 18 ∧
  (A1 * B2 - B1 * A2 = 0 → Q .non H) ∧ (A1 * B2 - B1 * A2 ≠ 0 → ∀ (p : Addr) (H' : Hp), Same H H' → H p = none → H' p = some (.tup ((lowL (upL (C1 * B2 - B1 * C2) (A1 * C2 - C1 * A2) (A1 * B2 - B1 * A2))).map V.int)) → Q (.ref p) H')
theorem ok_p_crossing (F : Fun K "crossing" "crossing" s_p_crossing f fd) (Z : Zs mg) (h_p_upright : Has P w K mg base "upright" 3 ["numbers"] (sp_p_upright K)) (h_p_turn : Has P w K mg base "turn" 1 ["one", "other"] (sp_p_turn K)) : FnOk P w K mg base CX0 4 f fd ["one", "other"] (sp_p_crossing K) := by
  refine F.ok sc_p_crossing (fun vs H Q E h => ?_) (fun cdv A outer s H vs Q E hr h => ?_)
  · obtain ⟨a, b, A1, B1, C1, A2, B2, C2, rfl, _⟩ := h
    rfl
  obtain ⟨a, b, A1, B1, C1, A2, B2, C2, rfl, ha, hb, m1, m2, m3, m4, m5, q0, q⟩ := h
  refine ⟨_, (pss_cons (ps_set (i := 2) sc_p_crossing.nd rfl (Or.inl rfl) (pe_callH h_p_turn (hr.mono (by decide)) rfl (pa_cons (pv 0) (pa_cons (pv 1) pa_nil))))
      (pss_cons (ps_if (pt_cmpR op_eq (pv 2) pe_int (nomark _)) (pss_one (ps_ret pe_non)) pss_nil)
      (pss_cons (ps_set (i := 3) sc_p_crossing.nd rfl (Or.inl rfl) (pe_op op_sub (pe_op op_mul (pe_ix ix_any (pv 0) pe_int (fun _ _ => rfl)) (pe_ix ix_any (pv 1) pe_int (fun _ _ => rfl))) (pe_op op_mul (pe_ix ix_any (pv 0) pe_int (fun _ _ => rfl)) (pe_ix ix_any (pv 1) pe_int (fun _ _ => rfl)))))
      (pss_cons (ps_set (i := 4) sc_p_crossing.nd rfl (Or.inl rfl) (pe_op op_sub (pe_op op_mul (pe_ix ix_any (pv 0) pe_int (fun _ _ => rfl)) (pe_ix ix_any (pv 1) pe_int (fun _ _ => rfl))) (pe_op op_mul (pe_ix ix_any (pv 0) pe_int (fun _ _ => rfl)) (pe_ix ix_any (pv 1) pe_int (fun _ _ => rfl)))))
      (pss_one (ps_ret (pe_callH h_p_upright (hr.mono (by decide)) rfl (pa_cons (pe_tup (pa_cons (pv 3) (pa_cons (pv 4) (pa_cons (pv 2) pa_nil)))) pa_nil)))))))), ?_⟩
  refine ⟨_, rfl, _, rfl, a, b, _, _, A1, B1, A2, B2, rfl, ha, hb, rfl, rfl, rfl, rfl, m1, m2, ?_⟩
  refine ⟨_, rfl, rfl, _, rfl, ?_⟩
  refine ifE (fun hw => q0 hw) (fun hw => ?_)
  have z1 := natAbs_mul_le A1 B2 m1 m5
  have z2 := natAbs_mul_le B1 A2 m2 m4
  have z0 : (10 : Nat) ^ 18 * 10 ^ 18 = 10 ^ 36 := by decide
  have z3 : (10 : Nat) ^ 36 + 10 ^ 36 ≤ 10 ^ 40 := by decide
  refine ⟨_, rfl, a, _, _, .int C1, rfl, rfl, ha, rfl, _, rfl, b, _, _, .int B2, rfl, rfl, hb, rfl, _, _, rfl, rfl, cm_l (by omega), _, rfl, a, _, _, .int B1, rfl, rfl, ha, rfl, _, rfl, b, _, _, .int C2, rfl, rfl, hb, rfl, _, _, rfl, rfl, cm_l (by omega), _, _, rfl, rfl, ?_⟩
  refine ⟨_, rfl, a, _, _, .int A1, rfl, rfl, ha, rfl, _, rfl, b, _, _, .int C2, rfl, rfl, hb, rfl, _, _, rfl, rfl, cm_l (by omega), _, rfl, a, _, _, .int C1, rfl, rfl, ha, rfl, _, rfl, b, _, _, .int A2, rfl, rfl, hb, rfl, _, _, rfl, rfl, cm_l (by omega), _, _, rfl, rfl, ?_⟩
  refine ⟨_, rfl, _, rfl, _, rfl, (by show 3 ≤ sizeLine; decide), fun p hp => ⟨p, [C1 * B2 - B1 * C2, A1 * C2 - C1 * A2, A1 * B2 - B1 * A2], A1 * B2 - B1 * A2, rfl, .inr (SqT.of upd_same), by show 3 ≤ 1000; decide, rfl, by simp, hw, big_ok (by omega), fun r H2 s2 hr2 e2 => ?_⟩⟩
  exact q hw r H2 ((same_new hp _).trans s2) ((same_new hp _).free hr2) e2
def inWB (ss : List Sd) (p : P3) : Bool := ss.all fun t => decide (sv t.2 p ≤ 0)
theorem inWB_iff {ss : List Sd} {p : P3} : inWB ss p = true ↔ inW ss p := by
  unfold inWB inW
  rw [List.all_eq_true]
  exact ⟨fun h t ht => of_decide_eq_true (h t ht), fun h t ht => decide_eq_true (h t ht)⟩
def sp_p_in_water (K : PySem.W.Frag) : Sp := fun vs H Q _ => ∃ (l p : Addr) (ss : List Sd) (P : P3), vs = [.ref l, .ref p] ∧ SqL K H l (sdRefs ss) ∧ SdOk H ss ∧ Sq K H p [.int P.1, .int P.2.1, .int P.2.2] ∧ Q (.bl (inWB ss P)) H
theorem ok_p_in_water (F : Fun K "in_water" "in_water" s_p_in_water f fd) (Z : Zs mg) (h_p_holds : Has P w K mg base "holds" 2 ["side", "spot"] (sp_p_holds K)) : FnOk P w K mg base CX0 3 f fd ["sides", "place"] (sp_p_in_water K) := by
  refine F.ok sc_p_in_water (fun vs H Q E h => ?_) (fun cdv A outer s H vs Q E hr h => ?_)
  · obtain ⟨l, p, ss, P, rfl, _⟩ := h
    rfl
  obtain ⟨l, p, ss, P, rfl, hl, ok, hp, q⟩ := h
  refine ⟨_, (pss_cons (ps_for PassesOwn.never rfl (pi_seq (pv 0)) (pg_name (i := 2) sc_p_in_water.nd rfl (Or.inl rfl)) (pss_one (ps_if (pt_not (pt_val (pe_callH h_p_holds (hr.mono (by decide)) rfl (pa_cons (pv 2) (pa_cons (pv 1) pa_nil))))) (pss_one (ps_ret pe_bl)) pss_nil)))
      (pss_one (ps_ret pe_bl))), ?_⟩
  refine ⟨_, rfl, l, rfl, .inl ⟨⟨_, hl⟩, for_list (K := K) (a := l) (xs := sdRefs ss) (fun i σ H' => H = H' ∧ (∀ j t, j < i → ss[j]? = some t → sv t.2 P ≤ 0) ∧ ∃ u2 : Option V, σ = [some (.ref l), some (.ref p), u2])
    ⟨rfl, fun j t hj => absurd hj (Nat.not_lt_zero _), none, rfl⟩ (fun i σ H' _ ⟨e, _⟩ => by rw [← e]; exact hl) ?_ ?_⟩⟩
  · rintro i v σ H' hi ⟨rfl, hall, u2, rfl⟩
    obtain ⟨t, gt, rfl, hil⟩ := sdRefs_get hi
    obtain ⟨et, _, b1, b2, b3⟩ := ok t (List.mem_of_getElem? gt)
    refine ⟨_, rfl, _, rfl, t.1, p, t.2.1, t.2.2.1, t.2.2.2, P.1, P.2.1, P.2.2, rfl, .inr (SqT.of et), hp, by omega, by omega, by omega, _, rfl, ?_⟩
    refine ifN (fun hpos => ?_) (fun hneg => ?_)
    · have e : inWB ss P = false := by
        unfold inWB
        rw [Bool.eq_false_iff]
        intro z
        exact hpos (of_decide_eq_true (List.all_eq_true.mp z t (List.mem_of_getElem? gt)))
      rw [e] at q
      exact q
    · refine ⟨rfl, fun j t' hj ht' => ?_, _, rfl⟩
      by_cases e : j = i
      · rw [e, gt] at ht'
        cases ht'
        exact hneg
      · exact hall j t' (by omega) ht'
  · rintro σ H' ⟨rfl, hall, u2, rfl⟩
    have e : inWB ss P = true := inWB_iff.mpr fun t ht => by
      obtain ⟨j, hj, ej⟩ := List.getElem_of_mem ht
      exact hall j t (by rw [sdRefs_length]; exact hj) (by rw [List.getElem?_eq_getElem hj, ej])
    rw [e] at q
    exact q
def sp_p_foot (K : PySem.W.Frag) : Sp := fun vs H Q _ => ∃ (a : Addr) (t : P3), vs = [.ref a] ∧ Sq K H a [.int t.1, .int t.2.1, .int t.2.2] ∧ (t.1 ≠ 0 ∨ t.2.1 ≠ 0) ∧ t.1.natAbs ≤ 10 ^ 9 ∧ t.2.1.natAbs ≤ 10 ^ 9 ∧
  ∀ (p : Addr) (H' : Hp), Same H H' → H p = none → H' p = some (.tup ((ftL t).map V.int)) → Q (.ref p) H'
theorem ok_p_foot (F : Fun K "foot" "foot" s_p_foot f fd) (Z : Zs mg) (h_p_spot : Has P w K mg base "spot" 4 ["x", "y", "w"] (sp_p_spot K)) (h_p_along : Has P w K mg base "along" 1 ["one", "other"] (sp_p_along K)) : FnOk P w K mg base CX0 5 f fd ["side"] (sp_p_foot K) := by
  refine F.ok sc_p_foot (fun vs H Q E h => ?_) (fun cdv A outer s H vs Q E hr h => ?_)
  · obtain ⟨a, t, rfl, _⟩ := h
    rfl
  obtain ⟨a, t, rfl, ha, hn, b1, b2, q⟩ := h
  refine ⟨_, (pss_one (ps_ret (pe_callH h_p_spot (hr.mono (by decide)) rfl (pa_cons (pe_op op_mul (pe_ix ix_any (pv 0) pe_int (fun _ _ => rfl)) (pe_ix ix_any (pv 0) pe_int (fun _ _ => rfl))) (pa_cons (pe_op op_mul (pe_ix ix_any (pv 0) pe_int (fun _ _ => rfl)) (pe_ix ix_any (pv 0) pe_int (fun _ _ => rfl))) (pa_cons (pe_callH h_p_along (hr.mono (by decide)) rfl (pa_cons (pv 0) (pa_cons (pv 0) pa_nil))) pa_nil)))))), ?_⟩
  have pos := nn_pos hn
  have z1 := natAbs_mul_le t.1 t.1 b1 b1
  have z2 := natAbs_mul_le t.2.1 t.2.1 b2 b2
  refine ⟨_, rfl, a, _, _, .int t.1, rfl, rfl, ha, rfl, _, rfl, a, _, _, .int t.2.2, rfl, rfl, ha, rfl, _, _, rfl, rfl, cm_l (by omega),
    _, rfl, a, _, _, .int t.2.1, rfl, rfl, ha, rfl, _, rfl, a, _, _, .int t.2.2, rfl, rfl, ha, rfl, _, _, rfl, rfl, cm_l (by omega),
    _, rfl, _, rfl, a, a, _, _, t.1, t.2.1, t.1, t.2.1, rfl, ha, ha, rfl, rfl, rfl, rfl, by omega, by omega,
    t.1 * t.2.2, t.2.1 * t.2.2, t.1 * t.1 + t.2.1 * t.2.1, rfl, by omega, Nat.lt_of_le_of_lt (show (t.1 * t.1 + t.2.1 * t.2.1).natAbs ≤ 10 ^ 40 by omega) (by decide +kernel), fun p H' s' hp ep => q p H' s' hp ep⟩
def optV : Option Nat → V
  | none => .non
  | some j => .int j
theorem take_end {ss : List Sd} {i : Nat} {t u : Sd} (gt : ss[i]? = some t) (hu : u ∈ ss.take (i + 1)) : u ∈ ss.take i ∨ u = t := by
  rw [take_snoc gt] at hu
  rcases List.mem_append.mp hu with h | h
  · exact .inl h
  · exact .inr (List.mem_singleton.mp h)
theorem get_take {ss : List Sd} {i j : Nat} {t : Sd} (h : (ss.take i)[j]? = some t) : (ss.take (i + 1))[j]? = some t := by
  rw [List.getElem?_take] at h ⊢
  split at h
  · rw [if_pos (by omega)]
    exact h
  · cases h
def EndSt (ss : List Sd) (e : P3) (h : Int) (H : Hp) (x y : V) : Prop := (x = .non ∧ y = .non ∧ EndOk ss e h none) ∨ ∃ (j : Nat) (t : Sd) (p : Addr), x = .int j ∧ y = .ref p ∧ H p = some (.tup ((crL e t.2).map V.int)) ∧ ss[j]? = some t ∧ 0 < tn e t.2 * h ∧ ∀ u ∈ ss, 0 < tn e u.2 * h → sv u.2 (pt3 (crL e t.2)) ≤ 0
theorem EndSt.skip {ss : List Sd} {e : P3} {h : Int} {H : Hp} {x y : V} {i : Nat} {t : Sd} (S : EndSt (ss.take i) e h H x y) (gt : ss[i]? = some t) (hn : ¬ 0 < tn e t.2 * h) : EndSt (ss.take (i + 1)) e h H x y := by
  rcases S with ⟨e1, e2, S⟩ | ⟨j, u, p, e1, e2, ep, gu, hu, ha⟩
  · refine .inl ⟨e1, e2, fun v hv => ?_⟩
    rcases take_end gt hv with hv | rfl
    · exact S v hv
    · omega
  · refine .inr ⟨j, u, p, e1, e2, ep, get_take gu, hu, fun v hv hp => ?_⟩
    rcases take_end gt hv with hv | rfl
    · exact ha v hv hp
    · exact absurd hp hn
theorem EndSt.keep {ss : List Sd} {e : P3} {h : Int} {H H' : Hp} {x y : V} (S : EndSt ss e h H x y) (s : Same H H') : EndSt ss e h H' x y := by
  rcases S with S | ⟨j, u, p, e1, e2, ep, r⟩
  · exact .inl S
  · exact .inr ⟨j, u, p, e1, e2, s _ _ ep, r⟩
def sp_p_edge_end (K : PySem.W.Frag) : Sp := fun vs H Q _ => ∃ (l a : Addr) (ss : List Sd) (e : P3) (h : Int), vs = [.ref l, .ref a, .int h] ∧ SqL K H l (sdRefs ss) ∧ SdOk H ss ∧ ss.length ≤ 1000 ∧ Sq K H a [.int e.1, .int e.2.1, .int e.2.2] ∧ (e.1 ≠ 0 ∨ e.2.1 ≠ 0) ∧ e.1.natAbs ≤ 10 ^ 9 ∧ e.2.1.natAbs ≤ 10 ^ 9 ∧ e.2.2.natAbs ≤ 10 ^ 13 ∧ (h = 1 ∨ h = -1) ∧
  ∀ (r : Option Nat) (H' : Hp), Same H H' → EndOk ss e h r → Q (optV r) H'
theorem ok_p_edge_end (F : Fun K "edge_end" "edge_end" s_p_edge_end f fd) (Z : Zs mg) (h_p_turn : Has P w K mg base "turn" 1 ["one", "other"] (sp_p_turn K)) (h_p_holds : Has P w K mg base "holds" 2 ["side", "spot"] (sp_p_holds K)) (h_p_crossing : Has P w K mg base "crossing" 4 ["one", "other"] (sp_p_crossing K)) : FnOk P w K mg base CX0 5 f fd ["sides", "edge", "hand"] (sp_p_edge_end K) := by
  refine F.ok sc_p_edge_end (fun vs H Q E h => ?_) (fun cdv A outer s H vs Q E hr h => ?_)
  · obtain ⟨l, a, ss, e, h, rfl, _⟩ := h
    rfl
  obtain ⟨l, a, ss, e, hd, rfl, hl, ok, hlen, ha, hn, b1, b2, b3, h1, q⟩ := h
  have hh : hd * hd = 1 := by rcases h1 with rfl | rfl <;> rfl
  have hN := nn_pos hn
  refine ⟨_, (pss_cons (ps_set (i := 3) sc_p_edge_end.nd rfl (Or.inl rfl) pe_non)
      (pss_cons (ps_set (i := 4) sc_p_edge_end.nd rfl (Or.inl rfl) pe_non)
      (pss_cons (ps_for PassesOwn.never rfl (pi_range1 rfl Z.range (pa_cons (pe_callB call_len_seq rfl Z.len bt_len (pa_cons (pv 0) pa_nil)) pa_nil)) (pg_name (i := 5) sc_p_edge_end.nd rfl (Or.inl rfl)) (pss_cons (ps_set (i := 6) sc_p_edge_end.nd rfl (Or.inl rfl) (pe_ix ix_any (pv 0) (pv 5) (fun _ _ => rfl)))
      (pss_one (ps_if (PW.pt (pw_and (pt_cmpR op_gt (pe_op op_mul (pe_callH h_p_turn (hr.mono (by decide)) rfl (pa_cons (pv 1) (pa_cons (pv 6) pa_nil))) (pv 2)) pe_int (nomark _)) (pw_and1 (PW.pt (pw_or (pt_cmpR op_isN (pv 4) pe_non (nomark _)) (pw_or1 (pt_not (pt_val (pe_callH h_p_holds (hr.mono (by decide)) rfl (pa_cons (pv 6) (pa_cons (pv 4) pa_nil))))))))))) (pss_cons (ps_set (i := 3) sc_p_edge_end.nd rfl (Or.inl rfl) (pv 5))
      (pss_one (ps_set (i := 4) sc_p_edge_end.nd rfl (Or.inl rfl) (pe_callH h_p_crossing (hr.mono (by decide)) rfl (pa_cons (pv 1) (pa_cons (pv 6) pa_nil)))))) pss_nil))))
      (pss_one (ps_ret (pv 3)))))), ?_⟩
  refine ⟨_, rfl, l, _, rfl, .inl hl, _, rfl, (by rw [sdRefs_length]; omega), (by rw [sdRefs_length]; omega), for_range (lo := 0) (n := (((sdRefs ss).length : Nat) : Int).toNat) (fun i σ H' => Same H H' ∧ ∃ (x y : V) (u5 u6 : Option V), EndSt (ss.take i) e hd H' x y ∧ σ = [some (.ref l), some (.ref a), some (.int hd), some x, some y, u5, u6])
    ⟨Same.refl _, .non, .non, none, none, .inl ⟨rfl, rfl, fun t ht => nomatch ht⟩, rfl⟩ ?_ ?_⟩
  · rintro i σ H' hi ⟨sH, x, y, u5, u6, S, rfl⟩
    have hil : i < ss.length := by rw [Int.toNat_natCast, sdRefs_length] at hi; exact hi
    obtain ⟨t, mt, gt, at'⟩ := sdRefs_at (ss := ss) (i := i) (k := 0 + (i : Int)) (by omega) hil
    obtain ⟨et0, nt, c1, c2, c3⟩ := ok t mt
    have et : Sq K H' t.1 [.int t.2.1, .int t.2.2.1, .int t.2.2.2] := .inr (SqT.of (sH _ _ et0))
    have hae := ha.same sH
    have z1 := natAbs_mul_le e.1 t.2.2.1 b1 c2
    have z2 := natAbs_mul_le e.2.1 t.2.1 b2 c1
    refine ⟨_, rfl, _, rfl, l, _, _, _, rfl, rfl, .inl (sH.seq hl), at', ?_⟩
    refine ⟨_, rfl, _, rfl, a, t.1, _, _, e.1, e.2.1, t.2.1, t.2.2.1, rfl, hae, et, rfl, rfl, rfl, rfl, by omega, by omega, _, rfl, _, _, rfl, rfl, .inl ⟨by omega, by omega⟩, _, _, rfl, rfl, _, rfl, ?_⟩
    refine ifD (fun hpos => ?_) (fun hneg => ?_)
    · have hpos' : 0 < tn e t.2 * hd := hpos
      have put : ∀ (H2 : Hp) (p : Addr), Same H' H2 → H2 p = some (.tup ((crL e t.2).map V.int)) → (∀ u ∈ ss.take i, 0 < tn e u.2 * hd → sv u.2 (pt3 (crL e t.2)) ≤ 0) → EndSt (ss.take (i + 1)) e hd H2 (.int (0 + (i : Int))) (.ref p) := fun H2 p s2 ep hb => by
        refine .inr ⟨i, t, p, by rw [Int.zero_add], rfl, ep, ?_, hpos', fun u hu hp => ?_⟩
        · rw [List.getElem?_take, if_pos (by omega)]
          exact gt
        · rcases take_end gt hu with hu | rfl
          · exact hb u hu hp
          · exact Int.le_of_eq (cr_ok (ne_hand hpos')).2.2
      rcases S with ⟨rfl, rfl, S⟩ | ⟨j, u, p, rfl, rfl, ep, gu, hu, hb⟩
      · refine ⟨_, rfl, rfl, _, rfl, ?_⟩
        refine iteT ?_
        refine ⟨_, rfl, _, rfl, _, rfl, a, t.1, e.1, e.2.1, e.2.2, t.2.1, t.2.2.1, t.2.2.2, rfl, hae, et, by omega, by omega, by omega, by omega, by omega, fun z => absurd z (ne_hand hpos'), fun _ p2 H2 s2 hp2 ep2 => ?_⟩
        exact ⟨sH.trans s2, _, _, _, _, put H2 p2 s2 ep2 fun v hv hp => by have := S v hv; omega, rfl⟩
      · obtain ⟨sp0, q1, q2⟩ := cr_ok (ne_hand hu)
        refine ⟨_, rfl, rfl, _, rfl, ?_⟩
        refine iteF ?_
        have ep3 : Sq K H' p [.int (pt3 (crL e u.2)).1, .int (pt3 (crL e u.2)).2.1, .int (pt3 (crL e u.2)).2.2] := .inr (SqT.of (by rw [ep]; rw [sp0.list]; rfl))
        refine ⟨_, rfl, _, rfl, t.1, p, t.2.1, t.2.2.1, t.2.2.2, _, _, _, rfl, et, ep3, by omega, by omega, by omega, _, rfl, ?_⟩
        refine ifN (fun hout => ?_) (fun hin => ?_)
        · have hout' : 0 < sv t.2 (pt3 (crL e u.2)) := by
            have : ¬ sv t.2 (pt3 (crL e u.2)) ≤ 0 := hout
            omega
          refine ⟨_, rfl, _, rfl, _, rfl, a, t.1, e.1, e.2.1, e.2.2, t.2.1, t.2.2.1, t.2.2.2, rfl, hae, et, by omega, by omega, by omega, by omega, by omega, fun z => absurd z (ne_hand hpos'), fun _ p2 H2 s2 hp2 ep2 => ?_⟩
          obtain ⟨sp1, r1, r2⟩ := cr_ok (ne_hand hpos')
          have d1 := dl_le hh hN r1 q1 sp1.pos r2 hout' hpos'
          refine ⟨sH.trans s2, _, _, _, _, put H2 p2 s2 ep2 fun v hv hp => ?_, rfl⟩
          refine sv_on hh hN r1 q1 sp1.pos sp0.pos v.2 ?_ (hb v hv hp)
          have := Int.mul_nonneg (show 0 ≤ -(dl e (pt3 (crL e t.2)) (pt3 (crL e u.2)) * hd) by omega) (Int.le_of_lt hp)
          rw [Int.neg_mul] at this
          omega
        · refine ⟨sH, _, _, _, _, .inr ⟨j, u, p, rfl, rfl, ep, get_take gu, hu, fun v hv hp => ?_⟩, rfl⟩
          rcases take_end gt hv with hv | rfl
          · exact hb v hv hp
          · exact hin
    · refine iteF ?_
      exact ⟨sH, x, y, _, _, S.skip gt hneg, rfl⟩
  · rintro σ H' ⟨sH, x, y, u5, u6, S, rfl⟩
    rw [Int.toNat_natCast, sdRefs_length, List.take_length] at S
    rcases S with ⟨rfl, rfl, S⟩ | ⟨j, u, p, rfl, rfl, ep, gu, hu, hb⟩
    · exact ⟨_, rfl, q none H' sH S⟩
    · exact ⟨_, rfl, q (some j) H' sH ⟨u, gu, hu, hb⟩⟩
abbrev spRefs (qs : List (Addr × P3)) : List V := (qs.map (·.1)).map V.ref
def SpsOk (H : Hp) (qs : List (Addr × P3)) : Prop := ∀ t ∈ qs, H t.1 = some (.tup [.int t.2.1, .int t.2.2.1, .int t.2.2.2]) ∧ 0 < t.2.2.2 ∧ Nat.gcd (Nat.gcd t.2.1.natAbs t.2.2.1.natAbs) t.2.2.2.natAbs = 1
theorem SpsOk.same {H H' : Hp} {qs : List (Addr × P3)} (h : SpsOk H qs) (s : Same H H') : SpsOk H' qs := fun t ht => ⟨s _ _ (h t ht).1, (h t ht).2⟩
structure EndsOk (ss : List Sd) (e : P3) (qs : List (Addr × P3)) : Prop where
  each : ∀ q ∈ qs, ∃ (h : Int) (j : Nat) (t : Sd), h * h = 1 ∧ ss[j]? = some t ∧ 0 < tn e t.2 * h ∧ (∀ u ∈ ss, 0 < tn e u.2 * h → sv u.2 (pt3 (crL e t.2)) ≤ 0) ∧ q.2 = pt3 (crL e t.2)
  none : qs = [] → EndOk ss e 1 none ∧ EndOk ss e (-1) none
  full : FullE ss e 1 (qs.map (·.2)) ∧ FullE ss e (-1) (qs.map (·.2))
def sp_p_edge_ends (K : PySem.W.Frag) : Sp := fun vs H Q _ => ∃ (l a : Addr) (ss : List Sd) (e : P3), vs = [.ref l, .ref a] ∧ SqL K H l (sdRefs ss) ∧ SdOk H ss ∧ ss.length ≤ 1000 ∧ Sq K H a [.int e.1, .int e.2.1, .int e.2.2] ∧ (e.1 ≠ 0 ∨ e.2.1 ≠ 0) ∧ e.1.natAbs ≤ 10 ^ 9 ∧ e.2.1.natAbs ≤ 10 ^ 9 ∧ e.2.2.natAbs ≤ 10 ^ 13 ∧
  ∀ (D : Addr) (qs : List (Addr × P3)) (H' : Hp), Same H H' → H D = none → H' D = some (.lst (spRefs qs)) → SpsOk H' qs → qs.length ≤ 2 → EndsOk ss e qs → Q (.ref D) H'
theorem ok_p_edge_ends (F : Fun K "edge_ends" "edge_ends" s_p_edge_ends f fd) (Z : Zs mg) (h_p_crossing : Has P w K mg base "crossing" 4 ["one", "other"] (sp_p_crossing K)) (h_p_edge_end : Has P w K mg base "edge_end" 5 ["sides", "edge", "hand"] (sp_p_edge_end K)) : FnOk P w K mg base CX0 6 f fd ["sides", "edge"] (sp_p_edge_ends K) := by
  refine F.ok sc_p_edge_ends (fun vs H Q E h => ?_) (fun cdv A outer s H vs Q E hr h => ?_)
  · obtain ⟨l, a, ss, e, rfl, _⟩ := h
    rfl
  obtain ⟨l, a, ss, e, rfl, hl, ok, hlen, ha, hn, b1, b2, b3, q⟩ := h
  refine ⟨_, (pss_cons (ps_set (i := 2) sc_p_edge_ends.nd rfl (Or.inl rfl) (pe_lst (pa_cons (pe_callH h_p_edge_end (hr.mono (by decide)) rfl (pa_cons (pv 0) (pa_cons (pv 1) (pa_cons (pe_un un_neg pe_int) pa_nil)))) (pa_cons (pe_callH h_p_edge_end (hr.mono (by decide)) rfl (pa_cons (pv 0) (pa_cons (pv 1) (pa_cons pe_int pa_nil)))) pa_nil))))
      (pss_one (ps_ret (pe_comp (T := ["number"]) (caps := [("edge", 1), ("sides", 0)]) ⟨rfl, by decide +kernel, by decide +kernel, rfl, ⟨⟨rfl, rfl, Or.inl rfl⟩, ⟨rfl, rfl, Or.inl rfl⟩, True.intro⟩⟩ rfl (pi_seq (pv 2)) (fun _ => (pg_name (i := 0) (show (["number", "edge", "sides"] : List Str).Nodup by decide +kernel) rfl (Or.inl rfl))) (fun _ => (pifs_one (pt_cmpR op_notN (pv 0) pe_non (nomark _)))) (fun _ => (pe_callH h_p_crossing (hr.mono (by decide)) rfl (pa_cons (pv 1) (pa_cons (pe_ix ix_any (pv 2) (pv 0) (fun _ _ => rfl)) pa_nil)))))))), ?_⟩
  refine ⟨_, rfl, _, rfl, _, rfl, l, a, ss, e, -1, rfl, hl, ok, hlen, ha, hn, b1, b2, b3, .inr rfl, fun r1 H1 s1 k1 => ?_⟩
  refine ⟨_, rfl, _, rfl, l, a, ss, e, 1, rfl, s1.seq hl, ok.same s1, hlen, ha.same s1, hn, b1, b2, b3, .inl rfl, fun r2 H2 s2 k2 => ?_⟩
  refine ⟨(by show 2 ≤ sizeLine; decide), fun nl hnl => ?_⟩
  have snl : Same H2 (upd H2 nl (.lst [optV r1, optV r2])) := same_new hnl _
  have enl : upd H2 nl (.lst [optV r1, optV r2]) nl = some (.lst [optV r1, optV r2]) := upd_same
  generalize upd H2 nl (.lst [optV r1, optV r2]) = H3 at snl enl ⊢
  have s3 := (s1.trans s2).trans snl
  have one : ∀ (i : Nat) (v : V), [optV r1, optV r2][i]? = some v → (v = .non ∧ ((i = 0 ∧ EndOk ss e (-1) none) ∨ (i = 1 ∧ EndOk ss e 1 none))) ∨ ∃ (j : Nat) (t : Sd) (h : Int), v = .int j ∧ ((i = 0 ∧ h = -1) ∨ (i = 1 ∧ h = 1)) ∧ h * h = 1 ∧ ss[j]? = some t ∧ 0 < tn e t.2 * h ∧ ∀ u ∈ ss, 0 < tn e u.2 * h → sv u.2 (pt3 (crL e t.2)) ≤ 0 := fun i v hv => by
    match i, hv with
    | 0, hv =>
      cases hv
      cases r1 with
      | none => exact .inl ⟨rfl, .inl ⟨rfl, k1⟩⟩
      | some j => obtain ⟨t, g, p, r⟩ := k1; exact .inr ⟨j, t, -1, rfl, .inl ⟨rfl, rfl⟩, rfl, g, p, r⟩
    | 1, hv =>
      cases hv
      cases r2 with
      | none => exact .inl ⟨rfl, .inr ⟨rfl, k2⟩⟩
      | some j => obtain ⟨t, g, p, r⟩ := k2; exact .inr ⟨j, t, 1, rfl, .inr ⟨rfl, rfl⟩, rfl, g, p, r⟩
  refine ⟨_, rfl, nl, rfl, .inl ⟨⟨_, SqL.of enl⟩, fun c D hD => comp_list (K := K) (a := nl) (xs := [optV r1, optV r2]) (fun i σ ys H' => Same H3 H' ∧ H' D = some (.lst ys) ∧ (∃ qs : List (Addr × P3), ys = spRefs qs ∧ qs.length ≤ i ∧ SpsOk H' qs ∧ (∀ q ∈ qs, ∃ (h : Int) (j : Nat) (t : Sd), h * h = 1 ∧ ss[j]? = some t ∧ 0 < tn e t.2 * h ∧ (∀ u ∈ ss, 0 < tn e u.2 * h → sv u.2 (pt3 (crL e t.2)) ≤ 0) ∧ q.2 = pt3 (crL e t.2)) ∧
      ((0 < i → FullE ss e (-1) (qs.map (·.2))) ∧ (1 < i → FullE ss e 1 (qs.map (·.2))))) ∧ ∃ u0 : Option V, σ = [u0, some (.ref a), some (.ref l)])
    ⟨same_new hD _, upd_same, ⟨[], rfl, Nat.le_refl _, (fun t ht => nomatch ht), (fun t ht => nomatch ht), ⟨fun z => absurd z (Nat.not_lt_zero _), fun z => absurd z (Nat.not_lt_zero _)⟩⟩, none, rfl⟩ (fun i σ ys H' _ ⟨e1, e2, _⟩ => ⟨SqL.of (e1 _ _ enl), e2⟩) ?_ ?_⟩⟩
  · rintro i v σ ys H' hi ⟨sH, eD, ⟨qs, rfl, hq, okq, each, non⟩, u0, rfl⟩
    have hi2 : i < 2 := (List.getElem?_eq_some_iff.mp hi).1
    rcases one i v hi with ⟨rfl, hcase⟩ | ⟨j, t, h, rfl, hih, hh, gt, hp, hb⟩
    · refine ⟨_, rfl, rfl, _, rfl, ?_⟩
      refine iteF ?_
      refine ⟨sH, eD, ⟨qs, rfl, by omega, okq, each, ?_⟩, _, rfl⟩
      rcases hcase with ⟨rfl, k⟩ | ⟨rfl, k⟩
      · exact ⟨fun _ => .inl k, fun z' => absurd z' (by decide)⟩
      · exact ⟨fun _ => non.1 (by decide), fun _ => .inl k⟩
    · refine ⟨_, rfl, rfl, _, rfl, ?_⟩
      refine iteT ?_
      have hj : j < ss.length := (List.getElem?_eq_some_iff.mp gt).1
      obtain ⟨t', mt, gt', at'⟩ := sdRefs_at (ss := ss) (i := j) (k := (j : Int)) rfl hj
      rw [gt] at gt'
      cases gt'
      obtain ⟨et0, _, c1, c2, c3⟩ := ok t mt
      have s3H := s3.trans sH
      refine ⟨_, rfl, _, rfl, _, rfl, l, _, _, _, rfl, rfl, .inl (s3H.seq hl), at', a, t.1, e.1, e.2.1, e.2.2, t.2.1, t.2.2.1, t.2.2.2, rfl, ha.same s3H, .inr (SqT.of (s3H _ _ et0)), by omega, by omega, by omega, by omega, by omega, fun z => absurd z (ne_hand hp), fun _ p H5 s5 hp5 ep5 => ?_⟩
      obtain ⟨sp, _, _⟩ := cr_ok (ne_hand hp)
      have ep5' : H5 p = some (.tup [.int (pt3 (crL e t.2)).1, .int (pt3 (crL e t.2)).2.1, .int (pt3 (crL e t.2)).2.2]) := by
        have z : H5 p = some (.tup ((crL e t.2).map V.int)) := ep5
        rw [z, sp.list]
        rfl
      have npD : p ≠ D := fun z => by rw [z, eD] at hp5; cases hp5
      refine ⟨s5 _ _ eD, small1000 (by simp only [List.length_map]; omega), (sH.trans s5).putNew hD, upd_same, ⟨qs ++ [(p, pt3 (crL e t.2))], by simp [spRefs], by rw [List.length_append]; show qs.length + 1 ≤ i + 1; omega, fun u hu => ?_, fun u hu => ?_, ?_⟩, _, rfl⟩
      · rcases List.mem_append.mp hu with hu | hu
        · obtain ⟨g1, g2⟩ := okq u hu
          exact ⟨by rw [upd_ne (ne_of (s5 _ _ g1) (s5 _ _ eD) (by intro z; cases z))]; exact s5 _ _ g1, g2⟩
        · rw [List.mem_singleton] at hu
          subst hu
          refine ⟨?_, sp.pos, sp.low⟩
          show upd H5 D _ p = _
          rw [upd_ne npD]
          exact ep5'
      · rcases List.mem_append.mp hu with hu | hu
        · exact each u hu
        · rw [List.mem_singleton] at hu
          subst hu
          exact ⟨h, j, t, hh, gt, hp, hb, rfl⟩
      · have me : FullE ss e h ((qs ++ [(p, pt3 (crL e t.2))]).map (·.2)) := .inr ⟨j, t, gt, hp, hb, by rw [List.map_append]; exact List.mem_append_right _ (List.mem_singleton.mpr rfl)⟩
        rcases hih with ⟨rfl, rfl⟩ | ⟨rfl, rfl⟩
        · exact ⟨fun _ => me, fun z' => absurd z' (by decide)⟩
        · exact ⟨fun _ => by rw [List.map_append]; exact (non.1 (by decide)).app, fun _ => me⟩
  · rintro σ ys H' ⟨sH, eD, ⟨qs, rfl, hq, okq, each, non⟩, u0, rfl⟩
    have f1 := non.2 (by show 1 < 2; decide)
    have f2 := non.1 (by show 0 < 2; decide)
    refine q D qs H' (s3.trans sH) (s3.free hD) eD okq hq ⟨each, fun z => ?_, f1, f2⟩
    rw [z] at f1 f2
    refine ⟨?_, ?_⟩
    · rcases f1 with f | ⟨_, _, _, _, _, m⟩
      · exact f
      · exact nomatch m
    · rcases f2 with f | ⟨_, _, _, _, _, m⟩
      · exact f
      · exact nomatch m
def SpAt (H : Hp) (p : Addr) (P : P3) : Prop := H p = some (.tup [.int P.1, .int P.2.1, .int P.2.2]) ∧ 0 < P.2.2 ∧ Nat.gcd (Nat.gcd P.1.natAbs P.2.1.natAbs) P.2.2.natAbs = 1
theorem SpAt.same {H H' : Hp} {p : Addr} {P : P3} (h : SpAt H p P) (s : Same H H') : SpAt H' p P := ⟨s _ _ h.1, h.2⟩
def sp_p_spot_on_edge (K : PySem.W.Frag) : Sp := fun vs H Q _ => ∃ (l a : Addr) (ss : List Sd) (e : P3), vs = [.ref l, .ref a] ∧ SqL K H l (sdRefs ss) ∧ SdOk H ss ∧ ss.length ≤ 900 ∧ Sq K H a [.int e.1, .int e.2.1, .int e.2.2] ∧ (e.1 ≠ 0 ∨ e.2.1 ≠ 0) ∧ e.1.natAbs ≤ 10 ^ 9 ∧ e.2.1.natAbs ≤ 10 ^ 9 ∧ e.2.2.natAbs ≤ 10 ^ 13 ∧
  (∀ H', Same H H' → (∀ z : P3, sv e z = 0 → 0 < z.2.2 → ¬ inW ss z) → Q .non H') ∧
  ∀ (p : Addr) (P : P3) (H' : Hp), Same H H' → SpAt H' p P → inW ss P → sv e P = 0 → (P = pt3 (ftL e) ∨ ∃ t ∈ ss, tn e t.2 ≠ 0 ∧ P = pt3 (crL e t.2)) → Q (.ref p) H'
theorem ok_p_spot_on_edge (F : Fun K "spot_on_edge" "spot_on_edge" s_p_spot_on_edge f fd) (Z : Zs mg) (h_p_edge_ends : Has P w K mg base "edge_ends" 6 ["sides", "edge"] (sp_p_edge_ends K)) (h_p_foot : Has P w K mg base "foot" 5 ["side"] (sp_p_foot K)) (h_p_in_water : Has P w K mg base "in_water" 3 ["sides", "place"] (sp_p_in_water K)) : FnOk P w K mg base CX0 7 f fd ["sides", "edge"] (sp_p_spot_on_edge K) := by
  refine F.ok sc_p_spot_on_edge (fun vs H Q E h => ?_) (fun cdv A outer s H vs Q E hr h => ?_)
  · obtain ⟨l, a, ss, e, rfl, _⟩ := h
    rfl
  obtain ⟨l, a, ss, e, rfl, hl, ok, hlen, ha, hn, b1, b2, b3, qn, q⟩ := h
  have hN := nn_pos hn
  refine ⟨_, (pss_cons (ps_for PassesOwn.never rfl (pi_seq (pe_op op_cat (pe_callH h_p_edge_ends (hr.mono (by decide)) rfl (pa_cons (pv 0) (pa_cons (pv 1) pa_nil))) (pe_lst (pa_cons (pe_callH h_p_foot (hr.mono (by decide)) rfl (pa_cons (pv 1) pa_nil)) pa_nil)))) (pg_name (i := 2) sc_p_spot_on_edge.nd rfl (Or.inl rfl)) (pss_one (ps_if (pt_val (pe_callH h_p_in_water (hr.mono (by decide)) rfl (pa_cons (pv 0) (pa_cons (pv 2) pa_nil)))) (pss_one (ps_ret (pv 2))) pss_nil)))
      (pss_one (ps_ret pe_non))), ?_⟩
  refine ⟨_, rfl, _, rfl, l, a, ss, e, rfl, hl, ok, by omega, ha, hn, b1, b2, b3, fun D qs H1 s1 hD eD okq hq ends => ?_⟩
  refine ⟨_, rfl, a, e, rfl, ha.same s1, hn, b1, b2, fun fp H2 s2 hfp efp => ?_⟩
  obtain ⟨sf, f1⟩ := ft_ok hn
  have efp' : H2 fp = some (.tup [.int (pt3 (ftL e)).1, .int (pt3 (ftL e)).2.1, .int (pt3 (ftL e)).2.2]) := by
    rw [efp, sf.list]
    rfl
  refine ⟨(by show 1 ≤ sizeLine; decide), fun fl hfl => ?_⟩
  have sfl : Same H2 (upd H2 fl (.lst [.ref fp])) := same_new hfl _
  have efl : upd H2 fl (.lst [.ref fp]) fl = some (.lst [.ref fp]) := upd_same
  generalize upd H2 fl (.lst [.ref fp]) = H3 at sfl efl ⊢
  refine ⟨D, fl, _, _, rfl, rfl, sfl _ _ (s2 _ _ eD), efl, small (by simp only [List.length_map]; show qs.length + 1 ≤ 1000; omega), fun L hL => ?_⟩
  have sL : Same H3 (upd H3 L (.lst (spRefs qs ++ [.ref fp]))) := same_new hL _
  have eL : upd H3 L (.lst (spRefs qs ++ [.ref fp])) L = some (.lst (spRefs (qs ++ [(fp, pt3 (ftL e))]))) := by rw [upd_same]; simp [spRefs]
  generalize upd H3 L (.lst (spRefs qs ++ [.ref fp])) = H4 at sL eL ⊢
  have s24 := sfl.trans sL
  have s14 := s2.trans s24
  have s04 := s1.trans s14
  have okA : SpsOk H4 (qs ++ [(fp, pt3 (ftL e))]) := fun u hu => by
    rcases List.mem_append.mp hu with hu | hu
    · exact okq.same s14 u hu
    · rw [List.mem_singleton] at hu
      subst hu
      exact ⟨s24 _ _ efp', sf.pos, sf.low⟩
  refine ⟨L, rfl, .inl ⟨⟨_, SqL.of eL⟩, for_list (K := K) (a := L) (xs := spRefs (qs ++ [(fp, pt3 (ftL e))])) (fun i σ H' => H4 = H' ∧ (∀ j u, j < i → (qs ++ [(fp, pt3 (ftL e))])[j]? = some u → ¬ inW ss u.2) ∧ ∃ u2 : Option V, σ = [some (.ref l), some (.ref a), u2])
    ⟨rfl, fun j t hj => absurd hj (Nat.not_lt_zero _), none, rfl⟩ (fun i σ H' _ ⟨e1, _⟩ => by rw [← e1]; exact SqL.of eL) ?_ ?_⟩⟩
  · rintro i v σ H' hi ⟨rfl, hall, u2, rfl⟩
    rw [List.getElem?_map, List.getElem?_map] at hi
    cases gu : (qs ++ [(fp, pt3 (ftL e))])[i]? with
    | none => rw [gu] at hi; cases hi
    | some u =>
      rw [gu] at hi
      cases hi
      obtain ⟨eu, pu, lu⟩ := okA u (List.mem_of_getElem? gu)
      refine ⟨_, rfl, _, rfl, l, u.1, ss, u.2, rfl, s04.seq hl, ok.same s04, .inr (SqT.of eu), _, rfl, ?_⟩
      by_cases hw : inWB ss u.2 = true
      · rw [hw]
        refine iteT ?_
        have on : sv e u.2 = 0 ∧ (u.2 = pt3 (ftL e) ∨ ∃ t ∈ ss, tn e t.2 ≠ 0 ∧ u.2 = pt3 (crL e t.2)) := by
          rcases List.mem_append.mp (List.mem_of_getElem? gu) with hu | hu
          · obtain ⟨h, j, t, _, gt, hp, _, eq⟩ := ends.each u hu
            rw [eq]
            exact ⟨(cr_ok (ne_hand hp)).2.1, .inr ⟨t, List.mem_of_getElem? gt, ne_hand hp, rfl⟩⟩
          · rw [List.mem_singleton] at hu
            rw [hu]
            exact ⟨f1, .inl rfl⟩
        exact ⟨_, rfl, q u.1 u.2 _ s04 ⟨eu, pu, lu⟩ (inWB_iff.mp hw) on.1 on.2⟩
      · have hw' : inWB ss u.2 = false := by simpa using hw
        rw [hw']
        refine iteF ?_
        refine ⟨rfl, fun j t hj ht => ?_, _, rfl⟩
        by_cases ej : j = i
        · rw [ej, gu] at ht
          cases ht
          exact fun z => hw (inWB_iff.mpr z)
        · exact hall j t (by omega) ht
  · rintro σ H' ⟨rfl, hall, u2, rfl⟩
    refine qn _ s04 fun z hz zw wz => ?_
    have nin : ∀ u ∈ qs ++ [(fp, pt3 (ftL e))], ¬ inW ss u.2 := fun u hu => by
      obtain ⟨j, hj, ej⟩ := List.getElem_of_mem hu
      exact hall j u (by simp only [List.length_map]; exact hj) (by rw [List.getElem?_eq_getElem hj, ej])
    cases qs with
    | nil =>
      obtain ⟨n1, n2⟩ := ends.none rfl
      exact nin (fp, pt3 (ftL e)) (by simp) (beside_in hN hz zw wz f1 sf.pos n1 n2)
    | cons u us =>
      obtain ⟨h, j, t, hh, gt, hp, hb, eq⟩ := ends.each u (List.mem_cons_self ..)
      refine nin u (by simp) ?_
      rw [eq]
      exact end_in hh hN hz zw wz gt hp hb
theorem sd_upto (ss : List Sd) (n : Nat) : cutV (sdRefs ss) none (some (n : Int)) = sdRefs (ss.take n) := by
  unfold cutV
  rw [show HT.sIx (sdRefs ss).length 0 none = 0 from rfl, HT.sIx_nat (sdRefs ss).length (sdRefs ss).length n, List.drop_zero, Nat.sub_zero]
  rw [sdRefs_length]
  simp only [sdRefs, ← List.map_take]
  congr 2
  rw [List.take_eq_take_iff]
  omega
def sp_p_sought (K : PySem.W.Frag) : Sp := fun vs H Q _ => ∃ (l : Addr) (ss : List Sd), vs = [.ref l] ∧ SqL K H l (sdRefs ss) ∧ SdOk H ss ∧ ss.length ≤ 900 ∧
  (∀ (t : Addr) (j : Nat) (e : Sd) (P : P3) (H' : Hp), Same H H' → H' t = some (.tup [.non, .int j]) → Stuck ss j e P → Q (.ref t) H') ∧
  ∀ (t p : Addr) (P : P3) (H' : Hp), Same H H' → H' t = some (.tup [.ref p, .non]) → SpAt H' p P → inW ss P → Cand ss P → Q (.ref t) H'
theorem ok_p_sought (F : Fun K "sought" "sought" s_p_sought f fd) (Z : Zs mg) (h_p_holds : Has P w K mg base "holds" 2 ["side", "spot"] (sp_p_holds K)) (h_p_spot_on_edge : Has P w K mg base "spot_on_edge" 7 ["sides", "edge"] (sp_p_spot_on_edge K)) (h_p_spot : Has P w K mg base "spot" 4 ["x", "y", "w"] (sp_p_spot K)) : FnOk P w K mg base CX0 8 f fd ["sides"] (sp_p_sought K) := by
  refine F.ok sc_p_sought (fun vs H Q E h => ?_) (fun cdv A outer s H vs Q E hr h => ?_)
  · obtain ⟨l, ss, rfl, _⟩ := h
    rfl
  obtain ⟨l, ss, rfl, hl, ok, hlen, qn, q⟩ := h
  refine ⟨_, (pss_cons (ps_set (i := 1) sc_p_sought.nd rfl (Or.inl rfl) (pe_callH h_p_spot (hr.mono (by decide)) rfl (pa_cons pe_int (pa_cons pe_int (pa_cons pe_int pa_nil)))))
      (pss_cons (ps_for PassesOwn.never rfl (pi_range1 rfl Z.range (pa_cons (pe_callB call_len_seq rfl Z.len bt_len (pa_cons (pv 0) pa_nil)) pa_nil)) (pg_name (i := 2) sc_p_sought.nd rfl (Or.inl rfl)) (pss_one (ps_if (pt_not (pt_val (pe_callH h_p_holds (hr.mono (by decide)) rfl (pa_cons (pe_ix ix_any (pv 0) (pv 2) (fun _ _ => rfl)) (pa_cons (pv 1) pa_nil))))) (pss_cons (ps_set (i := 1) sc_p_sought.nd rfl (Or.inl rfl) (pe_callH h_p_spot_on_edge (hr.mono (by decide)) rfl (pa_cons (pe_slice sl_list (pv 0) po_none (po_some (pv 2))) (pa_cons (pe_ix ix_any (pv 0) (pv 2) (fun _ _ => rfl)) pa_nil))))
      (pss_one (ps_if (pt_cmpR op_isN (pv 1) pe_non (nomark _)) (pss_one (ps_ret (pe_tup (pa_cons pe_non (pa_cons (pv 2) pa_nil))))) pss_nil))) pss_nil)))
      (pss_one (ps_ret (pe_tup (pa_cons (pv 1) (pa_cons pe_non pa_nil))))))), ?_⟩
  refine ⟨0, 0, 1, rfl, by decide, by decide +kernel, fun p0 H1 s1 hp0 ep0 => ?_⟩
  have ep0' : SpAt H1 p0 (0, 0, 1) := ⟨ep0, by decide, by decide⟩
  refine ⟨_, rfl, l, _, rfl, .inl (s1.seq hl), _, rfl, (by rw [sdRefs_length]; omega), (by rw [sdRefs_length]; omega), for_range (lo := 0) (n := (((sdRefs ss).length : Nat) : Int).toNat) (fun i σ H' => Same H H' ∧ ∃ (p : Addr) (P : P3) (u2 : Option V), SpAt H' p P ∧ inW (ss.take i) P ∧ Cand ss P ∧ σ = [some (.ref l), some (.ref p), u2])
    ⟨s1, p0, (0, 0, 1), none, ep0', (fun t ht => nomatch ht), .inl rfl, rfl⟩ ?_ ?_⟩
  · rintro i σ H' hi ⟨sH, p, P, u2, ep, wp, cp, rfl⟩
    have hil : i < ss.length := by rw [Int.toNat_natCast, sdRefs_length] at hi; exact hi
    obtain ⟨t, mt, gt, at'⟩ := sdRefs_at (ss := ss) (i := i) (k := 0 + (i : Int)) (by omega) hil
    obtain ⟨et0, nt, c1, c2, c3⟩ := ok t mt
    have et : Sq K H' t.1 [.int t.2.1, .int t.2.2.1, .int t.2.2.2] := .inr (SqT.of (sH _ _ et0))
    refine ⟨_, rfl, _, rfl, l, _, _, _, rfl, rfl, .inl (sH.seq hl), at', _, rfl, t.1, p, t.2.1, t.2.2.1, t.2.2.2, P.1, P.2.1, P.2.2, rfl, et, .inr (SqT.of ep.1), by omega, by omega, by omega, _, rfl, ?_⟩
    refine ifN (fun hout => ?_) (fun hin => ?_)
    · have hout' : 0 < sv t.2 P := by
        have : ¬ sv t.2 P ≤ 0 := hout
        omega
      refine ⟨_, rfl, _, rfl, _, rfl, l, _, rfl, sH.seq hl, fun c hc => ?_⟩
      rw [show (0 : Int) + (i : Int) = ((i : Nat) : Int) from Int.zero_add _, sd_upto]
      have sc := same_new hc (.lst (sdRefs (ss.take i)))
      have ec : upd H' c (.lst (sdRefs (ss.take i))) c = some (.lst (sdRefs (ss.take i))) := upd_same
      generalize upd H' c (.lst (sdRefs (ss.take i))) = H2 at sc ec ⊢
      have sH2 := sH.trans sc
      rw [show (0 : Int) + (i : Int) = ((i : Nat) : Int) from Int.zero_add _] at at'
      refine ⟨_, rfl, _, rfl, l, _, _, _, rfl, rfl, .inl (sH2.seq hl), at', c, t.1, ss.take i, t.2, rfl, SqL.of ec, (fun u hu => ok.same sH2 u (List.mem_of_mem_take hu)), by rw [List.length_take]; omega, et.same sc, nt, c1, c2, c3, fun H3 s3 no => ?_, fun p3 P3' H3 s3 ep3 wp3 on3 cd3 => ?_⟩
      · refine ⟨_, rfl, rfl, _, rfl, ?_⟩
        refine iteT ?_
        refine ⟨_, rfl, (by show 2 ≤ sizeLine; decide), fun tt htt => ?_⟩
        exact qn tt i t P _ ((sH2.trans s3).trans (same_new htt _)) upd_same ⟨gt, ep.2.1, wp, hout', no⟩
      · refine ⟨_, rfl, rfl, _, rfl, ?_⟩
        refine iteF ?_
        refine ⟨sH2.trans s3, p3, P3', _, ep3, fun u hu => ?_, ?_, rfl⟩
        · rw [take_snoc gt] at hu
          rcases List.mem_append.mp hu with hu | hu
          · exact wp3 u hu
          · rw [List.mem_singleton] at hu
            rw [hu, on3]
            exact Int.le_refl _
        · rcases cd3 with h | ⟨u, hu, ht, h⟩
          · exact .inr (.inl ⟨t, mt, h⟩)
          · exact .inr (.inr ⟨t, mt, u, List.mem_of_mem_take hu, ht, h⟩)
    · refine ⟨sH, p, P, _, ep, fun u hu => ?_, cp, rfl⟩
      rw [take_snoc gt] at hu
      rcases List.mem_append.mp hu with hu | hu
      · exact wp u hu
      · rw [List.mem_singleton] at hu
        rw [hu]
        exact hin
  · rintro σ H' ⟨sH, p, P, u2, ep, wp, cp, rfl⟩
    rw [Int.toNat_natCast, sdRefs_length, List.take_length] at wp
    refine ⟨_, rfl, (by show 2 ≤ sizeLine; decide), fun tt htt => ?_⟩
    have st := same_new htt (.tup [.ref p, .non])
    exact q tt p P _ (sH.trans st) upd_same (ep.same st) wp cp
def sp_p_some_spot (K : PySem.W.Frag) : Sp := fun vs H Q _ => ∃ (l : Addr) (ss : List Sd), vs = [.ref l] ∧ SqL K H l (sdRefs ss) ∧ SdOk H ss ∧ ss.length ≤ 900 ∧
  (∀ H' : Hp, Same H H' → (∀ z : P3, 0 < z.2.2 → ¬ inW ss z) → Q .non H') ∧
  ∀ (p : Addr) (P : P3) (H' : Hp), Same H H' → SpAt H' p P → inW ss P → Cand ss P → Q (.ref p) H'
theorem ok_p_some_spot (F : Fun K "some_spot" "some_spot" s_p_some_spot f fd) (Z : Zs mg) (h_p_sought : Has P w K mg base "sought" 8 ["sides"] (sp_p_sought K)) : FnOk P w K mg base CX0 9 f fd ["sides"] (sp_p_some_spot K) := by
  refine F.ok sc_p_some_spot (fun vs H Q E h => ?_) (fun cdv A outer s H vs Q E hr h => ?_)
  · obtain ⟨l, ss, rfl, _⟩ := h
    rfl
  obtain ⟨l, ss, rfl, hl, ok, hlen, qn, q⟩ := h
  refine ⟨_, (pss_one (ps_ret (pe_ix ix_any (pe_callH h_p_sought (hr.mono (by decide)) rfl (pa_cons (pv 0) pa_nil)) pe_int (fun _ _ => rfl)))), ?_⟩
  refine ⟨_, rfl, l, ss, rfl, hl, ok, hlen, fun t j e P H' sH et st => ?_, fun t p P H' sH et ep wp cp => ?_⟩
  · exact ⟨t, _, _, .non, rfl, rfl, .inr (SqT.of et), rfl, qn H' sH st.none⟩
  · exact ⟨t, _, _, .ref p, rfl, rfl, .inr (SqT.of et), rfl, q p P H' sH ep wp cp⟩
def sp_p_is_way (K : PySem.W.Frag) : Sp := fun vs H Q _ => ∃ (l d : Addr) (ss : List Sd) (x y : Int), vs = [.ref l, .ref d] ∧ SqL K H l (sdRefs ss) ∧ SdOk H ss ∧ Sq K H d [.int x, .int y] ∧ Q (.bl (wayB ss x y)) H
theorem ok_p_is_way (F : Fun K "is_way" "is_way" s_p_is_way f fd) (Z : Zs mg) (h_p_along : Has P w K mg base "along" 1 ["one", "other"] (sp_p_along K)) : FnOk P w K mg base CX0 2 f fd ["sides", "direction"] (sp_p_is_way K) := by
  refine F.ok sc_p_is_way (fun vs H Q E h => ?_) (fun cdv A outer s H vs Q E hr h => ?_)
  · obtain ⟨l, d, ss, x, y, rfl, _⟩ := h
    rfl
  obtain ⟨l, d, ss, x, y, rfl, hl, ok, hd, q⟩ := h
  refine ⟨_, (pss_cons (ps_for PassesOwn.never rfl (pi_seq (pv 0)) (pg_name (i := 2) sc_p_is_way.nd rfl (Or.inl rfl)) (pss_one (ps_if (pt_cmpR op_gt (pe_callH h_p_along (hr.mono (by decide)) rfl (pa_cons (pv 2) (pa_cons (pv 1) pa_nil))) pe_int (nomark _)) (pss_one (ps_ret pe_bl)) pss_nil)))
      (pss_one (ps_ret pe_bl))), ?_⟩
  refine ⟨_, rfl, l, rfl, .inl ⟨⟨_, hl⟩, for_list (K := K) (a := l) (xs := sdRefs ss) (fun i σ H' => H' = H ∧ (∀ j t, j < i → ss[j]? = some t → t.2.1 * x + t.2.2.1 * y ≤ 0) ∧ ∃ u2 : Option V, σ = [some (.ref l), some (.ref d), u2])
    ⟨rfl, fun j t hj => absurd hj (Nat.not_lt_zero _), none, rfl⟩ (fun i σ H' _ ⟨e, _⟩ => by rw [e]; exact hl) ?_ ?_⟩⟩
  · rintro i v σ H' hi ⟨rfl, hall, u2, rfl⟩
    obtain ⟨t, gt, rfl, hil⟩ := sdRefs_get hi
    obtain ⟨et, _, b1, b2, _⟩ := ok t (List.mem_of_getElem? gt)
    refine ⟨_, rfl, _, rfl, t.1, d, _, _, t.2.1, t.2.2.1, x, y, rfl, .inr (SqT.of et), hd, rfl, rfl, rfl, rfl, by omega, by omega, _, _, rfl, rfl, _, rfl, ?_⟩
    refine ifD (fun hpos => ?_) (fun hneg => ?_)
    · have e : wayB ss x y = false := by
        unfold wayB
        rw [Bool.eq_false_iff]
        intro z
        have z2 := of_decide_eq_true (List.all_eq_true.mp z t (List.mem_of_getElem? gt))
        omega
      rw [e] at q
      exact q
    · refine ⟨rfl, fun j t' hj ht' => ?_, _, rfl⟩
      by_cases e : j = i
      · rw [e, gt] at ht'
        cases ht'
        omega
      · exact hall j t' (by omega) ht'
  · rintro σ H' ⟨rfl, hall, u2, rfl⟩
    have e : wayB ss x y = true := by
      unfold wayB
      rw [List.all_eq_true]
      intro t ht
      obtain ⟨j, hj, ej⟩ := List.getElem_of_mem ht
      exact decide_eq_true (hall j t (by rw [sdRefs_length]; exact hj) (by rw [List.getElem?_eq_getElem hj, ej]))
    rw [e] at q
    exact q
def sp_p_ways (K : PySem.W.Frag) : Sp := fun vs H Q _ => ∃ (l : Addr) (ss : List Sd), vs = [.ref l] ∧ SqL K H l (sdRefs ss) ∧ SdOk H ss ∧ ss.length ≤ 400 ∧
  ∀ (p : Addr) (us : List (Addr × List Int)) (H' : Hp), Same H H' → H p = none → WaysAt H' p ss us → Q (.ref p) H'
theorem ok_p_ways (F : Fun K "ways" "ways" s_p_ways f fd) (Z : Zs mg) (h_p_is_way : Has P w K mg base "is_way" 2 ["sides", "direction"] (sp_p_is_way K)) (h_p_plain : Has P w K mg base "plain" 3 ["direction"] (sp_p_plain K)) : FnOk P w K mg base CX0 4 f fd ["sides"] (sp_p_ways K) := by
  refine F.ok sc_p_ways (fun vs H Q E h => ?_) (fun cdv A outer s H vs Q E hr h => ?_)
  · obtain ⟨l, ss, rfl, _⟩ := h
    rfl
  obtain ⟨l, ss, rfl, hl, ok, h31, q⟩ := h
  have nz : ∀ t ∈ ss, t.2.1 ≠ 0 ∨ t.2.2.1 ≠ 0 := fun t ht => (ok t ht).2.1
  have hu1 := Nat.lt_of_le_of_lt (Nat.add_le_add_left (show 1 ≤ 64 by decide) _) hr.units
  refine ⟨_, (pss_cons (ps_set (i := 1) sc_p_ways.nd rfl (Or.inl rfl) pe_dnewT)
      (pss_cons (ps_for PassesOwn.never rfl (pi_seq (pv 0)) (pg_name (i := 2) sc_p_ways.nd rfl (Or.inl rfl)) (pss_one (ps_for PassesOwn.never rfl (pi_list (pe_lst (pa_cons (pe_tup (pa_cons (pe_un un_neg (pe_ix ix_any (pv 2) pe_int (fun _ _ => rfl))) (pa_cons (pe_ix ix_any (pv 2) pe_int (fun _ _ => rfl)) pa_nil))) (pa_cons (pe_tup (pa_cons (pe_ix ix_any (pv 2) pe_int (fun _ _ => rfl)) (pa_cons (pe_un un_neg (pe_ix ix_any (pv 2) pe_int (fun _ _ => rfl))) pa_nil))) pa_nil)))) (pg_name (i := 3) sc_p_ways.nd rfl (Or.inl rfl)) (pss_one (ps_if (pt_val (pe_callH h_p_is_way (hr.mono (by decide)) rfl (pa_cons (pv 0) (pa_cons (pv 3) pa_nil)))) (pss_one (ps_dput hu1 (pv 1) (pe_callH h_p_plain (hr.mono (by decide)) rfl (pa_cons (pv 3) pa_nil)) pe_bl rfl)) pss_nil)))))
      (pss_one (ps_ret (pe_callB call_sortedT rfl Z.sorted bt_sorted (pa_cons (pe_callTy (call_list_dT rfl) rfl Z.list bt_list (pa_cons (pv 1) pa_nil)) pa_nil)))))), ?_⟩
  refine fun d hd => ?_
  have two : ∀ k, WK ss ss.length k → k.length = 1 + 1 := fun k ⟨_, t, _, _, h⟩ => by
    rcases h with ⟨e, _⟩ | ⟨e, _⟩ <;> rw [e] <;> rfl
  refine ⟨_, rfl, l, rfl, .inl ⟨⟨_, (same_new hd _).seq hl⟩, for_list (K := K) (a := l) (xs := sdRefs ss) (fun i σ H' => Same H H' ∧ (∃ kvs ks, H' d = some (.dT kvs) ∧ TabK kvs ks ∧ ks.length ≤ 2 * i ∧ ∀ k, k ∈ ks ↔ WK ss i k) ∧ ∃ u2 u3 : Option V, σ = [some (.ref l), some (.ref d), u2, u3])
    ⟨same_new hd _, ⟨[], [], upd_same, .nil, Nat.le_refl _, fun k => ⟨(fun z => nomatch z), fun z => absurd z (WK_zero ss k)⟩⟩, none, none, rfl⟩ (fun i σ H' _ ⟨e, _⟩ => e.seq hl) ?_ ?_⟩⟩
  · rintro i v σ H' hi ⟨sH, ⟨kvs, ks, eD, tk, hks, mem⟩, u2, u3, rfl⟩
    obtain ⟨t, gt, rfl, hil⟩ := sdRefs_get hi
    obtain ⟨et0, nt, b1, b2, _⟩ := ok t (List.mem_of_getElem? gt)
    have et := sH _ _ et0
    have st : Sq K H' t.1 [.int t.2.1, .int t.2.2.1, .int t.2.2.2] := .inr (SqT.of et)
    refine ⟨_, rfl, t.1, _, _, .int t.2.2.1, rfl, rfl, st, rfl, _, rfl, _, rfl, t.1, _, _, .int t.2.1, rfl, rfl, st, rfl, (by show 2 ≤ sizeLine; decide), fun p1 hp1 => ?_⟩
    have sp1 : Same H' (upd H' p1 (.tup [.int (-t.2.2.1), .int t.2.1])) := same_new hp1 _
    have ep1 : upd H' p1 (.tup [.int (-t.2.2.1), .int t.2.1]) p1 = some (.tup [.int (-t.2.2.1), .int t.2.1]) := upd_same
    generalize upd H' p1 (.tup [.int (-t.2.2.1), .int t.2.1]) = G1 at sp1 ep1 ⊢
    have st1 := st.same sp1
    refine ⟨_, rfl, t.1, _, _, .int t.2.2.1, rfl, rfl, st1, rfl, _, rfl, t.1, _, _, .int t.2.1, rfl, rfl, st1, rfl, _, rfl, (by show 2 ≤ sizeLine; decide), fun p2 hp2 => ?_⟩
    have sp2 : Same G1 (upd G1 p2 (.tup [.int t.2.2.1, .int (-t.2.1)])) := same_new hp2 _
    have ep2 : upd G1 p2 (.tup [.int t.2.2.1, .int (-t.2.1)]) p2 = some (.tup [.int t.2.2.1, .int (-t.2.1)]) := upd_same
    generalize upd G1 p2 (.tup [.int t.2.2.1, .int (-t.2.1)]) = G2 at sp2 ep2 ⊢
    refine ⟨(by show 2 ≤ sizeLine; decide), fun pl hpl => ?_⟩
    have spl : Same G2 (upd G2 pl (.lst [.ref p1, .ref p2])) := same_new hpl _
    have epl : upd G2 pl (.lst [.ref p1, .ref p2]) pl = some (.lst [.ref p1, .ref p2]) := upd_same
    have sAll := (sp1.trans sp2).trans spl
    have ep1' := spl _ _ (sp2 _ _ ep1)
    have ep2' := spl _ _ ep2
    have eD' := sAll _ _ eD
    generalize upd G2 pl (.lst [.ref p1, .ref p2]) = G3 at spl epl sAll ep1' ep2' eD' ⊢
    have npl : pl ≠ d := fun z => by rw [z] at epl; rw [epl] at eD'; cases eD'
    refine ⟨pl, rfl, ⟨_, SqL.of epl⟩, for_list (K := K) (a := pl) (xs := [.ref p1, .ref p2]) (fun j σ H' => Same H H' ∧ H' pl = some (.lst [.ref p1, .ref p2]) ∧ H' p1 = some (.tup [.int (-t.2.2.1), .int t.2.1]) ∧ H' p2 = some (.tup [.int t.2.2.1, .int (-t.2.1)]) ∧
        (∃ kvs ks, H' d = some (.dT kvs) ∧ TabK kvs ks ∧ ks.length ≤ 2 * i + j ∧ ∀ k, k ∈ ks ↔ WK ss i k ∨ (0 < j ∧ k = lowL [-t.2.2.1, t.2.1] ∧ wayB ss (-t.2.2.1) t.2.1 = true) ∨ (1 < j ∧ k = lowL [t.2.2.1, -t.2.1] ∧ wayB ss t.2.2.1 (-t.2.1) = true)) ∧ ∃ u3 : Option V, σ = [some (.ref l), some (.ref d), some (.ref t.1), u3])
      ⟨sH.trans sAll, epl, ep1', ep2', ⟨kvs, ks, eD', tk, by omega, fun k => (mem k).trans ⟨.inl, fun z => by
        rcases z with z | ⟨z, _⟩ | ⟨z, _⟩
        · exact z
        · exact absurd z (Nat.not_lt_zero _)
        · exact absurd z (Nat.not_lt_zero _)⟩⟩, _, rfl⟩ (fun i σ H' _ ⟨_, e, _⟩ => SqL.of e) ?_ ?_⟩
    · rintro j v σ H4 hj ⟨s4, e4l, e41, e42, ⟨kvs, ks, eD4, tk, hks4, mem⟩, u3, rfl⟩
      have hj2 : j < 2 := (List.getElem?_eq_some_iff.mp hj).1
      obtain ⟨pj, X, Y, rfl, epj, hXY, hn, bX, bY⟩ : ∃ (pj : Addr) (X Y : Int), v = .ref pj ∧ H4 pj = some (.tup [.int X, .int Y]) ∧ ((j = 0 ∧ X = -t.2.2.1 ∧ Y = t.2.1) ∨ (j = 1 ∧ X = t.2.2.1 ∧ Y = -t.2.1)) ∧ (X ≠ 0 ∨ Y ≠ 0) ∧ X.natAbs ≤ 10 ^ 9 ∧ Y.natAbs ≤ 10 ^ 9 := by
        match j, hj with
        | 0, h => cases h; exact ⟨p1, _, _, rfl, e41, .inl ⟨rfl, rfl, rfl⟩, by omega, by omega, by omega⟩
        | 1, h => cases h; exact ⟨p2, _, _, rfl, e42, .inr ⟨rfl, rfl, rfl⟩, by omega, by omega, by omega⟩
      have step : ∀ k, (k = lowL [X, Y] ∧ wayB ss X Y = true) ∨ (WK ss i k ∨ (0 < j ∧ k = lowL [-t.2.2.1, t.2.1] ∧ wayB ss (-t.2.2.1) t.2.1 = true) ∨ (1 < j ∧ k = lowL [t.2.2.1, -t.2.1] ∧ wayB ss t.2.2.1 (-t.2.1) = true)) ↔
          WK ss i k ∨ (0 < j + 1 ∧ k = lowL [-t.2.2.1, t.2.1] ∧ wayB ss (-t.2.2.1) t.2.1 = true) ∨ (1 < j + 1 ∧ k = lowL [t.2.2.1, -t.2.1] ∧ wayB ss t.2.2.1 (-t.2.1) = true) := fun k => by
        rcases hXY with ⟨rfl, rfl, rfl⟩ | ⟨rfl, rfl, rfl⟩
        · constructor
          · rintro (h | h | h | h)
            · exact .inr (.inl ⟨by decide, h⟩)
            · exact .inl h
            · exact absurd h.1 (by decide)
            · exact absurd h.1 (by decide)
          · rintro (h | h | h)
            · exact .inr (.inl h)
            · exact .inl h.2
            · exact absurd h.1 (by decide)
        · constructor
          · rintro (h | h | h | h)
            · exact .inr (.inr ⟨by decide, h⟩)
            · exact .inl h
            · exact .inr (.inl ⟨by decide, h.2⟩)
            · exact absurd h.1 (by decide)
          · rintro (h | h | h)
            · exact .inr (.inl h)
            · exact .inr (.inr (.inl ⟨by decide, h.2⟩))
            · exact .inl h.2
      obtain ⟨gp, g6⟩ := gcd2 hn bX bY
      refine ⟨_, rfl, _, rfl, l, pj, ss, X, Y, rfl, s4.seq hl, ok.same s4, .inr (SqT.of epj), _, rfl, ?_⟩
      by_cases hw : wayB ss X Y = true
      · rw [hw]
        refine iteT ?_
        refine ⟨_, rfl, _, rfl, pj, [X, Y], rfl, .inr (SqT.of epj), by show 2 ≤ 1000; decide, gp, g6, fun pk G5 s5 hpk epk => ?_⟩
        have eD5 := s5 _ _ eD4
        obtain ⟨ks', tk', mem', len'⟩ := tk.put (lowL [X, Y]) (.bl true)
        have kl := tk.len
        refine ⟨d, _, rfl, DPut.t eD5 (by rw [keyI_kV]; exact epk) (by rw [kl]; exact Nat.lt_of_le_of_lt (Nat.le_trans hks4 (show 2 * i + j ≤ 1000 by omega)) (by decide)), ?_⟩
        have keepT : ∀ (b : Addr) (xs : List V), G5 b = some (.tup xs) → upd G5 d (.dT (putK kvs (keyI (lowL [X, Y])) (.bl true))) b = some (.tup xs) := fun b xs e => by
          rw [upd_ne (ne_of e eD5 (by intro z; cases z))]
          exact e
        refine ⟨(s4.trans s5).putNew hd, ?_, keepT _ _ (s5 _ _ e41), keepT _ _ (s5 _ _ e42), ⟨_, ks', upd_same, tk', by omega, fun k => ?_⟩, _, rfl⟩
        · rw [upd_ne npl]
          exact s5 _ _ e4l
        · rw [mem' k, ← step k, ← mem k]
          constructor
          · rintro (h | h)
            · exact .inr h
            · exact .inl ⟨h, hw⟩
          · rintro (h | h)
            · exact .inr h.1
            · exact .inl h
      · have hw' : wayB ss X Y = false := by simpa using hw
        rw [hw']
        refine iteF ?_
        refine ⟨s4, e4l, e41, e42, ⟨kvs, ks, eD4, tk, by omega, fun k => ?_⟩, _, rfl⟩
        rw [mem k, ← step k]
        constructor
        · exact .inr
        · rintro (h | h)
          · exact absurd h.2 hw
          · exact h
    · rintro σ H4 ⟨s4, _, _, _, ⟨kvs, ks, eD4, tk, hks4, mem⟩, u3, rfl⟩
      refine ⟨s4, ⟨kvs, ks, eD4, tk, by show ks.length ≤ 2 * (i + 1); have : ks.length ≤ 2 * i + 2 := hks4; omega, fun k => ?_⟩, _, _, rfl⟩
      rw [mem k, WK_succ gt]
      constructor
      · rintro (h | h | h)
        · exact .inl h
        · exact .inr (.inl h.2)
        · exact .inr (.inr h.2)
      · rintro (h | h | h)
        · exact .inl h
        · exact .inr (.inl ⟨by show 0 < 2; decide, h⟩)
        · exact .inr (.inr ⟨by show 1 < 2; decide, h⟩)
  · rintro σ H' ⟨sH, ⟨kvs, ks, eD, tk, hks, mem⟩, u2, u3, rfl⟩
    rw [sdRefs_length] at hks mem
    refine ⟨_, rfl, d, kvs, rfl, eD, fun p1 ts hp1 ets hts => ?_⟩
    have sp1 := same_new hp1 (.lst ((ts.map (·.1)).map V.ref))
    obtain ⟨us, u1, u2, u3⟩ := tk.refs ets hts
    have few2 := ways_few nz tk.nodup fun k hk => (mem k).mp hk
    refine ⟨p1, us, 1, rfl, by rw [u1]; exact SqL.of upd_same, by have z := congrArg List.length u2; rw [List.length_map] at z; omega, fun t ht => ⟨sp1 _ _ (u3 t ht), ?_⟩, fun p2 us2 hp2 pm ri => ?_⟩
    · have z : t.2 ∈ ks := by rw [← u2]; exact List.mem_map_of_mem ht
      exact two t.2 ((mem _).mp z)
    have sp2 := same_new hp2 (.lst ((us2.map (·.1)).map V.ref))
    have pm2 : (us2.map (·.2)).Perm ks := by rw [← u2]; exact pm.map _
    refine q p2 us2 _ (((sH).trans sp1).trans sp2) ((sH).free (sp1.free hp2)) ⟨upd_same, fun u hu => sp2 _ _ (sp1 _ _ (u3 u (pm.mem_iff.mp hu))), List.pairwise_map.mpr ri, pm2.nodup_iff.mpr tk.nodup, fun k => (pm2.mem_iff).trans (mem k), by have z := pm2.length_eq; rw [List.length_map] at z; omega⟩
def sp_p_span (K : PySem.W.Frag) : Sp := fun vs H Q _ => ∃ (a : Addr) (us : List V) (x y : Int), vs = [.ref a] ∧ Sq K H a us ∧ atI us 0 = some (.int x) ∧ atI us 1 = some (.int y) ∧ Q (.int (span2 x y)) H
theorem ok_p_span (F : Fun K "span" "span" s_p_span f fd) (Z : Zs mg)  : FnOk P w K mg base CX0 1 f fd ["direction"] (sp_p_span K) := by
  refine F.ok sc_p_span (fun vs H Q E h => ?_) (fun cdv A outer s H vs Q E hr h => ?_)
  · obtain ⟨a, us, x, y, rfl, _⟩ := h
    rfl
  obtain ⟨a, us, x, y, rfl, ha, h0, h1, q⟩ := h
  refine ⟨_, (pss_one (ps_ret (pe_op op_add (pe_callB call_abs rfl Z.abs bt_abs (pa_cons (pe_ix ix_any (pv 0) pe_int (fun _ _ => rfl)) pa_nil)) (pe_callB call_abs rfl Z.abs bt_abs (pa_cons (pe_ix ix_any (pv 0) pe_int (fun _ _ => rfl)) pa_nil))))), ?_⟩
  exact ⟨_, rfl, a, _, _, .int x, rfl, rfl, ha, h0, _, rfl, _, rfl, a, _, _, .int y, rfl, rfl, ha, h1, _, rfl, _, _, rfl, rfl, q⟩
def sp_p_weighed (K : PySem.W.Frag) : Sp := fun vs H Q _ => ∃ (a b : Addr) (ns ws : List Int), vs = [.ref a, .ref b] ∧ SqL K H a (ns.map V.int) ∧ SqL K H b (ws.map V.int) ∧ ns.length = ws.length ∧ ws.length ≤ 900 ∧ 0 < gcdL ws ∧ (gcdL ws : Int) < 10 ^ 600 ∧
  ∀ (D : Addr) (cs : List Pr) (H' : Hp), Same H H' → H D = none → H' D = some (.lst (refsOf cs)) → PrAt H' cs → cs.map (·.2) = ns.zip (lowL ws) → Q (.ref D) H'
theorem ok_p_weighed (F : Fun K "weighed" "weighed" s_p_weighed f fd) (Z : Zs mg) (h_p_lowest : Has P w K mg base "lowest" 2 ["numbers"] (sp_p_lowest K)) : FnOk P w K mg base CX0 3 f fd ["numbers", "weights"] (sp_p_weighed K) := by
  refine F.ok sc_p_weighed (fun vs H Q E h => ?_) (fun cdv A outer s H vs Q E hr h => ?_)
  · obtain ⟨a, b, ns, ws, rfl, _⟩ := h
    rfl
  obtain ⟨a, b, ns, ws, rfl, ha, hb, hn, hl, hg, hg2, q⟩ := h
  refine ⟨_, (pss_cons (ps_set (i := 2) sc_p_weighed.nd rfl (Or.inr rfl) (pe_callH h_p_lowest (hr.mono (by decide)) rfl (pa_cons (pv 1) pa_nil)))
      (pss_one (ps_ret (pe_comp (T := ["at"]) (caps := [("least", 2), ("numbers", 0)]) ⟨rfl, by decide +kernel, by decide +kernel, rfl, ⟨⟨rfl, rfl, Or.inl rfl⟩, ⟨rfl, rfl, Or.inl rfl⟩, True.intro⟩⟩ rfl (pi_range1 rfl Z.range (pa_cons (pe_callB call_len_seq rfl Z.len bt_len (pa_cons (pv 0) pa_nil)) pa_nil)) (fun _ => (pg_name (i := 0) (show (["at", "least", "numbers"] : List Str).Nodup by decide +kernel) rfl (Or.inl rfl))) (fun _ => pifs_nil) (fun _ => (pe_tup (pa_cons (pe_ix ix_any (pv 2) (pv 0) (fun _ _ => rfl)) (pa_cons (pe_ix ix_any (pv 1) (pv 0) (fun _ _ => rfl)) pa_nil)))))))), ?_⟩
  refine ⟨_, rfl, b, ws, rfl, .inl hb, by omega, hg, hg2, fun p H1 s1 hp ep => ?_⟩
  have hlow : (lowL ws).length = ws.length := by unfold lowL; rw [List.length_map]
  have ha1 := s1.seq ha
  refine ⟨_, rfl, a, _, rfl, .inl ha1, _, rfl, (by rw [List.length_map]; omega), (by rw [List.length_map]; omega), fun cc D hD => comp_range0 (lo := 0) (n := (((ns.map V.int).length : Nat) : Int).toNat) (fun i σ ys G => Same H1 G ∧ G D = some (.lst ys) ∧ (∃ cs : List Pr, ys = refsOf cs ∧ PrAt G cs ∧ cs.map (·.2) = (ns.zip (lowL ws)).take i) ∧ ∃ u0 : Option V, σ = [u0, some (.ref p), some (.ref a)])
    ⟨same_new hD _, upd_same, ⟨[], rfl, (fun t ht => nomatch ht), rfl⟩, none, rfl⟩ (fun i σ ys G _ ⟨_, e, _⟩ => e) ?_ ?_⟩
  · rintro i σ ys G hi ⟨sG, eD, ⟨cs, rfl, okc, mc⟩, u0, rfl⟩
    rw [Int.toNat_natCast, List.length_map] at hi
    have lc : cs.length ≤ i := by
      have z := congrArg List.length mc
      rw [List.length_map, List.length_take] at z
      omega
    obtain ⟨n, gn, an⟩ := ints_at (ns := ns) (i := i) (k := 0 + (i : Int)) (by omega) hi
    obtain ⟨m, gm, am⟩ := ints_at (ns := lowL ws) (i := i) (k := 0 + (i : Int)) (by omega) (by omega)
    refine ⟨_, rfl, _, rfl, a, _, _, _, rfl, rfl, .inl (sG.seq ha1), an, _, rfl, _, rfl, p, _, _, _, rfl, rfl, .inr (SqT.of (sG _ _ ep)), am, (by show 2 ≤ sizeLine; decide), fun t ht => ?_⟩
    have st := same_new ht (.tup [.int n, .int m])
    have ntD : t ≠ D := fun z => by rw [z, eD] at ht; cases ht
    refine ⟨st _ _ eD, small1000 (by rw [refsOf_length]; omega), (sG.trans st).putNew hD, upd_same, ⟨cs ++ [(t, n, m)], by simp [refsOf], fun u hu => ?_, ?_⟩, _, rfl⟩
    · rcases List.mem_append.mp hu with hu | hu
      · rw [upd_ne (ne_of (st _ _ (okc u hu)) (st _ _ eD) (by intro z; cases z))]
        exact st _ _ (okc u hu)
      · rw [List.mem_singleton] at hu
        subst hu
        show upd _ D _ t = _
        rw [upd_ne ntD]
        exact upd_same
    · rw [List.map_append, mc, take_snoc (x := (n, m)) (by rw [List.getElem?_zip_eq_some]; exact ⟨gn, gm⟩)]
      rfl
  · rintro σ ys G ⟨sG, eD, ⟨cs, rfl, okc, mc⟩, u0, rfl⟩
    rw [Int.toNat_natCast, List.length_map, List.take_of_length_le (by rw [List.length_zip]; omega)] at mc
    exact q D cs G (s1.trans sG) (s1.free hD) eD okc mc
theorem abs_le {a b c d : Int} (ha : a.natAbs ≤ 10 ^ 9) (hb : b.natAbs ≤ 10 ^ 9) (hc : c.natAbs ≤ 10 ^ 9) (hd : d.natAbs ≤ 10 ^ 9) : absI (a * b - c * d) ≤ 10 ^ 19 := by
  have z1 := natAbs_mul_le a b ha hb
  have z2 := natAbs_mul_le c d hc hd
  unfold absI
  split <;> omega
def sp_p_clash_of_three (K : PySem.W.Frag) : Sp := fun vs H Q _ => ∃ (l : Addr) (ss : List Sd) (j : Nat) (e : Sd) (P : P3), vs = [.ref l, .int j] ∧ SqL K H l (sdRefs ss) ∧ SdOk H ss ∧ ss.length ≤ 900 ∧ Stuck ss j e P ∧ (∀ t ∈ ss.take j, tn e.2 t.2 = 0 → sv t.2 (pt3 (ftL e.2)) ≤ 0) ∧
  ∀ (D : Addr) (cs : List Pr) (H' : Hp), Same H H' → H D = none → H' D = some (.lst (refsOf cs)) → PrAt H' cs → Clash ss (cs.map (·.2)) → Q (.ref D) H'
theorem ok_p_clash_of_three (F : Fun K "clash_of_three" "clash_of_three" s_p_clash_of_three f fd) (Z : Zs mg) (h_p_weighed : Has P w K mg base "weighed" 3 ["numbers", "weights"] (sp_p_weighed K)) (h_p_turn : Has P w K mg base "turn" 1 ["one", "other"] (sp_p_turn K)) (h_p_edge_end : Has P w K mg base "edge_end" 5 ["sides", "edge", "hand"] (sp_p_edge_end K)) : FnOk P w K mg base CX0 6 f fd ["sides", "last"] (sp_p_clash_of_three K) := by
  refine F.ok sc_p_clash_of_three (fun vs H Q E h => ?_) (fun cdv A outer s H vs Q E hr h => ?_)
  · obtain ⟨l, ss, j, e, P, rfl, _⟩ := h
    rfl
  obtain ⟨l, ss, j, e, P, rfl, hl, ok, hlen, st, bes, q⟩ := h
  have hj : j < ss.length := (List.getElem?_eq_some_iff.mp st.at').1
  obtain ⟨e', me, ge, at'⟩ := sdRefs_at (ss := ss) (i := j) (k := (j : Int)) rfl hj
  rw [st.at'] at ge
  cases ge
  obtain ⟨ee, ne, c1, c2, c3⟩ := ok e me
  have hN := nn_pos ne
  obtain ⟨sf, f1⟩ := ft_ok ne
  refine ⟨_, (pss_cons (ps_set (i := 2) sc_p_clash_of_three.nd rfl (Or.inl rfl) (pe_ix ix_any (pv 0) (pv 1) (fun _ _ => rfl)))
      (pss_cons (ps_set (i := 3) sc_p_clash_of_three.nd rfl (Or.inl rfl) (pe_callB call_sortedI rfl Z.sorted bt_sorted (pa_cons (pe_lst (pa_cons (pe_callH h_p_edge_end (hr.mono (by decide)) rfl (pa_cons (pe_slice sl_list (pv 0) po_none (po_some (pv 1))) (pa_cons (pv 2) (pa_cons (pe_un un_neg pe_int) pa_nil)))) (pa_cons (pe_callH h_p_edge_end (hr.mono (by decide)) rfl (pa_cons (pe_slice sl_list (pv 0) po_none (po_some (pv 1))) (pa_cons (pv 2) (pa_cons pe_int pa_nil)))) pa_nil))) pa_nil)))
      (pss_cons (ps_set (i := 4) sc_p_clash_of_three.nd rfl (Or.inl rfl) (pe_ix ix_any (pv 0) (pe_ix ix_any (pv 3) pe_int (fun _ _ => rfl)) (fun _ _ => rfl)))
      (pss_cons (ps_set (i := 5) sc_p_clash_of_three.nd rfl (Or.inl rfl) (pe_ix ix_any (pv 0) (pe_ix ix_any (pv 3) pe_int (fun _ _ => rfl)) (fun _ _ => rfl)))
      (pss_cons (ps_set (i := 6) sc_p_clash_of_three.nd rfl (Or.inl rfl) (pe_lst (pa_cons (pe_callB call_abs rfl Z.abs bt_abs (pa_cons (pe_callH h_p_turn (hr.mono (by decide)) rfl (pa_cons (pv 5) (pa_cons (pv 2) pa_nil))) pa_nil)) (pa_cons (pe_callB call_abs rfl Z.abs bt_abs (pa_cons (pe_callH h_p_turn (hr.mono (by decide)) rfl (pa_cons (pv 2) (pa_cons (pv 4) pa_nil))) pa_nil)) (pa_cons (pe_callB call_abs rfl Z.abs bt_abs (pa_cons (pe_callH h_p_turn (hr.mono (by decide)) rfl (pa_cons (pv 4) (pa_cons (pv 5) pa_nil))) pa_nil)) pa_nil)))))
      (pss_one (ps_ret (pe_callH h_p_weighed (hr.mono (by decide)) rfl (pa_cons (pe_op op_cat (pv 3) (pe_lst (pa_cons (pv 1) pa_nil))) (pa_cons (pv 6) pa_nil)))))))))), ?_⟩
  refine ⟨_, rfl, _, rfl, l, _, _, _, rfl, rfl, .inl hl, at', ?_⟩
  refine ⟨_, rfl, _, rfl, _, rfl, l, _, rfl, hl, fun c hc => ?_⟩
  rw [sd_upto]
  have sc := same_new hc (.lst (sdRefs (ss.take j)))
  have ec : upd H c (.lst (sdRefs (ss.take j))) c = some (.lst (sdRefs (ss.take j))) := upd_same
  generalize upd H c (.lst (sdRefs (ss.take j))) = H1 at sc ec ⊢
  refine ⟨_, rfl, _, rfl, c, e.1, ss.take j, e.2, -1, rfl, SqL.of ec, (fun u hu => ok.same sc u (List.mem_of_mem_take hu)), by rw [List.length_take]; omega, .inr (SqT.of (sc _ _ ee)), ne, c1, c2, c3, .inr rfl, fun r1 H2 s2 k1 => ?_⟩
  have sH2 := sc.trans s2
  refine ⟨_, rfl, _, rfl, _, rfl, l, _, rfl, sH2.seq hl, fun d hd => ?_⟩
  rw [sd_upto]
  have sd := same_new hd (.lst (sdRefs (ss.take j)))
  have ed : upd H2 d (.lst (sdRefs (ss.take j))) d = some (.lst (sdRefs (ss.take j))) := upd_same
  generalize upd H2 d (.lst (sdRefs (ss.take j))) = H3 at sd ed ⊢
  have sH3 := sH2.trans sd
  refine ⟨_, rfl, d, e.1, ss.take j, e.2, 1, rfl, SqL.of ed, (fun u hu => ok.same sH3 u (List.mem_of_mem_take hu)), by rw [List.length_take]; omega, .inr (SqT.of (sH3 _ _ ee)), ne, c1, c2, c3, .inl rfl, fun r2 H4 s4 k2 => ?_⟩
  have sH4 := sH3.trans s4
  obtain ⟨i1, rfl⟩ : ∃ i1, r1 = some i1 := by
    cases r1 with
    | some i1 => exact ⟨i1, rfl⟩
    | none => exact (end_some (h := -1) (by decide) hN f1 sf.pos st.no bes k1 (show EndOk (ss.take j) e.2 (- -1) r2 from k2)).elim
  obtain ⟨i2, rfl⟩ : ∃ i2, r2 = some i2 := by
    cases r2 with
    | some i2 => exact ⟨i2, rfl⟩
    | none => exact (end_some (h := 1) (by decide) hN f1 sf.pos st.no bes k2 k1).elim
  obtain ⟨a, ga, ha, ta⟩ := k1
  obtain ⟨b, gb, hb, tb⟩ := k2
  refine ⟨(by show 2 ≤ sizeLine; decide), fun nl hnl => ?_⟩
  have snl : Same H4 (upd H4 nl (.lst [optV (some i1), optV (some i2)])) := same_new hnl _
  have enl : upd H4 nl (.lst [optV (some i1), optV (some i2)]) nl = some (.lst ([(i1 : Int), (i2 : Int)].map V.int)) := upd_same
  generalize upd H4 nl (.lst [optV (some i1), optV (some i2)]) = H5 at snl enl ⊢
  have sH5 := sH4.trans snl
  refine ⟨nl, [(i1 : Int), (i2 : Int)], rfl, SqL.of enl, (by show 2 < 64; decide), fun sn ms hsn pm pw => ?_⟩
  have di : i1 ≠ i2 := fun z => by
    rw [z, gb] at ga
    cases ga
    omega
  obtain ⟨x, y, s1, t1, h, rfl, hxy, gx, gy, h1, hs1, ht1, as1, at1⟩ : ∃ (x y : Nat) (s1 t1 : Sd) (h : Int), ms = [(x : Int), (y : Int)] ∧ x < y ∧ (ss.take j)[x]? = some s1 ∧ (ss.take j)[y]? = some t1 ∧ (h = 1 ∨ h = -1) ∧ 0 < tn e.2 s1.2 * h ∧ 0 < tn e.2 t1.2 * -h ∧
      (∀ u ∈ ss.take j, 0 < tn e.2 u.2 * h → sv u.2 (pt3 (crL e.2 s1.2)) ≤ 0) ∧ (∀ u ∈ ss.take j, 0 < tn e.2 u.2 * -h → sv u.2 (pt3 (crL e.2 t1.2)) ≤ 0) := by
    rcases two_sorted pm pw with ⟨rfl, le⟩ | ⟨rfl, le⟩
    · exact ⟨i1, i2, a, b, -1, rfl, by omega, ga, gb, .inr rfl, ha, hb, ta, tb⟩
    · exact ⟨i2, i1, b, a, 1, rfl, by omega, gb, ga, .inl rfl, hb, ha, tb, ta⟩
  have hh : h * h = 1 := by rcases h1 with rfl | rfl <;> rfl
  obtain ⟨A1, A2, A3, A4⟩ := three hh hN f1 sf.pos st.no bes (List.mem_of_getElem? gx) (List.mem_of_getElem? gy) hs1 ht1 as1 at1 st.pos st.ahead st.out
  have gx' : ss[x]? = some s1 ∧ x < j := by
    rw [List.getElem?_take] at gx
    split at gx
    · exact ⟨gx, by omega⟩
    · cases gx
  have gy' : ss[y]? = some t1 ∧ y < j := by
    rw [List.getElem?_take] at gy
    split at gy
    · exact ⟨gy, by omega⟩
    · cases gy
  obtain ⟨_, mx, gx2, atx⟩ := sdRefs_at (ss := ss) (i := x) (k := (x : Int)) rfl (by omega)
  rw [gx'.1] at gx2
  cases gx2
  obtain ⟨_, my, gy2, aty⟩ := sdRefs_at (ss := ss) (i := y) (k := (y : Int)) rfl (by omega)
  rw [gy'.1] at gy2
  cases gy2
  obtain ⟨es, ns, d1, d2, d3⟩ := ok s1 mx
  obtain ⟨et, nt, g1, g2, g3⟩ := ok t1 my
  have ssn : Same H5 (upd H5 sn (.lst ([(x : Int), (y : Int)].map V.int))) := same_new hsn _
  have esn : upd H5 sn (.lst ([(x : Int), (y : Int)].map V.int)) sn = some (.lst ([(x : Int), (y : Int)].map V.int)) := upd_same
  generalize upd H5 sn (.lst ([(x : Int), (y : Int)].map V.int)) = H6 at ssn esn ⊢
  have sH6 := sH5.trans ssn
  have hl6 : Sq K H6 l (sdRefs ss) := .inl (sH6.seq hl)
  have ee6 : Sq K H6 e.1 [.int e.2.1, .int e.2.2.1, .int e.2.2.2] := .inr (SqT.of (sH6 _ _ ee))
  have es6 : Sq K H6 s1.1 [.int s1.2.1, .int s1.2.2.1, .int s1.2.2.2] := .inr (SqT.of (sH6 _ _ es))
  have et6 : Sq K H6 t1.1 [.int t1.2.1, .int t1.2.2.1, .int t1.2.2.2] := .inr (SqT.of (sH6 _ _ et))
  refine ⟨_, rfl, _, rfl, sn, _, _, .int (x : Int), rfl, rfl, .inl (SqL.of esn), rfl, l, _, _, _, rfl, rfl, hl6, atx, ?_⟩
  refine ⟨_, rfl, _, rfl, sn, _, _, .int (y : Int), rfl, rfl, .inl (SqL.of esn), rfl, l, _, _, _, rfl, rfl, hl6, aty, ?_⟩
  refine ⟨_, rfl, _, rfl, t1.1, e.1, _, _, t1.2.1, t1.2.2.1, e.2.1, e.2.2.1, rfl, et6, ee6, rfl, rfl, rfl, rfl, by omega, by omega, _, rfl,
    _, rfl, _, rfl, e.1, s1.1, _, _, e.2.1, e.2.2.1, s1.2.1, s1.2.2.1, rfl, ee6, es6, rfl, rfl, rfl, rfl, by omega, by omega, _, rfl,
    _, rfl, _, rfl, s1.1, t1.1, _, _, s1.2.1, s1.2.2.1, t1.2.1, t1.2.2.1, rfl, es6, et6, rfl, rfl, rfl, rfl, by omega, by omega, _, rfl, (by show 3 ≤ sizeLine; decide), fun wl hwl => ?_⟩
  refine ⟨_, rfl, _, rfl, (by show 1 ≤ sizeLine; decide), fun ol hol => ?_⟩
  have swl := same_new hwl (.lst ([absI (tn t1.2 e.2), absI (tn e.2 s1.2), absI (tn s1.2 t1.2)].map V.int))
  have sol := same_new hol (.lst [.int (j : Int)])
  refine ⟨sn, ol, _, _, rfl, rfl, sol _ _ (swl _ _ esn), upd_same, small (by show 2 + 1 ≤ 1000; decide), fun nc hnc => ?_⟩
  have snc := same_new hnc (.lst ([(x : Int), (y : Int), (j : Int)].map V.int))
  have pU : 0 < absI (tn t1.2 e.2) := by rw [absI_hand h1 A1]; exact A1
  have pV : 0 < absI (tn e.2 s1.2) := by rw [absI_hand h1 A2]; exact A2
  have pX : 0 < absI (tn s1.2 t1.2) := by rw [absI_hand h1 A3]; exact A3
  have bU : absI (tn t1.2 e.2) ≤ 10 ^ 19 := abs_le g1 c2 g2 c1
  have bV : absI (tn e.2 s1.2) ≤ 10 ^ 19 := abs_le c1 d2 c2 d1
  have bX : absI (tn s1.2 t1.2) ≤ 10 ^ 19 := abs_le d1 g2 d2 g1
  have gk := gcd_ok (ws := [absI (tn t1.2 e.2), absI (tn e.2 s1.2), absI (tn s1.2 t1.2)]) (List.mem_cons_self ..) pU (by omega)
  refine ⟨_, rfl, nc, wl, [(x : Int), (y : Int), (j : Int)], [absI (tn t1.2 e.2), absI (tn e.2 s1.2), absI (tn s1.2 t1.2)], rfl, SqL.of upd_same, SqL.of (snc _ _ (sol _ _ upd_same)), rfl, (by show 3 ≤ 900; decide), gk.1, gk.2, fun D cs H' s' hD eD okc mc => ?_⟩
  have sAll := ((swl.trans sol).trans snc).trans s'
  have sBack := (swl.trans sol).trans snc
  refine q D cs H' (sH6.trans sAll) (sH6.free (sBack.free hD)) eD okc ?_
  rw [mc]
  obtain ⟨w1, w2⟩ := turns_zero s1.2 t1.2 e.2
  have f : ∀ a b c : Int, tn t1.2 e.2 * h * a + tn e.2 s1.2 * h * b + tn s1.2 t1.2 * h * c = (tn t1.2 e.2 * a + tn e.2 s1.2 * b + tn s1.2 t1.2 * c) * h := fun a b c => by
    rw [Int.add_mul, Int.add_mul, Int.mul_right_comm, Int.mul_right_comm (tn e.2 s1.2), Int.mul_right_comm (tn s1.2 t1.2)]
  refine clash_three hxy gy'.2 gx'.1 gy'.1 st.at' pU pV pX bU bV bX ?_ ?_ ?_
  · rw [absI_hand h1 A1, absI_hand h1 A2, absI_hand h1 A3, f]
    have w1' : tn t1.2 e.2 * s1.2.1 + tn e.2 s1.2 * t1.2.1 + tn s1.2 t1.2 * e.2.1 = 0 := w1
    rw [w1', Int.zero_mul]
  · rw [absI_hand h1 A1, absI_hand h1 A2, absI_hand h1 A3, f]
    have w2' : tn t1.2 e.2 * s1.2.2.1 + tn e.2 s1.2 * t1.2.2.1 + tn s1.2 t1.2 * e.2.2.1 = 0 := w2
    rw [w2', Int.zero_mul]
  · rw [absI_hand h1 A1, absI_hand h1 A2, absI_hand h1 A3, f]
    exact A4
def sp_p_clash (K : PySem.W.Frag) : Sp := fun vs H Q _ => ∃ (l : Addr) (ss : List Sd), vs = [.ref l] ∧ SqL K H l (sdRefs ss) ∧ SdOk H ss ∧ ss.length ≤ 900 ∧
  (∀ (P : P3) (H' : Hp), Same H H' → 0 < P.2.2 → inW ss P → Cand ss P → Q .non H') ∧
  ∀ (D : Addr) (cs : List Pr) (H' : Hp), Same H H' → H D = none → H' D = some (.lst (refsOf cs)) → PrAt H' cs → Clash ss (cs.map (·.2)) → Q (.ref D) H'
theorem ok_p_clash (F : Fun K "clash" "clash" s_p_clash f fd) (Z : Zs mg) (h_p_clash_of_three : Has P w K mg base "clash_of_three" 6 ["sides", "last"] (sp_p_clash_of_three K)) (h_p_turn : Has P w K mg base "turn" 1 ["one", "other"] (sp_p_turn K)) (h_p_holds : Has P w K mg base "holds" 2 ["side", "spot"] (sp_p_holds K)) (h_p_foot : Has P w K mg base "foot" 5 ["side"] (sp_p_foot K)) (h_p_weighed : Has P w K mg base "weighed" 3 ["numbers", "weights"] (sp_p_weighed K)) (h_p_span : Has P w K mg base "span" 1 ["direction"] (sp_p_span K)) (h_p_sought : Has P w K mg base "sought" 8 ["sides"] (sp_p_sought K)) : FnOk P w K mg base CX0 9 f fd ["sides"] (sp_p_clash K) := by
  refine F.ok sc_p_clash (fun vs H Q E h => ?_) (fun cdv A outer s H vs Q E hr h => ?_)
  · obtain ⟨l, ss, rfl, _⟩ := h
    rfl
  obtain ⟨l, ss, rfl, hl, ok, hlen, qn, q⟩ := h
  refine ⟨_, (pss_cons (ps_set (i := 1) sc_p_clash.nd rfl (Or.inl rfl) (pe_ix ix_any (pe_callH h_p_sought (hr.mono (by decide)) rfl (pa_cons (pv 0) pa_nil)) pe_int (fun _ _ => rfl)))
      (pss_cons (ps_if (pt_cmpR op_isN (pv 1) pe_non (nomark _)) (pss_one (ps_ret pe_non)) pss_nil)
      (pss_cons (ps_set (i := 2) sc_p_clash.nd rfl (Or.inl rfl) (pe_ix ix_any (pv 0) (pv 1) (fun _ _ => rfl)))
      (pss_cons (ps_for PassesOwn.never rfl (pi_range1 rfl Z.range (pa_cons (pv 1) pa_nil)) (pg_name (i := 3) sc_p_clash.nd rfl (Or.inl rfl)) (pss_cons (ps_set (i := 4) sc_p_clash.nd rfl (Or.inl rfl) (pe_ix ix_any (pv 0) (pv 3) (fun _ _ => rfl)))
      (pss_one (ps_if (PW.pt (pw_and (pt_cmpR op_eq (pe_callH h_p_turn (hr.mono (by decide)) rfl (pa_cons (pv 2) (pa_cons (pv 4) pa_nil))) pe_int (nomark _)) (pw_and1 (pt_not (pt_val (pe_callH h_p_holds (hr.mono (by decide)) rfl (pa_cons (pv 4) (pa_cons (pe_callH h_p_foot (hr.mono (by decide)) rfl (pa_cons (pv 2) pa_nil)) pa_nil)))))))) (pss_one (ps_ret (pe_callH h_p_weighed (hr.mono (by decide)) rfl (pa_cons (pe_lst (pa_cons (pv 3) (pa_cons (pv 1) pa_nil))) (pa_cons (pe_lst (pa_cons (pe_callH h_p_span (hr.mono (by decide)) rfl (pa_cons (pv 2) pa_nil)) (pa_cons (pe_callH h_p_span (hr.mono (by decide)) rfl (pa_cons (pv 4) pa_nil)) pa_nil))) pa_nil))))) pss_nil))))
      (pss_one (ps_ret (pe_callH h_p_clash_of_three (hr.mono (by decide)) rfl (pa_cons (pv 0) (pa_cons (pv 1) pa_nil))))))))), ?_⟩
  refine ⟨_, rfl, l, ss, rfl, hl, ok, hlen, fun t j e P H1 s1 et st => ?_, fun t p P H1 s1 et ep wp cp => ?_⟩
  · refine ⟨t, _, _, .int j, rfl, rfl, .inr (SqT.of et), rfl, ?_⟩
    refine ⟨_, rfl, rfl, _, rfl, ?_⟩
    refine iteF ?_
    have hj : j < ss.length := (List.getElem?_eq_some_iff.mp st.at').1
    obtain ⟨e', me, ge, at'⟩ := sdRefs_at (ss := ss) (i := j) (k := (j : Int)) rfl hj
    rw [st.at'] at ge
    cases ge
    obtain ⟨ee, ne, c1, c2, c3⟩ := ok e me
    have hN := nn_pos ne
    obtain ⟨sf, f1⟩ := ft_ok ne
    refine ⟨_, rfl, _, rfl, l, _, _, _, rfl, rfl, .inl (s1.seq hl), at', ?_⟩
    refine ⟨_, rfl, _, rfl, (by omega), (by omega), for_range (lo := 0) (n := ((j : Nat) : Int).toNat) (fun i σ H' => Same H1 H' ∧ (∀ u ∈ ss.take i, tn e.2 u.2 = 0 → sv u.2 (pt3 (ftL e.2)) ≤ 0) ∧ ∃ u3 u4 : Option V, σ = [some (.ref l), some (.int j), some (.ref e.1), u3, u4])
      ⟨Same.refl _, (fun t ht => nomatch ht), none, none, rfl⟩ ?_ ?_⟩
    · rintro i σ H' hi ⟨sH, bes, u3, u4, rfl⟩
      rw [Int.toNat_natCast] at hi
      obtain ⟨u, mu, gu, atu⟩ := sdRefs_at (ss := ss) (i := i) (k := 0 + (i : Int)) (by omega) (by omega)
      obtain ⟨eu0, nu, d1, d2, d3⟩ := ok u mu
      have s0 := s1.trans sH
      have eu : Sq K H' u.1 [.int u.2.1, .int u.2.2.1, .int u.2.2.2] := .inr (SqT.of (s0 _ _ eu0))
      have ee' : Sq K H' e.1 [.int e.2.1, .int e.2.2.1, .int e.2.2.2] := .inr (SqT.of (s0 _ _ ee))
      refine ⟨_, rfl, _, rfl, l, _, _, _, rfl, rfl, .inl (s0.seq hl), atu, ?_⟩
      refine ⟨_, rfl, _, rfl, e.1, u.1, _, _, e.2.1, e.2.2.1, u.2.1, u.2.2.1, rfl, ee', eu, rfl, rfl, rfl, rfl, by omega, by omega, rfl, _, rfl, ?_⟩
      refine ifE (fun h0 => ?_) (fun h0 => ?_)
      · have h0' : tn e.2 u.2 = 0 := h0
        refine ⟨_, rfl, _, rfl, e.1, e.2, rfl, ee', ne, c1, c2, fun fp H2 s2 hfp efp => ?_⟩
        have efp' : H2 fp = some (.tup [.int (pt3 (ftL e.2)).1, .int (pt3 (ftL e.2)).2.1, .int (pt3 (ftL e.2)).2.2]) := by
          rw [efp, sf.list]
          rfl
        refine ⟨u.1, fp, u.2.1, u.2.2.1, u.2.2.2, (pt3 (ftL e.2)).1, (pt3 (ftL e.2)).2.1, (pt3 (ftL e.2)).2.2, rfl, eu.same s2, .inr (SqT.of efp'), by omega, by omega, by omega, _, rfl, ?_⟩
        refine ifN (fun hout => ?_) (fun hin => ?_)
        · have hout' : 0 < sv u.2 (pt3 (ftL e.2)) := by
            have : ¬ sv u.2 (pt3 (ftL e.2)) ≤ 0 := hout
            omega
          obtain ⟨z1, z2, z3⟩ := contrary h0' hN ne sf.pos st.pos f1 hout' (st.ahead u (List.mem_of_getElem? (i := i) (by rw [List.getElem?_take, if_pos hi]; exact gu))) st.out
          refine ⟨_, rfl, _, rfl, (by show 2 ≤ sizeLine; decide), fun nl hnl => ?_⟩
          have snl := same_new hnl (.lst ([0 + (i : Int), (j : Int)].map V.int))
          refine ⟨_, rfl, e.1, _, e.2.1, e.2.2.1, rfl, (ee'.same s2).same snl, rfl, rfl, _, rfl, u.1, _, u.2.1, u.2.2.1, rfl, (eu.same s2).same snl, rfl, rfl, (by show 2 ≤ sizeLine; decide), fun wl hwl => ?_⟩
          have swl := same_new hwl (.lst ([span2 e.2.1 e.2.2.1, span2 u.2.1 u.2.2.1].map V.int))
          have pU := span2_pos ne
          have pV := span2_pos nu
          have bU : span2 e.2.1 e.2.2.1 ≤ 10 ^ 19 := by unfold span2 absI; split <;> split <;> omega
          have bV : span2 u.2.1 u.2.2.1 ≤ 10 ^ 19 := by unfold span2 absI; split <;> split <;> omega
          have gk := gcd_ok (ws := [span2 e.2.1 e.2.2.1, span2 u.2.1 u.2.2.1]) (List.mem_cons_self ..) pU (by omega)
          refine ⟨nl, wl, [0 + (i : Int), (j : Int)], [span2 e.2.1 e.2.2.1, span2 u.2.1 u.2.2.1], rfl, SqL.of (swl _ _ upd_same), SqL.of upd_same, rfl, (by show 2 ≤ 900; decide), gk.1, gk.2, fun D cs H5 s5 hD eD okc mc => ?_⟩
          have sB := (s0.trans s2).trans (snl.trans swl)
          refine q D cs H5 (sB.trans s5) (sB.free hD) eD okc ?_
          rw [mc, Int.zero_add]
          exact clash_two hi gu st.at' pU pV bU bV z1 z2 z3
        · refine ⟨sH.trans s2, fun v hv hz => ?_, _, _, rfl⟩
          rcases take_end gu hv with hv | rfl
          · exact bes v hv hz
          · exact hin
      · refine iteF ?_
        refine ⟨sH, fun v hv hz => ?_, _, _, rfl⟩
        rcases take_end gu hv with hv | rfl
        · exact bes v hv hz
        · exact absurd hz h0
    · rintro σ H' ⟨sH, bes, u3, u4, rfl⟩
      rw [Int.toNat_natCast] at bes
      have s0 := s1.trans sH
      exact ⟨_, rfl, _, rfl, l, ss, j, e, P, rfl, s0.seq hl, ok.same s0, hlen, st, bes, fun D cs H5 s5 hD eD okc cl => q D cs H5 (s0.trans s5) (s0.free hD) eD okc cl⟩
  · refine ⟨t, _, _, .non, rfl, rfl, .inr (SqT.of et), rfl, ?_⟩
    refine ⟨_, rfl, rfl, _, rfl, ?_⟩
    refine iteT ?_
    exact qn P H1 s1 ep.2.1 wp cp
theorem gcd_dir {x y : Int} (n : x ≠ 0 ∨ y ≠ 0) (m0 : x.natAbs ≤ 2 * 10 ^ 9) (m1 : y.natAbs ≤ 2 * 10 ^ 9) : 0 < gcdL [x, y] ∧ (gcdL [x, y] : Int) < 10 ^ 600 := by
  have lt : ∀ z : Int, z ∈ [x, y] → z ≠ 0 → z.natAbs ≤ 2 * 10 ^ 9 → 0 < gcdL [x, y] ∧ (gcdL [x, y] : Int) < 10 ^ 600 := fun z hz h0 hb => by
    refine ⟨gcdL_pos hz h0, ?_⟩
    have h1 := gcdL_le hz h0
    exact Int.lt_of_le_of_lt (show (gcdL [x, y] : Int) ≤ 10 ^ 30 by omega) (by decide +kernel)
  rcases n with h | h
  · exact lt x (by simp) h m0
  · exact lt y (by simp) h m1
theorem wayB_iff {ss : List Sd} {x y : Int} : wayB ss x y = true ↔ ∀ t ∈ ss, t.2.1 * x + t.2.2.1 * y ≤ 0 := by
  unfold wayB
  rw [List.all_eq_true]
  exact ⟨fun h t ht => of_decide_eq_true (h t ht), fun h t ht => decide_eq_true (h t ht)⟩
theorem low_scale {X Y x y a b : Int} (n : X ≠ 0 ∨ Y ≠ 0) (e : lowL [X, Y] = [x, y]) : (a * x + b * y) * (gcdL [X, Y] : Int) = a * X + b * Y := by
  have z : [X / (gcdL [X, Y] : Int), Y / (gcdL [X, Y] : Int)] = [x, y] := e
  cases z
  rw [Int.add_mul, Int.mul_assoc, Int.mul_assoc, lowL_mul (ns := [X, Y]) (n := X) (by simp), lowL_mul (ns := [X, Y]) (n := Y) (by simp)]
def NoWay (ss : List Sd) (g : P3) : Prop := ∀ t ∈ ss, ∀ h : Int, (h = 1 ∨ h = -1) → (∀ s ∈ ss, tn t.2 s.2 * h ≤ 0) → tn t.2 g * h ≤ 0
def sp_p_way_onward (K : PySem.W.Frag) : Sp := fun vs H Q _ => ∃ (l a : Addr) (ss : List Sd) (g : P3), vs = [.ref l, .ref a] ∧ SqL K H l (sdRefs ss) ∧ SdOk H ss ∧ ss.length ≤ 400 ∧ Sq K H a [.int g.1, .int g.2.1] ∧ (g.1 ≠ 0 ∨ g.2.1 ≠ 0) ∧ g.1.natAbs ≤ 2 * 10 ^ 9 ∧ g.2.1.natAbs ≤ 2 * 10 ^ 9 ∧
  (∀ H' : Hp, Same H H' → NoWay ss g → (¬ ∀ s ∈ ss, dt s.2 g ≤ 0) → Q .non H') ∧
  ∀ (p : Addr) (x y : Int) (H' : Hp), Same H H' → H' p = some (.tup [.int x, .int y]) → Nat.gcd x.natAbs y.natAbs = 1 → 0 < g.1 * x + g.2.1 * y → wayB ss x y = true → x.natAbs ≤ 2 * 10 ^ 9 → y.natAbs ≤ 2 * 10 ^ 9 → Q (.ref p) H'
theorem ok_p_way_onward (F : Fun K "way_onward" "way_onward" s_p_way_onward f fd) (Z : Zs mg) (h_p_ways : Has P w K mg base "ways" 4 ["sides"] (sp_p_ways K)) (h_p_plain : Has P w K mg base "plain" 3 ["direction"] (sp_p_plain K)) (h_p_along : Has P w K mg base "along" 1 ["one", "other"] (sp_p_along K)) (h_p_is_way : Has P w K mg base "is_way" 2 ["sides", "direction"] (sp_p_is_way K)) : FnOk P w K mg base CX0 5 f fd ["sides", "direction"] (sp_p_way_onward K) := by
  refine F.ok sc_p_way_onward (fun vs H Q E h => ?_) (fun cdv A outer s H vs Q E hr h => ?_)
  · obtain ⟨l, a, ss, g, rfl, _⟩ := h
    rfl
  obtain ⟨l, a, ss, g, rfl, hl, ok, hlen, ha, gz, m1, m2, qn, q⟩ := h
  have nz : ∀ t ∈ ss, t.2.1 ≠ 0 ∨ t.2.2.1 ≠ 0 := fun t ht => (ok t ht).2.1
  refine ⟨_, (pss_cons (ps_for PassesOwn.never rfl (pi_seq (pe_op op_cat (pe_callH h_p_ways (hr.mono (by decide)) rfl (pa_cons (pv 0) pa_nil)) (pe_lst (pa_cons (pe_callH h_p_plain (hr.mono (by decide)) rfl (pa_cons (pv 1) pa_nil)) pa_nil)))) (pg_name (i := 2) sc_p_way_onward.nd rfl (Or.inl rfl)) (pss_one (ps_if (PW.pt (pw_and (pt_cmpR op_gt (pe_callH h_p_along (hr.mono (by decide)) rfl (pa_cons (pv 1) (pa_cons (pv 2) pa_nil))) pe_int (nomark _)) (pw_and1 (pt_val (pe_callH h_p_is_way (hr.mono (by decide)) rfl (pa_cons (pv 0) (pa_cons (pv 2) pa_nil))))))) (pss_one (ps_ret (pv 2))) pss_nil)))
      (pss_one (ps_ret pe_non))), ?_⟩
  refine ⟨_, rfl, l, ss, rfl, hl, ok, hlen, fun p us H1 s1 hp W => ?_⟩
  obtain ⟨gp, g6⟩ := gcd_dir gz m1 m2
  refine ⟨_, rfl, a, [g.1, g.2.1], rfl, ha.same s1, by show 2 ≤ 1000; decide, gp, g6, fun dp H2 s2 hdp edp => ?_⟩
  obtain ⟨gx, gy, exy, _, _, glow, _, gdot, gxl, gyl⟩ := dir_low gz
  rw [exy] at edp
  refine ⟨(by show 1 ≤ sizeLine; decide), fun ol hol => ?_⟩
  have sol := same_new hol (.lst [.ref dp])
  have wf := W.few
  refine ⟨p, ol, _, _, rfl, rfl, sol _ _ (s2 _ _ W.at'), upd_same, small (by simp only [List.length_map]; show us.length + 1 ≤ 1000; omega), fun c hc => ?_⟩
  have sc := same_new hc (.lst ((us.map (·.1)).map V.ref ++ [.ref dp]))
  have ec : upd (upd H2 ol (.lst [.ref dp])) c (.lst ((us.map (·.1)).map V.ref ++ [.ref dp])) c = some (.lst (((us ++ [(dp, [gx, gy])]).map (·.1)).map V.ref)) := by rw [upd_same]; simp
  have s12 : Same H1 (upd (upd H2 ol (.lst [.ref dp])) c (.lst ((us.map (·.1)).map V.ref ++ [.ref dp]))) := s2.trans (sol.trans sc)
  have edp' := (sol.trans sc) _ _ edp
  generalize upd (upd H2 ol (.lst [.ref dp])) c (.lst ((us.map (·.1)).map V.ref ++ [.ref dp])) = H3 at sc ec s12 edp' ⊢
  have s3 := s1.trans s12
  have each : ∀ u ∈ us ++ [(dp, [gx, gy])], ∃ x y : Int, u.2 = [x, y] ∧ H3 u.1 = some (.tup [.int x, .int y]) ∧ Nat.gcd x.natAbs y.natAbs = 1 ∧ x.natAbs ≤ 2 * 10 ^ 9 ∧ y.natAbs ≤ 2 * 10 ^ 9 := fun u hu => by
    rcases List.mem_append.mp hu with hu | hu
    · have mk : u.2 ∈ us.map (·.2) := List.mem_map_of_mem hu
      have wk := (W.mem u.2).mp mk
      obtain ⟨x, y, e, ew⟩ := wk.dir nz
      have z := s12 _ _ (W.all u hu)
      rw [e] at z
      obtain ⟨j, t, _, gt, hk⟩ := wk
      obtain ⟨_, nt, c1, c2, _⟩ := ok t (List.mem_of_getElem? gt)
      have bd : x.natAbs ≤ 2 * 10 ^ 9 ∧ y.natAbs ≤ 2 * 10 ^ 9 := by
        rcases hk with ⟨hk, _⟩ | ⟨hk, _⟩
        · obtain ⟨x', y', e', _, _, _, _, _, l1, l2⟩ := dir_low (X := -t.2.2.1) (Y := t.2.1) (by omega)
          rw [e, e'] at hk
          cases hk
          omega
        · obtain ⟨x', y', e', _, _, _, _, _, l1, l2⟩ := dir_low (X := t.2.2.1) (Y := -t.2.1) (by omega)
          rw [e, e'] at hk
          cases hk
          omega
      exact ⟨x, y, e, z, ew.low, bd.1, bd.2⟩
    · rw [List.mem_singleton] at hu
      subst hu
      exact ⟨gx, gy, rfl, edp', glow, by omega, by omega⟩
  refine ⟨c, rfl, .inl ⟨⟨_, SqL.of ec⟩, for_list (K := K) (a := c) (xs := ((us ++ [(dp, [gx, gy])]).map (·.1)).map V.ref) (fun i σ H' => H3 = H' ∧ (∀ j u x y, j < i → (us ++ [(dp, [gx, gy])])[j]? = some u → u.2 = [x, y] → 0 < g.1 * x + g.2.1 * y → wayB ss x y = true → False) ∧ ∃ u2 : Option V, σ = [some (.ref l), some (.ref a), u2])
    ⟨rfl, fun j u x y hj => absurd hj (Nat.not_lt_zero _), none, rfl⟩ (fun i σ H' _ ⟨e, _⟩ => by rw [← e]; exact SqL.of ec) ?_ ?_⟩⟩
  · rintro i v σ H' hi ⟨rfl, hall, u2, rfl⟩
    rw [List.getElem?_map, List.getElem?_map] at hi
    cases gu : (us ++ [(dp, [gx, gy])])[i]? with
    | none => rw [gu] at hi; cases hi
    | some u =>
      rw [gu] at hi
      cases hi
      obtain ⟨x, y, exy', eu, lu, bx, by'⟩ := each u (List.mem_of_getElem? gu)
      have keep : (¬ (0 < g.1 * x + g.2.1 * y ∧ wayB ss x y = true)) → ∀ j u' x' y', j < i + 1 → (us ++ [(dp, [gx, gy])])[j]? = some u' → u'.2 = [x', y'] → 0 < g.1 * x' + g.2.1 * y' → wayB ss x' y' = true → False := fun hno j u' x' y' hj gu' e' h1 h2 => by
        by_cases ej : j = i
        · rw [ej, gu] at gu'
          cases gu'
          rw [exy'] at e'
          cases e'
          exact hno ⟨h1, h2⟩
        · exact hall j u' x' y' (by omega) gu' e' h1 h2
      refine ⟨_, rfl, _, rfl, a, u.1, _, _, g.1, g.2.1, x, y, rfl, ha.same s3, .inr (SqT.of eu), rfl, rfl, rfl, rfl, by omega, by omega, _, _, rfl, rfl, _, rfl, ?_⟩
      refine ifD (fun hpos => ?_) (fun hneg => ?_)
      · refine ⟨_, rfl, _, rfl, l, u.1, ss, x, y, rfl, s3.seq hl, ok.same s3, .inr (SqT.of eu), _, rfl, ?_⟩
        by_cases hw : wayB ss x y = true
        · rw [hw]
          refine iteT ?_
          exact ⟨_, rfl, q u.1 x y _ s3 eu lu hpos hw bx by'⟩
        · have hw' : wayB ss x y = false := by simpa using hw
          rw [hw']
          refine iteF ?_
          exact ⟨rfl, keep (fun z => hw z.2), _, rfl⟩
      · refine iteF ?_
        exact ⟨rfl, keep (fun z => hneg z.1), _, rfl⟩
  · rintro σ H' ⟨rfl, hall, u2, rfl⟩
    have none' : ∀ u ∈ us ++ [(dp, [gx, gy])], ∀ x y, u.2 = [x, y] → 0 < g.1 * x + g.2.1 * y → wayB ss x y = true → False := fun u hu x y e h1 h2 => by
      obtain ⟨j, hj, ej⟩ := List.getElem_of_mem hu
      exact hall j u x y (by simp only [List.length_map]; exact hj) (by rw [List.getElem?_eq_getElem hj, ej]) e h1 h2
    refine qn _ s3 (fun t mt h hh hall' => ?_) (fun hall' => ?_)
    · have nt := nz t mt
      have key : ∀ X Y : Int, (X ≠ 0 ∨ Y ≠ 0) → wayB ss X Y = true → lowL [X, Y] ∈ us.map (·.2) → g.1 * X + g.2.1 * Y ≤ 0 := fun X Y n hw hm => by
        obtain ⟨x, y, e, gp', _⟩ := dir_low n
        obtain ⟨u, hu, eu⟩ := List.mem_map.mp hm
        have sc' := low_scale (a := g.1) (b := g.2.1) n e
        by_cases c : g.1 * X + g.2.1 * Y ≤ 0
        · exact c
        · rw [← sc'] at c
          have p1 : 0 < g.1 * x + g.2.1 * y := pos_of_mul (y := (gcdL [X, Y] : Int)) (by omega) (by omega)
          have z := way_low (ss := ss) gp'
          have e2 : [X / (gcdL [X, Y] : Int), Y / (gcdL [X, Y] : Int)] = [x, y] := e
          cases e2
          rw [hw] at z
          exact (none' u (List.mem_append_left _ hu) _ _ (eu.trans e) p1 z).elim
      have gj := List.getElem?_of_mem mt
      obtain ⟨j, gj⟩ := gj
      have hj := (List.getElem?_eq_some_iff.mp gj).1
      rcases hh with rfl | rfl
      · have hw : wayB ss (-t.2.2.1) t.2.1 = true := wayB_iff.mpr fun s hs => by
          have z := hall' s hs
          unfold tn at z
          rw [Int.mul_neg, Int.mul_comm s.2.1, Int.mul_comm s.2.2.1]
          omega
        have z := key _ _ (by omega) hw ((W.mem _).mpr ⟨j, t, hj, gj, .inl ⟨rfl, hw⟩⟩)
        unfold tn
        rw [Int.mul_neg, Int.mul_comm g.1, Int.mul_comm g.2.1] at z
        omega
      · have hw : wayB ss t.2.2.1 (-t.2.1) = true := wayB_iff.mpr fun s hs => by
          have z := hall' s hs
          unfold tn at z
          rw [Int.mul_neg, Int.mul_comm s.2.1, Int.mul_comm s.2.2.1]
          omega
        have z := key _ _ (by omega) hw ((W.mem _).mpr ⟨j, t, hj, gj, .inr ⟨rfl, hw⟩⟩)
        unfold tn
        rw [Int.mul_neg, Int.mul_comm g.1, Int.mul_comm g.2.1] at z
        omega
    · have hw : wayB ss g.1 g.2.1 = true := wayB_iff.mpr hall'
      have z := way_low (ss := ss) gp
      have e2 : [g.1 / (gcdL [g.1, g.2.1] : Int), g.2.1 / (gcdL [g.1, g.2.1] : Int)] = [gx, gy] := exy
      cases e2
      rw [hw] at z
      refine none' (dp, _) (List.mem_append_right _ (List.mem_singleton.mpr rfl)) _ _ rfl ?_ z
      rw [Int.mul_comm g.1, Int.mul_comm g.2.1]
      exact gdot
abbrev Wt := Addr × Int × Addr × Int × Int
abbrev wtRefs (ws : List Wt) : List V := (ws.map (·.1)).map V.ref
def WtAt (H : Hp) (ws : List Wt) : Prop := ∀ t ∈ ws, H t.1 = some (.tup [.int t.2.1, .ref t.2.2.1]) ∧ H t.2.2.1 = some (.tup [.int t.2.2.2.1, .int t.2.2.2.2])
theorem WtAt.same {H H' : Hp} {ws : List Wt} (h : WtAt H ws) (s : Same H H') : WtAt H' ws := fun t ht => ⟨s _ _ (h t ht).1, s _ _ (h t ht).2⟩
abbrev wtN (ws : List Wt) : List (Int × Int × Int) := ws.map fun t => (t.2.1, t.2.2.2)
def FarQ (H : Hp) (ss : List Sd) (g : P3) (Q : VK) : Prop := ∀ (f p D : Addr) (P : P3) (ws : List Wt) (H' : Hp), Same H H' → H' f = some (.tup [.str "far", .ref p, .ref D]) → SpAt H' p P → inW ss P → Cand ss P → H D = none → H' D = some (.lst (wtRefs ws)) → WtAt H' ws → Far ss g P (wtN ws) → Q (.ref f) H'
def sp_p_far_by_one (K : PySem.W.Frag) : Sp := fun vs H Q _ => ∃ (l a : Addr) (ss : List Sd) (g : P3), vs = [.ref l, .ref a] ∧ SqL K H l (sdRefs ss) ∧ SdOk H ss ∧ ss.length ≤ 400 ∧ Sq K H a [.int g.1, .int g.2.1] ∧ (g.1 ≠ 0 ∨ g.2.1 ≠ 0) ∧ g.1.natAbs ≤ 2 * 10 ^ 9 ∧ g.2.1.natAbs ≤ 2 * 10 ^ 9 ∧
  (∀ H' : Hp, Same H H' → (∀ t ∈ ss, tn t.2 g = 0 → 0 < dt t.2 g → ∀ P : P3, 0 < P.2.2 → sv t.2 P = 0 → ¬ inW ss P) → Q .non H') ∧ FarQ H ss g Q
theorem ok_p_far_by_one (F : Fun K "far_by_one" "far_by_one" s_p_far_by_one f fd) (Z : Zs mg) (h_p_turn : Has P w K mg base "turn" 1 ["one", "other"] (sp_p_turn K)) (h_p_along : Has P w K mg base "along" 1 ["one", "other"] (sp_p_along K)) (h_p_part : Has P w K mg base "part" 4 ["top", "bottom"] (sp_p_part K)) (h_p_span : Has P w K mg base "span" 1 ["direction"] (sp_p_span K)) (h_p_spot_on_edge : Has P w K mg base "spot_on_edge" 7 ["sides", "edge"] (sp_p_spot_on_edge K)) : FnOk P w K mg base CX0 8 f fd ["sides", "direction"] (sp_p_far_by_one K) := by
  refine F.ok sc_p_far_by_one (fun vs H Q E h => ?_) (fun cdv A outer s H vs Q E hr h => ?_)
  · obtain ⟨l, a, ss, g, rfl, _⟩ := h
    rfl
  obtain ⟨l, a, ss, g, rfl, hl, ok, hlen, ha, gz, m1, m2, qn, q⟩ := h
  refine ⟨_, (pss_cons (ps_for PassesOwn.never rfl (pi_range1 rfl Z.range (pa_cons (pe_callB call_len_seq rfl Z.len bt_len (pa_cons (pv 0) pa_nil)) pa_nil)) (pg_name (i := 2) sc_p_far_by_one.nd rfl (Or.inl rfl)) (pss_cons (ps_set (i := 3) sc_p_far_by_one.nd rfl (Or.inl rfl) (pe_ix ix_any (pv 0) (pv 2) (fun _ _ => rfl)))
      (pss_one (ps_if (PW.pt (pw_and (pt_cmpR op_eq (pe_callH h_p_turn (hr.mono (by decide)) rfl (pa_cons (pv 3) (pa_cons (pv 1) pa_nil))) pe_int (nomark _)) (pw_and1 (pt_cmpR op_gt (pe_callH h_p_along (hr.mono (by decide)) rfl (pa_cons (pv 3) (pa_cons (pv 1) pa_nil))) pe_int (nomark _))))) (pss_cons (ps_set (i := 4) sc_p_far_by_one.nd rfl (Or.inl rfl) (pe_callH h_p_spot_on_edge (hr.mono (by decide)) rfl (pa_cons (pv 0) (pa_cons (pv 3) pa_nil))))
      (pss_one (ps_if (pt_cmpR op_notN (pv 4) pe_non (nomark _)) (pss_one (ps_ret (pe_tup (pa_cons pe_str (pa_cons (pv 4) (pa_cons (pe_lst (pa_cons (pe_tup (pa_cons (pv 2) (pa_cons (pe_callH h_p_part (hr.mono (by decide)) rfl (pa_cons (pe_callH h_p_span (hr.mono (by decide)) rfl (pa_cons (pv 1) pa_nil)) (pa_cons (pe_callH h_p_span (hr.mono (by decide)) rfl (pa_cons (pv 3) pa_nil)) pa_nil))) pa_nil))) pa_nil)) pa_nil)))))) pss_nil))) pss_nil))))
      (pss_one (ps_ret pe_non))), ?_⟩
  refine ⟨_, rfl, l, _, rfl, .inl hl, _, rfl, (by rw [sdRefs_length]; omega), (by rw [sdRefs_length]; omega), for_range (lo := 0) (n := (((sdRefs ss).length : Nat) : Int).toNat) (fun i σ H' => Same H H' ∧ (∀ t ∈ ss.take i, tn t.2 g = 0 → 0 < dt t.2 g → ∀ P : P3, 0 < P.2.2 → sv t.2 P = 0 → ¬ inW ss P) ∧ ∃ u2 u3 u4 : Option V, σ = [some (.ref l), some (.ref a), u2, u3, u4])
    ⟨Same.refl _, (fun t ht => nomatch ht), none, none, none, rfl⟩ ?_ ?_⟩
  · rintro i σ H' hi ⟨sH, bes, u2, u3, u4, rfl⟩
    have hil : i < ss.length := by rw [Int.toNat_natCast, sdRefs_length] at hi; exact hi
    obtain ⟨t, mt, gt, at'⟩ := sdRefs_at (ss := ss) (i := i) (k := 0 + (i : Int)) (by omega) hil
    obtain ⟨et0, nt, c1, c2, c3⟩ := ok t mt
    have et : Sq K H' t.1 [.int t.2.1, .int t.2.2.1, .int t.2.2.2] := .inr (SqT.of (sH _ _ et0))
    have ha' := ha.same sH
    refine ⟨_, rfl, _, rfl, l, _, _, _, rfl, rfl, .inl (sH.seq hl), at', ?_⟩
    refine ⟨_, rfl, _, rfl, t.1, a, _, _, t.2.1, t.2.2.1, g.1, g.2.1, rfl, et, ha', rfl, rfl, rfl, rfl, by omega, by omega, rfl, _, rfl, ?_⟩
    have skip : ∀ H2 : Hp, Same H' H2 → (tn t.2 g = 0 → 0 < dt t.2 g → ∀ P : P3, 0 < P.2.2 → sv t.2 P = 0 → ¬ inW ss P) → (∀ u ∈ ss.take (i + 1), tn u.2 g = 0 → 0 < dt u.2 g → ∀ P : P3, 0 < P.2.2 → sv u.2 P = 0 → ¬ inW ss P) := fun H2 _ hno u hu => by
      rcases take_end gt hu with hu | rfl
      · exact bes u hu
      · exact hno
    refine ifE (fun h0 => ?_) (fun h0 => ?_)
    · refine ⟨_, rfl, _, rfl, t.1, a, _, _, t.2.1, t.2.2.1, g.1, g.2.1, rfl, et, ha', rfl, rfl, rfl, rfl, by omega, by omega, _, _, rfl, rfl, _, rfl, ?_⟩
      refine ifD (fun h1 => ?_) (fun h1 => ?_)
      · have h0' : tn t.2 g = 0 := h0
        have h1' : 0 < dt t.2 g := h1
        refine ⟨_, rfl, _, rfl, l, t.1, ss, t.2, rfl, sH.seq hl, ok.same sH, by omega, et, nt, c1, c2, c3, fun H2 s2 no => ?_, fun p P H2 s2 ep wp on cd => ?_⟩
        · refine ⟨_, rfl, rfl, _, rfl, ?_⟩
          refine iteF ?_
          exact ⟨sH.trans s2, skip H2 s2 (fun _ _ P pw oP wP => no P oP pw wP), _, _, _, rfl⟩
        · refine ⟨_, rfl, rfl, _, rfl, ?_⟩
          refine iteT ?_
          have pS := span2_pos nt
          have bS : span2 t.2.1 t.2.2.1 ≤ 10 ^ 19 := by unfold span2 absI; split <;> split <;> omega
          have bG : span2 g.1 g.2.1 ≤ 10 ^ 19 := by unfold span2 absI; split <;> split <;> omega
          refine ⟨_, rfl, _, rfl, _, rfl, a, _, g.1, g.2.1, rfl, ha'.same s2, rfl, rfl, _, rfl, t.1, _, t.2.1, t.2.2.1, rfl, et.same s2, rfl, rfl, span2 g.1 g.2.1, span2 t.2.1 t.2.2.1, rfl, by omega, Nat.lt_of_le_of_lt (show (span2 t.2.1 t.2.2.1).natAbs ≤ 10 ^ 40 by omega) (by decide +kernel), fun pp x y H3 s3 hpp epp pt => ?_⟩
          refine ⟨(by show 2 ≤ sizeLine; decide), fun pr hpr => ?_⟩
          have spr := same_new hpr (.tup [.int (0 + (i : Int)), .ref pp])
          refine ⟨(by show 1 ≤ sizeLine; decide), fun D hD => ?_⟩
          have sD := same_new hD (.lst [.ref pr])
          refine ⟨(by show 3 ≤ sizeLine; decide), fun ft hft => ?_⟩
          have sft := same_new hft (.tup [.str "far", .ref p, .ref D])
          have s23 := s2.trans s3
          have sAll := (spr.trans sD).trans sft
          refine q ft p D P [(pr, (i : Int), pp, x, y)] _ ((sH.trans s23).trans sAll) upd_same (ep.same (s3.trans sAll)) wp ?_ ((sH.trans s23).free (spr.free hD)) (sft _ _ upd_same) (fun u hu => ?_) (far_one gt nt gz h0' h1' pt bG bS on)
          · rcases cd with h | ⟨v, hv, ht, h⟩
            · exact .inr (.inl ⟨t, mt, h⟩)
            · exact .inr (.inr ⟨t, mt, v, hv, ht, h⟩)
          · rw [List.mem_singleton] at hu
            subst hu
            refine ⟨?_, sAll _ _ epp⟩
            refine sft _ _ (sD _ _ ?_)
            rw [upd_same, Int.zero_add]
      · refine ⟨sH, skip H' (Same.refl _) (fun _ z => absurd z h1), _, _, _, rfl⟩
    · refine iteF ?_
      exact ⟨sH, skip H' (Same.refl _) (fun z => absurd z h0), _, _, _, rfl⟩
  · rintro σ H' ⟨sH, bes, u2, u3, u4, rfl⟩
    rw [Int.toNat_natCast, sdRefs_length, List.take_length] at bes
    exact qn H' sH bes
theorem tn_small {s t : P3} {m n : Nat} (a1 : s.1.natAbs ≤ m) (a2 : s.2.1.natAbs ≤ m) (b1 : t.1.natAbs ≤ n) (b2 : t.2.1.natAbs ≤ n) : (tn s t).natAbs ≤ m * n + m * n := by
  have z1 := natAbs_mul_le s.1 t.2.1 a1 b2
  have z2 := natAbs_mul_le s.2.1 t.1 a2 b1
  unfold tn
  omega
def sp_p_weights_of_two (K : PySem.W.Frag) : Sp := fun vs H Q _ => ∃ (l n a : Addr) (ss : List Sd) (g P : P3) (i j : Nat) (s t : Sd), vs = [.ref l, .ref n, .ref a] ∧ SqL K H l (sdRefs ss) ∧ SdOk H ss ∧ SqL K H n [.int i, .int j] ∧ Sq K H a [.int g.1, .int g.2.1] ∧ g.1.natAbs ≤ 2 * 10 ^ 9 ∧ g.2.1.natAbs ≤ 2 * 10 ^ 9 ∧
  ss[i]? = some s ∧ ss[j]? = some t ∧ 0 < tn s.2 t.2 ∧ 0 < tn g t.2 ∧ 0 < tn s.2 g ∧ sv s.2 P = 0 ∧ sv t.2 P = 0 ∧
  ∀ (D : Addr) (ws : List Wt) (H' : Hp), Same H H' → H D = none → H' D = some (.lst (wtRefs ws)) → WtAt H' ws → Far ss g P (wtN ws) → Q (.ref D) H'
theorem ok_p_weights_of_two (F : Fun K "weights_of_two" "weights_of_two" s_p_weights_of_two f fd) (Z : Zs mg) (h_p_part : Has P w K mg base "part" 4 ["top", "bottom"] (sp_p_part K)) (h_p_turn : Has P w K mg base "turn" 1 ["one", "other"] (sp_p_turn K)) : FnOk P w K mg base CX0 5 f fd ["sides", "numbers", "direction"] (sp_p_weights_of_two K) := by
  refine F.ok sc_p_weights_of_two (fun vs H Q E h => ?_) (fun cdv A outer s H vs Q E hr h => ?_)
  · obtain ⟨l, n, a, ss, g, P, i, j, s, t, rfl, _⟩ := h
    rfl
  obtain ⟨l, n, a, ss, g, P, i, j, s, t, rfl, hl, ok, hn, ha, m1, m2, gs, gt, hW, hA, hB, o1, o2, q⟩ := h
  have hi := (List.getElem?_eq_some_iff.mp gs).1
  have hj := (List.getElem?_eq_some_iff.mp gt).1
  obtain ⟨_, ms, gs2, ats⟩ := sdRefs_at (ss := ss) (i := i) (k := (i : Int)) rfl hi
  rw [gs] at gs2
  cases gs2
  obtain ⟨_, mt, gt2, att⟩ := sdRefs_at (ss := ss) (i := j) (k := (j : Int)) rfl hj
  rw [gt] at gt2
  cases gt2
  obtain ⟨es0, ns, c1, c2, c3⟩ := ok s ms
  obtain ⟨et0, nt, d1, d2, d3⟩ := ok t mt
  have es : Sq K H s.1 [.int s.2.1, .int s.2.2.1, .int s.2.2.2] := .inr (SqT.of es0)
  have et : Sq K H t.1 [.int t.2.1, .int t.2.2.1, .int t.2.2.2] := .inr (SqT.of et0)
  have hij : i ≠ j := fun z => by
    rw [z, gt] at gs
    cases gs
    rw [tn_self] at hW
    omega
  have bW := tn_small (s := s.2) (t := t.2) c1 c2 d1 d2
  have bA := tn_small (s := g) (t := t.2) m1 m2 d1 d2
  have bB := tn_small (s := s.2) (t := g) c1 c2 m1 m2
  have big : (tn s.2 t.2).natAbs < 10 ^ 500 := Nat.lt_of_le_of_lt (show (tn s.2 t.2).natAbs ≤ 10 ^ 40 by omega) (by decide +kernel)
  refine ⟨_, (pss_cons (ps_set (i := 3) sc_p_weights_of_two.nd rfl (Or.inl rfl) (pe_ix ix_any (pv 0) (pe_ix ix_any (pv 1) pe_int (fun _ _ => rfl)) (fun _ _ => rfl)))
      (pss_cons (ps_set (i := 4) sc_p_weights_of_two.nd rfl (Or.inl rfl) (pe_ix ix_any (pv 0) (pe_ix ix_any (pv 1) pe_int (fun _ _ => rfl)) (fun _ _ => rfl)))
      (pss_cons (ps_set (i := 5) sc_p_weights_of_two.nd rfl (Or.inl rfl) (pe_callH h_p_turn (hr.mono (by decide)) rfl (pa_cons (pv 3) (pa_cons (pv 4) pa_nil))))
      (pss_cons (ps_set (i := 6) sc_p_weights_of_two.nd rfl (Or.inl rfl) (pe_lst (pa_cons (pe_callH h_p_part (hr.mono (by decide)) rfl (pa_cons (pe_callH h_p_turn (hr.mono (by decide)) rfl (pa_cons (pv 2) (pa_cons (pv 4) pa_nil))) (pa_cons (pv 5) pa_nil))) (pa_cons (pe_callH h_p_part (hr.mono (by decide)) rfl (pa_cons (pe_callH h_p_turn (hr.mono (by decide)) rfl (pa_cons (pv 3) (pa_cons (pv 2) pa_nil))) (pa_cons (pv 5) pa_nil))) pa_nil))))
      (pss_one (ps_ret (pe_callB call_sorted2 rfl Z.sorted bt_sorted (pa_cons (pe_lst (pa_cons (pe_tup (pa_cons (pe_ix ix_any (pv 1) pe_int (fun _ _ => rfl)) (pa_cons (pe_ix ix_any (pv 6) pe_int (fun _ _ => rfl)) pa_nil))) (pa_cons (pe_tup (pa_cons (pe_ix ix_any (pv 1) pe_int (fun _ _ => rfl)) (pa_cons (pe_ix ix_any (pv 6) pe_int (fun _ _ => rfl)) pa_nil))) pa_nil))) pa_nil)))))))), ?_⟩
  refine ⟨_, rfl, _, rfl, n, _, _, .int (i : Int), rfl, rfl, .inl hn, rfl, l, _, _, _, rfl, rfl, .inl hl, ats, ?_⟩
  refine ⟨_, rfl, _, rfl, n, _, _, .int (j : Int), rfl, rfl, .inl hn, rfl, l, _, _, _, rfl, rfl, .inl hl, att, ?_⟩
  refine ⟨_, rfl, _, rfl, s.1, t.1, _, _, s.2.1, s.2.2.1, t.2.1, t.2.2.1, rfl, es, et, rfl, rfl, rfl, rfl, by omega, by omega, ?_⟩
  refine ⟨_, rfl, _, rfl, a, t.1, _, _, g.1, g.2.1, t.2.1, t.2.2.1, rfl, ha, et, rfl, rfl, rfl, rfl, by omega, by omega, _, rfl, tn g t.2, tn s.2 t.2, rfl, by omega, big, fun p1 x1 y1 H1 s1 hp1 ep1 pt1 => ?_⟩
  refine ⟨_, rfl, _, rfl, s.1, a, _, _, s.2.1, s.2.2.1, g.1, g.2.1, rfl, es.same s1, ha.same s1, rfl, rfl, rfl, rfl, by omega, by omega, _, rfl, tn s.2 g, tn s.2 t.2, rfl, by omega, big, fun p2 x2 y2 H2 s2 hp2 ep2 pt2 => ?_⟩
  refine ⟨(by show 2 ≤ sizeLine; decide), fun sl hsl => ?_⟩
  have ssl := same_new hsl (.lst [.ref p1, .ref p2])
  have esl : upd H2 sl (.lst [.ref p1, .ref p2]) sl = some (.lst [.ref p1, .ref p2]) := upd_same
  generalize upd H2 sl (.lst [.ref p1, .ref p2]) = H3 at ssl esl ⊢
  have s03 := (s1.trans s2).trans ssl
  have hn3 := s03.seq hn
  refine ⟨_, rfl, n, _, _, .int (i : Int), rfl, rfl, .inl hn3, rfl, _, rfl, sl, _, _, .ref p1, rfl, rfl, .inl (SqL.of esl), rfl, (by show 2 ≤ sizeLine; decide), fun a1 ha1 => ?_⟩
  have sa1 := same_new ha1 (.tup [.int (i : Int), .ref p1])
  refine ⟨_, rfl, n, _, _, .int (j : Int), rfl, rfl, .inl (sa1.seq hn3), rfl, _, rfl, sl, _, _, .ref p2, rfl, rfl, .inl (SqL.of (sa1 _ _ esl)), rfl, (by show 2 ≤ sizeLine; decide), fun a2 ha2 => ?_⟩
  have sa2 := same_new ha2 (.tup [.int (j : Int), .ref p2])
  refine ⟨(by show 2 ≤ sizeLine; decide), fun tl htl => ?_⟩
  have stl := same_new htl (.lst [.ref a1, .ref a2])
  refine ⟨tl, a1, a2, (i : Int), (j : Int), _, _, rfl, SqL.of upd_same, stl _ _ (sa2 _ _ upd_same), stl _ _ upd_same, by omega, fun D hD => ?_⟩
  have sD := same_new hD (.lst (if (j : Int) < (i : Int) then [.ref a2, .ref a1] else [.ref a1, .ref a2]))
  have s37 := ((sa1.trans sa2).trans stl).trans sD
  have w1 := s37 _ _ (ssl _ _ (s2 _ _ ep1))
  have w2 := s37 _ _ (ssl _ _ ep2)
  have v1 := sD _ _ (stl _ _ (sa2 _ _ (upd_same (H := H3) (a := a1) (o := .tup [.int (i : Int), .ref p1]))))
  have v2 := sD _ _ (stl _ _ (upd_same (H := upd H3 a1 (.tup [.int (i : Int), .ref p1])) (a := a2) (o := .tup [.int (j : Int), .ref p2])))
  have fr := far_two (P := P) gs gt hW hA hB pt1 pt2 (by omega) (by omega) (by omega) o1 o2 hij
  have frD : H D = none := s03.free (sa1.free (sa2.free (stl.free hD)))
  by_cases c : j < i
  · have c' : (j : Int) < (i : Int) := by omega
    rw [if_pos c] at fr
    refine q D [(a2, (j : Int), p2, x2, y2), (a1, (i : Int), p1, x1, y1)] _ (s03.trans s37) frD (by rw [upd_same, if_pos c']; rfl) (fun u hu => ?_) fr
    rcases List.mem_cons.mp hu with rfl | hu
    · exact ⟨v2, w2⟩
    · rw [List.mem_singleton] at hu
      subst hu
      exact ⟨v1, w1⟩
  · have c' : ¬ (j : Int) < (i : Int) := by omega
    rw [if_neg c] at fr
    refine q D [(a1, (i : Int), p1, x1, y1), (a2, (j : Int), p2, x2, y2)] _ (s03.trans s37) frD (by rw [upd_same, if_neg c']; rfl) (fun u hu => ?_) fr
    rcases List.mem_cons.mp hu with rfl | hu
    · exact ⟨v1, w1⟩
    · rw [List.mem_singleton] at hu
      subst hu
      exact ⟨v2, w2⟩
def NoTwo (ss : List Sd) (g : P3) (rs : List Sd) : Prop := ∀ t ∈ rs, 0 < tn t.2 g → ∃ e ∈ ss, 0 < tn t.2 e.2 ∧ (∀ u ∈ ss, 0 < tn t.2 u.2 → sv u.2 (pt3 (crL t.2 e.2)) ≤ 0) ∧ ¬ (0 < tn g e.2 ∧ inW ss (pt3 (crL t.2 e.2)))
def sp_p_far_by_two (K : PySem.W.Frag) : Sp := fun vs H Q _ => ∃ (l a : Addr) (ss : List Sd) (g : P3), vs = [.ref l, .ref a] ∧ SqL K H l (sdRefs ss) ∧ SdOk H ss ∧ ss.length ≤ 400 ∧ Sq K H a [.int g.1, .int g.2.1] ∧ g.1.natAbs ≤ 2 * 10 ^ 9 ∧ g.2.1.natAbs ≤ 2 * 10 ^ 9 ∧ NoWay ss g ∧
  (∀ H' : Hp, Same H H' → NoTwo ss g ss → Q .non H') ∧ FarQ H ss g Q
theorem ok_p_far_by_two (F : Fun K "far_by_two" "far_by_two" s_p_far_by_two f fd) (Z : Zs mg) (h_p_turn : Has P w K mg base "turn" 1 ["one", "other"] (sp_p_turn K)) (h_p_in_water : Has P w K mg base "in_water" 3 ["sides", "place"] (sp_p_in_water K)) (h_p_weights_of_two : Has P w K mg base "weights_of_two" 5 ["sides", "numbers", "direction"] (sp_p_weights_of_two K)) (h_p_crossing : Has P w K mg base "crossing" 4 ["one", "other"] (sp_p_crossing K)) (h_p_edge_end : Has P w K mg base "edge_end" 5 ["sides", "edge", "hand"] (sp_p_edge_end K)) : FnOk P w K mg base CX0 6 f fd ["sides", "direction"] (sp_p_far_by_two K) := by
  refine F.ok sc_p_far_by_two (fun vs H Q E h => ?_) (fun cdv A outer s H vs Q E hr h => ?_)
  · obtain ⟨l, a, ss, g, rfl, _⟩ := h
    rfl
  obtain ⟨l, a, ss, g, rfl, hl, ok, hlen, ha, m1, m2, nw, qn, q⟩ := h
  refine ⟨_, (pss_cons (ps_for PassesOwn.never rfl (pi_range1 rfl Z.range (pa_cons (pe_callB call_len_seq rfl Z.len bt_len (pa_cons (pv 0) pa_nil)) pa_nil)) (pg_name (i := 2) sc_p_far_by_two.nd rfl (Or.inl rfl)) (pss_cons (ps_set (i := 3) sc_p_far_by_two.nd rfl (Or.inl rfl) (pe_ix ix_any (pv 0) (pv 2) (fun _ _ => rfl)))
      (pss_one (ps_if (pt_cmpR op_gt (pe_callH h_p_turn (hr.mono (by decide)) rfl (pa_cons (pv 3) (pa_cons (pv 1) pa_nil))) pe_int (nomark _)) (pss_cons (ps_set (i := 4) sc_p_far_by_two.nd rfl (Or.inl rfl) (pe_callH h_p_edge_end (hr.mono (by decide)) rfl (pa_cons (pv 0) (pa_cons (pv 3) (pa_cons pe_int pa_nil)))))
      (pss_cons (ps_set (i := 5) sc_p_far_by_two.nd rfl (Or.inl rfl) (pe_callH h_p_crossing (hr.mono (by decide)) rfl (pa_cons (pv 3) (pa_cons (pe_ix ix_any (pv 0) (pv 4) (fun _ _ => rfl)) pa_nil))))
      (pss_one (ps_if (PW.pt (pw_and (pt_cmpR op_gt (pe_callH h_p_turn (hr.mono (by decide)) rfl (pa_cons (pv 1) (pa_cons (pe_ix ix_any (pv 0) (pv 4) (fun _ _ => rfl)) pa_nil))) pe_int (nomark _)) (pw_and1 (pt_val (pe_callH h_p_in_water (hr.mono (by decide)) rfl (pa_cons (pv 0) (pa_cons (pv 5) pa_nil))))))) (pss_one (ps_ret (pe_tup (pa_cons pe_str (pa_cons (pv 5) (pa_cons (pe_callH h_p_weights_of_two (hr.mono (by decide)) rfl (pa_cons (pv 0) (pa_cons (pe_lst (pa_cons (pv 2) (pa_cons (pv 4) pa_nil))) (pa_cons (pv 1) pa_nil)))) pa_nil)))))) pss_nil)))) pss_nil))))
      (pss_one (ps_ret pe_non))), ?_⟩
  refine ⟨_, rfl, l, _, rfl, .inl hl, _, rfl, (by rw [sdRefs_length]; omega), (by rw [sdRefs_length]; omega), for_range (lo := 0) (n := (((sdRefs ss).length : Nat) : Int).toNat) (fun i σ H' => Same H H' ∧ NoTwo ss g (ss.take i) ∧ ∃ u2 u3 u4 u5 : Option V, σ = [some (.ref l), some (.ref a), u2, u3, u4, u5])
    ⟨Same.refl _, (fun t ht => nomatch ht), none, none, none, none, rfl⟩ ?_ ?_⟩
  · rintro i σ H' hi ⟨sH, bes, u2, u3, u4, u5, rfl⟩
    have hil : i < ss.length := by rw [Int.toNat_natCast, sdRefs_length] at hi; exact hi
    obtain ⟨t, mt, gt, at'⟩ := sdRefs_at (ss := ss) (i := i) (k := 0 + (i : Int)) (by omega) hil
    obtain ⟨et0, nt, c1, c2, c3⟩ := ok t mt
    have et : Sq K H' t.1 [.int t.2.1, .int t.2.2.1, .int t.2.2.2] := .inr (SqT.of (sH _ _ et0))
    have ha' := ha.same sH
    refine ⟨_, rfl, _, rfl, l, _, _, _, rfl, rfl, .inl (sH.seq hl), at', ?_⟩
    refine ⟨_, rfl, _, rfl, t.1, a, _, _, t.2.1, t.2.2.1, g.1, g.2.1, rfl, et, ha', rfl, rfl, rfl, rfl, by omega, by omega, _, _, rfl, rfl, _, rfl, ?_⟩
    refine ifD (fun h0 => ?_) (fun h0 => ?_)
    · have h0' : 0 < tn t.2 g := h0
      refine ⟨_, rfl, _, rfl, l, t.1, ss, t.2, 1, rfl, sH.seq hl, ok.same sH, by omega, et, nt, c1, c2, c3, .inl rfl, fun r H1 s1 k1 => ?_⟩
      cases r with
      | none =>
        have := nw t mt 1 (.inl rfl) k1
        omega
      | some j =>
        obtain ⟨e, ge, he, hb⟩ := k1
        have he' : 0 < tn t.2 e.2 := by omega
        have hj := (List.getElem?_eq_some_iff.mp ge).1
        obtain ⟨_, me, ge2, ate⟩ := sdRefs_at (ss := ss) (i := j) (k := (j : Int)) rfl hj
        rw [ge] at ge2
        cases ge2
        obtain ⟨ee0, ne, d1, d2, d3⟩ := ok e me
        have sH1 := sH.trans s1
        have ee : Sq K H1 e.1 [.int e.2.1, .int e.2.2.1, .int e.2.2.2] := .inr (SqT.of (sH1 _ _ ee0))
        have et1 := et.same s1
        refine ⟨_, rfl, _, rfl, _, rfl, l, _, _, _, rfl, rfl, .inl (sH1.seq hl), ate, t.1, e.1, t.2.1, t.2.2.1, t.2.2.2, e.2.1, e.2.2.1, e.2.2.2, rfl, et1, ee, by omega, by omega, by omega, by omega, by omega, fun z => absurd z (show tn t.2 e.2 ≠ 0 by omega), fun _ p H2 s2 hp ep => ?_⟩
        obtain ⟨sp, o1, o2⟩ := cr_ok (show tn t.2 e.2 ≠ 0 by omega)
        have ep' : SpAt H2 p (pt3 (crL t.2 e.2)) := by
          refine ⟨?_, sp.pos, sp.low⟩
          have z : H2 p = some (.tup ((crL t.2 e.2).map V.int)) := ep
          rw [z, sp.list]
          rfl
        have sH2 := sH1.trans s2
        have keep : ¬ (0 < tn g e.2 ∧ inW ss (pt3 (crL t.2 e.2))) → NoTwo ss g (ss.take (i + 1)) := fun hno u hu hg => by
          rcases take_end gt hu with hu | rfl
          · exact bes u hu hg
          · exact ⟨e, me, he', fun v hv hp => hb v hv (by omega), hno⟩
        refine ⟨_, rfl, _, rfl, _, rfl, l, _, _, _, rfl, rfl, .inl (sH2.seq hl), ate, a, e.1, _, _, g.1, g.2.1, e.2.1, e.2.2.1, rfl, ha.same sH2, ee.same s2, rfl, rfl, rfl, rfl, by omega, by omega, _, _, rfl, rfl, _, rfl, ?_⟩
        refine ifD (fun h1 => ?_) (fun h1 => ?_)
        · have h1' : 0 < tn g e.2 := h1
          refine ⟨_, rfl, _, rfl, l, p, ss, pt3 (crL t.2 e.2), rfl, sH2.seq hl, ok.same sH2, .inr (SqT.of ep'.1), _, rfl, ?_⟩
          by_cases hw : inWB ss (pt3 (crL t.2 e.2)) = true
          · rw [hw]
            refine iteT ?_
            refine ⟨_, rfl, _, rfl, _, rfl, _, rfl, (by show 2 ≤ sizeLine; decide), fun nl hnl => ?_⟩
            have snl := same_new hnl (.lst [.int (0 + (i : Int)), .int (j : Int)])
            have enl : upd H2 nl (.lst [.int (0 + (i : Int)), .int (j : Int)]) nl = some (.lst [.int (i : Int), .int (j : Int)]) := by rw [upd_same, Int.zero_add]
            have sH3 := sH2.trans snl
            refine ⟨_, rfl, l, nl, a, ss, g, pt3 (crL t.2 e.2), i, j, t, e, rfl, sH3.seq hl, ok.same sH3, SqL.of enl, ha.same sH3, m1, m2, gt, ge, he', h1', h0', o1, o2, fun D ws H4 s4 hD eD okw fr => ?_⟩
            refine ⟨(by show 3 ≤ sizeLine; decide), fun ft hft => ?_⟩
            have sft := same_new hft (.tup [.str "far", .ref p, .ref D])
            refine q ft p D (pt3 (crL t.2 e.2)) ws _ ((sH3.trans s4).trans sft) upd_same ((ep'.same (snl.trans s4)).same sft) (inWB_iff.mp hw) (.inr (.inr ⟨t, mt, e, me, by omega, rfl⟩)) (sH3.free hD) (sft _ _ eD) (okw.same sft) fr
          · have hw' : inWB ss (pt3 (crL t.2 e.2)) = false := by simpa using hw
            rw [hw']
            refine iteF ?_
            exact ⟨sH2, keep (fun z => hw (inWB_iff.mpr z.2)), _, _, _, _, rfl⟩
        · refine iteF ?_
          exact ⟨sH2, keep (fun z => h1 z.1), _, _, _, _, rfl⟩
    · refine ⟨sH, fun u hu hg => ?_, _, _, _, _, rfl⟩
      rcases take_end gt hu with hu | rfl
      · exact bes u hu hg
      · exact absurd hg h0
  · rintro σ H' ⟨sH, bes, u2, u3, u4, u5, rfl⟩
    rw [Int.toNat_natCast, sdRefs_length, List.take_length] at bes
    exact qn H' sH bes
def sp_p_reach (K : PySem.W.Frag) : Sp := fun vs H Q _ => ∃ (l a : Addr) (ss : List Sd) (g : P3), vs = [.ref l, .ref a] ∧ SqL K H l (sdRefs ss) ∧ SdOk H ss ∧ ss.length ≤ 400 ∧ Sq K H a [.int g.1, .int g.2.1] ∧ (g.1 ≠ 0 ∨ g.2.1 ≠ 0) ∧ g.1.natAbs ≤ 2 * 10 ^ 9 ∧ g.2.1.natAbs ≤ 2 * 10 ^ 9 ∧
  (∀ (t D : Addr) (cs : List Pr) (H' : Hp), Same H H' → H' t = some (.tup [.str "none", .ref D]) → H D = none → H' D = some (.lst (refsOf cs)) → PrAt H' cs → Clash ss (cs.map (·.2)) → Q (.ref t) H') ∧
  (∀ (t p : Addr) (x y : Int) (Z : P3) (H' : Hp), Same H H' → H' t = some (.tup [.str "open", .ref p]) → H' p = some (.tup [.int x, .int y]) → Nat.gcd x.natAbs y.natAbs = 1 → 0 < g.1 * x + g.2.1 * y → wayB ss x y = true → x.natAbs ≤ 2 * 10 ^ 9 → y.natAbs ≤ 2 * 10 ^ 9 → 0 < Z.2.2 → inW ss Z → Cand ss Z → Q (.ref t) H') ∧ FarQ H ss g Q
theorem ok_p_reach (F : Fun K "reach" "reach" s_p_reach f fd) (Z : Zs mg) (h_p_far_by_one : Has P w K mg base "far_by_one" 8 ["sides", "direction"] (sp_p_far_by_one K)) (h_p_far_by_two : Has P w K mg base "far_by_two" 6 ["sides", "direction"] (sp_p_far_by_two K)) (h_p_way_onward : Has P w K mg base "way_onward" 5 ["sides", "direction"] (sp_p_way_onward K)) (h_p_clash : Has P w K mg base "clash" 9 ["sides"] (sp_p_clash K)) : FnOk P w K mg base CX0 10 f fd ["sides", "direction"] (sp_p_reach K) := by
  refine F.ok sc_p_reach (fun vs H Q E h => ?_) (fun cdv A outer s H vs Q E hr h => ?_)
  · obtain ⟨l, a, ss, g, rfl, _⟩ := h
    rfl
  obtain ⟨l, a, ss, g, rfl, hl, ok, hlen, ha, gz, m1, m2, qc, qo, qf⟩ := h
  have nz : ∀ t ∈ ss, t.2.1 ≠ 0 ∨ t.2.2.1 ≠ 0 := fun t ht => (ok t ht).2.1
  refine ⟨_, (pss_cons (ps_set (i := 2) sc_p_reach.nd rfl (Or.inl rfl) (pe_callH h_p_clash (hr.mono (by decide)) rfl (pa_cons (pv 0) pa_nil)))
      (pss_cons (ps_if (pt_cmpR op_notN (pv 2) pe_non (nomark _)) (pss_one (ps_ret (pe_tup (pa_cons pe_str (pa_cons (pv 2) pa_nil))))) pss_nil)
      (pss_cons (ps_set (i := 3) sc_p_reach.nd rfl (Or.inl rfl) (pe_callH h_p_way_onward (hr.mono (by decide)) rfl (pa_cons (pv 0) (pa_cons (pv 1) pa_nil))))
      (pss_cons (ps_if (pt_cmpR op_notN (pv 3) pe_non (nomark _)) (pss_one (ps_ret (pe_tup (pa_cons pe_str (pa_cons (pv 3) pa_nil))))) pss_nil)
      (pss_one (ps_ret (pe_orT (pe_callH h_p_far_by_one (hr.mono (by decide)) rfl (pa_cons (pv 0) (pa_cons (pv 1) pa_nil))) (pe_one (pe_callH h_p_far_by_two (hr.mono (by decide)) rfl (pa_cons (pv 0) (pa_cons (pv 1) pa_nil))))))))))), ?_⟩
  refine ⟨_, rfl, l, ss, rfl, hl, ok, by omega, fun P0 H1 s1 pw wp cp => ?_, fun D cs H1 s1 hD eD okc cl => ?_⟩
  · refine ⟨_, rfl, rfl, _, rfl, ?_⟩
    refine iteF ?_
    refine ⟨_, rfl, _, rfl, l, a, ss, g, rfl, s1.seq hl, ok.same s1, hlen, ha.same s1, gz, m1, m2, fun H2 s2 nw nl => ?_, fun p x y H2 s2 ep low pos hw bx by' => ?_⟩
    · refine ⟨_, rfl, rfl, _, rfl, ?_⟩
      refine iteF ?_
      have s12 := s1.trans s2
      refine ⟨_, rfl, _, rfl, l, a, ss, g, rfl, s12.seq hl, ok.same s12, hlen, ha.same s12, gz, m1, m2, fun H3 s3 b1 => ?_, fun ft p D P ws H3 s3 ef ep wP cP hD eD okw fr => ?_⟩
      · refine ⟨false, rfl, ?_⟩
        refine iteF ?_
        have s13 := s12.trans s3
        refine ⟨_, rfl, _, rfl, l, a, ss, g, rfl, s13.seq hl, ok.same s13, hlen, ha.same s13, m1, m2, nw, fun H4 s4 b2 => ?_, fun ft p D P ws H4 s4 ef ep wP cP hD eD okw fr => ?_⟩
        · exact (no_far ⟨nz, gz, nw, nl, b1⟩ b2 pw wp).elim
        · exact qf ft p D P ws H4 (s13.trans s4) ef ep wP cP (s13.free hD) eD okw fr
      · refine ⟨true, .inr (.inl ⟨_, SqT.of ef, rfl⟩), ?_⟩
        refine iteT ?_
        exact qf ft p D P ws H3 (s12.trans s3) ef ep wP cP (s12.free hD) eD okw fr
    · refine ⟨_, rfl, rfl, _, rfl, ?_⟩
      refine iteT ?_
      refine ⟨_, rfl, (by show 2 ≤ sizeLine; decide), fun t ht => ?_⟩
      have st := same_new ht (.tup [.str "open", .ref p])
      exact qo t p x y P0 _ ((s1.trans s2).trans st) upd_same (st _ _ ep) low pos hw bx by' pw wp cp
  · refine ⟨_, rfl, rfl, _, rfl, ?_⟩
    refine iteT ?_
    refine ⟨_, rfl, (by show 2 ≤ sizeLine; decide), fun t ht => ?_⟩
    have st := same_new ht (.tup [.str "none", .ref D])
    exact qc t D cs _ (s1.trans st) upd_same hD (st _ _ eD) (okc.same st) cl
def sp_p_stretch_way (K : PySem.W.Frag) : Sp := fun vs H Q _ => ∃ (a b : Addr) (x1 y1 x2 y2 : Int), vs = [.ref a, .ref b] ∧ Sq K H a [.int x1, .int y1] ∧ Sq K H b [.int x2, .int y2] ∧
  ∀ p, H p = none → Q (.ref p) (upd H p (.tup [.int (x2 - x1), .int (y2 - y1)]))
theorem ok_p_stretch_way (F : Fun K "stretch_way" "stretch_way" s_p_stretch_way f fd) (Z : Zs mg)  : FnOk P w K mg base CX0 1 f fd ["start", "end"] (sp_p_stretch_way K) := by
  refine F.ok sc_p_stretch_way (fun vs H Q E h => ?_) (fun cdv A outer s H vs Q E hr h => ?_)
  · obtain ⟨a, b, x1, y1, x2, y2, rfl, _⟩ := h
    rfl
  obtain ⟨a, b, x1, y1, x2, y2, rfl, ha, hb, q⟩ := h
  refine ⟨_, (pss_one (ps_ret (pe_tup (pa_cons (pe_op op_sub (pe_ix ix_any (pv 1) pe_int (fun _ _ => rfl)) (pe_ix ix_any (pv 0) pe_int (fun _ _ => rfl))) (pa_cons (pe_op op_sub (pe_ix ix_any (pv 1) pe_int (fun _ _ => rfl)) (pe_ix ix_any (pv 0) pe_int (fun _ _ => rfl))) pa_nil))))), ?_⟩
  exact ⟨_, rfl, b, _, _, .int x2, rfl, rfl, hb, rfl, _, rfl, a, _, _, .int x1, rfl, rfl, ha, rfl, _, _, rfl, rfl,
    _, rfl, b, _, _, .int y2, rfl, rfl, hb, rfl, _, rfl, a, _, _, .int y1, rfl, rfl, ha, rfl, _, _, rfl, rfl, (by show 2 ≤ sizeLine; decide), fun p hp => q p hp⟩
theorem low3k {D0 D1 D2 : Int} (n : D0 ≠ 0 ∨ D1 ≠ 0) (m0 : D0.natAbs ≤ 10 ^ 9) (m1 : D1.natAbs ≤ 10 ^ 9) : 0 < gcdL [D0, D1, D2] ∧ (gcdL [D0, D1, D2] : Int) ≤ 10 ^ 9 ∧ (gcdL [D0, D1, D2] : Int) < 10 ^ 600 := by
  have gp : 0 < gcdL [D0, D1, D2] := by
    rcases n with n | n
    · exact gcdL_pos (n := D0) (by simp) n
    · exact gcdL_pos (n := D1) (by simp) n
  have z : (gcdL [D0, D1, D2] : Int) ≤ 10 ^ 9 := by
    rcases n with n | n
    · have := gcdL_le (ns := [D0, D1, D2]) (n := D0) (by simp) n
      omega
    · have := gcdL_le (ns := [D0, D1, D2]) (n := D1) (by simp) n
      omega
  exact ⟨gp, z, Int.lt_of_le_of_lt z (by decide +kernel)⟩
def sp_p_stretch_side (K : PySem.W.Frag) : Sp := fun vs H Q _ => ∃ (a b : Addr) (u v : Int × Int), vs = [.ref a, .ref b] ∧ Sq K H a [.int u.1, .int u.2] ∧ Sq K H b [.int v.1, .int v.2] ∧ u ≠ v ∧ u.1.natAbs ≤ 10 ^ 6 ∧ u.2.natAbs ≤ 10 ^ 6 ∧ v.1.natAbs ≤ 10 ^ 6 ∧ v.2.natAbs ≤ 10 ^ 6 ∧
  ∀ (p : Addr) (H' : Hp), Same H H' → H p = none → H' p = some (.tup ((lowL (sideOf u v)).map V.int)) → Q (.ref p) H'
theorem ok_p_stretch_side (F : Fun K "stretch_side" "stretch_side" s_p_stretch_side f fd) (Z : Zs mg) (h_p_plain_side : Has P w K mg base "plain_side" 3 ["side"] (sp_p_plain_side K)) (h_p_turn : Has P w K mg base "turn" 1 ["one", "other"] (sp_p_turn K)) (h_p_stretch_way : Has P w K mg base "stretch_way" 1 ["start", "end"] (sp_p_stretch_way K)) : FnOk P w K mg base CX0 4 f fd ["start", "end"] (sp_p_stretch_side K) := by
  refine F.ok sc_p_stretch_side (fun vs H Q E h => ?_) (fun cdv A outer s H vs Q E hr h => ?_)
  · obtain ⟨a, b, u, v, rfl, _⟩ := h
    rfl
  obtain ⟨a, b, u, v, rfl, ha, hb, hne, m1, m2, m3, m4, q⟩ := h
  refine ⟨_, (pss_cons (ps_set (i := 2) sc_p_stretch_side.nd rfl (Or.inl rfl) (pe_callH h_p_stretch_way (hr.mono (by decide)) rfl (pa_cons (pv 0) (pa_cons (pv 1) pa_nil))))
      (pss_one (ps_ret (pe_callH h_p_plain_side (hr.mono (by decide)) rfl (pa_cons (pe_tup (pa_cons (pe_ix ix_any (pv 2) pe_int (fun _ _ => rfl)) (pa_cons (pe_un un_neg (pe_ix ix_any (pv 2) pe_int (fun _ _ => rfl))) (pa_cons (pe_callH h_p_turn (hr.mono (by decide)) rfl (pa_cons (pv 0) (pa_cons (pv 2) pa_nil))) pa_nil)))) pa_nil))))), ?_⟩
  refine ⟨_, rfl, _, rfl, a, b, u.1, u.2, v.1, v.2, rfl, ha, hb, fun d hd => ?_⟩
  have sd : Same H (upd H d (.tup [.int (v.1 - u.1), .int (v.2 - u.2)])) := same_new hd _
  have ed : Sq K (upd H d (.tup [.int (v.1 - u.1), .int (v.2 - u.2)])) d [.int (v.1 - u.1), .int (v.2 - u.2)] := .inr (SqT.of upd_same)
  have nn : v.2 - u.2 ≠ 0 ∨ -(v.1 - u.1) ≠ 0 := by
    by_cases h1 : v.2 - u.2 = 0
    · right
      intro h2
      exact hne (Prod.ext (by omega) (by omega))
    · exact .inl h1
  obtain ⟨g1, _, g2⟩ := low3k (D0 := v.2 - u.2) (D1 := -(v.1 - u.1)) (D2 := u.1 * (v.2 - u.2) - u.2 * (v.1 - u.1)) nn (by omega) (by omega)
  refine ⟨_, rfl, d, _, _, _, rfl, rfl, ed, rfl, _, rfl, d, _, _, _, rfl, rfl, ed, rfl, _, rfl, _, rfl, _, rfl, a, d, _, _, u.1, u.2, v.1 - u.1, v.2 - u.2, rfl, ha.same sd, ed, rfl, rfl, rfl, rfl, by omega, by omega, (by show 3 ≤ sizeLine; decide), fun t ht => ?_⟩
  have st := same_new ht (.tup [.int (v.2 - u.2), .int (-(v.1 - u.1)), .int (u.1 * (v.2 - u.2) - u.2 * (v.1 - u.1))])
  refine ⟨t, sideOf u v, rfl, .inr (SqT.of upd_same), by show 3 ≤ 1000; decide, g1, g2, fun p H3 s3 hp e3 => ?_⟩
  exact q p H3 ((sd.trans st).trans s3) ((sd.trans st).free hp) e3
theorem cut_atS (ps : List Pr) (k : Nat) : cutV (refsOf ps) (some (k : Int)) none = refsOf (ps.drop k) ∧ cutV (refsOf ps) none (some (k : Int)) = refsOf (ps.take k) := by
  refine ⟨?_, cut_refs_upto ps k⟩
  unfold cutV
  rw [HT.sIx_nat (refsOf ps).length 0 k, show HT.sIx (refsOf ps).length (refsOf ps).length none = (refsOf ps).length from rfl, List.take_of_length_le (by rw [List.length_drop] <;> omega)]
  rw [refsOf_length]
  simp only [refsOf, ← List.map_drop]
  congr 2
  by_cases h : k ≤ ps.length
  · rw [Nat.min_eq_left h]
  · rw [Nat.min_eq_right (by omega), List.drop_length, List.drop_eq_nil_of_le (by omega)]
def SidesAt (H : Hp) (ss : List Addr) (vs : List (Int × Int)) (m : Nat) : Prop := ss.length = m ∧ ∀ i < m, ∃ p, ss[i]? = some p ∧ H p = some (.tup ((lowL (sideOf (atP vs i) (atP vs ((i + 1) % vs.length)))).map V.int))
theorem SidesAt.same {H H' : Hp} {ss : List Addr} {vs : List (Int × Int)} {m : Nat} (h : SidesAt H ss vs m) (s : Same H H') : SidesAt H' ss vs m :=
  ⟨h.1, fun i hi => by
    obtain ⟨p, e1, e2⟩ := h.2 i hi
    exact ⟨p, e1, s _ _ e2⟩⟩
theorem atP_of {ps : List Pr} {i : Nat} {t : Pr} (h : ps[i]? = some t) : atP (ps.map (·.2)) i = t.2 := by
  unfold atP
  rw [List.getElem?_map, h]
  rfl
def sp_p_bank_sides (K : PySem.W.Frag) : Sp := fun vs H Q _ => ∃ (l : Addr) (ps : List Pr), vs = [.ref l] ∧ H l = some (.lst (refsOf ps)) ∧ PrOk H (10 ^ 6) ps ∧ 3 ≤ ps.length ∧ ps.length ≤ 8 ∧
  (∀ i < ps.length, atP (ps.map (·.2)) i ≠ atP (ps.map (·.2)) ((i + 1) % ps.length)) ∧
  ∀ (D : Addr) (ss : List Addr) (H' : Hp), Same H H' → H D = none → H' D = some (.lst (ss.map V.ref)) → SidesAt H' ss (ps.map (·.2)) ps.length → Q (.ref D) H'
theorem ok_p_bank_sides (F : Fun K "bank_sides" "bank_sides" s_p_bank_sides f fd) (Z : Zs mg) (h_p_stretch_side : Has P w K mg base "stretch_side" 4 ["start", "end"] (sp_p_stretch_side K)) : FnOk P w K mg base CX0 5 f fd ["corners"] (sp_p_bank_sides K) := by
  refine F.ok sc_p_bank_sides (fun vs H Q E h => ?_) (fun cdv A outer s H vs Q E hr h => ?_)
  · obtain ⟨l, ps, rfl, _⟩ := h
    rfl
  obtain ⟨l, ps, rfl, el, pk, n3, n8, hne, q⟩ := h
  refine ⟨_, (pss_cons (ps_set (i := 1) sc_p_bank_sides.nd rfl (Or.inr rfl) (pe_op op_cat (pe_slice sl_list (pv 0) (po_some pe_int) po_none) (pe_slice sl_list (pv 0) po_none (po_some pe_int))))
      (pss_one (ps_ret (pe_comp (T := ["number"]) (caps := [("corners", 0), ("following", 1)]) ⟨rfl, by decide +kernel, by decide +kernel, rfl, ⟨⟨rfl, rfl, Or.inl rfl⟩, ⟨rfl, rfl, Or.inl rfl⟩, True.intro⟩⟩ rfl (pi_range1 rfl Z.range (pa_cons (pe_callB call_len_seq rfl Z.len bt_len (pa_cons (pv 0) pa_nil)) pa_nil)) (fun _ => (pg_name (i := 0) (show (["number", "corners", "following"] : List Str).Nodup by decide +kernel) rfl (Or.inl rfl))) (fun _ => pifs_nil) (fun _ => (pe_callH h_p_stretch_side (hr.mono (by decide)) rfl (pa_cons (pe_ix ix_any (pv 1) (pv 0) (fun _ _ => rfl)) (pa_cons (pe_ix ix_any (pv 2) (pv 0) (fun _ _ => rfl)) pa_nil)))))))), ?_⟩
  obtain ⟨c1, c2⟩ := cut_atS ps 1
  refine ⟨_, rfl, _, rfl, l, _, rfl, SqL.of el, fun f1 hf1 => ?_⟩
  rw [show cutV (refsOf ps) (some 1) none = refsOf (ps.drop 1) from c1]
  have sf1 := same_new hf1 (.lst (refsOf (ps.drop 1)))
  refine ⟨_, rfl, _, rfl, l, _, rfl, SqL.of (sf1 _ _ el), fun f2 hf2 => ?_⟩
  rw [show cutV (refsOf ps) none (some 1) = refsOf (ps.take 1) from c2]
  have sf2 := same_new hf2 (.lst (refsOf (ps.take 1)))
  refine ⟨f1, f2, _, _, rfl, rfl, sf2 _ _ upd_same, upd_same, small (by rw [refsOf_length, refsOf_length, List.length_drop, List.length_take]; omega), fun g hg => ?_⟩
  have sA := (sf1.trans sf2).trans (same_new hg (.lst (refsOf (ps.drop 1) ++ refsOf (ps.take 1))))
  have eg : upd (upd (upd H f1 (.lst (refsOf (ps.drop 1)))) f2 (.lst (refsOf (ps.take 1)))) g (.lst (refsOf (ps.drop 1) ++ refsOf (ps.take 1))) g = some (.lst (refsOf (ps.drop 1 ++ ps.take 1))) := by rw [upd_same, refsOf_app]
  generalize upd (upd (upd H f1 (.lst (refsOf (ps.drop 1)))) f2 (.lst (refsOf (ps.take 1)))) g (.lst (refsOf (ps.drop 1) ++ refsOf (ps.take 1))) = H1 at sA eg ⊢
  have el1 := sA _ _ el
  have pk1 := pk.same sA
  have nf : (ps.drop 1 ++ ps.take 1).length = ps.length := by rw [List.length_append, List.length_drop, List.length_take]; omega
  have getf : ∀ i, i < ps.length → (ps.drop 1 ++ ps.take 1)[i]? = ps[(i + 1) % ps.length]? := fun i hi => by
    by_cases h : i + 1 < ps.length
    · rw [List.getElem?_append_left (by rw [List.length_drop]; omega), List.getElem?_drop, Nat.mod_eq_of_lt h, Nat.add_comm]
    · rw [List.getElem?_append_right (by rw [List.length_drop]; omega), List.length_drop, List.getElem?_take, if_pos (by omega)]
      congr 1
      rw [show i + 1 = ps.length by omega, Nat.mod_self]
      omega
  refine ⟨_, rfl, l, _, rfl, .inl (SqL.of el1), _, rfl, (by rw [refsOf_length]; omega), (by rw [refsOf_length]; omega), fun c D hD => ?_⟩
  refine comp_range0 (lo := 0) (n := (((refsOf ps).length : Nat) : Int).toNat) (fun j σ zs H' => Same H1 H' ∧ H' D = some (.lst zs) ∧ (∃ ss : List Addr, zs = ss.map V.ref ∧ SidesAt H' ss (ps.map (·.2)) j) ∧ ∃ u0 : Option V, σ = [u0, some (.ref l), some (.ref g)])
    ⟨same_new hD _, upd_same, ⟨[], rfl, rfl, fun i hi => absurd hi (Nat.not_lt_zero _)⟩, none, rfl⟩ (fun i σ ys H' _ ⟨_, e, _⟩ => e) ?_ ?_
  · rintro j σ zs H' hj ⟨sH, eD, ⟨ss, rfl, hss⟩, u0, rfl⟩
    have hjn : j < ps.length := by rw [Int.toNat_natCast, refsOf_length] at hj; exact hj
    obtain ⟨t0, m0, g0, a0⟩ := refsOf_at (ps := ps) (i := j) (k := 0 + (j : Int)) (by omega) hjn
    obtain ⟨t1, m1, g1, a1⟩ := refsOf_at (ps := ps.drop 1 ++ ps.take 1) (i := j) (k := 0 + (j : Int)) (by omega) (by omega)
    rw [getf j hjn] at g1
    have m1' : t1 ∈ ps := List.mem_of_getElem? g1
    obtain ⟨e0, b00, b01⟩ := pk1 t0 m0
    obtain ⟨e1, b10, b11⟩ := pk1 t1 m1'
    have p0 := atP_of g0
    have p1 := atP_of g1
    have hn := hne j hjn
    rw [p0, p1] at hn
    refine ⟨_, rfl, _, rfl, l, _, _, _, rfl, rfl, .inl (SqL.of (sH _ _ el1)), a0, _, rfl, _, rfl, g, _, _, _, rfl, rfl, .inl (SqL.of (sH _ _ eg)), a1, t0.1, t1.1, t0.2, t1.2, rfl, .inr (SqT.of (sH _ _ e0)), .inr (SqT.of (sH _ _ e1)), hn, b00, b01, b10, b11, fun p H2 s2 hp ep => ?_⟩
    have nD : p ≠ D := fun z => by rw [z, eD] at hp; cases hp
    refine ⟨s2 _ _ eD, small1000 (by rw [List.length_map, hss.1]; omega), (sH.trans s2).putNew hD, upd_same, ⟨ss ++ [p], by rw [List.map_append]; rfl, by rw [List.length_append, hss.1]; rfl, fun i hi => ?_⟩, _, rfl⟩
    by_cases hij : i = j
    · refine ⟨p, ?_, ?_⟩
      · rw [hij, List.getElem?_append_right (by rw [hss.1]; omega), hss.1, Nat.sub_self]
        rfl
      · rw [upd_ne nD, hij, List.length_map, p0, p1]
        exact ep
    · obtain ⟨p', e1', e2'⟩ := hss.2 i (by omega)
      refine ⟨p', ?_, ?_⟩
      · rw [List.getElem?_append_left (by rw [hss.1]; omega)]
        exact e1'
      · rw [upd_ne (ne_of e2' eD (by intro z; cases z))]
        exact s2 _ _ e2'
  · rintro σ zs H' ⟨sH, eD, ⟨ss, rfl, hss⟩, u0, rfl⟩
    rw [Int.toNat_natCast, refsOf_length] at hss
    exact q D ss H' (sA.trans sH) (sA.free hD) eD hss
def sp_p_word_of_cannot (K : PySem.W.Frag) : Sp := fun vs H Q _ => ∃ (l D0 : Addr) (ss : List Sd) (cs : List Pr), vs = [.ref l, .ref D0] ∧ SqL K H l (sdRefs ss) ∧ SdOk H ss ∧ H D0 = some (.lst (refsOf cs)) ∧ PrAt H cs ∧ cs.length ≤ 900 ∧ (∀ c ∈ cs, 0 ≤ c.2.1) ∧
  ∀ (T d L : Addr) (ws : List Wo) (H' : Hp), Same H H' → H' T = some (.tup [.str "cannot", .ref d, .ref L]) → H' d = some (.tup [.int (sumF ss (fAt 0) ((firsts ss.length cs).map (·.2)) 0), .int (sumF ss (fAt 1) ((firsts ss.length cs).map (·.2)) 0)]) →
    H' L = some (.lst (woRefs ws)) → WoAt H' ws → ws.map (·.2.2) = (firsts ss.length cs).map (·.2) → Q (.ref T) H'
theorem ok_p_word_of_cannot (F : Fun K "word_of_cannot" "word_of_cannot" s_p_word_of_cannot f fd) (Z : Zs mg) (h_p_part : Has P w K mg base "part" 4 ["top", "bottom"] (sp_p_part K)) : FnOk P w K mg base CX0 5 f fd ["sides", "shown"] (sp_p_word_of_cannot K) := by
  refine F.ok sc_p_word_of_cannot (fun vs H Q E h => ?_) (fun cdv A outer s H vs Q E hr h => ?_)
  · obtain ⟨l, D0, ss, cs, rfl, _⟩ := h
    rfl
  obtain ⟨l, D0, ss, cs, rfl, hl, ok, eD0, okc, h900, c0, q⟩ := h
  have nl := sdRefs_length ss
  refine ⟨_, (pss_cons (ps_setComp (T := ["pair"]) (caps := [("sides", 0)]) (i := 2) sc_p_word_of_cannot.nd rfl rfl ⟨rfl, by decide +kernel, by decide +kernel, rfl, ⟨⟨rfl, rfl, Or.inl rfl⟩, True.intro⟩⟩ rfl (pi_seq (pv 1)) (fun _ => (pg_name (i := 0) (show (["pair", "sides"] : List Str).Nodup by decide +kernel) rfl (Or.inl rfl))) (fun _ => (pifs_one (pt_cmpR op_lt (pe_ix ix_any (pv 0) pe_int (fun _ _ => rfl)) (pe_callB call_len_seq rfl Z.len bt_len (pa_cons (pv 1) pa_nil)) (nomark _)))) (fun _ => (pv 0)))
      (pss_cons (ps_set (i := 3) sc_p_word_of_cannot.nd rfl (Or.inl rfl) (pe_callB (call_sumI rfl) rfl Z.sum bt_sum (pa_cons (pe_comp (T := ["pair"]) (caps := [("sides", 0)]) ⟨rfl, by decide +kernel, by decide +kernel, rfl, ⟨⟨rfl, rfl, Or.inl rfl⟩, True.intro⟩⟩ rfl (pi_seq (pv 2)) (fun _ => (pg_name (i := 0) (show (["pair", "sides"] : List Str).Nodup by decide +kernel) rfl (Or.inl rfl))) (fun _ => pifs_nil) (fun _ => (pe_op op_mul (pe_ix ix_any (pv 0) pe_int (fun _ _ => rfl)) (pe_ix ix_any (pe_ix ix_any (pv 1) (pe_ix ix_any (pv 0) pe_int (fun _ _ => rfl)) (fun _ _ => rfl)) pe_int (fun _ _ => rfl))))) pa_nil)))
      (pss_cons (ps_set (i := 4) sc_p_word_of_cannot.nd rfl (Or.inl rfl) (pe_callB (call_sumI rfl) rfl Z.sum bt_sum (pa_cons (pe_comp (T := ["pair"]) (caps := [("sides", 0)]) ⟨rfl, by decide +kernel, by decide +kernel, rfl, ⟨⟨rfl, rfl, Or.inl rfl⟩, True.intro⟩⟩ rfl (pi_seq (pv 2)) (fun _ => (pg_name (i := 0) (show (["pair", "sides"] : List Str).Nodup by decide +kernel) rfl (Or.inl rfl))) (fun _ => pifs_nil) (fun _ => (pe_op op_mul (pe_ix ix_any (pv 0) pe_int (fun _ _ => rfl)) (pe_ix ix_any (pe_ix ix_any (pv 1) (pe_ix ix_any (pv 0) pe_int (fun _ _ => rfl)) (fun _ _ => rfl)) pe_int (fun _ _ => rfl))))) pa_nil)))
      (pss_one (ps_ret (pe_tup (pa_cons pe_str (pa_cons (pe_tup (pa_cons (pv 3) (pa_cons (pv 4) pa_nil))) (pa_cons (pe_comp (T := ["pair"]) (caps := []) ⟨rfl, by decide +kernel, by decide +kernel, rfl, True.intro⟩ rfl (pi_seq (pv 2)) (fun _ => (pg_name (i := 0) (show (["pair"] : List Str).Nodup by decide +kernel) rfl (Or.inl rfl))) (fun _ => pifs_nil) (fun _ => (pe_tup (pa_cons (pe_ix ix_any (pv 0) pe_int (fun _ _ => rfl)) (pa_cons (pe_callH h_p_part (hr.mono (by decide)) rfl (pa_cons (pe_ix ix_any (pv 0) pe_int (fun _ _ => rfl)) (pa_cons pe_int pa_nil))) pa_nil))))) pa_nil))))))))), ?_⟩
  refine ⟨_, rfl, D0, rfl, .inl ⟨⟨_, SqL.of eD0⟩, fun cc D hD => comp_list (K := K) (a := D0) (xs := refsOf cs) (fun j σ ys G => Same H G ∧ G D = some (.lst ys) ∧ ys = refsOf (firsts ss.length (cs.take j)) ∧ ∃ u0 : Option V, σ = [u0, some (.ref l)])
    ⟨same_new hD _, upd_same, rfl, none, rfl⟩ (fun j σ ys G _ ⟨e, e2, _⟩ => ⟨e.seq (SqL.of eD0), e2⟩) ?_ ?_⟩⟩
  · rintro j x σ ys G hj ⟨sG, eY, rfl, u0, rfl⟩
    obtain ⟨t, gt, rfl, hjl⟩ := refsOf_get hj
    have et := sG _ _ (okc t (List.mem_of_getElem? gt))
    refine ⟨_, rfl, t.1, _, _, .int t.2.1, rfl, rfl, .inr (SqT.of et), rfl, _, rfl, l, _, rfl, .inl (sG.seq hl), _, _, rfl, rfl, _, rfl, ?_⟩
    rw [nl]
    have e1 : cs.take (j + 1) = cs.take j ++ [t] := by rw [List.take_succ, gt]; rfl
    refine ifD (fun h1 => ?_) (fun h1 => ?_)
    · have e2 : firsts ss.length (cs.take (j + 1)) = firsts ss.length (cs.take j) ++ [t] := by
        unfold firsts
        rw [e1, List.filter_append, List.filter_cons, decide_eq_true h1]
        rfl
      refine ⟨_, rfl, eY, small1000 (by rw [refsOf_length]; exact Nat.le_trans (List.length_filter_le _ _) (by rw [List.length_take]; omega)), sG.putNew hD, upd_same, ?_, _, rfl⟩
      rw [e2, refsOf_app]
      rfl
    · have e2 : firsts ss.length (cs.take (j + 1)) = firsts ss.length (cs.take j) := by
        unfold firsts
        rw [e1, List.filter_append, List.filter_cons, decide_eq_false h1]
        simp
      exact ⟨sG, eY, by rw [e2], _, rfl⟩
  rintro σ ys G1 ⟨s1, eD1, rfl, u0, rfl⟩
  rw [refsOf_length, List.take_length] at eD1
  have oks : PrAt G1 (firsts ss.length cs) := fun t ht => s1 _ _ (okc t (List.mem_filter.mp ht).1)
  have rg : ∀ t ∈ firsts ss.length cs, 0 ≤ t.2.1 ∧ t.2.1 < (ss.length : Int) := fun t ht => ⟨c0 t (List.mem_filter.mp ht).1, of_decide_eq_true (List.mem_filter.mp ht).2⟩
  have nsh : (firsts ss.length cs).length ≤ 900 := Nat.le_trans (List.length_filter_le _ _) h900
  have hl := s1.seq hl
  have ok := ok.same s1
  have eqs : ∀ k : Int, ((firsts ss.length cs).map fun c => c.2.2 * sideAt ss (fAt k) c.2.1).sum = sumF ss (fAt k) ((firsts ss.length cs).map (·.2)) 0 := fun k => by
    rw [sumF_eq, List.map_map, Int.zero_add]
    rfl
  generalize firsts ss.length cs = sh at oks rg nsh eqs q eD1
  have s00 : Same G1 G1 := Same.refl _
  refine ⟨_, rfl, D, rfl, .inl ⟨⟨_, SqL.of eD1⟩, fun cc E1 hD => comp_list0 (K := K) (a := D) (xs := refsOf sh) (fun j σ ys G => Same G1 G ∧ G E1 = some (.lst ys) ∧ ys = ((sh.take j).map fun c => c.2.2 * sideAt ss (fAt 0) c.2.1).map V.int ∧ ∃ u0 : Option V, σ = [u0, some (.ref l)])
    ⟨same_new hD _, upd_same, rfl, none, rfl⟩ (fun j σ ys G _ ⟨e, e2, _⟩ => ⟨e.seq (SqL.of eD1), e2⟩) ?_ ?_⟩⟩
  · rintro j x σ ys G hj ⟨sG, eY, rfl, u0, rfl⟩
    obtain ⟨t, gt, rfl, hjl⟩ := refsOf_get hj
    have mt := List.mem_of_getElem? gt
    have s0 := s00.trans sG
    have et := s0 _ _ (oks t mt)
    obtain ⟨r0, r1⟩ := rg t mt
    obtain ⟨sd, msd, gsd, asd⟩ := sdRefs_at (ss := ss) (i := t.2.1.toNat) (k := t.2.1) (by omega) (by omega)
    obtain ⟨es, _, b1, b2, _⟩ := (ok.same s0) sd msd
    have ef : sideAt ss (fAt 0) t.2.1 = sd.2.1 := by
      unfold sideAt
      rw [gsd]
      rfl
    have sq : Sq K G t.1 [.int t.2.1, .int t.2.2] := .inr (SqT.of et)
    refine ⟨_, rfl, t.1, _, _, .int t.2.2, rfl, rfl, sq, rfl, _, rfl, _, rfl, t.1, _, _, .int t.2.1, rfl, rfl, sq, rfl, l, _, _, .ref sd.1, rfl, rfl, .inl (s0.seq hl), asd, sd.1, _, _, .int sd.2.1, rfl, rfl, .inr (SqT.of es), rfl, _, _, rfl, rfl, cm_r (by omega), eY, ?_⟩
    refine ⟨small1000 (by rw [List.length_map, List.length_map, List.length_take]; omega), sG.putNew hD, upd_same, ?_, _, rfl⟩
    rw [List.take_succ, gt, List.map_append, List.map_append, ← ef]
    rfl
  rintro σ ys G2 ⟨s2, eE1, rfl, u1, rfl⟩
  rw [refsOf_length, List.take_length] at eE1
  refine ⟨E1, _, rfl, SqL.of eE1, ?_⟩
  rw [eqs 0]
  have eD2 := s2 _ _ eD1
  refine ⟨_, rfl, D, rfl, .inl ⟨⟨_, SqL.of eD2⟩, fun cc N1 hD => comp_list0 (K := K) (a := D) (xs := refsOf sh) (fun j σ ys G => Same G2 G ∧ G N1 = some (.lst ys) ∧ ys = ((sh.take j).map fun c => c.2.2 * sideAt ss (fAt 1) c.2.1).map V.int ∧ ∃ u0 : Option V, σ = [u0, some (.ref l)])
    ⟨same_new hD _, upd_same, rfl, none, rfl⟩ (fun j σ ys G _ ⟨e, e2, _⟩ => ⟨e.seq (SqL.of eD2), e2⟩) ?_ ?_⟩⟩
  · rintro j x σ ys G hj ⟨sG, eY, rfl, u0, rfl⟩
    obtain ⟨t, gt, rfl, hjl⟩ := refsOf_get hj
    have mt := List.mem_of_getElem? gt
    have s0 := s2.trans sG
    have et := s0 _ _ (oks t mt)
    obtain ⟨r0, r1⟩ := rg t mt
    obtain ⟨sd, msd, gsd, asd⟩ := sdRefs_at (ss := ss) (i := t.2.1.toNat) (k := t.2.1) (by omega) (by omega)
    obtain ⟨es, _, b1, b2, _⟩ := (ok.same s0) sd msd
    have ef : sideAt ss (fAt 1) t.2.1 = sd.2.2.1 := by
      unfold sideAt
      rw [gsd]
      rfl
    have sq : Sq K G t.1 [.int t.2.1, .int t.2.2] := .inr (SqT.of et)
    refine ⟨_, rfl, t.1, _, _, .int t.2.2, rfl, rfl, sq, rfl, _, rfl, _, rfl, t.1, _, _, .int t.2.1, rfl, rfl, sq, rfl, l, _, _, .ref sd.1, rfl, rfl, .inl (s0.seq hl), asd, sd.1, _, _, .int sd.2.2.1, rfl, rfl, .inr (SqT.of es), rfl, _, _, rfl, rfl, cm_r (by omega), eY, ?_⟩
    refine ⟨small1000 (by rw [List.length_map, List.length_map, List.length_take]; omega), sG.putNew hD, upd_same, ?_, _, rfl⟩
    rw [List.take_succ, gt, List.map_append, List.map_append, ← ef]
    rfl
  rintro σ ys G3 ⟨s3, eN1, rfl, u2, rfl⟩
  rw [refsOf_length, List.take_length] at eN1
  refine ⟨N1, _, rfl, SqL.of eN1, ?_⟩
  rw [eqs 1]
  have eD3 := s3 _ _ eD2
  have s13 := s2.trans s3
  refine ⟨_, rfl, _, rfl, (by show 2 ≤ sizeLine; decide), fun d hd => ?_⟩
  have sd3 := same_new hd (.tup [.int (sumF ss (fAt 0) (sh.map (·.2)) 0), .int (sumF ss (fAt 1) (sh.map (·.2)) 0)])
  have ed : upd G3 d (.tup [.int (sumF ss (fAt 0) (sh.map (·.2)) 0), .int (sumF ss (fAt 1) (sh.map (·.2)) 0)]) d = some (.tup [.int (sumF ss (fAt 0) (sh.map (·.2)) 0), .int (sumF ss (fAt 1) (sh.map (·.2)) 0)]) := upd_same
  generalize upd G3 d (.tup [.int (sumF ss (fAt 0) (sh.map (·.2)) 0), .int (sumF ss (fAt 1) (sh.map (·.2)) 0)]) = G4 at sd3 ed ⊢
  have s14 := s13.trans sd3
  have eD4 := sd3 _ _ eD3
  have ok4 := oks.same s14
  refine ⟨_, rfl, D, rfl, .inl ⟨⟨_, SqL.of eD4⟩, fun cc L hL => comp_list0 (K := K) (a := D) (xs := refsOf sh) (fun j σ ys G => Same G4 G ∧ G L = some (.lst ys) ∧ (∃ ws : List Wo, ys = woRefs ws ∧ WoAt G ws ∧ ws.map (·.2.2) = (sh.take j).map (·.2)) ∧ ∃ u0 : Option V, σ = [u0])
    ⟨same_new hL _, upd_same, ⟨[], rfl, (fun t ht => nomatch ht), rfl⟩, none, rfl⟩ (fun j σ ys G _ ⟨e, e2, _⟩ => ⟨e.seq (SqL.of eD4), e2⟩) ?_ ?_⟩⟩
  · rintro j x σ ys G hj ⟨sG, eY, ⟨ws, rfl, okw, mw⟩, u0, rfl⟩
    obtain ⟨t, gt, rfl, hjl⟩ := refsOf_get hj
    have et := sG _ _ (ok4 t (List.mem_of_getElem? gt))
    have sq : Sq K G t.1 [.int t.2.1, .int t.2.2] := .inr (SqT.of et)
    have nw : ws.length ≤ j := by
      have z := congrArg List.length mw
      rw [List.length_map, List.length_map, List.length_take] at z
      omega
    refine ⟨_, rfl, t.1, _, _, .int t.2.1, rfl, rfl, sq, rfl, _, rfl, t.1, _, _, .int t.2.2, rfl, rfl, sq, rfl, t.2.2, 1, rfl, by decide, by decide +kernel, fun p1 x1 y1 G5 s5 hp1 ep1 po => ?_⟩
    obtain ⟨e1, e2⟩ := part_one rfl po
    rw [e1, e2] at ep1
    refine ⟨(by show 2 ≤ sizeLine; decide), fun p2 hp2 => ?_⟩
    have s6 := same_new hp2 (.tup [.int t.2.1, .ref p1])
    have eY6 := s6 _ _ (s5 _ _ eY)
    refine ⟨eY6, small1000 (by rw [woRefs_length]; omega), (sG.trans (s5.trans s6)).putNew hL, upd_same, ⟨ws ++ [(p2, p1, t.2.1, t.2.2)], by simp [woRefs], woAt_app okw (s5.trans s6) eY6 upd_same (s6 _ _ ep1), ?_⟩, _, rfl⟩
    rw [List.map_append, mw, List.take_succ, gt]
    simp
  rintro σ ys G5 ⟨s5, eL, ⟨ws, rfl, okw, mw⟩, u3, rfl⟩
  rw [refsOf_length, List.take_length] at mw
  refine ⟨(by show 3 ≤ sizeLine; decide), fun T hT => ?_⟩
  have sT := same_new hT (.tup [.str "cannot", .ref d, .ref L])
  exact q T d L ws _ (s1.trans (s14.trans (s5.trans sT))) upd_same (sT _ _ (s5 _ _ ed)) (sT _ _ eL) (okw.same sT) mw
def goneS (g P : P3) (x y : Int) : Int := if (g.2.2 * P.2.2 - g.1 * P.1 - g.2.1 * P.2.1) / (P.2.2 * (g.1 * x + g.2.1 * y)) + 1 > 0 then (g.2.2 * P.2.2 - g.1 * P.1 - g.2.1 * P.2.1) / (P.2.2 * (g.1 * x + g.2.1 * y)) + 1 else 0
def sp_p_gone_beyond (K : PySem.W.Frag) : Sp := fun vs H Q _ => ∃ (e p v : Addr) (g P : P3) (x y : Int), vs = [.ref e, .ref p, .ref v] ∧ Sq K H e [.int g.1, .int g.2.1, .int g.2.2] ∧ Sq K H p [.int P.1, .int P.2.1, .int P.2.2] ∧ Sq K H v [.int x, .int y] ∧
  g.1.natAbs ≤ 10 ^ 9 ∧ g.2.1.natAbs ≤ 10 ^ 9 ∧ g.2.2.natAbs ≤ 10 ^ 13 ∧ x.natAbs ≤ 2 * 10 ^ 9 ∧ y.natAbs ≤ 2 * 10 ^ 9 ∧ 0 < g.1 * x + g.2.1 * y ∧ 0 < P.2.2 ∧ P.1.natAbs ≤ 10 ^ 40 ∧ P.2.1.natAbs ≤ 10 ^ 40 ∧ P.2.2.natAbs ≤ 10 ^ 40 ∧
  ∀ (q : Addr) (H' : Hp), Same H H' → H q = none → H' q = some (.tup ((lowL (upL (P.1 + goneS g P x y * x * P.2.2) (P.2.1 + goneS g P x y * y * P.2.2) P.2.2)).map V.int)) → Q (.ref q) H'
theorem ok_p_gone_beyond (F : Fun K "gone_beyond" "gone_beyond" s_p_gone_beyond f fd) (Z : Zs mg) (h_p_spot : Has P w K mg base "spot" 4 ["x", "y", "w"] (sp_p_spot K)) (h_p_along : Has P w K mg base "along" 1 ["one", "other"] (sp_p_along K)) : FnOk P w K mg base CX0 5 f fd ["edge", "place", "way"] (sp_p_gone_beyond K) := by
  refine F.ok sc_p_gone_beyond (fun vs H Q E h => ?_) (fun cdv A outer s H vs Q E hr h => ?_)
  · obtain ⟨e, p, v, g, P, x, y, rfl, _⟩ := h
    rfl
  obtain ⟨e, p, v, g, P, x, y, rfl, he, hp, hv, g1, g2, g3, x1, y1, al, pw, px, py, pz, q⟩ := h
  refine ⟨_, (pss_cons (ps_set (i := 3) sc_p_gone_beyond.nd rfl (Or.inl rfl) (pe_op op_sub (pe_op op_sub (pe_op op_mul (pe_ix ix_any (pv 0) pe_int (fun _ _ => rfl)) (pe_ix ix_any (pv 1) pe_int (fun _ _ => rfl))) (pe_op op_mul (pe_ix ix_any (pv 0) pe_int (fun _ _ => rfl)) (pe_ix ix_any (pv 1) pe_int (fun _ _ => rfl)))) (pe_op op_mul (pe_ix ix_any (pv 0) pe_int (fun _ _ => rfl)) (pe_ix ix_any (pv 1) pe_int (fun _ _ => rfl)))))
      (pss_cons (ps_set (i := 4) sc_p_gone_beyond.nd rfl (Or.inl rfl) (pe_callB (call_max2 rfl) rfl Z.max bt_max (pa_cons pe_int (pa_cons (pe_op op_add (pe_op op_fdivP (pv 3) (pe_op op_mul (pe_ix ix_any (pv 1) pe_int (fun _ _ => rfl)) (pe_callH h_p_along (hr.mono (by decide)) rfl (pa_cons (pv 0) (pa_cons (pv 2) pa_nil))))) pe_int) pa_nil))))
      (pss_one (ps_ret (pe_callH h_p_spot (hr.mono (by decide)) rfl (pa_cons (pe_op op_add (pe_ix ix_any (pv 1) pe_int (fun _ _ => rfl)) (pe_op op_mulB (pe_op op_mul (pv 4) (pe_ix ix_any (pv 2) pe_int (fun _ _ => rfl))) (pe_ix ix_any (pv 1) pe_int (fun _ _ => rfl)))) (pa_cons (pe_op op_add (pe_ix ix_any (pv 1) pe_int (fun _ _ => rfl)) (pe_op op_mulB (pe_op op_mul (pv 4) (pe_ix ix_any (pv 2) pe_int (fun _ _ => rfl))) (pe_ix ix_any (pv 1) pe_int (fun _ _ => rfl)))) (pa_cons (pe_ix ix_any (pv 1) pe_int (fun _ _ => rfl)) pa_nil)))))))), ?_⟩
  refine ⟨_, rfl, e, _, _, .int g.2.2, rfl, rfl, he, rfl, _, rfl, p, _, _, .int P.2.2, rfl, rfl, hp, rfl, _, _, rfl, rfl, cm_l (by omega), _, rfl, e, _, _, .int g.1, rfl, rfl, he, rfl, _, rfl, p, _, _, .int P.1, rfl, rfl, hp, rfl, _, _, rfl, rfl, cm_l (by omega), _, _, rfl, rfl, _, rfl, e, _, _, .int g.2.1, rfl, rfl, he, rfl, _, rfl, p, _, _, .int P.2.1, rfl, rfl, hp, rfl, _, _, rfl, rfl, cm_l (by omega), _, _, rfl, rfl, ?_⟩
  have a1 := natAbs_mul_le g.1 x g1 x1
  have a2 := natAbs_mul_le g.2.1 y g2 y1
  have ab : g.1 * x + g.2.1 * y ≤ 4 * 10 ^ 18 := by
    have e1 : (10 : Nat) ^ 9 * (2 * 10 ^ 9) = 2 * 10 ^ 18 := by decide
    omega
  have big : ∀ {n : Nat}, n ≤ 10 ^ 70 → n < 2 ^ 4096 := fun h => Nat.lt_of_le_of_lt h (by decide +kernel)
  have dp : 0 < P.2.2 * (g.1 * x + g.2.1 * y) := Int.mul_pos pw al
  have dv : CDivP (g.2.2 * P.2.2 - g.1 * P.1 - g.2.1 * P.2.1) (P.2.2 * (g.1 * x + g.2.1 * y)) := by
    refine ⟨dp, big ?_⟩
    have z := natAbs_mul_le P.2.2 (g.1 * x + g.2.1 * y) (n := 4 * 10 ^ 18) pz (by omega)
    exact Nat.le_trans z (by decide)
  have sb : (goneS g P x y).natAbs ≤ 10 ^ 55 := by
    have z1 := natAbs_mul_le g.2.2 P.2.2 g3 pz
    have z2 := natAbs_mul_le g.1 P.1 g1 px
    have z3 := natAbs_mul_le g.2.1 P.2.1 g2 py
    have e1 : (10 : Nat) ^ 13 * 10 ^ 40 = 10 ^ 53 := by decide
    have e2 : (10 : Nat) ^ 9 * 10 ^ 40 = 10 ^ 49 := by decide
    have z4 : (g.2.2 * P.2.2 - g.1 * P.1 - g.2.1 * P.2.1) / (P.2.2 * (g.1 * x + g.2.1 * y)) ≤ ((g.2.2 * P.2.2 - g.1 * P.1 - g.2.1 * P.2.1).natAbs : Int) := Int.le_trans (Int.ediv_le_ediv dp Int.le_natAbs) (Int.ediv_le_self _ (Int.natCast_nonneg _))
    unfold goneS
    generalize (g.2.2 * P.2.2 - g.1 * P.1 - g.2.1 * P.2.1) / (P.2.2 * (g.1 * x + g.2.1 * y)) = d at z4 ⊢
    rw [e1] at z1
    rw [e2] at z2 z3
    split <;> omega
  have mx := natAbs_mul_le (goneS g P x y) x sb x1
  have my := natAbs_mul_le (goneS g P x y) y sb y1
  have e3 : (10 : Nat) ^ 55 * (2 * 10 ^ 9) ≤ 10 ^ 70 := by decide
  have bz : P.2.2.natAbs < 2 ^ 4096 := big (Nat.le_trans pz (by decide))
  refine ⟨_, rfl, _, rfl, p, _, _, .int P.2.2, rfl, rfl, hp, rfl, _, rfl, _, rfl, e, v, _, _, g.1, g.2.1, x, y, rfl, he, hv, rfl, rfl, rfl, rfl, by omega, by omega, _, _, rfl, rfl, .inr ⟨by omega, by omega⟩, _, _, rfl, rfl, dv, _, _, rfl, rfl, 0, _, rfl, ?_⟩
  refine ⟨_, rfl, p, _, _, .int P.1, rfl, rfl, hp, rfl, _, rfl, _, rfl, v, _, _, .int x, rfl, rfl, hv, rfl, goneS g P x y, x, rfl, rfl, cm_r (by omega), _, rfl, p, _, _, .int P.2.2, rfl, rfl, hp, rfl, _, _, rfl, rfl, ⟨big (Nat.le_trans mx e3), bz⟩, _, _, rfl, rfl,
    _, rfl, p, _, _, .int P.2.1, rfl, rfl, hp, rfl, _, rfl, _, rfl, v, _, _, .int y, rfl, rfl, hv, rfl, goneS g P x y, y, rfl, rfl, cm_r (by omega), _, rfl, p, _, _, .int P.2.2, rfl, rfl, hp, rfl, _, _, rfl, rfl, ⟨big (Nat.le_trans my e3), bz⟩, _, _, rfl, rfl,
    _, rfl, p, _, _, .int P.2.2, rfl, rfl, hp, rfl, _, _, _, rfl, by omega, big_ok pz, q⟩
theorem sv_gone {t Z : P3} {x y n : Int} : sv t (Z.1 + n * x * Z.2.2, Z.2.1 + n * y * Z.2.2, Z.2.2) = sv t Z + n * Z.2.2 * (t.1 * x + t.2.1 * y) := by
  unfold sv
  simp only [Int.mul_add, Int.mul_comm, Int.mul_left_comm, Int.mul_assoc]
  omega
theorem way_beyond {ss : List Sd} {g Z : P3} {x y : Int} (al : 0 < g.1 * x + g.2.1 * y) (wy : wayB ss x y = true) (zw : 0 < Z.2.2) (wz : inW ss Z) : ∃ z : P3, 0 < z.2.2 ∧ inW ss z ∧ 0 < sv g z := by
  refine ⟨(Z.1 + ((sv g Z).natAbs + 1 : Int) * x * Z.2.2, Z.2.1 + ((sv g Z).natAbs + 1 : Int) * y * Z.2.2, Z.2.2), zw, fun t ht => ?_, ?_⟩
  · rw [sv_gone]
    have z1 := wz t ht
    have z2 : t.2.1 * x + t.2.2.1 * y ≤ 0 := of_decide_eq_true (List.all_eq_true.mp wy t ht)
    have z3 : 0 ≤ ((sv g Z).natAbs + 1 : Int) * Z.2.2 := Int.mul_nonneg (by omega) (by omega)
    have z4 := Int.mul_nonpos_of_nonneg_of_nonpos z3 z2
    omega
  · rw [sv_gone]
    have z3 : ((sv g Z).natAbs + 1 : Int) ≤ ((sv g Z).natAbs + 1 : Int) * Z.2.2 := by
      have := Int.mul_le_mul_of_nonneg_left (show (1 : Int) ≤ Z.2.2 by omega) (show (0 : Int) ≤ ((sv g Z).natAbs + 1 : Int) by omega)
      omega
    have z4 := Int.mul_le_mul_of_nonneg_left (show (1 : Int) ≤ g.1 * x + g.2.1 * y by omega) (show (0 : Int) ≤ ((sv g Z).natAbs + 1 : Int) * Z.2.2 by omega)
    omega
def sp_p_beyond_or_weights (K : PySem.W.Frag) : Sp := fun vs H Q _ => ∃ (l e : Addr) (ss : List Sd) (g : P3), vs = [.ref l, .ref e] ∧ SqL K H l (sdRefs ss) ∧ SdOk H ss ∧ ss.length ≤ 400 ∧ Sq K H e [.int g.1, .int g.2.1, .int g.2.2] ∧ (g.1 ≠ 0 ∨ g.2.1 ≠ 0) ∧ g.1.natAbs ≤ 10 ^ 9 ∧ g.2.1.natAbs ≤ 10 ^ 9 ∧ g.2.2.natAbs ≤ 10 ^ 13 ∧ (∃ z : P3, 0 < z.2.2 ∧ inW ss z) ∧
  (∀ (T p : Addr) (H' : Hp), Same H H' → H' T = some (.tup [.ref p, .non]) → (∃ z : P3, 0 < z.2.2 ∧ inW ss z ∧ 0 < sv g z) → Q (.ref T) H') ∧
  ∀ (T D : Addr) (H' : Hp), Same H H' → H' T = some (.tup [.non, .ref D]) → (∀ z : P3, 0 < z.2.2 → inW ss z → sv g z ≤ 0) → Q (.ref T) H'
theorem ok_p_beyond_or_weights (F : Fun K "beyond_or_weights" "beyond_or_weights" s_p_beyond_or_weights f fd) (Z : Zs mg) (h_p_holds : Has P w K mg base "holds" 2 ["side", "spot"] (sp_p_holds K)) (h_p_gone_beyond : Has P w K mg base "gone_beyond" 5 ["edge", "place", "way"] (sp_p_gone_beyond K)) (h_p_some_spot : Has P w K mg base "some_spot" 9 ["sides"] (sp_p_some_spot K)) (h_p_reach : Has P w K mg base "reach" 10 ["sides", "direction"] (sp_p_reach K)) : FnOk P w K mg base CX0 11 f fd ["sides", "edge"] (sp_p_beyond_or_weights K) := by
  refine F.ok sc_p_beyond_or_weights (fun vs H Q E h => ?_) (fun cdv A outer s H vs Q E hr h => ?_)
  · obtain ⟨l, e, ss, g, rfl, _⟩ := h
    rfl
  obtain ⟨l, e, ss, g, rfl, hl, ok, hlen, he, gz, g1, g2, g3, ⟨z0, zw0, wz0⟩, qa, qb⟩ := h
  have sm : ∀ t ∈ ss, (t.2.1 ≠ 0 ∨ t.2.2.1 ≠ 0) ∧ t.2.1.natAbs ≤ 10 ^ 9 ∧ t.2.2.1.natAbs ≤ 10 ^ 9 ∧ t.2.2.2.natAbs ≤ 10 ^ 13 := fun t ht => (ok t ht).2
  refine ⟨_, (pss_cons (ps_set (i := 2) sc_p_beyond_or_weights.nd rfl (Or.inl rfl) (pe_callH h_p_reach (hr.mono (by decide)) rfl (pa_cons (pv 0) (pa_cons (pe_tup (pa_cons (pe_ix ix_any (pv 1) pe_int (fun _ _ => rfl)) (pa_cons (pe_ix ix_any (pv 1) pe_int (fun _ _ => rfl)) pa_nil))) pa_nil))))
      (pss_cons (ps_if (pt_cmpR op_eq (pe_ix ix_any (pv 2) pe_int (fun _ _ => rfl)) pe_str (nomark _)) (pss_one (ps_ret (pe_tup (pa_cons (pe_callH h_p_gone_beyond (hr.mono (by decide)) rfl (pa_cons (pv 1) (pa_cons (pe_callH h_p_some_spot (hr.mono (by decide)) rfl (pa_cons (pv 0) pa_nil)) (pa_cons (pe_ix ix_any (pv 2) pe_int (fun _ _ => rfl)) pa_nil)))) (pa_cons pe_non pa_nil))))) pss_nil)
      (pss_cons (ps_if (pt_val (pe_callH h_p_holds (hr.mono (by decide)) rfl (pa_cons (pv 1) (pa_cons (pe_ix ix_any (pv 2) pe_int (fun _ _ => rfl)) pa_nil)))) (pss_one (ps_ret (pe_tup (pa_cons pe_non (pa_cons (pe_ix ix_any (pv 2) pe_int (fun _ _ => rfl)) pa_nil))))) pss_nil)
      (pss_one (ps_ret (pe_tup (pa_cons (pe_ix ix_any (pv 2) pe_int (fun _ _ => rfl)) (pa_cons pe_non pa_nil)))))))), ?_⟩
  refine ⟨_, rfl, _, rfl, e, _, _, .int g.1, rfl, rfl, he, rfl, _, rfl, e, _, _, .int g.2.1, rfl, rfl, he, rfl, (by show 2 ≤ sizeLine; decide), fun d hd => ?_⟩
  have sd : Same H (upd H d (.tup [.int g.1, .int g.2.1])) := same_new hd _
  have ed : upd H d (.tup [.int g.1, .int g.2.1]) d = some (.tup [.int g.1, .int g.2.1]) := upd_same
  generalize upd H d (.tup [.int g.1, .int g.2.1]) = H0 at sd ed ⊢
  refine ⟨l, d, ss, g, rfl, sd.seq hl, ok.same sd, hlen, .inr (SqT.of ed), gz, by omega, by omega, fun t D cs H1 s1 et hD eD okc cl => absurd wz0 (cl.no z0 zw0), fun t p x y Z0 H1 s1 et ep _ al wy bx by' zw wz cz => ?_, fun t p D P ws H1 s1 et ep wp cp hD eD okw fr => ?_⟩
  · have s01 := sd.trans s1
    refine ⟨_, rfl, t, _, _, .str "open", rfl, rfl, .inr (SqT.of et), rfl, rfl, _, rfl, ?_⟩
    refine ifSt ?_
    refine ⟨_, rfl, _, rfl, l, ss, rfl, s01.seq hl, ok.same s01, by omega, fun H2 s2 no => absurd wz0 (no z0 zw0), fun p2 P2 H2 s2 ep2 wp2 cp2 => ?_⟩
    obtain ⟨c1, c2, c3⟩ := cp2.small sm
    have s02 := s01.trans s2
    refine ⟨_, rfl, t, _, _, .ref p, rfl, rfl, .inr (SqT.of (s2 _ _ et)), rfl, e, p2, p, g, P2, x, y, rfl, he.same s02, .inr (SqT.of ep2.1), .inr (SqT.of (s2 _ _ ep)), g1, g2, g3, bx, by', al, ep2.2.1, c1, c2, c3, fun q2 H3 s3 hq2 eq2 => ?_⟩
    exact ⟨(by show 2 ≤ sizeLine; decide), fun T hT => qa T q2 _ ((s02.trans s3).trans (same_new hT _)) upd_same (way_beyond al wy zw wz)⟩
  · have s01 := sd.trans s1
    refine ⟨_, rfl, t, _, _, .str "far", rfl, rfl, .inr (SqT.of et), rfl, rfl, _, rfl, ?_⟩
    refine ifSf (by decide) ?_
    refine ⟨_, rfl, _, rfl, t, _, _, .ref p, rfl, rfl, .inr (SqT.of et), rfl, e, p, g.1, g.2.1, g.2.2, P.1, P.2.1, P.2.2, rfl, he.same s01, .inr (SqT.of ep.1), by omega, by omega, by omega, _, rfl, ?_⟩
    refine ifD (fun hh => ?_) (fun hh => ?_)
    · refine ⟨_, rfl, t, _, _, .ref D, rfl, rfl, .inr (SqT.of et), rfl, (by show 2 ≤ sizeLine; decide), fun T hT => qb T D _ (s01.trans (same_new hT _)) upd_same fun z zw wz => ?_⟩
      have m := fr.most zw ep.2.1 wz
      have k1 : (g.1 * P.1 + g.2.1 * P.2.1) * z.2.2 ≤ (g.2.2 * P.2.2) * z.2.2 := Int.mul_le_mul_of_nonneg_right (by omega) (Int.le_of_lt zw)
      have k2 : (g.1 * z.1 + g.2.1 * z.2.1) * P.2.2 ≤ (g.2.2 * z.2.2) * P.2.2 := by
        have e1 : g.2.2 * P.2.2 * z.2.2 = g.2.2 * z.2.2 * P.2.2 := by rw [Int.mul_assoc, Int.mul_comm P.2.2, ← Int.mul_assoc]
        rw [← e1]
        exact Int.le_trans m k1
      have k3 := Int.le_of_mul_le_mul_right k2 ep.2.1
      unfold sv
      omega
    · refine ⟨_, rfl, t, _, _, .ref p, rfl, rfl, .inr (SqT.of et), rfl, (by show 2 ≤ sizeLine; decide), fun T hT => qa T p _ (s01.trans (same_new hT _)) upd_same ⟨P, ep.2.1, wp, ?_⟩⟩
      unfold sv
      omega
def edgesOf (vs : List (Int × Int)) : List P3 := (List.range vs.length).map fun i => pt3 (lowL (sideOf (atP vs i) (atP vs ((i + 1) % vs.length))))
theorem edge_sd {u v : Int × Int} (n : u ≠ v) (m1 : u.1.natAbs ≤ 10 ^ 6) (m2 : u.2.natAbs ≤ 10 ^ 6) (m3 : v.1.natAbs ≤ 10 ^ 6) (m4 : v.2.natAbs ≤ 10 ^ 6) : ∃ x y z : Int, lowL (sideOf u v) = [x, y, z] ∧ (x ≠ 0 ∨ y ≠ 0) ∧ x.natAbs ≤ 10 ^ 9 ∧ y.natAbs ≤ 10 ^ 9 ∧ z.natAbs ≤ 10 ^ 13 := by
  have nD : v.2 - u.2 ≠ 0 ∨ -(v.1 - u.1) ≠ 0 := by
    by_cases h1 : v.2 = u.2
    · refine .inr fun z => n (Prod.ext (by omega) h1.symm)
    · exact .inl (by omega)
  have d1 : (v.2 - u.2).natAbs ≤ 2 * 10 ^ 6 := by clear m1 m3 n nD; omega
  have d2 : (v.1 - u.1).natAbs ≤ 2 * 10 ^ 6 := by clear m2 m4 n nD d1; omega
  have p1 := natAbs_mul_le u.1 (v.2 - u.2) m1 d1
  have p2 := natAbs_mul_le u.2 (v.1 - u.1) m2 d2
  have d3 : (-(v.1 - u.1)).natAbs ≤ 2 * 10 ^ 6 := by rw [Int.natAbs_neg]; exact d2
  have d4 : (u.1 * (v.2 - u.2) - u.2 * (v.1 - u.1)).natAbs ≤ 4 * 10 ^ 12 := by
    clear m1 m2 m3 m4 n nD d1 d2 d3
    generalize u.1 * (v.2 - u.2) = A at p1 ⊢
    generalize u.2 * (v.1 - u.1) = B at p2 ⊢
    omega
  clear p1 p2 m1 m2 m3 m4 n
  obtain ⟨gp, _, _⟩ := low3k (D2 := u.1 * (v.2 - u.2) - u.2 * (v.1 - u.1)) nD (Nat.le_trans d1 (by decide)) (Nat.le_trans d3 (by decide))
  have gI : (0 : Int) < (gcdL (sideOf u v) : Int) := by
    have : 0 < gcdL (sideOf u v) := gp
    omega
  have a0 := ediv_le_abs (v.2 - u.2) gI (gcdL_dvdI (ns := sideOf u v) (by simp [sideOf]))
  have a1 := ediv_le_abs (-(v.1 - u.1)) gI (gcdL_dvdI (ns := sideOf u v) (by simp [sideOf]))
  have a2 := ediv_le_abs (u.1 * (v.2 - u.2) - u.2 * (v.1 - u.1)) gI (gcdL_dvdI (ns := sideOf u v) (by simp [sideOf]))
  have c0 := lowL_mul (ns := sideOf u v) (n := v.2 - u.2) (by simp [sideOf])
  have c1 := lowL_mul (ns := sideOf u v) (n := -(v.1 - u.1)) (by simp [sideOf])
  refine ⟨(v.2 - u.2) / (gcdL (sideOf u v) : Int), -(v.1 - u.1) / (gcdL (sideOf u v) : Int), (u.1 * (v.2 - u.2) - u.2 * (v.1 - u.1)) / (gcdL (sideOf u v) : Int), rfl, ?_, Nat.le_trans a0 (Nat.le_trans d1 (by decide)), Nat.le_trans a1 (Nat.le_trans d3 (by decide)), Nat.le_trans a2 (Nat.le_trans d4 (by decide))⟩
  rcases nD with h | h
  · exact .inl fun z => h (by rw [← c0, z, Int.zero_mul])
  · exact .inr fun z => h (by rw [← c1, z, Int.zero_mul])
theorem SidesAt.sd {H : Hp} {ps : List Pr} {as : List Addr} (pk : PrOk H (10 ^ 6) ps) (ne : ∀ i < ps.length, atP (ps.map (·.2)) i ≠ atP (ps.map (·.2)) ((i + 1) % ps.length)) (h : SidesAt H as (ps.map (·.2)) ps.length) :
    ∃ es : List Sd, as.map V.ref = sdRefs es ∧ SdOk H es ∧ es.map (·.2) = edgesOf (ps.map (·.2)) := by
  have lp : (ps.map (·.2)).length = ps.length := List.length_map ..
  have atB : ∀ i < ps.length, (atP (ps.map (·.2)) i).1.natAbs ≤ 10 ^ 6 ∧ (atP (ps.map (·.2)) i).2.natAbs ≤ 10 ^ 6 := fun i hi => by
    rw [atP_of (List.getElem?_eq_getElem hi)]
    exact (pk _ (List.getElem_mem hi)).2
  refine ⟨(List.range ps.length).map fun i => (as.getD i 0, pt3 (lowL (sideOf (atP (ps.map (·.2)) i) (atP (ps.map (·.2)) ((i + 1) % (ps.map (·.2)).length))))), ?_, fun t ht => ?_, ?_⟩
  · unfold sdRefs
    refine List.ext_getElem? fun i => ?_
    rw [List.map_map, List.getElem?_map, List.getElem?_map, List.getElem?_map]
    by_cases hi : i < ps.length
    · rw [List.getElem?_range hi, List.getElem?_eq_getElem (show i < as.length by rw [h.1]; exact hi)]
      simp [List.getD, List.getElem?_eq_getElem (show i < as.length by rw [h.1]; exact hi)]
    · rw [List.getElem?_eq_none (by rw [h.1]; omega), List.getElem?_eq_none (by rw [List.length_range]; omega)]
      rfl
  · obtain ⟨i, hi, rfl⟩ := List.mem_map.mp ht
    have hi' := List.mem_range.mp hi
    have hj : (i + 1) % ps.length < ps.length := Nat.mod_lt _ (by omega)
    obtain ⟨p, e1, e2⟩ := h.2 i hi'
    rw [lp] at e2
    obtain ⟨x, y, z, exyz, nn, b1, b2, b3⟩ := edge_sd (ne i hi') (atB i hi').1 (atB i hi').2 (atB _ hj).1 (atB _ hj).2
    have ep : as.getD i 0 = p := by
      unfold List.getD
      rw [e1]
      rfl
    show H (as.getD i 0) = _ ∧ _
    rw [lp, ep, exyz]
    rw [exyz] at e2
    exact ⟨e2, nn, b1, b2, b3⟩
  · rw [List.map_map]
    unfold edgesOf
    rw [lp]
    rfl
def sp_p_bank_word (K : PySem.W.Frag) : Sp := fun vs H Q _ => ∃ (l c : Addr) (ss : List Sd) (ps : List Pr), vs = [.ref l, .ref c] ∧ H l = some (.lst (sdRefs ss)) ∧ SdOk H ss ∧ ss.length ≤ 300 ∧ H c = some (.lst (refsOf ps)) ∧ PrOk H (10 ^ 6) ps ∧ 3 ≤ ps.length ∧ ps.length ≤ 8 ∧ (∀ i < ps.length, atP (ps.map (·.2)) i ≠ atP (ps.map (·.2)) ((i + 1) % ps.length)) ∧
  ∀ (T : Addr) (wd : Str) (xs : List V) (H' : Hp), Same H H' → H' T = some (.tup (.str wd :: xs)) →
    ((wd = "none" ∧ ∀ z : P3, 0 < z.2.2 → ¬ inW ss z) ∨
     ((∃ z : P3, 0 < z.2.2 ∧ inW ss z) ∧
      ((wd = "cannot" ∧ ∀ z : P3, 0 < z.2.2 → inW ss z → ¬ ∀ e ∈ edgesOf (ps.map (·.2)), sv e z ≤ 0) ∨
       ((∃ z : P3, 0 < z.2.2 ∧ inW ss z ∧ ∀ e ∈ edgesOf (ps.map (·.2)), sv e z ≤ 0) ∧
        ((wd = "can" ∧ ∃ e ∈ edgesOf (ps.map (·.2)), ∃ z : P3, 0 < z.2.2 ∧ inW ss z ∧ 0 < sv e z) ∨ (wd = "must" ∧ ∀ e ∈ edgesOf (ps.map (·.2)), ∀ z : P3, 0 < z.2.2 → inW ss z → sv e z ≤ 0)))))) → Q (.ref T) H'
theorem ok_p_bank_word (F : Fun K "bank_word" "bank_word" s_p_bank_word f fd) (Z : Zs mg) (h_p_some_spot : Has P w K mg base "some_spot" 9 ["sides"] (sp_p_some_spot K)) (h_p_beyond_or_weights : Has P w K mg base "beyond_or_weights" 11 ["sides", "edge"] (sp_p_beyond_or_weights K)) (h_p_word_of_cannot : Has P w K mg base "word_of_cannot" 5 ["sides", "shown"] (sp_p_word_of_cannot K)) (h_p_clash : Has P w K mg base "clash" 9 ["sides"] (sp_p_clash K)) (h_p_bank_sides : Has P w K mg base "bank_sides" 5 ["corners"] (sp_p_bank_sides K)) : FnOk P w K mg base CX0 12 f fd ["sides", "corners"] (sp_p_bank_word K) := by
  refine F.ok sc_p_bank_word (fun vs H Q E h => ?_) (fun cdv A outer s H vs Q E hr h => ?_)
  · obtain ⟨l, c, ss, ps, rfl, _⟩ := h
    rfl
  obtain ⟨l, c, ss, ps, rfl, el, ok, hlen, ec, pk, p3, p8, ne, q⟩ := h
  refine ⟨_, (pss_cons (ps_set (i := 2) sc_p_bank_word.nd rfl (Or.inl rfl) (pe_callH h_p_clash (hr.mono (by decide)) rfl (pa_cons (pv 0) pa_nil)))
      (pss_cons (ps_if (pt_cmpR op_notN (pv 2) pe_non (nomark _)) (pss_one (ps_ret (pe_tup (pa_cons pe_str (pa_cons (pv 2) pa_nil))))) pss_nil)
      (pss_cons (ps_set (i := 3) sc_p_bank_word.nd rfl (Or.inl rfl) (pe_callH h_p_bank_sides (hr.mono (by decide)) rfl (pa_cons (pv 1) pa_nil)))
      (pss_cons (ps_set (i := 4) sc_p_bank_word.nd rfl (Or.inl rfl) (pe_callH h_p_clash (hr.mono (by decide)) rfl (pa_cons (pe_op op_cat (pv 0) (pv 3)) pa_nil)))
      (pss_cons (ps_if (pt_cmpR op_notN (pv 4) pe_non (nomark _)) (pss_one (ps_ret (pe_callH h_p_word_of_cannot (hr.mono (by decide)) rfl (pa_cons (pv 0) (pa_cons (pv 4) pa_nil))))) pss_nil)
      (pss_cons (ps_set (i := 5) sc_p_bank_word.nd rfl (Or.inl rfl) (pe_lst pa_nil))
      (pss_cons (ps_for PassesOwn.never rfl (pi_seq (pv 3)) (pg_name (i := 6) sc_p_bank_word.nd rfl (Or.inl rfl)) (pss_cons (ps_set (i := 7) sc_p_bank_word.nd rfl (Or.inl rfl) (pe_callH h_p_beyond_or_weights (hr.mono (by decide)) rfl (pa_cons (pv 0) (pa_cons (pv 6) pa_nil))))
      (pss_cons (ps_if (pt_cmpR op_notN (pe_ix ix_any (pv 7) pe_int (fun _ _ => rfl)) pe_non (nomark _)) (pss_one (ps_ret (pe_tup (pa_cons pe_str (pa_cons (pe_callH h_p_some_spot (hr.mono (by decide)) rfl (pa_cons (pe_op op_cat (pv 0) (pv 3)) pa_nil)) (pa_cons (pe_ix ix_any (pv 7) pe_int (fun _ _ => rfl)) pa_nil)))))) pss_nil)
      (pss_one (ps_expr (pe_bm PySem.F.plainAttrs_list PySem.F.slot_list_append PySem.F.type_list_append mt_append (pv 5) (pa_cons (pe_ix ix_any (pv 7) pe_int (fun _ _ => rfl)) pa_nil)))))))
      (pss_one (ps_ret (pe_tup (pa_cons pe_str (pa_cons (pv 5) pa_nil)))))))))))), ?_⟩
  refine ⟨_, rfl, l, ss, rfl, SqL.of el, ok, by omega, fun P0 H1 s1 pw wp cp => ?_, fun D cs H1 s1 hD eD okc cl => ?_⟩
  rotate_left
  · refine ⟨_, rfl, rfl, _, rfl, ?_⟩
    refine iteT ?_
    exact ⟨_, rfl, (by show 2 ≤ sizeLine; decide), fun T hT => q T "none" _ _ (s1.trans (same_new hT _)) upd_same (.inl ⟨rfl, fun z zw => cl.no z zw⟩)⟩
  refine ⟨_, rfl, rfl, _, rfl, ?_⟩
  refine iteF ?_
  have here : ∃ z : P3, 0 < z.2.2 ∧ inW ss z := ⟨P0, pw, wp⟩
  refine ⟨_, rfl, c, ps, rfl, s1 _ _ ec, pk.same s1, p3, p8, ne, fun E0 as H2 s2 hE eE sat => ?_⟩
  have s12 := s1.trans s2
  obtain ⟨es, ees, oke, mes⟩ := SidesAt.sd (pk.same s12) ne sat
  rw [ees] at eE
  have nes : es.length = ps.length := by
    have z := congrArg List.length mes
    unfold edgesOf at z
    rw [List.length_map, List.length_map, List.length_range, List.length_map] at z
    exact z
  have el2 := s12 _ _ el
  have ok2 := ok.same s12
  refine ⟨_, rfl, _, rfl, l, E0, _, _, rfl, rfl, el2, eE, ?_, fun A hA => ?_⟩
  · rw [sdRefs_length, sdRefs_length]
    exact Nat.le_trans (show ss.length + es.length ≤ 1000 by omega) (by decide)
  have sA : Same H2 (upd H2 A (.lst (sdRefs ss ++ sdRefs es))) := same_new hA _
  have eA : upd H2 A (.lst (sdRefs ss ++ sdRefs es)) A = some (.lst (sdRefs (ss ++ es))) := by rw [upd_same]; simp [sdRefs]
  generalize upd H2 A (.lst (sdRefs ss ++ sdRefs es)) = H3 at sA eA ⊢
  have okA : SdOk H3 (ss ++ es) := fun t ht => (List.mem_append.mp ht).elim (fun h => (ok2.same sA) t h) fun h => (oke.same sA) t h
  have both : ∀ z : P3, inW (ss ++ es) z ↔ inW ss z ∧ ∀ e ∈ edgesOf (ps.map (·.2)), sv e z ≤ 0 := fun z => by
    rw [← mes]
    constructor
    · exact fun h => ⟨fun t ht => h t (List.mem_append_left _ ht), fun e he => by
        obtain ⟨t, mt, rfl⟩ := List.mem_map.mp he
        exact h t (List.mem_append_right _ mt)⟩
    · exact fun h t ht => (List.mem_append.mp ht).elim (h.1 t) fun mt => h.2 t.2 (List.mem_map_of_mem mt)
  have s13 := s12.trans sA
  refine ⟨A, ss ++ es, rfl, SqL.of eA, okA, by rw [List.length_append]; omega, fun P1 H4 s4 pw1 wp1 cp1 => ?_, fun D cs H4 s4 hD eD okc cl => ?_⟩
  rotate_left
  · refine ⟨_, rfl, rfl, _, rfl, ?_⟩
    refine iteT ?_
    have s14 := s13.trans s4
    refine ⟨_, rfl, _, rfl, l, D, ss, cs, rfl, SqL.of (s14 _ _ el), ok.same s14, eD, okc, ?_, ?_, fun T d L ws H5 s5 eT _ _ _ _ => ?_⟩
    · have z := cl.range.1
      rw [List.length_map] at z
      omega
    · exact fun c hc => (cl.range.2 c.2 (List.mem_map_of_mem hc)).1
    · exact q T "cannot" _ _ (s14.trans s5) eT (.inr ⟨here, .inl ⟨rfl, fun z zw wz h => cl.no z zw ((both z).mpr ⟨wz, h⟩)⟩⟩)
  refine ⟨_, rfl, rfl, _, rfl, ?_⟩
  refine iteF ?_
  have inn : ∃ z : P3, 0 < z.2.2 ∧ inW ss z ∧ ∀ e ∈ edgesOf (ps.map (·.2)), sv e z ≤ 0 := ⟨P1, pw1, ((both P1).mp wp1).1, ((both P1).mp wp1).2⟩
  have s14 := s13.trans s4
  have s34 := sA.trans s4
  have eE4 := s34 _ _ eE
  have el4 := s14 _ _ el
  have ok4 := ok.same s14
  have oke4 := oke.same s34
  refine ⟨(by show 0 ≤ sizeLine; decide), fun W hW => ?_⟩
  have sW : Same H4 (upd H4 W (.lst [])) := same_new hW _
  have eW : upd H4 W (.lst []) W = some (.lst []) := upd_same
  generalize upd H4 W (.lst []) = H5 at sW eW ⊢
  refine ⟨_, rfl, E0, rfl, .inl ⟨⟨_, SqL.of (sW _ _ eE4)⟩, for_list (K := K) (a := E0) (xs := sdRefs es) (fun i σ G => Same H4 G ∧ (∃ ys : List V, G W = some (.lst ys) ∧ ys.length ≤ i) ∧ (∀ j t, j < i → es[j]? = some t → ∀ z : P3, 0 < z.2.2 → inW ss z → sv t.2 z ≤ 0) ∧ ∃ u6 u7 : Option V, σ = [some (.ref l), some (.ref c), some .non, some (.ref E0), some .non, some (.ref W), u6, u7])
    ⟨sW, ⟨[], eW, Nat.le_refl _⟩, fun j t hj => absurd hj (Nat.not_lt_zero _), none, none, rfl⟩ (fun i σ G _ ⟨e, _⟩ => e.seq (SqL.of eE4)) ?_ ?_⟩⟩
  · rintro i v σ G hi ⟨sG, ⟨ys, eY, ny⟩, before, u6, u7, rfl⟩
    obtain ⟨t, gt, rfl, hil⟩ := sdRefs_get hi
    have mt := List.mem_of_getElem? gt
    have eG := oke4.same sG
    obtain ⟨et, nt, b1, b2, b3⟩ := eG t mt
    refine ⟨_, rfl, _, rfl, l, t.1, ss, t.2, rfl, SqL.of (sG _ _ el4), ok4.same sG, by omega, .inr (SqT.of et), nt, b1, b2, b3, here, fun T p G2 s2 eT bey => ?_, fun T D G2 s2 eT no => ?_⟩
    · have sG2 := sG.trans s2
      refine ⟨_, rfl, T, _, _, .ref p, rfl, rfl, .inr (SqT.of eT), rfl, rfl, _, rfl, ?_⟩
      refine iteT ?_
      refine ⟨_, rfl, _, rfl, l, E0, _, _, rfl, rfl, sG2 _ _ el4, sG2 _ _ eE4, ?_, fun A2 hA2 => ?_⟩
      · rw [sdRefs_length, sdRefs_length]
        exact Nat.le_trans (show ss.length + es.length ≤ 1000 by omega) (by decide)
      have sA2 : Same G2 (upd G2 A2 (.lst (sdRefs ss ++ sdRefs es))) := same_new hA2 _
      have eA2 : upd G2 A2 (.lst (sdRefs ss ++ sdRefs es)) A2 = some (.lst (sdRefs (ss ++ es))) := by rw [upd_same]; simp [sdRefs]
      generalize upd G2 A2 (.lst (sdRefs ss ++ sdRefs es)) = G3 at sA2 eA2 ⊢
      have sG3 := sG2.trans sA2
      refine ⟨A2, ss ++ es, rfl, SqL.of eA2, okA.same (s4.trans sG3), by rw [List.length_append]; omega, fun G4 s5 no => absurd wp1 (no P1 pw1), fun p2 P2 G4 s5 ep2 wp2 _ => ?_⟩
      refine ⟨_, rfl, T, _, _, .ref p, rfl, rfl, .inr (SqT.of ((sA2.trans s5) _ _ eT)), rfl, (by show 3 ≤ sizeLine; decide), fun T2 hT2 => ?_⟩
      refine q T2 "can" _ _ (s14.trans (sG3.trans (s5.trans (same_new hT2 _)))) upd_same (.inr ⟨here, .inr ⟨inn, .inl ⟨rfl, t.2, ?_, bey⟩⟩⟩)
      rw [← mes]
      exact List.mem_map_of_mem mt
    · have sG2 := sG.trans s2
      refine ⟨_, rfl, T, _, _, .non, rfl, rfl, .inr (SqT.of eT), rfl, rfl, _, rfl, ?_⟩
      refine iteF ?_
      have eY2 := s2 _ _ eY
      refine ⟨_, rfl, .inl ⟨rfl, _, SqL.of eY2⟩, _, rfl, T, _, _, .ref D, rfl, rfl, .inr (SqT.of eT), rfl, W, _, _, rfl, rfl, eY2, small1000 (by omega), ?_⟩
      refine ⟨sG2.putNew hW, ⟨_, upd_same, by rw [List.length_append]; exact Nat.succ_le_succ ny⟩, fun j t' hj gj => ?_, _, _, rfl⟩
      by_cases e : j = i
      · rw [e, gt] at gj
        cases gj
        exact no
      · exact before j t' (by omega) gj
  · rintro σ G ⟨sG, ⟨ys, eY, ny⟩, before, u6, u7, rfl⟩
    rw [sdRefs_length] at before
    refine ⟨_, rfl, (by show 2 ≤ sizeLine; decide), fun T2 hT2 => ?_⟩
    refine q T2 "must" _ _ (s14.trans (sG.trans (same_new hT2 _))) upd_same (.inr ⟨here, .inr ⟨inn, .inr ⟨rfl, fun e he => ?_⟩⟩⟩)
    rw [← mes] at he
    obtain ⟨t, mt, rfl⟩ := List.mem_map.mp he
    obtain ⟨j, hj, ej⟩ := List.getElem_of_mem mt
    exact before j t hj (by rw [List.getElem?_eq_getElem hj, ej])
def sp_L_low (_ : PySem.W.Frag) : Sp := fun vs H Q _ => ∃ (x y : Int), vs = [.int x, .int y] ∧ Q (.int (Nat.gcd x.natAbs y.natAbs)) H
theorem ok_L_low (F : Fun K "_law_low" "_law_low" s_L_low f fd) (Z : Zs mg) : FnOk P w K mg base CX0 1 f fd ["_law_one", "_law_other"] (sp_L_low K) := by
  refine F.ok sc_L_low (fun vs H Q E h => ?_) (fun cdv A outer s H vs Q E hr h => ?_)
  · obtain ⟨x, y, rfl, _⟩ := h
    rfl
  obtain ⟨x, y, rfl, q⟩ := h
  refine ⟨_, (pss_cons (ps_set (i := 0) sc_L_low.nd rfl (Or.inl rfl) (pe_callB call_abs rfl Z.abs bt_abs (pa_cons (pv 0) pa_nil)))
      (pss_cons (ps_set (i := 1) sc_L_low.nd rfl (Or.inl rfl) (pe_callB call_abs rfl Z.abs bt_abs (pa_cons (pv 1) pa_nil)))
      (pss_cons (ps_while PassesOwn.never (pt_cmpR op_gt (pv 1) pe_int (nomark _)) (pss_one (ps_par (i := 0) (j := 1) rfl sc_L_low.nd rfl rfl (by decide) rfl rfl (pa_cons (pv 1) (pa_cons (pe_op op_mod (pv 0) (pv 1)) pa_nil)) rfl)))
      (pss_one (ps_ret (pv 0)))))), ?_⟩
  refine ⟨_, rfl, _, rfl, _, rfl, _, rfl, ?_⟩
  refine while_by (fun σ H1 => H1 = H ∧ ∃ (a b : Int), σ = [some (.int a), some (.int b)] ∧ 0 ≤ a ∧ 0 ≤ b ∧ Nat.gcd a.toNat b.toNat = Nat.gcd x.natAbs y.natAbs)
    (fun σ _ => match σ with | [_, some (.int b)] => b.toNat | _ => 0) ⟨rfl, _, _, rfl, by split <;> omega, by split <;> omega, by rw [abs_if, abs_if]; rfl⟩ ?_ (fun σ H Q Q' hq z => by
      obtain ⟨v, hv, i, j, e1, e2, k, hk, z⟩ := z
      exact ⟨v, hv, i, j, e1, e2, k, hk, hq _ _ z⟩)
  rintro σ H1 ⟨rfl, a, b, rfl, h1, h2, h3⟩
  refine ⟨_, rfl, _, _, rfl, rfl, _, rfl, ?_⟩
  refine ifD (fun hb => ?_) (fun hb => ?_)
  · refine ⟨_, rfl, _, rfl, _, rfl, _, _, rfl, rfl, hb, _, _, rfl, ⟨rfl, _, _, rfl, h2, Int.emod_nonneg a (by omega), ?_⟩, ?_⟩
    · rw [gcd_step h1 hb]; exact h3
    · have h4 := Int.emod_lt_of_pos a hb
      show (a % b).toNat < b.toNat
      omega
  · refine ⟨_, rfl, ?_⟩
    have hb0 : b = 0 := by omega
    subst hb0
    have h5 : a = ((Nat.gcd x.natAbs y.natAbs : Nat) : Int) := by
      rw [← h3]
      show a = ((Nat.gcd a.toNat 0 : Nat) : Int)
      rw [Nat.gcd_zero_right]
      omega
    rw [h5]
    exact q
def sp_L_spot_of (_ : PySem.W.Frag) : Sp := fun vs H Q _ => ∃ (x y z : Int), vs = [.int x, .int y, .int z] ∧ z ≠ 0 ∧ z.natAbs ≤ 10 ^ 40 ∧ ∀ (p : Addr) (H' : Hp), Same H H' → H p = none → H' p = some (.tup ((lowL (upL x y z)).map V.int)) → Q (.ref p) H'
theorem ok_L_spot_of (F : Fun K "_law_spot_of" "_law_spot_of" s_L_spot_of f fd) (Z : Zs mg) (h_L_low : Has P w K mg base "_law_low" 1 ["_law_one", "_law_other"] (sp_L_low K)) : FnOk P w K mg base CX0 2 f fd ["_law_x", "_law_y", "_law_w"] (sp_L_spot_of K) := by
  refine F.ok sc_L_spot_of (fun vs H Q E h => ?_) (fun cdv A outer s H vs Q E hr h => ?_)
  · obtain ⟨x, y, z, rfl, _⟩ := h
    rfl
  obtain ⟨x, y, z, rfl, hz, hz2, q⟩ := h
  refine ⟨_, (pss_cons (ps_if (pt_cmpR op_lt (pv 2) pe_int (nomark _)) (pss_one (ps_par3 (i := 0) (j := 1) (k := 2) rfl sc_L_spot_of.nd rfl rfl rfl (by decide) (by decide) (by decide) rfl rfl rfl (pa_cons (pe_un un_neg (pv 0)) (pa_cons (pe_un un_neg (pv 1)) (pa_cons (pe_un un_neg (pv 2)) pa_nil))) rfl)) pss_nil)
      (pss_cons (ps_set (i := 3) sc_L_spot_of.nd rfl (Or.inl rfl) (pe_callH h_L_low (hr.mono (by decide)) rfl (pa_cons (pe_callH h_L_low (hr.mono (by decide)) rfl (pa_cons (pv 0) (pa_cons (pv 1) pa_nil))) (pa_cons (pv 2) pa_nil))))
      (pss_one (ps_ret (pe_tup (pa_cons (pe_op op_fdivP (pv 0) (pv 3)) (pa_cons (pe_op op_fdivP (pv 1) (pv 3)) (pa_cons (pe_op op_fdivP (pv 2) (pv 3)) pa_nil)))))))), ?_⟩
  refine ⟨_, rfl, _, _, rfl, rfl, _, rfl, ?_⟩
  refine ifD (fun hneg => ?_) (fun hpos => ?_)
  · refine ⟨_, rfl, _, rfl, _, rfl, _, rfl, _, rfl, _, rfl, _, _, _, rfl, ?_⟩
    have u : upL x y z = [-x, -y, -z] := by unfold upL; rw [if_pos hneg]
    have eg : (Nat.gcd ((Nat.gcd (-x).natAbs (-y).natAbs : Nat) : Int).natAbs (-z).natAbs : Nat) = gcdL [-x, -y, -z] := gcd3 _ _ _
    refine ⟨_, rfl, _, rfl, -x, -y, rfl, _, rfl, _, -z, rfl, ?_⟩
    rw [eg]
    have gp : 0 < gcdL [-x, -y, -z] := gcdL_pos (n := -z) (by simp) (by omega)
    have gle := gcdL_le (ns := [-x, -y, -z]) (n := -z) (by simp) (by omega)
    have dv : ∀ i : Int, CDivP i (gcdL [-x, -y, -z] : Int) := fun i => CDivP.of (by omega) (Int.lt_of_le_of_lt (show (gcdL [-x, -y, -z] : Int) ≤ 10 ^ 40 by omega) (by decide +kernel))
    refine ⟨_, rfl, _, rfl, _, _, rfl, rfl, dv _, _, rfl, _, rfl, _, _, rfl, rfl, dv _, _, rfl, _, rfl, _, _, rfl, rfl, dv _, (by show 3 ≤ sizeLine; decide), fun p hp => ?_⟩
    refine q p _ (same_new hp _) hp ?_
    rw [u]
    exact upd_same
  · have u : upL x y z = [x, y, z] := by unfold upL; rw [if_neg hpos]
    have eg : (Nat.gcd ((Nat.gcd (x).natAbs (y).natAbs : Nat) : Int).natAbs (z).natAbs : Nat) = gcdL [x, y, z] := gcd3 _ _ _
    refine ⟨_, rfl, _, rfl, x, y, rfl, _, rfl, _, z, rfl, ?_⟩
    rw [eg]
    have gp : 0 < gcdL [x, y, z] := gcdL_pos (n := z) (by simp) (by omega)
    have gle := gcdL_le (ns := [x, y, z]) (n := z) (by simp) (by omega)
    have dv : ∀ i : Int, CDivP i (gcdL [x, y, z] : Int) := fun i => CDivP.of (by omega) (Int.lt_of_le_of_lt (show (gcdL [x, y, z] : Int) ≤ 10 ^ 40 by omega) (by decide +kernel))
    refine ⟨_, rfl, _, rfl, _, _, rfl, rfl, dv _, _, rfl, _, rfl, _, _, rfl, rfl, dv _, _, rfl, _, rfl, _, _, rfl, rfl, dv _, (by show 3 ≤ sizeLine; decide), fun p hp => ?_⟩
    refine q p _ (same_new hp _) hp ?_
    rw [u]
    exact upd_same
def sp_L_meet (K : PySem.W.Frag) : Sp := fun vs H Q _ => ∃ (a b : Addr) (e s : P3), vs = [.ref a, .ref b] ∧ Sq K H a [.int e.1, .int e.2.1, .int e.2.2] ∧ Sq K H b [.int s.1, .int s.2.1, .int s.2.2] ∧ e.1.natAbs ≤ 10 ^ 9 ∧ e.2.1.natAbs ≤ 10 ^ 9 ∧ e.2.2.natAbs ≤ 10 ^ 13 ∧ s.1.natAbs ≤ 10 ^ 9 ∧ s.2.1.natAbs ≤ 10 ^ 9 ∧ s.2.2.natAbs ≤ 10 ^ 13 ∧
  (tn e s = 0 → Q .non H) ∧ (tn e s ≠ 0 → ∀ (p : Addr) (H' : Hp), Same H H' → H p = none → H' p = some (.tup ((crL e s).map V.int)) → Q (.ref p) H')
theorem ok_L_meet (F : Fun K "_law_meet" "_law_meet" s_L_meet f fd) (Z : Zs mg) (h_L_spot_of : Has P w K mg base "_law_spot_of" 2 ["_law_x", "_law_y", "_law_w"] (sp_L_spot_of K)) : FnOk P w K mg base CX0 3 f fd ["_law_one", "_law_other"] (sp_L_meet K) := by
  refine F.ok sc_L_meet (fun vs H Q E h => ?_) (fun cdv A outer s H vs Q E hr h => ?_)
  · obtain ⟨a, b, e, s, rfl, _⟩ := h
    rfl
  obtain ⟨a, b, e, t, rfl, ha, hb, b1, b2, b3, c1, c2, c3, q0, q⟩ := h
  refine ⟨_, (pss_cons (ps_set (i := 2) sc_L_meet.nd rfl (Or.inl rfl) (pe_op op_sub (pe_op op_mul (pe_ix ix_any (pv 0) pe_int (fun _ _ => rfl)) (pe_ix ix_any (pv 1) pe_int (fun _ _ => rfl))) (pe_op op_mul (pe_ix ix_any (pv 0) pe_int (fun _ _ => rfl)) (pe_ix ix_any (pv 1) pe_int (fun _ _ => rfl)))))
      (pss_cons (ps_if (pt_cmpR op_eq (pv 2) pe_int (nomark _)) (pss_one (ps_ret pe_non)) pss_nil)
      (pss_one (ps_ret (pe_callH h_L_spot_of (hr.mono (by decide)) rfl (pa_cons (pe_op op_sub (pe_op op_mul (pe_ix ix_any (pv 0) pe_int (fun _ _ => rfl)) (pe_ix ix_any (pv 1) pe_int (fun _ _ => rfl))) (pe_op op_mul (pe_ix ix_any (pv 1) pe_int (fun _ _ => rfl)) (pe_ix ix_any (pv 0) pe_int (fun _ _ => rfl)))) (pa_cons (pe_op op_sub (pe_op op_mul (pe_ix ix_any (pv 0) pe_int (fun _ _ => rfl)) (pe_ix ix_any (pv 1) pe_int (fun _ _ => rfl))) (pe_op op_mul (pe_ix ix_any (pv 1) pe_int (fun _ _ => rfl)) (pe_ix ix_any (pv 0) pe_int (fun _ _ => rfl)))) (pa_cons (pv 2) pa_nil)))))))), ?_⟩
  have z1 := natAbs_mul_le e.1 t.2.1 b1 c2
  have z2 := natAbs_mul_le e.2.1 t.1 b2 c1
  refine ⟨_, rfl, a, _, _, .int e.1, rfl, rfl, ha, rfl, _, rfl, b, _, _, .int t.2.1, rfl, rfl, hb, rfl, _, _, rfl, rfl, cm_l (Nat.le_trans b1 (by decide)), _, rfl, a, _, _, .int e.2.1, rfl, rfl, ha, rfl, _, rfl, b, _, _, .int t.1, rfl, rfl, hb, rfl, _, _, rfl, rfl, cm_l (Nat.le_trans b2 (by decide)), _, _, rfl, rfl, ?_⟩
  refine ⟨_, rfl, rfl, _, rfl, ?_⟩
  refine ifE (fun hw => q0 hw) (fun hw => ?_)
  refine ⟨_, rfl, a, _, _, .int e.2.2, rfl, rfl, ha, rfl, _, rfl, b, _, _, .int t.2.1, rfl, rfl, hb, rfl, _, _, rfl, rfl, cm_l (Nat.le_trans b3 (by decide)), _, rfl, b, _, _, .int t.2.2, rfl, rfl, hb, rfl, _, rfl, a, _, _, .int e.2.1, rfl, rfl, ha, rfl, _, _, rfl, rfl, cm_l (Nat.le_trans c3 (by decide)), _, _, rfl, rfl,
    _, rfl, a, _, _, .int e.1, rfl, rfl, ha, rfl, _, rfl, b, _, _, .int t.2.2, rfl, rfl, hb, rfl, _, _, rfl, rfl, cm_l (Nat.le_trans b1 (by decide)), _, rfl, b, _, _, .int t.1, rfl, rfl, hb, rfl, _, rfl, a, _, _, .int e.2.2, rfl, rfl, ha, rfl, _, _, rfl, rfl, cm_l (Nat.le_trans c1 (by decide)), _, _, rfl, rfl, _, rfl,
    e.2.2 * t.2.1 - t.2.2 * e.2.1, e.1 * t.2.2 - t.1 * e.2.2, e.1 * t.2.1 - e.2.1 * t.1, rfl, hw, (show (e.1 * t.2.1 - e.2.1 * t.1).natAbs ≤ 10 ^ 40 by omega), fun p H' s' hp ep => q hw p H' s' hp ?_⟩
  rw [ep]
  unfold crL
  rw [Int.mul_comm t.2.2 e.2.1, Int.mul_comm t.1 e.2.2]
def hasB (ss : List (Addr × Int × Int × Int)) (x y w : Int) : List Bool := ss.map fun t => decide (t.2.1 * x + t.2.2.1 * y ≤ t.2.2.2 * w)
def sp_L_has (K : PySem.W.Frag) : Sp := fun vs H Q _ => ∃ (a p : Addr) (ss : List (Addr × Int × Int × Int)) (x y w : Int), vs = [.ref a, .ref p] ∧ H a = some (.lst (ss.map fun t => V.ref t.1)) ∧ ss.length ≤ 1000 ∧
  (∀ t ∈ ss, H t.1 = some (.tup [.int t.2.1, .int t.2.2.1, .int t.2.2.2]) ∧ t.2.1.natAbs ≤ 10 ^ 18 ∧ t.2.2.1.natAbs ≤ 10 ^ 18 ∧ t.2.2.2.natAbs ≤ 10 ^ 18) ∧ H p = some (.tup [.int x, .int y, .int w]) ∧
  ∀ H', Same H H' → Q (.bl ((hasB ss x y w).all id)) H'
theorem ok_L_has (F : Fun K "_law_has" "_law_has" s_L_has f fd) (Z : Zs mg)  : FnOk P w K mg base CX0 1 f fd ["_law_sides_here", "_law_place"] (sp_L_has K) := by
  refine F.ok sc_L_has (fun vs H Q E h => ?_) (fun cdv A outer s H vs Q E hr h => ?_)
  · obtain ⟨a, p, ss, x, y, w, rfl, _⟩ := h
    rfl
  obtain ⟨a, p, ss, x, y, wt, rfl, ha, hl, hs, hp, q⟩ := h
  refine ⟨_, (pss_cons (ps_asg (pv 1) (pg_tup rfl (pgs_cons (pg_name (i := 2) sc_L_has.nd rfl (Or.inr rfl)) (pgs_cons (pg_name (i := 3) sc_L_has.nd rfl (Or.inr rfl)) (pgs_cons (pg_name (i := 4) sc_L_has.nd rfl (Or.inr rfl)) pgs_nil)))))
      (pss_one (ps_ret (pe_callB (call_allB rfl) rfl Z.all bt_all (pa_cons (pe_comp (T := ["_law_a", "_law_b", "_law_c"]) (caps := [("_law_w", 4), ("_law_x", 2), ("_law_y", 3)]) ⟨rfl, by decide +kernel, by decide +kernel, rfl, ⟨⟨rfl, rfl, Or.inl rfl⟩, ⟨rfl, rfl, Or.inl rfl⟩, ⟨rfl, rfl, Or.inl rfl⟩, True.intro⟩⟩ rfl (pi_seq (pv 0)) (fun _ => (pg_tup rfl (pgs_cons (pg_name (i := 0) (show (["_law_a", "_law_b", "_law_c", "_law_w", "_law_x", "_law_y"] : List Str).Nodup by decide +kernel) rfl (Or.inl rfl)) (pgs_cons (pg_name (i := 1) (show (["_law_a", "_law_b", "_law_c", "_law_w", "_law_x", "_law_y"] : List Str).Nodup by decide +kernel) rfl (Or.inl rfl)) (pgs_cons (pg_name (i := 2) (show (["_law_a", "_law_b", "_law_c", "_law_w", "_law_x", "_law_y"] : List Str).Nodup by decide +kernel) rfl (Or.inl rfl)) pgs_nil))))) (fun _ => pifs_nil) (fun _ => (pe_cmpR op_le (pe_op op_add (pe_op op_mul (pv 0) (pv 4)) (pe_op op_mul (pv 1) (pv 5))) (pe_op op_mul (pv 2) (pv 3)) (nomark _)))) pa_nil))))), ?_⟩
  refine ⟨_, rfl, p, _, rfl, SqT.of hp, rfl, .int x, _, rfl, .int y, _, rfl, .int wt, _, rfl, rfl, ?_⟩
  refine ⟨_, rfl, a, rfl, .inl ⟨⟨_, SqL.of ha⟩, fun c D hD => comp_list0 (K := K) (a := a) (xs := ss.map fun t => V.ref t.1) (fun i σ ys H' => H' = upd H D (.lst ys) ∧ ys = (hasB (ss.take i) x y wt).map V.bl ∧ ∃ u v z, σ = [u, v, z, some (.int wt), some (.int x), some (.int y)])
    ⟨rfl, rfl, none, none, none, rfl⟩ (fun i σ ys H' _ ⟨e, _⟩ => by rw [e]; exact ⟨(same_new hD _).seq (SqL.of ha), upd_same⟩) ?_ ?_⟩⟩
  · rintro i r σ ys H' hi ⟨rfl, rfl, u, v, z, rfl⟩
    rw [List.getElem?_map] at hi
    cases ht : ss[i]? with
    | none => rw [ht] at hi; cases hi
    | some t =>
      rw [ht] at hi
      cases hi
      obtain ⟨h1, m1, m2, m3⟩ := hs t (List.mem_of_getElem? ht)
      have hil : i < ss.length := (List.getElem?_eq_some_iff.mp ht).1
      refine ⟨t.1, _, rfl, SqT.of (same_new hD _ _ _ h1), rfl, _, _, rfl, _, _, rfl, _, _, rfl, rfl, ?_⟩
      refine ⟨_, rfl, _, rfl, _, _, rfl, rfl, cm_l (by omega), _, rfl, _, rfl, _, _, rfl, rfl, cm_l (by omega), _, _, rfl, rfl, _, rfl, _, rfl, _, _, rfl, rfl, cm_l (by omega), _, _, rfl, rfl, upd_same, ?_, upd_upd, ?_, _, _, _, rfl⟩
      · refine small1000 ?_
        unfold hasB
        rw [List.length_map, List.length_map, List.length_take]
        omega
      · unfold hasB
        rw [take_snoc ht, List.map_append, List.map_append]
        rfl
  · rintro σ ys H' ⟨rfl, rfl, u, v, z, rfl⟩
    rw [List.length_map, List.take_length]
    exact ⟨D, hasB ss x y wt, rfl, SqL.of upd_same, q _ (same_new hD _)⟩
theorem has_inW {ss : List Sd} {P : P3} : (hasB ss P.1 P.2.1 P.2.2).all id = inWB ss P := by
  unfold hasB inWB
  rw [List.all_map]
  congr 1
  funext t
  show decide (t.2.1 * P.1 + t.2.2.1 * P.2.1 ≤ t.2.2.2 * P.2.2) = decide (sv t.2 P ≤ 0)
  refine decide_eq_decide.mpr ?_
  unfold sv
  omega
theorem hasArg {H : Hp} {ss : List Sd} (ok : SdOk H ss) : ∀ t ∈ ss, H t.1 = some (.tup [.int t.2.1, .int t.2.2.1, .int t.2.2.2]) ∧ t.2.1.natAbs ≤ 10 ^ 18 ∧ t.2.2.1.natAbs ≤ 10 ^ 18 ∧ t.2.2.2.natAbs ≤ 10 ^ 18 := fun t ht => by
  obtain ⟨h1, _, h2, h3, h4⟩ := ok t ht
  exact ⟨h1, by omega, by omega, by omega⟩
structure CrK (ss : List Sd) (i j : Nat) (ks : List (List Int)) : Prop where
  each : ∀ k ∈ ks, ∃ t ∈ ss, ∃ u ∈ ss, tn t.2 u.2 ≠ 0 ∧ k = crL t.2 u.2 ∧ inW ss (pt3 (crL t.2 u.2))
  all : ∀ (a b : Nat) (t u : Sd), a < b → (a < i ∨ (a = i ∧ b < i + 1 + j)) → ss[a]? = some t → ss[b]? = some u → tn t.2 u.2 ≠ 0 → inW ss (pt3 (crL t.2 u.2)) → crL t.2 u.2 ∈ ks
def sp_L_corners_of (K : PySem.W.Frag) : Sp := fun vs H Q _ => ∃ (l : Addr) (ss : List Sd), vs = [.ref l] ∧ H l = some (.lst (sdRefs ss)) ∧ SdOk H ss ∧ ss.length ≤ 900 ∧
  ∀ (D : Addr) (qs : List (Addr × P3)) (H' : Hp), Same H H' → H D = none → H' D = some (.lst (spRefs qs)) → SpsOk H' qs → qs.length ≤ 1000000 → (∀ t ∈ ss, ∀ u ∈ ss, tn t.2 u.2 ≠ 0 → inW ss (pt3 (crL t.2 u.2)) → pt3 (crL t.2 u.2) ∈ qs.map (·.2)) → (qs.map (·.2)).Nodup → (∀ P ∈ qs.map (·.2), Cor ss P) → Q (.ref D) H'
theorem ok_L_corners_of (F : Fun K "_law_corners_of" "_law_corners_of" s_L_corners_of f fd) (Z : Zs mg) (h_L_has : Has P w K mg base "_law_has" 1 ["_law_sides_here", "_law_place"] (sp_L_has K)) (h_L_meet : Has P w K mg base "_law_meet" 3 ["_law_one", "_law_other"] (sp_L_meet K)) : FnOk P w K mg base CX0 4 f fd ["_law_sides_here"] (sp_L_corners_of K) := by
  refine F.ok sc_L_corners_of (fun vs H Q E h => ?_) (fun cdv A outer s H vs Q E hr h => ?_)
  · obtain ⟨l, ss, rfl, _⟩ := h
    rfl
  obtain ⟨l, ss, rfl, el, ok, hlen, q⟩ := h
  have hu1 := Nat.lt_of_le_of_lt (Nat.add_le_add_left (show 1 ≤ 64 by decide) _) hr.units
  have big : ∀ n : Nat, n ≤ 1000000 → n < sizeLine := fun n hn => Nat.lt_of_le_of_lt hn (by decide)
  refine ⟨_, (pss_cons (ps_set (i := 1) sc_L_corners_of.nd rfl (Or.inl rfl) pe_dnewT)
      (pss_cons (ps_for PassesOwn.never rfl (pi_enum rfl Z.enumerate (pa_cons (pv 0) pa_nil)) (pg_tup rfl (pgs_cons (pg_name (i := 2) sc_L_corners_of.nd rfl (Or.inl rfl)) (pgs_cons (pg_name (i := 3) sc_L_corners_of.nd rfl (Or.inl rfl)) pgs_nil))) (pss_one (ps_for PassesOwn.never rfl (pi_list (pe_slice sl_list (pv 0) (po_some (pe_op op_add (pv 2) pe_int)) po_none)) (pg_name (i := 4) sc_L_corners_of.nd rfl (Or.inl rfl)) (pss_cons (ps_set (i := 5) sc_L_corners_of.nd rfl (Or.inl rfl) (pe_callH h_L_meet (hr.mono (by decide)) rfl (pa_cons (pv 3) (pa_cons (pv 4) pa_nil))))
      (pss_one (ps_if (PW.pt (pw_and (pt_cmpR op_notN (pv 5) pe_non (nomark _)) (pw_and1 (pt_val (pe_callH h_L_has (hr.mono (by decide)) rfl (pa_cons (pv 0) (pa_cons (pv 5) pa_nil))))))) (pss_one (ps_dput hu1 (pv 1) (pv 5) pe_bl rfl)) pss_nil))))))
      (pss_one (ps_ret (pe_callTy (call_list_dT rfl) rfl Z.list bt_list (pa_cons (pv 1) pa_nil)))))), ?_⟩
  refine fun d hd => ?_
  refine ⟨_, rfl, l, _, rfl, same_new hd _ _ _ el, for_enum (K := K) (l := l) (xs := sdRefs ss) (fun i σ H' => Same H H' ∧ (∃ kvs ks, H' d = some (.dT kvs) ∧ TabK kvs ks ∧ ks.length ≤ 1000 * i ∧ CrK ss i 0 ks) ∧ ∃ u2 u3 u4 u5 : Option V, σ = [some (.ref l), some (.ref d), u2, u3, u4, u5])
    ⟨same_new hd _, ⟨[], [], upd_same, .nil, Nat.le_refl _, (fun k hk => nomatch hk), fun a b t u hab hc => absurd hc (by omega)⟩, none, none, none, none, rfl⟩ (fun i σ H' ⟨e, _⟩ => SqL.of (e _ _ el)) ?_ ?_⟩
  · rintro i v T σ H' hi hT ⟨sH, ⟨kvs, ks, eD, tk, hks, cr⟩, u2, u3, u4, u5, rfl⟩
    obtain ⟨t, gt, rfl, hil⟩ := sdRefs_get hi
    obtain ⟨et0, nt, b1, b2, b3⟩ := ok t (List.mem_of_getElem? gt)
    have sT : Same H' (upd H' T (.tup [.int i, .ref t.1])) := same_new hT _
    have eT : upd H' T (.tup [.int i, .ref t.1]) T = some (.tup [.int i, .ref t.1]) := upd_same
    generalize upd H' T (.tup [.int i, .ref t.1]) = H2 at sT eT ⊢
    refine ⟨T, _, rfl, SqT.of eT, rfl, .int i, _, rfl, .ref t.1, _, rfl, rfl, ?_⟩
    have sH2 := sH.trans sT
    refine ⟨_, rfl, _, rfl, _, _, rfl, rfl, _, rfl, l, _, rfl, SqL.of (sH2 _ _ el), fun c hc => ?_⟩
    rw [show ((i : Nat) : Int) + 1 = ((i + 1 : Nat) : Int) from by omega, sd_from]
    have sc : Same H2 (upd H2 c (.lst (sdRefs (ss.drop (i + 1))))) := same_new hc _
    have ec : upd H2 c (.lst (sdRefs (ss.drop (i + 1)))) c = some (.lst (sdRefs (ss.drop (i + 1)))) := upd_same
    generalize upd H2 c (.lst (sdRefs (ss.drop (i + 1)))) = H3 at sc ec ⊢
    have s3 := sH2.trans sc
    have eD3 := sc _ _ (sT _ _ eD)
    have ncd : c ≠ d := fun z => by rw [z] at ec; rw [ec] at eD3; cases eD3
    refine ⟨c, rfl, ⟨_, SqL.of ec⟩, for_list (K := K) (a := c) (xs := sdRefs (ss.drop (i + 1))) (fun j σ H' => Same H H' ∧ H' c = some (.lst (sdRefs (ss.drop (i + 1)))) ∧ (∃ kvs ks, H' d = some (.dT kvs) ∧ TabK kvs ks ∧ ks.length ≤ 1000 * i + j ∧ CrK ss i j ks) ∧ ∃ u4 u5 : Option V, σ = [some (.ref l), some (.ref d), some (.int i), some (.ref t.1), u4, u5])
      ⟨s3, ec, ⟨kvs, ks, eD3, tk, by omega, cr⟩, _, _, rfl⟩ (fun j σ H' _ ⟨_, e, _⟩ => SqL.of e) ?_ ?_⟩
    · rintro j v σ H4 hj ⟨s4, ec4, ⟨kvs, ks, eD4, tk, hks4, cr⟩, u4, u5, rfl⟩
      obtain ⟨u, gu0, rfl, hjl⟩ := sdRefs_get hj
      rw [List.length_drop] at hjl
      have gu : ss[i + 1 + j]? = some u := by rw [List.getElem?_drop] at gu0; exact gu0
      obtain ⟨eu0, _, c1, c2, c3⟩ := ok u (List.mem_of_getElem? gu)
      have step : ∀ ks' : List (List Int), (∀ k ∈ ks, k ∈ ks') → (∀ k ∈ ks', k ∈ ks ∨ (tn t.2 u.2 ≠ 0 ∧ k = crL t.2 u.2 ∧ inW ss (pt3 (crL t.2 u.2)))) → (tn t.2 u.2 ≠ 0 → inW ss (pt3 (crL t.2 u.2)) → crL t.2 u.2 ∈ ks') → CrK ss i (j + 1) ks' := fun ks' k1 k2 k3 => by
        refine ⟨fun k hk => ?_, fun a b x y hab hc gx gy hxy hw => ?_⟩
        · rcases k2 k hk with h | ⟨h1, h2⟩
          · exact cr.each k h
          · exact ⟨t, List.mem_of_getElem? gt, u, List.mem_of_getElem? gu, h1, h2⟩
        · by_cases e : a = i ∧ b = i + 1 + j
          · obtain ⟨rfl, rfl⟩ := e
            rw [gt] at gx
            rw [gu] at gy
            cases gx
            cases gy
            exact k3 hxy hw
          · exact k1 _ (cr.all a b x y hab (by omega) gx gy hxy hw)
      refine ⟨_, rfl, _, rfl, t.1, u.1, t.2, u.2, rfl, .inr (SqT.of (s4 _ _ et0)), .inr (SqT.of (s4 _ _ eu0)), b1, b2, b3, c1, c2, c3, fun h0 => ?_, fun h0 p H5 s5 hp ep => ?_⟩
      · refine ⟨_, rfl, rfl, _, rfl, ?_⟩
        refine iteF ?_
        refine iteF ?_
        exact ⟨s4, ec4, ⟨kvs, ks, eD4, tk, by omega, step ks (fun k h => h) (fun k h => .inl h) fun z => absurd h0 z⟩, _, _, rfl⟩
      · obtain ⟨sp, _, _⟩ := cr_ok h0
        have ep' : H5 p = some (.tup [.int (pt3 (crL t.2 u.2)).1, .int (pt3 (crL t.2 u.2)).2.1, .int (pt3 (crL t.2 u.2)).2.2]) := by
          rw [ep, sp.list]
          rfl
        have s45 := s4.trans s5
        refine ⟨_, rfl, rfl, _, rfl, ?_⟩
        refine iteT ?_
        refine ⟨_, rfl, _, rfl, l, p, ss, _, _, _, rfl, by rw [← sdRefs_map]; exact s45 _ _ el, by omega, hasArg (ok.same s45), ep', fun H6 s6 => ?_⟩
        rw [has_inW]
        refine ⟨_, rfl, ?_⟩
        by_cases hw : inWB ss (pt3 (crL t.2 u.2)) = true
        · rw [hw]
          refine iteT ?_
          have eD6 := s6 _ _ (s5 _ _ eD4)
          obtain ⟨ks', tk', mem', len'⟩ := tk.put (crL t.2 u.2) (.bl true)
          have kl := tk.len
          refine ⟨_, rfl, _, rfl, d, _, rfl, DPut.t (k := keyI (crL t.2 u.2)) eD6 (by rw [keyI_kV]; exact s6 _ _ ep) (by rw [kl]; exact big _ (by omega)), ?_⟩
          refine ⟨(s45.trans s6).putNew hd, ?_, ⟨_, ks', upd_same, tk', by omega, step ks' (fun k h => (mem' k).mpr (.inl h)) (fun k h => ((mem' k).mp h).imp id fun z => ⟨h0, z, inWB_iff.mp hw⟩) fun _ _ => (mem' _).mpr (.inr rfl)⟩, _, _, rfl⟩
          rw [upd_ne ncd]
          exact s6 _ _ (s5 _ _ ec4)
        · have hw' : inWB ss (pt3 (crL t.2 u.2)) = false := by simpa using hw
          rw [hw']
          refine iteF ?_
          exact ⟨s45.trans s6, s6 _ _ (s5 _ _ ec4), ⟨kvs, ks, s6 _ _ (s5 _ _ eD4), tk, by omega, step ks (fun k h => h) (fun k h => .inl h) fun _ z => absurd (inWB_iff.mpr z) hw⟩, _, _, rfl⟩
    · rintro σ H4 ⟨s4, _, ⟨kvs, ks, eD4, tk, hks4, cr⟩, u4, u5, rfl⟩
      rw [sdRefs_length, List.length_drop] at hks4 cr
      refine ⟨s4, ⟨kvs, ks, eD4, tk, by omega, cr.each, fun a b x y hab hc gx gy => ?_⟩, _, _, _, _, rfl⟩
      have hb : b < ss.length := (List.getElem?_eq_some_iff.mp gy).1
      exact cr.all a b x y hab (by omega) gx gy
  · rintro σ H' ⟨sH, ⟨kvs, ks, eD, tk, hks, cr⟩, u2, u3, u4, u5, rfl⟩
    rw [sdRefs_length] at hks cr
    refine ⟨_, rfl, d, kvs, rfl, eD, fun p1 ts hp1 ets hts => ?_⟩
    have sp1 := same_new hp1 (.lst ((ts.map (·.1)).map V.ref))
    obtain ⟨us, w1, w2, w3⟩ := tk.refs ets hts
    have hk : us.length = ks.length := by have z := congrArg List.length w2; rwa [List.length_map] at z
    refine q p1 (us.map fun u => (u.1, pt3 u.2)) _ (sH.trans sp1) (sH.free hp1) (by rw [upd_same]; simp only [spRefs, List.map_map]; rw [← List.map_map, ← w1]; simp) (fun x hx => ?_) (by rw [List.length_map]; omega) (fun t ht u hu htu hw => ?_) ?_ fun P hP => ?_
    · obtain ⟨y, hy, rfl⟩ := List.mem_map.mp hx
      have hyk : y.2 ∈ ks := by rw [← w2]; exact List.mem_map_of_mem hy
      obtain ⟨t, _, u, _, htu, ek, _⟩ := cr.each y.2 hyk
      obtain ⟨sp, _, _⟩ := cr_ok htu
      have ey := sp1 _ _ (w3 y hy)
      rw [ek] at ey ⊢
      refine ⟨?_, sp.pos, sp.low⟩
      show upd H' p1 _ y.1 = _
      rw [ey, sp.list]
      rfl
    · obtain ⟨a, ha, ea⟩ := List.getElem_of_mem ht
      obtain ⟨b, hb, eb⟩ := List.getElem_of_mem hu
      have ga : ss[a]? = some t := by rw [List.getElem?_eq_getElem ha, ea]
      have gb : ss[b]? = some u := by rw [List.getElem?_eq_getElem hb, eb]
      have key : crL t.2 u.2 ∈ ks := by
        by_cases hab : a < b
        · exact cr.all a b t u hab (.inl (by omega)) ga gb htu hw
        · by_cases e : a = b
          · subst e
            rw [ga] at gb
            cases gb
            exact absurd (by unfold tn; rw [Int.mul_comm]; omega) htu
          · have hut : tn u.2 t.2 ≠ 0 := fun z => htu (by unfold tn at z ⊢; rw [Int.mul_comm u.2.1, Int.mul_comm u.2.2.1] at z; omega)
            rw [cr_swap htu] at hw ⊢
            exact cr.all b a u t (by omega) (.inl (by omega)) gb ga hut hw
      rw [List.map_map]
      have z : crL t.2 u.2 ∈ us.map (·.2) := by rw [w2]; exact key
      obtain ⟨y, hy, ey⟩ := List.mem_map.mp z
      exact List.mem_map.mpr ⟨y, hy, by show pt3 y.2 = _; rw [ey]⟩
    · have e : (us.map fun u => (u.1, pt3 u.2)).map (·.2) = ks.map pt3 := by rw [← w2, List.map_map, List.map_map]; rfl
      rw [e, List.Nodup, List.pairwise_map]
      refine List.Pairwise.imp_of_mem (fun {k k'} hk hk' hne ee => ?_) tk.nodup
      obtain ⟨t, _, u, _, htu, rfl, _⟩ := cr.each k hk
      obtain ⟨t', _, u', _, htu', rfl, _⟩ := cr.each k' hk'
      exact hne (by rw [(cr_ok htu).1.list, (cr_ok htu').1.list, ee])
    · rw [List.map_map] at hP
      obtain ⟨y, hy, rfl⟩ := List.mem_map.mp hP
      have hyk : y.2 ∈ ks := by rw [← w2]; exact List.mem_map_of_mem hy
      obtain ⟨t, ht, u, hu, htu, ek, hw⟩ := cr.each y.2 hyk
      exact ⟨t, ht, u, hu, htu, by show pt3 y.2 = _; rw [ek], by show inW ss (pt3 y.2); rw [ek]; exact hw⟩
def sp_L_feet (K : PySem.W.Frag) : Sp := fun vs H Q _ => ∃ (l : Addr) (ss : List Sd), vs = [.ref l] ∧ SqL K H l (sdRefs ss) ∧ SdOk H ss ∧ ss.length ≤ 900 ∧
  ∀ (D : Addr) (qs : List (Addr × P3)) (H' : Hp), Same H H' → H D = none → H' D = some (.lst (spRefs qs)) → SpsOk H' qs → qs.map (·.2) = ss.map (fun t => pt3 (ftL t.2)) → Q (.ref D) H'
theorem ok_L_feet (F : Fun K "_law_feet" "_law_feet" s_L_feet f fd) (Z : Zs mg) (h_L_spot_of : Has P w K mg base "_law_spot_of" 2 ["_law_x", "_law_y", "_law_w"] (sp_L_spot_of K)) : FnOk P w K mg base CX0 3 f fd ["_law_sides_here"] (sp_L_feet K) := by
  refine F.ok sc_L_feet (fun vs H Q E h => ?_) (fun cdv A outer s H vs Q E hr h => ?_)
  · obtain ⟨l, ss, rfl, _⟩ := h
    rfl
  obtain ⟨l, ss, rfl, hl, ok, hlen, q⟩ := h
  refine ⟨_, (pss_one (ps_ret (pe_comp (T := ["_law_a", "_law_b", "_law_c"]) (caps := []) ⟨rfl, by decide +kernel, by decide +kernel, rfl, True.intro⟩ rfl (pi_seq (pv 0)) (fun _ => (pg_tup rfl (pgs_cons (pg_name (i := 0) (show (["_law_a", "_law_b", "_law_c"] : List Str).Nodup by decide +kernel) rfl (Or.inl rfl)) (pgs_cons (pg_name (i := 1) (show (["_law_a", "_law_b", "_law_c"] : List Str).Nodup by decide +kernel) rfl (Or.inl rfl)) (pgs_cons (pg_name (i := 2) (show (["_law_a", "_law_b", "_law_c"] : List Str).Nodup by decide +kernel) rfl (Or.inl rfl)) pgs_nil))))) (fun _ => pifs_nil) (fun _ => (pe_callH h_L_spot_of (hr.mono (by decide)) rfl (pa_cons (pe_op op_mul (pv 0) (pv 2)) (pa_cons (pe_op op_mul (pv 1) (pv 2)) (pa_cons (pe_op op_add (pe_op op_mul (pv 0) (pv 0)) (pe_op op_mul (pv 1) (pv 1))) pa_nil)))))))), ?_⟩
  refine ⟨_, rfl, l, rfl, .inl ⟨⟨_, hl⟩, fun c D hD => comp_list0 (K := K) (a := l) (xs := sdRefs ss) (fun i σ ys H' => Same H H' ∧ H' D = some (.lst ys) ∧ (∃ qs : List (Addr × P3), ys = spRefs qs ∧ qs.length = i ∧ SpsOk H' qs ∧ qs.map (·.2) = (ss.take i).map (fun t => pt3 (ftL t.2))) ∧ ∃ u v z : Option V, σ = [u, v, z])
    ⟨same_new hD _, upd_same, ⟨[], rfl, rfl, (fun t ht => nomatch ht), rfl⟩, none, none, none, rfl⟩ (fun i σ ys H' _ ⟨e1, e2, _⟩ => ⟨e1.seq hl, e2⟩) ?_ ?_⟩⟩
  · rintro i v σ ys H' hi ⟨sH, eD, ⟨qs, rfl, hq, okq, hm⟩, u, v', z, rfl⟩
    obtain ⟨t, gt, rfl, hil⟩ := sdRefs_get hi
    obtain ⟨et0, nt, c1, c2, c3⟩ := ok t (List.mem_of_getElem? gt)
    have z1 := natAbs_mul_le t.2.1 t.2.1 c1 c1
    have z2 := natAbs_mul_le t.2.2.1 t.2.2.1 c2 c2
    have pos := nn_pos nt
    refine ⟨t.1, _, rfl, SqT.of (sH _ _ et0), rfl, .int t.2.1, _, rfl, .int t.2.2.1, _, rfl, .int t.2.2.2, _, rfl, rfl, ?_⟩
    refine ⟨_, rfl, _, rfl, _, _, rfl, rfl, cm_l (by omega), _, rfl, _, rfl, _, _, rfl, rfl, cm_l (by omega), _, rfl, _, rfl, _, _, rfl, rfl, cm_l (by omega), _, rfl, _, rfl, _, _, rfl, rfl, cm_l (by omega), _, _, rfl, rfl,
      t.2.1 * t.2.2.2, t.2.2.1 * t.2.2.2, t.2.1 * t.2.1 + t.2.2.1 * t.2.2.1, rfl, by omega, by omega, fun p H2 s2 hp ep => ?_⟩
    obtain ⟨sf, _⟩ := ft_ok (t := t.2) nt
    have ep' : H2 p = some (.tup [.int (pt3 (ftL t.2)).1, .int (pt3 (ftL t.2)).2.1, .int (pt3 (ftL t.2)).2.2]) := by
      have z : H2 p = some (.tup ((ftL t.2).map V.int)) := ep
      rw [z, sf.list]
      rfl
    have npD : p ≠ D := fun z => by rw [z, eD] at hp; cases hp
    refine ⟨s2 _ _ eD, small1000 (by simp only [List.length_map]; omega), (sH.trans s2).putNew hD, upd_same, ⟨qs ++ [(p, pt3 (ftL t.2))], by simp [spRefs], by rw [List.length_append, hq]; rfl, fun u hu => ?_, by rw [take_snoc gt, List.map_append, List.map_append, hm]; rfl⟩, _, _, _, rfl⟩
    rcases List.mem_append.mp hu with hu | hu
    · obtain ⟨g1, g2⟩ := okq u hu
      exact ⟨by rw [upd_ne (ne_of (s2 _ _ g1) (s2 _ _ eD) (by intro z; cases z))]; exact s2 _ _ g1, g2⟩
    · rw [List.mem_singleton] at hu
      subst hu
      refine ⟨?_, sf.pos, sf.low⟩
      show upd H2 D _ p = _
      rw [upd_ne npD]
      exact ep'
  · rintro σ ys H' ⟨sH, eD, ⟨qs, rfl, hq, okq, hm⟩, u, v', z, rfl⟩
    rw [sdRefs_length, List.take_length] at hm
    exact q D qs H' sH hD eD okq hm
def sp_L_any_place (K : PySem.W.Frag) : Sp := fun vs H Q _ => ∃ (l : Addr) (ss : List Sd), vs = [.ref l] ∧ H l = some (.lst (sdRefs ss)) ∧ SdOk H ss ∧ ss.length ≤ 900 ∧
  (∀ H' : Hp, Same H H' → (∀ P : P3, Cand ss P → ¬ inW ss P) → Q .non H') ∧
  ∀ (p : Addr) (P : P3) (H' : Hp), Same H H' → SpAt H' p P → inW ss P → Q (.ref p) H'
theorem ok_L_any_place (F : Fun K "_law_any_place" "_law_any_place" s_L_any_place f fd) (Z : Zs mg) (h_L_corners_of : Has P w K mg base "_law_corners_of" 4 ["_law_sides_here"] (sp_L_corners_of K)) (h_L_feet : Has P w K mg base "_law_feet" 3 ["_law_sides_here"] (sp_L_feet K)) (h_L_has : Has P w K mg base "_law_has" 1 ["_law_sides_here", "_law_place"] (sp_L_has K)) : FnOk P w K mg base CX0 5 f fd ["_law_sides_here"] (sp_L_any_place K) := by
  refine F.ok sc_L_any_place (fun vs H Q E h => ?_) (fun cdv A outer s H vs Q E hr h => ?_)
  · obtain ⟨l, ss, rfl, _⟩ := h
    rfl
  obtain ⟨l, ss, rfl, el, ok, hlen, qn, q⟩ := h
  have big : ∀ n : Nat, n ≤ 2000000 → n ≤ sizeLine := fun n hn => Nat.le_trans hn (by decide)
  refine ⟨_, (pss_cons (ps_for PassesOwn.never rfl (pi_seq (pe_op op_cat (pe_op op_cat (pe_callH h_L_corners_of (hr.mono (by decide)) rfl (pa_cons (pv 0) pa_nil)) (pe_callH h_L_feet (hr.mono (by decide)) rfl (pa_cons (pv 0) pa_nil))) (pe_lst (pa_cons (pe_tup (pa_cons pe_int (pa_cons pe_int (pa_cons pe_int pa_nil)))) pa_nil)))) (pg_name (i := 1) sc_L_any_place.nd rfl (Or.inl rfl)) (pss_one (ps_if (pt_val (pe_callH h_L_has (hr.mono (by decide)) rfl (pa_cons (pv 0) (pa_cons (pv 1) pa_nil)))) (pss_one (ps_ret (pv 1))) pss_nil)))
      (pss_one (ps_ret pe_non))), ?_⟩
  refine ⟨_, rfl, l, ss, rfl, el, ok, hlen, fun D1 qs1 H1 s1 hD1 eD1 ok1 n1 all1 _ _ => ?_⟩
  refine ⟨_, rfl, l, ss, rfl, SqL.of (s1 _ _ el), ok.same s1, hlen, fun D2 qs2 H2 s2 hD2 eD2 ok2 m2 => ?_⟩
  have n2 : qs2.length = ss.length := by have z := congrArg List.length m2; rwa [List.length_map, List.length_map] at z
  refine ⟨D1, D2, _, _, rfl, rfl, s2 _ _ eD1, eD2, big _ (by simp only [List.length_map]; omega), fun D3 hD3 => ?_⟩
  have s3 : Same H2 (upd H2 D3 (.lst (spRefs qs1 ++ spRefs qs2))) := same_new hD3 _
  have eD3 : upd H2 D3 (.lst (spRefs qs1 ++ spRefs qs2)) D3 = some (.lst (spRefs (qs1 ++ qs2))) := by rw [upd_same]; simp [spRefs]
  generalize upd H2 D3 (.lst (spRefs qs1 ++ spRefs qs2)) = H3 at s3 eD3 ⊢
  refine ⟨(by show 3 ≤ sizeLine; decide), fun o ho => ?_⟩
  have so : Same H3 (upd H3 o (.tup [.int 0, .int 0, .int 1])) := same_new ho _
  have eo : upd H3 o (.tup [.int 0, .int 0, .int 1]) o = some (.tup [.int 0, .int 0, .int 1]) := upd_same
  generalize upd H3 o (.tup [.int 0, .int 0, .int 1]) = H4 at so eo ⊢
  refine ⟨(by show 1 ≤ sizeLine; decide), fun ol hol => ?_⟩
  have sol : Same H4 (upd H4 ol (.lst [.ref o])) := same_new hol _
  have eol : upd H4 ol (.lst [.ref o]) ol = some (.lst [.ref o]) := upd_same
  generalize upd H4 ol (.lst [.ref o]) = H5 at sol eol ⊢
  refine ⟨D3, ol, _, _, rfl, rfl, sol _ _ (so _ _ eD3), eol, big _ (by simp only [List.length_map, List.length_append]; show qs1.length + qs2.length + 1 ≤ 2000000; omega), fun L hL => ?_⟩
  have sL : Same H5 (upd H5 L (.lst (spRefs (qs1 ++ qs2) ++ [.ref o]))) := same_new hL _
  have eL : upd H5 L (.lst (spRefs (qs1 ++ qs2) ++ [.ref o])) L = some (.lst (spRefs ((qs1 ++ qs2) ++ [(o, (0, 0, 1))]))) := by rw [upd_same]; simp [spRefs]
  generalize upd H5 L (.lst (spRefs (qs1 ++ qs2) ++ [.ref o])) = H6 at sL eL ⊢
  have s46 := sol.trans sL
  have s26 := (s3.trans so).trans s46
  have s16 := s2.trans s26
  have s06 := s1.trans s16
  have okA : SpsOk H6 ((qs1 ++ qs2) ++ [(o, (0, 0, 1))]) := fun u hu => by
    rcases List.mem_append.mp hu with hu | hu
    · rcases List.mem_append.mp hu with hu | hu
      · exact ok1.same s16 u hu
      · exact ok2.same s26 u hu
    · rw [List.mem_singleton] at hu
      subst hu
      exact ⟨s46 _ _ eo, (by show (0 : Int) < 1; decide), (by show Nat.gcd (Nat.gcd (0 : Int).natAbs (0 : Int).natAbs) (1 : Int).natAbs = 1; decide)⟩
  refine ⟨L, rfl, .inl ⟨⟨_, SqL.of eL⟩, for_list (K := K) (a := L) (xs := spRefs ((qs1 ++ qs2) ++ [(o, (0, 0, 1))])) (fun i σ H' => Same H6 H' ∧ (∀ j u, j < i → ((qs1 ++ qs2) ++ [(o, (0, 0, 1))])[j]? = some u → ¬ inW ss u.2) ∧ ∃ u2 : Option V, σ = [some (.ref l), u2])
    ⟨Same.refl _, fun j t hj => absurd hj (Nat.not_lt_zero _), none, rfl⟩ (fun i σ H' _ ⟨e1, _⟩ => SqL.of (e1 _ _ eL)) ?_ ?_⟩⟩
  · rintro i v σ H' hi ⟨sH, hall, u2, rfl⟩
    rw [List.getElem?_map, List.getElem?_map] at hi
    cases gu : ((qs1 ++ qs2) ++ [(o, ((0, 0, 1) : P3))])[i]? with
    | none => rw [gu] at hi; cases hi
    | some u =>
      rw [gu] at hi
      cases hi
      obtain ⟨eu, pu, lu⟩ := okA u (List.mem_of_getElem? gu)
      have s0H := s06.trans sH
      refine ⟨_, rfl, _, rfl, l, u.1, ss, _, _, _, rfl, by rw [← sdRefs_map]; exact s0H _ _ el, by omega, hasArg (ok.same s0H), sH _ _ eu, fun H8 s8 => ?_⟩
      rw [has_inW]
      refine ⟨_, rfl, ?_⟩
      by_cases hw : inWB ss u.2 = true
      · rw [hw]
        refine iteT ?_
        exact ⟨_, rfl, q u.1 u.2 _ (s0H.trans s8) ⟨s8 _ _ (sH _ _ eu), pu, lu⟩ (inWB_iff.mp hw)⟩
      · have hw' : inWB ss u.2 = false := by simpa using hw
        rw [hw']
        refine iteF ?_
        refine ⟨sH.trans s8, fun j t hj ht => ?_, _, rfl⟩
        by_cases ej : j = i
        · rw [ej, gu] at ht
          cases ht
          exact fun z => hw (inWB_iff.mpr z)
        · exact hall j t (by omega) ht
  · rintro σ H' ⟨sH, hall, u2, rfl⟩
    refine qn _ (s06.trans sH) fun P cP wP => ?_
    have nin : ∀ u ∈ (qs1 ++ qs2) ++ [(o, ((0, 0, 1) : P3))], ¬ inW ss u.2 := fun u hu => by
      obtain ⟨j, hj, ej⟩ := List.getElem_of_mem hu
      exact hall j u (by simp only [List.length_map]; exact hj) (by rw [List.getElem?_eq_getElem hj, ej])
    rcases cP with rfl | ⟨t, ht, rfl⟩ | ⟨t, ht, u, hu, htu, rfl⟩
    · exact nin (o, (0, 0, 1)) (by simp) wP
    · have z : pt3 (ftL t.2) ∈ qs2.map (·.2) := by rw [m2]; exact List.mem_map.mpr ⟨t, ht, rfl⟩
      obtain ⟨y, hy, ey⟩ := List.mem_map.mp z
      exact nin y (List.mem_append_left _ (List.mem_append_right _ hy)) (by rw [ey]; exact wP)
    · obtain ⟨y, hy, ey⟩ := List.mem_map.mp (all1 t ht u hu htu wP)
      exact nin y (List.mem_append_left _ (List.mem_append_left _ hy)) (by rw [ey]; exact wP)
def sp_L_flow (K : PySem.W.Frag) : Sp := sp_p_ways K
theorem gcdL_swap (x y : Int) : gcdL [x, y] = Nat.gcd y.natAbs x.natAbs := by rw [gcdL_two, Nat.gcd_comm]
theorem gcdL_negl (x y : Int) : gcdL [-x, y] = gcdL [x, y] := by rw [gcdL_two, gcdL_two, Int.natAbs_neg]
theorem gcdL_negr (x y : Int) : gcdL [x, -y] = gcdL [x, y] := by rw [gcdL_two, gcdL_two, Int.natAbs_neg]
theorem way_all {ss : List Sd} {x y : Int} : ((ss.map fun t => decide (t.2.1 * x + t.2.2.1 * y ≤ 0)).all id) = wayB ss x y := by
  unfold wayB
  rw [List.all_map]
  rfl
theorem ok_L_flow (F : Fun K "_law_flow" "_law_flow" s_L_flow f fd) (Z : Zs mg) (h_L_low : Has P w K mg base "_law_low" 1 ["_law_one", "_law_other"] (sp_L_low K)) : FnOk P w K mg base CX0 2 f fd ["_law_sides_here"] (sp_L_flow K) := by
  refine F.ok sc_L_flow (fun vs H Q E h => ?_) (fun cdv A outer s H vs Q E hr h => ?_)
  · obtain ⟨l, ss, rfl, _⟩ := h
    rfl
  obtain ⟨l, ss, rfl, hl, ok, h31, q⟩ := h
  have hu1 := Nat.lt_of_le_of_lt (Nat.add_le_add_left (show 1 ≤ 64 by decide) _) hr.units
  refine ⟨_, (pss_cons (ps_set (i := 1) sc_L_flow.nd rfl (Or.inl rfl) pe_dnewT)
      (pss_cons (ps_for PassesOwn.never rfl (pi_seq (pv 0)) (pg_tup rfl (pgs_cons (pg_name (i := 2) sc_L_flow.nd rfl (Or.inl rfl)) (pgs_cons (pg_name (i := 3) sc_L_flow.nd rfl (Or.inl rfl)) (pgs_cons (pg_name (i := 4) sc_L_flow.nd rfl (Or.inl rfl)) pgs_nil)))) (pss_cons (ps_set (i := 5) sc_L_flow.nd rfl (Or.inl rfl) (pe_callH h_L_low (hr.mono (by decide)) rfl (pa_cons (pv 2) (pa_cons (pv 3) pa_nil))))
      (pss_one (ps_for PassesOwn.never rfl (pi_tup (pe_tup (pa_cons (pe_tup (pa_cons (pe_op op_fdivP (pv 3) (pv 5)) (pa_cons (pe_op op_fdivP (pe_un un_neg (pv 2)) (pv 5)) pa_nil))) (pa_cons (pe_tup (pa_cons (pe_op op_fdivP (pe_un un_neg (pv 3)) (pv 5)) (pa_cons (pe_op op_fdivP (pv 2) (pv 5)) pa_nil))) pa_nil)))) (pg_tup rfl (pgs_cons (pg_name (i := 6) sc_L_flow.nd rfl (Or.inr rfl)) (pgs_cons (pg_name (i := 7) sc_L_flow.nd rfl (Or.inr rfl)) pgs_nil))) (pss_one (ps_if (pt_val (pe_callB (call_allB rfl) rfl Z.all bt_all (pa_cons (pe_comp (T := ["_law_p", "_law_q", "_law_r"]) (caps := [("_law_x", 6), ("_law_y", 7)]) ⟨rfl, by decide +kernel, by decide +kernel, rfl, ⟨⟨rfl, rfl, Or.inl rfl⟩, ⟨rfl, rfl, Or.inl rfl⟩, True.intro⟩⟩ rfl (pi_seq (pv 0)) (fun _ => (pg_tup rfl (pgs_cons (pg_name (i := 0) (show (["_law_p", "_law_q", "_law_r", "_law_x", "_law_y"] : List Str).Nodup by decide +kernel) rfl (Or.inl rfl)) (pgs_cons (pg_name (i := 1) (show (["_law_p", "_law_q", "_law_r", "_law_x", "_law_y"] : List Str).Nodup by decide +kernel) rfl (Or.inl rfl)) (pgs_cons (pg_name (i := 2) (show (["_law_p", "_law_q", "_law_r", "_law_x", "_law_y"] : List Str).Nodup by decide +kernel) rfl (Or.inl rfl)) pgs_nil))))) (fun _ => pifs_nil) (fun _ => (pe_cmpR op_le (pe_op op_add (pe_op op_mul (pv 0) (pv 3)) (pe_op op_mul (pv 1) (pv 4))) pe_int (nomark _)))) pa_nil))) (pss_one (ps_dput hu1 (pv 1) (pe_tup (pa_cons (pv 6) (pa_cons (pv 7) pa_nil))) pe_bl rfl)) pss_nil))))))
      (pss_one (ps_ret (pe_callB call_sortedT rfl Z.sorted bt_sorted (pa_cons (pe_callTy (call_list_dT rfl) rfl Z.list bt_list (pa_cons (pv 1) pa_nil)) pa_nil)))))), ?_⟩
  refine fun d hd => ?_
  have two : ∀ k, WK ss ss.length k → k.length = 1 + 1 := fun k ⟨_, t, _, _, h⟩ => by
    rcases h with ⟨e, _⟩ | ⟨e, _⟩ <;> rw [e] <;> rfl
  refine ⟨_, rfl, l, rfl, .inl ⟨⟨_, (same_new hd _).seq hl⟩, for_list (K := K) (a := l) (xs := sdRefs ss) (fun i σ H' => Same H H' ∧ (∃ kvs ks, H' d = some (.dT kvs) ∧ TabK kvs ks ∧ ks.length ≤ 2 * i ∧ ∀ k, k ∈ ks ↔ WK ss i k) ∧ ∃ u2 u3 u4 u5 u6 u7 : Option V, σ = [some (.ref l), some (.ref d), u2, u3, u4, u5, u6, u7])
    ⟨same_new hd _, ⟨[], [], upd_same, .nil, Nat.le_refl _, fun k => ⟨(fun z => nomatch z), fun z => absurd z (WK_zero ss k)⟩⟩, none, none, none, none, none, none, rfl⟩ (fun i σ H' _ ⟨e, _⟩ => e.seq hl) ?_ ?_⟩⟩
  · rintro i v σ H' hi ⟨sH, ⟨kvs, ks, eD, tk, hks, mem⟩, u2, u3, u4, u5, u6, u7, rfl⟩
    obtain ⟨t, gt, rfl, hil⟩ := sdRefs_get hi
    obtain ⟨et0, nt, b1, b2, _⟩ := ok t (List.mem_of_getElem? gt)
    have et := sH _ _ et0
    refine ⟨t.1, _, rfl, SqT.of et, rfl, .int t.2.1, _, rfl, .int t.2.2.1, _, rfl, .int t.2.2.2, _, rfl, rfl, ?_⟩
    refine ⟨_, rfl, _, rfl, t.2.1, t.2.2.1, rfl, ?_⟩
    have eg1 : gcdL [t.2.2.1, -t.2.1] = Nat.gcd t.2.1.natAbs t.2.2.1.natAbs := by rw [gcdL_negr, gcdL_swap]
    have eg2 : gcdL [-t.2.2.1, t.2.1] = Nat.gcd t.2.1.natAbs t.2.2.1.natAbs := by rw [gcdL_negl, gcdL_swap]
    obtain ⟨gp1, g61⟩ := gcd2 (x := t.2.2.1) (y := -t.2.1) (by omega) (by omega) (by omega)
    obtain ⟨gp2, g62⟩ := gcd2 (x := -t.2.2.1) (y := t.2.1) (by omega) (by omega) (by omega)
    have w1 := way_low (ss := ss) gp1
    have w2 := way_low (ss := ss) gp2
    have l1 : lowL [t.2.2.1, -t.2.1] = [t.2.2.1 / (gcdL [t.2.2.1, -t.2.1] : Int), -t.2.1 / (gcdL [t.2.2.1, -t.2.1] : Int)] := rfl
    have l2 : lowL [-t.2.2.1, t.2.1] = [-t.2.2.1 / (gcdL [-t.2.2.1, t.2.1] : Int), t.2.1 / (gcdL [-t.2.2.1, t.2.1] : Int)] := rfl
    rw [eg1] at gp1 g61 w1 l1
    rw [eg2] at w2 l2
    generalize (Nat.gcd t.2.1.natAbs t.2.2.1.natAbs) = g at gp1 g61 w1 l1 w2 l2 ⊢
    clear gp2 g62 eg1 eg2
    have dv : ∀ j : Int, CDivP j (g : Int) := fun j => CDivP.of (by omega) g61
    refine ⟨_, rfl, _, rfl, _, _, rfl, rfl, dv _, _, rfl, _, rfl, _, rfl, _, _, rfl, rfl, dv _, (by show 2 ≤ sizeLine; decide), fun p1 hp1 => ?_⟩
    have sp1 : Same H' (upd H' p1 (.tup [.int (t.2.2.1 / g), .int (-t.2.1 / g)])) := same_new hp1 _
    have ep1 : upd H' p1 (.tup [.int (t.2.2.1 / g), .int (-t.2.1 / g)]) p1 = some (.tup [.int (t.2.2.1 / g), .int (-t.2.1 / g)]) := upd_same
    generalize upd H' p1 (.tup [.int (t.2.2.1 / g), .int (-t.2.1 / g)]) = G1 at sp1 ep1 ⊢
    refine ⟨_, rfl, _, rfl, _, rfl, _, _, rfl, rfl, dv _, _, rfl, _, rfl, _, _, rfl, rfl, dv _, (by show 2 ≤ sizeLine; decide), fun p2 hp2 => ?_⟩
    have sp2 : Same G1 (upd G1 p2 (.tup [.int (-t.2.2.1 / g), .int (t.2.1 / g)])) := same_new hp2 _
    have ep2 : upd G1 p2 (.tup [.int (-t.2.2.1 / g), .int (t.2.1 / g)]) p2 = some (.tup [.int (-t.2.2.1 / g), .int (t.2.1 / g)]) := upd_same
    generalize upd G1 p2 (.tup [.int (-t.2.2.1 / g), .int (t.2.1 / g)]) = G2 at sp2 ep2 ⊢
    refine ⟨(by show 2 ≤ sizeLine; decide), fun pl hpl => ?_⟩
    have spl : Same G2 (upd G2 pl (.tup [.ref p1, .ref p2])) := same_new hpl _
    have epl : upd G2 pl (.tup [.ref p1, .ref p2]) pl = some (.tup [.ref p1, .ref p2]) := upd_same
    have sAll := (sp1.trans sp2).trans spl
    have ep1' := spl _ _ (sp2 _ _ ep1)
    have ep2' := spl _ _ ep2
    have eD' := sAll _ _ eD
    generalize upd G2 pl (.tup [.ref p1, .ref p2]) = G3 at spl epl sAll ep1' ep2' eD' ⊢
    refine ⟨pl, rfl, ⟨_, SqT.of epl⟩, for_tup (K := K) (a := pl) (xs := [.ref p1, .ref p2]) (fun j σ H' => Same H H' ∧ H' pl = some (.tup [.ref p1, .ref p2]) ∧ H' p1 = some (.tup [.int (t.2.2.1 / g), .int (-t.2.1 / g)]) ∧ H' p2 = some (.tup [.int (-t.2.2.1 / g), .int (t.2.1 / g)]) ∧
        (∃ kvs ks, H' d = some (.dT kvs) ∧ TabK kvs ks ∧ ks.length ≤ 2 * i + j ∧ ∀ k, k ∈ ks ↔ WK ss i k ∨ (1 < j ∧ k = lowL [-t.2.2.1, t.2.1] ∧ wayB ss (-t.2.2.1) t.2.1 = true) ∨ (0 < j ∧ k = lowL [t.2.2.1, -t.2.1] ∧ wayB ss t.2.2.1 (-t.2.1) = true)) ∧ ∃ u6 u7 : Option V, σ = [some (.ref l), some (.ref d), some (.int t.2.1), some (.int t.2.2.1), some (.int t.2.2.2), some (.int (g : Int)), u6, u7])
      ⟨sH.trans sAll, epl, ep1', ep2', ⟨kvs, ks, eD', tk, by omega, fun k => (mem k).trans ⟨.inl, fun z => by
        rcases z with z | ⟨z, _⟩ | ⟨z, _⟩
        · exact z
        · exact absurd z (Nat.not_lt_zero _)
        · exact absurd z (Nat.not_lt_zero _)⟩⟩, _, _, rfl⟩ (fun i σ H' _ ⟨_, e, _⟩ => SqT.of e) ?_ ?_⟩
    · rintro j v σ H4 hj ⟨s4, e4l, e41, e42, ⟨kvs, ks, eD4, tk, hks4, mem⟩, u6, u7, rfl⟩
      have hj2 : j < 2 := (List.getElem?_eq_some_iff.mp hj).1
      obtain ⟨pj, X, Y, X0, Y0, rfl, epj, hXY, hlw, hwy⟩ : ∃ (pj : Addr) (X Y X0 Y0 : Int), v = .ref pj ∧ H4 pj = some (.tup [.int X, .int Y]) ∧ ((j = 0 ∧ X0 = t.2.2.1 ∧ Y0 = -t.2.1) ∨ (j = 1 ∧ X0 = -t.2.2.1 ∧ Y0 = t.2.1)) ∧ lowL [X0, Y0] = [X, Y] ∧ wayB ss X Y = wayB ss X0 Y0 := by
        match j, hj with
        | 0, h => cases h; exact ⟨p1, _, _, _, _, rfl, e41, .inl ⟨rfl, rfl, rfl⟩, l1, w1⟩
        | 1, h => cases h; exact ⟨p2, _, _, _, _, rfl, e42, .inr ⟨rfl, rfl, rfl⟩, l2, w2⟩
      have step : ∀ k, (k = lowL [X0, Y0] ∧ wayB ss X0 Y0 = true) ∨ (WK ss i k ∨ (1 < j ∧ k = lowL [-t.2.2.1, t.2.1] ∧ wayB ss (-t.2.2.1) t.2.1 = true) ∨ (0 < j ∧ k = lowL [t.2.2.1, -t.2.1] ∧ wayB ss t.2.2.1 (-t.2.1) = true)) ↔
          WK ss i k ∨ (1 < j + 1 ∧ k = lowL [-t.2.2.1, t.2.1] ∧ wayB ss (-t.2.2.1) t.2.1 = true) ∨ (0 < j + 1 ∧ k = lowL [t.2.2.1, -t.2.1] ∧ wayB ss t.2.2.1 (-t.2.1) = true) := fun k => by
        rcases hXY with ⟨rfl, rfl, rfl⟩ | ⟨rfl, rfl, rfl⟩
        · constructor
          · rintro (h | h | h | h)
            · exact .inr (.inr ⟨by decide, h⟩)
            · exact .inl h
            · exact absurd h.1 (by decide)
            · exact absurd h.1 (by decide)
          · rintro (h | h | h)
            · exact .inr (.inl h)
            · exact absurd h.1 (by decide)
            · exact .inl h.2
        · constructor
          · rintro (h | h | h | h)
            · exact .inr (.inl ⟨by decide, h⟩)
            · exact .inl h
            · exact absurd h.1 (by decide)
            · exact .inr (.inr ⟨by decide, h.2⟩)
          · rintro (h | h | h)
            · exact .inr (.inl h)
            · exact .inl h.2
            · exact .inr (.inr (.inr ⟨by decide, h.2⟩))
      refine ⟨pj, _, rfl, SqT.of epj, rfl, .int X, _, rfl, .int Y, _, rfl, rfl, ?_⟩
      have hl4 := s4.seq hl
      refine ⟨_, rfl, l, rfl, .inl ⟨⟨_, hl4⟩, fun cc D hD => comp_list0 (K := K) (a := l) (xs := sdRefs ss) (fun m σ ys H' => H' = upd H4 D (.lst ys) ∧ ys = ((ss.take m).map fun t => decide (t.2.1 * X + t.2.2.1 * Y ≤ 0)).map V.bl ∧ ∃ u v z : Option V, σ = [u, v, z, some (.int X), some (.int Y)])
        ⟨rfl, rfl, none, none, none, rfl⟩ (fun m σ ys H' _ ⟨e, _⟩ => by rw [e]; exact ⟨(same_new hD _).seq hl4, upd_same⟩) ?_ ?_⟩⟩
      · rintro m v σ ys H' hm ⟨rfl, rfl, u, v', z, rfl⟩
        obtain ⟨t', gt', rfl, hml⟩ := sdRefs_get hm
        obtain ⟨et', _, c1, c2, _⟩ := ok t' (List.mem_of_getElem? gt')
        refine ⟨t'.1, _, rfl, SqT.of (same_new hD _ _ _ (s4 _ _ et')), rfl, _, _, rfl, _, _, rfl, _, _, rfl, rfl, ?_⟩
        refine ⟨_, rfl, _, rfl, _, _, rfl, rfl, cm_l (by omega), _, rfl, _, rfl, _, _, rfl, rfl, cm_l (by omega), _, _, rfl, rfl, _, _, rfl, rfl, upd_same, small1000 (by rw [List.length_map, List.length_map, List.length_take]; omega), upd_upd, ?_, _, _, _, rfl⟩
        rw [take_snoc gt', List.map_append, List.map_append]
        rfl
      · rintro σ ys H' ⟨rfl, rfl, u, v', z, rfl⟩
        rw [sdRefs_length, List.take_length]
        refine ⟨D, _, rfl, SqL.of upd_same, ?_⟩
        rw [way_all, hwy]
        have sD := same_new hD (.lst ((ss.map fun t => decide (t.2.1 * X + t.2.2.1 * Y ≤ 0)).map V.bl))
        generalize upd H4 D (.lst ((ss.map fun t => decide (t.2.1 * X + t.2.2.1 * Y ≤ 0)).map V.bl)) = G5 at sD ⊢
        have eD5 := sD _ _ eD4
        refine ⟨_, rfl, ?_⟩
        by_cases hw : wayB ss X0 Y0 = true
        · rw [hw]
          refine iteT ?_
          refine ⟨_, rfl, _, rfl, _, rfl, (by show 2 ≤ sizeLine; decide), fun pk hpk => ?_⟩
          have s6 : Same G5 (upd G5 pk (.tup [.int X, .int Y])) := same_new hpk _
          have epk : upd G5 pk (.tup [.int X, .int Y]) pk = some (.tup [.int X, .int Y]) := upd_same
          generalize upd G5 pk (.tup [.int X, .int Y]) = G6 at s6 epk ⊢
          have eD6 := s6 _ _ eD5
          obtain ⟨ks', tk', mem', len'⟩ := tk.put [X, Y] (.bl true)
          have kl := tk.len
          refine ⟨d, _, rfl, DPut.t (k := keyI [X, Y]) eD6 (by rw [keyI_kV]; exact epk) (by rw [kl]; exact Nat.lt_of_le_of_lt (Nat.le_trans hks4 (show 2 * i + j ≤ 1000 by omega)) (by decide)), ?_⟩
          have keepT : ∀ (b : Addr) (xs : List V), G6 b = some (.tup xs) → upd G6 d (.dT (putK kvs (keyI [X, Y]) (.bl true))) b = some (.tup xs) := fun b xs e => by
            rw [upd_ne (ne_of e eD6 (by intro z; cases z))]
            exact e
          have s46 := sD.trans s6
          refine ⟨(s4.trans s46).putNew hd, keepT _ _ (s46 _ _ e4l), keepT _ _ (s46 _ _ e41), keepT _ _ (s46 _ _ e42), ⟨_, ks', upd_same, tk', by omega, fun k => ?_⟩, _, _, rfl⟩
          rw [mem' k, ← step k, ← mem k, hlw]
          constructor
          · rintro (h | h)
            · exact .inr h
            · exact .inl ⟨h, hw⟩
          · rintro (h | h)
            · exact .inr h.1
            · exact .inl h
        · have hw' : wayB ss X0 Y0 = false := by simpa using hw
          rw [hw']
          refine iteF ?_
          refine ⟨s4.trans sD, sD _ _ e4l, sD _ _ e41, sD _ _ e42, ⟨kvs, ks, eD5, tk, by omega, fun k => ?_⟩, _, _, rfl⟩
          rw [mem k, ← step k]
          constructor
          · exact .inr
          · rintro (h | h)
            · exact absurd h.2 hw
            · exact h
    · rintro σ H4 ⟨s4, _, _, _, ⟨kvs, ks, eD4, tk, hks4, mem⟩, u6, u7, rfl⟩
      refine ⟨s4, ⟨kvs, ks, eD4, tk, by show ks.length ≤ 2 * (i + 1); have : ks.length ≤ 2 * i + 2 := hks4; omega, fun k => ?_⟩, _, _, _, _, _, _, rfl⟩
      rw [mem k, WK_succ gt]
      constructor
      · rintro (h | h | h)
        · exact .inl h
        · exact .inr (.inl h.2)
        · exact .inr (.inr h.2)
      · rintro (h | h | h)
        · exact .inl h
        · exact .inr (.inl ⟨by show 1 < 2; decide, h⟩)
        · exact .inr (.inr ⟨by show 0 < 2; decide, h⟩)
  · rintro σ H' ⟨sH, ⟨kvs, ks, eD, tk, hks, mem⟩, u2, u3, u4, u5, u6, u7, rfl⟩
    rw [sdRefs_length] at hks mem
    refine ⟨_, rfl, d, kvs, rfl, eD, fun p1 ts hp1 ets hts => ?_⟩
    have sp1 := same_new hp1 (.lst ((ts.map (·.1)).map V.ref))
    obtain ⟨us, u1, u2, u3⟩ := tk.refs ets hts
    have few2 := ways_few (fun t ht => (ok t ht).2.1) tk.nodup fun k hk => (mem k).mp hk
    refine ⟨p1, us, 1, rfl, by rw [u1]; exact SqL.of upd_same, by have z := congrArg List.length u2; rw [List.length_map] at z; omega, fun t ht => ⟨sp1 _ _ (u3 t ht), ?_⟩, fun p2 us2 hp2 pm ri => ?_⟩
    · have z : t.2 ∈ ks := by rw [← u2]; exact List.mem_map_of_mem ht
      exact two t.2 ((mem _).mp z)
    have sp2 := same_new hp2 (.lst ((us2.map (·.1)).map V.ref))
    have pm2 : (us2.map (·.2)).Perm ks := by rw [← u2]; exact pm.map _
    refine q p2 us2 _ (((sH).trans sp1).trans sp2) ((sH).free (sp1.free hp2)) ⟨upd_same, fun u hu => sp2 _ _ (sp1 _ _ (u3 u (pm.mem_iff.mp hu))), List.pairwise_map.mpr ri, pm2.nodup_iff.mpr tk.nodup, fun k => (pm2.mem_iff).trans (mem k), by have z := pm2.length_eq; rw [List.length_map] at z; omega⟩
def sp_L_power (_ : PySem.W.Frag) : Sp := fun vs H Q _ => ∃ (n : Int), vs = [.int n] ∧ ∀ v : Int, 0 ≤ v → v < 1000003 → Q (.int v) H
theorem ok_L_power (F : Fun K "_law_power" "_law_power" s_L_power f fd) (Z : Zs mg) : FnOk P w K mg base CX0 1 f fd ["_law_number"] (sp_L_power K) := by
  refine F.ok sc_L_power (fun vs H Q E h => ?_) (fun cdv A outer s H vs Q E hr h => ?_)
  · obtain ⟨n, rfl, _⟩ := h
    rfl
  obtain ⟨n, rfl, q⟩ := h
  refine ⟨_, (pss_one (ps_ret (pe_op op_mod (pe_op op_pow (pe_op op_mod (pv 0) pe_int) pe_int) pe_int))), ?_⟩
  have h1 := Int.emod_nonneg n (show (1000003 : Int) ≠ 0 by decide)
  have h2 := Int.emod_lt_of_pos n (show (0 : Int) < 1000003 by decide)
  refine ⟨_, rfl, _, _, rfl, rfl, (by show (0 : Int) < 1000003; decide), _, _, rfl, rfl, ⟨by decide, by decide, by omega⟩, _, _, rfl, rfl, (by show (0 : Int) < 1000003; decide), ?_⟩
  exact q _ (Int.emod_nonneg _ (by decide)) (Int.emod_lt_of_pos _ (by decide))
def sp_L_draws (K : PySem.W.Frag) : Sp := fun vs H Q _ => ∃ (a : Addr) (ns : List Int) (many : Int), vs = [.ref a, .int many] ∧ SqL K H a (ns.map V.int) ∧ ns.length ≤ 63 ∧ 0 ≤ many ∧ many ≤ 500 ∧
  ∀ (r : Addr) (rows : List Int) (H' : Hp), Same H H' → H r = none → H' r = some (.lst (rows.map V.int)) → many ≤ rows.length → rows.length ≤ 600 → (∀ x ∈ rows, 0 ≤ x ∧ x < 1000003) → Q (.ref r) H'
structure DrawSt (H : Hp) (r c : Addr) (ms : List Int) (H' : Hp) (rows : List Int) : Prop where
  same : Same H H'
  src : H' c = some (.lst (ms.map V.int))
  at' : H' r = some (.lst (rows.map V.int))
  bd : ∀ x ∈ rows, 0 ≤ x ∧ x < 1000003
theorem DrawSt.app {H H' : Hp} {r c : Addr} {ms rows : List Int} {v : Int} (d : DrawSt H r c ms H' rows) (hr : H r = none) (hrc : c ≠ r) (h0 : 0 ≤ v) (h1 : v < 1000003) : DrawSt H r c ms (upd H' r (.lst (rows.map V.int ++ [.int v]))) (rows ++ [v]) := by
  refine ⟨fun b o e => ?_, ?_, ?_, fun x hx => ?_⟩
  · rw [upd_ne (ne_of_none e hr)]
    exact d.same b o e
  · rw [upd_ne hrc]
    exact d.src
  · rw [upd_same, List.map_append]
    rfl
  · rcases List.mem_append.mp hx with e | e
    · exact d.bd x e
    · rw [List.mem_singleton] at e
      rw [e]
      exact ⟨h0, h1⟩
theorem ok_L_draws (F : Fun K "_law_draws" "_law_draws" s_L_draws f fd) (Z : Zs mg) (h_L_power : Has P w K mg base "_law_power" 1 ["_law_number"] (sp_L_power K)) : FnOk P w K mg base CX0 2 f fd ["_law_script", "_law_many_here"] (sp_L_draws K) := by
  refine F.ok sc_L_draws (fun vs H Q E h => ?_) (fun cdv A outer s H vs Q E hr h => ?_)
  · obtain ⟨a, ns, many, rfl, _⟩ := h
    rfl
  obtain ⟨a, ns, many, rfl, hS, hl, hm0, hm1, q⟩ := h
  refine ⟨_, (pss_cons (ps_set (i := 2) sc_L_draws.nd rfl (Or.inl rfl) (pe_lst pa_nil))
      (pss_cons (ps_set (i := 3) sc_L_draws.nd rfl (Or.inl rfl) pe_int)
      (pss_cons (ps_for PassesOwn.never rfl (pi_list (pe_slice sl_list (pv 0) po_none (po_some pe_int))) (pg_name (i := 4) sc_L_draws.nd rfl (Or.inl rfl)) (pss_cons (ps_set (i := 3) sc_L_draws.nd rfl (Or.inl rfl) (pe_op op_mod (pe_op op_add (pe_op op_mul (pv 3) pe_int) (pv 4)) pe_int))
      (pss_cons (ps_set (i := 5) sc_L_draws.nd rfl (Or.inl rfl) (pe_callB call_abs rfl Z.abs bt_abs (pa_cons (pv 4) pa_nil)))
      (pss_cons (ps_if (pt_cmpR op_lt (pv 5) (pe_op op_pow pe_int pe_int) (nomark _)) (pss_cons (ps_expr (pe_bm PySem.F.plainAttrs_list PySem.F.slot_list_append PySem.F.type_list_append mt_append (pv 2) (pa_cons (pe_callH h_L_power (hr.mono (by decide)) rfl (pa_cons (pe_op op_add (pv 4) (pe_op op_mul pe_int (pe_callB call_len_seq rfl Z.len bt_len (pa_cons (pv 2) pa_nil)))) pa_nil)) pa_nil)))
      (pss_one (ps_set (i := 5) sc_L_draws.nd rfl (Or.inl rfl) pe_int))) pss_nil)
      (pss_one (ps_while PassesOwn.never (PW.pt (pw_and (pt_cmpR op_gt (pv 5) pe_int (nomark _)) (pw_and1 (pt_cmpR op_lt (pe_callB call_len_seq rfl Z.len bt_len (pa_cons (pv 2) pa_nil)) (pv 1) (nomark _))))) (pss_cons (ps_expr (pe_bm PySem.F.plainAttrs_list PySem.F.slot_list_append PySem.F.type_list_append mt_append (pv 2) (pa_cons (pe_op op_mod (pv 5) pe_int) pa_nil)))
      (pss_one (ps_set (i := 5) sc_L_draws.nd rfl (Or.inl rfl) (pe_op op_fdivP (pv 5) pe_int))))))))))
      (pss_cons (ps_while PassesOwn.never (pt_cmpR op_lt (pe_callB call_len_seq rfl Z.len bt_len (pa_cons (pv 2) pa_nil)) (pv 1) (nomark _)) (pss_cons (ps_set (i := 3) sc_L_draws.nd rfl (Or.inl rfl) (pe_op op_mod (pe_op op_add (pe_op op_mul (pv 3) pe_int) pe_int) pe_int))
      (pss_one (ps_expr (pe_bm PySem.F.plainAttrs_list PySem.F.slot_list_append PySem.F.type_list_append mt_append (pv 2) (pa_cons (pe_callH h_L_power (hr.mono (by decide)) rfl (pa_cons (pv 3) pa_nil)) pa_nil))))))
      (pss_one (ps_ret (pv 2))))))), ?_⟩
  refine ⟨(by show 0 ≤ sizeLine; decide), fun r hr0 => ?_⟩
  have S1 := same_new hr0 (.lst [])
  refine ⟨_, rfl, _, rfl, a, _, rfl, S1.seq hS, fun c hc => ⟨c, rfl, ⟨_, SqL.of upd_same⟩, ?_⟩⟩
  rw [cutV_ints]
  generalize hms : ((ns.drop (HT.sIx ns.length 0 none)).take (HT.sIx ns.length ns.length (some 63) - HT.sIx ns.length 0 none)) = ms
  have hml : ms.length ≤ 63 := by
    rw [← hms, List.length_take, List.length_drop]
    omega
  have hcr : c ≠ r := fun e => by
    rw [e, upd_same] at hc
    cases hc
  have hc0 : H c = none := S1.free hc
  refine for_list (K := K) (a := c) (xs := ms.map V.int) (fun i σ H' => ∃ (rows : List Int) (mix : Int) (u v : Option V), σ = [some (.ref a), some (.int many), some (.ref r), some (.int mix), u, v] ∧ DrawSt H r c ms H' rows ∧ 0 ≤ mix ∧ mix < 2147483647 ∧ rows.length ≤ many.toNat + i)
    ⟨[], 7, none, none, rfl, ⟨S1.trans (same_new hc _), upd_same, by rw [upd_ne (Ne.symm hcr), upd_same]; rfl, fun x hx => nomatch hx⟩, by decide, by decide, Nat.zero_le _⟩ (fun i σ H' _ ⟨_, _, _, _, _, d, _⟩ => SqL.of d.src) ?_ ?_
  · rintro i x σ H' hi ⟨rows, mix, u, v, rfl, d, hx0, hx1, hrl⟩
    obtain ⟨n, hn, rfl⟩ := mapInt_get hi
    have hi63 : i < 63 := Nat.lt_of_lt_of_le (List.getElem?_eq_some_iff.mp hn).1 hml
    refine ⟨_, rfl, _, _, rfl, rfl, .inr ⟨by decide, by decide⟩, _, rfl, _, _, rfl, rfl, _, _, rfl, rfl, (by show (0 : Int) < 2147483647; decide), ?_⟩
    have m0 := Int.emod_nonneg (mix * 48271 + n) (show (2147483647 : Int) ≠ 0 by decide)
    have m1 := Int.emod_lt_of_pos (mix * 48271 + n) (show (0 : Int) < 2147483647 by decide)
    refine ⟨_, rfl, n, rfl, ?_⟩
    have a0 : 0 ≤ (if n < 0 then -n else n) := by split <;> omega
    generalize (if n < 0 then -n else n) = rest at a0 ⊢
    refine ⟨_, rfl, _, _, rfl, rfl, ⟨by decide, by decide, by decide⟩, _, _, rfl, rfl, _, rfl, ?_⟩
    refine ifD (fun hsm => ?_) (fun hsm => ?_)
    · refine ⟨_, rfl, .inl ⟨rfl, _, SqL.of d.at'⟩, _, rfl, _, rfl, r, _, rfl, .inl (SqL.of d.at'), _, _, rfl, rfl, .inl ⟨by decide, by decide⟩, _, _, rfl, rfl, _, rfl, fun v v0 v1 => ?_⟩
      refine ⟨r, _, _, rfl, rfl, d.at', small1000 (by rw [List.length_map]; omega), ?_⟩
      have j0 : (0 : Int) ≤ 0 := Int.le_refl 0
      have j1 := d.app hr0 hcr v0 v1
      have j2 : (rows ++ [v]).length ≤ many.toNat + (i + 1) := by rw [List.length_append, List.length_singleton]; omega
      refine while_by (fun σ H2 => ∃ (rows : List Int) (rest : Int), σ = [some (.ref a), some (.int many), some (.ref r), some (.int ((mix * 48271 + n) % 2147483647)), some (.int n), some (.int rest)] ∧ 0 ≤ rest ∧ DrawSt H r c ms H2 rows ∧ rows.length ≤ many.toNat + (i + 1))
        (fun σ _ => match σ with | [_, _, _, _, _, some (.int z)] => z.toNat | _ => 0) ⟨_, _, rfl, j0, j1, j2⟩ ?_ (mo_and (mo_test (mo_op mo_i0 mo_var mo_c)) (mo_test (mo_op mo_i0 (mo_cb mo_len (mo_cons mo_var mo_nil)) mo_var)))
      rintro σ H2 ⟨rows, rest, rfl, r0, d2, l2⟩
      refine ⟨_, rfl, _, _, rfl, rfl, _, rfl, ?_⟩
      refine ifD (fun hpos => ?_) (fun hpos => ?_)
      · refine ⟨_, rfl, r, _, rfl, .inl (SqL.of d2.at'), _, rfl, _, _, rfl, rfl, _, rfl, ?_⟩
        refine ifD (fun hlt => ?_) (fun hlt => ?_)
        · have hlt' : ((rows.map V.int).length : Int) < many := hlt
          rw [List.length_map] at hlt'
          refine ⟨_, rfl, .inl ⟨rfl, _, SqL.of d2.at'⟩, _, rfl, _, _, rfl, rfl, (by show (0 : Int) < 1000003; decide), r, _, _, rfl, rfl, d2.at', small1000 (by rw [List.length_map]; omega), ?_⟩
          have v0 := Int.emod_nonneg rest (show (1000003 : Int) ≠ 0 by decide)
          have v1 := Int.emod_lt_of_pos rest (show (0 : Int) < 1000003 by decide)
          refine ⟨_, rfl, _, _, rfl, rfl, CDivP.of (by decide) (by decide +kernel), ⟨rows ++ [rest % 1000003], _, rfl, by omega, d2.app hr0 hcr v0 v1, by rw [List.length_append, List.length_singleton]; omega⟩, ?_⟩
          show (rest / 1000003).toNat < rest.toNat
          omega
        · exact ⟨rows, _, _, _, rfl, d2, m0, m1, l2⟩
      · exact ⟨rows, _, _, _, rfl, d2, m0, m1, l2⟩
    · have j0 := a0
      have j1 := d
      have j2 : rows.length ≤ many.toNat + (i + 1) := by omega
      refine while_by (fun σ H2 => ∃ (rows : List Int) (rest : Int), σ = [some (.ref a), some (.int many), some (.ref r), some (.int ((mix * 48271 + n) % 2147483647)), some (.int n), some (.int rest)] ∧ 0 ≤ rest ∧ DrawSt H r c ms H2 rows ∧ rows.length ≤ many.toNat + (i + 1))
        (fun σ _ => match σ with | [_, _, _, _, _, some (.int z)] => z.toNat | _ => 0) ⟨_, _, rfl, j0, j1, j2⟩ ?_ (mo_and (mo_test (mo_op mo_i0 mo_var mo_c)) (mo_test (mo_op mo_i0 (mo_cb mo_len (mo_cons mo_var mo_nil)) mo_var)))
      rintro σ H2 ⟨rows, rest, rfl, r0, d2, l2⟩
      refine ⟨_, rfl, _, _, rfl, rfl, _, rfl, ?_⟩
      refine ifD (fun hpos => ?_) (fun hpos => ?_)
      · refine ⟨_, rfl, r, _, rfl, .inl (SqL.of d2.at'), _, rfl, _, _, rfl, rfl, _, rfl, ?_⟩
        refine ifD (fun hlt => ?_) (fun hlt => ?_)
        · have hlt' : ((rows.map V.int).length : Int) < many := hlt
          rw [List.length_map] at hlt'
          refine ⟨_, rfl, .inl ⟨rfl, _, SqL.of d2.at'⟩, _, rfl, _, _, rfl, rfl, (by show (0 : Int) < 1000003; decide), r, _, _, rfl, rfl, d2.at', small1000 (by rw [List.length_map]; omega), ?_⟩
          have v0 := Int.emod_nonneg rest (show (1000003 : Int) ≠ 0 by decide)
          have v1 := Int.emod_lt_of_pos rest (show (0 : Int) < 1000003 by decide)
          refine ⟨_, rfl, _, _, rfl, rfl, CDivP.of (by decide) (by decide +kernel), ⟨rows ++ [rest % 1000003], _, rfl, by omega, d2.app hr0 hcr v0 v1, by rw [List.length_append, List.length_singleton]; omega⟩, ?_⟩
          show (rest / 1000003).toNat < rest.toNat
          omega
        · exact ⟨rows, _, _, _, rfl, d2, m0, m1, l2⟩
      · exact ⟨rows, _, _, _, rfl, d2, m0, m1, l2⟩
  · rintro σ H' ⟨rows, mix, u, v, rfl, d, hx0, hx1, hrl⟩
    rw [List.length_map] at hrl
    refine while_by (fun σ H2 => ∃ (rows : List Int) (mix : Int), σ = [some (.ref a), some (.int many), some (.ref r), some (.int mix), u, v] ∧ DrawSt H r c ms H2 rows ∧ 0 ≤ mix ∧ mix < 2147483647 ∧ rows.length ≤ many.toNat + 63 ∧ H2 r = some (.lst (rows.map V.int)))
      (fun σ H2 => match H2 r with | some (.lst xs) => many.toNat - xs.length | _ => 0) ⟨rows, mix, rfl, d, hx0, hx1, by omega, d.at'⟩ ?_ (mo_test (mo_op mo_i0 (mo_cb mo_len (mo_cons mo_var mo_nil)) mo_var))
    rintro σ H2 ⟨rows, mix, rfl, d2, hx0, hx1, l2, ha2⟩
    refine ⟨_, rfl, r, _, rfl, .inl (SqL.of d2.at'), _, rfl, _, _, rfl, rfl, _, rfl, ?_⟩
    refine ifD (fun hlt => ?_) (fun hlt => ?_)
    · have hlt' : ((rows.map V.int).length : Int) < many := hlt
      rw [List.length_map] at hlt'
      refine ⟨_, rfl, _, _, rfl, rfl, .inr ⟨by decide, by decide⟩, _, _, rfl, rfl, _, _, rfl, rfl, (by show (0 : Int) < 2147483647; decide), ?_⟩
      have m0 := Int.emod_nonneg (mix * 48271 + 11) (show (2147483647 : Int) ≠ 0 by decide)
      have m1 := Int.emod_lt_of_pos (mix * 48271 + 11) (show (0 : Int) < 2147483647 by decide)
      refine ⟨_, rfl, .inl ⟨rfl, _, SqL.of d2.at'⟩, _, rfl, _, rfl, fun v v0 v1 => ?_⟩
      refine ⟨r, _, _, rfl, rfl, d2.at', small1000 (by rw [List.length_map]; omega), ⟨rows ++ [v], _, rfl, d2.app hr0 hcr v0 v1, m0, m1, by rw [List.length_append, List.length_singleton]; omega, (d2.app hr0 hcr v0 v1).at'⟩, ?_⟩
      rw [ha2, upd_same]
      show many.toNat - (rows.map V.int ++ [V.int v]).length < many.toNat - (rows.map V.int).length
      rw [List.length_append, List.length_map, List.length_singleton]
      omega
    · have hlt' : ¬ ((rows.map V.int).length : Int) < many := hlt
      rw [List.length_map] at hlt'
      exact ⟨_, rfl, q r rows H2 d2.same hr0 d2.at' (by omega) (by omega) d2.bd⟩
def sp_L_many (_ : PySem.W.Frag) : Sp := fun vs H Q _ => ∃ (x y few most : Int), vs = [.int x, .int y, .int few, .int most] ∧ 0 ≤ few ∧ 0 ≤ most ∧ ∀ (v : Int), 0 ≤ v → (v ≤ few ∨ v ≤ most) → Q (.int v) H
theorem ok_L_many (F : Fun K "_law_many" "_law_many" s_L_many f fd) (Z : Zs mg)  : FnOk P w K mg base CX0 1 f fd ["_law_one", "_law_two", "_law_few", "_law_most"] (sp_L_many K) := by
  refine F.ok sc_L_many (fun vs H Q E h => ?_) (fun cdv A outer s H vs Q E hr h => ?_)
  · obtain ⟨x, y, few, most, rfl, _⟩ := h
    rfl
  obtain ⟨x, y, few, most, rfl, h1, h2, q⟩ := h
  refine ⟨_, (pss_cons (ps_if (pt_cmpR op_eq (pe_op op_mod (pv 1) pe_int) pe_int (nomark _)) (pss_one (ps_ret (pe_op op_mod (pv 0) (pe_op op_add (pv 3) pe_int)))) pss_nil)
      (pss_one (ps_ret (pe_op op_mod (pv 0) (pe_op op_add (pv 2) pe_int))))), ?_⟩
  have g1 : (0 : Int) < most + 1 := by omega
  have g2 : (0 : Int) < few + 1 := by omega
  have m1 := Int.emod_nonneg x (show most + 1 ≠ 0 by omega)
  have m2 := Int.emod_lt_of_pos x g1
  have m3 := Int.emod_nonneg x (show few + 1 ≠ 0 by omega)
  have m4 := Int.emod_lt_of_pos x g2
  refine ⟨_, rfl, _, _, rfl, rfl, (by show (0 : Int) < 8; decide), rfl, _, rfl, ?_⟩
  refine ifE (fun _ => ?_) (fun _ => ?_)
  · exact ⟨_, rfl, _, rfl, _, _, rfl, rfl, _, _, rfl, rfl, g1, q _ m1 (.inr (by omega))⟩
  · exact ⟨_, rfl, _, rfl, _, _, rfl, rfl, _, _, rfl, rfl, g2, q _ m3 (.inl (by omega))⟩
def Small (ss : List Sd) (m : Nat) : Prop := ∀ t ∈ ss, t.2.1.natAbs ≤ 3 * 10 ^ 8 ∧ t.2.2.1.natAbs ≤ 3 * 10 ^ 8 ∧ t.2.2.2.natAbs ≤ m
def sp_L_tight (K : PySem.W.Frag) : Sp := fun vs H Q _ => ∃ (r l : Addr) (rows : List Int) (ss : List Sd), vs = [.ref r, .ref l] ∧ SqL K H r (rows.map V.int) ∧ 2 ≤ rows.length ∧ (∀ x ∈ rows, 0 ≤ x ∧ x < 1000003) ∧ H l = some (.lst (sdRefs ss)) ∧ SdOk H ss ∧ ss.length ≤ 900 ∧ Small ss (3 * 10 ^ 12) ∧
  ∀ (l' : Addr) (ss' : List Sd) (H' : Hp), Same H H' → H' l' = some (.lst (sdRefs ss')) → ss'.length = ss.length → SdOk H' ss' → Small ss' (4 * 10 ^ 12) → Q (.ref l') H'
theorem ok_L_tight (F : Fun K "_law_tight" "_law_tight" s_L_tight f fd) (Z : Zs mg)  : FnOk P w K mg base CX0 1 f fd ["_law_some", "_law_sides_here"] (sp_L_tight K) := by
  refine F.ok sc_L_tight (fun vs H Q E h => ?_) (fun cdv A outer s H vs Q E hr h => ?_)
  · obtain ⟨r, l, rows, ss, rfl, _⟩ := h
    rfl
  obtain ⟨r, l, rows, ss, rfl, hS, h2, bd, el, ok, hlen, bnd, q⟩ := h
  refine ⟨_, (pss_cons (ps_if (pt_cmpR op_eq (pe_op op_mod (pe_ix ix_any (pv 0) pe_int (fun _ _ => rfl)) pe_int) pe_int (nomark _)) (pss_one (ps_ret (pv 1))) pss_nil)
      (pss_cons (ps_if (pt_cmpR op_eq (pe_op op_mod (pe_ix ix_any (pv 0) pe_int (fun _ _ => rfl)) pe_int) pe_int (nomark _)) (pss_one (ps_ret (pe_comp (T := ["_law_a", "_law_b", "_law_c"]) (caps := []) ⟨rfl, by decide +kernel, by decide +kernel, rfl, True.intro⟩ rfl (pi_seq (pv 1)) (fun _ => (pg_tup rfl (pgs_cons (pg_name (i := 0) (show (["_law_a", "_law_b", "_law_c"] : List Str).Nodup by decide +kernel) rfl (Or.inl rfl)) (pgs_cons (pg_name (i := 1) (show (["_law_a", "_law_b", "_law_c"] : List Str).Nodup by decide +kernel) rfl (Or.inl rfl)) (pgs_cons (pg_name (i := 2) (show (["_law_a", "_law_b", "_law_c"] : List Str).Nodup by decide +kernel) rfl (Or.inl rfl)) pgs_nil))))) (fun _ => pifs_nil) (fun _ => (pe_tup (pa_cons (pv 0) (pa_cons (pv 1) (pa_cons (pe_op op_sub (pe_op op_sub (pv 2) (pe_callB call_abs rfl Z.abs bt_abs (pa_cons (pv 0) pa_nil))) (pe_callB call_abs rfl Z.abs bt_abs (pa_cons (pv 1) pa_nil))) pa_nil)))))))) pss_nil)
      (pss_one (ps_ret (pe_comp (T := ["_law_a", "_law_b", "_law_c"]) (caps := [("_law_some", 0)]) ⟨rfl, by decide +kernel, by decide +kernel, rfl, ⟨⟨rfl, rfl, Or.inl rfl⟩, True.intro⟩⟩ rfl (pi_seq (pv 1)) (fun _ => (pg_tup rfl (pgs_cons (pg_name (i := 0) (show (["_law_a", "_law_b", "_law_c", "_law_some"] : List Str).Nodup by decide +kernel) rfl (Or.inl rfl)) (pgs_cons (pg_name (i := 1) (show (["_law_a", "_law_b", "_law_c", "_law_some"] : List Str).Nodup by decide +kernel) rfl (Or.inl rfl)) (pgs_cons (pg_name (i := 2) (show (["_law_a", "_law_b", "_law_c", "_law_some"] : List Str).Nodup by decide +kernel) rfl (Or.inl rfl)) pgs_nil))))) (fun _ => pifs_nil) (fun _ => (pe_tup (pa_cons (pv 0) (pa_cons (pv 1) (pa_cons (pe_op op_add (pe_callB call_abs rfl Z.abs bt_abs (pa_cons (pv 2) pa_nil)) (pe_op op_mod (pe_ix ix_any (pv 3) pe_int (fun _ _ => rfl)) pe_int)) pa_nil)))))))))), ?_⟩
  obtain ⟨v0, a0, _⟩ := row_at bd (k := 0) (by decide) (by omega)
  obtain ⟨v1, a1, w0, w1⟩ := row_at bd (k := 1) (by decide) (by omega)
  refine ⟨_, rfl, r, _, _, _, rfl, rfl, .inl hS, a0, _, _, rfl, rfl, (by show (0 : Int) < 3; decide), rfl, _, rfl, ?_⟩
  refine ifE (fun _ => ?_) (fun _ => ?_)
  · exact ⟨_, rfl, q l ss H (Same.refl _) el rfl ok fun t ht => ⟨(bnd t ht).1, (bnd t ht).2.1, by have := (bnd t ht).2.2; omega⟩⟩
  refine ⟨_, rfl, r, _, _, _, rfl, rfl, .inl hS, a0, _, _, rfl, rfl, (by show (0 : Int) < 3; decide), rfl, _, rfl, ?_⟩
  refine ifE (fun _ => ?_) (fun _ => ?_)
  · show _
    refine ⟨_, rfl, l, rfl, .inl ⟨⟨_, SqL.of el⟩, fun cc D hD => comp_list0 (K := K) (a := l) (xs := sdRefs ss) (fun i σ ys G => ∃ sa : List Sd, ys = sdRefs sa ∧ sa.length = i ∧ SdSt H D sa G ∧ Small sa (4 * 10 ^ 12) ∧ ∃ u0 u1 u2 : Option V, σ = [u0, u1, u2])
      ⟨[], rfl, rfl, ⟨same_new hD _, hD, upd_same, (fun t ht => nomatch ht)⟩, (fun t ht => nomatch ht), none, none, none, rfl⟩ (fun i σ ys G _ ⟨sa, e1, _, Pq, _⟩ => ⟨SqL.of (Pq.same _ _ el), by rw [e1]; exact Pq.at'⟩) ?_ ?_⟩⟩
    · rintro i x σ ys Gc hi ⟨sa, rfl, na, Pc, bc, u0, u1, u2, rfl⟩
      obtain ⟨t, gt, rfl, hil⟩ := sdRefs_get hi
      obtain ⟨et, nt, _⟩ := ok t (List.mem_of_getElem? gt)
      obtain ⟨b1, b2, b3⟩ := bnd t (List.mem_of_getElem? gt)
      refine ⟨t.1, _, rfl, SqT.of (Pc.same _ _ et), rfl, .int t.2.1, _, rfl, .int t.2.2.1, _, rfl, .int t.2.2.2, _, rfl, rfl, ?_⟩
      have nb : (t.2.2.2 - (if t.2.1 < 0 then -t.2.1 else t.2.1) - (if t.2.2.1 < 0 then -t.2.2.1 else t.2.2.1)).natAbs ≤ 4 * 10 ^ 12 := by
        split <;> first | omega | (split <;> omega)
      refine ⟨_, rfl, _, rfl, _, rfl, _, rfl, _, rfl, _, _, rfl, rfl, _, rfl, _, rfl, _, _, rfl, rfl, (by show 3 ≤ sizeLine; decide), fun p hp => ?_⟩
      have sp := same_new hp (.tup [.int t.2.1, .int t.2.2.1, .int (t.2.2.2 - (if t.2.1 < 0 then -t.2.1 else t.2.1) - (if t.2.2.1 < 0 then -t.2.2.1 else t.2.2.1))])
      refine ⟨sp _ _ Pc.at', small1000 (by rw [sdRefs_length]; omega), sa ++ [(p, t.2.1, t.2.2.1, (t.2.2.2 - (if t.2.1 < 0 then -t.2.1 else t.2.1) - (if t.2.2.1 < 0 then -t.2.2.1 else t.2.2.1)))], by simp [sdRefs], by rw [List.length_append, na]; rfl, Pc.app sp hp upd_same nt (by omega) (by omega) (by omega), fun u hu => (List.mem_append.mp hu).elim (bc u) fun h => by rw [List.mem_singleton] at h; subst h; exact ⟨b1, b2, nb⟩, _, _, _, rfl⟩
    · rintro σ ys Gc ⟨sa, rfl, na, Pc, bc, u0, u1, u2, rfl⟩
      rw [sdRefs_length] at na
      exact q D sa Gc Pc.same Pc.at' na Pc.all bc
  · show _
    refine ⟨_, rfl, l, rfl, .inl ⟨⟨_, SqL.of el⟩, fun cc D hD => comp_list0 (K := K) (a := l) (xs := sdRefs ss) (fun i σ ys G => ∃ sa : List Sd, ys = sdRefs sa ∧ sa.length = i ∧ SdSt H D sa G ∧ Small sa (4 * 10 ^ 12) ∧ ∃ u0 u1 u2 : Option V, σ = [u0, u1, u2, some (.ref r)])
      ⟨[], rfl, rfl, ⟨same_new hD _, hD, upd_same, (fun t ht => nomatch ht)⟩, (fun t ht => nomatch ht), none, none, none, rfl⟩ (fun i σ ys G _ ⟨sa, e1, _, Pq, _⟩ => ⟨SqL.of (Pq.same _ _ el), by rw [e1]; exact Pq.at'⟩) ?_ ?_⟩⟩
    · rintro i x σ ys Gc hi ⟨sa, rfl, na, Pc, bc, u0, u1, u2, rfl⟩
      obtain ⟨t, gt, rfl, hil⟩ := sdRefs_get hi
      obtain ⟨et, nt, _⟩ := ok t (List.mem_of_getElem? gt)
      obtain ⟨b1, b2, b3⟩ := bnd t (List.mem_of_getElem? gt)
      refine ⟨t.1, _, rfl, SqT.of (Pc.same _ _ et), rfl, .int t.2.1, _, rfl, .int t.2.2.1, _, rfl, .int t.2.2.2, _, rfl, rfl, ?_⟩
      have nb : ((if t.2.2.2 < 0 then -t.2.2.2 else t.2.2.2) + v1 % 4).natAbs ≤ 4 * 10 ^ 12 := by
        split <;> first | omega | (split <;> omega)
      refine ⟨_, rfl, _, rfl, _, rfl, _, rfl, _, rfl, r, _, _, _, rfl, rfl, .inl (Pc.same.seq hS), a1, _, _, rfl, rfl, (by show (0 : Int) < 4; decide), _, _, rfl, rfl, (by show 3 ≤ sizeLine; decide), fun p hp => ?_⟩
      have sp := same_new hp (.tup [.int t.2.1, .int t.2.2.1, .int ((if t.2.2.2 < 0 then -t.2.2.2 else t.2.2.2) + v1 % 4)])
      refine ⟨sp _ _ Pc.at', small1000 (by rw [sdRefs_length]; omega), sa ++ [(p, t.2.1, t.2.2.1, ((if t.2.2.2 < 0 then -t.2.2.2 else t.2.2.2) + v1 % 4))], by simp [sdRefs], by rw [List.length_append, na]; rfl, Pc.app sp hp upd_same nt (by omega) (by omega) (by omega), fun u hu => (List.mem_append.mp hu).elim (bc u) fun h => by rw [List.mem_singleton] at h; subst h; exact ⟨b1, b2, nb⟩, _, _, _, rfl⟩
    · rintro σ ys Gc ⟨sa, rfl, na, Pc, bc, u0, u1, u2, rfl⟩
      rw [sdRefs_length] at na
      exact q D sa Gc Pc.same Pc.at' na Pc.all bc
def sp_L_way (_ : PySem.W.Frag) : Sp := fun vs H Q _ => ∃ (o t wd : Int), vs = [.int o, .int t, .int wd] ∧ 1 ≤ wd ∧ wd ≤ 1000000 ∧
  ∀ (p : Addr) (x y : Int) (H' : Hp), Same H H' → H p = none → H' p = some (.tup [.int x, .int y]) → (x ≠ 0 ∨ y ≠ 0) → x.natAbs ≤ wd.natAbs → y.natAbs ≤ wd.natAbs → Q (.ref p) H'
theorem ok_L_way (F : Fun K "_law_way" "_law_way" s_L_way f fd) (Z : Zs mg)  : FnOk P w K mg base CX0 1 f fd ["_law_one", "_law_two", "_law_wide"] (sp_L_way K) := by
  refine F.ok sc_L_way (fun vs H Q E h => ?_) (fun cdv A outer s H vs Q E hr h => ?_)
  · obtain ⟨o, t, wd, rfl, _⟩ := h
    rfl
  obtain ⟨o, t, wd, rfl, w1, w2, q⟩ := h
  refine ⟨_, (pss_cons (ps_set (i := 3) sc_L_way.nd rfl (Or.inl rfl) (pe_op op_sub (pe_op op_mod (pv 0) (pe_op op_add (pe_op op_mul pe_int (pv 2)) pe_int)) (pv 2)))
      (pss_cons (ps_set (i := 4) sc_L_way.nd rfl (Or.inl rfl) (pe_op op_sub (pe_op op_mod (pv 1) (pe_op op_add (pe_op op_mul pe_int (pv 2)) pe_int)) (pv 2)))
      (pss_cons (ps_if (PW.pt (pw_and (pt_cmpR op_eq (pv 3) pe_int (nomark _)) (pw_and1 (pt_cmpR op_eq (pv 4) pe_int (nomark _))))) (pss_one (ps_set (i := 3) sc_L_way.nd rfl (Or.inl rfl) (pe_op op_sub pe_int (pe_op op_mul pe_int (pe_op op_mod (pv 0) pe_int))))) pss_nil)
      (pss_one (ps_ret (pe_tup (pa_cons (pv 3) (pa_cons (pv 4) pa_nil)))))))), ?_⟩
  have x0 := Int.emod_nonneg o (show 2 * wd + 1 ≠ 0 by omega)
  have x1 := Int.emod_lt_of_pos o (show 0 < 2 * wd + 1 by omega)
  have y0 := Int.emod_nonneg t (show 2 * wd + 1 ≠ 0 by omega)
  have y1 := Int.emod_lt_of_pos t (show 0 < 2 * wd + 1 by omega)
  refine ⟨_, rfl, _, rfl, _, _, rfl, rfl, .inl ⟨by decide, by decide⟩, _, _, rfl, rfl, _, _, rfl, rfl, (by show 0 < 2 * wd + 1; omega), _, rfl, _, _, rfl, rfl, ?_⟩
  refine ⟨_, rfl, _, rfl, _, _, rfl, rfl, .inl ⟨by decide, by decide⟩, _, _, rfl, rfl, _, _, rfl, rfl, (by show 0 < 2 * wd + 1; omega), _, rfl, _, _, rfl, rfl, ?_⟩
  refine ⟨_, rfl, rfl, _, rfl, ?_⟩
  refine ifE (fun hx => ?_) (fun hx => ?_)
  · refine ⟨_, rfl, rfl, _, rfl, ?_⟩
    refine ifE (fun hy => ?_) (fun hy => ?_)
    · refine ⟨_, rfl, _, _, rfl, rfl, (by show (0 : Int) < 2; decide), _, _, rfl, rfl, .inl ⟨by decide, by decide⟩, _, _, rfl, rfl, ?_⟩
      refine ⟨_, rfl, _, rfl, (by show 2 ≤ sizeLine; decide), fun p hp => ?_⟩
      exact q p _ _ _ (same_new hp _) hp upd_same (by left; omega) (by omega) (by omega)
    · refine ⟨_, rfl, _, rfl, (by show 2 ≤ sizeLine; decide), fun p hp => ?_⟩
      exact q p _ _ _ (same_new hp _) hp upd_same (.inr hy) (by omega) (by omega)
  · refine iteF ?_
    refine ⟨_, rfl, _, rfl, (by show 2 ≤ sizeLine; decide), fun p hp => ?_⟩
    exact q p _ _ _ (same_new hp _) hp upd_same (.inl hx) (by omega) (by omega)
def sp_L_side (K : PySem.W.Frag) : Sp := fun vs H Q _ => ∃ (a : Addr) (rows : List Int), vs = [.ref a] ∧ SqL K H a (rows.map V.int) ∧ 5 ≤ rows.length ∧ (∀ x ∈ rows, 0 ≤ x ∧ x < 1000003) ∧
  ∀ (p : Addr) (A B C : Int) (H' : Hp), Same H H' → H p = none → H' p = some (.tup [.int A, .int B, .int C]) → (A ≠ 0 ∨ B ≠ 0) → A.natAbs ≤ 10 ^ 7 → B.natAbs ≤ 10 ^ 7 → C.natAbs ≤ 10 ^ 10 → Q (.ref p) H'
theorem ok_L_side (F : Fun K "_law_side" "_law_side" s_L_side f fd) (Z : Zs mg) (h_L_way : Has P w K mg base "_law_way" 1 ["_law_one", "_law_two", "_law_wide"] (sp_L_way K)) : FnOk P w K mg base CX0 2 f fd ["_law_d"] (sp_L_side K) := by
  refine F.ok sc_L_side (fun vs H Q E h => ?_) (fun cdv A outer s H vs Q E hr h => ?_)
  · obtain ⟨a, rows, rfl, _⟩ := h
    rfl
  obtain ⟨a, rows, rfl, hS, hl, bd, q⟩ := h
  refine ⟨_, (pss_cons (ps_asg (pe_callH h_L_way (hr.mono (by decide)) rfl (pa_cons (pe_ix ix_any (pv 0) pe_int (fun _ _ => rfl)) (pa_cons (pe_ix ix_any (pv 0) pe_int (fun _ _ => rfl)) (pa_cons (pe_ix ix_any (pe_lst (pa_cons pe_int (pa_cons pe_int (pa_cons pe_int (pa_cons pe_int (pa_cons pe_int pa_nil)))))) (pe_op op_mod (pe_ix ix_any (pv 0) pe_int (fun _ _ => rfl)) pe_int) (fun _ _ => rfl)) pa_nil)))) (pg_tup rfl (pgs_cons (pg_name (i := 1) sc_L_side.nd rfl (Or.inl rfl)) (pgs_cons (pg_name (i := 2) sc_L_side.nd rfl (Or.inl rfl)) pgs_nil))))
      (pss_cons (ps_set (i := 3) sc_L_side.nd rfl (Or.inl rfl) (pe_op op_sub (pe_op op_mod (pe_ix ix_any (pv 0) pe_int (fun _ _ => rfl)) pe_int) pe_int))
      (pss_cons (ps_if (pt_cmpR op_eq (pe_op op_mod (pe_ix ix_any (pv 0) pe_int (fun _ _ => rfl)) pe_int) pe_int (nomark _)) (pss_one (ps_set (i := 3) sc_L_side.nd rfl (Or.inl rfl) (pe_op op_sub (pe_op op_mod (pe_ix ix_any (pv 0) pe_int (fun _ _ => rfl)) pe_int) pe_int))) pss_nil)
      (pss_cons (ps_if (pt_cmpR op_eq (pe_op op_mod (pe_ix ix_any (pv 0) pe_int (fun _ _ => rfl)) pe_int) pe_int (nomark _)) (pss_one (ps_set (i := 3) sc_L_side.nd rfl (Or.inl rfl) (pe_op op_add (pe_op op_mul (pv 1) (pe_op op_sub (pe_op op_mod (pe_ix ix_any (pv 0) pe_int (fun _ _ => rfl)) pe_int) pe_int)) (pe_op op_mul (pv 2) (pe_op op_sub (pe_op op_mod (pe_op op_fdivP (pe_ix ix_any (pv 0) pe_int (fun _ _ => rfl)) pe_int) pe_int) pe_int))))) pss_nil)
      (pss_cons (ps_if (pt_cmpR op_eq (pe_op op_mod (pe_op op_fdivP (pe_ix ix_any (pv 0) pe_int (fun _ _ => rfl)) pe_int) pe_int) pe_int (nomark _)) (pss_one (ps_ret (pe_tup (pa_cons (pe_op op_sub (pe_op op_add (pe_op op_mul pe_int (pv 1)) (pe_op op_mod (pe_ix ix_any (pv 0) pe_int (fun _ _ => rfl)) pe_int)) pe_int) (pa_cons (pe_op op_sub (pe_op op_add (pe_op op_mul pe_int (pv 2)) (pe_op op_mod (pe_ix ix_any (pv 0) pe_int (fun _ _ => rfl)) pe_int)) pe_int) (pa_cons (pe_op op_add (pe_op op_mul pe_int (pv 3)) (pe_op op_mod (pe_ix ix_any (pv 0) pe_int (fun _ _ => rfl)) pe_int)) pa_nil)))))) pss_nil)
      (pss_one (ps_ret (pe_tup (pa_cons (pv 1) (pa_cons (pv 2) (pa_cons (pv 3) pa_nil))))))))))), ?_⟩
  obtain ⟨v0, a0, b00, b01⟩ := row_at bd (k := 0) (by decide) (by omega)
  obtain ⟨v1, a1, b10, b11⟩ := row_at bd (k := 1) (by decide) (by omega)
  obtain ⟨v2, a2, b20, b21⟩ := row_at bd (k := 2) (by decide) (by omega)
  obtain ⟨v3, a3, b30, b31⟩ := row_at bd (k := 3) (by decide) (by omega)
  obtain ⟨v4, a4, b40, b41⟩ := row_at bd (k := 4) (by decide) (by omega)
  refine ⟨_, rfl, a, _, _, _, rfl, rfl, .inl hS, a0, _, rfl, a, _, _, _, rfl, rfl, .inl hS, a1, (by show 5 ≤ sizeLine; decide), fun c hc => ?_⟩
  have s1 := same_new hc (.lst [.int 3, .int 3, .int 3, .int 100, .int 2000])
  obtain ⟨wd, hw, hw1, hw2⟩ : ∃ b : Int, atI [V.int 3, V.int 3, V.int 3, V.int 100, V.int 2000] (v4 % 5) = some (.int b) ∧ 1 ≤ b ∧ b ≤ 2000 := by
    have c0 := Int.emod_nonneg v4 (show (5 : Int) ≠ 0 by decide)
    have c1 := Int.emod_lt_of_pos v4 (show (0 : Int) < 5 by decide)
    have cc : v4 % 5 = 0 ∨ v4 % 5 = 1 ∨ v4 % 5 = 2 ∨ v4 % 5 = 3 ∨ v4 % 5 = 4 := by omega
    rcases cc with e | e | e | e | e
    · exact ⟨3, by rw [e]; rfl, by decide, by decide⟩
    · exact ⟨3, by rw [e]; rfl, by decide, by decide⟩
    · exact ⟨3, by rw [e]; rfl, by decide, by decide⟩
    · exact ⟨100, by rw [e]; rfl, by decide, by decide⟩
    · exact ⟨2000, by rw [e]; rfl, by decide, by decide⟩
  refine ⟨_, rfl, a, _, _, _, rfl, rfl, .inl (s1.seq hS), a4, _, _, rfl, rfl, (by show (0 : Int) < 5; decide), c, _, _, .int wd, rfl, rfl, .inl (SqL.of upd_same), hw, v0, v1, wd, rfl, hw1, by omega, fun p x y H2 s2' hp e2 hn n1 n2 => ?_⟩
  have s2 := s1.trans s2'
  have mx : x.natAbs ≤ 2000 := by omega
  have my : y.natAbs ≤ 2000 := by omega
  refine ⟨p, [.int x, .int y], rfl, SqT.of e2, rfl, .int x, [.int y], rfl, .int y, [], rfl, rfl, ?_⟩
  refine ⟨_, rfl, a, _, _, _, rfl, rfl, .inl (s2.seq hS), a2, _, _, rfl, rfl, (by show (0 : Int) < 19; decide), _, _, rfl, rfl, ?_⟩
  refine ⟨_, rfl, a, _, _, _, rfl, rfl, .inl (s2.seq hS), a3, _, _, rfl, rfl, (by show (0 : Int) < 4; decide), rfl, _, rfl, ?_⟩
  refine ifE (fun _ => ?_) (fun _ => ?_)
  · refine ⟨_, rfl, a, _, _, _, rfl, rfl, .inl (s2.seq hS), a2, _, _, rfl, rfl, (by show (0 : Int) < 1000001; decide), _, _, rfl, rfl, ?_⟩
    refine ⟨_, rfl, a, _, _, _, rfl, rfl, .inl (s2.seq hS), a3, _, _, rfl, rfl, (by show (0 : Int) < 4; decide), rfl, _, rfl, ?_⟩
    refine ifE (fun _ => ?_) (fun _ => ?_)
    · refine ⟨_, rfl, _, rfl, a, _, _, _, rfl, rfl, .inl (s2.seq hS), a2, _, _, rfl, rfl, (by show (0 : Int) < 9; decide), _, _, rfl, rfl, _, _, rfl, rfl, cm_l (by omega),
        _, rfl, _, rfl, a, _, _, _, rfl, rfl, .inl (s2.seq hS), a2, _, _, rfl, rfl, CDivP.of (by decide) (by decide +kernel), _, _, rfl, rfl, (by show (0 : Int) < 9; decide), _, _, rfl, rfl, _, _, rfl, rfl, cm_l (by omega), _, _, rfl, rfl, ?_⟩
      have z1 := natAbs_mul_le x (v2 % 9 - 4) (m := 2000) (n := 4) mx (by omega)
      have z2 := natAbs_mul_le y (v2 / 9 % 9 - 4) (m := 2000) (n := 4) my (by omega)
      have mc : ((x * (v2 % 9 - 4) + y * (v2 / 9 % 9 - 4))).natAbs ≤ 1000000 := by omega
      refine ⟨_, rfl, a, _, _, _, rfl, rfl, .inl (s2.seq hS), a4, _, _, rfl, rfl, CDivP.of (by decide) (by decide +kernel), _, _, rfl, rfl, (by show (0 : Int) < 12; decide), rfl, _, rfl, ?_⟩
      refine ifE (fun _ => ?_) (fun _ => ?_)
      · refine ⟨_, rfl, _, _, rfl, rfl, .inl ⟨by decide, by decide⟩, _, rfl, a, _, _, _, rfl, rfl, .inl (s2.seq hS), a0, _, _, rfl, rfl, (by show (0 : Int) < 5; decide), _, _, rfl, rfl, _, _, rfl, rfl,
          _, rfl, _, _, rfl, rfl, .inl ⟨by decide, by decide⟩, _, rfl, a, _, _, _, rfl, rfl, .inl (s2.seq hS), a1, _, _, rfl, rfl, (by show (0 : Int) < 5; decide), _, _, rfl, rfl, _, _, rfl, rfl,
          _, rfl, _, _, rfl, rfl, .inl ⟨by decide, by decide⟩, _, rfl, a, _, _, _, rfl, rfl, .inl (s2.seq hS), a3, _, _, rfl, rfl, (by show (0 : Int) < 900; decide), _, _, rfl, rfl, (by show 3 ≤ sizeLine; decide), fun r hr0 => ?_⟩
        exact q r _ _ _ _ (s2.trans (same_new hr0 _)) (s2.free hr0) upd_same (by omega) (by omega) (by omega) (by omega)
      · refine ⟨_, rfl, _, rfl, _, rfl, (by show 3 ≤ sizeLine; decide), fun r hr0 => ?_⟩
        exact q r _ _ _ _ (s2.trans (same_new hr0 _)) (s2.free hr0) upd_same hn (by omega) (by omega) (by omega)
    · skip
      have mc : ((v2 % 1000001 - 300000)).natAbs ≤ 1000000 := by omega
      refine ⟨_, rfl, a, _, _, _, rfl, rfl, .inl (s2.seq hS), a4, _, _, rfl, rfl, CDivP.of (by decide) (by decide +kernel), _, _, rfl, rfl, (by show (0 : Int) < 12; decide), rfl, _, rfl, ?_⟩
      refine ifE (fun _ => ?_) (fun _ => ?_)
      · refine ⟨_, rfl, _, _, rfl, rfl, .inl ⟨by decide, by decide⟩, _, rfl, a, _, _, _, rfl, rfl, .inl (s2.seq hS), a0, _, _, rfl, rfl, (by show (0 : Int) < 5; decide), _, _, rfl, rfl, _, _, rfl, rfl,
          _, rfl, _, _, rfl, rfl, .inl ⟨by decide, by decide⟩, _, rfl, a, _, _, _, rfl, rfl, .inl (s2.seq hS), a1, _, _, rfl, rfl, (by show (0 : Int) < 5; decide), _, _, rfl, rfl, _, _, rfl, rfl,
          _, rfl, _, _, rfl, rfl, .inl ⟨by decide, by decide⟩, _, rfl, a, _, _, _, rfl, rfl, .inl (s2.seq hS), a3, _, _, rfl, rfl, (by show (0 : Int) < 900; decide), _, _, rfl, rfl, (by show 3 ≤ sizeLine; decide), fun r hr0 => ?_⟩
        exact q r _ _ _ _ (s2.trans (same_new hr0 _)) (s2.free hr0) upd_same (by omega) (by omega) (by omega) (by omega)
      · refine ⟨_, rfl, _, rfl, _, rfl, (by show 3 ≤ sizeLine; decide), fun r hr0 => ?_⟩
        exact q r _ _ _ _ (s2.trans (same_new hr0 _)) (s2.free hr0) upd_same hn (by omega) (by omega) (by omega)
  · skip
    refine ⟨_, rfl, a, _, _, _, rfl, rfl, .inl (s2.seq hS), a3, _, _, rfl, rfl, (by show (0 : Int) < 4; decide), rfl, _, rfl, ?_⟩
    refine ifE (fun _ => ?_) (fun _ => ?_)
    · refine ⟨_, rfl, _, rfl, a, _, _, _, rfl, rfl, .inl (s2.seq hS), a2, _, _, rfl, rfl, (by show (0 : Int) < 9; decide), _, _, rfl, rfl, _, _, rfl, rfl, cm_l (by omega),
        _, rfl, _, rfl, a, _, _, _, rfl, rfl, .inl (s2.seq hS), a2, _, _, rfl, rfl, CDivP.of (by decide) (by decide +kernel), _, _, rfl, rfl, (by show (0 : Int) < 9; decide), _, _, rfl, rfl, _, _, rfl, rfl, cm_l (by omega), _, _, rfl, rfl, ?_⟩
      have z1 := natAbs_mul_le x (v2 % 9 - 4) (m := 2000) (n := 4) mx (by omega)
      have z2 := natAbs_mul_le y (v2 / 9 % 9 - 4) (m := 2000) (n := 4) my (by omega)
      have mc : ((x * (v2 % 9 - 4) + y * (v2 / 9 % 9 - 4))).natAbs ≤ 1000000 := by omega
      refine ⟨_, rfl, a, _, _, _, rfl, rfl, .inl (s2.seq hS), a4, _, _, rfl, rfl, CDivP.of (by decide) (by decide +kernel), _, _, rfl, rfl, (by show (0 : Int) < 12; decide), rfl, _, rfl, ?_⟩
      refine ifE (fun _ => ?_) (fun _ => ?_)
      · refine ⟨_, rfl, _, _, rfl, rfl, .inl ⟨by decide, by decide⟩, _, rfl, a, _, _, _, rfl, rfl, .inl (s2.seq hS), a0, _, _, rfl, rfl, (by show (0 : Int) < 5; decide), _, _, rfl, rfl, _, _, rfl, rfl,
          _, rfl, _, _, rfl, rfl, .inl ⟨by decide, by decide⟩, _, rfl, a, _, _, _, rfl, rfl, .inl (s2.seq hS), a1, _, _, rfl, rfl, (by show (0 : Int) < 5; decide), _, _, rfl, rfl, _, _, rfl, rfl,
          _, rfl, _, _, rfl, rfl, .inl ⟨by decide, by decide⟩, _, rfl, a, _, _, _, rfl, rfl, .inl (s2.seq hS), a3, _, _, rfl, rfl, (by show (0 : Int) < 900; decide), _, _, rfl, rfl, (by show 3 ≤ sizeLine; decide), fun r hr0 => ?_⟩
        exact q r _ _ _ _ (s2.trans (same_new hr0 _)) (s2.free hr0) upd_same (by omega) (by omega) (by omega) (by omega)
      · refine ⟨_, rfl, _, rfl, _, rfl, (by show 3 ≤ sizeLine; decide), fun r hr0 => ?_⟩
        exact q r _ _ _ _ (s2.trans (same_new hr0 _)) (s2.free hr0) upd_same hn (by omega) (by omega) (by omega)
    · skip
      have mc : ((v2 % 19 - 4)).natAbs ≤ 1000000 := by omega
      refine ⟨_, rfl, a, _, _, _, rfl, rfl, .inl (s2.seq hS), a4, _, _, rfl, rfl, CDivP.of (by decide) (by decide +kernel), _, _, rfl, rfl, (by show (0 : Int) < 12; decide), rfl, _, rfl, ?_⟩
      refine ifE (fun _ => ?_) (fun _ => ?_)
      · refine ⟨_, rfl, _, _, rfl, rfl, .inl ⟨by decide, by decide⟩, _, rfl, a, _, _, _, rfl, rfl, .inl (s2.seq hS), a0, _, _, rfl, rfl, (by show (0 : Int) < 5; decide), _, _, rfl, rfl, _, _, rfl, rfl,
          _, rfl, _, _, rfl, rfl, .inl ⟨by decide, by decide⟩, _, rfl, a, _, _, _, rfl, rfl, .inl (s2.seq hS), a1, _, _, rfl, rfl, (by show (0 : Int) < 5; decide), _, _, rfl, rfl, _, _, rfl, rfl,
          _, rfl, _, _, rfl, rfl, .inl ⟨by decide, by decide⟩, _, rfl, a, _, _, _, rfl, rfl, .inl (s2.seq hS), a3, _, _, rfl, rfl, (by show (0 : Int) < 900; decide), _, _, rfl, rfl, (by show 3 ≤ sizeLine; decide), fun r hr0 => ?_⟩
        exact q r _ _ _ _ (s2.trans (same_new hr0 _)) (s2.free hr0) upd_same (by omega) (by omega) (by omega) (by omega)
      · refine ⟨_, rfl, _, rfl, _, rfl, (by show 3 ≤ sizeLine; decide), fun r hr0 => ?_⟩
        exact q r _ _ _ _ (s2.trans (same_new hr0 _)) (s2.free hr0) upd_same hn (by omega) (by omega) (by omega)
theorem comp_enum0 {K : PySem.W.Frag} {l D : Addr} {xs : List V} {g : TG} {te : TE} {σ0 : St} {H1 : Hp} {Q : VK} (Pv : Nat → St → List V → Hp → Prop) (h0 : Pv 0 σ0 [] (upd H1 D (.lst []))) (hl : ∀ i σ zs H, Pv i σ zs H → SqL K H l xs ∧ H D = some (.lst zs))
    (hs : ∀ i x T σ zs H, xs[i]? = some x → H T = none → Pv i σ zs H → g (.ref T) σ (upd H T (.tup [.int i, x])) fun σ2 H2 => te σ2 H2 fun z H4 => H4 D = some (.lst zs) ∧ zs.length < sizeLine ∧ Pv (i + 1) σ2 (zs ++ [z]) (upd H4 D (.lst (zs ++ [z]))))
    (hd : ∀ σ zs H, Pv xs.length σ zs H → Q (.ref D) H) : CompW (Ite K l) D g tYes te σ0 H1 Q := comp_enum Pv h0 hl (fun i x T σ zs H e1 e2 p => hs i x T σ zs H e1 e2 p) hd
theorem sdRefs_set (ss : List Sd) (j : Nat) (t : Sd) : (sdRefs ss).set j (.ref t.1) = sdRefs (ss.set j t) := by
  simp [sdRefs, List.map_set]
theorem cutS2 {ok : Addr → List Sd → Hp → Prop} {G : Prop} {R : Addr → List Sd → Hp → Option V → Option V → Prop} (h1 : (∀ D ss H u v, ok D ss H → R D ss H u v) → G) (h2 : ∀ D ss H u v, ok D ss H → R D ss H u v) : G := h1 h2
def sp_L_sides (K : PySem.W.Frag) : Sp := fun vs H Q _ => ∃ (r : Addr) (rows : List Int) (m : Int), vs = [.ref r, .int m] ∧ SqL K H r (rows.map V.int) ∧ 0 ≤ m ∧ m ≤ 60 ∧ 3 ≤ rows.length ∧ 3 + 5 * m ≤ rows.length ∧ (∀ x ∈ rows, 0 ≤ x ∧ x < 1000003) ∧
  ∀ (l : Addr) (ss : List Sd) (H' : Hp), Same H H' → H l = none → H' l = some (.lst (sdRefs ss)) → ss.length = m.toNat → SdOk H' ss → (∀ t ∈ ss, t.2.1.natAbs ≤ 3 * 10 ^ 8 ∧ t.2.2.1.natAbs ≤ 3 * 10 ^ 8 ∧ t.2.2.2.natAbs ≤ 3 * 10 ^ 12) → Q (.ref l) H'
theorem ok_L_sides (F : Fun K "_law_sides" "_law_sides" s_L_sides f fd) (Z : Zs mg) (h_L_side : Has P w K mg base "_law_side" 2 ["_law_d"] (sp_L_side K)) : FnOk P w K mg base CX0 3 f fd ["_law_some", "_law_many_here"] (sp_L_sides K) := by
  refine F.ok sc_L_sides (fun vs H Q E h => ?_) (fun cdv A outer s H vs Q E hr h => ?_)
  · obtain ⟨r, rows, m, rfl, _⟩ := h
    rfl
  obtain ⟨r, rows, m, rfl, hS, m0, m60, hl3, hl, bd, q⟩ := h
  refine ⟨_, (pss_cons (ps_setComp (T := ["_law_k"]) (caps := [("_law_some", 0)]) (i := 2) sc_L_sides.nd rfl rfl ⟨rfl, by decide +kernel, by decide +kernel, rfl, ⟨⟨rfl, rfl, Or.inl rfl⟩, True.intro⟩⟩ rfl (pi_range1 rfl Z.range (pa_cons (pv 1) pa_nil)) (fun _ => (pg_name (i := 0) (show (["_law_k", "_law_some"] : List Str).Nodup by decide +kernel) rfl (Or.inl rfl))) (fun _ => pifs_nil) (fun _ => (pe_callH h_L_side (hr.mono (by decide)) rfl (pa_cons (pe_slice sl_list (pv 1) (po_some (pe_op op_add pe_int (pe_op op_mul pe_int (pv 0)))) po_none) pa_nil))))
      (pss_cons (ps_if (PW.pt (pw_and (pt_cmpR op_gt (pv 1) pe_int (nomark _)) (pw_and1 (pt_cmpR op_eq (pe_op op_mod (pe_ix ix_any (pv 0) pe_int (fun _ _ => rfl)) pe_int) pe_int (nomark _))))) (pss_one (ps_asg (pe_ix ix_any (pv 2) (pe_op op_mod (pe_ix ix_any (pv 0) pe_int (fun _ _ => rfl)) (pv 1)) (fun _ _ => rfl)) (pg_sub (pv 2) (pe_op op_mod (pe_ix ix_any (pv 0) pe_int (fun _ _ => rfl)) (pv 1)) set_list))) pss_nil)
      (pss_cons (ps_if (pt_cmpR op_eq (pe_op op_mod (pe_op op_fdivP (pe_ix ix_any (pv 0) pe_int (fun _ _ => rfl)) pe_int) pe_int) pe_int (nomark _)) (pss_cons (ps_asg (pe_tup (pa_cons (pe_op op_sub (pe_op op_mod (pe_ix ix_any (pv 0) pe_int (fun _ _ => rfl)) pe_int) pe_int) (pa_cons (pe_op op_sub (pe_op op_mod (pe_ix ix_any (pv 0) pe_int (fun _ _ => rfl)) pe_int) pe_int) pa_nil))) (pg_tup rfl (pgs_cons (pg_name (i := 3) sc_L_sides.nd rfl (Or.inr rfl)) (pgs_cons (pg_name (i := 4) sc_L_sides.nd rfl (Or.inr rfl)) pgs_nil))))
      (pss_one (ps_setComp (T := ["_law_a", "_law_b", "_law_c"]) (caps := [("_law_x", 3), ("_law_y", 4)]) (i := 2) sc_L_sides.nd rfl rfl ⟨rfl, by decide +kernel, by decide +kernel, rfl, ⟨⟨rfl, rfl, Or.inl rfl⟩, ⟨rfl, rfl, Or.inl rfl⟩, True.intro⟩⟩ rfl (pi_seq (pv 2)) (fun _ => (pg_tup rfl (pgs_cons (pg_name (i := 0) (show (["_law_a", "_law_b", "_law_c", "_law_x", "_law_y"] : List Str).Nodup by decide +kernel) rfl (Or.inl rfl)) (pgs_cons (pg_name (i := 1) (show (["_law_a", "_law_b", "_law_c", "_law_x", "_law_y"] : List Str).Nodup by decide +kernel) rfl (Or.inl rfl)) (pgs_cons (pg_name (i := 2) (show (["_law_a", "_law_b", "_law_c", "_law_x", "_law_y"] : List Str).Nodup by decide +kernel) rfl (Or.inl rfl)) pgs_nil))))) (fun _ => pifs_nil) (fun _ => (pe_tup (pa_cons (pv 0) (pa_cons (pv 1) (pa_cons (pe_op op_add (pe_op op_add (pv 2) (pe_op op_mul (pv 0) (pv 3))) (pe_op op_mul (pv 1) (pv 4))) pa_nil)))))))) pss_nil)
      (pss_cons (ps_if (pt_cmpR op_eq (pe_op op_mod (pe_op op_fdivP (pe_ix ix_any (pv 0) pe_int (fun _ _ => rfl)) pe_int) pe_int) pe_int (nomark _)) (pss_one (ps_setComp (T := ["_law_k", "_law_a", "_law_b", "_law_c"]) (caps := []) (i := 2) sc_L_sides.nd rfl rfl ⟨rfl, by decide +kernel, by decide +kernel, rfl, True.intro⟩ rfl (pi_enum rfl Z.enumerate (pa_cons (pv 2) pa_nil)) (fun _ => (pg_tup rfl (pgs_cons (pg_name (i := 0) (show (["_law_k", "_law_a", "_law_b", "_law_c"] : List Str).Nodup by decide +kernel) rfl (Or.inl rfl)) (pgs_cons (pg_tup rfl (pgs_cons (pg_name (i := 1) (show (["_law_k", "_law_a", "_law_b", "_law_c"] : List Str).Nodup by decide +kernel) rfl (Or.inl rfl)) (pgs_cons (pg_name (i := 2) (show (["_law_k", "_law_a", "_law_b", "_law_c"] : List Str).Nodup by decide +kernel) rfl (Or.inl rfl)) (pgs_cons (pg_name (i := 3) (show (["_law_k", "_law_a", "_law_b", "_law_c"] : List Str).Nodup by decide +kernel) rfl (Or.inl rfl)) pgs_nil)))) pgs_nil)))) (fun _ => pifs_nil) (fun _ => (pe_ifExp (pt_cmpR op_eq (pe_op op_mod (pv 0) pe_int) pe_int (nomark _)) (pe_tup (pa_cons (pe_op op_mul pe_int (pv 1)) (pa_cons (pe_op op_mul pe_int (pv 2)) (pa_cons (pe_op op_mul pe_int (pv 3)) pa_nil)))) (pe_tup (pa_cons (pv 1) (pa_cons (pv 2) (pa_cons (pv 3) pa_nil)))))))) pss_nil)
      (pss_one (ps_ret (pv 2))))))), ?_⟩
  obtain ⟨v0, a0, _⟩ := row_at bd (k := 0) (by decide) (by omega)
  obtain ⟨v1, a1, _⟩ := row_at bd (k := 1) (by decide) (by omega)
  obtain ⟨v2, a2, _⟩ := row_at bd (k := 2) (by decide) (by omega)
  have cutD : ∀ k : Nat, k ≤ rows.length → cutV (rows.map V.int) (some (k : Int)) none = (rows.drop k).map V.int := fun k hk => by
    rw [cutV_ints, HT.sIx_nat rows.length 0 k, show min k rows.length = k by omega, show HT.sIx rows.length rows.length none = rows.length from rfl, List.take_of_length_le (by rw [List.length_drop]; omega)]
  apply cutS (ok := fun D ss G => ss.length = m.toNat ∧ SdSt H D ss G ∧ ∀ t ∈ ss, t.2.1.natAbs ≤ 10 ^ 7 ∧ t.2.2.1.natAbs ≤ 10 ^ 7 ∧ t.2.2.2.natAbs ≤ 10 ^ 10)
  · intro main
    refine ⟨_, rfl, _, rfl, (by omega), (by omega), fun cc D hD => comp_range0 (lo := 0) (n := m.toNat) (fun i σ ys G => ∃ ss : List Sd, ys = sdRefs ss ∧ ss.length = i ∧ SdSt H D ss G ∧ (∀ t ∈ ss, t.2.1.natAbs ≤ 10 ^ 7 ∧ t.2.2.1.natAbs ≤ 10 ^ 7 ∧ t.2.2.2.natAbs ≤ 10 ^ 10) ∧ ∃ u0 : Option V, σ = [u0, some (.ref r)])
      ⟨[], rfl, rfl, ⟨same_new hD _, hD, upd_same, (fun t ht => nomatch ht)⟩, (fun t ht => nomatch ht), none, rfl⟩ (fun i σ ys G _ ⟨ss, e1, _, P, _⟩ => by rw [e1]; exact P.at') ?_ ?_⟩
    · rintro i σ ys G hi ⟨ss, rfl, hlen, Pi, bnd, u0, rfl⟩
      have cm : CMul 5 (0 + (i : Int)) := .inl ⟨by decide, by decide⟩
      have ci : (3 : Int) + 5 * (0 + (i : Int)) = ((3 + 5 * i : Nat) : Int) := by omega
      have hi' : 3 + 5 * i + 5 ≤ rows.length := by omega
      refine ⟨_, rfl, _, rfl, _, _, rfl, rfl, cm, _, _, rfl, rfl, _, rfl, r, _, rfl, Pi.same.seq hS, fun c1 hc1 => ?_⟩
      rw [ci, cutD (3 + 5 * i) (by omega)]
      have sc1 := same_new hc1 (.lst ((rows.drop (3 + 5 * i)).map V.int))
      refine ⟨c1, rows.drop (3 + 5 * i), rfl, SqL.of upd_same, by rw [List.length_drop]; omega, fun x hx => bd x (List.mem_of_mem_drop hx), fun p a b c G2 s2 hp ep n ma mb mc => ?_⟩
      refine ⟨s2 _ _ (sc1 _ _ Pi.at'), small1000 (by rw [sdRefs_length]; omega), ss ++ [(p, a, b, c)], by simp [sdRefs], by rw [List.length_append, hlen]; rfl, Pi.app (sc1.trans s2) (sc1.free hp) ep n (Nat.le_trans ma (by decide)) (Nat.le_trans mb (by decide)) (Nat.le_trans mc (by decide)), fun u hu => ?_, _, rfl⟩
      rcases List.mem_append.mp hu with h | h
      · exact bnd u h
      · rw [List.mem_singleton] at h
        subst h
        exact ⟨ma, mb, mc⟩
    rintro σ ys G ⟨ss, rfl, hlen, P0, bnd, u0, rfl⟩
    refine ⟨_, rfl, _, _, rfl, rfl, _, rfl, ?_⟩
    refine ifD (fun hm1 => ?_) (fun _ => ?_)
    · refine ⟨_, rfl, r, _, _, _, rfl, rfl, .inl (P0.same.seq hS), a0, _, _, rfl, rfl, (by show (0 : Int) < 4; decide), rfl, _, rfl, ?_⟩
      refine ifE (fun _ => ?_) (fun _ => ?_)
      · have sqr : Sq K G r (rows.map V.int) := .inl (P0.same.seq hS)
        have y0 := Int.emod_nonneg v2 (show m ≠ 0 by omega)
        have y1 := Int.emod_lt_of_pos v2 (show 0 < m by omega)
        have x0 := Int.emod_nonneg v1 (show m ≠ 0 by omega)
        have x1 := Int.emod_lt_of_pos v1 (show 0 < m by omega)
        obtain ⟨t, mt, gt, at'⟩ := sdRefs_at (ss := ss) (i := (v2 % m).toNat) (k := v2 % m) (by omega) (by omega)
        have ixn : ixN (sdRefs ss).length (v1 % m) = some (v1 % m).toNat := by
          unfold ixN
          rw [if_pos x0, sdRefs_length, if_pos (by omega)]
        refine ⟨_, rfl, _, rfl, r, _, _, _, rfl, rfl, sqr, a2, _, rfl, _, _, rfl, rfl, (by show (0 : Int) < m; omega), D, _, _, _, rfl, rfl, .inl (SqL.of P0.at'), at', ?_⟩
        refine ⟨_, rfl, _, rfl, r, _, _, _, rfl, rfl, sqr, a1, _, rfl, _, _, rfl, rfl, (by show (0 : Int) < m; omega), D, _, _, _, rfl, rfl, P0.at', ixn, ?_⟩
        rw [sdRefs_set]
        have P1 : SdSt H D (ss.set (v1 % m).toNat t) (upd G D (.lst (sdRefs (ss.set (v1 % m).toNat t)))) := by
          refine ⟨P0.same.putNew P0.new, P0.new, upd_same, fun u hu => ?_⟩
          have hu' : u ∈ ss := by
            rcases List.mem_or_eq_of_mem_set hu with h | h
            · exact h
            · rw [h]; exact mt
          obtain ⟨h1, h2⟩ := P0.all u hu'
          exact ⟨by rw [upd_ne (ne_of h1 P0.at' (by intro z; cases z))]; exact h1, h2⟩
        have B1 : ∀ u ∈ ss.set (v1 % m).toNat t, u.2.1.natAbs ≤ 10 ^ 7 ∧ u.2.2.1.natAbs ≤ 10 ^ 7 ∧ u.2.2.2.natAbs ≤ 10 ^ 10 := fun u hu => by
          rcases List.mem_or_eq_of_mem_set hu with h | h
          · exact bnd u h
          · rw [h]; exact bnd t mt
        have N1 : (ss.set (v1 % m).toNat t).length = m.toNat := by rw [List.length_set]; exact hlen
        generalize upd G D (.lst (sdRefs (ss.set (v1 % m).toNat t))) = G1 at P1 ⊢
        generalize ss.set (v1 % m).toNat t = ss1 at P1 B1 N1
        exact main D ss1 G1 ⟨N1, P1, B1⟩
      · exact main D ss G ⟨hlen, P0, bnd⟩
    · refine iteF ?_
      exact main D ss G ⟨hlen, P0, bnd⟩
  clear cutD
  rintro D ss G ⟨hlen, P0, bnd⟩
  apply cutS2 (ok := fun D ss G => ss.length = m.toNat ∧ SdSt H D ss G ∧ ∀ t ∈ ss, t.2.1.natAbs ≤ 10 ^ 8 ∧ t.2.2.1.natAbs ≤ 10 ^ 8 ∧ t.2.2.2.natAbs ≤ 10 ^ 12)
  · intro main2
    refine ⟨_, rfl, r, _, _, _, rfl, rfl, (.inl ((P0).same.seq hS)), a0, _, _, rfl, rfl, CDivP.of (by decide) (by decide +kernel), _, _, rfl, rfl, (by show (0 : Int) < 3; decide), rfl, _, rfl, ?_⟩
    refine ifE (fun _ => ?_) (fun _ => ?_)
    · have sqr : Sq K G r (rows.map V.int) := .inl ((P0).same.seq hS)
      refine ⟨_, rfl, r, _, _, _, rfl, rfl, sqr, a1, _, _, rfl, rfl, (by show (0 : Int) < 2001; decide), _, _, rfl, rfl, _, rfl, r, _, _, _, rfl, rfl, sqr, a2, _, _, rfl, rfl, (by show (0 : Int) < 2001; decide), _, _, rfl, rfl, (by show 2 ≤ sizeLine; decide), fun tx htx => ?_⟩
      have stx : Same G (upd G tx (.tup [.int (v1 % 2001 - 1000), .int (v2 % 2001 - 1000)])) := same_new htx _
      have etx : upd G tx (.tup [.int (v1 % 2001 - 1000), .int (v2 % 2001 - 1000)]) tx = some (.tup [.int (v1 % 2001 - 1000), .int (v2 % 2001 - 1000)]) := upd_same
      generalize upd G tx (.tup [.int (v1 % 2001 - 1000), .int (v2 % 2001 - 1000)]) = GX at stx etx ⊢
      have bX : (v1 % 2001 - 1000).natAbs ≤ 1000 := by omega
      have bY : (v2 % 2001 - 1000).natAbs ≤ 1000 := by omega
      generalize v1 % 2001 - 1000 = X at etx bX
      generalize v2 % 2001 - 1000 = Y at etx bY
      refine ⟨tx, _, rfl, SqT.of etx, rfl, .int X, _, rfl, .int Y, _, rfl, rfl, ?_⟩
      refine ⟨_, rfl, D, rfl, .inl ⟨⟨_, SqL.of (stx _ _ (P0).at')⟩, fun cc D2 hD2 => comp_list0 (K := K) (a := D) (xs := sdRefs ss) (fun i σ ys Gd => ∃ sb : List Sd, ys = sdRefs sb ∧ sb.length = i ∧ SdSt GX D2 sb Gd ∧ (∀ t ∈ sb, t.2.1.natAbs ≤ 10 ^ 7 ∧ t.2.2.1.natAbs ≤ 10 ^ 7 ∧ t.2.2.2.natAbs ≤ 10 ^ 12) ∧ ∃ u0 u1 u2 : Option V, σ = [u0, u1, u2, some (.int X), some (.int Y)])
        ⟨[], rfl, rfl, ⟨same_new hD2 _, hD2, upd_same, (fun t ht => nomatch ht)⟩, (fun t ht => nomatch ht), none, none, none, rfl⟩ (fun i σ ys Ge _ ⟨sb, e1, _, Pq, _⟩ => ⟨SqL.of (Pq.same _ _ (stx _ _ (P0).at')), by rw [e1]; exact Pq.at'⟩) ?_ ?_⟩⟩
      · rintro i x σ ys Gf hi ⟨sb, rfl, nb, Pg, bnb, u0, u1, u2, rfl⟩
        obtain ⟨t, gt, rfl, hil⟩ := sdRefs_get hi
        obtain ⟨et, nt, b1, b2, b3⟩ := (P0).all t (List.mem_of_getElem? gt)
        obtain ⟨c1, c2, c3⟩ := bnd t (List.mem_of_getElem? gt)
        refine ⟨t.1, _, rfl, SqT.of (Pg.same _ _ (stx _ _ et)), rfl, .int t.2.1, _, rfl, .int t.2.2.1, _, rfl, .int t.2.2.2, _, rfl, rfl, ?_⟩
        have z1 := natAbs_mul_le t.2.1 X c1 bX
        have z2 := natAbs_mul_le t.2.2.1 Y c2 bY
        refine ⟨_, rfl, _, rfl, _, rfl, _, rfl, _, rfl, _, _, rfl, rfl, cm_l (by omega), _, _, rfl, rfl, _, rfl, _, rfl, _, _, rfl, rfl, cm_l (by omega), _, _, rfl, rfl, (by show 3 ≤ sizeLine; decide), fun p hp => ?_⟩
        have sp := same_new hp (.tup [.int t.2.1, .int t.2.2.1, .int (t.2.2.2 + t.2.1 * X + t.2.2.1 * Y)])
        refine ⟨sp _ _ Pg.at', small1000 (by rw [sdRefs_length]; omega), sb ++ [(p, t.2.1, t.2.2.1, t.2.2.2 + t.2.1 * X + t.2.2.1 * Y)], by simp [sdRefs], by rw [List.length_append, nb]; rfl, Pg.app sp hp upd_same nt b1 b2 (by omega), fun u hu => ?_, _, _, _, rfl⟩
        rcases List.mem_append.mp hu with h | h
        · exact bnb u h
        · rw [List.mem_singleton] at h
          subst h
          exact ⟨c1, c2, by show (t.2.2.2 + t.2.1 * X + t.2.2.1 * Y).natAbs ≤ 10 ^ 12; omega⟩
      · rintro σ ys Gf ⟨ss2, rfl, nb, Pg, bnb, u0, u1, u2, rfl⟩
        rw [sdRefs_length] at nb
        have N2 : ss2.length = m.toNat := nb.trans hlen
        have P2 : SdSt H D2 ss2 Gf := ⟨((P0).same.trans stx).trans Pg.same, (P0).same.free (stx.free Pg.new), Pg.at', Pg.all⟩
        have P2s : ∀ t ∈ ss2, t.2.1.natAbs ≤ 10 ^ 8 ∧ t.2.2.1.natAbs ≤ 10 ^ 8 ∧ t.2.2.2.natAbs ≤ 10 ^ 12 := fun t ht => ⟨Nat.le_trans (bnb t ht).1 (by decide), Nat.le_trans (bnb t ht).2.1 (by decide), (bnb t ht).2.2⟩
        clear Pg
        generalize some (V.int X) = uX
        generalize some (V.int Y) = uY
        exact main2 D2 ss2 Gf uX uY ⟨N2, P2, P2s⟩
    · exact main2 D ss G none none ⟨hlen, P0, fun t ht => ⟨Nat.le_trans (bnd t ht).1 (by decide), Nat.le_trans (bnd t ht).2.1 (by decide), Nat.le_trans (bnd t ht).2.2 (by decide)⟩⟩
  clear P0 bnd hlen
  rintro D2 ss2 Gf uX uY ⟨N2, P2, P2s⟩
  refine ⟨_, rfl, r, _, _, _, rfl, rfl, (.inl (P2.same.seq hS)), a0, _, _, rfl, rfl, CDivP.of (by decide) (by decide +kernel), _, _, rfl, rfl, (by show (0 : Int) < 3; decide), rfl, _, rfl, ?_⟩
  refine ifE (fun _ => ?_) (fun _ => ?_)
  · refine ⟨_, rfl, D2, _, rfl, (P2).at', fun cc D3 hD3 => comp_enum0 (K := K) (l := D2) (xs := sdRefs ss2) (fun i σ ys Ga => ∃ sa : List Sd, ys = sdRefs sa ∧ sa.length = i ∧ SdSt Gf D3 sa Ga ∧ (∀ t ∈ sa, t.2.1.natAbs ≤ 3 * 10 ^ 8 ∧ t.2.2.1.natAbs ≤ 3 * 10 ^ 8 ∧ t.2.2.2.natAbs ≤ 3 * 10 ^ 12) ∧ ∃ u0 u1 u2 u3 : Option V, σ = [u0, u1, u2, u3])
      ⟨[], rfl, rfl, ⟨same_new hD3 _, hD3, upd_same, (fun t ht => nomatch ht)⟩, (fun t ht => nomatch ht), none, none, none, none, rfl⟩ (fun i σ ys Gb ⟨sa, e1, _, Pq, _⟩ => ⟨SqL.of (Pq.same _ _ (P2).at'), by rw [e1]; exact Pq.at'⟩) ?_ ?_⟩
    · rintro i x T σ ys Gc hi hT ⟨sa, rfl, na, Pc, bc, u0, u1, u2, u3, rfl⟩
      obtain ⟨t, gt, rfl, hil⟩ := sdRefs_get hi
      obtain ⟨et, nt, _⟩ := (P2).all t (List.mem_of_getElem? gt)
      obtain ⟨b1, b2, b3⟩ := P2s t (List.mem_of_getElem? gt)
      have k9 : (10 : Nat) ^ 8 * 3 ≤ 10 ^ 9 := by decide
      have sT := same_new hT (.tup [.int i, .ref t.1])
      have npT : ∀ p, upd Gc T (.tup [.int i, .ref t.1]) p = none → Gc p = none := fun p hp => sT.free hp
      have eT : upd Gc T (.tup [.int i, .ref t.1]) T = some (.tup [.int i, .ref t.1]) := upd_same
      have et' := sT _ _ (Pc.same _ _ et)
      generalize upd Gc T (.tup [.int i, .ref t.1]) = G2 at sT npT eT et' ⊢
      refine ⟨T, _, rfl, SqT.of eT, rfl, .int i, _, rfl, .ref t.1, _, rfl, ?_⟩
      refine ⟨t.1, _, rfl, SqT.of et', rfl, .int t.2.1, _, rfl, .int t.2.2.1, _, rfl, .int t.2.2.2, _, rfl, rfl, rfl, ?_⟩
      have c3 : ∀ j : Int, CMul 3 j := fun j => .inl ⟨by decide, by decide⟩
      refine ⟨_, rfl, _, _, rfl, rfl, (by show (0 : Int) < 2; decide), rfl, _, rfl, ?_⟩
      refine ifE (fun _ => ?_) (fun _ => ?_)
      · refine ⟨_, rfl, _, _, rfl, rfl, c3 _, _, rfl, _, _, rfl, rfl, c3 _, _, rfl, _, _, rfl, rfl, c3 _, (by show 3 ≤ sizeLine; decide), fun p hp => ?_⟩
        have sp := same_new hp (.tup [.int (3 * t.2.1), .int (3 * t.2.2.1), .int (3 * t.2.2.2)])
        refine ⟨sp _ _ (sT _ _ Pc.at'), small1000 (by rw [sdRefs_length]; omega), sa ++ [(p, 3 * t.2.1, 3 * t.2.2.1, 3 * t.2.2.2)], by simp [sdRefs], by rw [List.length_append, na]; rfl, Pc.app (sT.trans sp) (npT p hp) upd_same (by omega) (by omega) (by omega) (by omega), fun u hu => (List.mem_append.mp hu).elim (bc u) fun h => by rw [List.mem_singleton] at h; subst h; exact ⟨(by show (3 * t.2.1).natAbs ≤ 3 * 10 ^ 8; omega), (by show (3 * t.2.2.1).natAbs ≤ 3 * 10 ^ 8; omega), (by show (3 * t.2.2.2).natAbs ≤ 3 * 10 ^ 12; omega)⟩, _, _, _, _, rfl⟩
      · refine ⟨_, rfl, _, rfl, _, rfl, (by show 3 ≤ sizeLine; decide), fun p hp => ?_⟩
        have sp := same_new hp (.tup [.int t.2.1, .int t.2.2.1, .int t.2.2.2])
        refine ⟨sp _ _ (sT _ _ Pc.at'), small1000 (by rw [sdRefs_length]; omega), sa ++ [(p, t.2.1, t.2.2.1, t.2.2.2)], by simp [sdRefs], by rw [List.length_append, na]; rfl, Pc.app (sT.trans sp) (npT p hp) upd_same nt (by omega) (by omega) (by omega), fun u hu => (List.mem_append.mp hu).elim (bc u) fun h => by rw [List.mem_singleton] at h; subst h; exact ⟨(by show t.2.1.natAbs ≤ 3 * 10 ^ 8; omega), (by show t.2.2.1.natAbs ≤ 3 * 10 ^ 8; omega), (by show t.2.2.2.natAbs ≤ 3 * 10 ^ 12; omega)⟩, _, _, _, _, rfl⟩
    · rintro σ ys Gc ⟨sa, rfl, na, Pc, bc, u0, u1, u2, u3, rfl⟩
      rw [sdRefs_length] at na
      exact ⟨_, rfl, q D3 sa Gc ((P2).same.trans Pc.same) ((P2).same.free Pc.new) Pc.at' (na.trans N2) (fun t ht => (Pc.all t ht)) bc⟩
  · exact ⟨_, rfl, q D2 ss2 _ (P2).same (P2).new (P2).at' N2 (fun t ht => ⟨((P2).all t ht).1, ((P2).all t ht).2.1, by have := ((P2).all t ht).2.2.1; omega, by have := ((P2).all t ht).2.2.2.1; omega, by have := ((P2).all t ht).2.2.2.2; omega⟩) (fun t ht => by have z := P2s t ht; exact ⟨by omega, by omega, by omega⟩)⟩
def sp_L_turned (K : PySem.W.Frag) : Sp := fun vs H Q _ => ∃ (a b : Addr) (us ws : List V) (x1 y1 x2 y2 : Int), vs = [.ref a, .ref b] ∧ Sq K H a us ∧ Sq K H b ws ∧ atI us 0 = some (.int x1) ∧ atI us 1 = some (.int y1) ∧ atI ws 0 = some (.int x2) ∧ atI ws 1 = some (.int y2) ∧
  x1.natAbs ≤ 10 ^ 18 ∧ y1.natAbs ≤ 10 ^ 18 ∧ Q (.int (x1 * y2 - y1 * x2)) H
theorem ok_L_turned (F : Fun K "_law_turned" "_law_turned" s_L_turned f fd) (Z : Zs mg)  : FnOk P w K mg base CX0 1 f fd ["_law_one", "_law_other"] (sp_L_turned K) := by
  refine F.ok sc_L_turned (fun vs H Q E h => ?_) (fun cdv A outer s H vs Q E hr h => ?_)
  · obtain ⟨a, b, us, ws, x1, y1, x2, y2, rfl, _⟩ := h
    rfl
  obtain ⟨a, b, us, ws, x1, y1, x2, y2, rfl, ha, hb, u0, u1, w0, w1, m1, m2, q⟩ := h
  refine ⟨_, (pss_one (ps_ret (pe_op op_sub (pe_op op_mul (pe_ix ix_any (pv 0) pe_int (fun _ _ => rfl)) (pe_ix ix_any (pv 1) pe_int (fun _ _ => rfl))) (pe_op op_mul (pe_ix ix_any (pv 0) pe_int (fun _ _ => rfl)) (pe_ix ix_any (pv 1) pe_int (fun _ _ => rfl)))))), ?_⟩
  exact ⟨_, rfl, a, _, _, .int x1, rfl, rfl, ha, u0, _, rfl, b, _, _, .int y2, rfl, rfl, hb, w1, _, _, rfl, rfl, cm_l (by omega),
    _, rfl, a, _, _, .int y1, rfl, rfl, ha, u1, _, rfl, b, _, _, .int x2, rfl, rfl, hb, w0, _, _, rfl, rfl, cm_l (by omega), _, _, rfl, rfl, q⟩
def sp_L_left_pair (K : PySem.W.Frag) : Sp := fun vs H Q _ => ∃ (a : Addr) (rows : List Int) (wd : Int), vs = [.ref a, .int wd] ∧ SqL K H a (rows.map V.int) ∧ 5 ≤ rows.length ∧ (∀ x ∈ rows, 0 ≤ x ∧ x < 1000003) ∧ 1 ≤ wd ∧ wd ≤ 100 ∧
  ∀ (t p r : Addr) (A0 A1 B0 B1 : Int) (H' : Hp), Same H H' → H' t = some (.tup [.ref p, .ref r]) → H' p = some (.tup [.int A0, .int A1]) → H' r = some (.tup [.int B0, .int B1]) → 0 < A0 * B1 - A1 * B0 → A0.natAbs ≤ 100 → A1.natAbs ≤ 100 → B0.natAbs ≤ 100 → B1.natAbs ≤ 100 → Q (.ref t) H'
theorem ok_L_left_pair (F : Fun K "_law_left_pair" "_law_left_pair" s_L_left_pair f fd) (Z : Zs mg) (h_L_turned : Has P w K mg base "_law_turned" 1 ["_law_one", "_law_other"] (sp_L_turned K)) (h_L_way : Has P w K mg base "_law_way" 1 ["_law_one", "_law_two", "_law_wide"] (sp_L_way K)) : FnOk P w K mg base CX0 2 f fd ["_law_d", "_law_wide"] (sp_L_left_pair K) := by
  refine F.ok sc_L_left_pair (fun vs H Q E h => ?_) (fun cdv A outer s H vs Q E hr h => ?_)
  · obtain ⟨a, rows, wd, rfl, _⟩ := h
    rfl
  obtain ⟨a, rows, wd, rfl, hS, hl, bd, w1, w2, q⟩ := h
  refine ⟨_, (pss_cons (ps_set (i := 2) sc_L_left_pair.nd rfl (Or.inl rfl) (pe_callH h_L_way (hr.mono (by decide)) rfl (pa_cons (pe_ix ix_any (pv 0) pe_int (fun _ _ => rfl)) (pa_cons (pe_ix ix_any (pv 0) pe_int (fun _ _ => rfl)) (pa_cons (pv 1) pa_nil)))))
      (pss_cons (ps_set (i := 3) sc_L_left_pair.nd rfl (Or.inl rfl) (pe_callH h_L_way (hr.mono (by decide)) rfl (pa_cons (pe_ix ix_any (pv 0) pe_int (fun _ _ => rfl)) (pa_cons (pe_ix ix_any (pv 0) pe_int (fun _ _ => rfl)) (pa_cons (pv 1) pa_nil)))))
      (pss_cons (ps_if (pt_cmpR op_eq (pe_op op_mod (pe_ix ix_any (pv 0) pe_int (fun _ _ => rfl)) pe_int) pe_int (nomark _)) (pss_one (ps_set (i := 3) sc_L_left_pair.nd rfl (Or.inl rfl) (pe_tup (pa_cons (pe_un un_neg (pe_ix ix_any (pv 2) pe_int (fun _ _ => rfl))) (pa_cons (pe_ix ix_any (pv 2) pe_int (fun _ _ => rfl)) pa_nil))))) pss_nil)
      (pss_cons (ps_if (pt_cmpR op_lt (pe_callH h_L_turned (hr.mono (by decide)) rfl (pa_cons (pv 2) (pa_cons (pv 3) pa_nil))) pe_int (nomark _)) (pss_one (ps_par (i := 2) (j := 3) rfl sc_L_left_pair.nd rfl rfl (by decide) rfl rfl (pa_cons (pv 3) (pa_cons (pv 2) pa_nil)) rfl)) pss_nil)
      (pss_cons (ps_if (pt_cmpR op_eq (pe_callH h_L_turned (hr.mono (by decide)) rfl (pa_cons (pv 2) (pa_cons (pv 3) pa_nil))) pe_int (nomark _)) (pss_one (ps_set (i := 3) sc_L_left_pair.nd rfl (Or.inl rfl) (pe_tup (pa_cons (pe_un un_neg (pe_ix ix_any (pv 2) pe_int (fun _ _ => rfl))) (pa_cons (pe_ix ix_any (pv 2) pe_int (fun _ _ => rfl)) pa_nil))))) pss_nil)
      (pss_one (ps_ret (pe_tup (pa_cons (pv 2) (pa_cons (pv 3) pa_nil)))))))))), ?_⟩
  obtain ⟨v0, a0, _⟩ := row_at bd (k := 0) (by decide) (by omega)
  obtain ⟨v1, a1, _⟩ := row_at bd (k := 1) (by decide) (by omega)
  obtain ⟨v2, a2, _⟩ := row_at bd (k := 2) (by decide) (by omega)
  obtain ⟨v3, a3, _⟩ := row_at bd (k := 3) (by decide) (by omega)
  obtain ⟨v4, a4, _⟩ := row_at bd (k := 4) (by decide) (by omega)
  refine ⟨_, rfl, a, _, _, _, rfl, rfl, .inl hS, a0, _, rfl, a, _, _, _, rfl, rfl, .inl hS, a1, _, rfl, v0, v1, wd, rfl, w1, by omega, fun p1 x1 y1 H2 s2 hp1 e1' n1 m1 m2 => ?_⟩
  refine ⟨_, rfl, a, _, _, _, rfl, rfl, .inl (s2.seq hS), a2, _, rfl, a, _, _, _, rfl, rfl, .inl (s2.seq hS), a3, _, rfl, v2, v3, wd, rfl, w1, by omega, fun p2 x2 y2 H3 s3 hp2 e3 n2 m3 m4 => ?_⟩
  have s23 := s2.trans s3
  have e13 := s3 _ _ e1'
  have k1 : x1.natAbs ≤ 100 := by omega
  have k2 : y1.natAbs ≤ 100 := by omega
  have k3 : x2.natAbs ≤ 100 := by omega
  have k4 : y2.natAbs ≤ 100 := by omega
  refine ⟨_, rfl, a, _, _, _, rfl, rfl, .inl (s23.seq hS), a4, _, _, rfl, rfl, (by show (0 : Int) < 4; decide), rfl, _, rfl, ?_⟩
  refine ifE (fun _ => ?_) (fun _ => ?_)
  · refine ⟨_, rfl, p1, _, _, .int y1, rfl, rfl, .inr (SqT.of e13), rfl, _, rfl, _, rfl, p1, _, _, .int x1, rfl, rfl, .inr (SqT.of e13), rfl, (by show 2 ≤ sizeLine; decide), fun d hd => ?_⟩
    have sd := same_new hd (.tup [.int (-y1), .int x1])
    have sH := s23.trans sd
    have e1 := sd _ _ e13
    have e2 : upd H3 d (.tup [.int (-y1), .int x1]) d = some (.tup [.int (-y1), .int x1]) := upd_same
    have f1 : Sq K (upd H3 d (.tup [.int (-y1), .int x1])) p1 [.int x1, .int y1] := .inr (SqT.of e1)
    have f2 : Sq K (upd H3 d (.tup [.int (-y1), .int x1])) d [.int (-y1), .int x1] := .inr (SqT.of e2)
    refine ⟨_, rfl, _, rfl, p1, d, _, _, x1, y1, (-y1), x1, rfl, f1, f2, rfl, rfl, rfl, rfl, by omega, by omega, _, _, rfl, rfl, _, rfl, ?_⟩
    have eT : (-y1) * y1 - x1 * x1 = -(x1 * x1 - y1 * (-y1)) := by rw [Int.mul_comm (-y1) y1, Int.mul_comm x1 x1]; omega
    refine ifD (fun hneg => ?_) (fun hneg => ?_)
    · refine ⟨_, rfl, _, rfl, _, _, rfl, ?_⟩
      refine ⟨_, rfl, _, rfl, d, p1, _, _, (-y1), x1, x1, y1, rfl, f2, f1, rfl, rfl, rfl, rfl, by omega, by omega, rfl, _, rfl, ?_⟩
      refine ifE (fun z => absurd z (by omega)) (fun _ => ?_)
      refine ⟨_, rfl, _, rfl, (by show 2 ≤ sizeLine; decide), fun t ht => ?_⟩
      have st := same_new ht (.tup [.ref d, .ref p1])
      exact q t d p1 (-y1) x1 x1 y1 _ ((sH).trans st) upd_same (st _ _ e2) (st _ _ e1) (by omega) (by omega) (by omega) (by omega) (by omega)
    · refine ⟨_, rfl, _, rfl, p1, d, _, _, x1, y1, (-y1), x1, rfl, f1, f2, rfl, rfl, rfl, rfl, by omega, by omega, rfl, _, rfl, ?_⟩
      refine ifE (fun hz => ?_) (fun hz => ?_)
      · refine ⟨_, rfl, p1, _, _, .int y1, rfl, rfl, f1, rfl, _, rfl, _, rfl, p1, _, _, .int x1, rfl, rfl, f1, rfl, (by show 2 ≤ sizeLine; decide), fun d hd => ?_⟩
        have sd := same_new hd (.tup [.int (-y1), .int x1])
        refine ⟨_, rfl, _, rfl, (by show 2 ≤ sizeLine; decide), fun t ht => ?_⟩
        have st := same_new ht (.tup [.ref p1, .ref d])
        have sp := sq_pos n1
        exact q t p1 d x1 y1 (-y1) x1 _ (sH.trans (sd.trans st)) upd_same (st _ _ (sd _ _ e1)) (st _ _ upd_same) (by rw [Int.mul_neg]; omega) (by omega) (by omega) (by omega) (by omega)
      · refine ⟨_, rfl, _, rfl, (by show 2 ≤ sizeLine; decide), fun t ht => ?_⟩
        have st := same_new ht (.tup [.ref p1, .ref d])
        exact q t p1 d x1 y1 (-y1) x1 _ (sH.trans st) upd_same (st _ _ e1) (st _ _ e2) (by omega) (by omega) (by omega) (by omega) (by omega)
  · have sH := s23
    have e1 := e13
    have e2 := e3
    have f1 : Sq K H3 p1 [.int x1, .int y1] := .inr (SqT.of e1)
    have f2 : Sq K H3 p2 [.int x2, .int y2] := .inr (SqT.of e2)
    refine ⟨_, rfl, _, rfl, p1, p2, _, _, x1, y1, x2, y2, rfl, f1, f2, rfl, rfl, rfl, rfl, by omega, by omega, _, _, rfl, rfl, _, rfl, ?_⟩
    have eT : x2 * y1 - y2 * x1 = -(x1 * y2 - y1 * x2) := by rw [Int.mul_comm x2 y1, Int.mul_comm y2 x1]; omega
    refine ifD (fun hneg => ?_) (fun hneg => ?_)
    · refine ⟨_, rfl, _, rfl, _, _, rfl, ?_⟩
      refine ⟨_, rfl, _, rfl, p2, p1, _, _, x2, y2, x1, y1, rfl, f2, f1, rfl, rfl, rfl, rfl, by omega, by omega, rfl, _, rfl, ?_⟩
      refine ifE (fun z => absurd z (by omega)) (fun _ => ?_)
      refine ⟨_, rfl, _, rfl, (by show 2 ≤ sizeLine; decide), fun t ht => ?_⟩
      have st := same_new ht (.tup [.ref p2, .ref p1])
      exact q t p2 p1 x2 y2 x1 y1 _ ((sH).trans st) upd_same (st _ _ e2) (st _ _ e1) (by omega) (by omega) (by omega) (by omega) (by omega)
    · refine ⟨_, rfl, _, rfl, p1, p2, _, _, x1, y1, x2, y2, rfl, f1, f2, rfl, rfl, rfl, rfl, by omega, by omega, rfl, _, rfl, ?_⟩
      refine ifE (fun hz => ?_) (fun hz => ?_)
      · refine ⟨_, rfl, p1, _, _, .int y1, rfl, rfl, f1, rfl, _, rfl, _, rfl, p1, _, _, .int x1, rfl, rfl, f1, rfl, (by show 2 ≤ sizeLine; decide), fun d hd => ?_⟩
        have sd := same_new hd (.tup [.int (-y1), .int x1])
        refine ⟨_, rfl, _, rfl, (by show 2 ≤ sizeLine; decide), fun t ht => ?_⟩
        have st := same_new ht (.tup [.ref p1, .ref d])
        have sp := sq_pos n1
        exact q t p1 d x1 y1 (-y1) x1 _ (sH.trans (sd.trans st)) upd_same (st _ _ (sd _ _ e1)) (st _ _ upd_same) (by rw [Int.mul_neg]; omega) (by omega) (by omega) (by omega) (by omega)
      · refine ⟨_, rfl, _, rfl, (by show 2 ≤ sizeLine; decide), fun t ht => ?_⟩
        have st := same_new ht (.tup [.ref p1, .ref p2])
        exact q t p1 p2 x1 y1 x2 y2 _ (sH.trans st) upd_same (st _ _ e1) (st _ _ e2) (by omega) (by omega) (by omega) (by omega) (by omega)
structure FdSt (H0 : Hp) (l : Addr) (ps : List Pr) (H : Hp) : Prop where
  same : Same H0 H
  new : H0 l = none
  at' : H l = some (.lst (refsOf ps))
  all : PrOk H 10000 ps
theorem FdSt.on {H0 H H2 : Hp} {l : Addr} {ps : List Pr} (P : FdSt H0 l ps H) (s : Same H H2) : FdSt H0 l ps H2 := ⟨P.same.trans s, P.new, s _ _ P.at', P.all.same s⟩
theorem FdSt.app {H0 H : Hp} {l h : Addr} {ps : List Pr} {x y : Int} (P : FdSt H0 l ps H) (eh : H h = some (.tup [.int x, .int y])) (hx : x.natAbs ≤ 10000) (hy : y.natAbs ≤ 10000) :
    FdSt H0 l (ps ++ [(h, x, y)]) (upd H l (.lst (refsOf ps ++ [.ref h]))) ∧ upd H l (.lst (refsOf ps ++ [.ref h])) h = some (.tup [.int x, .int y]) := by
  have k : ∀ (b : Addr) (xs : List V), H b = some (.tup xs) → upd H l (.lst (refsOf ps ++ [.ref h])) b = some (.tup xs) := fun b xs e => by
    rw [upd_ne (ne_of e P.at' (by intro z; cases z))]
    exact e
  refine ⟨⟨P.same.putNew P.new, P.new, by rw [upd_same, refsOf_app] <;> rfl, fun t ht => ?_⟩, k _ _ eh⟩
  rcases List.mem_append.mp ht with h' | h'
  · exact ⟨k _ _ (P.all t h').1, (P.all t h').2⟩
  · rw [List.mem_singleton] at h'
    subst h'
    exact ⟨k _ _ eh, hx, hy⟩
theorem cut_at (ps : List Pr) (k : Nat) : cutV (refsOf ps) (some (k : Int)) none = refsOf (ps.drop k) ∧ cutV (refsOf ps) none (some (k : Int)) = refsOf (ps.take k) := by
  refine ⟨?_, cut_refs_upto ps k⟩
  unfold cutV
  rw [HT.sIx_nat (refsOf ps).length 0 k, show HT.sIx (refsOf ps).length (refsOf ps).length none = (refsOf ps).length from rfl, List.take_of_length_le (by rw [List.length_drop] <;> omega)]
  rw [refsOf_length]
  simp only [refsOf, ← List.map_drop]
  congr 2
  by_cases h : k ≤ ps.length
  · rw [Nat.min_eq_left h]
  · rw [Nat.min_eq_right (by omega), List.drop_length, List.drop_eq_nil_of_le (by omega)]
def sp_L_bank (K : PySem.W.Frag) : Sp := fun vs H Q _ => ∃ (a : Addr) (rows : List Int) (wd : Int), vs = [.ref a, .int wd] ∧ SqL K H a (rows.map V.int) ∧ 9 ≤ rows.length ∧ (∀ x ∈ rows, 0 ≤ x ∧ x < 1000003) ∧ 1 ≤ wd ∧ wd ≤ 100 ∧
  ∀ (l : Addr) (qs : List Pr) (H' : Hp), Same H H' → H l = none → H' l = some (.lst (refsOf qs)) → PrOk H' 10000 qs → BankS (qs.map (·.2)) → Q (.ref l) H'
theorem ok_L_bank (F : Fun K "_law_bank" "_law_bank" s_L_bank f fd) (Z : Zs mg) (h_L_left_pair : Has P w K mg base "_law_left_pair" 2 ["_law_d", "_law_wide"] (sp_L_left_pair K)) : FnOk P w K mg base CX0 3 f fd ["_law_d", "_law_wide"] (sp_L_bank K) := by
  refine F.ok sc_L_bank (fun vs H Q E h => ?_) (fun cdv A outer s H vs Q E hr h => ?_)
  · obtain ⟨a, rows, wd, rfl, _⟩ := h
    rfl
  obtain ⟨a, rows, wd, rfl, hS, hl, bd, w1, w2, q⟩ := h
  refine ⟨_, (pss_cons (ps_asg (pe_callH h_L_left_pair (hr.mono (by decide)) rfl (pa_cons (pv 0) (pa_cons (pv 1) pa_nil))) (pg_tup rfl (pgs_cons (pg_name (i := 2) sc_L_bank.nd rfl (Or.inl rfl)) (pgs_cons (pg_name (i := 3) sc_L_bank.nd rfl (Or.inl rfl)) pgs_nil))))
      (pss_cons (ps_asg (pv 2) (pg_tup rfl (pgs_cons (pg_name (i := 4) sc_L_bank.nd rfl (Or.inl rfl)) (pgs_cons (pg_name (i := 5) sc_L_bank.nd rfl (Or.inl rfl)) pgs_nil))))
      (pss_cons (ps_asg (pv 3) (pg_tup rfl (pgs_cons (pg_name (i := 6) sc_L_bank.nd rfl (Or.inl rfl)) (pgs_cons (pg_name (i := 7) sc_L_bank.nd rfl (Or.inl rfl)) pgs_nil))))
      (pss_cons (ps_set (i := 8) sc_L_bank.nd rfl (Or.inl rfl) (pe_lst (pa_cons (pe_lst (pa_cons (pe_tup (pa_cons (pv 4) (pa_cons (pv 5) pa_nil))) (pa_cons (pe_tup (pa_cons (pe_op op_sub (pv 6) (pv 4)) (pa_cons (pe_op op_sub (pv 7) (pv 5)) pa_nil))) (pa_cons (pe_tup (pa_cons (pe_un un_neg (pv 6)) (pa_cons (pe_un un_neg (pv 7)) pa_nil))) pa_nil)))) (pa_cons (pe_lst (pa_cons (pe_tup (pa_cons (pv 4) (pa_cons (pv 5) pa_nil))) (pa_cons (pe_tup (pa_cons (pv 6) (pa_cons (pv 7) pa_nil))) (pa_cons (pe_tup (pa_cons (pe_un un_neg (pv 4)) (pa_cons (pe_un un_neg (pv 5)) pa_nil))) (pa_cons (pe_tup (pa_cons (pe_un un_neg (pv 6)) (pa_cons (pe_un un_neg (pv 7)) pa_nil))) pa_nil))))) (pa_cons (pe_lst (pa_cons (pe_tup (pa_cons (pe_op op_mul pe_int (pv 4)) (pa_cons (pe_op op_mul pe_int (pv 5)) pa_nil))) (pa_cons (pe_tup (pa_cons (pv 6) (pa_cons (pv 7) pa_nil))) (pa_cons (pe_tup (pa_cons (pe_op op_sub (pv 6) (pv 4)) (pa_cons (pe_op op_sub (pv 7) (pv 5)) pa_nil))) (pa_cons (pe_tup (pa_cons (pe_un un_neg (pv 4)) (pa_cons (pe_un un_neg (pv 5)) pa_nil))) (pa_cons (pe_tup (pa_cons (pe_op op_mul (pe_un un_neg pe_int) (pv 6)) (pa_cons (pe_op op_mul (pe_un un_neg pe_int) (pv 7)) pa_nil))) pa_nil)))))) (pa_cons (pe_lst (pa_cons (pe_tup (pa_cons (pv 4) (pa_cons (pv 5) pa_nil))) (pa_cons (pe_tup (pa_cons (pe_op op_add (pv 4) (pv 6)) (pa_cons (pe_op op_add (pv 5) (pv 7)) pa_nil))) (pa_cons (pe_tup (pa_cons (pv 6) (pa_cons (pv 7) pa_nil))) (pa_cons (pe_tup (pa_cons (pe_un un_neg (pv 4)) (pa_cons (pe_un un_neg (pv 5)) pa_nil))) (pa_cons (pe_tup (pa_cons (pe_op op_sub (pe_un un_neg (pv 4)) (pv 6)) (pa_cons (pe_op op_sub (pe_un un_neg (pv 5)) (pv 7)) pa_nil))) (pa_cons (pe_tup (pa_cons (pe_un un_neg (pv 6)) (pa_cons (pe_un un_neg (pv 7)) pa_nil))) pa_nil))))))) pa_nil))))))
      (pss_cons (ps_set (i := 9) sc_L_bank.nd rfl (Or.inl rfl) (pe_lst (pa_cons (pe_tup (pa_cons (pv 4) (pa_cons (pv 5) pa_nil))) (pa_cons (pe_tup (pa_cons (pe_op op_add (pe_op op_mul pe_int (pv 4)) (pv 6)) (pa_cons (pe_op op_add (pe_op op_mul pe_int (pv 5)) (pv 7)) pa_nil))) (pa_cons (pe_tup (pa_cons (pe_op op_add (pv 4) (pe_op op_mul pe_int (pv 6))) (pa_cons (pe_op op_add (pv 5) (pe_op op_mul pe_int (pv 7))) pa_nil))) (pa_cons (pe_tup (pa_cons (pv 6) (pa_cons (pv 7) pa_nil))) (pa_cons (pe_tup (pa_cons (pe_un un_neg (pv 4)) (pa_cons (pe_un un_neg (pv 5)) pa_nil))) pa_nil)))))))
      (pss_cons (ps_expr (pe_bm PySem.F.plainAttrs_list PySem.F.slot_list_append PySem.F.type_list_append mt_append (pv 8) (pa_cons (pe_op op_cat (pv 9) (pe_lst (pa_cons (pe_tup (pa_cons (pe_op op_sub (pe_op op_mul (pe_un un_neg pe_int) (pv 4)) (pv 6)) (pa_cons (pe_op op_sub (pe_op op_mul (pe_un un_neg pe_int) (pv 5)) (pv 7)) pa_nil))) (pa_cons (pe_tup (pa_cons (pe_op op_sub (pe_un un_neg (pv 4)) (pe_op op_mul pe_int (pv 6))) (pa_cons (pe_op op_sub (pe_un un_neg (pv 5)) (pe_op op_mul pe_int (pv 7))) pa_nil))) pa_nil)))) pa_nil)))
      (pss_cons (ps_expr (pe_bm PySem.F.plainAttrs_list PySem.F.slot_list_append PySem.F.type_list_append mt_append (pv 8) (pa_cons (pe_op op_cat (pv 9) (pe_lst (pa_cons (pe_tup (pa_cons (pe_op op_sub (pe_op op_mul (pe_un un_neg pe_int) (pv 4)) (pv 6)) (pa_cons (pe_op op_sub (pe_op op_mul (pe_un un_neg pe_int) (pv 5)) (pv 7)) pa_nil))) (pa_cons (pe_tup (pa_cons (pe_op op_sub (pe_un un_neg (pv 4)) (pe_op op_mul pe_int (pv 6))) (pa_cons (pe_op op_sub (pe_un un_neg (pv 5)) (pe_op op_mul pe_int (pv 7))) pa_nil))) (pa_cons (pe_tup (pa_cons (pe_un un_neg (pv 6)) (pa_cons (pe_un un_neg (pv 7)) pa_nil))) pa_nil))))) pa_nil)))
      (pss_cons (ps_set (i := 10) sc_L_bank.nd rfl (Or.inl rfl) (pe_tup (pa_cons (pe_op op_sub (pe_op op_mod (pe_ix ix_any (pv 0) pe_int (fun _ _ => rfl)) pe_int) pe_int) (pa_cons (pe_op op_sub (pe_op op_mod (pe_ix ix_any (pv 0) pe_int (fun _ _ => rfl)) pe_int) pe_int) pa_nil))))
      (pss_cons (ps_set (i := 11) sc_L_bank.nd rfl (Or.inl rfl) (pe_ix ix_any (pv 8) (pe_op op_mod (pe_ix ix_any (pv 0) pe_int (fun _ _ => rfl)) pe_int) (fun _ _ => rfl)))
      (pss_cons (ps_set (i := 12) sc_L_bank.nd rfl (Or.inl rfl) (pe_lst pa_nil))
      (pss_cons (ps_for PassesOwn.never rfl (pi_seq (pv 11)) (pg_tup rfl (pgs_cons (pg_name (i := 13) sc_L_bank.nd rfl (Or.inl rfl)) (pgs_cons (pg_name (i := 14) sc_L_bank.nd rfl (Or.inl rfl)) pgs_nil))) (pss_cons (ps_expr (pe_bm PySem.F.plainAttrs_list PySem.F.slot_list_append PySem.F.type_list_append mt_append (pv 12) (pa_cons (pv 10) pa_nil)))
      (pss_one (ps_set (i := 10) sc_L_bank.nd rfl (Or.inl rfl) (pe_tup (pa_cons (pe_op op_add (pe_ix ix_any (pv 10) pe_int (fun _ _ => rfl)) (pv 13)) (pa_cons (pe_op op_add (pe_ix ix_any (pv 10) pe_int (fun _ _ => rfl)) (pv 14)) pa_nil)))))))
      (pss_cons (ps_set (i := 15) sc_L_bank.nd rfl (Or.inl rfl) (pe_op op_mod (pe_ix ix_any (pv 0) pe_int (fun _ _ => rfl)) (pe_callB call_len_seq rfl Z.len bt_len (pa_cons (pv 12) pa_nil))))
      (pss_one (ps_ret (pe_op op_cat (pe_slice sl_list (pv 12) (po_some (pv 15)) po_none) (pe_slice sl_list (pv 12) po_none (po_some (pv 15)))))))))))))))))), ?_⟩
  obtain ⟨v5, a5, _⟩ := row_at bd (k := 5) (by decide) (by omega)
  obtain ⟨v6, a6, _⟩ := row_at bd (k := 6) (by decide) (by omega)
  obtain ⟨v7, a7, _⟩ := row_at bd (k := 7) (by decide) (by omega)
  obtain ⟨v8, a8, _⟩ := row_at bd (k := 8) (by decide) (by omega)
  refine ⟨_, rfl, _, rfl, a, rows, wd, rfl, hS, by omega, bd, w1, w2, fun tp pa pb x y p q' G0 sG etp epa epb tpos k1 k2 k3 k4 => ?_⟩
  refine ⟨tp, _, rfl, SqT.of etp, rfl, .ref pa, _, rfl, .ref pb, _, rfl, rfl, ?_⟩
  refine ⟨_, rfl, pa, _, rfl, SqT.of epa, rfl, .int x, _, rfl, .int y, _, rfl, rfl, ?_⟩
  refine ⟨_, rfl, pb, _, rfl, SqT.of epb, rfl, .int p, _, rfl, .int q', _, rfl, rfl, ?_⟩
  clear etp epa epb
  have W4 : ∀ {σ : St}, σ[4]? = some (some (.int x)) → PIb (tVar 4) σ x 100 := fun h => .var h k1
  have W5 : ∀ {σ : St}, σ[5]? = some (some (.int y)) → PIb (tVar 5) σ y 100 := fun h => .var h k2
  have W6 : ∀ {σ : St}, σ[6]? = some (some (.int p)) → PIb (tVar 6) σ p 100 := fun h => .var h k3
  have W7 : ∀ {σ : St}, σ[7]? = some (some (.int q')) → PIb (tVar 7) σ q' 100 := fun h => .var h k4
  have c2 : ∀ {σ : St}, PIb (tC (.int 2)) σ 2 2 := .con (by decide)
  have c3 : ∀ {σ : St}, PIb (tC (.int 3)) σ 3 3 := .con (by decide)
  dsimp only
  refine seq_four (M := 1000)
    (.cons (W4 rfl) (W5 rfl) (.cons (.sub (W6 rfl) (W4 rfl)) (.sub (W7 rfl) (W5 rfl)) (.cons (.neg (W6 rfl)) (.neg (W7 rfl)) .nil)))
    (.cons (W4 rfl) (W5 rfl) (.cons (W6 rfl) (W7 rfl) (.cons (.neg (W4 rfl)) (.neg (W5 rfl)) (.cons (.neg (W6 rfl)) (.neg (W7 rfl)) .nil))))
    (.cons (.mul c2 (W4 rfl) (by decide)) (.mul c2 (W5 rfl) (by decide)) (.cons (W6 rfl) (W7 rfl) (.cons (.sub (W6 rfl) (W4 rfl)) (.sub (W7 rfl) (W5 rfl)) (.cons (.neg (W4 rfl)) (.neg (W5 rfl)) (.cons (.mul (.neg c2) (W6 rfl) (by decide)) (.mul (.neg c2) (W7 rfl) (by decide)) .nil)))))
    (.cons (W4 rfl) (W5 rfl) (.cons (.add (W4 rfl) (W6 rfl)) (.add (W5 rfl) (W7 rfl)) (.cons (W6 rfl) (W7 rfl) (.cons (.neg (W4 rfl)) (.neg (W5 rfl)) (.cons (.sub (.neg (W4 rfl)) (W6 rfl)) (.sub (.neg (W5 rfl)) (W7 rfl)) (.cons (.neg (W6 rfl)) (.neg (W7 rfl)) .nil))))))
    (by show 3 ≤ 1000; decide) (by show 4 ≤ 1000; decide) (by show 5 ≤ 1000; decide) (by show 6 ≤ 1000; decide) fun lo xs G1 s1 hlo L1 m1 => ?_
  unfold gName
  refine seq_pairs (M := 1000) (.cons (W4 rfl) (W5 rfl) (.cons (.add (.mul c2 (W4 rfl) (by decide)) (W6 rfl)) (.add (.mul c2 (W5 rfl) (by decide)) (W7 rfl)) (.cons (.add (W4 rfl) (.mul c2 (W6 rfl) (by decide))) (.add (W5 rfl) (.mul c2 (W7 rfl) (by decide))) (.cons (W6 rfl) (W7 rfl) (.cons (.neg (W4 rfl)) (.neg (W5 rfl)) .nil))))) (by show 5 ≤ 1000; decide) fun l4 p4 G2 s2 hl4 el4 pk4 m4 => ?_
  have new : H lo = none := sG.free hlo
  have sG2 := (sG.trans s1).trans s2
  have L2' := L1.same s2
  have n4 : l4 ≠ lo := fun z => by rw [z, L1.at'] at hl4; cases hl4
  clear sG s1 L1 s2 hl4
  refine ⟨_, rfl, .inl ⟨rfl, _, SqL.of L2'.at'⟩, _, rfl, ?_⟩
  show tLst _ _ _ _
  refine lst_pairs (M := 1000) (.cons (.sub (.mul (.neg c2) (W4 rfl) (by decide)) (W6 rfl)) (.sub (.mul (.neg c2) (W5 rfl) (by decide)) (W7 rfl)) (.cons (.sub (.neg (W4 rfl)) (.mul c3 (W6 rfl) (by decide))) (.sub (.neg (W5 rfl)) (.mul c3 (W7 rfl) (by decide))) .nil)) (by show 2 ≤ 1000; decide) fun l5 p5 G3 s3 _ el5 pk5 m5 => ?_
  have len4 : p4.length = 5 := by
    have z := congrArg List.length m4
    rw [List.length_map] at z
    exact z
  have len5 : p5.length = 2 := by
    have z := congrArg List.length m5
    rw [List.length_map] at z
    exact z
  have nx : xs.length = 4 := by
    have z := congrArg List.length m1
    rw [List.length_map] at z
    exact z
  have nr : ∀ X : List (Addr × List Pr), (rwRefs X).length = X.length := fun X => by rw [List.length_map, List.length_map]
  refine ⟨l4, l5, _, _, rfl, rfl, s3 _ _ el4, el5, small (by rw [refsOf_length, refsOf_length]; omega), fun l6 hl6 => ?_⟩
  have sl6 : Same G3 (upd G3 l6 (.lst (refsOf p4 ++ refsOf p5))) := same_new hl6 _
  have el6 : upd G3 l6 (.lst (refsOf p4 ++ refsOf p5)) l6 = some (.lst (refsOf (p4 ++ p5))) := by rw [upd_same, refsOf_app]
  have L4 := L2'.same (s3.trans sl6)
  have n6 : l6 ≠ lo := fun z => by rw [z, (L2'.same s3).at'] at hl6; cases hl6
  generalize upd G3 l6 (.lst (refsOf p4 ++ refsOf p5)) = G4 at sl6 el6 L4 ⊢
  refine ⟨lo, _, _, rfl, rfl, L4.at', small1000 (by rw [nr]; omega), ?_⟩
  have L5 := L4.app n6 el6 ((pk4.same (s3.trans sl6)).app (pk5.same sl6))
  have sO := (sG2.trans (s3.trans sl6)).putNew (o := .lst (rwRefs xs ++ [.ref l6])) new
  have f4 : upd G4 lo (.lst (rwRefs xs ++ [.ref l6])) l4 = some (.lst (refsOf p4)) := by
    rw [upd_ne n4]
    exact (s3.trans sl6) _ _ el4
  have g4 := prOk_put L4.at' (pk4.same (s3.trans sl6)) (.lst (rwRefs xs ++ [.ref l6]))
  generalize upd G4 lo (.lst (rwRefs xs ++ [.ref l6])) = G5 at L5 sO f4 g4 ⊢
  clear L4 L2' sG2 s3 el5 pk5 el6 sl6 n6 el4 pk4
  refine ⟨_, rfl, .inl ⟨rfl, _, SqL.of L5.at'⟩, _, rfl, ?_⟩
  show tLst _ _ _ _
  refine lst_pairs (M := 1000) (.cons (.sub (.mul (.neg c2) (W4 rfl) (by decide)) (W6 rfl)) (.sub (.mul (.neg c2) (W5 rfl) (by decide)) (W7 rfl)) (.cons (.sub (.neg (W4 rfl)) (.mul c2 (W6 rfl) (by decide))) (.sub (.neg (W5 rfl)) (.mul c2 (W7 rfl) (by decide))) (.cons (.neg (W6 rfl)) (.neg (W7 rfl)) .nil))) (by show 3 ≤ 1000; decide) fun l7 p7 G6 s6 _ el7 pk7 m7 => ?_
  have len7 : p7.length = 3 := by
    have z := congrArg List.length m7
    rw [List.length_map] at z
    exact z
  refine ⟨l4, l7, _, _, rfl, rfl, s6 _ _ f4, el7, small (by rw [refsOf_length, refsOf_length]; omega), fun l8 hl8 => ?_⟩
  have sl8 : Same G6 (upd G6 l8 (.lst (refsOf p4 ++ refsOf p7))) := same_new hl8 _
  have el8 : upd G6 l8 (.lst (refsOf p4 ++ refsOf p7)) l8 = some (.lst (refsOf (p4 ++ p7))) := by rw [upd_same, refsOf_app]
  have L8 := L5.same (s6.trans sl8)
  have n8 : l8 ≠ lo := fun z => by rw [z, (L5.same s6).at'] at hl8; cases hl8
  generalize upd G6 l8 (.lst (refsOf p4 ++ refsOf p7)) = G8 at sl8 el8 L8 ⊢
  refine ⟨lo, _, _, rfl, rfl, L8.at', small1000 (by rw [nr, List.length_append]; show xs.length + 1 ≤ 1000; omega), ?_⟩
  have L9 := L8.app n8 el8 ((g4.same (s6.trans sl8)).app (pk7.same sl8))
  have sG := (sO.trans (s6.trans sl8)).putNew (o := .lst (rwRefs (xs ++ [(l6, p4 ++ p5)]) ++ [.ref l8])) new
  generalize upd G8 lo (.lst (rwRefs (xs ++ [(l6, p4 ++ p5)]) ++ [.ref l8])) = G40 at L9 sG ⊢
  clear L8 L5 sO s6 f4 g4 el7 pk7 el8 sl8 n8 n4
  have elo := L9.at'
  have mm : (xs ++ [(l6, p4 ++ p5)] ++ [(l8, p4 ++ p7)]).map (fun u => u.2.map (·.2)) = (List.range 6).map (leadsOf x y p q') := by
    rw [List.map_append, List.map_append, m1]
    simp only [List.map_cons, List.map_nil, List.map_append, m4, m5, m7]
    rfl
  have sq : Sq K G40 a (rows.map V.int) := .inl (sG.seq hS)
  refine ⟨_, rfl, a, _, _, _, rfl, rfl, sq, a5, _, _, rfl, rfl, (by show (0 : Int) < 41; decide), _, _, rfl, rfl, _, rfl, a, _, _, _, rfl, rfl, sq, a6, _, _, rfl, rfl, (by show (0 : Int) < 41; decide), _, _, rfl, rfl, (by show 2 ≤ sizeLine; decide), fun h0 hh0 => ?_⟩
  obtain ⟨c, lr, ls, hc, hat, elr, pls, els⟩ : ∃ (c : Nat) (lr : Addr) (ls : List Pr), c < 6 ∧ atI (rwRefs (xs ++ [(l6, p4 ++ p5)] ++ [(l8, p4 ++ p7)])) (v7 % 6) = some (.ref lr) ∧ G40 lr = some (.lst (refsOf ls)) ∧ PrOk G40 1000 ls ∧ ls.map (·.2) = leadsOf x y p q' c := by
    generalize xs ++ [(l6, p4 ++ p5)] ++ [(l8, p4 ++ p7)] = X at L9 mm
    have z0 := Int.emod_nonneg v7 (show (6 : Int) ≠ 0 by decide)
    have z1 := Int.emod_lt_of_pos v7 (show (0 : Int) < 6 by decide)
    have z2 : ((v7 % 6).toNat : Int) = v7 % 6 := by omega
    have z3 : (v7 % 6).toNat < 6 := by omega
    have g : (X.map (fun u => u.2.map (·.2)))[(v7 % 6).toNat]? = ((List.range 6).map (leadsOf x y p q'))[(v7 % 6).toNat]? := by rw [mm]
    rw [List.getElem?_map, List.getElem?_map, List.getElem?_range z3] at g
    cases gu : X[(v7 % 6).toNat]? with
    | none => rw [gu] at g; cases g
    | some u =>
      rw [gu] at g
      obtain ⟨_, h2, h3⟩ := L9.all u (List.mem_of_getElem? gu)
      refine ⟨(v7 % 6).toNat, u.1, u.2, z3, ?_, h2, h3, Option.some.inj g⟩
      have k : atI (rwRefs X) (((v7 % 6).toNat : Nat) : Int) = some (V.ref u.1) := atI_nat (by rw [List.getElem?_map, List.getElem?_map, gu]; rfl)
      rw [z2] at k
      exact k
  have bh0 : (v5 % 41 - 20).natAbs ≤ 20 := by omega
  have bh1 : (v6 % 41 - 20).natAbs ≤ 20 := by omega
  have s41 : Same G40 (upd G40 h0 (.tup [.int (v5 % 41 - 20), .int (v6 % 41 - 20)])) := same_new hh0 _
  have eh : upd G40 h0 (.tup [.int (v5 % 41 - 20), .int (v6 % 41 - 20)]) h0 = some (.tup [.int (v5 % 41 - 20), .int (v6 % 41 - 20)]) := upd_same
  generalize upd G40 h0 (.tup [.int (v5 % 41 - 20), .int (v6 % 41 - 20)]) = G41 at s41 eh ⊢
  generalize v5 % 41 - 20 = hx at bh0 eh
  generalize v6 % 41 - 20 = hy at bh1 eh
  replace sG := sG.trans s41
  replace elr := s41 _ _ elr
  replace pls := pls.same s41
  replace elo := s41 _ _ elo
  have hls : ls.length = (tabB c).length := by
    have z := congrArg List.length (walk_pts hc hx hy x y p q')
    rw [walkP_length, ← els, List.length_map] at z
    rw [z]
    exact List.length_map _
  have hl8 := tabB_length hc
  refine ⟨_, rfl, _, rfl, a, _, _, _, rfl, rfl, .inl (sG.seq hS), a7, _, _, rfl, rfl, (by show (0 : Int) < 6; decide), lo, _, _, _, rfl, rfl, .inl (SqL.of elo), hat, ?_⟩
  refine ⟨(by show 0 ≤ sizeLine; decide), fun l hl0 => ?_⟩
  have P0 : FdSt G41 l [] (upd G41 l (.lst [])) := ⟨same_new hl0 _, hl0, upd_same, fun t ht => nomatch ht⟩
  have eh0 := same_new hl0 (.lst []) _ _ eh
  generalize upd G41 l (.lst []) = G42 at P0 eh0 ⊢
  refine ⟨_, rfl, lr, rfl, .inl ⟨⟨_, SqL.of (P0.same _ _ elr)⟩, for_list (K := K) (a := lr) (xs := refsOf ls) (fun i σ G => ∃ (ps : List Pr) (hh : Addr) (X Y : Int) (u13 u14 : Option V), FdSt G41 l ps G ∧ ps.length = i ∧ ps.map (·.2) = walkP (hx, hy) ((ls.take i).map (·.2)) ∧ G hh = some (.tup [.int X, .int Y]) ∧ (X, Y) = endP (hx, hy) ((ls.take i).map (·.2)) ∧ X.natAbs ≤ 20 + 1000 * i ∧ Y.natAbs ≤ 20 + 1000 * i ∧
      σ = [some (.ref a), some (.int wd), some (.ref pa), some (.ref pb), some (.int x), some (.int y), some (.int p), some (.int q'), some (.ref lo), some (.ref l4), some (.ref hh), some (.ref lr), some (.ref l), u13, u14, none])
    ⟨[], h0, hx, hy, none, none, P0, rfl, rfl, eh0, rfl, bh0, bh1, rfl⟩ (fun i σ G _ ⟨_, _, _, _, _, _, e, _⟩ => SqL.of (e.same _ _ elr)) ?_ ?_⟩⟩
  · rintro i v σ G hi ⟨ps, hh, X, Y, u13, u14, Pi, hpl, hmap, ehh, hend, bX, bY, rfl⟩
    rw [List.getElem?_map, List.getElem?_map] at hi
    cases ht : ls[i]? with
    | none => rw [ht] at hi; cases hi
    | some t =>
      rw [ht] at hi
      cases hi
      obtain ⟨e1, b1, b2⟩ := pls t (List.mem_of_getElem? ht)
      have hil : i < ls.length := (List.getElem?_eq_some_iff.mp ht).1
      have tk := take_snoc ht
      refine ⟨t.1, _, rfl, SqT.of (Pi.same _ _ e1), rfl, _, _, rfl, _, _, rfl, rfl, ?_⟩
      refine ⟨_, rfl, .inl ⟨rfl, _, SqL.of Pi.at'⟩, _, rfl, l, _, _, rfl, rfl, Pi.at', small1000 (by rw [refsOf_length]; omega), ?_⟩
      obtain ⟨P2, eh2⟩ := Pi.app ehh (by omega) (by omega)
      generalize upd G l (.lst (refsOf ps ++ [.ref hh])) = G2 at P2 eh2 ⊢
      refine ⟨_, rfl, hh, _, _, .int X, rfl, rfl, .inr (SqT.of eh2), rfl, _, rfl, _, _, rfl, rfl, _, rfl, hh, _, _, .int Y, rfl, rfl, .inr (SqT.of eh2), rfl, _, rfl, _, _, rfl, rfl, (by show 2 ≤ sizeLine; decide), fun h2 hh2 => ?_⟩
      refine ⟨ps ++ [(hh, X, Y)], h2, X + t.2.1, Y + t.2.2, _, _, P2.on (same_new hh2 _), by rw [List.length_append, hpl] <;> rfl, ?_, upd_same, ?_, by omega, by omega, rfl⟩
      · rw [tk, List.map_append, List.map_append, hmap]
        show walkP (hx, hy) _ ++ [(X, Y)] = walkP (hx, hy) (_ ++ [t.2])
        rw [walkP_snoc, hend]
      · rw [tk, List.map_append]
        show _ = endP (hx, hy) (_ ++ [t.2])
        rw [endP_snoc, ← hend]
  · rintro σ G ⟨ps, hh, X, Y, u13, u14, Pi, hpl, hmap, ehh, hend, bX, bY, rfl⟩
    rw [refsOf_length] at hpl hmap
    rw [List.take_length, els, walk_pts hc] at hmap
    have hpn : ps.length = (tabB c).length := by omega
    have pos : (0 : Int) < ((refsOf ps).length : Int) := by rw [refsOf_length]; omega
    refine ⟨_, rfl, a, _, _, _, rfl, rfl, .inl ((sG.trans Pi.same).seq hS), a8, _, rfl, l, _, rfl, .inl (SqL.of Pi.at'), _, _, rfl, rfl, pos, ?_⟩
    obtain ⟨k, ek, hk⟩ : ∃ k : Nat, v8 % ((refsOf ps).length : Int) = (k : Int) ∧ k < ps.length := by
      have z0 := Int.emod_nonneg v8 (show ((refsOf ps).length : Int) ≠ 0 by omega)
      have z1 := Int.emod_lt_of_pos v8 pos
      rw [refsOf_length] at z0 z1 ⊢
      exact ⟨(v8 % (ps.length : Int)).toNat, by omega, by omega⟩
    obtain ⟨c1, c2⟩ := cut_at ps k
    rw [← ek] at c1 c2
    refine ⟨_, rfl, _, rfl, _, rfl, l, _, rfl, SqL.of Pi.at', fun f1 hf1 => ?_⟩
    rw [c1]
    have sf1 : Same G (upd G f1 (.lst (refsOf (ps.drop k)))) := same_new hf1 _
    refine ⟨_, rfl, _, rfl, _, rfl, l, _, rfl, SqL.of (sf1 _ _ Pi.at'), fun f2 hf2 => ?_⟩
    rw [c2]
    have sf2 : Same (upd G f1 (.lst (refsOf (ps.drop k)))) (upd (upd G f1 (.lst (refsOf (ps.drop k)))) f2 (.lst (refsOf (ps.take k)))) := same_new hf2 _
    refine ⟨f1, f2, _, _, rfl, rfl, sf2 _ _ upd_same, upd_same, small (by rw [refsOf_length, refsOf_length, List.length_drop, List.length_take]; omega), fun f3 hf3 => ?_⟩
    have sf3 := same_new hf3 (.lst (refsOf (ps.drop k) ++ refsOf (ps.take k)))
    have sAll := (sf1.trans sf2).trans sf3
    refine q f3 (ps.drop k ++ ps.take k) _ ((sG.trans Pi.same).trans sAll) ((sG.trans Pi.same).free ((sf1.trans sf2).free hf3)) (by rw [upd_same, refsOf_app]) ((Pi.all.same sAll).sub fun t ht => ?_) ?_
    · rcases List.mem_append.mp ht with h | h
      · exact List.mem_of_mem_drop h
      · exact List.mem_of_mem_take h
    · exact ⟨c, k, hx, hy, x, y, p, q', hc, by omega, tpos, by rw [List.map_append, List.map_drop, List.map_take, hmap]⟩
theorem edge_low {u v : Int × Int} : lowL (sideOf u v) = [(v.2 - u.2) / ((Nat.gcd (Nat.gcd (v.2 - u.2).natAbs (v.1 - u.1).natAbs) ((v.2 - u.2) * u.1 - (v.1 - u.1) * u.2).natAbs : Nat) : Int), (u.1 - v.1) / ((Nat.gcd (Nat.gcd (v.2 - u.2).natAbs (v.1 - u.1).natAbs) ((v.2 - u.2) * u.1 - (v.1 - u.1) * u.2).natAbs : Nat) : Int), ((v.2 - u.2) * u.1 - (v.1 - u.1) * u.2) / ((Nat.gcd (Nat.gcd (v.2 - u.2).natAbs (v.1 - u.1).natAbs) ((v.2 - u.2) * u.1 - (v.1 - u.1) * u.2).natAbs : Nat) : Int)] := by
  have e2 : u.1 * (v.2 - u.2) - u.2 * (v.1 - u.1) = (v.2 - u.2) * u.1 - (v.1 - u.1) * u.2 := by rw [Int.mul_comm u.1, Int.mul_comm u.2]
  have e1 : -(v.1 - u.1) = u.1 - v.1 := by omega
  have e3 : (u.1 - v.1).natAbs = (v.1 - u.1).natAbs := by omega
  have g : gcdL (sideOf u v) = Nat.gcd (Nat.gcd (v.2 - u.2).natAbs (v.1 - u.1).natAbs) ((v.2 - u.2) * u.1 - (v.1 - u.1) * u.2).natAbs := by
    unfold gcdL sideOf
    rw [e2, e1]
    show Nat.gcd (Nat.gcd (Nat.gcd 0 (v.2 - u.2).natAbs) (u.1 - v.1).natAbs) _ = _
    rw [Nat.gcd_zero_left, e3]
  unfold lowL
  rw [g]
  unfold sideOf
  rw [e2, e1]
  rfl
theorem edge_gcd {u v : Int × Int} (n : u ≠ v) : 0 < Nat.gcd (Nat.gcd (v.2 - u.2).natAbs (v.1 - u.1).natAbs) ((v.2 - u.2) * u.1 - (v.1 - u.1) * u.2).natAbs := by
  refine Nat.gcd_pos_of_pos_left _ ?_
  by_cases h1 : v.2 = u.2
  · refine Nat.gcd_pos_of_pos_right _ (Int.natAbs_pos.mpr fun z => n (Prod.ext (by omega) h1.symm))
  · exact Nat.gcd_pos_of_pos_left _ (Int.natAbs_pos.mpr (by omega))
theorem edge_gcd_le {u v : Int × Int} (n : u ≠ v) (m1 : u.1.natAbs ≤ 10 ^ 6) (m2 : u.2.natAbs ≤ 10 ^ 6) (m3 : v.1.natAbs ≤ 10 ^ 6) (m4 : v.2.natAbs ≤ 10 ^ 6) : Nat.gcd (Nat.gcd (v.2 - u.2).natAbs (v.1 - u.1).natAbs) ((v.2 - u.2) * u.1 - (v.1 - u.1) * u.2).natAbs ≤ 2 * 10 ^ 6 := by
  have d1 : (v.2 - u.2).natAbs ≤ 2 * 10 ^ 6 := by clear m1 m3 n; omega
  have d2 : (v.1 - u.1).natAbs ≤ 2 * 10 ^ 6 := by clear m2 m4 n d1; omega
  by_cases h1 : v.2 = u.2
  · have h2 : 0 < (v.1 - u.1).natAbs := Int.natAbs_pos.mpr fun z => n (Prod.ext (by omega) h1.symm)
    have g0 : 0 < Nat.gcd (v.2 - u.2).natAbs (v.1 - u.1).natAbs := Nat.gcd_pos_of_pos_right _ h2
    exact Nat.le_trans (Nat.le_trans (Nat.gcd_le_left _ g0) (Nat.gcd_le_right _ h2)) d2
  · have h2 : 0 < (v.2 - u.2).natAbs := Int.natAbs_pos.mpr (by omega)
    have g0 : 0 < Nat.gcd (v.2 - u.2).natAbs (v.1 - u.1).natAbs := Nat.gcd_pos_of_pos_left _ h2
    exact Nat.le_trans (Nat.le_trans (Nat.gcd_le_left _ g0) (Nat.gcd_le_left _ h2)) d1
theorem next_at {ps : List Pr} {i : Nat} {k : Int} (h : i < ps.length) (e : k = (i : Int) - (ps.length : Int) + 1) : ∃ t, t ∈ ps ∧ ps[(i + 1) % ps.length]? = some t ∧ atI (refsOf ps) k = some (.ref t.1) := by
  by_cases hn : i + 1 = ps.length
  · rw [hn, Nat.mod_self]
    exact refsOf_at (by omega) (by omega)
  · rw [Nat.mod_eq_of_lt (by omega)]
    exact refsOf_back (by omega) (by omega)
def sp_L_bank_rows (K : PySem.W.Frag) : Sp := fun vs H Q _ => ∃ (c : Addr) (ps : List Pr), vs = [.ref c] ∧ SqL K H c (refsOf ps) ∧ PrOk H (10 ^ 6) ps ∧ ps.length ≤ 8 ∧ (∀ i < ps.length, atP (ps.map (·.2)) i ≠ atP (ps.map (·.2)) ((i + 1) % ps.length)) ∧
  ∀ (D : Addr) (es : List Sd) (H' : Hp), SdSt H D es H' → es.map (·.2) = edgesOf (ps.map (·.2)) → Q (.ref D) H'
theorem ok_L_bank_rows (F : Fun K "_law_bank_rows" "_law_bank_rows" s_L_bank_rows f fd) (Z : Zs mg) (h_L_low : Has P w K mg base "_law_low" 1 ["_law_one", "_law_other"] (sp_L_low K)) : FnOk P w K mg base CX0 2 f fd ["_law_places"] (sp_L_bank_rows K) := by
  refine F.ok sc_L_bank_rows (fun vs H Q E h => ?_) (fun cdv A outer s H vs Q E hr h => ?_)
  · obtain ⟨c, ps, rfl, _⟩ := h
    rfl
  obtain ⟨c, ps, rfl, hc, pk, p8, ne, q⟩ := h
  have nr := refsOf_length ps
  have lp : (ps.map (·.2)).length = ps.length := List.length_map ..
  refine ⟨_, (pss_cons (ps_set (i := 1) sc_L_bank_rows.nd rfl (Or.inl rfl) (pe_lst pa_nil))
      (pss_cons (ps_for PassesOwn.never rfl (pi_range1 rfl Z.range (pa_cons (pe_callB call_len_seq rfl Z.len bt_len (pa_cons (pv 0) pa_nil)) pa_nil)) (pg_name (i := 2) sc_L_bank_rows.nd rfl (Or.inl rfl)) (pss_cons (ps_asg (pe_ix ix_any (pv 0) (pv 2) (fun _ _ => rfl)) (pg_tup rfl (pgs_cons (pg_name (i := 3) sc_L_bank_rows.nd rfl (Or.inl rfl)) (pgs_cons (pg_name (i := 4) sc_L_bank_rows.nd rfl (Or.inl rfl)) pgs_nil))))
      (pss_cons (ps_asg (pe_ix ix_any (pv 0) (pe_op op_add (pe_op op_sub (pv 2) (pe_callB call_len_seq rfl Z.len bt_len (pa_cons (pv 0) pa_nil))) pe_int) (fun _ _ => rfl)) (pg_tup rfl (pgs_cons (pg_name (i := 5) sc_L_bank_rows.nd rfl (Or.inl rfl)) (pgs_cons (pg_name (i := 6) sc_L_bank_rows.nd rfl (Or.inl rfl)) pgs_nil))))
      (pss_cons (ps_set (i := 7) sc_L_bank_rows.nd rfl (Or.inl rfl) (pe_callH h_L_low (hr.mono (by decide)) rfl (pa_cons (pe_callH h_L_low (hr.mono (by decide)) rfl (pa_cons (pe_op op_sub (pv 6) (pv 4)) (pa_cons (pe_op op_sub (pv 5) (pv 3)) pa_nil))) (pa_cons (pe_op op_sub (pe_op op_mul (pe_op op_sub (pv 6) (pv 4)) (pv 3)) (pe_op op_mul (pe_op op_sub (pv 5) (pv 3)) (pv 4))) pa_nil))))
      (pss_one (ps_expr (pe_bm PySem.F.plainAttrs_list PySem.F.slot_list_append PySem.F.type_list_append mt_append (pv 1) (pa_cons (pe_tup (pa_cons (pe_op op_fdivP (pe_op op_sub (pv 6) (pv 4)) (pv 7)) (pa_cons (pe_op op_fdivP (pe_op op_sub (pv 3) (pv 5)) (pv 7)) (pa_cons (pe_op op_fdivP (pe_op op_sub (pe_op op_mul (pe_op op_sub (pv 6) (pv 4)) (pv 3)) (pe_op op_mul (pe_op op_sub (pv 5) (pv 3)) (pv 4))) (pv 7)) pa_nil)))) pa_nil))))))))
      (pss_one (ps_ret (pv 1))))), ?_⟩
  refine ⟨(by show 0 ≤ sizeLine; decide), fun D hD => ?_⟩
  have P0 : SdSt H D [] (upd H D (.lst [])) := ⟨same_new hD _, hD, upd_same, (fun t ht => nomatch ht)⟩
  generalize upd H D (.lst []) = H0 at P0 ⊢
  refine ⟨_, rfl, c, _, rfl, .inl (P0.same.seq hc), _, rfl, (by rw [nr]; omega), (by rw [nr]; omega), for_range (lo := 0) (n := (((refsOf ps).length : Nat) : Int).toNat) (fun i σ G => ∃ es : List Sd, es.length = i ∧ SdSt H D es G ∧ es.map (·.2) = (List.range i).map (fun i => pt3 (lowL (sideOf (atP (ps.map (·.2)) i) (atP (ps.map (·.2)) ((i + 1) % (ps.map (·.2)).length))))) ∧ ∃ u2 u3 u4 u5 u6 u7 : Option V, σ = [some (.ref c), some (.ref D), u2, u3, u4, u5, u6, u7])
    ⟨[], rfl, P0, rfl, none, none, none, none, none, none, rfl⟩ ?_ ?_⟩
  · rintro i σ G hi ⟨es, nes, Pi, mes, u2, u3, u4, u5, u6, u7, rfl⟩
    rw [Int.toNat_natCast, nr] at hi
    have sq : SqL K G c (refsOf ps) := Pi.same.seq hc
    have pkG := pk.same Pi.same
    obtain ⟨t, mt, gt, at0⟩ := refsOf_at (ps := ps) (i := i) (k := 0 + (i : Int)) (by omega) hi
    obtain ⟨t2, mt2, gt2, at2⟩ := next_at (ps := ps) (i := i) (k := 0 + (i : Int) - (((refsOf ps).length : Nat) : Int) + 1) hi (by rw [nr]; omega)
    obtain ⟨et, b1, b2⟩ := pkG t mt
    obtain ⟨et2, b3, b4⟩ := pkG t2 mt2
    have nn : t.2 ≠ t2.2 := by
      have z := ne i hi
      rwa [atP_of gt, atP_of gt2] at z
    refine ⟨_, rfl, _, rfl, c, _, _, .ref t.1, rfl, rfl, .inl sq, at0, t.1, _, rfl, SqT.of et, rfl, .int t.2.1, _, rfl, .int t.2.2, _, rfl, rfl, ?_⟩
    refine ⟨_, rfl, _, rfl, _, rfl, c, _, rfl, .inl sq, _, _, rfl, rfl, _, _, rfl, rfl, c, _, _, .ref t2.1, rfl, rfl, .inl sq, at2, t2.1, _, rfl, SqT.of et2, rfl, .int t2.2.1, _, rfl, .int t2.2.2, _, rfl, rfl, ?_⟩
    have m1 : CMul (t2.2.2 - t.2.2) t.2.1 := cm_l (by omega)
    have m2 : CMul (t2.2.1 - t.2.1) t.2.2 := cm_l (by omega)
    refine ⟨_, rfl, _, rfl, _, _, rfl, rfl, _, rfl, _, rfl, _, _, rfl, rfl, t2.2.2 - t.2.2, t2.2.1 - t.2.1, rfl, _, rfl, _, rfl, _, _, rfl, rfl, _, rfl, _, _, rfl, rfl, m1, _, rfl, _, rfl, _, _, rfl, rfl, _, rfl, _, _, rfl, rfl, m2, _, _, rfl, rfl, ((Nat.gcd (t2.2.2 - t.2.2).natAbs (t2.2.1 - t.2.1).natAbs : Nat) : Int), (t2.2.2 - t.2.2) * t.2.1 - (t2.2.1 - t.2.1) * t.2.2, rfl, ?_⟩
    obtain ⟨x, y, z, exyz, nxy, c1, c2, c3⟩ := edge_sd nn b1 b2 b3 b4
    have gz := edge_gcd nn
    rw [edge_low] at exyz
    have gb : Nat.gcd (Nat.gcd (t2.2.2 - t.2.2).natAbs (t2.2.1 - t.2.1).natAbs) ((t2.2.2 - t.2.2) * t.2.1 - (t2.2.1 - t.2.1) * t.2.2).natAbs ≤ 2 * 10 ^ 6 := edge_gcd_le nn b1 b2 b3 b4
    have elow := edge_low (u := t.2) (v := t2.2)
    rw [show Nat.gcd (((Nat.gcd (t2.2.2 - t.2.2).natAbs (t2.2.1 - t.2.1).natAbs : Nat) : Int)).natAbs ((t2.2.2 - t.2.2) * t.2.1 - (t2.2.1 - t.2.1) * t.2.2).natAbs = Nat.gcd (Nat.gcd (t2.2.2 - t.2.2).natAbs (t2.2.1 - t.2.1).natAbs) ((t2.2.2 - t.2.2) * t.2.1 - (t2.2.1 - t.2.1) * t.2.2).natAbs by rw [Int.natAbs_natCast]]
    generalize Nat.gcd (Nat.gcd (t2.2.2 - t.2.2).natAbs (t2.2.1 - t.2.1).natAbs) ((t2.2.2 - t.2.2) * t.2.1 - (t2.2.1 - t.2.1) * t.2.2).natAbs = g at gz gb exyz elow ⊢
    have dv : ∀ j : Int, CDivP j (g : Int) := fun j => CDivP.of (by omega) (by omega)
    refine ⟨_, rfl, .inl ⟨rfl, _, SqL.of Pi.at'⟩, _, rfl, _, rfl, _, _, rfl, rfl, _, rfl, _, _, rfl, rfl, dv _, _, rfl, _, rfl, _, _, rfl, rfl, _, rfl, _, _, rfl, rfl, dv _, _, rfl, _, rfl, _, _, rfl, rfl, _, rfl, _, _, rfl, rfl, m1, _, rfl, _, rfl, _, _, rfl, rfl, _, rfl, _, _, rfl, rfl, m2, _, _, rfl, rfl, _, rfl, _, _, rfl, rfl, dv _, (by show 3 ≤ sizeLine; decide), fun p hp => ?_⟩
    injection exyz with f1 exyz
    injection exyz with f2 exyz
    injection exyz with f3
    subst f1 f2 f3
    have sp := same_new hp (.tup [.int ((t2.2.2 - t.2.2) / (g : Int)), .int ((t.2.1 - t2.2.1) / (g : Int)), .int (((t2.2.2 - t.2.2) * t.2.1 - (t2.2.1 - t.2.1) * t.2.2) / (g : Int))])
    refine ⟨D, _, _, rfl, rfl, sp _ _ Pi.at', small1000 (by rw [sdRefs_length]; omega), es ++ [(p, _, _, _)], by rw [List.length_append, nes]; rfl, Pi.app sp hp upd_same nxy c1 c2 c3, ?_, _, _, _, _, _, _, rfl⟩
    rw [List.map_append, mes, List.range_succ, List.map_append, List.map_cons, List.map_nil, List.map_cons, List.map_nil, atP_of gt, lp, atP_of gt2, elow]
    rfl
  · rintro σ G ⟨es, nes, Pi, mes, u2, u3, u4, u5, u6, u7, rfl⟩
    rw [Int.toNat_natCast, nr] at mes
    refine ⟨_, rfl, q D es G Pi ?_⟩
    rw [mes]
    unfold edgesOf
    rw [lp]
theorem BankS.ne {vs : List (Int × Int)} (h : BankS vs) : ∀ i < vs.length, atP vs i ≠ atP vs ((i + 1) % vs.length) := fun i hi z => by
  have hlen := h.len
  have hm2 : (i + 2) % vs.length < vs.length := Nat.mod_lt _ (by omega)
  have w0 := bank_left h (i := i) (k := (i + 2) % vs.length) hi hm2 (by rw [wrap (by omega)]; split <;> omega) (by rw [wrap (by omega), wrap (a := i + 1) (by omega)]; split <;> split <;> omega)
  rw [← z] at w0
  unfold crs at w0
  rw [Int.sub_self, Int.sub_self, Int.zero_mul, Int.zero_mul] at w0
  exact absurd w0 (by decide)
theorem sd_cat (ss es : List Sd) : sdRefs ss ++ sdRefs es = sdRefs (ss ++ es) := by simp [sdRefs]
theorem SdOk.cat {H : Hp} {ss es : List Sd} (h : SdOk H ss) (h2 : SdOk H es) : SdOk H (ss ++ es) := fun t ht => (List.mem_append.mp ht).elim (h t) (h2 t)
def sp_L_banked (K : PySem.W.Frag) : Sp := fun vs H Q _ => ∃ (r : Addr) (rows : List Int), vs = [.ref r] ∧ H r = some (.lst (rows.map V.int)) ∧ 80 ≤ rows.length ∧ rows.length ≤ 600 ∧ (∀ x ∈ rows, 0 ≤ x ∧ x < 1000003) ∧
  ∀ (T l c : Addr) (ss : List Sd) (ps : List Pr) (H' : Hp), Same H H' → H' T = some (.tup [.ref l, .ref c]) → H' l = some (.lst (sdRefs ss)) → SdOk H' ss → ss.length ≤ 40 → H' c = some (.lst (refsOf ps)) → PrOk H' 10000 ps → BankS (ps.map (·.2)) → Q (.ref T) H'
theorem ok_L_banked (F : Fun K "_law_banked" "_law_banked" s_L_banked f fd) (Z : Zs mg) (h_L_way : Has P w K mg base "_law_way" 1 ["_law_one", "_law_two", "_law_wide"] (sp_L_way K)) (h_L_bank_rows : Has P w K mg base "_law_bank_rows" 2 ["_law_places"] (sp_L_bank_rows K)) (h_L_bank : Has P w K mg base "_law_bank" 3 ["_law_d", "_law_wide"] (sp_L_bank K)) (h_L_sides : Has P w K mg base "_law_sides" 3 ["_law_some", "_law_many_here"] (sp_L_sides K)) (h_L_tight : Has P w K mg base "_law_tight" 1 ["_law_some", "_law_sides_here"] (sp_L_tight K)) (h_L_many : Has P w K mg base "_law_many" 1 ["_law_one", "_law_two", "_law_few", "_law_most"] (sp_L_many K)) : FnOk P w K mg base CX0 4 f fd ["_law_some"] (sp_L_banked K) := by
  refine F.ok sc_L_banked (fun vs H Q E h => ?_) (fun cdv A outer s H vs Q E hr h => ?_)
  · obtain ⟨r, rows, rfl, _⟩ := h
    rfl
  obtain ⟨r, rows, rfl, er, l1, l2, bd, q⟩ := h
  refine ⟨_, (pss_cons (ps_set (i := 1) sc_L_banked.nd rfl (Or.inl rfl) (pe_callH h_L_many (hr.mono (by decide)) rfl (pa_cons (pe_ix ix_any (pv 0) pe_int (fun _ _ => rfl)) (pa_cons (pe_ix ix_any (pv 0) pe_int (fun _ _ => rfl)) (pa_cons pe_int (pa_cons pe_int pa_nil))))))
      (pss_cons (ps_set (i := 2) sc_L_banked.nd rfl (Or.inl rfl) (pe_callH h_L_tight (hr.mono (by decide)) rfl (pa_cons (pe_slice sl_list (pv 0) (po_some pe_int) po_none) (pa_cons (pe_callH h_L_sides (hr.mono (by decide)) rfl (pa_cons (pe_slice sl_list (pv 0) (po_some pe_int) po_none) (pa_cons (pv 1) pa_nil))) pa_nil))))
      (pss_cons (ps_if (pt_cmpR op_eq (pe_op op_mod (pe_op op_fdivP (pe_ix ix_any (pv 0) pe_int (fun _ _ => rfl)) pe_int) pe_int) pe_int (nomark _)) (pss_one (ps_set (i := 2) sc_L_banked.nd rfl (Or.inl rfl) (pe_op op_cat (pv 2) (pe_comp (T := ["_law_a", "_law_b", "_law_c"]) (caps := []) ⟨rfl, by decide +kernel, by decide +kernel, rfl, True.intro⟩ rfl (pi_seq (pe_callH h_L_sides (hr.mono (by decide)) rfl (pa_cons (pe_slice sl_list (pv 0) (po_some pe_int) po_none) (pa_cons pe_int pa_nil)))) (fun _ => (pg_tup rfl (pgs_cons (pg_name (i := 0) (show (["_law_a", "_law_b", "_law_c"] : List Str).Nodup by decide +kernel) rfl (Or.inl rfl)) (pgs_cons (pg_name (i := 1) (show (["_law_a", "_law_b", "_law_c"] : List Str).Nodup by decide +kernel) rfl (Or.inl rfl)) (pgs_cons (pg_name (i := 2) (show (["_law_a", "_law_b", "_law_c"] : List Str).Nodup by decide +kernel) rfl (Or.inl rfl)) pgs_nil))))) (fun _ => pifs_nil) (fun _ => (pe_tup (pa_cons (pv 0) (pa_cons (pv 1) (pa_cons (pe_op op_add (pe_callB call_abs rfl Z.abs bt_abs (pa_cons (pv 2) pa_nil)) pe_int) pa_nil))))))))) pss_nil)
      (pss_cons (ps_set (i := 3) sc_L_banked.nd rfl (Or.inl rfl) (pe_callH h_L_bank (hr.mono (by decide)) rfl (pa_cons (pe_slice sl_list (pv 0) (po_some pe_int) po_none) (pa_cons (pe_ix ix_any (pe_lst (pa_cons pe_int (pa_cons pe_int (pa_cons pe_int pa_nil)))) (pe_op op_mod (pe_ix ix_any (pv 0) pe_int (fun _ _ => rfl)) pe_int) (fun _ _ => rfl)) pa_nil))))
      (pss_cons (ps_if (pt_cmpR op_eq (pe_op op_mod (pe_ix ix_any (pv 0) pe_int (fun _ _ => rfl)) pe_int) pe_int (nomark _)) (pss_one (ps_set (i := 2) sc_L_banked.nd rfl (Or.inl rfl) (pe_op op_cat (pe_slice sl_list (pv 2) po_none (po_some pe_int)) (pe_slice sl_list (pe_callH h_L_bank_rows (hr.mono (by decide)) rfl (pa_cons (pv 3) pa_nil)) (po_some (pe_op op_mod (pe_ix ix_any (pv 0) pe_int (fun _ _ => rfl)) pe_int)) po_none)))) pss_nil)
      (pss_cons (ps_if (pt_cmpR op_eq (pe_op op_mod (pe_ix ix_any (pv 0) pe_int (fun _ _ => rfl)) pe_int) pe_int (nomark _)) (pss_cons (ps_asg (pe_ix ix_any (pv 3) (pe_op op_mod (pe_ix ix_any (pv 0) pe_int (fun _ _ => rfl)) (pe_callB call_len_seq rfl Z.len bt_len (pa_cons (pv 3) pa_nil))) (fun _ _ => rfl)) (pg_tup rfl (pgs_cons (pg_name (i := 4) sc_L_banked.nd rfl (Or.inl rfl)) (pgs_cons (pg_name (i := 5) sc_L_banked.nd rfl (Or.inl rfl)) pgs_nil))))
      (pss_cons (ps_asg (pe_callH h_L_way (hr.mono (by decide)) rfl (pa_cons (pe_ix ix_any (pv 0) pe_int (fun _ _ => rfl)) (pa_cons (pe_ix ix_any (pv 0) pe_int (fun _ _ => rfl)) (pa_cons pe_int pa_nil)))) (pg_tup rfl (pgs_cons (pg_name (i := 6) sc_L_banked.nd rfl (Or.inl rfl)) (pgs_cons (pg_name (i := 7) sc_L_banked.nd rfl (Or.inl rfl)) pgs_nil))))
      (pss_one (ps_set (i := 2) sc_L_banked.nd rfl (Or.inl rfl) (pe_op op_cat (pe_slice sl_list (pv 2) po_none (po_some pe_int)) (pe_lst (pa_cons (pe_tup (pa_cons (pv 6) (pa_cons (pv 7) (pa_cons (pe_op op_sub (pe_op op_add (pe_op op_mul (pv 6) (pv 4)) (pe_op op_mul (pv 7) (pv 5))) (pe_op op_mod (pe_ix ix_any (pv 0) pe_int (fun _ _ => rfl)) pe_int)) pa_nil)))) pa_nil))))))) pss_nil)
      (pss_one (ps_ret (pe_tup (pa_cons (pv 2) (pa_cons (pv 3) pa_nil))))))))))), ?_⟩
  obtain ⟨v0, a0, _⟩ := row_at bd (k := 0) (by decide) (by omega)
  obtain ⟨v1, a1, _⟩ := row_at bd (k := 1) (by decide) (by omega)
  obtain ⟨v72, a72, _⟩ := row_at bd (k := 72) (by decide) (by omega)
  obtain ⟨v73, a73, _⟩ := row_at bd (k := 73) (by decide) (by omega)
  obtain ⟨v74, a74, _⟩ := row_at bd (k := 74) (by decide) (by omega)
  obtain ⟨v75, a75, _⟩ := row_at bd (k := 75) (by decide) (by omega)
  obtain ⟨v76, a76, _⟩ := row_at bd (k := 76) (by decide) (by omega)
  obtain ⟨v77, a77, _⟩ := row_at bd (k := 77) (by decide) (by omega)
  have cutD : ∀ k : Nat, k ≤ 70 → cutV (rows.map V.int) (some (k : Int)) none = (rows.drop k).map V.int := fun k hk => by
    rw [cutV_ints, HT.sIx_nat rows.length 0 k, show min k rows.length = k by omega, show HT.sIx rows.length rows.length none = rows.length from rfl, List.take_of_length_le (by rw [List.length_drop]; omega)]
  have sq0 : Sq K H r (rows.map V.int) := .inl (SqL.of er)
  refine ⟨_, rfl, r, _, _, _, rfl, rfl, sq0, a0, _, rfl, r, _, _, _, rfl, rfl, sq0, a1, v0, v1, 6, 12, rfl, by decide, by decide, fun mh mh0 mh1 => ?_⟩
  apply cutS (ok := fun D ss G => Same H G ∧ G D = some (.lst (sdRefs ss)) ∧ SdOk G ss ∧ ss.length ≤ 24)
  · intro main
    have sqr : SqL K H r (rows.map V.int) := SqL.of er
    refine ⟨_, rfl, _, rfl, r, _, rfl, sqr, fun c hc => ?_⟩
    rw [show cutV (rows.map V.int) (some 3) none = (rows.drop 3).map V.int from cutD 3 (by decide)]
    have sc := same_new hc (.lst ((rows.drop 3).map V.int))
    have ec : upd H c (.lst ((rows.drop 3).map V.int)) c = some (.lst ((rows.drop 3).map V.int)) := upd_same
    generalize upd H c (.lst ((rows.drop 3).map V.int)) = H2 at sc ec ⊢
    refine ⟨_, rfl, _, rfl, r, _, rfl, sc.seq sqr, fun d hd0 => ?_⟩
    rw [show cutV (rows.map V.int) (some 2) none = (rows.drop 2).map V.int from cutD 2 (by decide)]
    have sd := same_new hd0 (.lst ((rows.drop 2).map V.int))
    have ed : upd H2 d (.lst ((rows.drop 2).map V.int)) d = some (.lst ((rows.drop 2).map V.int)) := upd_same
    generalize upd H2 d (.lst ((rows.drop 2).map V.int)) = H3 at sd ed ⊢
    refine ⟨_, rfl, d, rows.drop 2, mh, rfl, SqL.of ed, by omega, by omega, by rw [List.length_drop]; omega, by rw [List.length_drop]; omega, fun x hx => bd x (List.mem_of_mem_drop hx), fun l0 ss0 G0 s0' hl0 el0 hn0 ok0 bnd0 => ?_⟩
    refine ⟨c, l0, rows.drop 3, ss0, rfl, SqL.of (s0' _ _ (sd _ _ ec)), by rw [List.length_drop]; omega, fun x hx => bd x (List.mem_of_mem_drop hx), el0, ok0, by omega, bnd0, fun l ss G1 s1' el hn ok bnd => ?_⟩
    have n12 : ss.length ≤ 12 := by omega
    have s1 := ((sc.trans sd).trans s0').trans s1'
    have er1 := s1 _ _ er
    refine ⟨_, rfl, r, _, _, _, rfl, rfl, .inl (SqL.of er1), a1, _, _, rfl, rfl, CDivP.of (by decide) (by decide +kernel), _, _, rfl, rfl, (by show (0 : Int) < 24; decide), rfl, _, rfl, ?_⟩
    refine ifE (fun _ => ?_) (fun _ => ?_)
    rotate_left
    · exact main l ss G1 ⟨s1, el, ok, by omega⟩
    · refine ⟨_, rfl, _, rfl, _, rfl, r, _, rfl, SqL.of er1, fun e he => ?_⟩
      rw [show cutV (rows.map V.int) (some 3) none = (rows.drop 3).map V.int from cutD 3 (by decide)]
      have se := same_new he (.lst ((rows.drop 3).map V.int))
      have ee : upd G1 e (.lst ((rows.drop 3).map V.int)) e = some (.lst ((rows.drop 3).map V.int)) := upd_same
      generalize upd G1 e (.lst ((rows.drop 3).map V.int)) = G2 at se ee ⊢
      refine ⟨e, rows.drop 3, 12, rfl, SqL.of ee, by decide, by decide, by rw [List.length_drop]; omega, by rw [List.length_drop]; omega, fun x hx => bd x (List.mem_of_mem_drop hx), fun l3 ss3 G3 s3' hl3 el3 hn3 ok3 bnd3 => ?_⟩
      have n3 : ss3.length = 12 := hn3
      refine ⟨l3, rfl, .inl ⟨⟨_, SqL.of el3⟩, fun cc D hD => comp_list0 (K := K) (a := l3) (xs := sdRefs ss3) (fun i σ ys G => ∃ sa : List Sd, ys = sdRefs sa ∧ sa.length = i ∧ SdSt G3 D sa G ∧ ∃ u0 u1 u2 : Option V, σ = [u0, u1, u2])
        ⟨[], rfl, rfl, ⟨same_new hD _, hD, upd_same, (fun t ht => nomatch ht)⟩, none, none, none, rfl⟩ (fun i σ ys G _ ⟨sa, e1, _, Pq, _⟩ => ⟨SqL.of (Pq.same _ _ el3), by rw [e1]; exact Pq.at'⟩) ?_ ?_⟩⟩
      · rintro i x σ ys Gc hi ⟨sa, rfl, na, Pc, u0, u1, u2, rfl⟩
        obtain ⟨t, gt, rfl, hil⟩ := sdRefs_get hi
        obtain ⟨et, nt, b1, b2, b3⟩ := ok3 t (List.mem_of_getElem? gt)
        have b4 := (bnd3 t (List.mem_of_getElem? gt)).2.2
        refine ⟨t.1, _, rfl, SqT.of (Pc.same _ _ et), rfl, .int t.2.1, _, rfl, .int t.2.2.1, _, rfl, .int t.2.2.2, _, rfl, rfl, ?_⟩
        have nb : ((if t.2.2.2 < 0 then -t.2.2.2 else t.2.2.2) + 40).natAbs ≤ 10 ^ 13 := by
          clear b1 b2 b3 nt
          split <;> omega
        refine ⟨_, rfl, _, rfl, _, rfl, _, rfl, _, _, rfl, rfl, (by show 3 ≤ sizeLine; decide), fun p hp => ?_⟩
        have sp := same_new hp (.tup [.int t.2.1, .int t.2.2.1, .int ((if t.2.2.2 < 0 then -t.2.2.2 else t.2.2.2) + 40)])
        refine ⟨sp _ _ Pc.at', small1000 (by rw [sdRefs_length]; omega), sa ++ [(p, t.2.1, t.2.2.1, ((if t.2.2.2 < 0 then -t.2.2.2 else t.2.2.2) + 40))], by simp [sdRefs], by rw [List.length_append, na]; rfl, Pc.app sp hp upd_same nt b1 b2 nb, _, _, _, rfl⟩
      · rintro σ ys Gc ⟨sa, rfl, na, Pc, u0, u1, u2, rfl⟩
        rw [sdRefs_length] at na
        have s13 := (se.trans s3').trans Pc.same
        refine ⟨l, D, _, _, rfl, rfl, s13 _ _ el, Pc.at', ?_, fun A hA => ?_⟩
        · rw [sdRefs_length, sdRefs_length]
          exact Nat.le_trans (show ss.length + sa.length ≤ 1000 by omega) (by decide)
        have sA : Same Gc (upd Gc A (.lst (sdRefs ss ++ sdRefs sa))) := same_new hA _
        have eA : upd Gc A (.lst (sdRefs ss ++ sdRefs sa)) A = some (.lst (sdRefs (ss ++ sa))) := by rw [upd_same, sd_cat]
        generalize upd Gc A (.lst (sdRefs ss ++ sdRefs sa)) = G5 at sA eA ⊢
        exact main A (ss ++ sa) G5 ⟨s1.trans (s13.trans sA), eA, SdOk.cat (ok.same (s13.trans sA)) (Pc.all.same sA), by rw [List.length_append]; omega⟩
  · rintro L S G ⟨sG, eL, O, n24⟩
    have erG := sG _ _ er
    refine ⟨_, rfl, _, rfl, r, _, rfl, SqL.of erG, fun c hc => ?_⟩
    rw [show cutV (rows.map V.int) (some 63) none = (rows.drop 63).map V.int from cutD 63 (by decide)]
    have sc := same_new hc (.lst ((rows.drop 63).map V.int))
    have ec : upd G c (.lst ((rows.drop 63).map V.int)) c = some (.lst ((rows.drop 63).map V.int)) := upd_same
    generalize upd G c (.lst ((rows.drop 63).map V.int)) = G1 at sc ec ⊢
    refine ⟨(by show 3 ≤ sizeLine; decide), fun e he => ?_⟩
    have se := same_new he (.lst [.int 2, .int 6, .int 30])
    have ee : upd G1 e (.lst [.int 2, .int 6, .int 30]) e = some (.lst [.int 2, .int 6, .int 30]) := upd_same
    generalize upd G1 e (.lst [.int 2, .int 6, .int 30]) = G2 at se ee ⊢
    have s02 := sG.trans (sc.trans se)
    obtain ⟨wd, hw, hw1, hw2⟩ : ∃ b : Int, atI [V.int 2, V.int 6, V.int 30] (v72 % 3) = some (.int b) ∧ 1 ≤ b ∧ b ≤ 100 := by
      have cc : v72 % 3 = 0 ∨ v72 % 3 = 1 ∨ v72 % 3 = 2 := by omega
      rcases cc with e | e | e
      · exact ⟨2, by rw [e]; rfl, by decide, by decide⟩
      · exact ⟨6, by rw [e]; rfl, by decide, by decide⟩
      · exact ⟨30, by rw [e]; rfl, by decide, by decide⟩
    refine ⟨_, rfl, r, _, _, _, rfl, rfl, .inl (SqL.of (s02 _ _ er)), a72, _, _, rfl, rfl, (by show (0 : Int) < 3; decide), e, _, _, .int wd, rfl, rfl, .inl (SqL.of ee), hw, c, rows.drop 63, wd, rfl, SqL.of (se _ _ ec), by rw [List.length_drop]; omega, fun x hx => bd x (List.mem_of_mem_drop hx), hw1, hw2, fun lb ps G3 s3 hlb elb pkb hsh => ?_⟩
    have s03 := s02.trans s3
    have sG3 := (sc.trans se).trans s3
    have er3 := s03 _ _ er
    have eL3 := sG3 _ _ eL
    have O3 := O.same sG3
    have lens := hsh.len
    rw [List.length_map] at lens
    have sq3 : Sq K G3 r (rows.map V.int) := .inl (SqL.of er3)
    have ne := BankS.ne hsh
    rw [List.length_map] at ne
    refine ⟨_, rfl, r, _, _, _, rfl, rfl, sq3, a73, _, _, rfl, rfl, (by show (0 : Int) < 4; decide), rfl, _, rfl, ?_⟩
    refine ifE (fun h1 => ?_) (fun _ => ?_)
    · refine ⟨_, rfl, _, rfl, L, _, rfl, SqL.of eL3, fun e1 he1 => ?_⟩
      rw [show cutV (sdRefs S) none (some 3) = sdRefs (S.take 3) from sd_upto S 3]
      have s4 := same_new he1 (.lst (sdRefs (S.take 3)))
      have ee1 : upd G3 e1 (.lst (sdRefs (S.take 3))) e1 = some (.lst (sdRefs (S.take 3))) := upd_same
      generalize upd G3 e1 (.lst (sdRefs (S.take 3))) = G4 at s4 ee1 ⊢
      refine ⟨_, rfl, lb, ps, rfl, SqL.of (s4 _ _ elb), (fun t ht => ?_), lens.2, ne, fun D es G5 P5 mes => ?_⟩
      · obtain ⟨z1, z2, z3⟩ := pkb.same s4 t ht
        exact ⟨z1, Nat.le_trans z2 (by decide), Nat.le_trans z3 (by decide)⟩
      have s45 := s4.trans P5.same
      refine ⟨_, rfl, r, _, _, _, rfl, rfl, .inl (SqL.of (s45 _ _ er3)), a74, _, _, rfl, rfl, (by show (0 : Int) < 3; decide), v74 % 3, rfl, D, _, rfl, SqL.of P5.at', fun e2 he2 => ?_⟩
      obtain ⟨k, hk, hk3⟩ : ∃ k : Nat, v74 % 3 = (k : Int) ∧ k < 3 := ⟨(v74 % 3).toNat, by omega, by omega⟩
      rw [hk]
      rw [show cutV (sdRefs es) (some (k : Int)) none = sdRefs (es.drop k) from sd_from es k]
      have s6 := same_new he2 (.lst (sdRefs (es.drop k)))
      have ee2 : upd G5 e2 (.lst (sdRefs (es.drop k))) e2 = some (.lst (sdRefs (es.drop k))) := upd_same
      generalize upd G5 e2 (.lst (sdRefs (es.drop k))) = G6 at s6 ee2 ⊢
      have nes : es.length = ps.length := by
        have z := congrArg List.length mes
        unfold edgesOf at z
        rw [List.length_map, List.length_map, List.length_range, List.length_map] at z
        exact z
      have lt3 : (S.take 3).length + (es.drop k).length ≤ 40 := by rw [List.length_take, List.length_drop]; omega
      refine ⟨e1, e2, _, _, rfl, rfl, s6 _ _ (P5.same _ _ ee1), ee2, ?_, fun A hA => ?_⟩
      · rw [sdRefs_length, sdRefs_length]
        exact Nat.le_trans lt3 (by decide)
      have s7 : Same G6 (upd G6 A (.lst (sdRefs (S.take 3) ++ sdRefs (es.drop k)))) := same_new hA _
      have eA : upd G6 A (.lst (sdRefs (S.take 3) ++ sdRefs (es.drop k))) A = some (.lst (sdRefs (S.take 3 ++ es.drop k))) := by rw [upd_same, sd_cat]
      generalize upd G6 A (.lst (sdRefs (S.take 3) ++ sdRefs (es.drop k))) = G7 at s7 eA ⊢
      have s37 := (s45.trans s6).trans s7
      refine ⟨_, rfl, r, _, _, _, rfl, rfl, .inl (SqL.of (s37 _ _ er3)), a73, _, _, rfl, rfl, (by show (0 : Int) < 4; decide), rfl, _, rfl, ?_⟩
      refine ifE (fun h2 => absurd (h1.symm.trans h2) (by decide)) (fun _ => ?_)
      refine ⟨_, rfl, _, rfl, (by show 2 ≤ sizeLine; decide), fun T hT => ?_⟩
      have s8 := same_new hT (.tup [.ref A, .ref lb])
      have s38 := s37.trans s8
      exact q T A lb _ ps _ (s03.trans s38) upd_same (s8 _ _ eA) (SdOk.cat (fun t ht => O3.same s38 t (List.mem_of_mem_take ht)) (fun t ht => P5.all.same ((s6.trans s7).trans s8) t (List.mem_of_mem_drop ht))) (by rw [List.length_append]; exact lt3) (s38 _ _ elb) (pkb.same s38) hsh
    · refine ⟨_, rfl, r, _, _, _, rfl, rfl, sq3, a73, _, _, rfl, rfl, (by show (0 : Int) < 4; decide), rfl, _, rfl, ?_⟩
      refine ifE (fun h2 => ?_) (fun _ => ?_)
      · have lp : (0 : Int) < (((refsOf ps).length : Nat) : Int) := by rw [refsOf_length]; omega
        have x0 := Int.emod_nonneg v74 (show (((refsOf ps).length : Nat) : Int) ≠ 0 by omega)
        have x1 := Int.emod_lt_of_pos v74 lp
        obtain ⟨i, hi, hi2⟩ : ∃ i : Nat, v74 % (((refsOf ps).length : Nat) : Int) = (i : Int) ∧ i < ps.length := by
          generalize v74 % (((refsOf ps).length : Nat) : Int) = z at x0 x1
          rw [refsOf_length] at x1
          exact ⟨z.toNat, by omega, by omega⟩
        obtain ⟨t, mt, gt, at0⟩ := refsOf_at (ps := ps) (i := i) (k := v74 % (((refsOf ps).length : Nat) : Int)) hi hi2
        obtain ⟨et, b1, b2⟩ := pkb t mt
        refine ⟨_, rfl, _, rfl, r, _, _, _, rfl, rfl, sq3, a74, _, rfl, lb, _, rfl, .inl (SqL.of elb), _, _, rfl, rfl, lp, lb, _, _, .ref t.1, rfl, rfl, .inl (SqL.of elb), at0, t.1, _, rfl, SqT.of et, rfl, .int t.2.1, _, rfl, .int t.2.2, _, rfl, rfl, ?_⟩
        refine ⟨_, rfl, r, _, _, _, rfl, rfl, sq3, a75, _, rfl, r, _, _, _, rfl, rfl, sq3, a76, v75, v76, 4, rfl, by decide, by decide, fun p x y G4 s4 hp ep nxy bx by' => ?_⟩
        have bx4 : x.natAbs ≤ 4 := bx
        have by4 : y.natAbs ≤ 4 := by'
        refine ⟨p, _, rfl, SqT.of ep, rfl, .int x, _, rfl, .int y, _, rfl, rfl, ?_⟩
        have m1 := natAbs_mul_le x t.2.1 bx4 b1
        have m2 := natAbs_mul_le y t.2.2 by4 b2
        have bz : (x * t.2.1 + y * t.2.2 - v77 % 2).natAbs ≤ 10 ^ 13 := by
          clear bx by' bx4 by4 nxy b1 b2 x0 x1 lp hi2 hi
          generalize x * t.2.1 = X at m1 ⊢
          generalize y * t.2.2 = Y at m2 ⊢
          omega
        have er4 := s4 _ _ er3
        refine ⟨_, rfl, _, rfl, L, _, rfl, SqL.of (s4 _ _ eL3), fun e1 he1 => ?_⟩
        rw [show cutV (sdRefs S) none (some 2) = sdRefs (S.take 2) from sd_upto S 2]
        have s5 := same_new he1 (.lst (sdRefs (S.take 2)))
        have ee1 : upd G4 e1 (.lst (sdRefs (S.take 2))) e1 = some (.lst (sdRefs (S.take 2))) := upd_same
        generalize upd G4 e1 (.lst (sdRefs (S.take 2))) = G5 at s5 ee1 ⊢
        refine ⟨_, rfl, _, rfl, _, rfl, _, rfl, _, _, rfl, rfl, cm_l (by omega), _, rfl, _, rfl, _, _, rfl, rfl, cm_l (by omega), _, _, rfl, rfl, _, rfl, r, _, _, _, rfl, rfl, .inl (SqL.of (s5 _ _ er4)), a77, _, _, rfl, rfl, (by show (0 : Int) < 2; decide), _, _, rfl, rfl, (by show 3 ≤ sizeLine; decide), fun p2 hp2 => ?_⟩
        have s6 := same_new hp2 (.tup [.int x, .int y, .int (x * t.2.1 + y * t.2.2 - v77 % 2)])
        have ep2 : upd G5 p2 (.tup [.int x, .int y, .int (x * t.2.1 + y * t.2.2 - v77 % 2)]) p2 = some (.tup [.int x, .int y, .int (x * t.2.1 + y * t.2.2 - v77 % 2)]) := upd_same
        generalize upd G5 p2 (.tup [.int x, .int y, .int (x * t.2.1 + y * t.2.2 - v77 % 2)]) = G6 at s6 ep2 ⊢
        refine ⟨(by show 1 ≤ sizeLine; decide), fun e2 he2 => ?_⟩
        have s7 := same_new he2 (.lst [.ref p2])
        have ee2 : upd G6 e2 (.lst [.ref p2]) e2 = some (.lst (sdRefs [(p2, x, y, x * t.2.1 + y * t.2.2 - v77 % 2)])) := upd_same
        generalize upd G6 e2 (.lst [.ref p2]) = G7 at s7 ee2 ⊢
        refine ⟨e1, e2, _, _, rfl, rfl, s7 _ _ (s6 _ _ ee1), ee2, ?_, fun A hA => ?_⟩
        · rw [sdRefs_length, sdRefs_length, List.length_take]
          exact Nat.le_trans (show min 2 S.length + 1 ≤ 1000 by omega) (by decide)
        have s8 : Same G7 (upd G7 A (.lst (sdRefs (S.take 2) ++ sdRefs [(p2, x, y, x * t.2.1 + y * t.2.2 - v77 % 2)]))) := same_new hA _
        have eA : upd G7 A (.lst (sdRefs (S.take 2) ++ sdRefs [(p2, x, y, x * t.2.1 + y * t.2.2 - v77 % 2)])) A = some (.lst (sdRefs (S.take 2 ++ [(p2, x, y, x * t.2.1 + y * t.2.2 - v77 % 2)]))) := by rw [upd_same, sd_cat]
        generalize upd G7 A (.lst (sdRefs (S.take 2) ++ sdRefs [(p2, x, y, x * t.2.1 + y * t.2.2 - v77 % 2)])) = G8 at s8 eA ⊢
        refine ⟨_, rfl, _, rfl, (by show 2 ≤ sizeLine; decide), fun T hT => ?_⟩
        have s9 := same_new hT (.tup [.ref A, .ref lb])
        have s69 := (s7.trans s8).trans s9
        have s39 := ((s4.trans s5).trans s6).trans s69
        exact q T A lb _ ps _ (s03.trans s39) upd_same (s9 _ _ eA) (SdOk.cat (fun t ht => O3.same s39 t (List.mem_of_mem_take ht)) (fun t ht => by
          rw [List.mem_singleton] at ht
          subst ht
          exact ⟨s69 _ _ ep2, nxy, Nat.le_trans bx4 (by decide), Nat.le_trans by4 (by decide), bz⟩)) (by rw [List.length_append, List.length_take]; show min 2 S.length + 1 ≤ 40; omega) (s39 _ _ elb) (pkb.same s39) hsh
      · refine ⟨_, rfl, _, rfl, (by show 2 ≤ sizeLine; decide), fun T hT => ?_⟩
        have s8 := same_new hT (.tup [.ref L, .ref lb])
        exact q T L lb _ ps _ (s03.trans s8) upd_same (s8 _ _ eL3) (O3.same s8) (by omega) (s8 _ _ elb) (pkb.same s8) hsh
theorem sv_val {e z P : P3} (h : sv (e.1 * z.2.2, e.2.1 * z.2.2, e.1 * z.1 + e.2.1 * z.2.1) P = 0) : sv e P * z.2.2 = sv e z * P.2.2 := by
  unfold sv at h ⊢
  simp only [Int.sub_mul, Int.mul_sub, Int.add_mul, Int.mul_add, Int.mul_comm, Int.mul_left_comm, Int.mul_assoc] at h ⊢
  omega
theorem pos_of_eq {x y u v : Int} (h : x * u = y * v) (hu : 0 < u) (hv : 0 < v) (hy : 0 < y) : 0 < x := pos_of_mul (y := u) (by rw [h]; exact Int.mul_pos hy hv) hu
theorem corner_beyond {ss : List Sd} {g z : P3} (nz : ∀ t ∈ ss, t.2.1 ≠ 0 ∨ t.2.2.1 ≠ 0) (gz : g.1 ≠ 0 ∨ g.2.1 ≠ 0) (nw : NoWay ss g) {s0 : Sd} (m0 : s0 ∈ ss) (h0 : tn g s0.2 ≠ 0) (zw : 0 < z.2.2) (wz : inW ss z) (bz : 0 < sv g z) :
    ∃ t ∈ ss, ∃ u ∈ ss, tn t.2 u.2 ≠ 0 ∧ inW ss (pt3 (crL t.2 u.2)) ∧ 0 < sv g (pt3 (crL t.2 u.2)) := by
  let e0 : P3 := (g.1 * z.2.2, g.2.1 * z.2.2, g.1 * z.1 + g.2.1 * z.2.1)
  have t0 : ∀ t : P3, tn e0 t = tn g t * z.2.2 := fun t => by
    show g.1 * z.2.2 * t.2.1 - g.2.1 * z.2.2 * t.1 = (g.1 * t.2.1 - g.2.1 * t.1) * z.2.2
    simp only [Int.sub_mul, Int.mul_sub, Int.add_mul, Int.mul_add, Int.mul_comm, Int.mul_left_comm, Int.mul_assoc]
  have o0 : sv e0 z = 0 := by
    show g.1 * z.2.2 * z.1 + g.2.1 * z.2.2 * z.2.1 - (g.1 * z.1 + g.2.1 * z.2.1) * z.2.2 = 0
    simp only [Int.sub_mul, Int.mul_sub, Int.add_mul, Int.mul_add, Int.mul_comm, Int.mul_left_comm, Int.mul_assoc]
    omega
  have ne0 : e0.1 ≠ 0 ∨ e0.2.1 ≠ 0 := by
    rcases gz with h | h
    · exact .inl (Int.mul_ne_zero h (by omega))
    · exact .inr (Int.mul_ne_zero h (by omega))
  have hN0 := nn_pos ne0
  have ns0 : tn e0 s0.2 ≠ 0 := by
    rw [t0]
    exact Int.mul_ne_zero h0 (by omega)
  obtain ⟨k, _, kk, kp⟩ := hand_of ns0
  rcases exists_end kk hN0 ss with n | ⟨t, mt, ht, a⟩
  · have := n s0 m0
    omega
  obtain ⟨sp, c1, c2⟩ := cr_ok (ne_hand ht)
  obtain ⟨j, gj⟩ := List.getElem?_of_mem mt
  have w1 := end_in kk hN0 o0 zw wz gj ht a
  generalize pt3 (crL e0 t.2) = P1 at sp c1 c2 w1
  have b1 : 0 < sv g P1 := pos_of_eq (sv_val c1) zw sp.pos bz
  have nt := nz t mt
  have hNt := nn_pos nt
  have tg : tn t.2 g ≠ 0 := by
    have z1 := ne_hand ht
    rw [t0] at z1
    intro z2
    rw [tn_anti, z2] at z1
    exact z1 (by rw [Int.neg_zero, Int.zero_mul])
  obtain ⟨h, h1, hh, hp⟩ := hand_of tg
  rcases exists_end hh hNt ss with n | ⟨u, mu, hu, a2⟩
  · have := nw t mt h h1 n
    omega
  obtain ⟨sp2, d1, d2⟩ := cr_ok (ne_hand hu)
  obtain ⟨j2, gj2⟩ := List.getElem?_of_mem mu
  have w2 := end_in hh hNt c2 sp.pos w1 gj2 hu a2
  refine ⟨t, mt, u, mu, ne_hand hu, w2, ?_⟩
  have q1 := dl_ge hh hNt d1 c2 sp2.pos d2 (w1 u mu) hu
  have q2 := key_sv d1 c2 g
  generalize pt3 (crL t.2 u.2) = P2 at sp2 d1 d2 w2 q1 q2
  have q3 : 0 ≤ (dl t.2 P2 P1 * h) * (tn t.2 g * h) := Int.mul_nonneg q1 (Int.le_of_lt hp)
  rw [sq_hand hh, ← q2] at q3
  have q4 : 0 ≤ sv g P2 * P1.2.2 - sv g P1 * P2.2.2 := by
    by_cases c : 0 ≤ sv g P2 * P1.2.2 - sv g P1 * P2.2.2
    · exact c
    · have := Int.mul_neg_of_pos_of_neg hNt (show sv g P2 * P1.2.2 - sv g P1 * P2.2.2 < 0 by omega)
      omega
  have q5 := Int.mul_pos b1 sp2.pos
  exact pos_of_mul (y := P1.2.2) (by omega) sp.pos
theorem par_sv {t g z : P3} (h : tn t g = 0) : (g.1 * g.1 + g.2.1 * g.2.1) * sv t z = dt t g * (g.1 * z.1 + g.2.1 * z.2.1) - t.2.2 * (g.1 * g.1 + g.2.1 * g.2.1) * z.2.2 := by
  have k := key_id g.1 g.2.1 t.1 t.2.1 z.1 z.2.1
  have e : g.1 * t.2.1 - g.2.1 * t.1 = 0 := by
    have := tn_anti g t
    unfold tn at this h
    omega
  rw [e, Int.mul_zero, Int.zero_add] at k
  unfold sv dt
  rw [Int.mul_sub, k, Int.mul_comm (g.1 * z.1 + g.2.1 * z.2.1), Int.mul_comm g.1 t.1, Int.mul_comm g.2.1 t.2.1]
  congr 1
  simp only [Int.mul_comm, Int.mul_left_comm, Int.mul_add, Int.add_mul]
theorem par_no {ss : List Sd} {g z : P3} (gz : g.1 ≠ 0 ∨ g.2.1 ≠ 0) {t : Sd} (mt : t ∈ ss) (h : tn t.2 g = 0) (hd : 0 < dt t.2 g) (hr : t.2.2.2 * (g.1 * g.1 + g.2.1 * g.2.1) ≤ g.2.2 * dt t.2 g) (zw : 0 < z.2.2) (wz : inW ss z) : sv g z ≤ 0 := by
  have k := par_sv (z := z) h
  have hN := nn_pos gz
  have z1 := le_mul hN (wz t mt)
  have z2 := Int.mul_le_mul_of_nonneg_right hr (Int.le_of_lt zw)
  by_cases c : sv g z ≤ 0
  · exact c
  · have z3 := Int.mul_pos hd (show 0 < sv g z by omega)
    unfold sv at z3
    rw [Int.mul_sub] at z3
    have e : dt t.2 g * (g.2.2 * z.2.2) = g.2.2 * dt t.2 g * z.2.2 := by simp only [Int.mul_comm, Int.mul_left_comm, Int.mul_assoc]
    rw [e] at z3
    omega
theorem par_yes {ss : List Sd} {g P : P3} (gz : g.1 ≠ 0 ∨ g.2.1 ≠ 0) (pw : 0 < P.2.2) (wp : inW ss P) (bp : 0 ≤ sv g P) (sm : ∀ t ∈ ss, t.2.1.natAbs ≤ 10 ^ 9 ∧ t.2.2.1.natAbs ≤ 10 ^ 9) (g1 : g.1.natAbs ≤ 10 ^ 9) (g2 : g.2.1.natAbs ≤ 10 ^ 9)
    (all : ∀ t ∈ ss, tn t.2 g = 0) (no : ∀ t ∈ ss, 0 < dt t.2 g → g.2.2 * dt t.2 g < t.2.2.2 * (g.1 * g.1 + g.2.1 * g.2.1)) : ∃ z : P3, 0 < z.2.2 ∧ inW ss z ∧ 0 < sv g z := by
  by_cases c : 0 < sv g P
  · exact ⟨P, pw, wp, c⟩
  have hN := nn_pos gz
  have on : g.1 * P.1 + g.2.1 * P.2.1 = g.2.2 * P.2.2 := by
    unfold sv at c bp
    omega
  have mv : ∀ t : P3, sv t (2 * 10 ^ 18 * P.1 + g.1, 2 * 10 ^ 18 * P.2.1 + g.2.1, 2 * 10 ^ 18 * P.2.2) = 2 * 10 ^ 18 * sv t P + dt t g := fun t => by
    unfold sv dt
    simp only [Int.mul_add, Int.mul_sub, Int.mul_left_comm]
    omega
  refine ⟨(2 * 10 ^ 18 * P.1 + g.1, 2 * 10 ^ 18 * P.2.1 + g.2.1, 2 * 10 ^ 18 * P.2.2), by show 0 < 2 * 10 ^ 18 * P.2.2; omega, fun t mt => ?_, ?_⟩
  · rw [mv]
    have z0 := wp t mt
    by_cases hd : 0 < dt t.2 g
    · have k := par_sv (z := P) (all t mt)
      rw [on] at k
      have z1 := Int.mul_lt_mul_of_pos_right (no t mt hd) pw
      have e : dt t.2 g * (g.2.2 * P.2.2) = g.2.2 * dt t.2 g * P.2.2 := by simp only [Int.mul_comm, Int.mul_left_comm, Int.mul_assoc]
      rw [e] at k
      have z2 : sv t.2 P < 0 := n_of (g := g.1 * g.1 + g.2.1 * g.2.1) hN (by rw [Int.mul_comm]; omega)
      have m1 := natAbs_mul_le t.2.1 g.1 (sm t mt).1 g1
      have m2 := natAbs_mul_le t.2.2.1 g.2.1 (sm t mt).2 g2
      have z3 : dt t.2 g ≤ 2 * 10 ^ 18 := by
        unfold dt
        clear no all mv sm g1 g2 k z1 e z0 z2 hd c bp on
        generalize t.2.1 * g.1 = A at m1 ⊢
        generalize t.2.2.1 * g.2.1 = B at m2 ⊢
        omega
      omega
    · omega
  · rw [mv]
    have : dt g g = g.1 * g.1 + g.2.1 * g.2.1 := rfl
    omega
theorem ways_no {H : Hp} {p : Addr} {ss : List Sd} {us : List (Addr × List Int)} {g : P3} (W : WaysAt H p ss us) (nz : ∀ t ∈ ss, t.2.1 ≠ 0 ∨ t.2.2.1 ≠ 0) (no : ∀ u ∈ us, ∀ x y, u.2 = [x, y] → ¬ 0 < g.1 * x + g.2.1 * y) : NoWay ss g := fun t mt h hh hall' => by
  have nt := nz t mt
  have key : ∀ X Y : Int, (X ≠ 0 ∨ Y ≠ 0) → lowL [X, Y] ∈ us.map (·.2) → g.1 * X + g.2.1 * Y ≤ 0 := fun X Y n hm => by
    obtain ⟨x, y, e, gp', _⟩ := dir_low n
    obtain ⟨u, hu, eu⟩ := List.mem_map.mp hm
    have sc' := low_scale (a := g.1) (b := g.2.1) n e
    by_cases c : g.1 * X + g.2.1 * Y ≤ 0
    · exact c
    · rw [← sc'] at c
      exact absurd (pos_of_mul (y := (gcdL [X, Y] : Int)) (by omega) (by omega)) (no u hu x y (eu.trans e))
  obtain ⟨j, gj⟩ := List.getElem?_of_mem mt
  have hj := (List.getElem?_eq_some_iff.mp gj).1
  rcases hh with rfl | rfl
  · have hw : wayB ss (-t.2.2.1) t.2.1 = true := wayB_iff.mpr fun s hs => by
      have z := hall' s hs
      unfold tn at z
      rw [Int.mul_neg, Int.mul_comm s.2.1, Int.mul_comm s.2.2.1]
      omega
    have z := key _ _ (by omega) ((W.mem _).mpr ⟨j, t, hj, gj, .inl ⟨rfl, hw⟩⟩)
    unfold tn
    rw [Int.mul_neg, Int.mul_comm g.1, Int.mul_comm g.2.1] at z
    omega
  · have hw : wayB ss t.2.2.1 (-t.2.1) = true := wayB_iff.mpr fun s hs => by
      have z := hall' s hs
      unfold tn at z
      rw [Int.mul_neg, Int.mul_comm s.2.1, Int.mul_comm s.2.2.1]
      omega
    have z := key _ _ (by omega) ((W.mem _).mpr ⟨j, t, hj, gj, .inr ⟨rfl, hw⟩⟩)
    unfold tn
    rw [Int.mul_neg, Int.mul_comm g.1, Int.mul_comm g.2.1] at z
    omega
def dotL (g : P3) (k : List Int) : Int := match k with
  | [x, y] => g.1 * x + g.2.1 * y
  | _ => 0
def parB (g : P3) (t : Sd) : Bool := decide (V.int (t.2.1 * g.2.1) = V.int (t.2.2.1 * g.1))
def nearB (g : P3) (t : Sd) : Bool := decide (0 < dt t.2 g) && decide (t.2.2.2 * (g.1 * g.1 + g.2.1 * g.2.1) ≤ g.2.2 * dt t.2 g)
def bynB (g : P3) (q : Addr × P3) : Bool := decide (g.2.2 * q.2.2.2 < g.1 * q.2.1 + g.2.1 * q.2.2.1)
theorem any_iff {α : Type} {f : α → Bool} {l : List α} : ((l.map f).any id = true) ↔ ∃ a ∈ l, f a = true := by
  rw [List.any_map, List.any_eq_true]
  rfl
theorem all_iff {α : Type} {f : α → Bool} {l : List α} : ((l.map f).all id = true) ↔ ∀ a ∈ l, f a = true := by
  rw [List.all_map, List.all_eq_true]
  rfl
def sp_L_beyond (K : PySem.W.Frag) : Sp := fun vs H Q _ => ∃ (l e : Addr) (ss : List Sd) (g : P3), vs = [.ref l, .ref e] ∧ H l = some (.lst (sdRefs ss)) ∧ SdOk H ss ∧ ss.length ≤ 40 ∧ H e = some (.tup [.int g.1, .int g.2.1, .int g.2.2]) ∧ (g.1 ≠ 0 ∨ g.2.1 ≠ 0) ∧ g.1.natAbs ≤ 10 ^ 9 ∧ g.2.1.natAbs ≤ 10 ^ 9 ∧ g.2.2.natAbs ≤ 10 ^ 13 ∧
  ∀ (b : Bool) (H' : Hp), Same H H' → (b = true ↔ ∃ z : P3, 0 < z.2.2 ∧ inW ss z ∧ 0 < sv g z) → Q (.bl b) H'
theorem ok_L_beyond (F : Fun K "_law_beyond" "_law_beyond" s_L_beyond f fd) (Z : Zs mg) (h_L_corners_of : Has P w K mg base "_law_corners_of" 4 ["_law_sides_here"] (sp_L_corners_of K)) (h_L_flow : Has P w K mg base "_law_flow" 2 ["_law_sides_here"] (sp_L_flow K)) (h_L_any_place : Has P w K mg base "_law_any_place" 5 ["_law_sides_here"] (sp_L_any_place K)) : FnOk P w K mg base CX0 6 f fd ["_law_sides_here", "_law_side_here"] (sp_L_beyond K) := by
  refine F.ok sc_L_beyond (fun vs H Q E h => ?_) (fun cdv A outer s H vs Q E hr h => ?_)
  · obtain ⟨l, e, ss, g, rfl, _⟩ := h
    rfl
  obtain ⟨l, e, ss, g, rfl, el, ok, hlen, he, gz, g1, g2, g3, q⟩ := h
  have nz : ∀ t ∈ ss, t.2.1 ≠ 0 ∨ t.2.2.1 ≠ 0 := fun t ht => (ok t ht).2.1
  have ga : ∀ j : Int, CMul g.1 j := fun j => cm_l (by omega)
  have gb : ∀ j : Int, CMul g.2.1 j := fun j => cm_l (by omega)
  have gc : ∀ j : Int, CMul g.2.2 j := fun j => cm_l (by omega)
  refine ⟨_, (pss_cons (ps_asg (pv 1) (pg_tup rfl (pgs_cons (pg_name (i := 2) sc_L_beyond.nd rfl (Or.inr rfl)) (pgs_cons (pg_name (i := 3) sc_L_beyond.nd rfl (Or.inr rfl)) (pgs_cons (pg_name (i := 4) sc_L_beyond.nd rfl (Or.inr rfl)) pgs_nil)))))
      (pss_cons (ps_set (i := 5) sc_L_beyond.nd rfl (Or.inl rfl) (pe_op op_cat (pv 0) (pe_lst (pa_cons (pe_tup (pa_cons (pe_un un_neg (pv 2)) (pa_cons (pe_un un_neg (pv 3)) (pa_cons (pe_un un_neg (pv 4)) pa_nil)))) pa_nil))))
      (pss_cons (ps_if (pt_cmpR op_isN (pe_callH h_L_any_place (hr.mono (by decide)) rfl (pa_cons (pv 5) pa_nil)) pe_non (nomark _)) (pss_one (ps_ret pe_bl)) pss_nil)
      (pss_cons (ps_if (pt_val (pe_callB (call_anyB rfl) rfl Z.any bt_any (pa_cons (pe_comp (T := ["_law_x", "_law_y"]) (caps := [("_law_a", 2), ("_law_b", 3)]) ⟨rfl, by decide +kernel, by decide +kernel, rfl, ⟨⟨rfl, rfl, Or.inl rfl⟩, ⟨rfl, rfl, Or.inl rfl⟩, True.intro⟩⟩ rfl (pi_seq (pe_callH h_L_flow (hr.mono (by decide)) rfl (pa_cons (pv 0) pa_nil))) (fun _ => (pg_tup rfl (pgs_cons (pg_name (i := 0) (show (["_law_x", "_law_y", "_law_a", "_law_b"] : List Str).Nodup by decide +kernel) rfl (Or.inl rfl)) (pgs_cons (pg_name (i := 1) (show (["_law_x", "_law_y", "_law_a", "_law_b"] : List Str).Nodup by decide +kernel) rfl (Or.inl rfl)) pgs_nil)))) (fun _ => pifs_nil) (fun _ => (pe_cmpR op_gt (pe_op op_add (pe_op op_mul (pv 2) (pv 0)) (pe_op op_mul (pv 3) (pv 1))) pe_int (nomark _)))) pa_nil))) (pss_one (ps_ret pe_bl)) pss_nil)
      (pss_cons (ps_if (pt_val (pe_callB (call_allB rfl) rfl Z.all bt_all (pa_cons (pe_comp (T := ["_law_p", "_law_q", "_law_r"]) (caps := [("_law_a", 2), ("_law_b", 3)]) ⟨rfl, by decide +kernel, by decide +kernel, rfl, ⟨⟨rfl, rfl, Or.inl rfl⟩, ⟨rfl, rfl, Or.inl rfl⟩, True.intro⟩⟩ rfl (pi_seq (pv 0)) (fun _ => (pg_tup rfl (pgs_cons (pg_name (i := 0) (show (["_law_p", "_law_q", "_law_r", "_law_a", "_law_b"] : List Str).Nodup by decide +kernel) rfl (Or.inl rfl)) (pgs_cons (pg_name (i := 1) (show (["_law_p", "_law_q", "_law_r", "_law_a", "_law_b"] : List Str).Nodup by decide +kernel) rfl (Or.inl rfl)) (pgs_cons (pg_name (i := 2) (show (["_law_p", "_law_q", "_law_r", "_law_a", "_law_b"] : List Str).Nodup by decide +kernel) rfl (Or.inl rfl)) pgs_nil))))) (fun _ => pifs_nil) (fun _ => (pe_cmpR op_eq (pe_op op_mul (pv 0) (pv 4)) (pe_op op_mul (pv 1) (pv 3)) (nomark _)))) pa_nil))) (pss_one (ps_ret (pe_not (pe_callB (call_anyB rfl) rfl Z.any bt_any (pa_cons (pe_comp (T := ["_law_p", "_law_q", "_law_r"]) (caps := [("_law_a", 2), ("_law_b", 3), ("_law_c", 4)]) ⟨rfl, by decide +kernel, by decide +kernel, rfl, ⟨⟨rfl, rfl, Or.inl rfl⟩, ⟨rfl, rfl, Or.inl rfl⟩, ⟨rfl, rfl, Or.inl rfl⟩, True.intro⟩⟩ rfl (pi_seq (pv 0)) (fun _ => (pg_tup rfl (pgs_cons (pg_name (i := 0) (show (["_law_p", "_law_q", "_law_r", "_law_a", "_law_b", "_law_c"] : List Str).Nodup by decide +kernel) rfl (Or.inl rfl)) (pgs_cons (pg_name (i := 1) (show (["_law_p", "_law_q", "_law_r", "_law_a", "_law_b", "_law_c"] : List Str).Nodup by decide +kernel) rfl (Or.inl rfl)) (pgs_cons (pg_name (i := 2) (show (["_law_p", "_law_q", "_law_r", "_law_a", "_law_b", "_law_c"] : List Str).Nodup by decide +kernel) rfl (Or.inl rfl)) pgs_nil))))) (fun _ => pifs_nil) (fun _ => (pe_and (pe_cmpR op_gt (pe_op op_add (pe_op op_mul (pv 0) (pv 3)) (pe_op op_mul (pv 1) (pv 4))) pe_int (nomark _)) (pe_one (pe_cmpR op_le (pe_op op_mul (pv 2) (pe_op op_add (pe_op op_mul (pv 3) (pv 3)) (pe_op op_mul (pv 4) (pv 4)))) (pe_op op_mul (pv 5) (pe_op op_add (pe_op op_mul (pv 0) (pv 3)) (pe_op op_mul (pv 1) (pv 4)))) (nomark _)))))) pa_nil))))) pss_nil)
      (pss_one (ps_ret (pe_callB (call_anyB rfl) rfl Z.any bt_any (pa_cons (pe_comp (T := ["_law_x", "_law_y", "_law_w"]) (caps := [("_law_a", 2), ("_law_b", 3), ("_law_c", 4)]) ⟨rfl, by decide +kernel, by decide +kernel, rfl, ⟨⟨rfl, rfl, Or.inl rfl⟩, ⟨rfl, rfl, Or.inl rfl⟩, ⟨rfl, rfl, Or.inl rfl⟩, True.intro⟩⟩ rfl (pi_seq (pe_callH h_L_corners_of (hr.mono (by decide)) rfl (pa_cons (pv 0) pa_nil))) (fun _ => (pg_tup rfl (pgs_cons (pg_name (i := 0) (show (["_law_x", "_law_y", "_law_w", "_law_a", "_law_b", "_law_c"] : List Str).Nodup by decide +kernel) rfl (Or.inl rfl)) (pgs_cons (pg_name (i := 1) (show (["_law_x", "_law_y", "_law_w", "_law_a", "_law_b", "_law_c"] : List Str).Nodup by decide +kernel) rfl (Or.inl rfl)) (pgs_cons (pg_name (i := 2) (show (["_law_x", "_law_y", "_law_w", "_law_a", "_law_b", "_law_c"] : List Str).Nodup by decide +kernel) rfl (Or.inl rfl)) pgs_nil))))) (fun _ => pifs_nil) (fun _ => (pe_cmpR op_gt (pe_op op_add (pe_op op_mul (pv 3) (pv 0)) (pe_op op_mul (pv 4) (pv 1))) (pe_op op_mul (pv 5) (pv 2)) (nomark _)))) pa_nil))))))))), ?_⟩
  refine ⟨_, rfl, e, _, rfl, SqT.of he, rfl, .int g.1, _, rfl, .int g.2.1, _, rfl, .int g.2.2, _, rfl, rfl, ?_⟩
  refine ⟨_, rfl, _, rfl, _, rfl, _, rfl, _, rfl, _, rfl, _, rfl, (by show 3 ≤ sizeLine; decide), fun p hp => ?_⟩
  have sp : Same H (upd H p (.tup [.int (-g.1), .int (-g.2.1), .int (-g.2.2)])) := same_new hp _
  have ep : upd H p (.tup [.int (-g.1), .int (-g.2.1), .int (-g.2.2)]) p = some (.tup [.int (-g.1), .int (-g.2.1), .int (-g.2.2)]) := upd_same
  generalize upd H p (.tup [.int (-g.1), .int (-g.2.1), .int (-g.2.2)]) = H1 at sp ep ⊢
  refine ⟨(by show 1 ≤ sizeLine; decide), fun d hd => ?_⟩
  have sd : Same H1 (upd H1 d (.lst [.ref p])) := same_new hd _
  have ed : upd H1 d (.lst [.ref p]) d = some (.lst (sdRefs [(p, -g.1, -g.2.1, -g.2.2)])) := upd_same
  generalize upd H1 d (.lst [.ref p]) = H2 at sd ed ⊢
  have s2 := sp.trans sd
  refine ⟨l, d, _, _, rfl, rfl, s2 _ _ el, ed, ?_, fun R hR => ?_⟩
  · rw [sdRefs_length, sdRefs_length]
    exact Nat.le_trans (show ss.length + 1 ≤ 1000 by omega) (by decide)
  have sR : Same H2 (upd H2 R (.lst (sdRefs ss ++ sdRefs [(p, -g.1, -g.2.1, -g.2.2)]))) := same_new hR _
  have eR : upd H2 R (.lst (sdRefs ss ++ sdRefs [(p, -g.1, -g.2.1, -g.2.2)])) R = some (.lst (sdRefs (ss ++ [(p, -g.1, -g.2.1, -g.2.2)]))) := by rw [upd_same, sd_cat]
  generalize upd H2 R (.lst (sdRefs ss ++ sdRefs [(p, -g.1, -g.2.1, -g.2.2)])) = H3 at sR eR ⊢
  have s3 := s2.trans sR
  have nrow : (ss ++ [(p, -g.1, -g.2.1, -g.2.2)]).length ≤ 900 := by rw [List.length_append]; show ss.length + 1 ≤ 900; omega
  have okR : SdOk H3 (ss ++ [(p, -g.1, -g.2.1, -g.2.2)]) := SdOk.cat (ok.same s3) fun t ht => by
    rw [List.mem_singleton] at ht
    subst ht
    exact ⟨(sd.trans sR) _ _ ep, by show -g.1 ≠ 0 ∨ -g.2.1 ≠ 0; omega, by show (-g.1).natAbs ≤ _; omega, by show (-g.2.1).natAbs ≤ _; omega, by show (-g.2.2).natAbs ≤ _; omega⟩
  have neg : ∀ z : P3, sv (-g.1, -g.2.1, -g.2.2) z = -sv g z := fun z => by
    unfold sv
    simp only [Int.neg_mul]
    omega
  refine ⟨_, rfl, R, _, rfl, eR, okR, nrow, fun H4 s4 no => ?_, fun p0 P0 H4 s4 ep0 wp0 => ?_⟩
  · refine ⟨rfl, _, rfl, ?_⟩
    refine iteT ?_
    refine q false H4 (s3.trans s4) ⟨(fun z => nomatch z), fun ⟨z, zw, wz, bz⟩ => ?_⟩
    obtain ⟨C, cC, _, wC⟩ := cand_of (fun t ht => (okR t ht).2.1) z zw (inW_app.mpr ⟨wz, by rw [neg]; omega⟩)
    exact absurd wC (no C cC)
  refine ⟨rfl, _, rfl, ?_⟩
  refine iteF ?_
  have s04 := s3.trans s4
  obtain ⟨wP, bP⟩ := inW_app.mp wp0
  rw [neg] at bP
  have el4 := s04 _ _ el
  have ok4 := ok.same s04
  refine ⟨_, rfl, l, ss, rfl, SqL.of el4, ok4, by omega, fun wl us H5 s5 hwl W => ?_⟩
  have s05 := s04.trans s5
  have wf := W.few
  have each : ∀ u ∈ us, ∃ x y : Int, u.2 = [x, y] ∧ H5 u.1 = some (.tup [.int x, .int y]) ∧ wayB ss x y = true := fun u hu => by
    have wk := (W.mem u.2).mp (List.mem_map_of_mem hu)
    obtain ⟨x, y, e, ew⟩ := wk.dir nz
    have z := W.all u hu
    rw [e] at z
    exact ⟨x, y, e, z, wayB_iff.mpr ew.way⟩
  refine ⟨wl, rfl, .inl ⟨⟨_, SqL.of W.at'⟩, fun cc D hD => comp_list0 (K := K) (a := wl) (xs := (us.map (·.1)).map V.ref) (fun m σ ys H' => H' = upd H5 D (.lst ys) ∧ ys = ((us.take m).map fun u => decide (0 < dotL g u.2)).map V.bl ∧ ∃ u v : Option V, σ = [u, v, some (.int g.1), some (.int g.2.1)])
    ⟨rfl, rfl, none, none, rfl⟩ (fun m σ ys H' _ ⟨e, _⟩ => by rw [e]; exact ⟨SqL.of (same_new hD _ _ _ W.at'), upd_same⟩) ?_ ?_⟩⟩
  · rintro m v σ ys H' hm ⟨rfl, rfl, u, v', rfl⟩
    rw [List.getElem?_map, List.getElem?_map] at hm
    cases gu : us[m]? with
    | none => rw [gu] at hm; cases hm
    | some uu =>
      rw [gu] at hm
      cases hm
      obtain ⟨x, y, exy, eu, _⟩ := each uu (List.mem_of_getElem? gu)
      have hml := (List.getElem?_eq_some_iff.mp gu).1
      refine ⟨uu.1, _, rfl, SqT.of (same_new hD _ _ _ eu), rfl, .int x, _, rfl, .int y, _, rfl, rfl, ?_⟩
      refine ⟨_, rfl, _, rfl, _, _, rfl, rfl, ga _, _, rfl, _, rfl, _, _, rfl, rfl, gb _, _, _, rfl, rfl, _, _, rfl, rfl, upd_same, small1000 (by rw [List.length_map, List.length_map, List.length_take]; omega), upd_upd, ?_, _, _, rfl⟩
      rw [take_snoc gu, List.map_append, List.map_append]
      show _ = _ ++ [V.bl (decide (0 < dotL g uu.2))]
      rw [exy]
      rfl
  rintro σ ys H' ⟨rfl, rfl, u, v', rfl⟩
  rw [List.length_map, List.length_map, List.take_length]
  have sD := same_new hD (.lst ((us.map fun u => decide (0 < dotL g u.2)).map V.bl))
  have eD : upd H5 D (.lst ((us.map fun u => decide (0 < dotL g u.2)).map V.bl)) D = _ := upd_same
  generalize upd H5 D (.lst ((us.map fun u => decide (0 < dotL g u.2)).map V.bl)) = H6 at sD eD ⊢
  refine ⟨D, _, rfl, SqL.of eD, _, rfl, ?_⟩
  have s06 := s05.trans sD
  by_cases hy : (us.map fun u => decide (0 < dotL g u.2)).any id = true
  · rw [hy]
    refine iteT ?_
    obtain ⟨uu, mu, hu⟩ := any_iff.mp hy
    obtain ⟨x, y, exy, _, wy⟩ := each uu mu
    have al := of_decide_eq_true hu
    rw [exy] at al
    exact q true _ s06 ⟨fun _ => way_beyond al wy ep0.2.1 wP, fun _ => rfl⟩
  rw [Bool.eq_false_iff.mpr hy]
  refine iteF ?_
  have nw : NoWay ss g := ways_no W nz fun u hu x y e h1 => hy (any_iff.mpr ⟨u, hu, decide_eq_true (by rw [e]; exact h1)⟩)
  clear hy eD
  have el6 := s06 _ _ el
  have ok6 := ok.same s06
  refine ⟨_, rfl, l, rfl, .inl ⟨⟨_, SqL.of el6⟩, fun cc2 D2 hD2 => comp_list0 (K := K) (a := l) (xs := sdRefs ss) (fun m σ ys H' => H' = upd H6 D2 (.lst ys) ∧ ys = ((ss.take m).map (parB g)).map V.bl ∧ ∃ u v z : Option V, σ = [u, v, z, some (.int g.1), some (.int g.2.1)])
    ⟨rfl, rfl, none, none, none, rfl⟩ (fun m σ ys H' _ ⟨e, _⟩ => by rw [e]; exact ⟨SqL.of (same_new hD2 _ _ _ el6), upd_same⟩) ?_ ?_⟩⟩
  · rintro m v σ ys H' hm ⟨rfl, rfl, u, v', z, rfl⟩
    obtain ⟨t, gt, rfl, hml⟩ := sdRefs_get hm
    obtain ⟨et, nt, c1, c2, c3⟩ := ok6 t (List.mem_of_getElem? gt)
    refine ⟨t.1, _, rfl, SqT.of (same_new hD2 _ _ _ et), rfl, .int t.2.1, _, rfl, .int t.2.2.1, _, rfl, .int t.2.2.2, _, rfl, rfl, ?_⟩
    refine ⟨_, rfl, _, rfl, _, _, rfl, rfl, cm_l (by omega), _, rfl, _, rfl, _, _, rfl, rfl, cm_l (by omega), rfl, upd_same, small1000 (by rw [List.length_map, List.length_map, List.length_take]; omega), upd_upd, ?_, _, _, _, rfl⟩
    rw [take_snoc gt, List.map_append, List.map_append]
    rfl
  rintro σ ys H' ⟨rfl, rfl, u, v', z, rfl⟩
  rw [sdRefs_length, List.take_length]
  have sD2 := same_new hD2 (.lst ((ss.map (parB g)).map V.bl))
  have eD2 : upd H6 D2 (.lst ((ss.map (parB g)).map V.bl)) D2 = _ := upd_same
  generalize upd H6 D2 (.lst ((ss.map (parB g)).map V.bl)) = H7 at sD2 eD2 ⊢
  refine ⟨D2, _, rfl, SqL.of eD2, _, rfl, ?_⟩
  have s07 := s06.trans sD2
  have el7 := s07 _ _ el
  have ok7 := ok.same s07
  have par : ∀ t : Sd, parB g t = true ↔ tn t.2 g = 0 := fun t => by
    unfold parB tn
    rw [decide_eq_true_eq]
    exact ⟨fun h => by injection h with h; omega, fun h => congrArg V.int (by omega)⟩
  by_cases ha : (ss.map (parB g)).all id = true
  · rw [ha]
    refine iteT ?_
    have al := all_iff.mp ha
    refine ⟨_, rfl, l, rfl, .inl ⟨⟨_, SqL.of el7⟩, fun cc3 D3 hD3 => comp_list0 (K := K) (a := l) (xs := sdRefs ss) (fun m σ ys H' => H' = upd H7 D3 (.lst ys) ∧ ys = ((ss.take m).map (nearB g)).map V.bl ∧ ∃ u v z : Option V, σ = [u, v, z, some (.int g.1), some (.int g.2.1), some (.int g.2.2)])
      ⟨rfl, rfl, none, none, none, rfl⟩ (fun m σ ys H' _ ⟨e, _⟩ => by rw [e]; exact ⟨SqL.of (same_new hD3 _ _ _ el7), upd_same⟩) ?_ ?_⟩⟩
    · rintro m v σ ys H' hm ⟨rfl, rfl, u, v', z, rfl⟩
      obtain ⟨t, gt, rfl, hml⟩ := sdRefs_get hm
      obtain ⟨et, nt, c1, c2, c3⟩ := ok7 t (List.mem_of_getElem? gt)
      have ta : ∀ j : Int, CMul t.2.1 j := fun j => cm_l (by omega)
      have tb : ∀ j : Int, CMul t.2.2.1 j := fun j => cm_l (by omega)
      have tc : ∀ j : Int, CMul t.2.2.2 j := fun j => cm_l (by omega)
      refine ⟨t.1, _, rfl, SqT.of (same_new hD3 _ _ _ et), rfl, .int t.2.1, _, rfl, .int t.2.2.1, _, rfl, .int t.2.2.2, _, rfl, rfl, ?_⟩
      refine ⟨_, rfl, _, rfl, _, _, rfl, rfl, ta _, _, rfl, _, rfl, _, _, rfl, rfl, tb _, _, _, rfl, rfl, _, _, rfl, rfl, _, rfl, ?_⟩
      have sz : (((ss.take m).map (nearB g)).map V.bl).length < sizeLine := small1000 (by rw [List.length_map, List.length_map, List.length_take]; omega)
      have snoc : ∀ b : Bool, nearB g t = b → ((ss.take m).map (nearB g)).map V.bl ++ [V.bl b] = ((ss.take (m + 1)).map (nearB g)).map V.bl := fun b hb => by
        rw [take_snoc gt, List.map_append, List.map_append, ← hb]
        rfl
      refine ifD (fun h1 => ?_) (fun h1 => ?_)
      · refine ⟨_, rfl, _, rfl, _, rfl, _, _, rfl, rfl, ga _, _, rfl, _, rfl, _, _, rfl, rfl, gb _, _, _, rfl, rfl, _, _, rfl, rfl, tc _, _, rfl, _, rfl, _, rfl, _, _, rfl, rfl, ta _, _, rfl, _, rfl, _, _, rfl, rfl, tb _, _, _, rfl, rfl, _, _, rfl, rfl, gc _, _, _, rfl, rfl, upd_same, sz, upd_upd, snoc _ ?_, _, _, _, rfl⟩
        unfold nearB
        rw [decide_eq_true (p := 0 < dt t.2 g) h1, Bool.true_and]
        rfl
      · refine ⟨upd_same, sz, upd_upd, snoc _ ?_, _, _, _, rfl⟩
        unfold nearB
        rw [decide_eq_false (p := 0 < dt t.2 g) h1, Bool.false_and]
    rintro σ ys H' ⟨rfl, rfl, u, v', z, rfl⟩
    rw [sdRefs_length, List.take_length]
    have sD3 := same_new hD3 (.lst ((ss.map (nearB g)).map V.bl))
    have eD3 : upd H7 D3 (.lst ((ss.map (nearB g)).map V.bl)) D3 = _ := upd_same
    generalize upd H7 D3 (.lst ((ss.map (nearB g)).map V.bl)) = H8 at sD3 eD3 ⊢
    refine ⟨D3, _, rfl, SqL.of eD3, _, rfl, ?_⟩
    refine q _ _ (s07.trans sD3) ?_
    by_cases hn : (ss.map (nearB g)).any id = true
    · rw [hn]
      obtain ⟨t, mt, ht⟩ := any_iff.mp hn
      obtain ⟨h1, h2⟩ := Bool.and_eq_true_iff.mp ht
      exact ⟨(fun z => nomatch z), fun ⟨z, zw, wz, bz⟩ => absurd (par_no gz mt ((par t).mp (al t mt)) (of_decide_eq_true h1) (of_decide_eq_true h2) zw wz) (by omega)⟩
    · rw [Bool.eq_false_iff.mpr hn]
      refine ⟨fun _ => par_yes gz ep0.2.1 wP (by omega) (fun t ht => ⟨(ok t ht).2.2.1, (ok t ht).2.2.2.1⟩) g1 g2 (fun t ht => (par t).mp (al t ht)) (fun t ht hd => ?_), fun _ => rfl⟩
      by_cases c : g.2.2 * dt t.2 g < t.2.2.2 * (g.1 * g.1 + g.2.1 * g.2.1)
      · exact c
      · exact absurd (any_iff.mpr ⟨t, ht, Bool.and_eq_true_iff.mpr ⟨decide_eq_true hd, decide_eq_true (by omega)⟩⟩) hn
  rw [Bool.eq_false_iff.mpr ha]
  refine iteF ?_
  obtain ⟨s0, m0, h0⟩ : ∃ s0 ∈ ss, tn g s0.2 ≠ 0 := by
    by_cases c : ∃ s0 ∈ ss, tn g s0.2 ≠ 0
    · exact c
    · refine absurd (all_iff.mpr fun t ht => (par t).mpr ?_) ha
      by_cases c2 : tn t.2 g = 0
      · exact c2
      · exact absurd ⟨t, ht, fun z => c2 (by rw [tn_anti, z]; rfl)⟩ c
  refine ⟨_, rfl, l, ss, rfl, el7, ok7, by omega, fun cl qs H8 s8 hcl ecl okq hq1 full _ cor => ?_⟩
  refine ⟨cl, rfl, .inl ⟨⟨_, SqL.of ecl⟩, fun cc4 D4 hD4 => comp_list0 (K := K) (a := cl) (xs := spRefs qs) (fun m σ ys H' => H' = upd H8 D4 (.lst ys) ∧ ys = ((qs.take m).map (bynB g)).map V.bl ∧ ∃ u v z : Option V, σ = [u, v, z, some (.int g.1), some (.int g.2.1), some (.int g.2.2)])
    ⟨rfl, rfl, none, none, none, rfl⟩ (fun m σ ys H' _ ⟨e, _⟩ => by rw [e]; exact ⟨SqL.of (same_new hD4 _ _ _ ecl), upd_same⟩) ?_ ?_⟩⟩
  · rintro m v σ ys H' hm ⟨rfl, rfl, u, v', z, rfl⟩
    rw [List.getElem?_map, List.getElem?_map] at hm
    cases gu : qs[m]? with
    | none => rw [gu] at hm; cases hm
    | some uu =>
      rw [gu] at hm
      cases hm
      obtain ⟨eu, _⟩ := okq uu (List.mem_of_getElem? gu)
      have hml := (List.getElem?_eq_some_iff.mp gu).1
      refine ⟨uu.1, _, rfl, SqT.of (same_new hD4 _ _ _ eu), rfl, .int uu.2.1, _, rfl, .int uu.2.2.1, _, rfl, .int uu.2.2.2, _, rfl, rfl, ?_⟩
      refine ⟨_, rfl, _, rfl, _, _, rfl, rfl, ga _, _, rfl, _, rfl, _, _, rfl, rfl, gb _, _, _, rfl, rfl, _, rfl, _, rfl, _, _, rfl, rfl, gc _, _, _, rfl, rfl, upd_same, ?_, upd_upd, ?_, _, _, _, rfl⟩
      · rw [List.length_map, List.length_map, List.length_take]
        exact Nat.lt_of_le_of_lt (show min m qs.length ≤ 1000000 by omega) (by decide)
      rw [take_snoc gu, List.map_append, List.map_append]
      rfl
  rintro σ ys H' ⟨rfl, rfl, u, v', z, rfl⟩
  rw [List.length_map, List.length_map, List.take_length]
  have sD4 := same_new hD4 (.lst ((qs.map (bynB g)).map V.bl))
  have eD4 : upd H8 D4 (.lst ((qs.map (bynB g)).map V.bl)) D4 = _ := upd_same
  generalize upd H8 D4 (.lst ((qs.map (bynB g)).map V.bl)) = H9 at sD4 eD4 ⊢
  refine ⟨D4, _, rfl, SqL.of eD4, ?_⟩
  refine q _ _ (s07.trans (s8.trans sD4)) ⟨fun h => ?_, fun ⟨z, zw, wz, bz⟩ => ?_⟩
  · obtain ⟨uu, mu, hu⟩ := any_iff.mp h
    obtain ⟨_, _, _, _, _, _, wc⟩ := cor uu.2 (List.mem_map_of_mem mu)
    have hu' := of_decide_eq_true hu
    refine ⟨uu.2, (okq uu mu).2.1, wc, ?_⟩
    unfold sv
    omega
  · obtain ⟨t, mt, u, mu, ht, wc, bc⟩ := corner_beyond nz gz nw m0 h0 zw wz bz
    obtain ⟨uu, muu, euu⟩ := List.mem_map.mp (full t mt u mu ht wc)
    refine any_iff.mpr ⟨uu, muu, decide_eq_true ?_⟩
    rw [← euu] at bc
    unfold sv at bc
    omega
theorem ok_law_str {a b : Str} (h : a = b) : decide (V.str a = V.str b) = true := decide_eq_true (by rw [h])
theorem at_head (v : V) (xs : List V) : atI (v :: xs) 0 = some v := by
  simp [atI, ixN]
def sp_law (K : PySem.W.Frag) : Sp := fun vs H Q _ => ∃ (a : Addr) (ns : List Int), vs = [.ref a] ∧ SqL K H a (ns.map V.int) ∧ ns.length ≤ 63 ∧ ∀ H', Q (.bl true) H'
theorem ok_law (F : Fun K "law" "law" s_law f fd) (Z : Zs mg) (h_L_beyond : Has P w K mg base "_law_beyond" 6 ["_law_sides_here", "_law_side_here"] (sp_L_beyond K)) (h_L_any_place : Has P w K mg base "_law_any_place" 5 ["_law_sides_here"] (sp_L_any_place K)) (h_p_bank_word : Has P w K mg base "bank_word" 12 ["sides", "corners"] (sp_p_bank_word K)) (h_L_bank_rows : Has P w K mg base "_law_bank_rows" 2 ["_law_places"] (sp_L_bank_rows K)) (h_L_banked : Has P w K mg base "_law_banked" 4 ["_law_some"] (sp_L_banked K)) (h_L_draws : Has P w K mg base "_law_draws" 2 ["_law_script", "_law_many_here"] (sp_L_draws K)) : FnOk P w K mg base CX0 13 f fd ["_law_script"] (sp_law K) := by
  refine F.ok sc_law (fun vs H Q E h => ?_) (fun cdv A outer s H vs Q E hr h => ?_)
  · obtain ⟨a, ns, rfl, _⟩ := h
    rfl
  obtain ⟨ad, ns, rfl, hS, hl, q⟩ := h
  refine ⟨_, (pss_cons (ps_set (i := 1) sc_law.nd rfl (Or.inl rfl) (pe_callH h_L_draws (hr.mono (by decide)) rfl (pa_cons (pv 0) (pa_cons pe_int pa_nil))))
      (pss_cons (ps_asg (pe_callH h_L_banked (hr.mono (by decide)) rfl (pa_cons (pv 1) pa_nil)) (pg_tup rfl (pgs_cons (pg_name (i := 2) sc_law.nd rfl (Or.inr rfl)) (pgs_cons (pg_name (i := 3) sc_law.nd rfl (Or.inl rfl)) pgs_nil))))
      (pss_cons (ps_set (i := 4) sc_law.nd rfl (Or.inl rfl) (pe_callH h_L_bank_rows (hr.mono (by decide)) rfl (pa_cons (pv 3) pa_nil)))
      (pss_cons (ps_set (i := 5) sc_law.nd rfl (Or.inl rfl) (pe_ix ix_any (pe_callH h_p_bank_word (hr.mono (by decide)) rfl (pa_cons (pe_callTy call_list_of rfl Z.list bt_list (pa_cons (pv 2) pa_nil)) (pa_cons (pe_callTy call_list_of rfl Z.list bt_list (pa_cons (pv 3) pa_nil)) pa_nil))) pe_int (fun _ _ => rfl)))
      (pss_cons (ps_if (pt_cmpR op_isN (pe_callH h_L_any_place (hr.mono (by decide)) rfl (pa_cons (pv 2) pa_nil)) pe_non (nomark _)) (pss_one (ps_ret (pe_cmpR op_eq (pv 5) pe_str (nomark _)))) pss_nil)
      (pss_cons (ps_if (pt_cmpR op_isN (pe_callH h_L_any_place (hr.mono (by decide)) rfl (pa_cons (pe_op op_cat (pv 2) (pv 4)) pa_nil)) pe_non (nomark _)) (pss_one (ps_ret (pe_cmpR op_eq (pv 5) pe_str (nomark _)))) pss_nil)
      (pss_cons (ps_if (pt_val (pe_callB (call_anyB rfl) rfl Z.any bt_any (pa_cons (pe_comp (T := ["_law_side_here"]) (caps := [("_law_sides_here", 2)]) ⟨rfl, by decide +kernel, by decide +kernel, rfl, ⟨⟨rfl, rfl, Or.inl rfl⟩, True.intro⟩⟩ rfl (pi_seq (pv 4)) (fun _ => (pg_name (i := 0) (show (["_law_side_here", "_law_sides_here"] : List Str).Nodup by decide +kernel) rfl (Or.inl rfl))) (fun _ => pifs_nil) (fun _ => (pe_callH h_L_beyond (hr.mono (by decide)) rfl (pa_cons (pv 1) (pa_cons (pv 0) pa_nil))))) pa_nil))) (pss_one (ps_ret (pe_cmpR op_eq (pv 5) pe_str (nomark _)))) pss_nil)
      (pss_one (ps_ret (pe_cmpR op_eq (pv 5) pe_str (nomark _))))))))))), ?_⟩
  refine ⟨_, rfl, ad, ns, 80, rfl, hS, hl, by decide, by decide, fun r rows H1 s1 hr0 er1 l1 l2 bd => ?_⟩
  refine ⟨_, rfl, r, rows, rfl, er1, by omega, l2, bd, fun T l c ss ps H2 s2 eT el ok nl ec pk0 bs => ?_⟩
  refine ⟨T, _, rfl, SqT.of eT, rfl, .ref l, _, rfl, .ref c, _, rfl, rfl, ?_⟩
  have lens := bs.len
  rw [List.length_map] at lens
  have ne := BankS.ne bs
  rw [List.length_map] at ne
  have pk : PrOk H2 (10 ^ 6) ps := fun t ht => by
    obtain ⟨z1, z2, z3⟩ := pk0 t ht
    exact ⟨z1, Nat.le_trans z2 (by decide), Nat.le_trans z3 (by decide)⟩
  have nz : ∀ t ∈ ss, t.2.1 ≠ 0 ∨ t.2.2.1 ≠ 0 := fun t ht => (ok t ht).2.1
  refine ⟨_, rfl, c, ps, rfl, SqL.of ec, pk, lens.2, ne, fun D es H3 P3' mes => ?_⟩
  have s3 := P3'.same
  have nes : es.length = ps.length := by
    have z := congrArg List.length mes
    unfold edgesOf at z
    rw [List.length_map, List.length_map, List.length_range, List.length_map] at z
    exact z
  have eD := P3'.at'
  have oke := P3'.all
  refine ⟨_, rfl, l, _, rfl, .inl (SqL.of (s3 _ _ el)), fun l2' hl2 => ?_⟩
  have s4 := same_new hl2 (.lst (sdRefs ss))
  have el2 : upd H3 l2' (.lst (sdRefs ss)) l2' = some (.lst (sdRefs ss)) := upd_same
  generalize upd H3 l2' (.lst (sdRefs ss)) = H4 at s4 el2 ⊢
  refine ⟨_, rfl, c, _, rfl, .inl (SqL.of (s4 _ _ (s3 _ _ ec))), fun c2 hc2 => ?_⟩
  have s5 := same_new hc2 (.lst (refsOf ps))
  have ec2 : upd H4 c2 (.lst (refsOf ps)) c2 = some (.lst (refsOf ps)) := upd_same
  generalize upd H4 c2 (.lst (refsOf ps)) = H5 at s5 ec2 ⊢
  have s35 := s4.trans s5
  have s25 := s3.trans s35
  refine ⟨l2', c2, ss, ps, rfl, s5 _ _ el2, ok.same s25, by omega, ec2, pk.same s25, lens.1, lens.2, ne, fun T2 wd xs H6 s6 eT2 what => ?_⟩
  refine ⟨T2, _, _, .str wd, rfl, rfl, .inr (SqT.of eT2), at_head _ _, ?_⟩
  have s26 := s25.trans s6
  have el6 := s26 _ _ el
  have ok6 := ok.same s26
  have s36 := s35.trans s6
  have eD6 := s36 _ _ eD
  have oke6 := oke.same s36
  clear s1 s2 hr0 er1 eT ec2 el2 eT2
  refine ⟨_, rfl, l, ss, rfl, el6, ok6, by omega, fun H7 s7 no => ?_, fun p P H7 s7 ep wp => ?_⟩
  · refine ⟨rfl, _, rfl, ?_⟩
    refine iteT ?_
    have none' : ∀ z : P3, 0 < z.2.2 → ¬ inW ss z := fun z zw wz => by
      obtain ⟨C, cC, _, wC⟩ := cand_of nz z zw wz
      exact no C cC wC
    have hw : wd = "none" := by
      rcases what with ⟨h, _⟩ | ⟨⟨z, zw, wz⟩, _⟩
      · exact h
      · exact absurd wz (none' z zw)
    refine ⟨_, rfl, rfl, ?_⟩
    rw [ok_law_str hw]
    exact q _
  refine ⟨rfl, _, rfl, ?_⟩
  refine iteF ?_
  have what2 := what.resolve_left fun h => h.2 P ep.2.1 wp
  replace what2 := what2.2
  clear what
  have s37 := s36.trans s7
  have el7 := s7 _ _ el6
  have eD7 := s7 _ _ eD6
  have ok7 := ok6.same s7
  have oke7 := oke6.same s7
  refine ⟨_, rfl, _, rfl, l, D, _, _, rfl, rfl, el7, eD7, ?_, fun R hR => ?_⟩
  · rw [sdRefs_length, sdRefs_length]
    exact Nat.le_trans (show ss.length + es.length ≤ 1000 by omega) (by decide)
  have sR : Same H7 (upd H7 R (.lst (sdRefs ss ++ sdRefs es))) := same_new hR _
  have eR : upd H7 R (.lst (sdRefs ss ++ sdRefs es)) R = some (.lst (sdRefs (ss ++ es))) := by rw [upd_same, sd_cat]
  generalize upd H7 R (.lst (sdRefs ss ++ sdRefs es)) = H8 at sR eR ⊢
  have okR : SdOk H8 (ss ++ es) := SdOk.cat (ok7.same sR) (oke7.same sR)
  have both : ∀ z : P3, inW (ss ++ es) z ↔ inW ss z ∧ ∀ e ∈ edgesOf (ps.map (·.2)), sv e z ≤ 0 := fun z => by
    rw [← mes]
    constructor
    · exact fun h => ⟨fun t ht => h t (List.mem_append_left _ ht), fun e he => by
        obtain ⟨t, mt, rfl⟩ := List.mem_map.mp he
        exact h t (List.mem_append_right _ mt)⟩
    · exact fun h t ht => (List.mem_append.mp ht).elim (h.1 t) fun mt => h.2 t.2 (List.mem_map_of_mem mt)
  refine ⟨R, ss ++ es, rfl, eR, okR, by rw [List.length_append]; omega, fun H9 s9 no => ?_, fun p2 P2 H9 s9 ep2 wp2 => ?_⟩
  · refine ⟨rfl, _, rfl, ?_⟩
    refine iteT ?_
    have hw : wd = "cannot" := by
      rcases what2 with ⟨h, _⟩ | ⟨⟨z, zw, wz, hz⟩, _⟩
      · exact h
      · obtain ⟨C, cC, _, wC⟩ := cand_of (fun t ht => (okR t ht).2.1) z zw ((both z).mpr ⟨wz, hz⟩)
        exact absurd wC (no C cC)
    refine ⟨_, rfl, rfl, ?_⟩
    rw [ok_law_str hw]
    exact q _
  refine ⟨rfl, _, rfl, ?_⟩
  refine iteF ?_
  have what3 := (what2.resolve_left fun h => h.2 P2 ep2.2.1 ((both P2).mp wp2).1 ((both P2).mp wp2).2).2
  clear what2
  have s79 := sR.trans s9
  have el9 := s79 _ _ el7
  have eD9 := s79 _ _ eD7
  have ok9 := ok7.same s79
  have oke9 := oke7.same s79
  refine ⟨_, rfl, D, rfl, .inl ⟨⟨_, SqL.of eD9⟩, fun cc B hB => comp_list0 (K := K) (a := D) (xs := sdRefs es) (fun m σ ys H' => Same H9 H' ∧ H' B = some (.lst ys) ∧ (∃ bs : List Bool, ys = bs.map V.bl ∧ bs.length = m ∧ ∀ (j : Nat) (b : Bool) (t : Sd), bs[j]? = some b → es[j]? = some t → (b = true ↔ ∃ z : P3, 0 < z.2.2 ∧ inW ss z ∧ 0 < sv t.2 z)) ∧ ∃ u : Option V, σ = [u, some (.ref l)])
    ⟨same_new hB _, upd_same, ⟨[], rfl, rfl, fun j b t h => nomatch h⟩, none, rfl⟩ (fun m σ ys H' _ ⟨e, e2, _⟩ => ⟨SqL.of (e _ _ eD9), e2⟩) ?_ ?_⟩⟩
  · rintro m v σ ys G hm ⟨sG, eB, ⟨bs', rfl, nb, each⟩, u, rfl⟩
    obtain ⟨t, gt, rfl, hml⟩ := sdRefs_get hm
    obtain ⟨et, nt, b1, b2, b3⟩ := oke9 t (List.mem_of_getElem? gt)
    refine ⟨_, rfl, _, rfl, l, t.1, ss, t.2, rfl, sG _ _ el9, ok9.same sG, nl, sG _ _ et, nt, b1, b2, b3, fun b G2 sG2 hb => ?_⟩
    refine ⟨sG2 _ _ eB, small1000 (by rw [List.length_map]; omega), (sG.trans sG2).putNew hB, by rw [upd_same], ⟨bs' ++ [b], by simp, by rw [List.length_append, nb]; rfl, fun j b' t' gb gt' => ?_⟩, _, rfl⟩
    by_cases hj : j < bs'.length
    · rw [List.getElem?_append_left hj] at gb
      exact each j b' t' gb gt'
    · rw [List.getElem?_append_right (by omega)] at gb
      have hj2 : j - bs'.length = 0 := by
        have z := (List.getElem?_eq_some_iff.mp gb).1
        have z2 : j - bs'.length < 1 := z
        omega
      rw [hj2] at gb
      have e1 : b = b' := Option.some.inj gb
      have e2 : j = m := by omega
      rw [e2, gt] at gt'
      cases gt'
      rw [← e1]
      exact hb
  rintro σ ys G ⟨sG, eB, ⟨bs', rfl, nb, each⟩, u, rfl⟩
  rw [sdRefs_length] at nb
  refine ⟨B, bs', rfl, SqL.of eB, _, rfl, ?_⟩
  by_cases hy : bs'.any id = true
  · rw [hy]
    refine iteT ?_
    have hw : wd = "can" := by
      rcases what3 with ⟨h, _⟩ | ⟨_, h⟩
      · exact h
      · obtain ⟨b, mb, hb⟩ := List.any_eq_true.mp hy
        obtain ⟨j, hj, ej⟩ := List.getElem_of_mem mb
        have hj2 : j < es.length := by omega
        obtain ⟨z, zw, wz, bz⟩ := (each j b es[j] (by rw [List.getElem?_eq_getElem hj, ej]) (List.getElem?_eq_getElem hj2)).mp hb
        have := h es[j].2 (by rw [← mes]; exact List.mem_map_of_mem (List.getElem_mem hj2)) z zw wz
        omega
    refine ⟨_, rfl, rfl, ?_⟩
    rw [ok_law_str hw]
    exact q _
  rw [Bool.eq_false_iff.mpr hy]
  refine iteF ?_
  have hw : wd = "must" := by
    rcases what3 with ⟨_, e, me, z, zw, wz, bz⟩ | ⟨h, _⟩
    · rw [← mes] at me
      obtain ⟨t, mt, rfl⟩ := List.mem_map.mp me
      obtain ⟨j, hj, ej⟩ := List.getElem_of_mem mt
      have hj2 : j < bs'.length := by omega
      have gt : es[j]? = some t := by rw [List.getElem?_eq_getElem hj, ej]
      have hb := (each j bs'[j] t (List.getElem?_eq_getElem hj2) gt).mpr ⟨z, zw, wz, bz⟩
      exact absurd (List.any_eq_true.mpr ⟨bs'[j], List.getElem_mem hj2, hb⟩) hy
    · exact h
  refine ⟨_, rfl, rfl, ?_⟩
  rw [ok_law_str hw]
  exact q _
end
abbrev AtK (K : PySem.W.Frag) (x : Str) (s : Stmt) (f : Addr) (oc : Value) (od : Option Addr) (sl : Array (Option Value)) (kV dc pm : Value) (an : Option Addr) (cd ct : Value) : Prop :=
  PySem.W.nsIn K mainGlobals x = some (some (.ref f)) ∧ K.lookup f = some ⟨oc, od, .func (PySem.W.fnOf x x (defArgs s) (defBody s) (defScope s) .none kV dc pm an cd ct), sl⟩ ∧ PySem.W.codeIn K cd x = true ∧ PySem.W.keepIn K (.ref f) = true
section
variable {K : PySem.W.Frag} {x : Str} {s : Stmt} {f : Addr} {oc kV dc pm cd ct : Value} {od an : Option Addr} {sl : Array (Option Value)} {h : Heap} {mg : Str → Option Value}
theorem fn_mk (q : AtK K x s f oc od sl kV dc pm an cd ct) : Fun K x x s f (PySem.W.fnOf x x (defArgs s) (defBody s) (defScope s) .none kV dc pm an cd ct) := fun_mk (st := s) q.2.1 q.2.2.1 q.2.2.2
theorem has_mk (P : Program) (w : World) (base : Heap) (X : K.In h) (G : h.Ns mainGlobals mg) (q : AtK K x s f oc od sl kV dc pm an cd ct) {ps : List Str} {n : Nat} {sp : Sp} (o : FnOk P w K mg base CX0 n f (PySem.W.fnOf x x (defArgs s) (defBody s) (defScope s) .none kV dc pm an cd ct) ps sp)
    (b : ∀ (kV doc pm : Value) (an : Option Addr) (cdv ct : Value) (us : List Value), us.length = ps.length → bindArgs (PySem.W.fnOf x x (defArgs s) (defBody s) (defScope s) .none kV doc pm an cdv ct) ⟨us, []⟩ = pure (ps.zip us)) : Has P w K mg base x n ps sp :=
  ⟨_, _, o, (fn_mk q).binds b, q.2.2.2, PySem.W.mg_of X G q.1⟩
end
theorem us1 {R : List Value → Prop} (h : ∀ a, R [a]) : ∀ us : List Value, us.length = 1 → R us
  | [a], _ => h a
theorem us2 {R : List Value → Prop} (h : ∀ a b, R [a, b]) : ∀ us : List Value, us.length = 2 → R us
  | [a, b], _ => h a b
theorem us3 {R : List Value → Prop} (h : ∀ a b c, R [a, b, c]) : ∀ us : List Value, us.length = 3 → R us
  | [a, b, c], _ => h a b c
theorem us4 {R : List Value → Prop} (h : ∀ a b c d, R [a, b, c, d]) : ∀ us : List Value, us.length = 4 → R us
  | [a, b, c, d], _ => h a b c d
theorem all_mk {l : PySem.W.OpenLaw} {w : World} {K : PySem.W.Frag} {h : Heap} {mg : Str → Option Value} {fa : Addr} (X : K.In h) (G : h.Ns mainGlobals mg) (hfa : mg "law" = some (.ref fa))
    {f1 f2 f3 f4 f5 f6 f7 f8 f9 f10 f11 f12 f13 f14 f15 f16 f17 f18 f19 f20 f21 f22 f23 f24 f25 f26 f27 f28 f29 f30 f31 f32 f33 f34 f35 f36 f37 f38 f39 f40 f41 f42 f43 f44 f45 f46 f47 f48 f49 f50 f51 f52 f53 f54 f55 f56 f57 f58 f59 : Addr}
    {oc1 kV1 dc1 pm1 cd1 ct1 oc2 kV2 dc2 pm2 cd2 ct2 oc3 kV3 dc3 pm3 cd3 ct3 oc4 kV4 dc4 pm4 cd4 ct4 oc5 kV5 dc5 pm5 cd5 ct5 oc6 kV6 dc6 pm6 cd6 ct6 oc7 kV7 dc7 pm7 cd7 ct7 oc8 kV8 dc8 pm8 cd8 ct8 oc9 kV9 dc9 pm9 cd9 ct9 oc10 kV10 dc10 pm10 cd10 ct10 oc11 kV11 dc11 pm11 cd11 ct11 oc12 kV12 dc12 pm12 cd12 ct12 oc13 kV13 dc13 pm13 cd13 ct13 oc14 kV14 dc14 pm14 cd14 ct14 oc15 kV15 dc15 pm15 cd15 ct15 oc16 kV16 dc16 pm16 cd16 ct16 oc17 kV17 dc17 pm17 cd17 ct17 oc18 kV18 dc18 pm18 cd18 ct18 oc19 kV19 dc19 pm19 cd19 ct19 oc20 kV20 dc20 pm20 cd20 ct20 oc21 kV21 dc21 pm21 cd21 ct21 oc22 kV22 dc22 pm22 cd22 ct22 oc23 kV23 dc23 pm23 cd23 ct23 oc24 kV24 dc24 pm24 cd24 ct24 oc25 kV25 dc25 pm25 cd25 ct25 oc26 kV26 dc26 pm26 cd26 ct26 oc27 kV27 dc27 pm27 cd27 ct27 oc28 kV28 dc28 pm28 cd28 ct28 oc29 kV29 dc29 pm29 cd29 ct29 oc30 kV30 dc30 pm30 cd30 ct30 oc31 kV31 dc31 pm31 cd31 ct31 oc32 kV32 dc32 pm32 cd32 ct32 oc33 kV33 dc33 pm33 cd33 ct33 oc34 kV34 dc34 pm34 cd34 ct34 oc35 kV35 dc35 pm35 cd35 ct35 oc36 kV36 dc36 pm36 cd36 ct36 oc37 kV37 dc37 pm37 cd37 ct37 oc38 kV38 dc38 pm38 cd38 ct38 oc39 kV39 dc39 pm39 cd39 ct39 oc40 kV40 dc40 pm40 cd40 ct40 oc41 kV41 dc41 pm41 cd41 ct41 oc42 kV42 dc42 pm42 cd42 ct42 oc43 kV43 dc43 pm43 cd43 ct43 oc44 kV44 dc44 pm44 cd44 ct44 oc45 kV45 dc45 pm45 cd45 ct45 oc46 kV46 dc46 pm46 cd46 ct46 oc47 kV47 dc47 pm47 cd47 ct47 oc48 kV48 dc48 pm48 cd48 ct48 oc49 kV49 dc49 pm49 cd49 ct49 oc50 kV50 dc50 pm50 cd50 ct50 oc51 kV51 dc51 pm51 cd51 ct51 oc52 kV52 dc52 pm52 cd52 ct52 oc53 kV53 dc53 pm53 cd53 ct53 oc54 kV54 dc54 pm54 cd54 ct54 oc55 kV55 dc55 pm55 cd55 ct55 oc56 kV56 dc56 pm56 cd56 ct56 oc57 kV57 dc57 pm57 cd57 ct57 oc58 kV58 dc58 pm58 cd58 ct58 oc59 kV59 dc59 pm59 cd59 ct59 : Value}
    {od1 an1 od2 an2 od3 an3 od4 an4 od5 an5 od6 an6 od7 an7 od8 an8 od9 an9 od10 an10 od11 an11 od12 an12 od13 an13 od14 an14 od15 an15 od16 an16 od17 an17 od18 an18 od19 an19 od20 an20 od21 an21 od22 an22 od23 an23 od24 an24 od25 an25 od26 an26 od27 an27 od28 an28 od29 an29 od30 an30 od31 an31 od32 an32 od33 an33 od34 an34 od35 an35 od36 an36 od37 an37 od38 an38 od39 an39 od40 an40 od41 an41 od42 an42 od43 an43 od44 an44 od45 an45 od46 an46 od47 an47 od48 an48 od49 an49 od50 an50 od51 an51 od52 an52 od53 an53 od54 an54 od55 an55 od56 an56 od57 an57 od58 an58 od59 an59 : Option Addr}
    {sl1 sl2 sl3 sl4 sl5 sl6 sl7 sl8 sl9 sl10 sl11 sl12 sl13 sl14 sl15 sl16 sl17 sl18 sl19 sl20 sl21 sl22 sl23 sl24 sl25 sl26 sl27 sl28 sl29 sl30 sl31 sl32 sl33 sl34 sl35 sl36 sl37 sl38 sl39 sl40 sl41 sl42 sl43 sl44 sl45 sl46 sl47 sl48 sl49 sl50 sl51 sl52 sl53 sl54 sl55 sl56 sl57 sl58 sl59 : Array (Option Value)}
    (q1 : AtK K "common_factor" s_p_common_factor f1 oc1 od1 sl1 kV1 dc1 pm1 an1 cd1 ct1)
    (q2 : AtK K "lowest" s_p_lowest f2 oc2 od2 sl2 kV2 dc2 pm2 an2 cd2 ct2)
    (q3 : AtK K "upright" s_p_upright f3 oc3 od3 sl3 kV3 dc3 pm3 an3 cd3 ct3)
    (q4 : AtK K "part" s_p_part f4 oc4 od4 sl4 kV4 dc4 pm4 an4 cd4 ct4)
    (q5 : AtK K "spot" s_p_spot f5 oc5 od5 sl5 kV5 dc5 pm5 an5 cd5 ct5)
    (q6 : AtK K "turn" s_p_turn f6 oc6 od6 sl6 kV6 dc6 pm6 an6 cd6 ct6)
    (q7 : AtK K "along" s_p_along f7 oc7 od7 sl7 kV7 dc7 pm7 an7 cd7 ct7)
    (q8 : AtK K "plain" s_p_plain f8 oc8 od8 sl8 kV8 dc8 pm8 an8 cd8 ct8)
    (q9 : AtK K "plain_side" s_p_plain_side f9 oc9 od9 sl9 kV9 dc9 pm9 an9 cd9 ct9)
    (q10 : AtK K "beyond" s_p_beyond f10 oc10 od10 sl10 kV10 dc10 pm10 an10 cd10 ct10)
    (q11 : AtK K "holds" s_p_holds f11 oc11 od11 sl11 kV11 dc11 pm11 an11 cd11 ct11)
    (q12 : AtK K "crossing" s_p_crossing f12 oc12 od12 sl12 kV12 dc12 pm12 an12 cd12 ct12)
    (q13 : AtK K "in_water" s_p_in_water f13 oc13 od13 sl13 kV13 dc13 pm13 an13 cd13 ct13)
    (q14 : AtK K "foot" s_p_foot f14 oc14 od14 sl14 kV14 dc14 pm14 an14 cd14 ct14)
    (q15 : AtK K "edge_end" s_p_edge_end f15 oc15 od15 sl15 kV15 dc15 pm15 an15 cd15 ct15)
    (q16 : AtK K "edge_ends" s_p_edge_ends f16 oc16 od16 sl16 kV16 dc16 pm16 an16 cd16 ct16)
    (q17 : AtK K "spot_on_edge" s_p_spot_on_edge f17 oc17 od17 sl17 kV17 dc17 pm17 an17 cd17 ct17)
    (q18 : AtK K "sought" s_p_sought f18 oc18 od18 sl18 kV18 dc18 pm18 an18 cd18 ct18)
    (q19 : AtK K "some_spot" s_p_some_spot f19 oc19 od19 sl19 kV19 dc19 pm19 an19 cd19 ct19)
    (q20 : AtK K "is_way" s_p_is_way f20 oc20 od20 sl20 kV20 dc20 pm20 an20 cd20 ct20)
    (q21 : AtK K "ways" s_p_ways f21 oc21 od21 sl21 kV21 dc21 pm21 an21 cd21 ct21)
    (q22 : AtK K "span" s_p_span f22 oc22 od22 sl22 kV22 dc22 pm22 an22 cd22 ct22)
    (q23 : AtK K "weighed" s_p_weighed f23 oc23 od23 sl23 kV23 dc23 pm23 an23 cd23 ct23)
    (q24 : AtK K "clash_of_three" s_p_clash_of_three f24 oc24 od24 sl24 kV24 dc24 pm24 an24 cd24 ct24)
    (q25 : AtK K "clash" s_p_clash f25 oc25 od25 sl25 kV25 dc25 pm25 an25 cd25 ct25)
    (q26 : AtK K "way_onward" s_p_way_onward f26 oc26 od26 sl26 kV26 dc26 pm26 an26 cd26 ct26)
    (q27 : AtK K "far_by_one" s_p_far_by_one f27 oc27 od27 sl27 kV27 dc27 pm27 an27 cd27 ct27)
    (q28 : AtK K "weights_of_two" s_p_weights_of_two f28 oc28 od28 sl28 kV28 dc28 pm28 an28 cd28 ct28)
    (q29 : AtK K "far_by_two" s_p_far_by_two f29 oc29 od29 sl29 kV29 dc29 pm29 an29 cd29 ct29)
    (q30 : AtK K "reach" s_p_reach f30 oc30 od30 sl30 kV30 dc30 pm30 an30 cd30 ct30)
    (q31 : AtK K "stretch_way" s_p_stretch_way f31 oc31 od31 sl31 kV31 dc31 pm31 an31 cd31 ct31)
    (q32 : AtK K "stretch_side" s_p_stretch_side f32 oc32 od32 sl32 kV32 dc32 pm32 an32 cd32 ct32)
    (q33 : AtK K "bank_sides" s_p_bank_sides f33 oc33 od33 sl33 kV33 dc33 pm33 an33 cd33 ct33)
    (q34 : AtK K "word_of_cannot" s_p_word_of_cannot f34 oc34 od34 sl34 kV34 dc34 pm34 an34 cd34 ct34)
    (q35 : AtK K "gone_beyond" s_p_gone_beyond f35 oc35 od35 sl35 kV35 dc35 pm35 an35 cd35 ct35)
    (q36 : AtK K "beyond_or_weights" s_p_beyond_or_weights f36 oc36 od36 sl36 kV36 dc36 pm36 an36 cd36 ct36)
    (q37 : AtK K "bank_word" s_p_bank_word f37 oc37 od37 sl37 kV37 dc37 pm37 an37 cd37 ct37)
    (q38 : AtK K "_law_low" s_L_low f38 oc38 od38 sl38 kV38 dc38 pm38 an38 cd38 ct38)
    (q39 : AtK K "_law_spot_of" s_L_spot_of f39 oc39 od39 sl39 kV39 dc39 pm39 an39 cd39 ct39)
    (q40 : AtK K "_law_meet" s_L_meet f40 oc40 od40 sl40 kV40 dc40 pm40 an40 cd40 ct40)
    (q41 : AtK K "_law_has" s_L_has f41 oc41 od41 sl41 kV41 dc41 pm41 an41 cd41 ct41)
    (q42 : AtK K "_law_corners_of" s_L_corners_of f42 oc42 od42 sl42 kV42 dc42 pm42 an42 cd42 ct42)
    (q43 : AtK K "_law_feet" s_L_feet f43 oc43 od43 sl43 kV43 dc43 pm43 an43 cd43 ct43)
    (q44 : AtK K "_law_any_place" s_L_any_place f44 oc44 od44 sl44 kV44 dc44 pm44 an44 cd44 ct44)
    (q45 : AtK K "_law_flow" s_L_flow f45 oc45 od45 sl45 kV45 dc45 pm45 an45 cd45 ct45)
    (q46 : AtK K "_law_power" s_L_power f46 oc46 od46 sl46 kV46 dc46 pm46 an46 cd46 ct46)
    (q47 : AtK K "_law_draws" s_L_draws f47 oc47 od47 sl47 kV47 dc47 pm47 an47 cd47 ct47)
    (q48 : AtK K "_law_many" s_L_many f48 oc48 od48 sl48 kV48 dc48 pm48 an48 cd48 ct48)
    (q49 : AtK K "_law_tight" s_L_tight f49 oc49 od49 sl49 kV49 dc49 pm49 an49 cd49 ct49)
    (q50 : AtK K "_law_way" s_L_way f50 oc50 od50 sl50 kV50 dc50 pm50 an50 cd50 ct50)
    (q51 : AtK K "_law_side" s_L_side f51 oc51 od51 sl51 kV51 dc51 pm51 an51 cd51 ct51)
    (q52 : AtK K "_law_sides" s_L_sides f52 oc52 od52 sl52 kV52 dc52 pm52 an52 cd52 ct52)
    (q53 : AtK K "_law_turned" s_L_turned f53 oc53 od53 sl53 kV53 dc53 pm53 an53 cd53 ct53)
    (q54 : AtK K "_law_left_pair" s_L_left_pair f54 oc54 od54 sl54 kV54 dc54 pm54 an54 cd54 ct54)
    (q55 : AtK K "_law_bank" s_L_bank f55 oc55 od55 sl55 kV55 dc55 pm55 an55 cd55 ct55)
    (q56 : AtK K "_law_bank_rows" s_L_bank_rows f56 oc56 od56 sl56 kV56 dc56 pm56 an56 cd56 ct56)
    (q57 : AtK K "_law_banked" s_L_banked f57 oc57 od57 sl57 kV57 dc57 pm57 an57 cd57 ct57)
    (q58 : AtK K "_law_beyond" s_L_beyond f58 oc58 od58 sl58 kV58 dc58 pm58 an58 cd58 ct58)
    (q59 : AtK K "law" s_law f59 oc59 od59 sl59 kV59 dc59 pm59 an59 cd59 ct59)
    (z_abs : PySem.W.nsIn K mainGlobals "abs" = some none)
    (z_all : PySem.W.nsIn K mainGlobals "all" = some none)
    (z_any : PySem.W.nsIn K mainGlobals "any" = some none)
    (z_enumerate : PySem.W.nsIn K mainGlobals "enumerate" = some none)
    (z_len : PySem.W.nsIn K mainGlobals "len" = some none)
    (z_list : PySem.W.nsIn K mainGlobals "list" = some none)
    (z_max : PySem.W.nsIn K mainGlobals "max" = some none)
    (z_range : PySem.W.nsIn K mainGlobals "range" = some none)
    (z_sorted : PySem.W.nsIn K mainGlobals "sorted" = some none)
    (z_sum : PySem.W.nsIn K mainGlobals "sum" = some none)
    (z_tuple : PySem.W.nsIn K mainGlobals "tuple" = some none) :
    ∃ fd : FuncData, (∀ (s : Shared) (v : Value), BindsTo s fd ⟨[v], []⟩ [("_law_script", v)]) ∧ ∀ base : Heap, K.In base → base.Ns mainGlobals mg → FnOk l.prog w K mg base CX0 13 fa fd ["_law_script"] (sp_law K) := by
  have e := hfa.symm.trans (PySem.W.mg_of X G q59.1)
  cases e
  have Z : Zs mg := ⟨PySem.W.mg_none_of X G z_abs, PySem.W.mg_none_of X G z_all, PySem.W.mg_none_of X G z_any, PySem.W.mg_none_of X G z_enumerate, PySem.W.mg_none_of X G z_len, PySem.W.mg_none_of X G z_list, PySem.W.mg_none_of X G z_max, PySem.W.mg_none_of X G z_range, PySem.W.mg_none_of X G z_sorted, PySem.W.mg_none_of X G z_sum, PySem.W.mg_none_of X G z_tuple⟩
  refine ⟨PySem.W.fnOf "law" "law" (defArgs s_law) (defBody s_law) (defScope s_law) .none kV59 dc59 pm59 an59 cd59 ct59, fun s v => .of_eq rfl, fun base _ _ => ?_⟩
  have h_p_common_factor := has_mk l.prog w base X G q1 (ok_p_common_factor (fn_mk q1) Z ) (fun _ _ _ _ _ _ => us1 fun _ => rfl)
  have h_p_lowest := has_mk l.prog w base X G q2 (ok_p_lowest (fn_mk q2) Z h_p_common_factor) (fun _ _ _ _ _ _ => us1 fun _ => rfl)
  have h_p_upright := has_mk l.prog w base X G q3 (ok_p_upright (fn_mk q3) Z h_p_lowest) (fun _ _ _ _ _ _ => us1 fun _ => rfl)
  have h_p_part := has_mk l.prog w base X G q4 (ok_p_part (fn_mk q4) Z h_p_upright) (fun _ _ _ _ _ _ => us2 fun _ _ => rfl)
  have h_p_spot := has_mk l.prog w base X G q5 (ok_p_spot (fn_mk q5) Z h_p_upright) (fun _ _ _ _ _ _ => us3 fun _ _ _ => rfl)
  have h_p_turn := has_mk l.prog w base X G q6 (ok_p_turn (fn_mk q6) Z ) (fun _ _ _ _ _ _ => us2 fun _ _ => rfl)
  have h_p_along := has_mk l.prog w base X G q7 (ok_p_along (fn_mk q7) Z ) (fun _ _ _ _ _ _ => us2 fun _ _ => rfl)
  have h_p_plain := has_mk l.prog w base X G q8 (ok_p_plain (fn_mk q8) Z h_p_lowest) (fun _ _ _ _ _ _ => us1 fun _ => rfl)
  have h_p_plain_side := has_mk l.prog w base X G q9 (ok_p_plain_side (fn_mk q9) Z h_p_lowest) (fun _ _ _ _ _ _ => us1 fun _ => rfl)
  have h_p_beyond := has_mk l.prog w base X G q10 (ok_p_beyond (fn_mk q10) Z ) (fun _ _ _ _ _ _ => us2 fun _ _ => rfl)
  have h_p_holds := has_mk l.prog w base X G q11 (ok_p_holds (fn_mk q11) Z h_p_beyond) (fun _ _ _ _ _ _ => us2 fun _ _ => rfl)
  have h_p_crossing := has_mk l.prog w base X G q12 (ok_p_crossing (fn_mk q12) Z h_p_upright h_p_turn) (fun _ _ _ _ _ _ => us2 fun _ _ => rfl)
  have h_p_in_water := has_mk l.prog w base X G q13 (ok_p_in_water (fn_mk q13) Z h_p_holds) (fun _ _ _ _ _ _ => us2 fun _ _ => rfl)
  have h_p_foot := has_mk l.prog w base X G q14 (ok_p_foot (fn_mk q14) Z h_p_spot h_p_along) (fun _ _ _ _ _ _ => us1 fun _ => rfl)
  have h_p_edge_end := has_mk l.prog w base X G q15 (ok_p_edge_end (fn_mk q15) Z h_p_turn h_p_holds h_p_crossing) (fun _ _ _ _ _ _ => us3 fun _ _ _ => rfl)
  have h_p_edge_ends := has_mk l.prog w base X G q16 (ok_p_edge_ends (fn_mk q16) Z h_p_crossing h_p_edge_end) (fun _ _ _ _ _ _ => us2 fun _ _ => rfl)
  have h_p_spot_on_edge := has_mk l.prog w base X G q17 (ok_p_spot_on_edge (fn_mk q17) Z h_p_edge_ends h_p_foot h_p_in_water) (fun _ _ _ _ _ _ => us2 fun _ _ => rfl)
  have h_p_sought := has_mk l.prog w base X G q18 (ok_p_sought (fn_mk q18) Z h_p_holds h_p_spot_on_edge h_p_spot) (fun _ _ _ _ _ _ => us1 fun _ => rfl)
  have h_p_some_spot := has_mk l.prog w base X G q19 (ok_p_some_spot (fn_mk q19) Z h_p_sought) (fun _ _ _ _ _ _ => us1 fun _ => rfl)
  have h_p_is_way := has_mk l.prog w base X G q20 (ok_p_is_way (fn_mk q20) Z h_p_along) (fun _ _ _ _ _ _ => us2 fun _ _ => rfl)
  have h_p_ways := has_mk l.prog w base X G q21 (ok_p_ways (fn_mk q21) Z h_p_is_way h_p_plain) (fun _ _ _ _ _ _ => us1 fun _ => rfl)
  have h_p_span := has_mk l.prog w base X G q22 (ok_p_span (fn_mk q22) Z ) (fun _ _ _ _ _ _ => us1 fun _ => rfl)
  have h_p_weighed := has_mk l.prog w base X G q23 (ok_p_weighed (fn_mk q23) Z h_p_lowest) (fun _ _ _ _ _ _ => us2 fun _ _ => rfl)
  have h_p_clash_of_three := has_mk l.prog w base X G q24 (ok_p_clash_of_three (fn_mk q24) Z h_p_weighed h_p_turn h_p_edge_end) (fun _ _ _ _ _ _ => us2 fun _ _ => rfl)
  have h_p_clash := has_mk l.prog w base X G q25 (ok_p_clash (fn_mk q25) Z h_p_clash_of_three h_p_turn h_p_holds h_p_foot h_p_weighed h_p_span h_p_sought) (fun _ _ _ _ _ _ => us1 fun _ => rfl)
  have h_p_way_onward := has_mk l.prog w base X G q26 (ok_p_way_onward (fn_mk q26) Z h_p_ways h_p_plain h_p_along h_p_is_way) (fun _ _ _ _ _ _ => us2 fun _ _ => rfl)
  have h_p_far_by_one := has_mk l.prog w base X G q27 (ok_p_far_by_one (fn_mk q27) Z h_p_turn h_p_along h_p_part h_p_span h_p_spot_on_edge) (fun _ _ _ _ _ _ => us2 fun _ _ => rfl)
  have h_p_weights_of_two := has_mk l.prog w base X G q28 (ok_p_weights_of_two (fn_mk q28) Z h_p_part h_p_turn) (fun _ _ _ _ _ _ => us3 fun _ _ _ => rfl)
  have h_p_far_by_two := has_mk l.prog w base X G q29 (ok_p_far_by_two (fn_mk q29) Z h_p_turn h_p_in_water h_p_weights_of_two h_p_crossing h_p_edge_end) (fun _ _ _ _ _ _ => us2 fun _ _ => rfl)
  have h_p_reach := has_mk l.prog w base X G q30 (ok_p_reach (fn_mk q30) Z h_p_far_by_one h_p_far_by_two h_p_way_onward h_p_clash) (fun _ _ _ _ _ _ => us2 fun _ _ => rfl)
  have h_p_stretch_way := has_mk l.prog w base X G q31 (ok_p_stretch_way (fn_mk q31) Z ) (fun _ _ _ _ _ _ => us2 fun _ _ => rfl)
  have h_p_stretch_side := has_mk l.prog w base X G q32 (ok_p_stretch_side (fn_mk q32) Z h_p_plain_side h_p_turn h_p_stretch_way) (fun _ _ _ _ _ _ => us2 fun _ _ => rfl)
  have h_p_bank_sides := has_mk l.prog w base X G q33 (ok_p_bank_sides (fn_mk q33) Z h_p_stretch_side) (fun _ _ _ _ _ _ => us1 fun _ => rfl)
  have h_p_word_of_cannot := has_mk l.prog w base X G q34 (ok_p_word_of_cannot (fn_mk q34) Z h_p_part) (fun _ _ _ _ _ _ => us2 fun _ _ => rfl)
  have h_p_gone_beyond := has_mk l.prog w base X G q35 (ok_p_gone_beyond (fn_mk q35) Z h_p_spot h_p_along) (fun _ _ _ _ _ _ => us3 fun _ _ _ => rfl)
  have h_p_beyond_or_weights := has_mk l.prog w base X G q36 (ok_p_beyond_or_weights (fn_mk q36) Z h_p_holds h_p_gone_beyond h_p_some_spot h_p_reach) (fun _ _ _ _ _ _ => us2 fun _ _ => rfl)
  have h_p_bank_word := has_mk l.prog w base X G q37 (ok_p_bank_word (fn_mk q37) Z h_p_some_spot h_p_beyond_or_weights h_p_word_of_cannot h_p_clash h_p_bank_sides) (fun _ _ _ _ _ _ => us2 fun _ _ => rfl)
  have h_L_low := has_mk l.prog w base X G q38 (ok_L_low (fn_mk q38) Z ) (fun _ _ _ _ _ _ => us2 fun _ _ => rfl)
  have h_L_spot_of := has_mk l.prog w base X G q39 (ok_L_spot_of (fn_mk q39) Z h_L_low) (fun _ _ _ _ _ _ => us3 fun _ _ _ => rfl)
  have h_L_meet := has_mk l.prog w base X G q40 (ok_L_meet (fn_mk q40) Z h_L_spot_of) (fun _ _ _ _ _ _ => us2 fun _ _ => rfl)
  have h_L_has := has_mk l.prog w base X G q41 (ok_L_has (fn_mk q41) Z ) (fun _ _ _ _ _ _ => us2 fun _ _ => rfl)
  have h_L_corners_of := has_mk l.prog w base X G q42 (ok_L_corners_of (fn_mk q42) Z h_L_has h_L_meet) (fun _ _ _ _ _ _ => us1 fun _ => rfl)
  have h_L_feet := has_mk l.prog w base X G q43 (ok_L_feet (fn_mk q43) Z h_L_spot_of) (fun _ _ _ _ _ _ => us1 fun _ => rfl)
  have h_L_any_place := has_mk l.prog w base X G q44 (ok_L_any_place (fn_mk q44) Z h_L_corners_of h_L_feet h_L_has) (fun _ _ _ _ _ _ => us1 fun _ => rfl)
  have h_L_flow := has_mk l.prog w base X G q45 (ok_L_flow (fn_mk q45) Z h_L_low) (fun _ _ _ _ _ _ => us1 fun _ => rfl)
  have h_L_power := has_mk l.prog w base X G q46 (ok_L_power (fn_mk q46) Z ) (fun _ _ _ _ _ _ => us1 fun _ => rfl)
  have h_L_draws := has_mk l.prog w base X G q47 (ok_L_draws (fn_mk q47) Z h_L_power) (fun _ _ _ _ _ _ => us2 fun _ _ => rfl)
  have h_L_many := has_mk l.prog w base X G q48 (ok_L_many (fn_mk q48) Z ) (fun _ _ _ _ _ _ => us4 fun _ _ _ _ => rfl)
  have h_L_tight := has_mk l.prog w base X G q49 (ok_L_tight (fn_mk q49) Z ) (fun _ _ _ _ _ _ => us2 fun _ _ => rfl)
  have h_L_way := has_mk l.prog w base X G q50 (ok_L_way (fn_mk q50) Z ) (fun _ _ _ _ _ _ => us3 fun _ _ _ => rfl)
  have h_L_side := has_mk l.prog w base X G q51 (ok_L_side (fn_mk q51) Z h_L_way) (fun _ _ _ _ _ _ => us1 fun _ => rfl)
  have h_L_sides := has_mk l.prog w base X G q52 (ok_L_sides (fn_mk q52) Z h_L_side) (fun _ _ _ _ _ _ => us2 fun _ _ => rfl)
  have h_L_turned := has_mk l.prog w base X G q53 (ok_L_turned (fn_mk q53) Z ) (fun _ _ _ _ _ _ => us2 fun _ _ => rfl)
  have h_L_left_pair := has_mk l.prog w base X G q54 (ok_L_left_pair (fn_mk q54) Z h_L_turned h_L_way) (fun _ _ _ _ _ _ => us2 fun _ _ => rfl)
  have h_L_bank := has_mk l.prog w base X G q55 (ok_L_bank (fn_mk q55) Z h_L_left_pair) (fun _ _ _ _ _ _ => us2 fun _ _ => rfl)
  have h_L_bank_rows := has_mk l.prog w base X G q56 (ok_L_bank_rows (fn_mk q56) Z h_L_low) (fun _ _ _ _ _ _ => us1 fun _ => rfl)
  have h_L_banked := has_mk l.prog w base X G q57 (ok_L_banked (fn_mk q57) Z h_L_way h_L_bank_rows h_L_bank h_L_sides h_L_tight h_L_many) (fun _ _ _ _ _ _ => us1 fun _ => rfl)
  have h_L_beyond := has_mk l.prog w base X G q58 (ok_L_beyond (fn_mk q58) Z h_L_corners_of h_L_flow h_L_any_place) (fun _ _ _ _ _ _ => us2 fun _ _ => rfl)
  exact ok_law (fn_mk q59) Z h_L_beyond h_L_any_place h_p_bank_word h_L_bank_rows h_L_banked h_L_draws
theorem walk {l : PySem.W.OpenLaw} {q : Program} {loose : List Str} {XP : (Str → Option Value) → Heap → Prop} {YP : World → Heap → Prop} {d : DefRec} {K : Params → PySem.W.Frag} (hn : l.most = some 63) (hdf : d.params.defaults = [])
    (hY : ∀ (w : World) (h : Heap), YP w h → (K w.params).In h)
    (F : ∀ (w : World) (mg : Str → Option Value) (fa : Addr) (h : Heap), (K w.params).In h → h.Ns mainGlobals mg → mg d.name = some (.ref fa) →
      ∃ fd : FuncData, (∀ (s : Shared) (u : Value), BindsTo s fd ⟨[u], []⟩ [("_law_script", u)]) ∧ ∀ base : Heap, (K w.params).In base → base.Ns mainGlobals mg → FnOk l.prog w (K w.params) mg base CX0 13 fa fd ["_law_script"] (sp_law (K w.params))) :
    PySem.W.WalkO q loose XP YP l.row.toRowW d [] (fun f vs => PySem.call f vs) :=
  L2.walk_of (n := 63) (k := 13) (x := "_law_script") (CX := fun _ => CX0) (sp := fun w => sp_law (K w.params)) hn (by decide) hdf ⟨rfl, by decide, by decide⟩ hY F (fun _ _ a ns hl _ hS => ⟨a, ns, rfl, hS, hl, fun _ => rfl⟩) fun _ _ _ _ _ z => z

end Sea
open PySem PySem.W PyProof.Rows
set_option maxRecDepth 100000 in
set_option maxHeartbeats 0 in
theorem PySem.Challenge.cw_seamarks_k26_whole_words_by_places_holds : PySem.Challenge.rw_seamarks_k26_whole_words_by_places.Holds := by
  w_on; o_law
  refine holds_open (q := Sea.qv) (loose := []) (XP := XL Sea.qv []) (YP := InK Sea.KK) Sea.left_ok (InK.of Sea.kas_ok)
    InK.keeps (fun s e => xl_of s (Bool.and_eq_true_iff.mp e).1) XL.keeps (by rfl) (by rfl) (by rfl)
    (fun s e => recFacts_of (Bool.and_eq_true_iff.mp e).2) (by rfl) (by assumption) (by decide +kernel)
    ⟨rfl, rfl, rfl, rfl, rfl, by decide +kernel⟩ ?hw ?hc
  case hw => w_witness2
  k_fill
  refine Sea.walk (l := PySem.Challenge.rw_seamarks_k26_whole_words_by_places) rfl rfl (fun w h Y => Y) ?F
  case F =>
    intro w mg fa h KX G hmg
    refine' Sea.all_mk KX G hmg ?q1 ?q2 ?q3 ?q4 ?q5 ?q6 ?q7 ?q8 ?q9 ?q10 ?q11 ?q12 ?q13 ?q14 ?q15 ?q16 ?q17 ?q18 ?q19 ?q20 ?q21 ?q22 ?q23 ?q24 ?q25 ?q26 ?q27 ?q28 ?q29 ?q30 ?q31 ?q32 ?q33 ?q34 ?q35 ?q36 ?q37 ?q38 ?q39 ?q40 ?q41 ?q42 ?q43 ?q44 ?q45 ?q46 ?q47 ?q48 ?q49 ?q50 ?q51 ?q52 ?q53 ?q54 ?q55 ?q56 ?q57 ?q58 ?q59 ?z_abs ?z_all ?z_any ?z_enumerate ?z_len ?z_list ?z_max ?z_range ?z_sorted ?z_sum ?z_tuple
    (case q1 => and_intros <;> k_is)
    (case q2 => and_intros <;> k_is)
    (case q3 => and_intros <;> k_is)
    (case q4 => and_intros <;> k_is)
    (case q5 => and_intros <;> k_is)
    (case q6 => and_intros <;> k_is)
    (case q7 => and_intros <;> k_is)
    (case q8 => and_intros <;> k_is)
    (case q9 => and_intros <;> k_is)
    (case q10 => and_intros <;> k_is)
    (case q11 => and_intros <;> k_is)
    (case q12 => and_intros <;> k_is)
    (case q13 => and_intros <;> k_is)
    (case q14 => and_intros <;> k_is)
    (case q15 => and_intros <;> k_is)
    (case q16 => and_intros <;> k_is)
    (case q17 => and_intros <;> k_is)
    (case q18 => and_intros <;> k_is)
    (case q19 => and_intros <;> k_is)
    (case q20 => and_intros <;> k_is)
    (case q21 => and_intros <;> k_is)
    (case q22 => and_intros <;> k_is)
    (case q23 => and_intros <;> k_is)
    (case q24 => and_intros <;> k_is)
    (case q25 => and_intros <;> k_is)
    (case q26 => and_intros <;> k_is)
    (case q27 => and_intros <;> k_is)
    (case q28 => and_intros <;> k_is)
    (case q29 => and_intros <;> k_is)
    (case q30 => and_intros <;> k_is)
    (case q31 => and_intros <;> k_is)
    (case q32 => and_intros <;> k_is)
    (case q33 => and_intros <;> k_is)
    (case q34 => and_intros <;> k_is)
    (case q35 => and_intros <;> k_is)
    (case q36 => and_intros <;> k_is)
    (case q37 => and_intros <;> k_is)
    (case q38 => and_intros <;> k_is)
    (case q39 => and_intros <;> k_is)
    (case q40 => and_intros <;> k_is)
    (case q41 => and_intros <;> k_is)
    (case q42 => and_intros <;> k_is)
    (case q43 => and_intros <;> k_is)
    (case q44 => and_intros <;> k_is)
    (case q45 => and_intros <;> k_is)
    (case q46 => and_intros <;> k_is)
    (case q47 => and_intros <;> k_is)
    (case q48 => and_intros <;> k_is)
    (case q49 => and_intros <;> k_is)
    (case q50 => and_intros <;> k_is)
    (case q51 => and_intros <;> k_is)
    (case q52 => and_intros <;> k_is)
    (case q53 => and_intros <;> k_is)
    (case q54 => and_intros <;> k_is)
    (case q55 => and_intros <;> k_is)
    (case q56 => and_intros <;> k_is)
    (case q57 => and_intros <;> k_is)
    (case q58 => and_intros <;> k_is)
    (case q59 => and_intros <;> k_is)
    (case z_abs => k_is)
    (case z_all => k_is)
    (case z_any => k_is)
    (case z_enumerate => k_is)
    (case z_len => k_is)
    (case z_list => k_is)
    (case z_max => k_is)
    (case z_range => k_is)
    (case z_sorted => k_is)
    (case z_sum => k_is)
    (case z_tuple => k_is)
