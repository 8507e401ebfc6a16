import PyProof.Rows.All
import Wide.All
import OpenK.AllK
import Wide.FinOn
import Lean
import PyProof.EqAt
import PyProof.EqKinds
import PyProof.TupleCall
import PyProof.ZipIter
import PyProof.Rows.ZipGen
import PyProof.EnumFor
import PyProof.EnumStmt
import KE.KSortTup
import KE.KDictList
import PySem.Challenge.RW_seamarks_k27_clashes_judged
set_option Elab.async false
set_option linter.all false
set_option maxRecDepth 100000
set_option maxHeartbeats 4000000
namespace L2
open PySem
def defArgs (s : Stmt) : Arguments := match s with
  | .FunctionDef _ a _ _ _ _ _ _ _ _ => a
  | _ => { posonlyargs := [], args := [], vararg := none, kwonlyargs := [], kw_defaults := [], kwarg := none, defaults := [] }
def defBody (s : Stmt) : List Stmt := match s with
  | .FunctionDef _ _ b _ _ _ _ _ _ _ => b
  | _ => []
def defScope (s : Stmt) : Scope := match s with
  | .FunctionDef _ _ _ _ _ _ sc _ _ _ => sc
  | _ => { kind := .function, names := [], isGenerator := false, isCoroutine := false }
end L2
namespace Sea
open PySem L2
def top (i : Nat) : Stmt := PySem.Challenge.pw_seamarks_k27_clashes_judged.main.body.getD i (.Pass ⟨0, 0, 0, 0⟩)
abbrev s_p_common_factor : Stmt := top 1
abbrev s_p_lowest : Stmt := top 2
abbrev s_p_upright : Stmt := top 3
abbrev s_p_part : Stmt := top 4
abbrev s_p_plus : Stmt := top 5
abbrev s_p_times : Stmt := top 6
abbrev s_p_below : Stmt := top 7
abbrev s_p_spot : Stmt := top 8
abbrev s_p_turn : Stmt := top 10
abbrev s_p_along : Stmt := top 11
abbrev s_p_beyond : Stmt := top 12
abbrev s_p_holds : Stmt := top 13
abbrev s_p_crossing : Stmt := top 14
abbrev s_p_in_water : Stmt := top 16
abbrev s_p_foot : Stmt := top 17
abbrev s_p_edge_end : Stmt := top 18
abbrev s_p_edge_ends : Stmt := top 19
abbrev s_p_spot_on_edge : Stmt := top 20
abbrev s_p_sought : Stmt := top 21
abbrev s_p_span : Stmt := top 23
abbrev s_p_weighed : Stmt := top 24
abbrev s_p_clash_of_three : Stmt := top 25
abbrev s_p_clash : Stmt := top 26
abbrev s_p_are_weights : Stmt := top 28
abbrev s_p_sum_at : Stmt := top 29
abbrev s_p_makes : Stmt := top 30
abbrev s_p_good_clash : Stmt := top 31
abbrev s_L_turned : Stmt := top 33
abbrev s_L_power : Stmt := top 34
abbrev s_L_draws : Stmt := top 35
abbrev s_L_tight : Stmt := top 36
abbrev s_L_way : Stmt := top 37
abbrev s_L_side : Stmt := top 38
abbrev s_L_sides : Stmt := top 39
abbrev s_L_same : Stmt := top 40
abbrev s_L_whole : Stmt := top 41
abbrev s_L_numbers : Stmt := top 42
abbrev s_L_is_clash : Stmt := top 43
abbrev s_L_own : Stmt := top 44
abbrev s_L_bent : Stmt := top 45
abbrev s_law : Stmt := top 46
noncomputable def qv : Program := { PySem.Challenge.pw_seamarks_k27_clashes_judged with main := { PySem.Challenge.pw_seamarks_k27_clashes_judged.main with body := [top 1, top 2, top 3, top 4, top 5, top 6, top 7, top 8, top 10, top 11, top 12, top 13, top 14, top 16, top 17, top 18, top 19, top 20, top 21, top 23, top 24, top 25, top 26, top 28, top 29, top 30, top 31, top 33, top 34, top 35, top 36, top 37, top 38, top 39, top 40, top 41, top 42, top 43, top 44, top 45, top 46] } }
noncomputable def kd (P : Params) (x : Str) (t : Nat) (v : Value) : DictEntry := ⟨PyData.keyHash P x, .str x t, v⟩
noncomputable def kc (l : List Value) : Obj := ⟨.type "code", none, .fields (List.toArray l), List.toArray []⟩
noncomputable abbrev kf (x : Str) (s : Stmt) (kV doc pm cd ct : Value) : Obj := ⟨.type "function", none, .func (PySem.W.fnOf x x (defArgs s) (defBody s) (defScope s) .none kV doc pm none cd ct), List.toArray []⟩
noncomputable def KK (P : Params) : PySem.W.Frag :=
  (nat_lit 3, ⟨.type "dict", none, .dict (List.toArray (kd P "__name__" 165 (.str "law_seamarks_k27_clashes_judged" 427) :: kd P "__doc__" 166 .none :: kd P "__package__" 167 .none :: kd P "__loader__" 168 (.builtin "__main__.__loader__#opaque") :: kd P "__spec__" 169 .none :: kd P "__annotations__" 170 (.ref 6) :: kd P "__builtins__" 171 (.ref 4) :: kd P "__file__" 173 (.str "/claim/cut.py" 172) :: kd P "__cached__" 174 .none :: kd P "common_factor" 199 (.ref 21) :: kd P "lowest" 205 (.ref 26) :: kd P "upright" 211 (.ref 31) :: kd P "part" 219 (.ref 38) :: kd P "plus" 227 (.ref 45) :: kd P "times" 235 (.ref 52) :: kd P "below" 243 (.ref 59) :: kd P "spot" 252 (.ref 66) :: kd P "turn" 262 (.ref 73) :: kd P "along" 270 (.ref 80) :: kd P "beyond" 278 (.ref 87) :: kd P "holds" 286 (.ref 94) :: kd P "crossing" 297 (.ref 101) :: kd P "in_water" 308 (.ref 108) :: kd P "foot" 315 (.ref 115) :: kd P "edge_end" 328 (.ref 122) :: kd P "edge_ends" 334 (.ref 127) :: kd P "spot_on_edge" 343 (.ref 134) :: kd P "sought" 352 (.ref 141) :: kd P "span" 361 (.ref 148) :: kd P "weighed" 367 (.ref 153) :: kd P "clash_of_three" 380 (.ref 160) :: kd P "clash" 391 (.ref 167) :: kd P "are_weights" 403 (.ref 174) :: kd P "sum_at" 414 (.ref 181) :: kd P "makes" 420 (.ref 186) :: kd P "good_clash" 426 (.ref 191) :: kd P "_law_turned" 436 (.ref 198) :: kd P "_law_power" 443 (.ref 205) :: kd P "_law_draws" 455 (.ref 212) :: kd P "_law_tight" 461 (.ref 217) :: kd P "_law_way" 472 (.ref 224) :: kd P "_law_side" 482 (.ref 231) :: kd P "_law_sides" 488 (.ref 236) :: kd P "_law_same" 494 (.ref 241) :: kd P "_law_whole" 501 (.ref 248) :: kd P "_law_numbers" 507 (.ref 253) :: kd P "_law_is_clash" 521 (.ref 260) :: kd P "_law_own" 527 (.ref 265) :: kd P "_law_bent" 533 (.ref 270) :: kd P "law" 546 (.ref 277) :: [])) 50, List.toArray []⟩) ::
  (nat_lit 20, kc ((.str "common_factor" 189) :: ((.str "common_factor" 190) :: ((.str "/claim/cut.py" 191) :: ((.int 2 0) :: ((.int 1 0) :: ((.int 0 0) :: ((.int 0 0) :: ((.int 3 0) :: ((.ref 15) :: ((.bool true) :: ((.int 181 0) :: ((.ref 16) :: (.none :: ((.ref 17) :: ((.ref 18) :: ((.ref 19) :: ((.int 197 0) :: ((.int 2 0) :: ((.str "/claim/cut.py" 198) :: [])))))))))))))))))))) ::
  (nat_lit 21, kf "common_factor" s_p_common_factor .none .none (.str "seamarks.parts" 187) (.ref 20) .none) ::
  (nat_lit 25, kc ((.str "lowest" 200) :: ((.str "lowest" 201) :: ((.str "/claim/cut.py" 202) :: ((.int 11 0) :: ((.int 1 0) :: ((.int 0 0) :: ((.int 0 0) :: ((.int 3 0) :: ((.ref 22) :: ((.bool true) :: ((.int 181 0) :: ((.ref 23) :: (.none :: (.none :: (.none :: ((.ref 24) :: ((.int 203 0) :: ((.int 11 0) :: ((.str "/claim/cut.py" 204) :: [])))))))))))))))))))) ::
  (nat_lit 26, kf "lowest" s_p_lowest .none .none (.str "seamarks.parts" 187) (.ref 25) .none) ::
  (nat_lit 30, kc ((.str "upright" 206) :: ((.str "upright" 207) :: ((.str "/claim/cut.py" 208) :: ((.int 14 0) :: ((.int 1 0) :: ((.int 0 0) :: ((.int 0 0) :: ((.int 3 0) :: ((.ref 27) :: ((.bool true) :: ((.int 181 0) :: ((.ref 28) :: (.none :: (.none :: (.none :: ((.ref 29) :: ((.int 209 0) :: ((.int 14 0) :: ((.str "/claim/cut.py" 210) :: [])))))))))))))))))))) ::
  (nat_lit 31, kf "upright" s_p_upright .none .none (.str "seamarks.parts" 187) (.ref 30) .none) ::
  (nat_lit 37, kc ((.str "part" 212) :: ((.str "part" 213) :: ((.str "/claim/cut.py" 214) :: ((.int 18 0) :: ((.int 2 0) :: ((.int 0 0) :: ((.int 0 0) :: ((.int 3 0) :: ((.ref 32) :: ((.bool true) :: ((.int 181 0) :: ((.ref 33) :: (.none :: ((.ref 34) :: ((.ref 35) :: ((.ref 36) :: ((.int 217 0) :: ((.int 18 0) :: ((.str "/claim/cut.py" 218) :: [])))))))))))))))))))) ::
  (nat_lit 38, kf "part" s_p_part .none .none (.str "seamarks.parts" 187) (.ref 37) .none) ::
  (nat_lit 44, kc ((.str "plus" 220) :: ((.str "plus" 221) :: ((.str "/claim/cut.py" 222) :: ((.int 20 0) :: ((.int 2 0) :: ((.int 0 0) :: ((.int 0 0) :: ((.int 3 0) :: ((.ref 39) :: ((.bool true) :: ((.int 181 0) :: ((.ref 40) :: (.none :: ((.ref 41) :: ((.ref 42) :: ((.ref 43) :: ((.int 225 0) :: ((.int 20 0) :: ((.str "/claim/cut.py" 226) :: [])))))))))))))))))))) ::
  (nat_lit 45, kf "plus" s_p_plus .none .none (.str "seamarks.parts" 187) (.ref 44) .none) ::
  (nat_lit 51, kc ((.str "times" 228) :: ((.str "times" 229) :: ((.str "/claim/cut.py" 230) :: ((.int 22 0) :: ((.int 2 0) :: ((.int 0 0) :: ((.int 0 0) :: ((.int 3 0) :: ((.ref 46) :: ((.bool true) :: ((.int 181 0) :: ((.ref 47) :: (.none :: ((.ref 48) :: ((.ref 49) :: ((.ref 50) :: ((.int 233 0) :: ((.int 22 0) :: ((.str "/claim/cut.py" 234) :: [])))))))))))))))))))) ::
  (nat_lit 52, kf "times" s_p_times .none .none (.str "seamarks.parts" 187) (.ref 51) .none) ::
  (nat_lit 58, kc ((.str "below" 236) :: ((.str "below" 237) :: ((.str "/claim/cut.py" 238) :: ((.int 24 0) :: ((.int 2 0) :: ((.int 0 0) :: ((.int 0 0) :: ((.int 3 0) :: ((.ref 53) :: ((.bool true) :: ((.int 181 0) :: ((.ref 54) :: (.none :: ((.ref 55) :: ((.ref 56) :: ((.ref 57) :: ((.int 241 0) :: ((.int 24 0) :: ((.str "/claim/cut.py" 242) :: [])))))))))))))))))))) ::
  (nat_lit 59, kf "below" s_p_below .none .none (.str "seamarks.parts" 187) (.ref 58) .none) ::
  (nat_lit 65, kc ((.str "spot" 244) :: ((.str "spot" 245) :: ((.str "/claim/cut.py" 246) :: ((.int 26 0) :: ((.int 3 0) :: ((.int 0 0) :: ((.int 0 0) :: ((.int 3 0) :: ((.ref 60) :: ((.bool true) :: ((.int 181 0) :: ((.ref 61) :: (.none :: ((.ref 62) :: ((.ref 63) :: ((.ref 64) :: ((.int 250 0) :: ((.int 26 0) :: ((.str "/claim/cut.py" 251) :: [])))))))))))))))))))) ::
  (nat_lit 66, kf "spot" s_p_spot .none .none (.str "seamarks.parts" 187) (.ref 65) .none) ::
  (nat_lit 72, kc ((.str "turn" 255) :: ((.str "turn" 256) :: ((.str "/claim/cut.py" 257) :: ((.int 29 0) :: ((.int 2 0) :: ((.int 0 0) :: ((.int 0 0) :: ((.int 3 0) :: ((.ref 67) :: ((.bool true) :: ((.int 181 0) :: ((.ref 68) :: (.none :: ((.ref 69) :: ((.ref 70) :: ((.ref 71) :: ((.int 260 0) :: ((.int 29 0) :: ((.str "/claim/cut.py" 261) :: [])))))))))))))))))))) ::
  (nat_lit 73, kf "turn" s_p_turn .none .none (.str "seamarks.sides" 253) (.ref 72) .none) ::
  (nat_lit 79, kc ((.str "along" 263) :: ((.str "along" 264) :: ((.str "/claim/cut.py" 265) :: ((.int 31 0) :: ((.int 2 0) :: ((.int 0 0) :: ((.int 0 0) :: ((.int 3 0) :: ((.ref 74) :: ((.bool true) :: ((.int 181 0) :: ((.ref 75) :: (.none :: ((.ref 76) :: ((.ref 77) :: ((.ref 78) :: ((.int 268 0) :: ((.int 31 0) :: ((.str "/claim/cut.py" 269) :: [])))))))))))))))))))) ::
  (nat_lit 80, kf "along" s_p_along .none .none (.str "seamarks.sides" 253) (.ref 79) .none) ::
  (nat_lit 86, kc ((.str "beyond" 271) :: ((.str "beyond" 272) :: ((.str "/claim/cut.py" 273) :: ((.int 33 0) :: ((.int 2 0) :: ((.int 0 0) :: ((.int 0 0) :: ((.int 3 0) :: ((.ref 81) :: ((.bool true) :: ((.int 181 0) :: ((.ref 82) :: (.none :: ((.ref 83) :: ((.ref 84) :: ((.ref 85) :: ((.int 276 0) :: ((.int 33 0) :: ((.str "/claim/cut.py" 277) :: [])))))))))))))))))))) ::
  (nat_lit 87, kf "beyond" s_p_beyond .none .none (.str "seamarks.sides" 253) (.ref 86) .none) ::
  (nat_lit 93, kc ((.str "holds" 279) :: ((.str "holds" 280) :: ((.str "/claim/cut.py" 281) :: ((.int 35 0) :: ((.int 2 0) :: ((.int 0 0) :: ((.int 0 0) :: ((.int 3 0) :: ((.ref 88) :: ((.bool true) :: ((.int 181 0) :: ((.ref 89) :: (.none :: ((.ref 90) :: ((.ref 91) :: ((.ref 92) :: ((.int 284 0) :: ((.int 35 0) :: ((.str "/claim/cut.py" 285) :: [])))))))))))))))))))) ::
  (nat_lit 94, kf "holds" s_p_holds .none .none (.str "seamarks.sides" 253) (.ref 93) .none) ::
  (nat_lit 100, kc ((.str "crossing" 287) :: ((.str "crossing" 288) :: ((.str "/claim/cut.py" 289) :: ((.int 37 0) :: ((.int 2 0) :: ((.int 0 0) :: ((.int 0 0) :: ((.int 3 0) :: ((.ref 95) :: ((.bool true) :: ((.int 181 0) :: ((.ref 96) :: (.none :: ((.ref 97) :: ((.ref 98) :: ((.ref 99) :: ((.int 295 0) :: ((.int 37 0) :: ((.str "/claim/cut.py" 296) :: [])))))))))))))))))))) ::
  (nat_lit 101, kf "crossing" s_p_crossing .none .none (.str "seamarks.sides" 253) (.ref 100) .none) ::
  (nat_lit 107, kc ((.str "in_water" 300) :: ((.str "in_water" 301) :: ((.str "/claim/cut.py" 302) :: ((.int 45 0) :: ((.int 2 0) :: ((.int 0 0) :: ((.int 0 0) :: ((.int 3 0) :: ((.ref 102) :: ((.bool true) :: ((.int 181 0) :: ((.ref 103) :: (.none :: ((.ref 104) :: ((.ref 105) :: ((.ref 106) :: ((.int 306 0) :: ((.int 45 0) :: ((.str "/claim/cut.py" 307) :: [])))))))))))))))))))) ::
  (nat_lit 108, kf "in_water" s_p_in_water .none .none (.str "seamarks.water" 298) (.ref 107) .none) ::
  (nat_lit 114, kc ((.str "foot" 309) :: ((.str "foot" 310) :: ((.str "/claim/cut.py" 311) :: ((.int 50 0) :: ((.int 1 0) :: ((.int 0 0) :: ((.int 0 0) :: ((.int 3 0) :: ((.ref 109) :: ((.bool true) :: ((.int 181 0) :: ((.ref 110) :: (.none :: ((.ref 111) :: ((.ref 112) :: ((.ref 113) :: ((.int 313 0) :: ((.int 50 0) :: ((.str "/claim/cut.py" 314) :: [])))))))))))))))))))) ::
  (nat_lit 115, kf "foot" s_p_foot .none .none (.str "seamarks.water" 298) (.ref 114) .none) ::
  (nat_lit 121, kc ((.str "edge_end" 316) :: ((.str "edge_end" 317) :: ((.str "/claim/cut.py" 318) :: ((.int 52 0) :: ((.int 3 0) :: ((.int 0 0) :: ((.int 0 0) :: ((.int 3 0) :: ((.ref 116) :: ((.bool true) :: ((.int 181 0) :: ((.ref 117) :: (.none :: ((.ref 118) :: ((.ref 119) :: ((.ref 120) :: ((.int 326 0) :: ((.int 52 0) :: ((.str "/claim/cut.py" 327) :: [])))))))))))))))))))) ::
  (nat_lit 122, kf "edge_end" s_p_edge_end .none .none (.str "seamarks.water" 298) (.ref 121) .none) ::
  (nat_lit 126, kc ((.str "edge_ends" 329) :: ((.str "edge_ends" 330) :: ((.str "/claim/cut.py" 331) :: ((.int 61 0) :: ((.int 2 0) :: ((.int 0 0) :: ((.int 0 0) :: ((.int 3 0) :: ((.ref 123) :: ((.bool true) :: ((.int 181 0) :: ((.ref 124) :: (.none :: (.none :: (.none :: ((.ref 125) :: ((.int 332 0) :: ((.int 61 0) :: ((.str "/claim/cut.py" 333) :: [])))))))))))))))))))) ::
  (nat_lit 127, kf "edge_ends" s_p_edge_ends .none .none (.str "seamarks.water" 298) (.ref 126) .none) ::
  (nat_lit 133, kc ((.str "spot_on_edge" 335) :: ((.str "spot_on_edge" 336) :: ((.str "/claim/cut.py" 337) :: ((.int 64 0) :: ((.int 2 0) :: ((.int 0 0) :: ((.int 0 0) :: ((.int 3 0) :: ((.ref 128) :: ((.bool true) :: ((.int 181 0) :: ((.ref 129) :: (.none :: ((.ref 130) :: ((.ref 131) :: ((.ref 132) :: ((.int 341 0) :: ((.int 64 0) :: ((.str "/claim/cut.py" 342) :: [])))))))))))))))))))) ::
  (nat_lit 134, kf "spot_on_edge" s_p_spot_on_edge .none .none (.str "seamarks.water" 298) (.ref 133) .none) ::
  (nat_lit 140, kc ((.str "sought" 344) :: ((.str "sought" 345) :: ((.str "/claim/cut.py" 346) :: ((.int 69 0) :: ((.int 1 0) :: ((.int 0 0) :: ((.int 0 0) :: ((.int 3 0) :: ((.ref 135) :: ((.bool true) :: ((.int 181 0) :: ((.ref 136) :: (.none :: ((.ref 137) :: ((.ref 138) :: ((.ref 139) :: ((.int 350 0) :: ((.int 69 0) :: ((.str "/claim/cut.py" 351) :: [])))))))))))))))))))) ::
  (nat_lit 141, kf "sought" s_p_sought .none .none (.str "seamarks.water" 298) (.ref 140) .none) ::
  (nat_lit 147, kc ((.str "span" 355) :: ((.str "span" 356) :: ((.str "/claim/cut.py" 357) :: ((.int 78 0) :: ((.int 1 0) :: ((.int 0 0) :: ((.int 0 0) :: ((.int 3 0) :: ((.ref 142) :: ((.bool true) :: ((.int 181 0) :: ((.ref 143) :: (.none :: ((.ref 144) :: ((.ref 145) :: ((.ref 146) :: ((.int 359 0) :: ((.int 78 0) :: ((.str "/claim/cut.py" 360) :: [])))))))))))))))))))) ::
  (nat_lit 148, kf "span" s_p_span .none .none (.str "seamarks.reach" 353) (.ref 147) .none) ::
  (nat_lit 152, kc ((.str "weighed" 362) :: ((.str "weighed" 363) :: ((.str "/claim/cut.py" 364) :: ((.int 80 0) :: ((.int 2 0) :: ((.int 0 0) :: ((.int 0 0) :: ((.int 3 0) :: ((.ref 149) :: ((.bool true) :: ((.int 181 0) :: ((.ref 150) :: (.none :: (.none :: (.none :: ((.ref 151) :: ((.int 365 0) :: ((.int 80 0) :: ((.str "/claim/cut.py" 366) :: [])))))))))))))))))))) ::
  (nat_lit 153, kf "weighed" s_p_weighed .none .none (.str "seamarks.reach" 353) (.ref 152) .none) ::
  (nat_lit 159, kc ((.str "clash_of_three" 368) :: ((.str "clash_of_three" 369) :: ((.str "/claim/cut.py" 370) :: ((.int 83 0) :: ((.int 2 0) :: ((.int 0 0) :: ((.int 0 0) :: ((.int 3 0) :: ((.ref 154) :: ((.bool true) :: ((.int 181 0) :: ((.ref 155) :: (.none :: ((.ref 156) :: ((.ref 157) :: ((.ref 158) :: ((.int 378 0) :: ((.int 83 0) :: ((.str "/claim/cut.py" 379) :: [])))))))))))))))))))) ::
  (nat_lit 160, kf "clash_of_three" s_p_clash_of_three .none .none (.str "seamarks.reach" 353) (.ref 159) .none) ::
  (nat_lit 166, kc ((.str "clash" 381) :: ((.str "clash" 382) :: ((.str "/claim/cut.py" 383) :: ((.int 90 0) :: ((.int 1 0) :: ((.int 0 0) :: ((.int 0 0) :: ((.int 3 0) :: ((.ref 161) :: ((.bool true) :: ((.int 181 0) :: ((.ref 162) :: (.none :: ((.ref 163) :: ((.ref 164) :: ((.ref 165) :: ((.int 389 0) :: ((.int 90 0) :: ((.str "/claim/cut.py" 390) :: [])))))))))))))))))))) ::
  (nat_lit 167, kf "clash" s_p_clash .none .none (.str "seamarks.reach" 353) (.ref 166) .none) ::
  (nat_lit 173, kc ((.str "are_weights" 394) :: ((.str "are_weights" 395) :: ((.str "/claim/cut.py" 396) :: ((.int 101 0) :: ((.int 2 0) :: ((.int 0 0) :: ((.int 0 0) :: ((.int 3 0) :: ((.ref 168) :: ((.bool true) :: ((.int 181 0) :: ((.ref 169) :: (.none :: ((.ref 170) :: ((.ref 171) :: ((.ref 172) :: ((.int 401 0) :: ((.int 101 0) :: ((.str "/claim/cut.py" 402) :: [])))))))))))))))))))) ::
  (nat_lit 174, kf "are_weights" s_p_are_weights .none .none (.str "seamarks.looker" 392) (.ref 173) .none) ::
  (nat_lit 180, kc ((.str "sum_at" 404) :: ((.str "sum_at" 405) :: ((.str "/claim/cut.py" 406) :: ((.int 108 0) :: ((.int 3 0) :: ((.int 0 0) :: ((.int 0 0) :: ((.int 3 0) :: ((.ref 175) :: ((.bool true) :: ((.int 181 0) :: ((.ref 176) :: (.none :: ((.ref 177) :: ((.ref 178) :: ((.ref 179) :: ((.int 412 0) :: ((.int 108 0) :: ((.str "/claim/cut.py" 413) :: [])))))))))))))))))))) ::
  (nat_lit 181, kf "sum_at" s_p_sum_at .none .none (.str "seamarks.looker" 392) (.ref 180) .none) ::
  (nat_lit 185, kc ((.str "makes" 415) :: ((.str "makes" 416) :: ((.str "/claim/cut.py" 417) :: ((.int 113 0) :: ((.int 3 0) :: ((.int 0 0) :: ((.int 0 0) :: ((.int 3 0) :: ((.ref 182) :: ((.bool true) :: ((.int 181 0) :: ((.ref 183) :: (.none :: (.none :: (.none :: ((.ref 184) :: ((.int 418 0) :: ((.int 113 0) :: ((.str "/claim/cut.py" 419) :: [])))))))))))))))))))) ::
  (nat_lit 186, kf "makes" s_p_makes .none .none (.str "seamarks.looker" 392) (.ref 185) .none) ::
  (nat_lit 190, kc ((.str "good_clash" 421) :: ((.str "good_clash" 422) :: ((.str "/claim/cut.py" 423) :: ((.int 115 0) :: ((.int 2 0) :: ((.int 0 0) :: ((.int 0 0) :: ((.int 3 0) :: ((.ref 187) :: ((.bool true) :: ((.int 181 0) :: ((.ref 188) :: (.none :: (.none :: (.none :: ((.ref 189) :: ((.int 424 0) :: ((.int 115 0) :: ((.str "/claim/cut.py" 425) :: [])))))))))))))))))))) ::
  (nat_lit 191, kf "good_clash" s_p_good_clash .none .none (.str "seamarks.looker" 392) (.ref 190) .none) ::
  (nat_lit 197, kc ((.str "_law_turned" 429) :: ((.str "_law_turned" 430) :: ((.str "/claim/cut.py" 431) :: ((.int 123 0) :: ((.int 2 0) :: ((.int 0 0) :: ((.int 0 0) :: ((.int 3 0) :: ((.ref 192) :: ((.bool true) :: ((.int 181 0) :: ((.ref 193) :: (.none :: ((.ref 194) :: ((.ref 195) :: ((.ref 196) :: ((.int 434 0) :: ((.int 123 0) :: ((.str "/claim/cut.py" 435) :: [])))))))))))))))))))) ::
  (nat_lit 198, kf "_law_turned" s_L_turned .none .none (.str "law_seamarks_k27_clashes_judged" 427) (.ref 197) .none) ::
  (nat_lit 204, kc ((.str "_law_power" 437) :: ((.str "_law_power" 438) :: ((.str "/claim/cut.py" 439) :: ((.int 125 0) :: ((.int 1 0) :: ((.int 0 0) :: ((.int 0 0) :: ((.int 3 0) :: ((.ref 199) :: ((.bool true) :: ((.int 181 0) :: ((.ref 200) :: (.none :: ((.ref 201) :: ((.ref 202) :: ((.ref 203) :: ((.int 441 0) :: ((.int 125 0) :: ((.str "/claim/cut.py" 442) :: [])))))))))))))))))))) ::
  (nat_lit 205, kf "_law_power" s_L_power .none .none (.str "law_seamarks_k27_clashes_judged" 427) (.ref 204) .none) ::
  (nat_lit 211, kc ((.str "_law_draws" 444) :: ((.str "_law_draws" 445) :: ((.str "/claim/cut.py" 446) :: ((.int 127 0) :: ((.int 2 0) :: ((.int 0 0) :: ((.int 0 0) :: ((.int 3 0) :: ((.ref 206) :: ((.bool true) :: ((.int 181 0) :: ((.ref 207) :: (.none :: ((.ref 208) :: ((.ref 209) :: ((.ref 210) :: ((.int 453 0) :: ((.int 127 0) :: ((.str "/claim/cut.py" 454) :: [])))))))))))))))))))) ::
  (nat_lit 212, kf "_law_draws" s_L_draws .none .none (.str "law_seamarks_k27_clashes_judged" 427) (.ref 211) .none) ::
  (nat_lit 216, kc ((.str "_law_tight" 456) :: ((.str "_law_tight" 457) :: ((.str "/claim/cut.py" 458) :: ((.int 143 0) :: ((.int 2 0) :: ((.int 0 0) :: ((.int 0 0) :: ((.int 3 0) :: ((.ref 213) :: ((.bool true) :: ((.int 181 0) :: ((.ref 214) :: (.none :: (.none :: (.none :: ((.ref 215) :: ((.int 459 0) :: ((.int 143 0) :: ((.str "/claim/cut.py" 460) :: [])))))))))))))))))))) ::
  (nat_lit 217, kf "_law_tight" s_L_tight .none .none (.str "law_seamarks_k27_clashes_judged" 427) (.ref 216) .none) ::
  (nat_lit 223, kc ((.str "_law_way" 462) :: ((.str "_law_way" 463) :: ((.str "/claim/cut.py" 464) :: ((.int 149 0) :: ((.int 3 0) :: ((.int 0 0) :: ((.int 0 0) :: ((.int 3 0) :: ((.ref 218) :: ((.bool true) :: ((.int 181 0) :: ((.ref 219) :: (.none :: ((.ref 220) :: ((.ref 221) :: ((.ref 222) :: ((.int 470 0) :: ((.int 149 0) :: ((.str "/claim/cut.py" 471) :: [])))))))))))))))))))) ::
  (nat_lit 224, kf "_law_way" s_L_way .none .none (.str "law_seamarks_k27_clashes_judged" 427) (.ref 223) .none) ::
  (nat_lit 230, kc ((.str "_law_side" 473) :: ((.str "_law_side" 474) :: ((.str "/claim/cut.py" 475) :: ((.int 155 0) :: ((.int 1 0) :: ((.int 0 0) :: ((.int 0 0) :: ((.int 3 0) :: ((.ref 225) :: ((.bool true) :: ((.int 181 0) :: ((.ref 226) :: (.none :: ((.ref 227) :: ((.ref 228) :: ((.ref 229) :: ((.int 480 0) :: ((.int 155 0) :: ((.str "/claim/cut.py" 481) :: [])))))))))))))))))))) ::
  (nat_lit 231, kf "_law_side" s_L_side .none .none (.str "law_seamarks_k27_clashes_judged" 427) (.ref 230) .none) ::
  (nat_lit 235, kc ((.str "_law_sides" 483) :: ((.str "_law_sides" 484) :: ((.str "/claim/cut.py" 485) :: ((.int 165 0) :: ((.int 2 0) :: ((.int 0 0) :: ((.int 0 0) :: ((.int 3 0) :: ((.ref 232) :: ((.bool true) :: ((.int 181 0) :: ((.ref 233) :: (.none :: (.none :: (.none :: ((.ref 234) :: ((.int 486 0) :: ((.int 165 0) :: ((.str "/claim/cut.py" 487) :: [])))))))))))))))))))) ::
  (nat_lit 236, kf "_law_sides" s_L_sides .none .none (.str "law_seamarks_k27_clashes_judged" 427) (.ref 235) .none) ::
  (nat_lit 240, kc ((.str "_law_same" 489) :: ((.str "_law_same" 490) :: ((.str "/claim/cut.py" 491) :: ((.int 175 0) :: ((.int 2 0) :: ((.int 0 0) :: ((.int 0 0) :: ((.int 3 0) :: ((.ref 237) :: ((.bool true) :: ((.int 181 0) :: ((.ref 238) :: (.none :: (.none :: (.none :: ((.ref 239) :: ((.int 492 0) :: ((.int 175 0) :: ((.str "/claim/cut.py" 493) :: [])))))))))))))))))))) ::
  (nat_lit 241, kf "_law_same" s_L_same .none .none (.str "law_seamarks_k27_clashes_judged" 427) (.ref 240) .none) ::
  (nat_lit 247, kc ((.str "_law_whole" 495) :: ((.str "_law_whole" 496) :: ((.str "/claim/cut.py" 497) :: ((.int 183 0) :: ((.int 1 0) :: ((.int 0 0) :: ((.int 0 0) :: ((.int 3 0) :: ((.ref 242) :: ((.bool true) :: ((.int 181 0) :: ((.ref 243) :: (.none :: ((.ref 244) :: ((.ref 245) :: ((.ref 246) :: ((.int 499 0) :: ((.int 183 0) :: ((.str "/claim/cut.py" 500) :: [])))))))))))))))))))) ::
  (nat_lit 248, kf "_law_whole" s_L_whole .none .none (.str "law_seamarks_k27_clashes_judged" 427) (.ref 247) .none) ::
  (nat_lit 252, kc ((.str "_law_numbers" 502) :: ((.str "_law_numbers" 503) :: ((.str "/claim/cut.py" 504) :: ((.int 185 0) :: ((.int 2 0) :: ((.int 0 0) :: ((.int 0 0) :: ((.int 3 0) :: ((.ref 249) :: ((.bool true) :: ((.int 181 0) :: ((.ref 250) :: (.none :: (.none :: (.none :: ((.ref 251) :: ((.int 505 0) :: ((.int 185 0) :: ((.str "/claim/cut.py" 506) :: [])))))))))))))))))))) ::
  (nat_lit 253, kf "_law_numbers" s_L_numbers .none .none (.str "law_seamarks_k27_clashes_judged" 427) (.ref 252) .none) ::
  (nat_lit 259, kc ((.str "_law_is_clash" 508) :: ((.str "_law_is_clash" 509) :: ((.str "/claim/cut.py" 510) :: ((.int 187 0) :: ((.int 2 0) :: ((.int 0 0) :: ((.int 0 0) :: ((.int 3 0) :: ((.ref 254) :: ((.bool true) :: ((.int 181 0) :: ((.ref 255) :: (.none :: ((.ref 256) :: ((.ref 257) :: ((.ref 258) :: ((.int 519 0) :: ((.int 187 0) :: ((.str "/claim/cut.py" 520) :: [])))))))))))))))))))) ::
  (nat_lit 260, kf "_law_is_clash" s_L_is_clash .none .none (.str "law_seamarks_k27_clashes_judged" 427) (.ref 259) .none) ::
  (nat_lit 264, kc ((.str "_law_own" 522) :: ((.str "_law_own" 523) :: ((.str "/claim/cut.py" 524) :: ((.int 199 0) :: ((.int 2 0) :: ((.int 0 0) :: ((.int 0 0) :: ((.int 3 0) :: ((.ref 261) :: ((.bool true) :: ((.int 181 0) :: ((.ref 262) :: (.none :: (.none :: (.none :: ((.ref 263) :: ((.int 525 0) :: ((.int 199 0) :: ((.str "/claim/cut.py" 526) :: [])))))))))))))))))))) ::
  (nat_lit 265, kf "_law_own" s_L_own .none .none (.str "law_seamarks_k27_clashes_judged" 427) (.ref 264) .none) ::
  (nat_lit 269, kc ((.str "_law_bent" 528) :: ((.str "_law_bent" 529) :: ((.str "/claim/cut.py" 530) :: ((.int 209 0) :: ((.int 2 0) :: ((.int 0 0) :: ((.int 0 0) :: ((.int 3 0) :: ((.ref 266) :: ((.bool true) :: ((.int 181 0) :: ((.ref 267) :: (.none :: (.none :: (.none :: ((.ref 268) :: ((.int 531 0) :: ((.int 209 0) :: ((.str "/claim/cut.py" 532) :: [])))))))))))))))))))) ::
  (nat_lit 270, kf "_law_bent" s_L_bent .none .none (.str "law_seamarks_k27_clashes_judged" 427) (.ref 269) .none) ::
  (nat_lit 276, kc ((.str "law" 534) :: ((.str "law" 535) :: ((.str "/claim/cut.py" 536) :: ((.int 228 0) :: ((.int 1 0) :: ((.int 0 0) :: ((.int 0 0) :: ((.int 3 0) :: ((.ref 271) :: ((.bool true) :: ((.int 181 0) :: ((.ref 272) :: (.none :: ((.ref 273) :: ((.ref 274) :: ((.ref 275) :: ((.int 544 0) :: ((.int 228 0) :: ((.str "/claim/cut.py" 545) :: [])))))))))))))))))))) ::
  (nat_lit 277, kf "law" s_law .none .none (.str "law_seamarks_k27_clashes_judged" 427) (.ref 276) .none) :: []
noncomputable def kas : List Nat := nat_lit 3 :: nat_lit 20 :: nat_lit 21 :: nat_lit 25 :: nat_lit 26 :: nat_lit 30 :: nat_lit 31 :: nat_lit 37 :: nat_lit 38 :: nat_lit 44 :: nat_lit 45 :: nat_lit 51 :: nat_lit 52 :: nat_lit 58 :: nat_lit 59 :: nat_lit 65 :: nat_lit 66 :: nat_lit 72 :: nat_lit 73 :: nat_lit 79 :: nat_lit 80 :: nat_lit 86 :: nat_lit 87 :: nat_lit 93 :: nat_lit 94 :: nat_lit 100 :: nat_lit 101 :: nat_lit 107 :: nat_lit 108 :: nat_lit 114 :: nat_lit 115 :: nat_lit 121 :: nat_lit 122 :: nat_lit 126 :: nat_lit 127 :: nat_lit 133 :: nat_lit 134 :: nat_lit 140 :: nat_lit 141 :: nat_lit 147 :: nat_lit 148 :: nat_lit 152 :: nat_lit 153 :: nat_lit 159 :: nat_lit 160 :: nat_lit 166 :: nat_lit 167 :: nat_lit 173 :: nat_lit 174 :: nat_lit 180 :: nat_lit 181 :: nat_lit 185 :: nat_lit 186 :: nat_lit 190 :: nat_lit 191 :: nat_lit 197 :: nat_lit 198 :: nat_lit 204 :: nat_lit 205 :: nat_lit 211 :: nat_lit 212 :: nat_lit 216 :: nat_lit 217 :: nat_lit 223 :: nat_lit 224 :: nat_lit 230 :: nat_lit 231 :: nat_lit 235 :: nat_lit 236 :: nat_lit 240 :: nat_lit 241 :: nat_lit 247 :: nat_lit 248 :: nat_lit 252 :: nat_lit 253 :: nat_lit 259 :: nat_lit 260 :: nat_lit 264 :: nat_lit 265 :: nat_lit 269 :: nat_lit 270 :: nat_lit 276 :: nat_lit 277 :: []
theorem kas_ok : ∀ P : Params, kas = (KK P).map (·.1) := fun _ => by kernel_rfl
open PySem.W in
theorem made : (fun (_ : Program) (_ : OpenLaw) => true) qv PySem.Challenge.rw_seamarks_k27_clashes_judged = true := by k_qdec
set_option maxHeartbeats 0 in
open PySem.W in
theorem left_ok : LeftO PySem.Challenge.rw_seamarks_k27_clashes_judged.row.prog qv [] (fun s => xlAt qv [] s && recOk (RowW.records (OpenRow.toRowW PySem.Challenge.rw_seamarks_k27_clashes_judged.row)) s)
    (fun s => kas.map s.heap.get?) (fun w => (KK w.params).map fun p => some p.2) 9000 := by
  unfold LeftO
  rw [Fast.te4187177175401517315, Fast.te5923862056798008813, Fast.te2368527892694137696, Fast.te14364793385576792824, Fast.te6838470164737621166, Fast.te7154753800370475284]
  intro w
  kernel_rfl
end Sea
-- BASE
namespace L2
open PySem PySem.Spec PyProof.Rows

abbrev Key := Sum Int Str
def keyIs : Key → Value → Bool
  | .inl k, v => Value.isInt k v
  | .inr x, v => Value.isStrOf x v
def keyH (w : World) : Key → Int
  | .inl k => hashInt k
  | .inr x => hashStr w x
theorem keyIs_shape : ∀ {k : Key} {v : Value}, keyIs k v = true → (∃ i t, k = Sum.inl i ∧ v = Value.int i t) ∨ (∃ x t, k = Sum.inr x ∧ v = Value.str x t)
  | .inl i, v, h => by
    obtain ⟨t, e⟩ := Value.isInt_shape (k := i) (v := v) h
    exact .inl ⟨i, t, rfl, e⟩
  | .inr x, v, h => by
    obtain ⟨t, e⟩ := Value.isStrOf_shape (x := x) (v := v) h
    exact .inr ⟨x, t, rfl, e⟩
theorem key_ll (a b : Int) : decide ((Sum.inl a : Key) = Sum.inl b) = (a == b) := by
  by_cases e : a = b
  · subst e; simp
  · have h : ¬ (Sum.inl a : Key) = Sum.inl b := fun q => e (Sum.inl.inj q)
    rw [decide_eq_false h]
    exact (beq_eq_false_iff_ne.mpr e).symm
theorem key_rr (a b : Str) : decide ((Sum.inr a : Key) = Sum.inr b) = decide (a = b) := by
  by_cases e : a = b
  · subst e; simp
  · have h : ¬ (Sum.inr a : Key) = Sum.inr b := fun q => e (Sum.inr.inj q)
    rw [decide_eq_false h, decide_eq_false e]
theorem key_lr (a : Int) (b : Str) : decide ((Sum.inl a : Key) = Sum.inr b) = false := decide_eq_false (fun q => nomatch q)
theorem key_rl (a : Str) (b : Int) : decide ((Sum.inr a : Key) = Sum.inl b) = false := decide_eq_false (fun q => nomatch q)

def mixKind (prog : Program) (w : World) : PySem.KeyKind prog w Key where
  is := keyIs
  hash := keyH w
  inj := fun v a b ha hb => by
    rcases keyIs_shape ha with ⟨i, t, rfl, rfl⟩ | ⟨x, t, rfl, rfl⟩
    · rcases keyIs_shape hb with ⟨j, u, rfl, e⟩ | ⟨y, u, rfl, e⟩
      · injection e with e1 _; rw [e1]
      · exact nomatch e
    · rcases keyIs_shape hb with ⟨j, u, rfl, e⟩ | ⟨y, u, rfl, e⟩
      · exact nomatch e
      · injection e with e1 _; rw [e1]
  byValue := fun k v h => by
    rcases keyIs_shape h with ⟨i, t, rfl, rfl⟩ | ⟨x, t, rfl, rfl⟩ <;> rfl
  pyHash := fun hv h => by
    rcases keyIs_shape hv with ⟨i, t, rfl, rfl⟩ | ⟨x, t, rfl, rfl⟩
    · exact wpAny_pyHash_int h
    · exact wpAny_pyHash_str h
  eqBool := fun hu hv h => by
    rcases keyIs_shape hu with ⟨i, t, rfl, rfl⟩ | ⟨x, t, rfl, rfl⟩
    · rcases keyIs_shape hv with ⟨j, u, rfl, rfl⟩ | ⟨y, u, rfl, rfl⟩
      · rw [key_ll] at h; exact wpAny_eqBool_int h
      · rw [key_lr] at h; exact SeqAt.EqAt.int_str i t y u _ _ _ _ h
    · rcases keyIs_shape hv with ⟨j, u, rfl, rfl⟩ | ⟨y, u, rfl, rfl⟩
      · rw [key_rl] at h; exact SeqAt.EqAt.str_int x t j u _ _ _ _ h
      · rw [key_rr] at h; exact wpAny_eqBool_str h
  «strs» := fun k x t v h => by
    rcases keyIs_shape h with ⟨i, u, rfl, e⟩ | ⟨y, u, rfl, e⟩
    · exact nomatch e
    · injection e with e1 _
      subst e1
      cases v <;> rfl

end L2

namespace L2
open PySem PySem.Spec PyProof.Rows

inductive V where
  | non | bl (b : Bool) | int (i : Int) | str (x : Str) | byt (b : Array UInt8) | flt (b : UInt64) | ref (a : Addr) | ty (n : String)
  deriving DecidableEq

def RelV : V → Value → Prop
  | .non, u => u = Value.none
  | .bl b, u => u = Value.bool b
  | .int i, u => ∃ t, u = Value.int i t
  | .str x, u => ∃ t, u = Value.str x t
  | .byt b, u => ∃ t, u = Value.bytes b t
  | .flt b, u => ∃ t, u = Value.float b t
  | .ref a, u => u = Value.ref a
  | .ty n, u => u = Value.type n

abbrev Vals : List V → List Value → Prop := Paired RelV
theorem Vals.length {xs : List V} {us : List Value} (r : Vals xs us) : xs.length = us.length := Paired.length r
theorem Vals.get : ∀ {xs : List V} {us : List Value} {i : Nat} {x : V}, Vals xs us → xs[i]? = some x → ∃ u, us[i]? = some u ∧ RelV x u
  | _, _, _, _, .nil, e => by simp at e
  | _, _, 0, _, .cons r _, e => by simp at e; subst e; exact ⟨_, rfl, r⟩
  | _, _, i + 1, x, .cons _ t, e => by
    obtain ⟨u, h1, h2⟩ := Vals.get (i := i) (x := x) t (by simpa using e)
    exact ⟨u, by simpa using h1, h2⟩
theorem Vals.set {x : V} {u : Value} (r : RelV x u) : ∀ {xs : List V} {us : List Value} (i : Nat), Vals xs us → Vals (xs.set i x) (us.set i u)
  | _, _, _, .nil => .nil
  | _, _, 0, .cons _ t => .cons r t
  | _, _, i + 1, .cons q t => .cons q (Vals.set r i t)
theorem Vals.append : ∀ {xs ys : List V} {us ws : List Value}, Vals xs us → Vals ys ws → Vals (xs ++ ys) (us ++ ws)
  | _, _, _, _, .nil, s => s
  | _, _, _, _, .cons r t, s => .cons r (Vals.append t s)
theorem Vals.take : ∀ {xs : List V} {us : List Value} (n : Nat), Vals xs us → Vals (xs.take n) (us.take n)
  | _, _, 0, _ => .nil
  | _, _, _ + 1, .nil => .nil
  | _, _, n + 1, .cons r t => .cons r (Vals.take n t)
theorem Vals.drop : ∀ {xs : List V} {us : List Value} (n : Nat), Vals xs us → Vals (xs.drop n) (us.drop n)
  | _, _, 0, r => r
  | _, _, _ + 1, .nil => .nil
  | _, _, n + 1, .cons _ t => Vals.drop n t
theorem Vals.none_of : ∀ {xs : List V} {us : List Value} {i : Nat}, Vals xs us → xs[i]? = none → us[i]? = none := fun {xs us i} r e => by
  have h1 := r.length
  have h2 : xs.length ≤ i := List.getElem?_eq_none_iff.mp e
  exact List.getElem?_eq_none_iff.mpr (by omega)

def RelO : Option V → Option Value → Prop
  | some v, some u => RelV v u
  | none, none => True
  | _, _ => False
def KV {κ : Type} : List (κ × V) → List (κ × Value) → Prop := Paired fun (p : κ × V) (q : κ × Value) => p.1 = q.1 ∧ RelV p.2 q.2

def kV : Key → V
  | .inl i => .int i
  | .inr x => .str x

inductive HO where
  /-- a list -/
  | lst (xs : List V)
  /-- a tuple (never changes) -/
  | tup (xs : List V)
  /-- a dict whose keys are ints and texts; one whose keys are tuples of ints and texts (the empty one is both) -/
  | dK (kvs : List (Key × V)) | dT (kvs : List (List Key × V))
  /-- a set of ints: its members, its size -/
  | set (S : Int → Bool) (n : Nat)
  /-- an instance of the class at C, its dict at dx, its attributes -/
  | ins (C dx : Addr) (fs : List (Str × V))
  /-- the dict of the instance at x -/
  | own (x : Addr)
  /-- the dict of an exception -/
  | xd (fs : List (Str × V))
  /-- a bound method, f of x -/
  | met (f x : Addr)
  /-- a range object lo, lo + 1, .. below hi -/
  | rng (lo hi : Int)
  /-- a thing that is known to the object (the script; a dict while a loop walks it): read, never written while it is so -/
  | frz (o : Obj) (u : HO)
  /-- a code object's table -/
  | tbl (ps : Array Value)
  /-- any other thing, by what is true of its one object (a def of one's own: SetO a S n := HO.ext fun h => ..) -/
  | ext (φ : Heap → Prop)

abbrev Hp := Addr → Option HO
def upd (H : Hp) (a : Addr) (o : HO) : Hp := fun b => if b = a then some o else H b
theorem upd_same {H : Hp} {a : Addr} {o : HO} : upd H a o a = some o := by unfold upd; rw [if_pos rfl]
theorem upd_ne {H : Hp} {a b : Addr} {o : HO} (h : b ≠ a) : upd H a o b = H b := by unfold upd; rw [if_neg h]
theorem upd_upd {H : Hp} {a : Addr} {o u : HO} : upd (upd H a o) a u = upd H a u := by
  funext b; unfold upd; split <;> rfl
theorem ne_of {H : Hp} {a b : Addr} {o u : HO} (h : H a = some o) (h' : H b = some u) (d : o ≠ u) : a ≠ b := by
  intro e; subst e; rw [h] at h'; exact d (Option.some.inj h')
theorem ne_of_none {H : Hp} {a b : Addr} {o : HO} (h : H a = some o) (h' : H b = none) : a ≠ b := by
  intro e; subst e; rw [h] at h'; cases h'

section
variable (P : Program) (w : World)
def ObjOk (H : Hp) (h : Heap) (a : Addr) : HO → Prop
  | .lst xs => xs.length ≤ sizeLine ∧ ∃ (its : List Value) (n : Nat), Vals xs its ∧ h.get? a = some { cls := .type "list", data := .seq its.toArray n }
  | .tup xs => xs.length ≤ sizeLine ∧ ∃ its : List Value, Vals xs its ∧ IsTup h a its.toArray
  | .dK kvs => kvs.length ≤ sizeLine ∧ (a == sysModules) = false ∧ ∃ vs, KV kvs vs ∧ h.DictOf (mixKind P w) a vs
  | .dT kvs => kvs.length ≤ sizeLine ∧ (a == sysModules) = false ∧ ∃ xs : List (List Key × Addr × Value),
      Paired (fun (p : List Key × V) (q : List Key × Addr × Value) => p.1 = q.1 ∧ H q.2.1 = some (.tup (p.1.map kV)) ∧ RelV p.2 q.2.2) kvs xs ∧
      ∃ o es ep, h.get? a = some o ∧ o.ExactDict ∧ o.data = .dict es ep ∧ es.toList = xs.map (entryOfKey (tupleKind (mixKind P w))) ∧ (xs.map (·.1)).Nodup
  | .set S n => h.SetOf (intKind P w) a S n
  | .ins C dx fs => H dx = some (.own a) ∧ fs.length ≤ 1000 ∧ dx ≠ a ∧ h.get? a = some (PySem.W.instObj C dx) ∧
      ∃ mA, h.Ns1 dx mA ∧ (∀ f, RelO (fs.lookup f) (mA f)) ∧ PySem.Within mA (fs.map (·.1))
  | .own _ => ∃ o, h.get? a = some o
  | .xd fs => ∃ mA, h.Ns1 a mA ∧ ∀ f, RelO (fs.lookup f) (mA f)
  | .rng lo hi => ∃ t u v, h.get? a = some { cls := .type "range", data := .fields #[.int lo t, .int hi u, .int 1 v] }
  | .frz o u => h.get? a = some o ∧ ObjOk H h a u
  | .tbl ps => h.get? a = some { cls := .none, data := .fields ps }
  | .met f x => h.get? a = some (PySem.W.methodObj (.ref f) (.ref x))
  | .ext φ => φ h ∧ (∃ o, h.get? a = some o) ∧ ∀ h1 h2 : Heap, φ h1 → (∀ o, h1.get? a = some o → h2.get? a = some o) → φ h2
def HOk (H : Hp) (h : Heap) : Prop := ∀ a o, H a = some o → ObjOk P w H h a o
end

section
variable {P : Program} {w : World} {H H' : Hp} {h h' : Heap} {a : Addr} {o : HO}
theorem ObjOk.lt (x : ObjOk P w H h a o) : a < h.objs.size := by
  cases o with
  | lst xs => obtain ⟨_, _, _, _, e⟩ := x; exact Heap.lt_size e
  | tup xs => obtain ⟨_, _, _, p⟩ := x; exact p.lt
  | dK kvs => obtain ⟨_, _, _, _, o, _, _, e, _⟩ := x; exact Heap.lt_size e
  | dT kvs => obtain ⟨_, _, _, _, o, _, _, e, _⟩ := x; exact Heap.lt_size e
  | set S n => obtain ⟨o, _, _, _, e, _⟩ := x; exact Heap.lt_size e
  | ins C dx fs => obtain ⟨_, _, _, e, _⟩ := x; exact Heap.lt_size e
  | own y => obtain ⟨_, e⟩ := x; exact Heap.lt_size e
  | xd fs => obtain ⟨_, ⟨_, _, _, e, _⟩, _⟩ := x; exact Heap.lt_size e
  | rng lo hi => obtain ⟨_, _, _, e⟩ := x; exact Heap.lt_size e
  | frz ob u => obtain ⟨e, _⟩ := x; exact Heap.lt_size e
  | tbl ps => exact Heap.lt_size (show h.get? a = some _ from x)
  | met f y => exact Heap.lt_size (show h.get? a = some _ from x)
  | ext φ => obtain ⟨_, ⟨_, e⟩, _⟩ := x; exact Heap.lt_size e
theorem Paired.mapP {α β : Type} {F G : α → β → Prop} : ∀ {l₁ : List α} {l₂ : List β}, Paired F l₁ l₂ → (∀ a b, F a b → G a b) → Paired G l₁ l₂
  | _, _, .nil, _ => .nil
  | _, _, .cons r t, f => .cons (f _ _ r) (Paired.mapP t f)
theorem ObjOk.stay (x : ObjOk P w H h a o) (k : ∀ b u, (b = a ∨ H b = some (.own a)) → h.get? b = some u → h'.get? b = some u)
    (ho : ∀ b, H b = some (.own a) → H' b = some (.own a)) (ht : ∀ b xs, H b = some (.tup xs) → H' b = some (.tup xs)) : ObjOk P w H' h' a o := by
  induction o with
  | lst xs => obtain ⟨z, its, n, r, e⟩ := x; exact ⟨z, its, n, r, k _ _ (.inl rfl) e⟩
  | tup xs => obtain ⟨z, its, r, ob, e, c⟩ := x; exact ⟨z, its, r, ob, k _ _ (.inl rfl) e, c⟩
  | dK kvs => obtain ⟨z, y, vs, r, ob, es, ep, e, c⟩ := x; exact ⟨z, y, vs, r, ob, es, ep, k _ _ (.inl rfl) e, c⟩
  | dT kvs =>
    obtain ⟨z, y, xs, r, ob, es, ep, e, c⟩ := x
    exact ⟨z, y, xs, Paired.mapP r fun p q z => ⟨z.1, ht _ _ z.2.1, z.2.2⟩, ob, es, ep, k _ _ (.inl rfl) e, c⟩
  | set S n => obtain ⟨ob, es, ep, t, e, c⟩ := x; exact ⟨ob, es, ep, t, k _ _ (.inl rfl) e, c⟩
  | ins C dx fs =>
    obtain ⟨d, z, ne, e, mA, ⟨od, es, ep, e2, c⟩, r⟩ := x
    exact ⟨ho _ d, z, ne, k _ _ (.inl rfl) e, mA, ⟨od, es, ep, k _ _ (.inr d) e2, c⟩, r⟩
  | own y => obtain ⟨ob, e⟩ := x; exact ⟨ob, k _ _ (.inl rfl) e⟩
  | xd fs => obtain ⟨mA, ⟨od, es, ep, e, c⟩, r⟩ := x; exact ⟨mA, ⟨od, es, ep, k _ _ (.inl rfl) e, c⟩, r⟩
  | rng lo hi => obtain ⟨t, u, v, e⟩ := x; exact ⟨t, u, v, k _ _ (.inl rfl) e⟩
  | frz ob u ih => obtain ⟨e, q⟩ := x; exact ⟨k _ _ (.inl rfl) e, ih q⟩
  | tbl ps =>
    have e : h.get? a = some { cls := .none, data := .fields ps } := x
    show h'.get? a = some { cls := .none, data := .fields ps }
    exact k a _ (.inl rfl) e
  | met f y =>
    have e : h.get? a = some (PySem.W.methodObj (.ref f) (.ref y)) := x
    show h'.get? a = some (PySem.W.methodObj (.ref f) (.ref y))
    exact k a _ (.inl rfl) e
  | ext φ => obtain ⟨p, ⟨o, e⟩, st⟩ := x; exact ⟨st _ _ p fun o q => k _ _ (.inl rfl) q, ⟨o, k _ _ (.inl rfl) e⟩, st⟩
theorem HOk.lt (x : HOk P w H h) (e : H a = some o) : a < h.objs.size := (x a o e).lt
theorem HOk.fresh (x : HOk P w H h) (e : h.objs.size ≤ a) : H a = none := by
  cases q : H a with
  | none => rfl
  | some u => exact absurd (Nat.lt_of_lt_of_le (x.lt q) e) (Nat.lt_irrefl _)
theorem HOk.kept (x : HOk P w H h) (k : ∀ b u, h.get? b = some u → h'.get? b = some u) : HOk P w H h' := fun a o e =>
  (x a o e).stay (fun b u _ q => k b u q) (fun _ q => q) fun _ _ q => q
theorem HOk.laid (x : HOk P w H h) (k : ∀ b u, h.get? b = some u → h'.get? b = some u) (hp : h.objs.size ≤ a) (new : ObjOk P w (upd H a o) h' a o) : HOk P w (upd H a o) h' := fun b u e => by
  have hn := x.fresh hp
  by_cases hb : b = a
  · subst hb; rw [upd_same] at e; cases e; exact new
  · rw [upd_ne hb] at e
    exact (x b u e).stay (fun c v _ q => k c v q) (fun c q => by rw [upd_ne (ne_of_none q hn)]; exact q) fun c xs q => by rw [upd_ne (ne_of_none q hn)]; exact q
end

def Rd (H : Hp) (a : Addr) (u : HO) : Prop := H a = some u ∨ ∃ o, H a = some (.frz o u)
theorem Rd.ok {P : Program} {w : World} {H : Hp} {h : Heap} {a : Addr} {u : HO} (r : Rd H a u) (x : HOk P w H h) : ObjOk P w H h a u := by
  rcases r with r | ⟨o, r⟩
  · exact x a u r
  · obtain ⟨_, q⟩ := x a _ r
    exact q
def Mut : Option HO → Prop
  | some (.lst _) => True
  | some (.dK _) => True
  | some (.dT _) => True
  | some (.set _ _) => True
  | some (.ins _ _ _) => True
  | some (.ext _) => True
  | _ => False
section
variable {P : Program} {w : World} {H : Hp} {h h' : Heap} {x e : Addr} {o' : HO}
theorem HOk.write (ok : HOk P w H h) (mu : Mut (H x)) (he : e = x ∨ H e = some (.own x)) (k : ∀ b u, b ≠ e → h.get? b = some u → h'.get? b = some u) (heo : ∃ u, h'.get? e = some u)
    (new : ObjOk P w (upd H x o') h' x o') : HOk P w (upd H x o') h' := fun b u q => by
  have nown : ∀ c y, H c = some (.own y) → c ≠ x := fun c y r z => by subst z; rw [r] at mu; exact mu
  have ntup : ∀ c xs, H c = some (.tup xs) → c ≠ x := fun c xs r z => by subst z; rw [r] at mu; exact mu
  by_cases hb : b = x
  · subst hb; rw [upd_same] at q; cases q; exact new
  · rw [upd_ne hb] at q
    by_cases hbe : b = e
    · have q' : H b = some (.own x) := by
        rcases he with z | z
        · exact absurd (hbe.trans z) hb
        · rw [hbe]; exact z
      rw [q] at q'; cases q'
      obtain ⟨v, hv⟩ := heo
      exact ⟨v, by rw [hbe]; exact hv⟩
    · refine (ok b u q).stay (fun c v hc r => k c v ?_ r) (fun c r => by rw [upd_ne (nown c b r)]; exact r) fun c xs r => by rw [upd_ne (ntup c xs r)]; exact r
      rcases hc with rfl | hc
      · exact hbe
      · rintro rfl
        rcases he with z | z
        · exact nown c b hc z
        · rw [hc] at z; cases z; exact hb rfl
end

structure Un (fs ex : List Addr) (H H' : Hp) (h h' : Heap) : Prop where
  keep : ∀ b o, h.get? b = some o → H b = none → b ∉ fs → b ∉ ex → h'.get? b = some o
  slot : ∀ b o, h.get? b = some o → H b = none → b ∈ fs → b ∉ ex → ∃ sl, h'.get? b = some { o with slots := sl }
  free : ∀ b o, h.get? b = some o → H b = none → b ∉ ex → H' b = none
  there : ∀ b o, h.get? b = some o → b ∉ ex → ∃ o', h'.get? b = some o'
  tups : ∀ b xs, H b = some (.tup xs) → H' b = some (.tup xs)
  frzs : ∀ b o u, H b = some (.frz o u) → H' b = some (.frz o u)
  tbls : ∀ b ps, H b = some (.tbl ps) → ∃ more, H' b = some (.tbl (ps ++ more))
section
variable {fs fs' ex ex' : List Addr} {H H1 H2 : Hp} {h h1 h2 h' : Heap} {a x e : Addr} {o : HO}
theorem Un.any (u : Un fs ex H H1 h h1) {b : Addr} {ob : Obj} (q : h.get? b = some ob) (n : H b = none) (hx : b ∉ ex) : ∃ sl, h1.get? b = some { ob with slots := sl } := by
  by_cases hb : b ∈ fs
  · exact u.slot b ob q n hb hx
  · exact ⟨ob.slots, u.keep b ob q n hb hx⟩
theorem Un.kept (k : ∀ b u, h.get? b = some u → h'.get? b = some u) : Un fs ex H H h h' :=
  ⟨fun b ob q _ _ _ => k b ob q, fun b ob q _ _ _ => ⟨ob.slots, k b ob q⟩, fun _ _ _ n _ => n, fun b ob q _ => ⟨ob, k b ob q⟩, fun _ _ q => q, fun _ _ _ q => q, fun _ ps q => ⟨#[], by rw [q]; simp⟩⟩
theorem Un.refl : Un fs ex H H h h := Un.kept fun _ _ q => q
theorem Un.laid (k : ∀ b u, h.get? b = some u → h'.get? b = some u) (hp : h.objs.size ≤ a) (hn : H a = none) : Un fs ex H (upd H a o) h h' where
  keep := fun b u q _ _ _ => k b u q
  slot := fun b u q _ _ _ => ⟨u.slots, k b u q⟩
  free := fun b u q n _ => by rw [upd_ne (Nat.ne_of_lt (Nat.lt_of_lt_of_le (Heap.lt_size q) hp))]; exact n
  there := fun b u q _ => ⟨u, k b u q⟩
  tups := fun b xs q => by rw [upd_ne (ne_of_none q hn)]; exact q
  frzs := fun b u xs q => by rw [upd_ne (ne_of_none q hn)]; exact q
  tbls := fun b ps q => ⟨#[], by rw [upd_ne (ne_of_none q hn), q]; simp⟩
theorem Un.write (mu : Mut (H x)) (he : e = x ∨ H e = some (.own x)) (k : ∀ b u, b ≠ e → h.get? b = some u → h'.get? b = some u) (heo : ∃ u, h'.get? e = some u) : Un fs ex H (upd H x o) h h' := by
  have hx : ∀ b, H b = none → b ≠ x := fun b n z => by subst z; rw [n] at mu; exact mu
  have hb : ∀ b, H b = none → b ≠ e := fun b n z => by
    subst z
    rcases he with r | r
    · exact hx b n r
    · rw [n] at r; cases r
  have hm : ∀ b u, H b = some u → ¬ Mut (some u) → b ≠ x := fun b u q nm z => by subst z; rw [q] at mu; exact nm mu
  refine ⟨fun b u q n _ _ => k b u (hb b n) q, fun b u q n _ _ => ⟨u.slots, k b u (hb b n) q⟩, fun b u q n _ => by rw [upd_ne (hx b n)]; exact n, fun b u q _ => ?_,
    fun b xs q => by rw [upd_ne (hm b _ q fun z => z)]; exact q, fun b u xs q => by rw [upd_ne (hm b _ q fun z => z)]; exact q, fun b ps q => ⟨#[], by rw [upd_ne (hm b _ q fun z => z), q]; simp⟩⟩
  by_cases hbe : b = e
  · subst hbe; exact heo
  · exact ⟨u, k b u hbe q⟩
end

def trk (h : Heap) (H : Hp) : List Addr := (List.range h.objs.size).filter fun a => (H a).isSome
def hidT (h : Heap) (H : Hp) : Heap := PySem.W.hideAll h (trk h H)
theorem hidT_size (h : Heap) (H : Hp) : (hidT h H).objs.size = h.objs.size := PySem.W.hideAll_size _ _
theorem hidT_get {h : Heap} {H : Hp} {b : Addr} {o : Obj} (e : h.get? b = some o) (n : H b = none) : (hidT h H).get? b = some o :=
  PySem.W.hideAll_get _ e fun hm => by
    have q : (H b).isSome = true := (List.mem_filter.mp hm).2
    rw [n] at q; simp at q
theorem of_hidT {h : Heap} {H : Hp} {b : Addr} {o : Obj} (e : (hidT h H).get? b = some o) : h.get? b = some o ∧ H b = none := by
  have e' : h.get? b = some o := PySem.W.of_hideAll (trk h H) e
  refine ⟨e', ?_⟩
  cases q : H b with
  | none => rfl
  | some x =>
    have hm : b ∈ trk h H := List.mem_filter.mpr ⟨List.mem_range.mpr (Heap.lt_size e'), by simp [q]⟩
    have z : (hidT h H).get? b = none := PySem.W.hideAll_none (trk h H) hm
    rw [z] at e; cases e

end L2

namespace L2
open PySem PySem.Spec PyProof.Rows

structure Mod (K : PySem.W.Frag) (mg : Str → Option Value) (base : Heap) : Prop where
  kin : K.In base
  glob : base.Ns mainGlobals mg
  blt : ∃ mb, base.Ns builtinsNs mb ∧ ∀ x : Str, x ≠ "__name__" → mb x = bootBuiltins x
  nolimit : base.NoLimit

structure Cx where
  prog : Program
  w : World
  K : PySem.W.Frag
  mg : Str → Option Value
  base : Heap
  A : Around
  N : List Str
  s₀ : Shared
  H₀ : Hp
  env : Env
  outer : List Env
  stack : List Env
  ex : List Addr
  fn : Str → Bool
  calm : Bool
  pn : List (Addr × Obj)
  xe : Value → Shared → Prop
def frs (l : List Env) : List Addr := l.filterMap (·.frame)
abbrev Cx.fs (X : Cx) : List Addr := frs X.outer

def Vis (sc : Scope) (x : Str) : Prop := sc.names.lookup x = some .local ∨ sc.names.lookup x = some .cell ∨ sc.names.lookup x = some .free
def Loc (sc : Scope) (x : Str) : Prop := sc.names.lookup x = some .local ∨ sc.names.lookup x = some .cell
def Look (env : Env) (h : Heap) (m : Str → Option Value) (x : Str) (u : Value) : Prop :=
  (env.kindOf x = some .local ∧ m x = some u) ∨ ((env.kindOf x = some .cell ∨ env.kindOf x = some .free) ∧ ∃ c, env.cells.lookup x = some c ∧ h.IsCell c (some u))

structure Cx.Ok (X : Cx) : Prop where
  mod : Mod X.K X.mg X.base
  kind : X.env.scope.kind = .function
  glob : X.env.globals = mainGlobals
  blt : X.env.builtins = builtinsNs
  above : X.s₀.heap.objs.size ≤ X.env.locals
  inj : ∀ x y c, X.env.cells.lookup x = some c → X.env.cells.lookup y = some c → x = y
  has : ∀ x, (X.env.kindOf x = some .cell ∨ X.env.kindOf x = some .free) → ∃ c, X.env.cells.lookup x = some c
  cab : ∀ x c, X.fn x = true → X.env.cells.lookup x = some c → X.s₀.heap.objs.size ≤ c
  hd : X.calm = true → X.A.handled = none
  frames : X.A.frames = some X.stack
  stk : X.stack = X.outer ∨ (X.stack = X.env :: X.outer ∧ X.env.frame = some X.env.locals)
  exf : ∀ b ∈ X.ex, b ≠ X.env.locals ∧ ∀ x c, X.env.cells.lookup x = some c → c ≠ b
  bs : ∀ b o, X.base.get? b = some o → X.s₀.heap.get? b = some o ∧ X.H₀ b = none
  bsz : X.base.objs.size ≤ X.s₀.heap.objs.size
  noex : ∀ b o, X.base.get? b = some o → b ∉ X.ex
  exfs : ∀ b ∈ X.ex, b ∉ X.fs
  funs : X.s₀.heap.FunFrames X.base X.outer
  frf : ∀ b ∈ X.fs, X.H₀ b = none

structure Inv (X : Cx) (pins : List (Addr × Obj)) (σ : List (Option V)) (H : Hp) (s : Shared) : Prop where
  ok : X.Ok
  os : s.os = X.s₀.os
  bare : AllBare s.gens
  base : Un X.fs X.ex X.H₀ H X.s₀.heap s.heap
  loc : ∃ m, s.heap.Ns X.env.locals m ∧ ∀ (i : Nat) (x : Str) (v : V), X.N[i]? = some x → σ[i]? = some (some v) → Vis X.env.scope x → ∃ u, RelV v u ∧ Look X.env s.heap m x u
  cell : ∀ x c, X.env.cells.lookup x = some c → ∃ v, s.heap.IsCell c v
  free : H X.env.locals = none
  freeC : ∀ x c, X.env.cells.lookup x = some c → H c = none
  pin : ∀ p ∈ X.pn ++ pins, s.heap.get? p.1 = some p.2 ∧ H p.1 = none ∧ p.1 ≠ X.env.locals ∧ p.1 ∉ X.fs ∧ ∀ v, p.2.data ≠ .cell v
  hok : HOk X.prog X.w H s.heap
  len : σ.length = X.N.length

section
variable {X : Cx} {pins : List (Addr × Obj)} {σ : List (Option V)} {H H' : Hp} {s : Shared} {h' : Heap}

theorem Cx.Ok.nofr (ok : X.Ok) {b : Addr} {o : Obj} (e : X.base.get? b = some o) : b ∉ X.fs := fun hb => by
  have := (ok.funs.mem hb).1
  rw [e] at this; cases this
theorem Inv.bs (I : Inv X pins σ H s) : ∀ b o, X.base.get? b = some o → s.heap.get? b = some o ∧ H b = none := fun b o e =>
  ⟨I.base.keep b o (I.ok.bs b o e).1 (I.ok.bs b o e).2 (I.ok.nofr e) (I.ok.noex b o e), I.base.free b o (I.ok.bs b o e).1 (I.ok.bs b o e).2 (I.ok.noex b o e)⟩
theorem Inv.bk (I : Inv X pins σ H s) : ∀ b o, X.base.get? b = some o → s.heap.get? b = some o := fun b o e => (I.bs b o e).1
theorem Inv.mod (I : Inv X pins σ H s) : Mod X.K X.mg X.base := I.ok.mod
theorem Inv.kIn (I : Inv X pins σ H s) : X.K.In s.heap := I.ok.mod.kin.keeps I.bk
theorem Inv.lt (I : Inv X pins σ H s) : X.env.locals < s.heap.objs.size := let ⟨_, hn, _⟩ := I.loc; hn.lt
theorem Inv.sz (I : Inv X pins σ H s) : X.s₀.heap.objs.size ≤ s.heap.objs.size := Nat.le_trans I.ok.above (Nat.le_of_lt I.lt)
theorem Inv.nofs (I : Inv X pins σ H s) {a : Addr} (h : s.heap.objs.size ≤ a) : a ∉ X.fs := fun hb => by
  obtain ⟨_, o, ho, _⟩ := I.ok.funs.mem hb
  exact absurd (Nat.lt_of_lt_of_le (Heap.lt_size ho) (Nat.le_trans I.sz h)) (Nat.lt_irrefl _)
theorem Inv.cne (I : Inv X pins σ H s) : ∀ x c, X.env.cells.lookup x = some c → c ≠ X.env.locals := fun x c e z => by
  obtain ⟨v, o, ho, hd⟩ := I.cell x c e
  obtain ⟨m, ⟨o', es, ep, ho', hd', _⟩, _⟩ := I.loc
  rw [z, ho'] at ho; cases ho; rw [hd'] at hd; cases hd
theorem Inv.funs (I : Inv X pins σ H s) : s.heap.FunFrames X.base X.outer := by
  have all : ∀ (l : List Env), (∀ b ∈ frs l, b ∈ X.fs) → X.s₀.heap.FunFrames X.base l → s.heap.FunFrames X.base l := by
    intro l
    induction l with
    | nil => intro _ _; trivial
    | cons env r ih =>
      intro hs hl
      obtain ⟨hk, ⟨L, o, hf, hn, ho, hd⟩, hr⟩ := hl
      have hL : L ∈ X.fs := hs L (by unfold frs; rw [List.filterMap_cons, hf]; exact List.mem_cons_self)
      obtain ⟨sl, e⟩ := I.base.slot L o ho (I.ok.frf L hL) hL fun z => I.ok.exfs L z hL
      exact ⟨hk, ⟨L, _, hf, hn, e, hd⟩, ih (fun b hb => hs b (by unfold frs; rw [List.filterMap_cons, hf]; exact List.mem_cons_of_mem _ hb)) hr⟩
  exact all X.outer (fun _ hb => hb) I.ok.funs

theorem Inv.stack (I : Inv X pins σ H s) : s.heap.FunFrames X.base X.stack := by
  rcases I.ok.stk with e | ⟨e, hf⟩
  · rw [e]; exact I.funs
  · rw [e]
    obtain ⟨m, hn, _⟩ := I.loc
    refine .cons (by rw [I.ok.kind]; decide) hf hn ?_ I.funs
    exact Heap.get?_none_of_le (Nat.le_trans I.ok.bsz I.ok.above)
theorem Inv.stkSub (I : Inv X pins σ H s) : ∀ b ∈ frs X.stack, b ∈ X.env.locals :: X.fs := fun b hb => by
  rcases I.ok.stk with e | ⟨e, hf⟩
  · rw [e] at hb; exact List.mem_cons_of_mem _ hb
  · rw [e] at hb
    unfold frs at hb
    rw [List.filterMap_cons, hf] at hb
    exact hb
theorem Inv.stkFree (I : Inv X pins σ H s) : ∀ b ∈ frs X.stack, H b = none := fun b hb => by
  rcases List.mem_cons.mp (I.stkSub b hb) with e | hb
  · rw [e]; exact I.free
  · obtain ⟨_, o, ho, _⟩ := I.ok.funs.mem hb
    exact I.base.free b o ho (I.ok.frf b hb) fun z => I.ok.exfs b z hb

theorem Inv.step {g' : Array GenState} {t' : Nat} {d' : Drawn} {ch : List Addr} (I : Inv X pins σ H s)
    (hch : ∀ b ∈ ch, (b ∈ X.ex ∨ X.s₀.heap.objs.size ≤ b) ∧ b ≠ X.env.locals ∧ (∀ x c, X.env.cells.lookup x = some c → c ≠ b) ∧ ∀ p ∈ X.pn ++ pins, p.1 ≠ b)
    (keep : ∀ b o, b ≠ X.env.locals → b ∉ X.fs → b ∉ ch → s.heap.get? b = some o → H b = none → h'.get? b = some o)
    (slot : ∀ b o, b ≠ X.env.locals → b ∈ X.fs → b ∉ ch → s.heap.get? b = some o → H b = none → ∃ sl, h'.get? b = some { o with slots := sl }) (free : ∀ b o, b ∉ ch → s.heap.get? b = some o → H b = none → H' b = none)
    (there : ∀ b o, b ∉ ch → s.heap.get? b = some o → ∃ o', h'.get? b = some o')
    (tups : ∀ b xs, H b = some (.tup xs) → H' b = some (.tup xs)) (frzs : ∀ b o u, H b = some (.frz o u) → H' b = some (.frz o u)) (tbls : ∀ b ps, H b = some (.tbl ps) → ∃ more, H' b = some (.tbl (ps ++ more)))
    (ns : ∀ m, s.heap.Ns X.env.locals m → h'.Ns X.env.locals m) (hok : HOk X.prog X.w H' h') (hg : AllBare g') :
    Inv X pins σ H' { s with heap := h', gens := g', drawn := d', toks := t' } := by
  have neL : ∀ b o, X.s₀.heap.get? b = some o → b ≠ X.env.locals := fun b o e => Nat.ne_of_lt (Nat.lt_of_lt_of_le (Heap.lt_size e) I.ok.above)
  have neC : ∀ b o, X.s₀.heap.get? b = some o → b ∉ X.ex → b ∉ ch := fun b o e hx hb => by
    rcases (hch b hb).1 with z | z
    · exact hx z
    · exact absurd (Nat.lt_of_lt_of_le (Heap.lt_size e) z) (Nat.lt_irrefl _)
  have cellK : ∀ x c, X.env.cells.lookup x = some c → ∀ v, s.heap.IsCell c v → h'.IsCell c v := fun x c e v ⟨o, ho, hd⟩ => by
    have nch : c ∉ ch := fun z => (hch c z).2.2.1 x c e rfl
    by_cases hc : c ∈ X.fs
    · obtain ⟨sl, q⟩ := slot c o (I.cne x c e) hc nch ho (I.freeC x c e)
      exact ⟨_, q, hd⟩
    · exact ⟨o, keep c o (I.cne x c e) hc nch ho (I.freeC x c e), hd⟩
  refine ⟨I.ok, I.os, hg, ⟨fun b o e n hb hx => ?_, fun b o e n hb hx => ?_, fun b o e n hx => ?_, fun b o e hx => ?_, fun b xs e => tups b xs (I.base.tups b xs e), fun b o xs e => frzs b o xs (I.base.frzs b o xs e), fun b ps e => ?_⟩, ?_, fun x c e => ?_, ?_, fun x c e => ?_, fun p hp => ?_, hok, I.len⟩
  · exact keep b o (neL b o e) hb (neC b o e hx) (I.base.keep b o e n hb hx) (I.base.free b o e n hx)
  · obtain ⟨sl, e1⟩ := I.base.slot b o e n hb hx
    obtain ⟨sl', e2⟩ := slot b _ (neL b o e) hb (neC b o e hx) e1 (I.base.free b o e n hx)
    exact ⟨sl', e2⟩
  · obtain ⟨o', e1⟩ := I.base.there b o e hx
    exact free b o' (neC b o e hx) e1 (I.base.free b o e n hx)
  · obtain ⟨o', e1⟩ := I.base.there b o e hx
    exact there b o' (neC b o e hx) e1
  · obtain ⟨m1, e1⟩ := I.base.tbls b ps e
    obtain ⟨m2, e2⟩ := tbls b _ e1
    exact ⟨m1 ++ m2, by rw [e2, Array.append_assoc]⟩
  · obtain ⟨m, hn, hl⟩ := I.loc
    refine ⟨m, ns m hn, fun i x v e1 e2 e3 => ?_⟩
    obtain ⟨u, r, l⟩ := hl i x v e1 e2 e3
    refine ⟨u, r, ?_⟩
    rcases l with l | ⟨k, c, e, z⟩
    · exact .inl l
    · exact .inr ⟨k, c, e, cellK x c e _ z⟩
  · obtain ⟨v, z⟩ := I.cell x c e
    exact ⟨v, cellK x c e v z⟩
  · obtain ⟨m, ⟨o, _, _, ho, _⟩, _⟩ := I.loc
    exact free _ o (fun z => (hch _ z).2.1 rfl) ho I.free
  · obtain ⟨v, o, ho, hd⟩ := I.cell x c e
    exact free c o (fun z => (hch c z).2.2.1 x c e rfl) ho (I.freeC x c e)
  · obtain ⟨e, n, ne, nf, d⟩ := I.pin p hp
    have nch : p.1 ∉ ch := fun z => (hch p.1 z).2.2.2 p hp rfl
    exact ⟨keep p.1 p.2 ne nf nch e n, free p.1 p.2 nch e n, ne, nf, d⟩
theorem Inv.un {t' : Nat} (I : Inv X pins σ H s) (u : Un X.fs [] H H' s.heap h') (hok : HOk X.prog X.w H' h') : Inv X pins σ H' { s with heap := h', toks := t' } := by
  obtain ⟨m, ⟨o, es, ep, ho, r⟩, _⟩ := id I.loc
  obtain ⟨sl, hL⟩ := u.any ho I.free (by simp)
  exact I.step (g' := s.gens) (d' := s.drawn) (ch := []) (fun _ z => nomatch z) (fun b o _ hb _ e n => u.keep b o e n hb (by simp)) (fun b o _ hb _ e n => u.slot b o e n hb (by simp)) (fun b o _ e n => u.free b o e n (by simp)) (fun b o _ e => u.there b o e (by simp)) u.tups u.frzs u.tbls (fun m' hm => by
    obtain ⟨o', es', ep', ho', r'⟩ := hm
    rw [ho] at ho'; cases ho'
    exact ⟨_, es', ep', hL, r'⟩) hok I.bare
theorem Inv.call {g' : Array GenState} {t' : Nat} {d' : Drawn} {ch : List Addr} (I : Inv X pins σ H s) (u : Un (frs X.stack) ch H H' s.heap h') (hok : HOk X.prog X.w H' h') (hg : AllBare g')
    (hch : ∀ b ∈ ch, (b ∈ X.ex ∨ X.s₀.heap.objs.size ≤ b) ∧ b ≠ X.env.locals ∧ (∀ x c, X.env.cells.lookup x = some c → c ≠ b) ∧ ∀ p ∈ X.pn ++ pins, p.1 ≠ b) :
    Inv X pins σ H' { s with heap := h', gens := g', drawn := d', toks := t' } := by
  obtain ⟨m, ⟨o, es, ep, ho, r⟩, _⟩ := id I.loc
  obtain ⟨sl, hL⟩ := u.any ho I.free fun z => (hch _ z).2.1 rfl
  exact I.step (ch := ch) hch (fun b o hL hb hc e n => u.keep b o e n (fun z => (List.mem_cons.mp (I.stkSub b z)).elim hL hb) hc) (fun b o _ _ hc e n => u.any e n hc) (fun b o hc e n => u.free b o e n hc) (fun b o hc e => u.there b o e hc) u.tups u.frzs u.tbls (fun m' hm => by
    obtain ⟨o', es', ep', ho', r'⟩ := hm
    rw [ho] at ho'; cases ho'
    exact ⟨_, es', ep', hL, r'⟩) hok hg
theorem Inv.turned {t' : Nat} {it : Addr} (I : Inv X pins σ H s) (k : ∀ b o, b ≠ it → s.heap.get? b = some o → h'.get? b = some o) (hn : H it = none) (hL : it ≠ X.env.locals)
    (h1 : it ∈ X.ex ∨ X.s₀.heap.objs.size ≤ it) (h2 : ∀ x c, X.env.cells.lookup x = some c → c ≠ it) (h3 : ∀ p ∈ X.pn ++ pins, p.1 ≠ it) : Inv X pins σ H { s with heap := h', toks := t' } := by
  have nit : ∀ b u, H b = some u → b ≠ it := fun b u e z => by rw [z, hn] at e; cases e
  refine I.step (g' := s.gens) (d' := s.drawn) (ch := [it]) (fun b hb => ?_) (fun b o _ _ hc e _ => k b o (fun z => hc (by simp [z])) e) (fun b o _ _ hc e _ => ⟨o.slots, k b o (fun z => hc (by simp [z])) e⟩) (fun _ _ _ _ n => n)
    (fun b o hc e => ⟨o, k b o (fun z => hc (by simp [z])) e⟩) (fun _ _ e => e) (fun _ _ _ e => e) (fun b ps e => ⟨#[], by rw [e]; simp⟩) (fun m hm => ?_) (fun b u e => ?_) I.bare
  · have e : b = it := by simpa using hb
    subst e
    exact ⟨h1, hL, h2, h3⟩
  · obtain ⟨o, es, ep, ho, r⟩ := hm
    exact ⟨o, es, ep, k _ o (Ne.symm hL) ho, r⟩
  · refine (I.hok b u e).stay (fun c v hc q => k c v ?_ q) (fun _ q => q) fun _ _ q => q
    rcases hc with z | z
    · rw [z]; exact nit b u e
    · exact nit c _ z
theorem Inv.tok (I : Inv X pins σ H s) (t : Nat) : Inv X pins σ H { s with toks := t } := I.un (h' := s.heap) (t' := t) Un.refl I.hok
theorem Inv.kept {t' : Nat} (I : Inv X pins σ H s) (k : ∀ b u, s.heap.get? b = some u → h'.get? b = some u) : Inv X pins σ H { s with heap := h', toks := t' } := I.un (Un.kept k) (I.hok.kept k)
theorem Inv.laid {a : Addr} {o : HO} {t' : Nat} (I : Inv X pins σ H s) (k : ∀ b u, s.heap.get? b = some u → h'.get? b = some u) (hp : s.heap.objs.size ≤ a) (new : ObjOk X.prog X.w (upd H a o) h' a o) :
    Inv X pins σ (upd H a o) { s with heap := h', toks := t' } := I.un (Un.laid k hp (I.hok.fresh hp)) (I.hok.laid k hp new)
theorem Inv.write {x e : Addr} {o : HO} {t' : Nat} (I : Inv X pins σ H s) (mu : Mut (H x)) (he : e = x ∨ H e = some (.own x)) (k : ∀ b u, b ≠ e → s.heap.get? b = some u → h'.get? b = some u) (heo : ∃ u, h'.get? e = some u)
    (new : ObjOk X.prog X.w (upd H x o) h' x o) : Inv X pins σ (upd H x o) { s with heap := h', toks := t' } := I.un (Un.write mu he k heo) (I.hok.write mu he k heo new)
theorem Inv.pins_of {pins' : List (Addr × Obj)} (I : Inv X pins σ H s) (h : ∀ p ∈ pins', s.heap.get? p.1 = some p.2 ∧ H p.1 = none ∧ p.1 ≠ X.env.locals ∧ p.1 ∉ X.fs ∧ ∀ v, p.2.data ≠ .cell v) : Inv X pins' σ H s :=
  ⟨I.ok, I.os, I.bare, I.base, I.loc, I.cell, I.free, I.freeC, fun p hp => (List.mem_append.mp hp).elim (fun z => I.pin p (List.mem_append_left _ z)) (h p), I.hok, I.len⟩

theorem nodup_ix {N : List Str} (hN : N.Nodup) {i j : Nat} {x : Str} (a : N[i]? = some x) (b : N[j]? = some x) : i = j := by
  obtain ⟨h1, e1⟩ := List.getElem?_eq_some_iff.mp a
  obtain ⟨h2, e2⟩ := List.getElem?_eq_some_iff.mp b
  exact (List.getElem_inj hN).mp (e1.trans e2.symm)

theorem store_ok2 {M : Model} {A : Around} {E : Value → Shared → Prop} {i : Nat} {x : Str} {v : V} {u : Value} {Q : Unit → Shared → Prop} (I : Inv X pins σ H s) (hN : X.N.Nodup) (hi : X.N[i]? = some x) (hx : Loc X.env.scope x) (r : RelV v u)
    (h : ∀ s', Inv X pins (σ.set i (some v)) H s' → (∃ a, Heap.SameBut a s.heap s'.heap ∧ (a = X.env.locals ∨ X.env.cells.lookup x = some a)) → Q () s') (hf : X.fn x = true ∨ X.env.scope.names.lookup x = some .local := by first | exact .inl rfl | exact .inr rfl | assumption) : wpAny M A (storeName X.env x u) Q E s := by
  obtain ⟨m, hn, hl⟩ := id I.loc
  have hcls : (X.env.scope.kind == .class || (X.env.scope.kind == .module && X.env.locals != X.env.globals)) = false := by rw [I.ok.kind]; rfl
  have hiσ : i < σ.length := by rw [I.len]; exact (List.getElem?_eq_some_iff.mp hi).1
  have cne := I.cne
  have tracked : ∀ {a : Addr} {h' : Heap}, (∃ o, s.heap.get? a = some o ∧ H a = none) → Heap.SameBut a s.heap h' → HOk X.prog X.w H h' := fun {a h'} ha hs b ob e => by
    obtain ⟨_, _, hfree⟩ := ha
    refine (I.hok b ob e).stay (fun c w' hc q => (hs.2 c ?_).trans q) (fun _ q => q) fun _ _ q => q
    rintro rfl
    rcases hc with rfl | hc
    · rw [hfree] at e; cases e
    · rw [hfree] at hc; cases hc
  rcases hx with hk | hk
  · refine wpAny_storeName_local hk hn (fun h' hn' hs => ?_) hcls
    obtain ⟨oL, _, _, hoL, _⟩ := id hn
    refine h _ ⟨I.ok, I.os, I.bare, ⟨fun b o e n hb hx => ?_, fun b o e n hb hx => ?_, I.base.free, fun b o e hx => ?_, I.base.tups, I.base.frzs, I.base.tbls⟩, ⟨_, hn', fun j y v' e1 e2 e3 => ?_⟩, fun y c e => ?_, I.free, I.freeC, fun p hp => ?_, tracked ⟨oL, hoL, I.free⟩ hs, by simpa using I.len⟩ ⟨_, hs, .inl rfl⟩
    · exact (hs.2 b (Nat.ne_of_lt (Nat.lt_of_lt_of_le (Heap.lt_size e) I.ok.above))).trans (I.base.keep b o e n hb hx)
    · obtain ⟨sl, e1⟩ := I.base.slot b o e n hb hx
      exact ⟨sl, (hs.2 b (Nat.ne_of_lt (Nat.lt_of_lt_of_le (Heap.lt_size e) I.ok.above))).trans e1⟩
    · obtain ⟨o', e1⟩ := I.base.there b o e hx
      exact ⟨o', (hs.2 b (Nat.ne_of_lt (Nat.lt_of_lt_of_le (Heap.lt_size e) I.ok.above))).trans e1⟩
    · by_cases hj : j = i
      · subst hj
        rw [hi] at e1; cases e1
        rw [List.getElem?_set_self hiσ] at e2
        cases e2
        exact ⟨u, r, .inl ⟨hk, by simp⟩⟩
      · rw [List.getElem?_set_ne (Ne.symm hj)] at e2
        obtain ⟨u', r', q⟩ := hl j y v' e1 e2 e3
        refine ⟨u', r', ?_⟩
        rcases q with ⟨k, e⟩ | ⟨k, c, e, z⟩
        · refine .inl ⟨k, ?_⟩
          have : y ≠ x := fun e => hj (nodup_ix hN e1 (e ▸ hi))
          simp [this, e]
        · exact .inr ⟨k, c, e, z.sameBut hs (cne y c e)⟩
    · obtain ⟨w', z⟩ := I.cell y c e
      exact ⟨w', z.sameBut hs (cne y c e)⟩
    · obtain ⟨e, n, ne, nf, d⟩ := I.pin p hp
      exact ⟨(hs.2 p.1 ne).trans e, n, ne, nf, d⟩
  · have hfn : X.fn x = true := by
      rcases hf with z | z
      · exact z
      · rw [z] at hk; cases hk
    obtain ⟨c, hc⟩ := I.ok.has x (.inl hk)
    obtain ⟨w', z⟩ := I.cell x c hc
    refine wpAny_storeName_cell I.ok.kind hk hc z (fun h' hc' hs => ?_)
    obtain ⟨oc, hoc, hocd⟩ := id z
    refine h { s with heap := h' } ⟨I.ok, I.os, I.bare, ⟨fun b o e n hb hx => ?_, fun b o e n hb hx => ?_, I.base.free, fun b o e hx => ?_, I.base.tups, I.base.frzs, I.base.tbls⟩, ⟨m, hn.sameBut hs (Ne.symm (cne x c hc)), fun j y v' e1 e2 e3 => ?_⟩, fun y c' e => ?_, I.free, I.freeC, fun p hp => ?_, tracked ⟨oc, hoc, I.freeC x c hc⟩ hs, by simpa using I.len⟩ ⟨c, hs, .inr hc⟩
    · exact (hs.2 b (Nat.ne_of_lt (Nat.lt_of_lt_of_le (Heap.lt_size e) (I.ok.cab x c hfn hc)))).trans (I.base.keep b o e n hb hx)
    · obtain ⟨sl, e1⟩ := I.base.slot b o e n hb hx
      exact ⟨sl, (hs.2 b (Nat.ne_of_lt (Nat.lt_of_lt_of_le (Heap.lt_size e) (I.ok.cab x c hfn hc)))).trans e1⟩
    · obtain ⟨o', e1⟩ := I.base.there b o e hx
      exact ⟨o', (hs.2 b (Nat.ne_of_lt (Nat.lt_of_lt_of_le (Heap.lt_size e) (I.ok.cab x c hfn hc)))).trans e1⟩
    · by_cases hj : j = i
      · subst hj
        rw [hi] at e1; cases e1
        rw [List.getElem?_set_self hiσ] at e2
        cases e2
        exact ⟨u, r, .inr ⟨.inl hk, c, hc, hc'⟩⟩
      · rw [List.getElem?_set_ne (Ne.symm hj)] at e2
        obtain ⟨u', r', q⟩ := hl j y v' e1 e2 e3
        refine ⟨u', r', ?_⟩
        rcases q with q | ⟨k, c', e, z'⟩
        · exact .inl q
        · refine .inr ⟨k, c', e, z'.sameBut hs ?_⟩
          rintro rfl
          exact hj (nodup_ix hN e1 (I.ok.inj _ _ _ e hc ▸ hi))
    · by_cases hcc : c' = c
      · subst hcc; exact ⟨_, hc'⟩
      · obtain ⟨w2, z2⟩ := I.cell y c' e
        exact ⟨w2, z2.sameBut hs hcc⟩
    · obtain ⟨e, n, ne, nf, d⟩ := I.pin p hp
      refine ⟨(hs.2 p.1 ?_).trans e, n, ne, nf, d⟩
      intro q
      rw [q, hoc] at e
      have q' : oc = p.2 := Option.some.inj e
      exact d w' (by rw [← q']; exact hocd)
theorem store_ok {M : Model} {A : Around} {E : Value → Shared → Prop} {i : Nat} {x : Str} {v : V} {u : Value} {Q : Unit → Shared → Prop} (I : Inv X pins σ H s) (hN : X.N.Nodup) (hi : X.N[i]? = some x) (hx : Loc X.env.scope x) (r : RelV v u)
    (h : ∀ s', Inv X pins (σ.set i (some v)) H s' → Q () s') (hf : X.fn x = true ∨ X.env.scope.names.lookup x = some .local := by first | exact .inl rfl | exact .inr rfl | assumption) : wpAny M A (storeName X.env x u) Q E s :=
  store_ok2 I hN hi hx r (fun s' I' _ => h s' I') hf
theorem Inv.call' {s' : Shared} {ch : List Addr} (I : Inv X pins σ H s) (ho : s'.os = s.os) (u : Un (frs X.stack) ch H H' s.heap s'.heap) (hok : HOk X.prog X.w H' s'.heap) (hg : AllBare s'.gens)
    (hch : ∀ b ∈ ch, (b ∈ X.ex ∨ X.s₀.heap.objs.size ≤ b) ∧ b ≠ X.env.locals ∧ (∀ x c, X.env.cells.lookup x = some c → c ≠ b) ∧ ∀ p ∈ X.pn ++ pins, p.1 ≠ b) : Inv X pins σ H' s' := by
  obtain ⟨h', g', d', t', o'⟩ := s'
  have e : o' = s.os := ho
  subst e
  exact I.call (g' := g') (t' := t') (d' := d') u hok hg hch
end

abbrev XK := Value → Option Addr → Hp → Prop
abbrev St := List (Option V)
abbrev VK := V → Hp → Prop
abbrev TE := St → Hp → VK → Prop
abbrev TT := St → Hp → (Bool → Hp → Prop) → Prop
abbrev TA := St → Hp → (List V → Hp → Prop) → Prop
structure Ends where
  nx : St → Hp → Prop
  rt : VK
  bk : St → Hp → Prop := fun _ _ => False
  ct : St → Hp → Prop := fun _ _ => False
abbrev TS := Ends → St → Hp → Prop

def EP (X : Cx) (pins : List (Addr × Obj)) (σ : St) (Q : VK) (u : Value) (s' : Shared) : Prop := ∃ v H', Inv X pins σ H' s' ∧ RelV v u ∧ Q v H'
def TP (X : Cx) (pins : List (Addr × Obj)) (σ : St) (Q : Bool → Hp → Prop) (b : Bool) (s' : Shared) : Prop := ∃ H', Inv X pins σ H' s' ∧ Q b H'
def AP (X : Cx) (pins : List (Addr × Obj)) (σ : St) (Q : List V → Hp → Prop) (us : List Value) (s' : Shared) : Prop := ∃ vs H', Inv X pins σ H' s' ∧ Vals vs us ∧ Q vs H'
def SP (X : Cx) (pins : List (Addr × Obj)) (D : Ends) (f : Flow) (s' : Shared) : Prop :=
  match f with
  | .next => ∃ σ' H', Inv X pins σ' H' s' ∧ D.nx σ' H'
  | .brk => ∃ σ' H', Inv X pins σ' H' s' ∧ D.bk σ' H'
  | .cont => ∃ σ' H', Inv X pins σ' H' s' ∧ D.ct σ' H'
  | .ret u => ∃ v σ' H', Inv X pins σ' H' s' ∧ RelV v u ∧ D.rt v H'

def PE (X : Cx) (e : Expr) (t : TE) : Prop :=
  ∀ (pins : List (Addr × Obj)) (s : Shared) (σ : St) (H : Hp) (Q : VK), Inv X pins σ H s → t σ H Q → wpAny (model X.prog X.w) X.A (eval e X.env) (EP X pins σ Q) X.xe s
def PT (X : Cx) (e : Expr) (t : TT) : Prop :=
  ∀ (pins : List (Addr × Obj)) (s : Shared) (σ : St) (H : Hp) (Q : Bool → Hp → Prop), Inv X pins σ H s → t σ H Q → wpAny (model X.prog X.w) X.A (isTrue e X.env (eval e X.env)) (TP X pins σ Q) X.xe s
def PW (X : Cx) (e : Expr) (t : TT) : Prop :=
  ∀ (whole : Sem Value) (pins : List (Addr × Obj)) (s : Shared) (σ : St) (H : Hp) (Q : Bool → Hp → Prop), Inv X pins σ H s → t σ H Q → wpAny (model X.prog X.w) X.A (isTrue e X.env whole) (TP X pins σ Q) X.xe s
theorem PW.pt {X : Cx} {e : Expr} {t : TT} (h : PW X e t) : PT X e t := h _
def PA (X : Cx) (es : List Expr) (t : TA) : Prop :=
  ∀ (pos : Pos) (pins : List (Addr × Obj)) (s : Shared) (σ : St) (H : Hp) (Q : List V → Hp → Prop), Inv X pins σ H s → t σ H Q → wpAny (model X.prog X.w) X.A (spliced (backTo pos (starEach es X.env))) (AP X pins σ Q) X.xe s
def PS (X : Cx) (st : Stmt) (t : TS) : Prop :=
  ∀ (pins : List (Addr × Obj)) (s : Shared) (σ : St) (H : Hp) (D : Ends), Inv X pins σ H s → t D σ H → wpAny (model X.prog X.w) X.A (exec st X.env) (SP X pins D) X.xe s
def PSs (X : Cx) (st : List Stmt) (t : TS) : Prop :=
  ∀ (pins : List (Addr × Obj)) (s : Shared) (σ : St) (H : Hp) (D : Ends), Inv X pins σ H s → t D σ H → wpAny (model X.prog X.w) X.A (execs st X.env) (SP X pins D) X.xe s
theorem thn {α : Type} {t : Sem α} {Q Q' : α → Shared → Prop} {M : Model} {A : Around} {E : Value → Shared → Prop} {s : Shared} (h : wpAny M A t Q E s) (hQ : ∀ a s, Q a s → Q' a s) : wpAny M A t Q' E s := wpAny_mono h hQ fun _ _ x => x
end L2

namespace L2
open PySem PySem.Spec PyProof.Rows
section
variable {X : Cx}

theorem bin {a b : Expr} {ta tb : TE} (ha : PE X a ta) (hb : PE X b tb) {pins : List (Addr × Obj)} {s : Shared} {σ : St} {H : Hp} {R : V → V → Hp → Prop} (I : Inv X pins σ H s) (h : ta σ H fun x H1 => tb σ H1 fun y H2 => R x y H2)
    {α : Type} {Q : α → Shared → Prop} {f : Value → Value → Sem α}
    (hf : ∀ v u s2 x y H2, Inv X pins σ H2 s2 → RelV x v → RelV y u → R x y H2 → wpAny (model X.prog X.w) X.A (f v u) Q X.xe s2) :
    wpAny (model X.prog X.w) X.A (eval a X.env) (fun v s₁ => wpAny (model X.prog X.w) X.A (eval b X.env) (fun u s₂ => wpAny (model X.prog X.w) X.A (f v u) Q X.xe s₂) X.xe s₁) X.xe s := by
  refine thn (ha pins s σ H _ I h) fun v s1 ⟨x, H1, I1, r1, q1⟩ => ?_
  refine thn (hb pins s1 σ H1 _ I1 q1) fun u s2 ⟨y, H2, I2, r2, q2⟩ => ?_
  exact hf v u s2 x y H2 I2 r1 r2 q2

def tVar (i : Nat) : TE := fun σ H Q => ∃ v, σ[i]? = some (some v) ∧ Q v H
def tC (v : V) : TE := fun _ H Q => Q v H
theorem pe_var {i : Nat} {x : Str} {pos : Pos} (hN : X.N[i]? = some x) (hv : Vis X.env.scope x) (hd : (x == ("__debug__" : Str)) = false := by decide) (hcd : (x == ("__classdict__" : Str)) = false := by decide) : PE X (.Name x pos) (tVar i) := by
  intro pins s σ H Q I h
  obtain ⟨v, e, h⟩ := h
  obtain ⟨m, hn, hl⟩ := I.loc
  obtain ⟨u, r, l⟩ := hl i x v hN e hv
  have fin : EP X pins σ Q u s := ⟨v, H, I, r, h⟩
  rcases l with ⟨hk, hm⟩ | ⟨hk, c, hc, hcell⟩
  · exact wpAny_Name (wpAny_loadName_local I.ok.kind hk hn hm fin) hd
  · rcases hk with hk | hk
    · exact wpAny_Name (wpAny_loadName_cell I.ok.kind hk hc hcell fin) hd
    · exact wpAny_Name (wpAny_loadName_free I.ok.kind hk hc hcell fin hcd) hd
theorem pe_int {i j pos} : PE X (.Constant (.int i) j pos) (tC (.int i)) := fun _ _ _ H _ I h => wpAny_Constant_int ⟨.int i, H, I.tok _, ⟨_, rfl⟩, h⟩
theorem pe_bl {b j pos} : PE X (.Constant (.bool b) j pos) (tC (.bl b)) := fun _ _ _ H _ I h => Constant_bool ⟨.bl b, H, I, rfl, h⟩
theorem pe_non {j pos} : PE X (.Constant .none j pos) (tC .non) := fun _ _ _ H _ I h => Constant_none ⟨.non, H, I, rfl, h⟩
def Gl (X : Cx) (x : Str) : Prop := X.env.kindOf x = some .globalImplicit
theorem ld_glob {E : Value → Shared → Prop} {pins : List (Addr × Obj)} {s : Shared} {σ : St} {H : Hp} {x : Str} {u : Value} {pos : Pos} {Q : Value → Shared → Prop} (I : Inv X pins σ H s) (hg : Gl X x) (hm : X.mg x = some u) (h : Q u s)
    (hd : (x == ("__debug__" : Str)) = false := by decide) : wpAny (model X.prog X.w) X.A (eval (.Name x pos) X.env) Q E s :=
  Calls.Name_function_global I.ok.kind hg (Calls.loadGlobal_global (by rw [I.ok.glob]; exact I.mod.glob.keeps I.bk) hm h) hd
theorem ld_blt {E : Value → Shared → Prop} {pins : List (Addr × Obj)} {s : Shared} {σ : St} {H : Hp} {x : Str} {u : Value} {pos : Pos} {Q : Value → Shared → Prop} (I : Inv X pins σ H s) (hg : Gl X x) (hm : X.mg x = none) (hv : bootBuiltins x = some u) (h : Q u s)
    (hn : x ≠ "__name__" := by decide) (hd : (x == ("__debug__" : Str)) = false := by decide) : wpAny (model X.prog X.w) X.A (eval (.Name x pos) X.env) Q E s := by
  obtain ⟨mb, h1, h2⟩ := I.mod.blt
  exact Calls.Name_function_global I.ok.kind hg (Calls.loadGlobal_builtin (by rw [I.ok.glob]; exact I.mod.glob.keeps I.bk) hm (by rw [I.ok.blt]; exact h1.keeps I.bk) ((h2 x hn).trans hv) h) hd
theorem pe_bltn {x : Str} {v : V} {u : Value} {pos : Pos} (hg : Gl X x) (hm : X.mg x = none) (hv : bootBuiltins x = some u) (r : RelV v u) (hn : x ≠ "__name__" := by decide) (hd : (x == ("__debug__" : Str)) = false := by decide) : PE X (.Name x pos) (tC v) :=
  fun _ _ _ H _ I h => ld_blt I hg hm hv ⟨v, H, I, r, h⟩ hn hd

variable {a b : Expr} {ta tb : TE} {pos : Pos}
def PC (X : Cx) (op : CmpOp) (a b : Expr) (t : TE) : Prop :=
  ∀ (pins : List (Addr × Obj)) (s : Shared) (σ : St) (H : Hp) (Q : VK), Inv X pins σ H s → t σ H Q →
    wpAny (model X.prog X.w) X.A (eval a X.env) (fun v s₁ => wpAny (model X.prog X.w) X.A (eval b X.env) (fun u s₂ => wpAny (model X.prog X.w) X.A (compareOp op v u) (EP X pins σ Q) X.xe s₂) X.xe s₁) X.xe s
def tB (t : TE) : TT := fun σ H Q => t σ H fun x H1 => ∃ c, x = .bl c ∧ Q c H1
theorem pt_cmp {op : CmpOp} {t : TE} (h : PC X op a b t) (h1 : behindInMarks op b = false := by first | exact nobehind _ (by decide) (by decide) | rfl) : PT X (.Compare a [op] [b] pos) (tB t) := by
  intro pins s σ H Q I hw
  refine wpAny_isTrue_Compare1 (thn (h pins s σ H _ I hw) fun v s1 h1 => thn h1 fun u s2 h2 => thn h2 fun c s3 ⟨x, H1, I1, r1, q1⟩ => ?_) h1
  obtain ⟨d, rfl, q⟩ := q1
  cases r1
  exact wpAny_truthy_bool ⟨H1, I1, q⟩
theorem pt_val {e : Expr} {t : TE} (h : PE X e t) (he : ∀ whole, isTrue e X.env whole = (do let v ← whole; standAt e.pos; holding [v] (truthy v)) := by intro _; rfl) : PT X e (tB t) := by
  intro pins s σ H Q I hw
  refine isTrue_plain (thn (h pins s σ H _ I hw) fun v s1 ⟨x, H1, I1, r1, q1⟩ => ?_) (he _)
  obtain ⟨d, rfl, q⟩ := q1
  cases r1
  exact wpAny_truthy_bool ⟨H1, I1, q⟩

variable {tA tB' : TT} {rest : List Expr}
def tAnd (t u : TT) : TT := fun σ H Q => t σ H fun c H1 => if c = true then u σ H1 Q else Q false H1
def tOr (t u : TT) : TT := fun σ H Q => t σ H fun c H1 => if c = true then Q true H1 else u σ H1 Q
def tNot (t : TT) : TT := fun σ H Q => t σ H fun c H1 => Q (!c) H1
theorem pw_and1 (ha : PT X a tA) : PW X (.BoolOp .And [a] pos) tA := by
  intro wh pins s σ H Q I h
  refine isTrue_and (thn (ha pins s σ H Q I h) fun c s1 e => ?_)
  cases c with
  | true => exact isTrue_and_nil e
  | false => exact e
theorem pw_or1 (ha : PT X a tA) : PW X (.BoolOp .Or [a] pos) tA := by
  intro wh pins s σ H Q I h
  refine isTrue_or (thn (ha pins s σ H Q I h) fun c s1 e => ?_)
  cases c with
  | false => exact isTrue_or_nil e
  | true => exact e
theorem pw_and (ha : PT X a tA) (hb : PW X (.BoolOp .And (b :: rest) pos) tB') : PW X (.BoolOp .And (a :: b :: rest) pos) (tAnd tA tB') := by
  intro wh pins s σ H Q I h
  refine isTrue_and (thn (ha pins s σ H _ I h) fun c s1 ⟨H1, I1, q1⟩ => ?_)
  cases c with
  | true => exact hb wh pins s1 σ H1 Q I1 q1
  | false => exact ⟨H1, I1, q1⟩
theorem pw_or (ha : PT X a tA) (hb : PW X (.BoolOp .Or (b :: rest) pos) tB') : PW X (.BoolOp .Or (a :: b :: rest) pos) (tOr tA tB') := by
  intro wh pins s σ H Q I h
  refine isTrue_or (thn (ha pins s σ H _ I h) fun c s1 ⟨H1, I1, q1⟩ => ?_)
  cases c with
  | true => exact ⟨H1, I1, q1⟩
  | false => exact hb wh pins s1 σ H1 Q I1 q1
theorem pt_not (ha : PT X a tA) : PT X (.UnaryOp .Not a pos) (tNot tA) := by
  intro pins s σ H Q I h
  exact isTrue_not (ha pins s σ H (fun c H1 => Q (!c) H1) I h)
def tAndV (ta tb : TE) : TE := fun σ H Q => ta σ H fun x H1 => ∃ c, x = .bl c ∧ if c = true then tb σ H1 Q else Q (.bl false) H1
def tNotV (ta : TE) : TE := fun σ H Q => ta σ H fun x H1 => ∃ c, x = .bl c ∧ Q (.bl (!c)) H1
theorem pe_one {op} {t : TE} (h : PE X a t) : PE X (.BoolOp op [a] pos) t := fun pins s σ H Q I hw => BoolOp_one (h pins s σ H Q I hw)
theorem pe_and (ha : PE X a ta) (hb : PE X (.BoolOp .And (b :: rest) pos) tb) : PE X (.BoolOp .And (a :: b :: rest) pos) (tAndV ta tb) := by
  intro pins s σ H Q I h
  refine BoolOp_and (thn (ha pins s σ H _ I h) fun v s1 ⟨x, H1, I1, r1, q1⟩ => ?_)
  obtain ⟨c, rfl, q1⟩ := q1
  cases r1
  refine wpAny_truthy_bool ?_
  cases c with
  | true => exact hb pins s1 σ H1 Q I1 q1
  | false => exact ⟨.bl false, H1, I1, rfl, q1⟩
theorem pe_not (ha : PE X a ta) : PE X (.UnaryOp .Not a pos) (tNotV ta) := by
  intro pins s σ H Q I h
  refine UnaryOp_ (thn (ha pins s σ H _ I h) fun v s1 ⟨x, H1, I1, r1, q1⟩ => ?_)
  obtain ⟨c, rfl, q1⟩ := q1
  cases r1
  exact not_of (wpAny_truthy_bool ⟨.bl (!c), H1, I1, rfl, q1⟩)
def tIf (t : TT) (ta tb : TE) : TE := fun σ H Q => t σ H fun c H1 => if c = true then ta σ H1 Q else tb σ H1 Q
theorem pe_ifExp {c : Expr} (hc : PT X c tA) (ha : PE X a ta) (hb : PE X b tb) : PE X (.IfExp c a b pos) (tIf tA ta tb) := by
  intro pins s σ H Q I h
  refine wpAny_IfExp (thn (hc pins s σ H _ I h) fun d s1 ⟨H1, I1, q1⟩ => ?_)
  cases d with
  | true => exact ha pins s1 σ H1 Q I1 q1
  | false => exact hb pins s1 σ H1 Q I1 q1
end
end L2

namespace L2
open PySem PySem.Spec PyProof.Rows

def SqL (K : PySem.W.Frag) (H : Hp) (a : Addr) (xs : List V) : Prop :=
  Rd H a (.lst xs) ∨
    ∃ (o : Obj) (its : Array Value) (n : Nat), K.lookup a = some o ∧ o.cls = .type "list" ∧ o.dict = none ∧ o.data = .seq its n ∧ its.size ≤ sizeLine ∧ Vals xs its.toList
def SqT (K : PySem.W.Frag) (H : Hp) (a : Addr) (xs : List V) : Prop :=
  Rd H a (.tup xs) ∨
    ∃ (o : Obj) (its : Array Value) (n : Nat), K.lookup a = some o ∧ o.cls = .type "tuple" ∧ o.data = .seq its n ∧ its.size ≤ sizeLine ∧ Vals xs its.toList
def absV : Value → Option V
  | .none => some .non
  | .bool b => some (.bl b)
  | .int i _ => some (.int i)
  | .str x _ => some (.str x)
  | .bytes b _ => some (.byt b)
  | .float b _ => some (.flt b)
  | .ref a => some (.ref a)
  | .type n => some (.ty n)
  | _ => none
theorem RelV.abs {x : V} {u : Value} (r : RelV x u) : absV u = some x := by
  cases x with
  | non => cases r; rfl
  | bl _ => cases r; rfl
  | int _ => obtain ⟨t, rfl⟩ := r; rfl
  | str _ => obtain ⟨t, rfl⟩ := r; rfl
  | byt _ => obtain ⟨t, rfl⟩ := r; rfl
  | flt _ => obtain ⟨t, rfl⟩ := r; rfl
  | ref _ => cases r; rfl
  | ty _ => cases r; rfl
theorem RelV.inj {x y : V} {u : Value} (r : RelV x u) (q : RelV y u) : x = y := Option.some.inj (r.abs.symm.trans q.abs)
theorem Vals.inj : ∀ {xs ys : List V} {us : List Value}, Vals xs us → Vals ys us → xs = ys
  | _, _, _, .nil, .nil => rfl
  | _, _, _, .cons r t, .cons r' t' => by rw [r.inj r', Vals.inj t t']
section
variable {X : Cx} {pins : List (Addr × Obj)} {σ : St} {H : Hp} {s : Shared} {a : Addr} {xs ys : List V}
theorem SqL.of {K : PySem.W.Frag} (h : H a = some (.lst xs)) : SqL K H a xs := .inl (.inl h)
theorem SqT.of {K : PySem.W.Frag} (h : H a = some (.tup xs)) : SqT K H a xs := .inl (.inl h)
theorem Inv.list (I : Inv X pins σ H s) (h : SqL X.K H a xs) : ∃ its : List Value, Vals xs its ∧ PlainL s.heap a its.toArray ∧ xs.length ≤ sizeLine := by
  rcases h with h | ⟨o, its, n, hk, hc, hd, hs, hz, r⟩
  · obtain ⟨z, its, n, r, e⟩ := h.ok I.hok
    exact ⟨its, r, ⟨_, n, e, rfl, rfl, rfl⟩, z⟩
  · refine ⟨its.toList, r, ⟨o, n, I.kIn a o hk, hc, hd, by simpa using hs⟩, ?_⟩
    have e := r.length
    simp only [Array.length_toList] at e
    omega
theorem Inv.tuple (I : Inv X pins σ H s) (h : SqT X.K H a xs) : ∃ its : List Value, Vals xs its ∧ IsTup s.heap a its.toArray ∧ xs.length ≤ sizeLine := by
  rcases h with h | ⟨o, its, n, hk, hc, hs, hz, r⟩
  · obtain ⟨z, its, r, p⟩ := h.ok I.hok
    exact ⟨its, r, p, z⟩
  · refine ⟨its.toList, r, ⟨o, I.kIn a o hk, hc, n, by simpa using hs⟩, ?_⟩
    have e := r.length
    simp only [Array.length_toList] at e
    omega
theorem Inv.list_inj (I : Inv X pins σ H s) (h : SqL X.K H a xs) (h' : SqL X.K H a ys) : xs = ys := by
  obtain ⟨its, r, ⟨o, n, e, _, _, d⟩, _⟩ := I.list h
  obtain ⟨its', r', ⟨o', n', e', _, _, d'⟩, _⟩ := I.list h'
  rw [e] at e'; cases e'
  rw [d] at d'
  injection d' with d1 _
  have : its = its' := by simpa using congrArg Array.toList d1
  subst this
  exact r.inj r'
theorem Inv.tuple_inj (I : Inv X pins σ H s) (h : SqT X.K H a xs) (h' : SqT X.K H a ys) : xs = ys := by
  obtain ⟨its, r, ⟨o, e, _, n, d⟩, _⟩ := I.tuple h
  obtain ⟨its', r', ⟨o', e', _, n', d'⟩, _⟩ := I.tuple h'
  rw [e] at e'; cases e'
  rw [d] at d'
  injection d' with d1 _
  have : its = its' := by simpa using congrArg Array.toList d1
  subst this
  exact r.inj r'
end

abbrev Cx.wish (X : Cx) (E : Value → Shared → Prop) : Cx := { X with xe := E }
abbrev Cx.nox (X : Cx) : Cx := X.wish fun _ _ => False
theorem Cx.Ok.wish {X : Cx} (ok : X.Ok) (E : Value → Shared → Prop) : (X.wish E).Ok :=
  ⟨ok.mod, ok.kind, ok.glob, ok.blt, ok.above, ok.inj, ok.has, ok.cab, ok.hd, ok.frames, ok.stk, ok.exf, ok.bs, ok.bsz, ok.noex, ok.exfs, ok.funs, ok.frf⟩
theorem Cx.Ok.unwish {X : Cx} {E : Value → Shared → Prop} (ok : (X.wish E).Ok) : X.Ok :=
  ⟨ok.mod, ok.kind, ok.glob, ok.blt, ok.above, ok.inj, ok.has, ok.cab, ok.hd, ok.frames, ok.stk, ok.exf, ok.bs, ok.bsz, ok.noex, ok.exfs, ok.funs, ok.frf⟩
section
variable {X : Cx} {pins : List (Addr × Obj)} {σ : St} {H : Hp} {s : Shared} {E : Value → Shared → Prop}
theorem Inv.wish (I : Inv X pins σ H s) (E : Value → Shared → Prop) : Inv (X.wish E) pins σ H s := ⟨I.ok.wish E, I.os, I.bare, I.base, I.loc, I.cell, I.free, I.freeC, I.pin, I.hok, I.len⟩
theorem Inv.unwish (I : Inv (X.wish E) pins σ H s) : Inv X pins σ H s := ⟨I.ok.unwish, I.os, I.bare, I.base, I.loc, I.cell, I.free, I.freeC, I.pin, I.hok, I.len⟩
theorem SP.unwish {D : Ends} {f : Flow} {s' : Shared} (h : SP (X.wish E) pins D f s') : SP X pins D f s' := by
  cases f with
  | next => obtain ⟨σ', H', I, q⟩ := h; exact ⟨σ', H', I.unwish, q⟩
  | brk => obtain ⟨σ', H', I, q⟩ := h; exact ⟨σ', H', I.unwish, q⟩
  | cont => obtain ⟨σ', H', I, q⟩ := h; exact ⟨σ', H', I.unwish, q⟩
  | ret u => obtain ⟨v, σ', H', I, r, q⟩ := h; exact ⟨v, σ', H', I.unwish, r, q⟩
theorem PSs.nox {st : List Stmt} {t : TS} (h : PSs X.nox st t) : PSs X st t := fun pins s σ H D I hw =>
  wpAny_mono (h pins s σ H D (I.wish _) hw) (fun _ _ q => q.unwish) fun _ _ z => False.elim z
end

section
variable {X : Cx} {st : Stmt} {rest : List Stmt} {t u : TS} {e : Expr} {te : TE} {pos : Pos}
def tNext : TS := fun D σ H => D.nx σ H
def tSeq (t u : TS) : TS := fun D σ H => t { D with nx := u D } σ H
theorem pss_nil : PSs X [] tNext := fun _ _ σ H _ I h => wpAny_execs_nil ⟨σ, H, I, h⟩
theorem pss_cons (h1 : PS X st t) (h2 : PSs X rest u) : PSs X (st :: rest) (tSeq t u) := by
  intro pins s σ H D I h
  refine wpAny_execs_cons (thn (h1 pins s σ H { D with nx := u D } I h) fun f s1 q => ?_)
  cases f with
  | next =>
    obtain ⟨σ', H', I', q⟩ := q
    exact h2 pins s1 σ' H' D I' q
  | ret v => exact q
  | brk => exact q
  | cont => exact q
theorem pss_one (h1 : PS X st t) : PSs X [st] t := by
  intro pins s σ H D I h
  refine wpAny_execs_cons (thn (h1 pins s σ H D I h) fun f s1 q => ?_)
  cases f with
  | next => exact wpAny_execs_nil q
  | ret v => exact q
  | brk => exact q
  | cont => exact q
theorem Inv.quiet {pins : List (Addr × Obj)} {σ : St} {H : Hp} {s : Shared} (I : Inv X pins σ H s) : interactive X.env = false := by simp [interactive, I.ok.kind]
def tDrop (te : TE) : TS := fun D σ H => te σ H fun _ H1 => D.nx σ H1
theorem ps_expr (he : PE X e te) (hs : swapsWith e none pos.line X.env = pure false := by rfl) : PS X (.Expr e pos) (tDrop te) := by
  intro pins s σ H D I h
  exact wpAny_Expr_any (thn (he pins s σ H _ I h) fun v s1 ⟨x, H1, I1, r1, q1⟩ => ⟨σ, H1, I1, q1⟩) I.quiet hs
def tRet (te : TE) : TS := fun D σ H => te σ H D.rt
theorem ps_ret (he : PE X e te) : PS X (.Return (some e) pos) (tRet te) := by
  intro pins s σ H D I h
  exact wpAny_Return_some (thn (he pins s σ H _ I h) fun v s1 ⟨x, H1, I1, r1, q1⟩ => ⟨x, σ, H1, I1, r1, q1⟩)
def tIfS (c : TT) (t u : TS) : TS := fun D σ H => c σ H fun b H1 => if b = true then t D σ H1 else u D σ H1
theorem ps_if {c : Expr} {a b : List Stmt} {tc : TT} (hc : PT X c tc) (ha : PSs X a t) (hb : PSs X b u) : PS X (.If c a b pos) (tIfS tc t u) := by
  intro pins s σ H D I h
  refine wpAny_If (thn (hc pins s σ H _ I h) fun d s1 ⟨H1, I1, q1⟩ => ?_)
  cases d with
  | true => exact ha pins s1 σ H1 D I1 q1
  | false => exact hb pins s1 σ H1 D I1 q1
end

abbrev TG := V → St → Hp → (St → Hp → Prop) → Prop
abbrev TGs := List V → St → Hp → (St → Hp → Prop) → Prop
def PG (X : Cx) (target : Expr) (t : TG) : Prop :=
  ∀ (pins : List (Addr × Obj)) (s : Shared) (σ : St) (H : Hp) (v : V) (u : Value) (Q : St → Hp → Prop), Inv X pins σ H s → RelV v u → t v σ H Q →
    wpAny (model X.prog X.w) X.A (assign target X.env u) (fun _ s' => ∃ σ' H', Inv X pins σ' H' s' ∧ Q σ' H') X.xe s
def PGs (X : Cx) (ts : List Expr) (t : TGs) : Prop :=
  ∀ (pins : List (Addr × Obj)) (s : Shared) (σ : St) (H : Hp) (vs : List V) (us : List Value) (Q : St → Hp → Prop), Inv X pins σ H s → Vals vs us → t vs σ H Q →
    wpAny (model X.prog X.w) X.A (assignInOrder ((assignEach ts X.env).map (·.2)) us) (fun _ s' => ∃ σ' H', Inv X pins σ' H' s' ∧ Q σ' H') X.xe s
abbrev TSet := V → V → V → Hp → (Hp → Prop) → Prop
def PSet (X : Cx) (t : TSet) : Prop :=
  ∀ (pins : List (Addr × Obj)) (s : Shared) (σ : St) (H : Hp) (o i v : V) (ov iv u : Value) (Q : Hp → Prop), Inv X pins σ H s → RelV o ov → RelV i iv → RelV v u → t o i v H Q →
    wpAny (model X.prog X.w) X.A (setItem ov iv u) (fun _ s' => ∃ H', Inv X pins σ H' s' ∧ Q H') X.xe s
section
variable {X : Cx} {pos : Pos}
def gName (i : Nat) : TG := fun v σ H Q => Q (σ.set i (some v)) H
theorem pg_name {i : Nat} {x : Str} (hN : X.N.Nodup) (hi : X.N[i]? = some x) (hx : Loc X.env.scope x) (hf : X.fn x = true ∨ X.env.scope.names.lookup x = some .local := by first | exact .inl rfl | exact .inr rfl | assumption) : PG X (.Name x pos) (gName i) := by
  intro pins s σ H v u Q I r h
  exact wpAny_assign_Name (store_ok I hN hi hx r (fun s' I' => ⟨_, H, I', h⟩) hf)
def gNil : TGs := fun vs σ H Q => vs = [] ∧ Q σ H
def gCons (t : TG) (u : TGs) : TGs := fun vs σ H Q => ∃ v r, vs = v :: r ∧ t v σ H fun σ' H' => u r σ' H' Q
theorem pgs_nil : PGs X [] gNil := by
  intro pins s σ H vs us Q I r h
  obtain ⟨e, h⟩ := h
  subst e
  cases r
  exact assignInOrder_nil ⟨σ, H, I, h⟩
theorem pgs_cons {e : Expr} {es : List Expr} {t : TG} {u : TGs} (h1 : PG X e t) (h2 : PGs X es u)
    (hs : (assignEach (e :: es) X.env).map (·.2) = assign e X.env :: (assignEach es X.env).map (·.2) := by rfl) : PGs X (e :: es) (gCons t u) := by
  intro pins s σ H vs us Q I r h
  obtain ⟨v, vr, e1, h⟩ := h
  subst e1
  cases r with
  | cons r rr =>
    rw [hs]
    refine assignInOrder_cons (thn (h1 pins s σ H _ _ _ I r h) fun _ s1 ⟨σ1, H1, I1, q1⟩ => ?_)
    exact h2 pins s1 σ1 H1 _ _ Q I1 rr q1
def gTup (K : PySem.W.Frag) (n : Nat) (t : TGs) : TG := fun v σ H Q => ∃ a xs, v = .ref a ∧ SqT K H a xs ∧ xs.length = n ∧ t xs σ H Q
theorem pg_tup {es : List Expr} {k : Nat} {t : TGs} {n : Nat} (hc : X.calm = true) (h : PGs X es t)
    (hn : (assignEach es X.env).length = n := by rfl) (hst : (assignEach es X.env).findIdx? (·.1) = none := by rfl) : PG X (.Tuple es k pos) (gTup X.K n t) := by
  intro pins s σ H v u Q I r hw
  obtain ⟨a, xs, e1, hq, hl, hw⟩ := hw
  subst e1
  cases r
  obtain ⟨its, rv, ht, hz⟩ := I.tuple hq
  refine assign_Tuple_tuple (I.ok.hd hc) ht (by simp [hn, ← hl, rv.length]) hst fun h' hx => ?_
  have I1 : Inv X pins σ H { s with heap := h' } := I.kept (t' := s.toks) fun b o e => hx b o (Nat.ne_of_lt (Heap.lt_size e)) e
  exact h pins _ σ H xs _ Q I1 (by simpa using rv) hw
def gSub (to ti : TE) (t : TSet) : TG := fun v σ H Q => to σ H fun o H1 => ti σ H1 fun i H2 => t o i v H2 fun H3 => Q σ H3
theorem pg_sub {o i : Expr} {to ti : TE} {t : TSet} (ho : PE X o to) (hi : PE X i ti) (hs : PSet X t)
    (ha : ∀ v, assign (.Subscript o i pos) X.env v = (do
      let ov ← holding [v] (eval o X.env)
      let iv ← holding [v, ov] (eval i X.env)
      standAt pos
      holding [v, ov, iv] (setItem ov iv v)
      release [v, ov, iv] []) := by intro _; rfl) : PG X (.Subscript o i pos) (gSub to ti t) := by
  intro pins s σ H v u Q I r h
  rw [ha]
  refine wpAny_bind (wpAny_holding (thn (ho pins s σ H _ I h) fun ov s1 ⟨x, H1, I1, r1, q1⟩ => ?_))
  refine wpAny_bind (wpAny_holding (thn (hi pins s1 σ H1 _ I1 q1) fun iv s2 ⟨y, H2, I2, r2, q2⟩ => ?_))
  refine wpAny_bind (wpAny_standAt (wpAny_bind (wpAny_holding (thn (hs pins s2 σ H2 x y v ov iv u _ I2 r1 r2 r q2) fun _ s3 ⟨H3, I3, q3⟩ => ?_))))
  exact wpAny_release ⟨σ, H3, I3, q3⟩
def tAsg (te : TE) (g : TG) : TS := fun D σ H => te σ H fun x H1 => g x σ H1 D.nx
theorem ps_asg {tg e : Expr} {te : TE} {g : TG} (he : PE X e te) (hg : PG X tg g) (hs : swapsWithSole [tg] e pos.line X.env = pure false := by rfl) (hw : swappedStores [tg] e X.env = pure none := by rfl)
    (h1 : (assignEach [tg] X.env).map (·.2) = [assign tg X.env] := by rfl) : PS X (.Assign [tg] e pos) (tAsg te g) := by
  intro pins s σ H D I h
  refine wpAny_Assign_stores (thn (he pins s σ H _ I h) fun v s1 ⟨x, H1, I1, r1, q1⟩ => ?_) hs hw
  rw [h1]
  exact thn (hg pins s1 σ H1 x v _ I1 r1 q1) fun _ s2 q => q
theorem ps_set {i : Nat} {x : Str} {e : Expr} {te : TE} {pos' : Pos} (hN : X.N.Nodup) (hi : X.N[i]? = some x) (hx : Loc X.env.scope x) (he : PE X e te) (hs : swapsWith e (some (.Name x pos')) pos.line X.env = pure false := by rfl) (hf : X.fn x = true ∨ X.env.scope.names.lookup x = some .local := by first | exact .inl rfl | exact .inr rfl | assumption) :
    PS X (.Assign [.Name x pos'] e pos) (tAsg te (gName i)) := by
  intro pins s σ H D I h
  refine wpAny_Assign_Name (thn (he pins s σ H _ I h) fun v s1 ⟨y, H1, I1, r1, q1⟩ => ?_) hs
  exact store_ok I1 hN hi hx r1 (fun s2 I2 => ⟨_, H1, I2, q1⟩) hf
end

section
variable {X : Cx} {pos : Pos}
def tWhile (c : TT) (tb : TS) : TS := fun D σ H => ∃ W : Nat → St → Hp → Prop, (∃ m, W m σ H) ∧ ∀ m σ H, W m σ H →
  c σ H fun b H1 => if b = true then ∃ N : St → Hp → Prop, (∀ σ' H', N σ' H' → ∃ m', m' < m ∧ W m' σ' H') ∧ tb { D with nx := N, ct := N, bk := D.nx } σ H1 else D.nx σ H1
theorem ps_while {c : Expr} {body : List Stmt} {tc : TT} {tb : TS} (hp : PassesOwn (model X.prog X.w) X.A X.env X.xe) (hc : PT X c tc) (hb : PSs X body tb) : PS X (.While c body [] pos) (tWhile tc tb) := by
  intro pins s σ H D I h
  obtain ⟨W, ⟨m0, w0⟩, turn⟩ := h
  refine wpAny_While (codeAny_whileLoop (fun n s' => ∃ σ' H', Inv X pins σ' H' s' ∧ W n σ' H') ?_ m0 ⟨σ, H, I, w0⟩)
  rintro n s1 ⟨σ1, H1, I1, w1⟩
  refine wpAny_passesOwn hp (thn (hc pins s1 σ1 H1 _ I1 (turn n σ1 H1 w1)) fun b s2 ⟨H2, I2, q2⟩ => ?_)
  cases b with
  | true =>
    obtain ⟨N, hN, q2⟩ := q2
    rw [if_pos rfl]
    refine wpAny_passesOwn hp (thn (hb pins s2 σ1 H2 _ I2 q2) fun f s3 q3 => ?_)
    cases f with
    | next =>
      obtain ⟨σ3, H3, I3, n3⟩ := q3
      obtain ⟨m', hm, w3⟩ := hN σ3 H3 n3
      exact ⟨m', hm, σ3, H3, I3, w3⟩
    | cont =>
      obtain ⟨σ3, H3, I3, n3⟩ := q3
      obtain ⟨m', hm, w3⟩ := hN σ3 H3 n3
      exact ⟨m', hm, σ3, H3, I3, w3⟩
    | brk => exact q3
    | ret v => exact q3
  | false =>
    rw [if_neg Bool.false_ne_true]
    exact wpAny_execs_nil ⟨σ1, H2, I2, q2⟩
end

structure It where
  go : Nat → Hp → Prop
  yld : Nat → Hp → V → Hp → Prop
  stop : Nat → Hp → Prop
def FpOk (X : Cx) (pins : List (Addr × Obj)) (H : Hp) (b : Addr) : Prop :=
  H b = none ∧ b ≠ X.env.locals ∧ b ∉ X.fs ∧ (b ∈ X.ex ∨ X.s₀.heap.objs.size ≤ b) ∧ (∀ x c, X.env.cells.lookup x = some c → c ≠ b) ∧ ∀ p ∈ X.pn ++ pins, p.1 ≠ b
theorem Inv.fpOk {X : Cx} {pins : List (Addr × Obj)} {σ : St} {H H' : Hp} {s : Shared} {b : Addr} (I : Inv X pins σ H s) (hb : s.heap.objs.size ≤ b) (hn : H' b = none) : FpOk X pins H' b := by
  refine ⟨hn, Nat.ne_of_gt (Nat.lt_of_lt_of_le I.lt hb), I.nofs hb, .inr (Nat.le_trans I.sz hb), fun x c e z => ?_, fun p hp z => ?_⟩
  · obtain ⟨v, q⟩ := I.cell x c e
    exact absurd (Nat.lt_of_lt_of_le q.lt (by rw [z]; exact hb)) (Nat.lt_irrefl _)
  · exact absurd (Nat.lt_of_lt_of_le (Heap.lt_size (I.pin p hp).1) (by rw [z]; exact hb)) (Nat.lt_irrefl _)
structure Turn (P : Program) (w : World) (K : PySem.W.Frag) (tg : Expr) (J : It) (fp : List Addr) (it : Addr) (tn : Nat → Heap → Prop) : Prop where
  mem : it ∈ fp
  obj : ∀ i h, tn i h → ∀ b ∈ fp, ∃ o, h.get? b = some o ∧ ∀ v, o.data ≠ .cell v
  keep : ∀ i h h', tn i h → (∀ b ∈ fp, ∀ o, h.get? b = some o → h'.get? b = some o) → tn i h'
  item : ∀ (X : Cx), X.prog = P → X.w = w → X.K = K → X.calm = true → ∀ (i : Nat) (pins : List (Addr × Obj)) (s : Shared) (σ : St) (H : Hp) (E : Value → Shared → Prop), Inv X pins σ H s → (∀ b ∈ fp, FpOk X pins H b) → tn i s.heap → J.go i H →
    wpAny (model P w) X.A (pyNext (.ref it)) (fun r s1 => ∃ u, r = some u ∧
      wpAny (model P w) X.A (letOwnedTupleGo tg (.ref it) u) (fun _ s2 => ∃ x H', Inv X pins σ H' s2 ∧ RelV x u ∧ J.yld i H x H' ∧ tn (i + 1) s2.heap ∧ ∀ b ∈ fp, H' b = none) E s1) E s
  done : ∀ (X : Cx), X.prog = P → X.w = w → X.K = K → X.calm = true → ∀ (i : Nat) (pins : List (Addr × Obj)) (s : Shared) (σ : St) (H : Hp) (E : Value → Shared → Prop), Inv X pins σ H s → (∀ b ∈ fp, FpOk X pins H b) → tn i s.heap → J.stop i H →
    wpAny (model P w) X.A (pyNext (.ref it)) (fun r s1 => r = none ∧ Inv X pins σ H s1) E s
  self : ∀ (A : Around) (i : Nat) (s : Shared) (Q : Value → Shared → Prop) (E : Value → Shared → Prop), tn i s.heap → Q (.ref it) s → wpAny (model P w) A (pyIter (.ref it)) Q E s
abbrev TI := St → Hp → (It → Hp → Prop) → Prop
def PIE (X : Cx) (pins : List (Addr × Obj)) (σ : St) (tg : Expr) (R : It → Hp → Prop) (itv : Value) (s2 : Shared) : Prop :=
  ∃ (it : Addr) (fp : List Addr) (tn : Nat → Heap → Prop) (J : It) (H' : Hp), itv = .ref it ∧ Inv X pins σ H' s2 ∧ Turn X.prog X.w X.K tg J fp it tn ∧ tn 0 s2.heap ∧ (∀ b ∈ fp, FpOk X pins H' b) ∧ R J H'
def PI (X : Cx) (tg iter : Expr) (wi : TI) : Prop :=
  ∀ (pins : List (Addr × Obj)) (s : Shared) (σ : St) (H : Hp) (R : It → Hp → Prop), Inv X pins σ H s → wi σ H R →
    wpAny (model X.prog X.w) X.A (eval iter X.env) (fun v s1 => wpAny (model X.prog X.w) X.A (pyIter v) (PIE X pins σ tg R) X.xe s1) X.xe s

theorem go_of {M : Model} {A : Around} {E : Value → Shared → Prop} {s : Shared} {tg : Expr} {it : Addr} {u : Value} {o : Obj} {n : String} {vs : Array Value} {Q : Unit → Shared → Prop} (ho : s.heap.get? it = some o) (hc : o.cls = .type n) (hd : o.data = .fields vs)
    (hn : ["enumerate", "zip", "dict_itemiterator", "dict_reverseitemiterator", "odict_iterator", "itertools.zip_longest", "itertools.pairwise"].contains n = false) (hQ : Q () s) : wpAny M A (letOwnedTupleGo tg (.ref it) u) Q E s := by
  unfold letOwnedTupleGo
  cases tg <;> first
    | exact wpAny_pure hQ
    | (cases u <;> first
        | exact wpAny_pure hQ
        | (refine wpAny_bind (wpAny_load ho ?_)
           rw [hc, hd]
           show wpAny M A (if (["enumerate", "zip", "dict_itemiterator", "dict_reverseitemiterator", "odict_iterator", "itertools.zip_longest", "itertools.pairwise"].contains n && vs[0]? == some (rawInt _)) = true then _ else _) Q E s
           rw [if_neg (by intro h; rw [hn, Bool.false_and] at h; cases h)]
           exact wpAny_pure hQ))

def Itl (K : PySem.W.Frag) (a : Addr) : It :=
  ⟨fun i H => ∃ xs x, SqL K H a xs ∧ xs[i]? = some x, fun i H x H' => H' = H ∧ ∀ xs, SqL K H a xs → xs[i]? = some x, fun i H => ∃ xs, SqL K H a xs ∧ xs.length ≤ i⟩
def Itt (K : PySem.W.Frag) (a : Addr) : It :=
  ⟨fun i H => ∃ xs x, SqT K H a xs ∧ xs[i]? = some x, fun i H x H' => H' = H ∧ ∀ xs, SqT K H a xs → xs[i]? = some x, fun i H => ∃ xs, SqT K H a xs ∧ xs.length ≤ i⟩
def Itr (lo : Int) (n : Nat) : It := ⟨fun i _ => i < n, fun i H x H' => H' = H ∧ x = .int (lo + i), fun i _ => n ≤ i⟩
theorem turn_list {P : Program} {w : World} {K : PySem.W.Frag} {tg : Expr} (a it : Addr) : Turn P w K tg (Itl K a) [it] it (fun i h => h.IsListIter it a i) where
  mem := by simp
  obj := fun i h st b hb => by
    have e : b = it := by simpa using hb
    subst e
    obtain ⟨o, e, c, d⟩ := st
    exact ⟨o, e, fun v z => by rw [d] at z; cases z⟩
  keep := fun i h h' st k => st.at fun o e => k it (by simp) o e
  item := by
    intro X hP hw hK hc i pins s σ H E I hf st hg
    subst hP hw hK
    obtain ⟨xs, x, hq, hx⟩ := hg
    obtain ⟨its, rv, p, hz⟩ := I.list hq
    obtain ⟨u, hu, ru⟩ := rv.get hx
    obtain ⟨f0, f1, f2, f3, f4, f5⟩ := hf it (by simp)
    refine wpAny_pyNext_list_item st p.isList (x := u) (by simpa using hu) fun h' st' sb => ?_
    have I1 : Inv X pins σ H { s with heap := h' } := I.turned (t' := s.toks) (fun b o hb e => (sb.2 b hb).trans e) f0 f1 f3 f4 f5
    obtain ⟨o, e, c, d⟩ := id st'
    exact ⟨u, rfl, go_of (s := { s with heap := h' }) e c d (by decide) ⟨x, H, I1, ru, ⟨rfl, fun ys hy => by rw [I.list_inj hy hq]; exact hx⟩, st', fun b hb => (hf b hb).1⟩⟩
  done := by
    intro X hP hw hK hc i pins s σ H E I hf st hg
    subst hP hw hK
    obtain ⟨xs, hq, hx⟩ := hg
    obtain ⟨its, rv, p, hz⟩ := I.list hq
    obtain ⟨f0, f1, f2, f3, f4, f5⟩ := hf it (by simp)
    have hl := rv.length
    exact wpAny_pyNext_list_end (I.ok.hd hc) st p.isList (by simp; omega) fun h' eb => ⟨rfl, I.turned (t' := s.toks) (fun b o hb e => eb b o hb e) f0 f1 f3 f4 f5⟩
  self := fun _ _ _ _ _ st h => wpAny_pyIter_listiter st h
theorem turn_tuple {P : Program} {w : World} {K : PySem.W.Frag} {tg : Expr} (a it : Addr) : Turn P w K tg (Itt K a) [it] it (fun i h => h.IsTupleIter it a i) where
  mem := by simp
  obj := fun i h st b hb => by
    have e : b = it := by simpa using hb
    subst e
    obtain ⟨o, e, c, d⟩ := st
    exact ⟨o, e, fun v z => by rw [d] at z; cases z⟩
  keep := fun i h h' st k => st.at fun o e => k it (by simp) o e
  item := by
    intro X hP hw hK hc i pins s σ H E I hf st hg
    subst hP hw hK
    obtain ⟨xs, x, hq, hx⟩ := hg
    obtain ⟨its, rv, p, hz⟩ := I.tuple hq
    obtain ⟨u, hu, ru⟩ := rv.get hx
    obtain ⟨f0, f1, f2, f3, f4, f5⟩ := hf it (by simp)
    refine wpAny_pyNext_tuple_item st (show s.heap.IsTuple a its.toArray from p) (x := u) (by simpa using hu) fun h' st' sb => ?_
    have I1 : Inv X pins σ H { s with heap := h' } := I.turned (t' := s.toks) (fun b o hb e => (sb.2 b hb).trans e) f0 f1 f3 f4 f5
    obtain ⟨o, e, c, d⟩ := id st'
    exact ⟨u, rfl, go_of (s := { s with heap := h' }) e c d (by decide) ⟨x, H, I1, ru, ⟨rfl, fun ys hy => by rw [I.tuple_inj hy hq]; exact hx⟩, st', fun b hb => (hf b hb).1⟩⟩
  done := by
    intro X hP hw hK hc i pins s σ H E I hf st hg
    subst hP hw hK
    obtain ⟨xs, hq, hx⟩ := hg
    obtain ⟨its, rv, p, hz⟩ := I.tuple hq
    obtain ⟨f0, f1, f2, f3, f4, f5⟩ := hf it (by simp)
    have hl := rv.length
    exact wpAny_pyNext_tuple_end (I.ok.hd hc) st (show s.heap.IsTuple a its.toArray from p) (by simp; omega) fun h' eb => ⟨rfl, I.turned (t' := s.toks) (fun b o hb e => eb b o hb e) f0 f1 f3 f4 f5⟩
  self := fun _ _ _ _ _ st h => wpAny_pyIter_tupleiter st h
theorem turn_range {P : Program} {w : World} {K : PySem.W.Frag} {tg : Expr} (it : Addr) (lo : Int) (n : Nat) : Turn P w K tg (Itr lo n) [it] it (fun i h => IsRangeIter h it (lo + (i : Nat) * 1) ((n : Int) - (i : Nat)) 1) where
  mem := by simp
  obj := fun i h st b hb => by
    have e : b = it := by simpa using hb
    subst e
    exact ⟨_, st, fun v z => by
      have z' : Data.fields _ = Data.cell v := z
      cases z'⟩
  keep := fun i h h' st k => k it (by simp) _ st
  item := by
    intro X hP hw hK hc i pins s σ H E I hf st hg
    subst hP hw hK
    obtain ⟨f0, f1, f2, f3, f4, f5⟩ := hf it (by simp)
    have W := Walks.range (prog := X.prog) (w := X.w) (I.ok.hd hc) it lo 1 n
    refine W.item i s _ _ hg st fun v h' tk hv st' kk => ?_
    obtain ⟨t, rfl⟩ := hv
    have I1 : Inv X pins σ H { s with heap := h', toks := tk } := I.turned (fun b o hb e => kk b o (by simpa using hb) e) f0 f1 f3 f4 f5
    refine ⟨_, rfl, go_of (s := { s with heap := h', toks := tk }) (n := "range_iterator") st' rfl rfl (by decide) ⟨.int (lo + i), H, I1, ⟨t, ?_⟩, ⟨rfl, rfl⟩, st', fun b hb => (hf b hb).1⟩⟩
    rw [Int.mul_one]
  done := by
    intro X hP hw hK hc i pins s σ H E I hf st hg
    subst hP hw hK
    obtain ⟨f0, f1, f2, f3, f4, f5⟩ := hf it (by simp)
    exact wpAny_pyNext_range_end (I.ok.hd hc) st (by have : n ≤ i := hg; omega) fun h' eb => ⟨rfl, I.turned (t' := s.toks) (fun b o hb e => eb b o hb e) f0 f1 f3 f4 f5⟩
  self := fun _ _ _ _ _ st h => wpAny_pyIter_rangeiter st h
end L2

namespace L2
open PySem PySem.Spec PyProof.Rows
section
variable {X : Cx} {tg : Expr}
def iList (K : PySem.W.Frag) (tl : TE) : TI := fun σ H R => tl σ H fun x H1 => ∃ a, x = .ref a ∧ (∃ xs, SqL K H1 a xs) ∧ R (Itl K a) H1
theorem pi_list {l : Expr} {tl : TE} (hl : PE X l tl) : PI X tg l (iList X.K tl) := by
  intro pins s σ H R I h
  refine thn (hl pins s σ H _ I h) fun v s1 ⟨x, H1, I1, r1, q1⟩ => ?_
  obtain ⟨a, e, ⟨xs, hq⟩, q⟩ := q1
  subst e
  cases r1
  obtain ⟨its, rv, p, hz⟩ := I1.list hq
  refine wpAny_pyIter_list p.isList ?_
  refine ⟨s1.heap.objs.size, [s1.heap.objs.size], _, _, H1, rfl, I1.kept (t' := s1.toks) fun b o e => Heap.get?_push_of_some _ e, turn_list a _, ⟨_, Heap.get?_push_size _ rfl, rfl, rfl⟩, fun b hb => ?_, q⟩
  have e : b = s1.heap.objs.size := by simpa using hb
  subst e
  exact I1.fpOk (Nat.le_refl _) (I1.hok.fresh (Nat.le_refl _))
theorem range_it {pins : List (Addr × Obj)} {σ : St} {H : Hp} {s : Shared} {R : It → Hp → Prop} {E : Value → Shared → Prop} {lo hi : Int} {t u v : Tok} {tk : Nat} (I : Inv X pins σ H s) (h1 : -(2 ^ 62) ≤ lo) (h2 : lo < 2 ^ 62) (h3 : -(2 ^ 62) ≤ hi) (h4 : hi < 2 ^ 62)
    (q : R (Itr lo (hi - lo).toNat) H) : wpAny (model X.prog X.w) X.A (pyIter (.ref s.heap.objs.size)) (PIE X pins σ tg R) E { s with heap := s.heap.push { cls := .type "range", data := .fields #[.int lo t, .int hi u, .int 1 v] }, toks := tk } := by
  refine wpAny_pyIter_range (IsRange.new ..) (small_one h1 h2 h3 h4) ?_
  have I1 : Inv X pins σ H { s with heap := s.heap.push { cls := .type "range", data := .fields #[.int lo t, .int hi u, .int 1 v] }, toks := tk } := I.kept fun b o e => Heap.get?_push_of_some _ e
  refine ⟨(s.heap.push { cls := .type "range", data := .fields #[.int lo t, .int hi u, .int 1 v] }).objs.size, [(s.heap.push { cls := .type "range", data := .fields #[.int lo t, .int hi u, .int 1 v] }).objs.size], _, _, H, rfl,
    I1.kept (t' := tk) fun b o e => Heap.get?_push_of_some _ e, turn_range _ lo (hi - lo).toNat, ?_, fun b hb => ?_, q⟩
  · have e1 : lo + ((0 : Nat) : Int) * 1 = lo := by simp
    have e2 : (((hi - lo).toNat : Nat) : Int) - ((0 : Nat) : Int) = Builtin.Range.rangeSize lo hi 1 := by rw [rangeSize_one]; split <;> omega
    show IsRangeIter _ _ (lo + ((0 : Nat) : Int) * 1) ((((hi - lo).toNat : Nat) : Int) - ((0 : Nat) : Int)) 1
    rw [e1, e2]
    exact Heap.get?_push_size _ rfl
  · have e : b = (s.heap.push { cls := .type "range", data := .fields #[.int lo t, .int hi u, .int 1 v] }).objs.size := by simpa using hb
    subst e
    exact I1.fpOk (Nat.le_refl _) (I1.hok.fresh (Nat.le_refl _))
def iRng1 (ta : TA) : TI := fun σ H R => ta σ H fun vs H1 => ∃ j : Int, vs = [.int j] ∧ -(2 ^ 62) ≤ j ∧ j < 2 ^ 62 ∧ R (Itr 0 j.toNat) H1
theorem pi_range1 {a : Expr} {ta : TA} {p pos : Pos} (hg : Gl X "range") (hm : X.mg "range" = none) (ha : PA X [a] ta) (hs : starEach [a] X.env = [(false, eval a X.env)] := by rfl) : PI X tg (.Call (.Name "range" p) [a] [] pos) (iRng1 ta) := by
  intro pins s σ H R I h
  refine Call_ (ld_blt I hg hm boot_range (PyProof.Rows.callWith_type1 (thn (ha pos pins s σ H _ I h) fun us s1 ⟨vs, H1, I1, r1, q1⟩ => ?_) hs rfl))
  obtain ⟨j, e, q1, q2, q⟩ := q1
  subst e
  cases r1 with
  | cons r rr =>
    cases rr
    obtain ⟨t, rfl⟩ := r
    exact call_range_1 (range_it I1 (by omega) (by omega) q1 q2 (by simpa using q))
def tFor (wi : TI) (g : TG) (tb : TS) : TS := fun D σ H => wi σ H fun J H1 => ∃ W : Nat → Nat → St → Hp → Prop, (∃ m, W 0 m σ H1) ∧ ∀ i m σ H, W i m σ H →
  (J.stop i H ∧ D.nx σ H) ∨ (J.go i H ∧ ∃ N : St → Hp → Prop, (∀ σ' H', N σ' H' → ∃ m', m' < m ∧ W (i + 1) m' σ' H') ∧ ∀ x H', J.yld i H x H' → g x σ H' fun σ2 H2 => tb { D with nx := N, ct := N, bk := D.nx } σ2 H2)
def pinsAt (fp : List Addr) (h : Heap) : List (Addr × Obj) := fp.filterMap fun b => (h.get? b).map fun o => (b, o)
theorem mem_pinsAt {fp : List Addr} {h : Heap} {b : Addr} {o : Obj} (hb : b ∈ fp) (e : h.get? b = some o) : (b, o) ∈ pinsAt fp h := List.mem_filterMap.mpr ⟨b, hb, by rw [e]; rfl⟩
theorem of_pinsAt {fp : List Addr} {h : Heap} {p : Addr × Obj} (hp : p ∈ pinsAt fp h) : p.1 ∈ fp ∧ h.get? p.1 = some p.2 := by
  obtain ⟨b, hb, e⟩ := List.mem_filterMap.mp hp
  cases q : h.get? b with
  | none => rw [q] at e; cases e
  | some o =>
    rw [q] at e
    have e' : (b, o) = p := Option.some.inj e
    subst e'
    exact ⟨hb, q⟩
theorem Inv.pinned {pins : List (Addr × Obj)} {σ : St} {H : Hp} {s : Shared} {fp : List Addr} (I : Inv X pins σ H s) (hf : ∀ b ∈ fp, FpOk X pins H b) (ho : ∀ b ∈ fp, ∃ o, s.heap.get? b = some o ∧ ∀ v, o.data ≠ .cell v) : Inv X (pins ++ pinsAt fp s.heap) σ H s :=
  I.pins_of fun p hp => (List.mem_append.mp hp).elim (fun z => I.pin p (List.mem_append_right _ z)) fun z => by
    obtain ⟨hb, e⟩ := of_pinsAt z
    obtain ⟨f0, f1, f2, _⟩ := hf p.1 hb
    obtain ⟨o, e', d⟩ := ho p.1 hb
    rw [e] at e'; cases e'
    exact ⟨e, f0, f1, f2, d⟩
theorem Inv.unpinned {pins pl : List (Addr × Obj)} {σ : St} {H : Hp} {s : Shared} (I : Inv X (pins ++ pl) σ H s) : Inv X pins σ H s := I.pins_of fun p hp => I.pin p (List.mem_append_right _ (List.mem_append_left _ hp))
theorem ps_for {iter : Expr} {body : List Stmt} {wi : TI} {g : TG} {tb : TS} {pos : Pos} (hp : PassesOwn (model X.prog X.w) X.A X.env X.xe) (hc : X.calm = true) (hi : PI X tg iter wi) (hg : PG X tg g) (hb : PSs X body tb)
    (hs : ∀ x, foldedSetIterable iter X.env x = pure x := by intro _; rfl) : PS X (.For tg iter body [] pos) (tFor wi g tb) := by
  intro pins s σ H D I h
  refine wpAny_For (thn (hi pins s σ H _ I h) fun v s1 h1 => thn h1 fun itv s2 h2 => ?_) hs
  obtain ⟨it, fp, tn, J, H2, e, I2, T, st2, f2, W, ⟨m0, w0⟩, turn⟩ := h2
  subst e
  -- what stays true of the iterator's objects through the loop
  have stat : ∀ {H' : Hp}, (∀ b ∈ fp, H' b = none) → ∀ b ∈ fp, FpOk X pins H' b := fun hn b hb => ⟨hn b hb, (f2 b hb).2⟩
  refine codeAny_forLoop_any (fun n s' => ∃ i σ' H', Inv X pins σ' H' s' ∧ tn i s'.heap ∧ (∀ b ∈ fp, H' b = none) ∧ W i n σ' H') ?_ m0 ⟨0, σ, H2, I2, st2, fun b hb => (f2 b hb).1, w0⟩
  rintro n s3 ⟨i, σ3, H3, I3, st3, fr3, w3⟩
  rcases turn i n σ3 H3 w3 with ⟨stop, qn⟩ | ⟨go, N, hN, step⟩
  · refine wpAny_passesOwn hp (thn (T.done X rfl rfl rfl hc i pins s3 σ3 H3 X.xe I3 (stat fr3) st3 stop) fun r s4 ⟨hr, I4⟩ => ?_)
    subst hr
    exact wpAny_execs_nil ⟨σ3, H3, I4, qn⟩
  · refine wpAny_passesOwn hp (thn (T.item X rfl rfl rfl hc i pins s3 σ3 H3 X.xe I3 (stat fr3) st3 go) fun r s4 ⟨u, hr, h4⟩ => ?_)
    subst hr
    refine wpAny_passesOwn hp (thn h4 fun _ s5 ⟨x, H5, I5, r5, y5, st5, fr5⟩ => ?_)
    have I5' := I5.pinned (stat fr5) (T.obj _ _ st5)
    refine wpAny_passesOwn hp (thn (hg _ s5 σ3 H5 x u _ I5' r5 (step x H5 y5)) fun _ s6 ⟨σ6, H6, I6, q6⟩ => ?_)
    refine wpAny_passesOwn hp (thn (hb _ s6 σ6 H6 _ I6 q6) fun f s7 q7 => ?_)
    have again : ∀ {σ7 : St} {H7 : Hp}, Inv X (pins ++ pinsAt fp s5.heap) σ7 H7 s7 → N σ7 H7 → ∃ m, m < n ∧ ∃ i σ' H', Inv X pins σ' H' s7 ∧ tn i s7.heap ∧ (∀ b ∈ fp, H' b = none) ∧ W i m σ' H' := fun {σ7 H7} I7 n7 => by
      obtain ⟨m', hm, w7⟩ := hN σ7 H7 n7
      refine ⟨m', hm, i + 1, σ7, H7, I7.unpinned, T.keep _ _ _ st5 fun b hb o e => (I7.pin (b, o) (List.mem_append_right _ (List.mem_append_right _ (mem_pinsAt hb e)))).1, fun b hb => ?_, w7⟩
      obtain ⟨o, e, d⟩ := T.obj _ _ st5 b hb
      exact (I7.pin (b, o) (List.mem_append_right _ (List.mem_append_right _ (mem_pinsAt hb e)))).2.1
    cases f with
    | next => obtain ⟨σ7, H7, I7, n7⟩ := q7; exact again I7 n7
    | cont => obtain ⟨σ7, H7, I7, n7⟩ := q7; exact again I7 n7
    | brk => obtain ⟨σ7, H7, I7, q7⟩ := q7; exact ⟨σ7, H7, I7.unpinned, q7⟩
    | ret v => obtain ⟨x7, σ7, H7, I7, r7, q7⟩ := q7; exact ⟨x7, σ7, H7, I7.unpinned, r7, q7⟩
end

theorem for_list {K : PySem.W.Frag} {a : Addr} {xs : List V} {g : TG} {tb : TS} {D : Ends} {σ : St} {H : Hp} (Pv : Nat → St → Hp → Prop) (h0 : Pv 0 σ H) (hl : ∀ i σ H, i ≤ xs.length → Pv i σ H → SqL K H a xs)
    (hs : ∀ i x σ H, xs[i]? = some x → Pv i σ H → g x σ H fun σ2 H2 => tb { D with nx := Pv (i + 1), ct := Pv (i + 1), bk := D.nx } σ2 H2) (hd : ∀ σ H, Pv xs.length σ H → D.nx σ H) :
    ∃ W : Nat → Nat → St → Hp → Prop, (∃ m, W 0 m σ H) ∧ ∀ i m σ H, W i m σ H →
      ((Itl K a).stop i H ∧ D.nx σ H) ∨ ((Itl K a).go i H ∧ ∃ N : St → Hp → Prop, (∀ σ' H', N σ' H' → ∃ m', m' < m ∧ W (i + 1) m' σ' H') ∧ ∀ x H', (Itl K a).yld i H x H' → g x σ H' fun σ2 H2 => tb { D with nx := N, ct := N, bk := D.nx } σ2 H2) := by
  refine ⟨fun i m σ H => m = xs.length - i ∧ i ≤ xs.length ∧ Pv i σ H, ⟨xs.length, by simp, Nat.zero_le _, h0⟩, ?_⟩
  rintro i m σ H ⟨rfl, hi, p⟩
  have q := hl i σ H hi p
  by_cases hlt : i < xs.length
  · refine .inr ⟨⟨xs, xs[i], q, by simp [hlt]⟩, Pv (i + 1), fun σ' H' p' => ⟨xs.length - (i + 1), by omega, rfl, hlt, p'⟩, fun x H' y => ?_⟩
    obtain ⟨e, y⟩ := y
    subst e
    exact hs i x σ _ (y xs q) p
  · have e : i = xs.length := by omega
    subst e
    exact .inl ⟨⟨xs, q, Nat.le_refl _⟩, hd σ H p⟩
theorem for_tup {K : PySem.W.Frag} {a : Addr} {xs : List V} {g : TG} {tb : TS} {D : Ends} {σ : St} {H : Hp} (Pv : Nat → St → Hp → Prop) (h0 : Pv 0 σ H) (hl : ∀ i σ H, i ≤ xs.length → Pv i σ H → SqT K H a xs)
    (hs : ∀ i x σ H, xs[i]? = some x → Pv i σ H → g x σ H fun σ2 H2 => tb { D with nx := Pv (i + 1), ct := Pv (i + 1), bk := D.nx } σ2 H2) (hd : ∀ σ H, Pv xs.length σ H → D.nx σ H) :
    ∃ W : Nat → Nat → St → Hp → Prop, (∃ m, W 0 m σ H) ∧ ∀ i m σ H, W i m σ H →
      ((Itt K a).stop i H ∧ D.nx σ H) ∨ ((Itt K a).go i H ∧ ∃ N : St → Hp → Prop, (∀ σ' H', N σ' H' → ∃ m', m' < m ∧ W (i + 1) m' σ' H') ∧ ∀ x H', (Itt K a).yld i H x H' → g x σ H' fun σ2 H2 => tb { D with nx := N, ct := N, bk := D.nx } σ2 H2) := by
  refine ⟨fun i m σ H => m = xs.length - i ∧ i ≤ xs.length ∧ Pv i σ H, ⟨xs.length, by simp, Nat.zero_le _, h0⟩, ?_⟩
  rintro i m σ H ⟨rfl, hi, p⟩
  have q := hl i σ H hi p
  by_cases hlt : i < xs.length
  · refine .inr ⟨⟨xs, xs[i], q, by simp [hlt]⟩, Pv (i + 1), fun σ' H' p' => ⟨xs.length - (i + 1), by omega, rfl, hlt, p'⟩, fun x H' y => ?_⟩
    obtain ⟨e, y⟩ := y
    subst e
    exact hs i x σ _ (y xs q) p
  · have e : i = xs.length := by omega
    subst e
    exact .inl ⟨⟨xs, q, Nat.le_refl _⟩, hd σ H p⟩
theorem for_range {lo : Int} {n : Nat} {g : TG} {tb : TS} {D : Ends} {σ : St} {H : Hp} (Pv : Nat → St → Hp → Prop) (h0 : Pv 0 σ H)
    (hs : ∀ i σ H, i < n → Pv i σ H → g (.int (lo + i)) σ H fun σ2 H2 => tb { D with nx := Pv (i + 1), ct := Pv (i + 1), bk := D.nx } σ2 H2) (hd : ∀ σ H, Pv n σ H → D.nx σ H) :
    ∃ W : Nat → Nat → St → Hp → Prop, (∃ m, W 0 m σ H) ∧ ∀ i m σ H, W i m σ H →
      ((Itr lo n).stop i H ∧ D.nx σ H) ∨ ((Itr lo n).go i H ∧ ∃ N : St → Hp → Prop, (∀ σ' H', N σ' H' → ∃ m', m' < m ∧ W (i + 1) m' σ' H') ∧ ∀ x H', (Itr lo n).yld i H x H' → g x σ H' fun σ2 H2 => tb { D with nx := N, ct := N, bk := D.nx } σ2 H2) := by
  refine ⟨fun i m σ H => m = n - i ∧ i ≤ n ∧ Pv i σ H, ⟨n, by simp, Nat.zero_le _, h0⟩, ?_⟩
  rintro i m σ H ⟨rfl, hi, p⟩
  by_cases hlt : i < n
  · refine .inr ⟨hlt, Pv (i + 1), fun σ' H' p' => ⟨n - (i + 1), by omega, rfl, hlt, p'⟩, fun x H' y => ?_⟩
    obtain ⟨e, y⟩ := y
    subst e y
    exact hs i σ _ hlt p
  · have e : i = n := by omega
    subst e
    exact .inl ⟨Nat.le_refl _, hd σ H p⟩
theorem while_by {c : TT} {tb : TS} {D : Ends} {σ : St} {H : Hp} (Pv : St → Hp → Prop) (μ : St → Hp → Nat) (h0 : Pv σ H)
    (hs : ∀ σ H, Pv σ H → c σ H fun b H1 => if b = true then tb { D with nx := fun σ' H' => Pv σ' H' ∧ μ σ' H' < μ σ H, ct := fun σ' H' => Pv σ' H' ∧ μ σ' H' < μ σ H, bk := D.nx } σ H1 else D.nx σ H1)
    (mono : ∀ σ H Q Q', (∀ b H1, Q b H1 → Q' b H1) → c σ H Q → c σ H Q') : tWhile c tb D σ H := by
  refine ⟨fun m σ H => m = μ σ H ∧ Pv σ H, ⟨_, rfl, h0⟩, ?_⟩
  rintro m σ H ⟨rfl, p⟩
  refine mono σ H _ _ (fun b H1 q => ?_) (hs σ H p)
  cases b with
  | true => exact ⟨_, fun σ' H' ⟨p', l⟩ => ⟨_, l, rfl, p'⟩, q⟩
  | false => exact q
end L2

namespace L2
open PySem PySem.Spec PyProof.Rows

abbrev R2 := V → V → Hp → VK → Prop
def OpR (X : Cx) (f : Value → Value → Sem Value) (r : R2) : Prop :=
  ∀ (pins : List (Addr × Obj)) (s : Shared) (σ : St) (H : Hp) (x y : V) (v u : Value) (Q : VK), Inv X pins σ H s → RelV x v → RelV y u → r x y H Q →
    wpAny (model X.prog X.w) X.A (f v u) (EP X pins σ Q) X.xe s
def UnR (X : Cx) (f : Value → Sem Value) (r : V → Hp → VK → Prop) : Prop :=
  ∀ (pins : List (Addr × Obj)) (s : Shared) (σ : St) (H : Hp) (x : V) (v : Value) (Q : VK), Inv X pins σ H s → RelV x v → r x H Q →
    wpAny (model X.prog X.w) X.A (f v) (EP X pins σ Q) X.xe s
def CallR (X : Cx) (f : Value) (r : List V → Hp → VK → Prop) : Prop :=
  ∀ (pins : List (Addr × Obj)) (s : Shared) (σ : St) (H : Hp) (xs : List V) (us : List Value) (Q : VK), Inv X pins σ H s → Vals xs us → r xs H Q →
    wpAny (model X.prog X.w) X.A (call f us) (EP X pins σ Q) X.xe s
def tOp (r : R2) (ta tb : TE) : TE := fun σ H Q => ta σ H fun x H1 => tb σ H1 fun y H2 => r x y H2 Q
def tUn (r : V → Hp → VK → Prop) (ta : TE) : TE := fun σ H Q => ta σ H fun x H1 => r x H1 Q
def rI (C : Int → Int → Prop) (g : Int → Int → V) : R2 := fun x y H Q => ∃ i j, x = .int i ∧ y = .int j ∧ C i j ∧ Q (g i j) H
def rI0 (g : Int → Int → V) : R2 := fun x y H Q => ∃ i j, x = .int i ∧ y = .int j ∧ Q (g i j) H
def rU (g : Int → V) : V → Hp → VK → Prop := fun x H Q => ∃ i, x = .int i ∧ Q (g i) H

section
variable {X : Cx} {a b c : Expr} {ta tb tc : TE} {pos : Pos}

theorem binT (ha : PE X a ta) (hb : PE X b tb) {pins : List (Addr × Obj)} {s : Shared} {σ : St} {H : Hp} {R : V → V → Hp → Prop} (I : Inv X pins σ H s)
    (h : ta σ H fun x H1 => tb σ H1 fun y H2 => R x y H2) {Q : Value → Shared → Prop} {f : Value → Value → Sem Value}
    (hf : ∀ v u s2 x y H2, Inv X pins σ H2 s2 → RelV x v → RelV y u → R x y H2 → wpAny (model X.prog X.w) X.A (f v u) Q X.xe s2) :
    wpAny (model X.prog X.w) X.A (eval a X.env) (fun v s₁ => wpAny (model X.prog X.w) X.A (eval b X.env) (fun u s₂ => wpAny (model X.prog X.w) X.A (f v u) Q X.xe s₂) X.xe s₁) X.xe s := by
  refine thn (ha pins s σ H _ I h) fun v s1 ⟨x, H1, I1, r1, q1⟩ => ?_
  refine thn (hb pins s1 σ H1 _ I1 q1) fun u s2 ⟨y, H2, I2, r2, q2⟩ => ?_
  exact hf v u s2 x y H2 I2 r1 r2 q2

theorem pe_op {op : Operator} {r : R2} (ho : OpR X (binaryOp op) r) (ha : PE X a ta) (hb : PE X b tb) : PE X (.BinOp a op b pos) (tOp r ta tb) := by
  intro pins s σ H Q I h
  exact wpAny_BinOp (binT ha hb I h fun v u s2 x y H2 I2 rx ry q => ho pins s2 σ H2 x y v u Q I2 rx ry q)
theorem pe_un {op : UnaryOp} {r : V → Hp → VK → Prop} (ho : UnR X (unaryOp op) r) (ha : PE X a ta) : PE X (.UnaryOp op a pos) (tUn r ta) := by
  intro pins s σ H Q I h
  exact UnaryOp_ (thn (ha pins s σ H _ I h) fun v s1 ⟨x, H1, I1, r1, q1⟩ => ho pins s1 σ H1 x v Q I1 r1 q1)
theorem opI {f : Value → Value → Sem Value} {C : Int → Int → Prop} {g : Int → Int → Int}
    (rule : ∀ (i j : Int) (t u : Tok) (s : Shared) (Q : Value → Shared → Prop) (E : Value → Shared → Prop), C i j → Q (.int (g i j) s.toks) { s with toks := s.toks + 1 } → wpAny (model X.prog X.w) X.A (f (.int i t) (.int j u)) Q E s) :
    OpR X f (rI C fun i j => .int (g i j)) := by
  intro pins s σ H x y v u Q I rx ry h
  obtain ⟨i, j, rfl, rfl, hc, q⟩ := h
  obtain ⟨t, rfl⟩ := rx
  obtain ⟨t', rfl⟩ := ry
  exact rule i j t t' s _ _ hc ⟨.int (g i j), H, I.tok _, ⟨_, rfl⟩, q⟩
theorem opI0 {f : Value → Value → Sem Value} {g : Int → Int → Int}
    (rule : ∀ (i j : Int) (t u : Tok) (s : Shared) (Q : Value → Shared → Prop) (E : Value → Shared → Prop), Q (.int (g i j) s.toks) { s with toks := s.toks + 1 } → wpAny (model X.prog X.w) X.A (f (.int i t) (.int j u)) Q E s) :
    OpR X f (rI0 fun i j => .int (g i j)) := by
  intro pins s σ H x y v u Q I rx ry h
  obtain ⟨i, j, rfl, rfl, q⟩ := h
  obtain ⟨t, rfl⟩ := rx
  obtain ⟨t', rfl⟩ := ry
  exact rule i j t t' s _ _ ⟨.int (g i j), H, I.tok _, ⟨_, rfl⟩, q⟩
theorem opB0 {f : Value → Value → Sem Value} {g : Int → Int → Bool}
    (rule : ∀ (i j : Int) (t u : Tok) (s : Shared) (Q : Value → Shared → Prop) (E : Value → Shared → Prop), Q (.bool (g i j)) s → wpAny (model X.prog X.w) X.A (f (.int i t) (.int j u)) Q E s) :
    OpR X f (rI0 fun i j => .bl (g i j)) := by
  intro pins s σ H x y v u Q I rx ry h
  obtain ⟨i, j, rfl, rfl, q⟩ := h
  obtain ⟨t, rfl⟩ := rx
  obtain ⟨t', rfl⟩ := ry
  exact rule i j t t' s _ _ ⟨.bl (g i j), H, I, rfl, q⟩

def CPow (i j : Int) : Prop := 0 ≤ j ∧ j ≤ 1000000 ∧ i.natAbs < 2 ^ 64
def CMul (i j : Int) : Prop := (-(2 ^ 64) < i ∧ i < 2 ^ 64) ∨ (-(2 ^ 64) < j ∧ j < 2 ^ 64)
theorem CMul.ok {i j : Int} (h : CMul i j) : IntMulOk i j := by
  rcases h with ⟨h1, h2⟩ | ⟨h1, h2⟩
  · exact .of_left (intBits_le_64 h1 h2)
  · exact .of_right (intBits_le_64 h1 h2)
theorem op_add : OpR X (binaryOp .Add) (rI0 fun i j => .int (i + j)) := opI0 fun _ _ _ _ _ _ _ q => add_int q
theorem op_sub : OpR X (binaryOp .Sub) (rI0 fun i j => .int (i - j)) := opI0 fun _ _ _ _ _ _ _ q => sub_int q
theorem op_mul : OpR X (binaryOp .Mult) (rI CMul fun i j => .int (i * j)) := opI fun _ _ _ _ _ _ _ hc q => mul_int q hc.ok
theorem op_mod : OpR X (binaryOp .Mod) (rI (fun _ j => 0 < j) fun i j => .int (i % j)) := opI fun i j _ _ _ _ _ hc q => by
  have h1 : (0 : Int) < j := hc
  exact mod_int' (by omega) (by rw [Int.fmod_eq_emod_of_nonneg i (by omega)]; exact q)
theorem op_pow : OpR X (binaryOp .Pow) (rI CPow fun i j => .int (i ^ j.toNat)) := opI fun _ _ _ _ _ _ _ hc q => pow_int_small hc.1 hc.2.1 hc.2.2 q
theorem unI {f : Value → Sem Value} {g : Int → Int}
    (rule : ∀ (i : Int) (t : Tok) (s : Shared) (Q : Value → Shared → Prop) (E : Value → Shared → Prop), Q (.int (g i) s.toks) { s with toks := s.toks + 1 } → wpAny (model X.prog X.w) X.A (f (.int i t)) Q E s) :
    UnR X f (rU fun i => .int (g i)) := by
  intro pins s σ H x v Q I rx h
  obtain ⟨i, rfl, q⟩ := h
  obtain ⟨t, rfl⟩ := rx
  exact rule i t s _ _ ⟨.int (g i), H, I.tok _, ⟨_, rfl⟩, q⟩
theorem un_neg : UnR X (unaryOp .USub) (rU fun i => .int (-i)) := unI fun _ _ _ _ _ q => neg_int q
end

def scal : V → V → Bool
  | .non, .non => true | .non, .int _ => true | .int _, .non => true | .non, .bl _ => true | .bl _, .non => true | .non, .str _ => true | .str _, .non => true
  | .int _, .int _ => true | .bl _, .bl _ => true | .str _, .str _ => true | .byt _, .byt _ => true
  | .int _, .str _ => true | .str _, .int _ => true | .bl _, .str _ => true | .str _, .bl _ => true
  | _, _ => false
def rEq : R2 := fun x y H Q => scal x y = true ∧ Q (.bl (decide (x = y))) H
def rNe : R2 := fun x y H Q => scal x y = true ∧ Q (.bl (!decide (x = y))) H

theorem dec_int {i j : Int} : decide (V.int i = V.int j) = (i == j) := by
  rw [Bool.eq_iff_iff]
  simp
theorem dec_bl {i j : Bool} : decide (V.bl i = V.bl j) = (i == j) := by
  rw [Bool.eq_iff_iff]
  simp
theorem dec_str {i j : Str} : decide (V.str i = V.str j) = (i == j) := by
  rw [Bool.eq_iff_iff]
  simp
theorem dec_byt {i j : Array UInt8} : decide (V.byt i = V.byt j) = (i.toList == j.toList) := by
  rw [Bool.eq_iff_iff]
  cases i
  cases j
  simp

section
variable {X : Cx} {a b c : Expr} {ta tb tc : TE} {pos : Pos}
theorem fin_bl {pins : List (Addr × Obj)} {σ : St} {H : Hp} {s : Shared} {Q : VK} {k k' : Bool} (I : Inv X pins σ H s) (q : Q (.bl k) H) (e : k = k') : EP X pins σ Q (.bool k') s := by
  subst e
  exact ⟨.bl k, H, I, rfl, q⟩
theorem op_eq : OpR X (compareOp .Eq) rEq := by
  intro pins s σ H x y v u Q I rx ry h
  obtain ⟨hs, q⟩ := h
  cases x with
  | non =>
    cases rx
    cases y with
    | non => cases ry; exact PySem.EqNone.eq_none_none (fin_bl I q (by simp))
    | bl j => cases ry; exact PySem.EqNone.eq_none_bool (fin_bl I q (by simp))
    | int j => obtain ⟨t', rfl⟩ := ry; exact PySem.EqNone.eq_none_int (fin_bl I q (by simp))
    | str j => obtain ⟨t', rfl⟩ := ry; exact PySem.EqNone.eq_none_str (fin_bl I q (by simp))
    | _ => exact absurd (show false = true from hs) Bool.false_ne_true
  | bl i =>
    cases rx
    cases y with
    | non => cases ry; exact PySem.EqNone.eq_bool_none (fin_bl I q (by simp))
    | bl j => cases ry; exact eq_bool (fin_bl I q dec_bl)
    | str j => obtain ⟨t', rfl⟩ := ry; exact PySem.EqMixed.eq_bool_str (fin_bl I q (by simp))
    | _ => exact absurd (show false = true from hs) Bool.false_ne_true
  | int i =>
    obtain ⟨t, rfl⟩ := rx
    cases y with
    | non => cases ry; exact PySem.EqNone.eq_int_none (fin_bl I q (by simp))
    | int j => obtain ⟨t', rfl⟩ := ry; exact eq_int (fin_bl I q dec_int)
    | str j => obtain ⟨t', rfl⟩ := ry; exact PySem.EqMixed.eq_int_str (fin_bl I q (by simp))
    | _ => exact absurd (show false = true from hs) Bool.false_ne_true
  | str i =>
    obtain ⟨t, rfl⟩ := rx
    cases y with
    | non => cases ry; exact PySem.EqNone.eq_str_none (fin_bl I q (by simp))
    | bl j => cases ry; exact PySem.EqMixed.eq_str_bool (fin_bl I q (by simp))
    | int j => obtain ⟨t', rfl⟩ := ry; exact PySem.EqMixed.eq_str_int (fin_bl I q (by simp))
    | str j => obtain ⟨t', rfl⟩ := ry; exact eq_str (fin_bl I q dec_str)
    | _ => exact absurd (show false = true from hs) Bool.false_ne_true
  | byt i =>
    obtain ⟨t, rfl⟩ := rx
    cases y with
    | byt j => obtain ⟨t', rfl⟩ := ry; exact PySem.W.eq_bytes (fin_bl I q dec_byt)
    | _ => exact absurd (show false = true from hs) Bool.false_ne_true
  | _ => cases y <;> exact absurd (show false = true from hs) Bool.false_ne_true
theorem op_ne : OpR X (compareOp .NotEq) rNe := by
  intro pins s σ H x y v u Q I rx ry h
  obtain ⟨hs, q⟩ := h
  cases x with
  | non =>
    cases rx
    cases y with
    | non => cases ry; exact PySem.EqNone.ne_none_none (fin_bl I q (by simp))
    | bl j => cases ry; exact PySem.EqNone.ne_none_bool (fin_bl I q (by simp))
    | int j => obtain ⟨t', rfl⟩ := ry; exact PySem.EqNone.ne_none_int (fin_bl I q (by simp))
    | str j => obtain ⟨t', rfl⟩ := ry; exact PySem.EqNone.ne_none_str (fin_bl I q (by simp))
    | _ => exact absurd (show false = true from hs) Bool.false_ne_true
  | bl i =>
    cases rx
    cases y with
    | non => cases ry; exact PySem.EqNone.ne_bool_none (fin_bl I q (by simp))
    | bl j => cases ry; exact ne_bool (fin_bl I q (congrArg not dec_bl))
    | str j => obtain ⟨t', rfl⟩ := ry; exact PySem.EqMixed.ne_bool_str (fin_bl I q (by simp))
    | _ => exact absurd (show false = true from hs) Bool.false_ne_true
  | int i =>
    obtain ⟨t, rfl⟩ := rx
    cases y with
    | non => cases ry; exact PySem.EqNone.ne_int_none (fin_bl I q (by simp))
    | int j => obtain ⟨t', rfl⟩ := ry; exact ne_int (fin_bl I q (congrArg not dec_int))
    | str j => obtain ⟨t', rfl⟩ := ry; exact PySem.EqMixed.ne_int_str (fin_bl I q (by simp))
    | _ => exact absurd (show false = true from hs) Bool.false_ne_true
  | str i =>
    obtain ⟨t, rfl⟩ := rx
    cases y with
    | non => cases ry; exact PySem.EqNone.ne_str_none (fin_bl I q (by simp))
    | bl j => cases ry; exact PySem.EqMixed.ne_str_bool (fin_bl I q (by simp))
    | int j => obtain ⟨t', rfl⟩ := ry; exact PySem.EqMixed.ne_str_int (fin_bl I q (by simp))
    | str j => obtain ⟨t', rfl⟩ := ry; exact ne_str (fin_bl I q (congrArg not dec_str))
    | _ => exact absurd (show false = true from hs) Bool.false_ne_true
  | byt i =>
    obtain ⟨t, rfl⟩ := rx
    cases y with
    | byt j => obtain ⟨t', rfl⟩ := ry; exact PySem.W.ne_bytes (fin_bl I q (congrArg not dec_byt))
    | _ => exact absurd (show false = true from hs) Bool.false_ne_true
  | _ => cases y <;> exact absurd (show false = true from hs) Bool.false_ne_true

theorem op_lt : OpR X (compareOp .Lt) (rI0 fun i j => .bl (decide (i < j))) := opB0 fun _ _ _ _ _ _ _ q => lt_int q
theorem op_le : OpR X (compareOp .LtE) (rI0 fun i j => .bl (decide (i ≤ j))) := opB0 fun _ _ _ _ _ _ _ q => le_int q
theorem op_gt : OpR X (compareOp .Gt) (rI0 fun i j => .bl (decide (j < i))) := opB0 fun _ _ _ _ _ _ _ q => gt_int q
theorem op_ge : OpR X (compareOp .GtE) (rI0 fun i j => .bl (decide (j ≤ i))) := opB0 fun _ _ _ _ _ _ _ q => ge_int q
theorem op_isN : OpR X (compareOp .Is) (fun x y H Q => y = .non ∧ Q (.bl (decide (x = .non))) H) := by
  intro pins s σ H x y v u Q I rx ry h
  obtain ⟨rfl, q⟩ := h
  cases ry
  refine is_none_gen (fin_bl I q ?_)
  cases x <;> first
    | (cases rx; rfl)
    | (obtain ⟨t, rfl⟩ := rx; rfl)
theorem op_notN : OpR X (compareOp .IsNot) (fun x y H Q => y = .non ∧ Q (.bl (!decide (x = .non))) H) := by
  intro pins s σ H x y v u Q I rx ry h
  obtain ⟨rfl, q⟩ := h
  cases ry
  refine isnot_none_gen (fin_bl I q ?_)
  cases x <;> first
    | (cases rx; rfl)
    | (obtain ⟨t, rfl⟩ := rx; rfl)

theorem nomark (b : Expr) {op : CmpOp} (h : op ≠ .In := by decide) (h2 : op ≠ .NotIn := by decide) : behindInMarks op b = false := by
  have e1 : (op == CmpOp.In) = false := by cases op <;> first | rfl | exact absurd rfl h
  have e2 : (op == CmpOp.NotIn) = false := by cases op <;> first | rfl | exact absurd rfl h2
  cases b <;> simp [behindInMarks, e1, e2]
theorem pe_cmpR {op : CmpOp} {r : R2} (ho : OpR X (compareOp op) r) (ha : PE X a ta) (hb : PE X b tb) (hm : behindInMarks op b = false) : PE X (.Compare a [op] [b] pos) (tOp r ta tb) := by
  intro pins s σ H Q I h
  exact wpAny_Compare1 (binT ha hb I h fun v u s2 x y H2 I2 rx ry q => ho pins s2 σ H2 x y v u Q I2 rx ry q) hm
def tTest (t : TE) : TT := fun σ H Q => t σ H fun x H' => ∃ k, x = .bl k ∧ Q k H'
theorem pt_cmpR {op : CmpOp} {r : R2} (ho : OpR X (compareOp op) r) (ha : PE X a ta) (hb : PE X b tb) (hm : behindInMarks op b = false) : PT X (.Compare a [op] [b] pos) (tTest (tOp r ta tb)) := by
  intro pins s σ H Q I h
  refine wpAny_isTrue_Compare1 (thn (ha pins s σ H _ I h) fun v s1 ⟨x, H1, I1, r1, q1⟩ => thn (hb pins s1 σ H1 _ I1 q1) fun u s2 ⟨y, H2, I2, r2, q2⟩ =>
    thn (ho pins s2 σ H2 x y v u _ I2 r1 r2 q2) fun c s3 ⟨z, H3, I3, r3, k, e, q3⟩ => ?_) hm
  subst e
  cases r3
  exact wpAny_truthy_bool ⟨H3, I3, q3⟩
def tChain (r r' : R2) (ta tb tc : TE) : TE := fun σ H Q => ta σ H fun x H1 => tb σ H1 fun y H2 => r x y H2 fun z H3 => ∃ k, z = .bl k ∧
  (if k = true then tc σ H3 fun w' H4 => r' y w' H4 Q else Q (.bl false) H3)
theorem pt_chain {op op' : CmpOp} {r r' : R2} (ho : OpR X (compareOp op) r) (ho' : OpR X (compareOp op') r') (ha : PE X a ta) (hb : PE X b tb) (hc : PE X c tc)
    (hm : lastMarks [op, op'] [b, c] = false := by with_unfolding_all rfl) : PT X (.Compare a [op, op'] [b, c] pos) (tTest (tChain r r' ta tb tc)) := by
  intro pins s σ H Q I h
  refine isTrue_chain (thn (ha pins s σ H _ I h) fun v s1 ⟨x, H1, I1, r1, q1⟩ => test_link (thn (hb pins s1 σ H1 _ I1 q1) fun u s2 ⟨y, H2, I2, r2, q2⟩ =>
    thn (ho pins s2 σ H2 x y v u _ I2 r1 r2 q2) fun d s3 ⟨z, H3, I3, r3, k, e, q3⟩ => ?_)) hm
  subst e
  cases r3
  refine wpAny_truthy_bool ?_
  cases k with
  | false =>
    obtain ⟨k', e', q'⟩ := q3
    cases e'
    exact ite_ff ⟨H3, I3, q'⟩
  | true =>
    refine ite_tt (test_last (thn (hc pins s3 σ H3 _ I3 q3) fun w' s4 ⟨z', H4, I4, r4, q4⟩ => thn (ho' pins s4 σ H4 y z' u w' _ I4 r2 r4 q4) fun d' s5 ⟨z2, H5, I5, r5, k2, e2, q5⟩ => ?_))
    subst e2
    cases r5
    exact wpAny_truthy_bool ⟨H5, I5, q5⟩

theorem line63 : (sizeLine : Nat) < 2 ^ 63 := by rw [sizeLine_eq]; decide
theorem vals1 {x : V} {us : List Value} (r : Vals [x] us) : ∃ u, us = [u] ∧ RelV x u := by
  cases r with
  | cons r1 r2 => cases r2; exact ⟨_, rfl, r1⟩
theorem vals2 {x y : V} {us : List Value} (r : Vals [x, y] us) : ∃ u w', us = [u, w'] ∧ RelV x u ∧ RelV y w' := by
  cases r with
  | cons r1 r2 =>
    cases r2 with
    | cons r3 r4 => cases r4; exact ⟨_, _, rfl, r1, r3⟩
theorem call_abs : CallR X (.builtin "abs") (fun xs H Q => ∃ i, xs = [.int i] ∧ Q (.int (if i < 0 then -i else i)) H) := by
  intro pins s σ H xs us Q I r h
  obtain ⟨i, rfl, q⟩ := h
  obtain ⟨u, rfl, t, rfl⟩ := vals1 r
  exact call_abs_int fun u tk => ⟨.int (if i < 0 then -i else i), H, I.tok _, ⟨_, rfl⟩, q⟩
end
end L2

namespace L2
open PySem PySem.Spec PyProof.Rows

structure ObjM (h : Heap) (x dx C : Addr) (mA : Str → Option Value) : Prop where
  obj : h.get? x = some (PySem.W.instObj C dx)
  ns : h.Ns1 dx mA
  ne : dx ≠ x

theorem lookIn_ns {h : Heap} {dx : Addr} {mA : Str → Option Value} (n : h.Ns1 dx mA) : ∃ od, h.get? dx = some od ∧ ∀ name, PySem.W.lookIn name od = some (mA name) := by
  obtain ⟨o, es, ep, ho, hd, hk, _, hm⟩ := n
  refine ⟨o, ho, fun name => ?_⟩
  have e := hm name
  unfold nsFind findBy at e
  rw [← Array.find?_toList] at e
  unfold PySem.W.lookIn
  rw [hd]
  dsimp only
  split
  · rename_i y q
    rw [q] at e
    exact congrArg some e
  · rename_i q
    rw [q] at e
    have a : es.toList.any (·.refKey) = false := by
      rw [List.any_eq_false]
      intro y hy
      obtain ⟨z, t, hkey⟩ := hk y (Array.mem_toList_iff.mp hy)
      simp [DictEntry.refKey, hkey]
    have a' : ¬ es.toList.any (·.refKey) = true := by rw [a]; exact Bool.false_ne_true
    rw [if_neg a']
    exact congrArg some e

theorem ObjM.look {h : Heap} {x dx C : Addr} {mA : Str → Option Value} (I : ObjM h x dx C mA) : ∃ od, PySem.W.InstAt h x (PySem.W.instObj C dx) C (some od) ∧ ∀ name, PySem.W.lookIn name od = some (mA name) :=
  let ⟨od, ho, hl⟩ := lookIn_ns I.ns
  ⟨od, ⟨I.obj, rfl, rfl, ho⟩, hl⟩

section
variable {prog : Program} {w : World} {A : Around} {E : Value → Shared → Prop} {s : Shared} {K : PySem.W.Frag} {x dx C f : Addr} {mA : Str → Option Value} {name : Str} {v : Value}

end

section
variable {P : Program} {w : World} {H H' : Hp} {h h' : Heap} {a C dx : Addr} {fs fs' : List (Str × V)}
theorem ins_get (hok : HOk P w H h) (e : H a = some (.ins C dx fs)) : ∃ mA, ObjM h a dx C mA ∧ (∀ f, RelO (fs.lookup f) (mA f)) ∧ PySem.Within mA (fs.map (·.1)) ∧ fs.length ≤ 1000 ∧ H dx = some (.own a) := by
  obtain ⟨d, z, ne, ob, mA, n, r, q⟩ := (show ObjOk P w H h a (.ins C dx fs) from hok a _ e)
  exact ⟨mA, ⟨ob, n, ne⟩, r, q, z, d⟩
end

structure Cls (K : PySem.W.Frag) (C : Addr) : Prop where
  pg : PySem.W.plainGet K C Str.empty = true
  hd : PySem.W.hasDictIn K C = true
  po : PySem.W.plainOver K C = true
  sa : PySem.W.findIn K (.ref C) "__setattr__" = some (some (.builtin "object.__setattr__"))
theorem Cls.get {K : PySem.W.Frag} {C : Addr} (c : Cls K C) (f : Str) : PySem.W.plainGet K C f = true := c.pg
structure Con (K : PySem.W.Frag) (C : Addr) (f : Str) (v : V) (u : Value) : Prop where
  at_ : PySem.W.findIn K (.ref C) f = some (some u)
  rel : RelV v u
  get : PySem.W.specialIn K u "__get__" = some none
  cp : PySem.W.copiedNames.contains f = false
structure Meth (K : PySem.W.Frag) (C : Addr) (m : Str) (f : Addr) : Prop where
  at_ : PySem.W.findIn K (.ref C) m = some (some (.ref f))
  fn : PySem.W.isFn K (.ref f) = true
  kp : PySem.W.keepIn K (.ref f) = true

section
variable {X : Cx} {pins : List (Addr × Obj)} {σ : St} {H : Hp} {s : Shared} {a C dx : Addr} {fs : List (Str × V)} {f : Str} {v : V} {A : Around} {E : Value → Shared → Prop}

end

section
variable {X : Cx} {o e value : Expr} {f : Str} {pos pos' tpos : Pos} {ta tv : TE}
end

section
variable {X : Cx} {pins : List (Addr × Obj)} {σ : St} {H : Hp} {s : Shared} {A : Around} {E : Value → Shared → Prop} {Q : Value → Shared → Prop} {c : Value} {b : Bool}
inductive TyOf (K : PySem.W.Frag) (H : Hp) : V → Value → Prop where
  | non : TyOf K H .non (.type "NoneType")
  | bl (x : Bool) : TyOf K H (.bl x) (.type "bool")
  | int (i : Int) : TyOf K H (.int i) (.type "int")
  | str (x : Str) : TyOf K H (.str x) (.type "str")
  | flt (x : UInt64) : TyOf K H (.flt x) (.type "float")
  | lst {a : Addr} {xs : List V} (e : H a = some (.lst xs)) : TyOf K H (.ref a) (.type "list")
  | frz {a : Addr} {o : Obj} {xs : List V} (e : H a = some (.frz o (.lst xs))) : TyOf K H (.ref a) (.type "list")
  | tup {a : Addr} {xs : List V} (e : H a = some (.tup xs)) : TyOf K H (.ref a) (.type "tuple")
  | dK {a : Addr} {kvs : List (Key × V)} (e : H a = some (.dK kvs)) : TyOf K H (.ref a) (.type "dict")
  | dT {a : Addr} {kvs : List (List Key × V)} (e : H a = some (.dT kvs)) : TyOf K H (.ref a) (.type "dict")
  | ins {a C dx : Addr} {fs : List (Str × V)} (e : H a = some (.ins C dx fs)) (cl : Cls K C) (ha : PySem.W.findIn K (.ref C) "__class__" = some (some (.builtin "object.__class__")))
      (hn : PySem.W.specialIn K (.builtin "object.__class__") "__get__" = some (some (.builtin "getset_descriptor.__get__"))) (htk : PySem.W.takesIn K (.builtin "object.__class__") = some true)
      (hm : PySem.W.mroIn K C (.type "object") = some true) : TyOf K H (.ref a) (.ref C)
theorem isinst_ok {x : V} {u t : Value} (I : Inv X pins σ H s) (rx : RelV x u) (ty : TyOf X.K H x t) (e : PySem.W.kitOne X.K t c = some b) (h : ∀ tk, Q (.bool b) { s with toks := tk }) :
    wpAny (model X.prog X.w) A (call (.builtin "isinstance") [u, c]) Q E s := by
  cases ty with
  | non => cases (show u = Value.none from rx); exact PySem.W.kia_one PySem.W.kitx_none I.kIn True.intro e (fun z => nomatch z) h
  | bl y => cases (show u = Value.bool y from rx); exact PySem.W.kia_one PySem.W.kitx_bool I.kIn True.intro e (fun z => nomatch z) h
  | int i => obtain ⟨t, q⟩ := (show ∃ t, u = Value.int i t from rx); cases q; exact PySem.W.kia_one PySem.W.kitx_int I.kIn True.intro e (fun z => nomatch z) h
  | str y => obtain ⟨t, q⟩ := (show ∃ t, u = Value.str y t from rx); cases q; exact PySem.W.kia_one PySem.W.kitx_str I.kIn True.intro e (fun z => nomatch z) h
  | flt y => obtain ⟨t, q⟩ := (show ∃ t, u = Value.float y t from rx); cases q; exact PySem.W.kia_one PySem.W.kitx_float I.kIn True.intro e (fun z => nomatch z) h
  | @lst a xs ea =>
    cases (show u = Value.ref a from rx)
    obtain ⟨_, _, n, _, h1⟩ := (show ObjOk X.prog X.w H s.heap a (.lst xs) from I.hok a _ ea)
    exact PySem.W.kia_one PySem.W.kitx_list I.kIn ⟨_, h1, rfl⟩ e (fun z => nomatch z) h
  | @frz a ob xs ea =>
    cases (show u = Value.ref a from rx)
    obtain ⟨_, _, _, n, _, h1⟩ := (show ObjOk X.prog X.w H s.heap a (.frz ob (.lst xs)) from I.hok a _ ea)
    exact PySem.W.kia_one PySem.W.kitx_list I.kIn ⟨_, h1, rfl⟩ e (fun z => nomatch z) h
  | @tup a xs ea =>
    cases (show u = Value.ref a from rx)
    obtain ⟨_, _, _, p⟩ := (show ObjOk X.prog X.w H s.heap a (.tup xs) from I.hok a _ ea)
    obtain ⟨o, h1, h2, _⟩ := p
    exact PySem.W.kia_one PySem.W.kitx_tuple I.kIn ⟨o, h1, h2⟩ e (fun z => nomatch z) h
  | @dK a kvs ea =>
    cases (show u = Value.ref a from rx)
    obtain ⟨_, _, vs, _, p⟩ := (show ObjOk X.prog X.w H s.heap a (.dK kvs) from I.hok a _ ea)
    obtain ⟨o, es, ep, h1, h2, _⟩ := p
    exact PySem.W.kia_one PySem.W.kitx_dict I.kIn ⟨o, h1, h2.1⟩ e (fun z => nomatch z) h
  | @dT a kvs ea =>
    cases (show u = Value.ref a from rx)
    obtain ⟨_, _, xs, _, o, es, ep, h1, h2, _⟩ := (show ObjOk X.prog X.w H s.heap a (.dT kvs) from I.hok a _ ea)
    exact PySem.W.kia_one PySem.W.kitx_dict I.kIn ⟨o, h1, h2.1⟩ e (fun z => nomatch z) h
  | @ins a C dx fs ea cl ha hn htk hm =>
    cases (show u = Value.ref a from rx)
    obtain ⟨mA, O, _⟩ := ins_get I.hok ea
    obtain ⟨od, J, _⟩ := O.look
    exact PySem.W.kia_one (PySem.W.kitx_own (cl.get _) cl.hd ha hn htk hm) I.kIn J e (fun z => nomatch z) h
end
end L2

namespace L2
open PySem PySem.Spec PyProof.Rows

structure Room (k : Nat) (A : Around) : Prop where
  hd : A.handled = none
  dp : A.depth + 3 * k + 5 < recursionLimit
  un : A.units + 16 * k + 200 < cLine
theorem Room.mono {j k : Nat} {A : Around} (r : Room k A) (h : j ≤ k) : Room j A := ⟨r.hd, by have := r.dp; omega, by have := r.un; omega⟩
theorem Room.deeper {k : Nat} {A : Around} (r : Room (k + 1) A) (env : Env) : Room k (A.deeper env) :=
  ⟨r.hd, by have := r.dp; show A.depth + 1 + 3 * k + 5 < _; omega, by have := r.un; show A.units + 3 + 16 * k + 200 < _; omega⟩
theorem Room.depth {k : Nat} {A : Around} (r : Room k A) : A.depth < recursionLimit := by have := r.dp; omega
theorem Room.units {k : Nat} {A : Around} (r : Room k A) : A.units + 64 < cLine := by have := r.un; omega
theorem Room.units0 {k : Nat} {A : Around} (r : Room k A) : A.units < cLine := by have := r.un; omega

def tNil : TA := fun _ H Q => Q [] H
def tCons (ta : TE) (tr : TA) : TA := fun σ H Q => ta σ H fun x H1 => tr σ H1 fun xs H2 => Q (x :: xs) H2
section
variable {X : Cx} {e : Expr} {es : List Expr} {te : TE} {t : TA} {pos : Pos}
theorem pa_nil : PA X [] tNil := fun _ _ _ _ H Q I h => Calls.spliced_nil ⟨[], H, I, .nil, h⟩
theorem pa_cons (ha : PE X e te) (hr : PA X es t) (hs : starEach (e :: es) X.env = (false, eval e X.env) :: starEach es X.env := by rfl) : PA X (e :: es) (tCons te t) := by
  intro pos pins s σ H Q I h
  rw [hs]
  show wpAny _ _ (spliced ((false, eval e X.env) :: backTo pos (starEach es X.env))) _ _ s
  refine Calls.spliced_cons (thn (ha pins s σ H _ I h) fun u s1 ⟨x, H1, I1, r1, q1⟩ => ?_)
  exact thn (hr pos pins s1 σ H1 _ I1 q1) fun us s2 ⟨xs, H2, I2, r2, q2⟩ => ⟨x :: xs, H2, I2, .cons r1 r2, q2⟩

def tTup (t : TA) : TE := fun σ H Q => t σ H fun xs H1 => xs.length ≤ sizeLine ∧ ∀ p, H1 p = none → Q (.ref p) (upd H1 p (.tup xs))
def tLst (t : TA) : TE := fun σ H Q => t σ H fun xs H1 => xs.length ≤ sizeLine ∧ ∀ p, H1 p = none → Q (.ref p) (upd H1 p (.lst xs))
theorem pe_tup {x1} (h : PA X es t) : PE X (.Tuple es x1 pos) (tTup t) := by
  intro pins s σ H Q I hq
  refine wpAny_Tuple_spliced (thn (h pos pins s σ H _ I hq) fun us s1 ⟨xs, H1, I1, r, z, q⟩ => ⟨by rw [← r.length]; exact z, ?_⟩)
  have hf : H1 s1.heap.objs.size = none := I1.hok.fresh (Nat.le_refl _)
  refine ⟨.ref s1.heap.objs.size, upd H1 s1.heap.objs.size (.tup xs), I1.laid (t' := s1.toks) (fun b u e => Heap.get?_push_of_some _ e) (Nat.le_refl _) ?_, rfl, q _ hf⟩
  exact ⟨z, us, r, ⟨_, Heap.get?_push_size _ rfl, rfl, _, rfl⟩⟩
theorem pe_lst (h : PA X es t) : PE X (.List es pos) (tLst t) := by
  intro pins s σ H Q I hq
  refine wpAny_List_spliced (thn (h pos pins s σ H _ I hq) fun us s1 ⟨xs, H1, I1, r, z, q⟩ => ⟨by rw [← r.length]; exact z, ?_⟩)
  have hf : H1 s1.heap.objs.size = none := I1.hok.fresh (Nat.le_refl _)
  refine ⟨.ref s1.heap.objs.size, upd H1 s1.heap.objs.size (.lst xs), I1.laid (t' := s1.toks) (fun b u e => Heap.get?_push_of_some _ e) (Nat.le_refl _) ?_, rfl, q _ hf⟩
  exact ⟨z, us, 0, r, Heap.get?_push_size _ rfl⟩
end

abbrev Sp := List V → Hp → VK → XK → Prop
abbrev CXT := List Env → Hp → Shared → XK → Value → Shared → Prop

structure Env0 (P : Program) (w : World) (K : PySem.W.Frag) (mg : Str → Option Value) (base : Heap) (A : Around) (outer : List Env) (s : Shared) (H : Hp) : Prop where
  frames : A.frames = some outer
  mod : Mod K mg base
  bs : ∀ b o, base.get? b = some o → s.heap.get? b = some o ∧ H b = none
  bsz : base.objs.size ≤ s.heap.objs.size
  funs : s.heap.FunFrames base outer
  frf : ∀ b ∈ frs outer, H b = none
  hok : HOk P w H s.heap
  bare : AllBare s.gens
def CE (outer : List Env) (P : Program) (w : World) (H : Hp) (s : Shared) (Q : VK) (u : Value) (s' : Shared) : Prop :=
  ∃ v H', s'.os = s.os ∧ AllBare s'.gens ∧ Un (frs outer) [] H H' s.heap s'.heap ∧ HOk P w H' s'.heap ∧ RelV v u ∧ Q v H'
def CR (CX : CXT) (outer : List Env) (P : Program) (w : World) (H : Hp) (s : Shared) (Q : VK) (E : XK) (r : Result) (s' : Shared) : Prop :=
  match r with
  | .ok (.ret u) => CE outer P w H s Q u s'
  | .ok _ => False
  | .error e => CX outer H s E e s'
structure FnOk (P : Program) (w : World) (K : PySem.W.Frag) (mg : Str → Option Value) (base : Heap) (CX : CXT) (k : Nat) (f : Addr) (fd : FuncData) (ps : List Str) (sp : Sp) : Prop where
  len : ∀ vs H Q E, sp vs H Q E → vs.length = ps.length
  run : ∀ (A : Around) (outer : List Env) (s : Shared) (H : Hp) (args : Args) (us : List Value) (vs : List V) (Q : VK) (E : XK), Room k A → Env0 P w K mg base A outer s H → BindsTo s fd args (ps.zip us) → Vals vs us → sp vs H Q E →
    codeAny (model P w) A (.call (.ref f) args) (CR CX outer P w H s Q E) s
section
variable {X : Cx} {pins : List (Addr × Obj)} {σ : St} {H : Hp} {s s' : Shared}
theorem Inv.env0 (I : Inv X pins σ H s) : Env0 X.prog X.w X.K X.mg X.base X.A X.stack s H :=
  ⟨I.ok.frames, I.ok.mod, I.bs, Nat.le_trans I.ok.bsz I.sz, I.stack, I.stkFree, I.hok, I.bare⟩
theorem Inv.after {Q : VK} {u : Value} (I : Inv X pins σ H s) (h : CE X.stack X.prog X.w H s Q u s') : EP X pins σ Q u s' := by
  obtain ⟨v, H', os, bare, un, hok, r, q⟩ := h
  obtain ⟨hh, g, d, t, os'⟩ := s'
  obtain rfl : os' = s.os := os
  exact ⟨v, H', I.call (h' := hh) (g' := g) (d' := d) (t' := t) (ch := []) un hok bare (fun b z => absurd z (by simp)), r, q⟩
end

def tCall (sp : Sp) (dvs : List V) (E : XK) (t : TA) : TE := fun σ H Q => t σ H fun vs H1 => sp (vs ++ dvs) H1 Q E
def Binds (K : PySem.W.Frag) (fd : FuncData) (ps : List Str) (ds : List Value) : Prop :=
  ∀ (s : Shared) (us : List Value), K.In s.heap → (us ++ ds).length = ps.length → BindsTo s fd ⟨us, []⟩ (ps.zip (us ++ ds))
theorem Binds.all {K : PySem.W.Frag} {fd : FuncData} {ps : List Str} (h : ∀ us : List Value, us.length = ps.length → bindArgs fd ⟨us, []⟩ = pure (ps.zip us)) : Binds K fd ps [] := fun s us _ hl => by
  rw [List.append_nil] at hl ⊢
  exact .of_eq (h us hl)

def Passes (CX : CXT) (X : Cx) (E : XK) : Prop := ∀ (pins : List (Addr × Obj)) (σ : St) (H : Hp) (s : Shared) (e : Value) (s' : Shared), Inv X pins σ H s → CX X.stack H s E e s' → X.xe e s'

section
variable {X : Cx} {CX : CXT} {k : Nat} {f C : Addr} {fd : FuncData} {ps : List Str} {sp : Sp} {dvs : List V} {ds : List Value} {E : XK} {x m : Str} {p pos apos : Pos} {e o : Expr} {es : List Expr} {ta : TE} {t : TA}

theorem run_fn {pins : List (Addr × Obj)} {σ : St} {H : Hp} {s : Shared} {Q : VK} {us : List Value} {vs : List V} (F : FnOk X.prog X.w X.K X.mg X.base CX k f fd ps sp) (hr : Room k X.A) (hb : Binds X.K fd ps ds) (hd : Vals dvs ds) (hx : Passes CX X E)
    (I : Inv X pins σ H s) (r : Vals vs us) (h : sp (vs ++ dvs) H Q E) : wpAny (model X.prog X.w) X.A (call (.ref f) us) (EP X pins σ Q) X.xe s := by
  have r2 : Vals (vs ++ dvs) (us ++ ds) := r.append hd
  have hl : (us ++ ds).length = ps.length := by rw [← r2.length]; exact F.len _ _ _ _ h
  refine wpAny_call (codeAny_mono (F.run X.A X.stack s H ⟨us, []⟩ (us ++ ds) (vs ++ dvs) Q E hr I.env0 (hb s us I.kIn hl) r2 h) fun r s' hq => ?_)
  cases r with
  | error e => exact hx pins σ H s e s' I hq
  | ok fl =>
    cases fl with
    | ret u => exact I.after hq
    | next => exact False.elim hq
    | brk => exact False.elim hq
    | cont => exact False.elim hq

theorem pe_call (F : FnOk X.prog X.w X.K X.mg X.base CX k f fd ps sp) (hr : Room k X.A) (hg : Gl X x) (hm : X.mg x = some (.ref f)) (hk : PySem.W.keepIn X.K (.ref f) = true) (hb : Binds X.K fd ps ds) (hd : Vals dvs ds) (hx : Passes CX X E)
    (ha : PA X (e :: es) t) (hdb : (x == ("__debug__" : Str)) = false := by decide) (he : starEach (e :: es) X.env = (false, eval e X.env) :: starEach es X.env := by rfl) (hpl : (backTo pos (starEach es X.env)).any (·.1) = false := by rfl) :
    PE X (.Call (.Name x p) (e :: es) [] pos) (tCall sp dvs E t) := by
  intro pins s σ H Q I h
  refine wpAny_Call_Name_kw (ld_glob I hg hm ?_ hdb)
  refine PySem.W.callWith_K (h₀ := X.base) I.ok.mod.kin hk (thn (ha pos pins s σ H _ I h) fun us s1 ⟨vs, H1, I1, r, q⟩ => ⟨I1.kIn, ?_⟩) he hpl
  exact run_fn F hr hb hd hx I1 r q
structure Mk (K : PySem.W.Frag) (C f : Addr) : Prop where
  makes : PySem.W.makesIn K C = true
  init : PySem.W.findIn K (.ref C) "__init__" = some (some (.ref f))
  fn : PySem.W.isFn K (.ref f) = true
  kp : PySem.W.keepIn K (.ref C) = true

end

section
variable {X : Cx} {CX : CXT} {k : Nat} {f C : Addr} {fd : FuncData} {ps ks : List Str} {sp : Sp} {E : XK} {x m : Str} {p pos apos kpos : Pos} {e o : Expr} {es : List Expr} {kws : List Keyword} {te ta : TE} {t tk : TA} {nm : Option Str}
structure KBinds (K : PySem.W.Frag) (fd : FuncData) (ps ks : List Str) (g : List Value → List Value → List Value) (gV : List V → List V → List V) : Prop where
  to : ∀ (s : Shared) (us ws : List Value), K.In s.heap → (g us ws).length = ps.length → BindsTo s fd ⟨us, ks.zip ws⟩ (ps.zip (g us ws))
  rel : ∀ {vs : List V} {us : List Value} {zs : List V} {ws : List Value}, Vals vs us → Vals zs ws → Vals (gV vs zs) (g us ws)
variable {g : List Value → List Value → List Value} {gV : List V → List V → List V}
end

structure FnScope (N P : List Str) (sc : Scope) : Prop where
  kind : sc.kind = .function
  co : sc.isCoroutine = false
  gen : sc.isGenerator = false
  nd : N.Nodup
  pre : N.take P.length = P
  par : ∀ x ∈ P, sc.names.lookup x = some .local ∨ sc.names.lookup x = some .cell
  nofree : ∀ y ∈ sc.names, y.2 ≠ .free

theorem bindL_out {kindOf : Str → Option NameKind} {x : Str} : ∀ {binds : List (Str × Value)} {m : Str → Option Value}, (∀ v, (x, v) ∉ binds) → bindL kindOf binds m x = m x
  | [], _, _ => rfl
  | (n, v) :: r, m, h => by
    unfold bindL
    rw [bindL_out fun w hw => h w (List.mem_cons_of_mem _ hw)]
    split
    · have : x ≠ n := by rintro rfl; exact h v List.mem_cons_self
      simp [this]
    · rfl
theorem bindC_out {kindOf : Str → Option NameKind} {x : Str} : ∀ {binds : List (Str × Value)} {m : Str → Option Value}, (∀ v, (x, v) ∉ binds) → bindC kindOf binds m x = m x
  | [], _, _ => rfl
  | (n, v) :: r, m, h => by
    unfold bindC
    rw [bindC_out fun w hw => h w (List.mem_cons_of_mem _ hw)]
    split
    · rfl
    · have : x ≠ n := by rintro rfl; exact h v List.mem_cons_self
      simp [this]
theorem bindL_get {kindOf : Str → Option NameKind} {x : Str} {v : Value} : ∀ {P : List Str} {vs : List Value} {i : Nat} {m : Str → Option Value}, P.Nodup → P[i]? = some x → vs[i]? = some v → kindOf x = some .local →
    bindL kindOf (P.zip vs) m x = some v
  | [], _, _, _, _, h, _, _ => by simp at h
  | _ :: _, [], _, _, _, _, h, _ => by simp at h
  | p :: P, w :: vs, 0, m, nd, h1, h2, hk => by
    simp at h1 h2; subst h1; subst h2
    show bindL kindOf ((p, w) :: P.zip vs) m p = _
    unfold bindL
    rw [bindL_out fun v hv => (List.nodup_cons.mp nd).1 (List.of_mem_zip hv).1, if_pos hk]
    simp
  | p :: P, w :: vs, i + 1, m, nd, h1, h2, hk => by
    show bindL kindOf ((p, w) :: P.zip vs) m x = _
    unfold bindL
    exact bindL_get (i := i) (List.nodup_cons.mp nd).2 (by simpa using h1) (by simpa using h2) hk
theorem bindC_get {kindOf : Str → Option NameKind} {x : Str} {v : Value} : ∀ {P : List Str} {vs : List Value} {i : Nat} {m : Str → Option Value}, P.Nodup → P[i]? = some x → vs[i]? = some v → kindOf x ≠ some .local →
    bindC kindOf (P.zip vs) m x = some v
  | [], _, _, _, _, h, _, _ => by simp at h
  | _ :: _, [], _, _, _, _, h, _ => by simp at h
  | p :: P, w :: vs, 0, m, nd, h1, h2, hk => by
    simp at h1 h2; subst h1; subst h2
    show bindC kindOf ((p, w) :: P.zip vs) m p = _
    unfold bindC
    rw [bindC_out fun v hv => (List.nodup_cons.mp nd).1 (List.of_mem_zip hv).1, if_neg hk]
    simp
  | p :: P, w :: vs, i + 1, m, nd, h1, h2, hk => by
    show bindC kindOf ((p, w) :: P.zip vs) m x = _
    unfold bindC
    exact bindC_get (i := i) (List.nodup_cons.mp nd).2 (by simpa using h1) (by simpa using h2) hk

def start (N : List Str) (vs : List V) : St := vs.map some ++ List.replicate (N.length - vs.length) none

def cxOf (CX : CXT) (P : Program) (w : World) (K : PySem.W.Frag) (mg : Str → Option Value) (base : Heap) (N : List Str) (qual : Str) (scope : Scope) (f : Addr) (cd : Value) (A : Around) (outer : List Env) (s : Shared) (H : Hp) (E : XK) : Cx where
  prog := P
  w := w
  K := K
  mg := mg
  base := base
  A := A.deeper (envOfC qual scope s.heap.objs.size f cd)
  N := N
  s₀ := s
  H₀ := H
  env := envOfC qual scope s.heap.objs.size f cd
  outer := outer
  stack := envOfC qual scope s.heap.objs.size f cd :: outer
  ex := []
  calm := true
  fn := fun _ => true
  pn := []
  xe := fun e s' => wpAny (model P w) (A.deeper (envOfC qual scope s.heap.objs.size f cd)) (leaving (envOfC qual scope s.heap.objs.size f cd) e) (fun _ s'' => CX outer H s E e s'') (fun e' s'' => CX outer H s E e' s'') s'

theorem cell_has {sc : Scope} {n : Nat} {x : Str} (h : sc.names.lookup x = some .cell) : ∃ c, (cellsFrom n sc.names []).lookup x = some c := by
  have q := PySem.W.cellsFrom_some sc.names n [] (.inl h)
  exact Option.isSome_iff_exists.mp q

theorem inv_start {CX : CXT} {P : Program} {w : World} {K : PySem.W.Frag} {mg : Str → Option Value} {base : Heap} {N ps : List Str} {qual : Str} {scope : Scope} {f : Addr} {cd : Value} {A : Around} {outer : List Env} {s s1 : Shared} {H : Hp} {E : XK} {us : List Value} {vs : List V}
    (S : FnScope N ps scope) (hd : A.handled = none) (e0 : Env0 P w K mg base A outer s H) (hl : vs.length = ps.length) (r : Vals vs us)
    (x : InCallC s s.heap.objs.size (bindL (envOfC qual scope s.heap.objs.size f cd).kindOf (ps.zip us) fun _ => none) (cellsFrom (s.heap.objs.size + 1) scope.names []) (bindC (envOfC qual scope s.heap.objs.size f cd).kindOf (ps.zip us) fun _ => none) s1) :
    Inv (cxOf CX P w K mg base N qual scope f cd A outer s H E) [] (start N vs) H s1 := by
  have hpl : ps.length ≤ N.length := by have := congrArg List.length S.pre; rw [List.length_take] at this; omega
  obtain ⟨h1, tk, rfl, hk⟩ := x.done
  have noA : ∀ b : Addr, b ∉ (cxOf CX P w K mg base N qual scope f cd A outer s H E).ex := fun b z => absurd (show b ∈ ([] : List Addr) from z) (by simp)
  refine ⟨⟨e0.mod, S.kind, rfl, rfl, Nat.le_refl _, fun y z c h1 h2 => ?_, fun y hy => ?_, fun y c _ h => ?_, fun _ => hd, Around.frames_deeper e0.frames, .inr ⟨rfl, rfl⟩, fun b z => absurd z (noA b), e0.bs, e0.bsz, fun b _ _ => noA b, fun b z => absurd z (noA b), e0.funs, e0.frf⟩,
    rfl, e0.bare, Un.kept hk, ⟨_, x.toInCall.ns, fun i y v h1 h2 h3 => ?_⟩, fun y c h => ⟨_, x.cell y c h⟩, e0.hok.fresh (Nat.le_refl _), fun y c h => ?_, fun p hp => absurd (show p ∈ ([] : List (Addr × Obj)) from hp) (by simp), e0.hok.kept hk, ?_⟩
  · exact name_of_addr x.apart (PySem.mem_of_lookup h1) (PySem.mem_of_lookup h2)
  · have hy : scope.names.lookup y = some .cell ∨ scope.names.lookup y = some .free := hy
    rcases hy with hy | hy
    · exact cell_has hy
    · exact absurd rfl (S.nofree _ (PySem.mem_of_lookup hy))
  · exact Nat.le_of_lt (x.above y c (PySem.mem_of_lookup h))
  · have hi : i < vs.length := by
      unfold start at h2
      by_cases hi : i < vs.length
      · exact hi
      · rw [List.getElem?_append_right (by simpa using hi)] at h2
        rw [List.getElem?_replicate] at h2
        split at h2 <;> cases h2
    have ha : vs[i]? = some v := by
      unfold start at h2
      rw [List.getElem?_append_left (by simpa using hi), List.getElem?_map] at h2
      cases e : vs[i]? with
      | none => rw [e] at h2; cases h2
      | some a => rw [e] at h2; cases h2; rfl
    obtain ⟨u, hu, rv⟩ := r.get ha
    have hp : ps[i]? = some y := by
      rw [← S.pre, List.getElem?_take_of_lt (by omega)]; exact h1
    have ndP : ps.Nodup := by rw [← S.pre]; exact S.nd.sublist (List.take_sublist _ _)
    refine ⟨u, rv, ?_⟩
    rcases S.par y (List.mem_of_getElem? hp) with k | k
    · exact .inl ⟨k, bindL_get ndP hp hu k⟩
    · obtain ⟨c, e⟩ := cell_has (n := s.heap.objs.size + 1) k
      refine .inr ⟨.inl k, c, e, ?_⟩
      have q := x.cell y c e
      rw [bindC_get ndP hp hu (by show scope.names.lookup y ≠ _; rw [k]; decide)] at q
      exact q
  · exact e0.hok.fresh (Nat.le_of_lt (x.above y c (PySem.mem_of_lookup h)))
  · unfold start
    show _ = N.length
    rw [List.length_append, List.length_map, List.length_replicate]
    omega

theorem fn_of {CX : CXT} {P : Program} {w : World} {K : PySem.W.Frag} {mg : Str → Option Value} {base : Heap} {k : Nat} {f : Addr} {name qual : Str} {params : Arguments} {body : List Stmt} {scope : Scope} {dV kV doc pm cdv ct oc : Value} {an od : Option Addr}
    {osl : Array (Option Value)} {N ps : List Str} {sp : Sp} (lk : K.lookup f = some ⟨oc, od, .func (PySem.W.fnOf name qual params body scope dV kV doc pm an cdv ct), osl⟩) (hcd : PySem.W.codeIn K cdv qual = true) (S : FnScope N ps scope)
    (len : ∀ vs H Q E, sp vs H Q E → vs.length = ps.length)
    (hbody : ∀ (A : Around) (outer : List Env) (s : Shared) (H : Hp) (vs : List V) (Q : VK) (E : XK), Room k (A.deeper (envOfC qual scope s.heap.objs.size f cdv)) → sp vs H Q E →
      ∃ t, PSs (cxOf CX P w K mg base N qual scope f cdv A outer s H E) body t ∧ t { nx := fun _ H' => Q .non H', rt := Q } (start N vs) H) :
    FnOk P w K mg base CX (k + 1) f (PySem.W.fnOf name qual params body scope dV kV doc pm an cdv ct) ps sp := by
  refine ⟨len, fun A outer s H args us vs Q E hr e0 hb r hsp => ?_⟩
  have hl := len _ _ _ _ hsp
  have KX : K.In s.heap := e0.mod.kin.keeps fun b o e => (e0.bs b o e).1
  have lim : s.heap.NoLimit := e0.mod.nolimit.keeps fun b o e => (e0.bs b o e).1
  have hkind : ∀ y ∈ ps.zip us, scope.names.lookup y.1 = some .local ∨ (scope.names.lookup y.1 = some .cell ∧ ((cellsFrom (s.heap.objs.size + 1) scope.names []).lookup y.1).isSome = true) := fun ⟨n, v⟩ hy => by
    rcases S.par n (List.of_mem_zip hy).1 with q | q
    · exact .inl q
    · exact .inr ⟨q, PySem.W.cellsFrom_some _ _ _ (.inl q)⟩
  refine codeAny_call_function hr.depth (KX _ _ lk) rfl S.co S.gen rfl (PySem.W.codeRec_of KX hcd) (hb _ _ _ _ ?_)
  refine wpAny_newFunctionEnv_cells S.kind hkind fun env he s1 x => ?_
  subst he
  refine ⟨lim.keeps x.toInCall.keep, codeAny_func ?_⟩
  obtain ⟨t, ht, hq⟩ := hbody A outer s H vs Q E (hr.deeper _) hsp
  have I : Inv (cxOf CX P w K mg base N qual scope f cdv A outer s H E) [] (start N vs) H s1 := inv_start S hr.hd e0 hl r x
  refine wpAny_mono (ht [] s1 (start N vs) H _ I hq) (fun fl s' hs => ?_) fun e s' hs => hs
  have fin : ∀ {σ' : St} {H' : Hp} {v : V} {u : Value}, Inv (cxOf CX P w K mg base N qual scope f cdv A outer s H E) [] σ' H' s' → RelV v u → Q v H' → CE outer P w H s Q u s' :=
    fun {σ' H' v u} J rv q => ⟨v, H', J.os, J.bare, J.base, J.hok, rv, q⟩
  cases fl with
  | ret u =>
    obtain ⟨v, σ', H', J, rv, q⟩ := hs
    exact fin J rv q
  | next =>
    obtain ⟨σ', H', J, q⟩ := hs
    exact fin (v := V.non) (u := Value.none) J rfl q
  | brk =>
    obtain ⟨_, _, _, q⟩ := hs
    exact False.elim q
  | cont =>
    obtain ⟨_, _, _, q⟩ := hs
    exact False.elim q
end L2

namespace L2
open PySem PySem.Spec PyProof.Rows
section
variable {X : Cx} {x : Str} {p pos : Pos} {e : Expr} {es : List Expr} {t : TA} {id T : String} {r : List V → Hp → VK → Prop}

def tCB (r : List V → Hp → VK → Prop) (t : TA) : TE := fun σ H Q => t σ H fun vs H1 => r vs H1 Q
theorem pe_callB (hc : CallR X (.builtin id) r) (hg : Gl X x) (hm : X.mg x = none) (hv : bootBuiltins x = some (.builtin id)) (ha : PA X (e :: es) t) (hn : x ≠ "__name__" := by decide) (hdb : (x == ("__debug__" : Str)) = false := by decide)
    (he : starEach (e :: es) X.env = (false, eval e X.env) :: starEach es X.env := by rfl) (hpl : (backTo pos (starEach es X.env)).any (·.1) = false := by rfl) : PE X (.Call (.Name x p) (e :: es) [] pos) (tCB r t) := by
  intro pins s σ H Q I h
  refine wpAny_Call_Name_kw (ld_blt I hg hm hv ?_ hn hdb)
  exact PyProof.Rows.callWith_builtin1 (thn (ha pos pins s σ H _ I h) fun us s1 ⟨vs, H1, I1, r1, q1⟩ => hc pins s1 σ H1 vs us Q I1 r1 q1) he hpl
theorem pe_callTy (hc : CallR X (.type T) r) (hg : Gl X x) (hm : X.mg x = none) (hv : bootBuiltins x = some (.type T)) (ha : PA X (e :: es) t) (hn : x ≠ "__name__" := by decide) (hdb : (x == ("__debug__" : Str)) = false := by decide)
    (he : starEach (e :: es) X.env = (false, eval e X.env) :: starEach es X.env := by rfl) (hpl : (backTo pos (starEach es X.env)).any (·.1) = false := by rfl) : PE X (.Call (.Name x p) (e :: es) [] pos) (tCB r t) := by
  intro pins s σ H Q I h
  refine wpAny_Call_Name_kw (ld_blt I hg hm hv ?_ hn hdb)
  exact PyProof.Rows.callWith_type1 (thn (ha pos pins s σ H _ I h) fun us s1 ⟨vs, H1, I1, r1, q1⟩ => hc pins s1 σ H1 vs us Q I1 r1 q1) he hpl
end
end L2

namespace HT
open PySem PyProof.Rows

def lexLt : List Int → List Int → Bool
  | [], [] => false
  | [], _ :: _ => true
  | _ :: _, [] => false
  | x :: xs, y :: ys => if x = y then lexLt xs ys else decide (x < y)
section
open PySem.SeqAt
open PySem.AutoSeq1 (wpAny_loadPart')
open PySem.MeetsSeq PySem.MeetsSeq2 PySem.MeetsSeq3

end

section
variable {prog : Program} {w : World} {A : Around} {E : Value → Shared → Prop} {s : Shared}

def sIx (n d : Nat) : Option Int → Nat
  | none => d
  | some v => if v < 0 then (v + (n : Int)).toNat else min v.toNat n
theorem sIx_nat (n d k : Nat) : sIx n d (some (k : Int)) = min k n := by
  show (if (k : Int) < 0 then ((k : Int) + (n : Int)).toNat else min (k : Int).toNat n) = min k n
  rw [if_neg (by omega), Int.toNat_natCast]
theorem sIx_le (n d : Nat) (hd : d ≤ n) (o : Option Int) : sIx n d o ≤ n := by
  cases o with
  | none => exact hd
  | some v =>
    show (if v < 0 then (v + (n : Int)).toNat else min v.toNat n) ≤ n
    by_cases hv : v < 0
    · rw [if_pos hv]; omega
    · rw [if_neg hv]; exact Nat.min_le_right _ _
theorem clip_eq (v : Int) (n d : Nat) : (if v < 0 then max (v + (n : Int)) 0 else min v (n : Int)) = ((sIx n d (some v) : Nat) : Int) := by
  show (if v < 0 then max (v + (n : Int)) 0 else min v (n : Int)) = (((if v < 0 then (v + (n : Int)).toNat else min v.toNat n) : Nat) : Int)
  by_cases hv : v < 0
  · simp only [if_pos hv]; omega
  · simp only [if_neg hv]; omega
theorem adjust_gen (lo hi : Option Int) (n : Nat) : Builtin.Slice.sliceAdjust lo hi 1 (n : Int) = (((sIx n 0 lo : Nat) : Int), ((sIx n n hi : Nat) : Int)) := by
  have h1 : ¬ ((1 : Int) < 0) := by omega
  unfold Builtin.Slice.sliceAdjust
  simp only [h1, if_false]
  refine Prod.ext ?_ ?_
  · cases lo with
    | none => rfl
    | some v => exact clip_eq v n 0
  · cases hi with
    | none => rfl
    | some v => exact clip_eq v n n
theorem places_gen (i j : Nat) : Builtin.Slice.slicePlaces (i : Int) (j : Int) 1 = j - i := by
  unfold Builtin.Slice.slicePlaces
  have h1 : (1 : Int) > 0 := by omega
  simp only [h1, if_true, Int.ediv_one]
  split <;> omega
theorem slicePart_ {v : Value} {o : Option Int} {Q : Option Int → Shared → Prop} (p : IsPart v o) (h : Q o s) : wpAny (model prog w) A (Builtin.Slice.slicePartIndex v) Q E s := by
  cases p with
  | none => exact slicePart_none h
  | int i t => exact slicePart_int h
theorem sliceApplied_gen {sl : Addr} {vl vu : Value} {lo hi : Option Int} {n : Nat} {Q : Int × Int × Nat → Shared → Prop} (hs : s.heap.IsSliceOf sl vl vu .none) (pl : IsPart vl lo) (pu : IsPart vu hi)
    (h : Q (((sIx n 0 lo : Nat) : Int), 1, sIx n n hi - sIx n 0 lo) s) : wpAny (model prog w) A (Builtin.Slice.sliceApplied (.ref sl) (pure (n : Int))) Q E s := by
  obtain ⟨os, hos, hcs, hds⟩ := id hs
  unfold Builtin.Slice.sliceApplied Builtin.Slice.sliceFields
  refine wpAny_bind (wpAny_bind (wpAny_field hos hds (x := vl) rfl (wpAny_bind (wpAny_field hos hds (x := vu) rfl (wpAny_bind (wpAny_field hos hds (x := .none) rfl (wpAny_pure ?_)))))))
  refine wpAny_bind (slicePart_none ?_)
  show wpAny _ _ (if ((1 : Int) == 0) = true then _ else _) _ _ s
  rw [if_neg (by decide)]
  refine wpAny_bind (slicePart_ pl (wpAny_bind (slicePart_ pu (wpAny_bind (wpAny_pure ?_)))))
  show wpAny _ _ (match Builtin.Slice.sliceAdjust lo hi 1 (n : Int) with | (lo, hi) => pure (lo, (1 : Int), Builtin.Slice.slicePlaces lo hi 1)) _ _ s
  rw [adjust_gen lo hi n]
  show wpAny _ _ (pure (((sIx n 0 lo : Nat) : Int), (1 : Int), Builtin.Slice.slicePlaces ((sIx n 0 lo : Nat) : Int) ((sIx n n hi : Nat) : Int) 1)) _ _ s
  rw [places_gen]
  exact wpAny_pure h
theorem pick_gen (xs : Array Value) (i k : Nat) : ((List.range k).filterMap fun (m : Nat) => xs[((i : Int) + (m : Int) * 1).toNat]?).toArray = ((xs.toList.drop i).take k).toArray := by
  have e : (fun (m : Nat) => xs[((i : Int) + (m : Int) * 1).toNat]?) = fun m => xs[i + m]? := by
    funext m
    have : ((i : Int) + (m : Int) * 1).toNat = i + m := by omega
    rw [this]
  rw [e]
  have := pick_run xs i k
  rw [List.filterMap_map] at this
  have e2 : ((fun x => xs[x]?) ∘ fun x => i + x) = fun m => xs[i + m]? := rfl
  rw [e2] at this
  rw [this]

theorem getItem_tuple_cut {t sl : Addr} {items : Array Value} {vl vu : Value} {lo hi : Option Int} {Q : Value → Shared → Prop} (ht : IsTup s.heap t items) (hs : s.heap.IsSliceOf sl vl vu .none) (pl : IsPart vl lo) (pu : IsPart vu hi)
    (hw : ¬ (sIx items.size 0 lo = 0 ∧ sIx items.size items.size hi = items.size))
    (h : Q (.ref s.heap.objs.size) { s with heap := s.heap.push { cls := .type "tuple", data := .seq ((items.toList.drop (sIx items.size 0 lo)).take (sIx items.size items.size hi - sIx items.size 0 lo)).toArray } })
    (hsz : items.size ≤ sizeLine) : wpAny (model prog w) A (getItem (.ref t) (.ref sl)) Q E s := by
  have htake : sizeOk (.seq ((items.toList.drop (sIx items.size 0 lo)).take (sIx items.size items.size hi - sIx items.size 0 lo)).toArray) := by
    show ((items.toList.drop (sIx items.size 0 lo)).take (sIx items.size items.size hi - sIx items.size 0 lo)).toArray.size ≤ sizeLine
    rw [List.size_toArray, List.length_take, List.length_drop, Array.length_toList]
    omega
  have hj : sIx items.size items.size hi ≤ items.size := sIx_le _ _ (Nat.le_refl _) hi
  obtain ⟨os, hos, hcs, hds⟩ := id hs
  have hTs : s.TypeIs (.ref sl) "slice" := ⟨os, hos, hcs⟩
  unfold getItem
  try with_reducible refine wpAny_holding ?_
  first | refine wpAny_bind (wpAny_pure ?_) | skip
  refine wpAny_bind (wpAny_sequenceKey ht.typeIs (by decide) ?_)
  refine wpAny_bind (wpAny_callSpecial?_slot (name := Str.ofString "__getitem__") ht.typeIs PyProof.Rows.slot_tuple_getitem
    (wpAny_call_entry PyProof.Rows.slot_tuple_getitem ht.typeIs entry_tuple_getitem ?_ (args_tuple_getitem _ _)))
  show wpAny _ _ (Builtin.Tuple.tupleItemsOf (.ref t) >>= _) _ _ s
  refine wpAny_bind (tupleItemsOf_ ht ?_)
  refine wpAny_bind (wpAny_typeOf hTs ?_)
  rw [if_pos (by decide)]
  refine wpAny_bind (sliceApplied_gen hs pl pu ?_)
  have hno : ¬ ((((sIx items.size 0 lo : Nat) : Int) == 0 && (1 : Int) == 1 && (sIx items.size items.size hi - sIx items.size 0 lo) == items.size) = true) := by
    intro q
    rw [Bool.and_eq_true, Bool.and_eq_true] at q
    have q1 : ((sIx items.size 0 lo : Nat) : Int) = 0 := eq_of_beq q.1.1
    have q2 : sIx items.size items.size hi - sIx items.size 0 lo = items.size := eq_of_beq q.2
    exact hw ⟨by omega, by omega⟩
  show wpAny _ _ (if (((sIx items.size 0 lo : Nat) : Int) == 0 && (1 : Int) == 1 && (sIx items.size items.size hi - sIx items.size 0 lo) == items.size) = true then _ else _) _ _ s
  rw [if_neg hno, pick_gen]
  first
    | exact wpAny_bind (m := Builtin.Tuple.tupleExact _) (wpAny_newObj_type (wpAny_pure ⟨_, rfl, wpAny_pure h⟩) htake)
    | exact wpAny_bind (m := Builtin.Tuple.tupleExact _) (wpAny_newObj_type (wpAny_bind (wpAny_pure (wpAny_pure ⟨_, rfl, wpAny_pure h⟩))) htake)
    | exact wpAny_bind (wpAny_bind (m := Builtin.Tuple.tupleExact _) (wpAny_newObj_type (wpAny_pure (wpAny_pure ⟨_, rfl, wpAny_pure h⟩)) htake))
    | exact wpAny_bind (wpAny_bind (m := Builtin.Tuple.tupleExact _) (wpAny_newObj_type (wpAny_pure ⟨_, rfl, wpAny_pure h⟩) htake))
end
end HT

namespace L2
open PySem PySem.Spec PyProof.Rows

abbrev TO := St → Hp → (Option Int → Hp → Prop) → Prop
def PO (X : Cx) (e : Option Expr) (t : TO) : Prop :=
  ∀ (pins : List (Addr × Obj)) (s : Shared) (σ : St) (H : Hp) (Q : Option Int → Hp → Prop), Inv X pins σ H s → t σ H Q →
    wpAny (model X.prog X.w) X.A (evalPart e X.env) (fun u s' => ∃ o H', Inv X pins σ H' s' ∧ IsPart u o ∧ Q o H') X.xe s
def tNoPart : TO := fun _ H Q => Q none H
def tPart (t : TE) : TO := fun σ H Q => t σ H fun x H1 => ∃ i, x = .int i ∧ Q (some i) H1

theorem intsAre_of {ns : List Int} : ∀ {us : List Value}, Vals (ns.map V.int) us → IntsAre us ns := by
  induction ns with
  | nil => intro us r; rw [List.map_nil] at r; cases r; exact .nil
  | cons n ns ih =>
    intro us r
    rw [List.map_cons] at r
    cases r with
    | cons r1 r2 =>
      obtain ⟨t, e⟩ := r1
      subst e
      exact .cons n t (ih r2)

section
variable {X : Cx} {e : Expr} {te : TE} {lo hi : Option Expr} {tl th : TO} {pos p2 : Pos}

theorem po_none : PO X none tNoPart := by
  intro pins s σ H Q I h
  rw [evalPart_none]
  exact wpAny_pure ⟨none, H, I, .none, h⟩
theorem po_some (h : PE X e te) : PO X (some e) (tPart te) := by
  intro pins s σ H Q I hw
  rw [evalPart_some]
  refine thn (h pins s σ H _ I hw) fun u s1 ⟨x, H1, I1, r1, q1⟩ => ?_
  obtain ⟨i, rfl, q⟩ := q1
  obtain ⟨t, rfl⟩ := r1
  exact ⟨some i, H1, I1, .int i t, q⟩

def SlR (X : Cx) (r : V → Option Int → Option Int → Hp → VK → Prop) : Prop :=
  ∀ (pins : List (Addr × Obj)) (s : Shared) (σ : St) (H : Hp) (x : V) (v vl vu : Value) (lo hi : Option Int) (sl : Addr) (Q : VK), Inv X pins σ H s → RelV x v → s.heap.IsSliceOf sl vl vu .none → IsPart vl lo → IsPart vu hi → r x lo hi H Q →
    ∃ T id, typeLookup (.type T) "__getitem__" = pure (some (.builtin id)) ∧ s.TypeIs v T ∧ wpAny (model X.prog X.w) X.A (getItem v (.ref sl)) (EP X pins σ Q) X.xe s
def tSl (r : V → Option Int → Option Int → Hp → VK → Prop) (te : TE) (tl th : TO) : TE := fun σ H Q => te σ H fun x H1 => tl σ H1 fun l H2 => th σ H2 fun u H3 => r x l u H3 Q
theorem pe_slice {r : V → Option Int → Option Int → Hp → VK → Prop} (hr : SlR X r) (he : PE X e te) (hl : PO X lo tl) (hu : PO X hi th) : PE X (.Subscript e (.Slice lo hi none p2) pos) (tSl r te tl th) := by
  intro pins s σ H Q I h
  refine Subscript_ (thn (he pins s σ H _ I h) fun v s1 ⟨x, H1, I1, r1, q1⟩ => ?_)
  refine wpAny_Slice (thn (hl pins s1 σ H1 _ I1 q1) fun vl s2 ⟨l, H2, I2, pl, q2⟩ => thn (hu pins s2 σ H2 _ I2 q2) fun vu s3 ⟨u, H3, I3, pu, q3⟩ => ?_)
  rw [evalPart_none]
  refine wpAny_pure ?_
  have I4 : Inv X pins σ H3 { s3 with heap := s3.heap.push { cls := .type "slice", data := .fields #[vl, vu, .none] } } := I3.kept (t' := s3.toks) fun b ob q => Heap.get?_push_of_some _ q
  obtain ⟨T, id, hT, ht, hg⟩ := hr pins { s3 with heap := s3.heap.push { cls := .type "slice", data := .fields #[vl, vu, .none] } } σ H3 x v vl vu l u s3.heap.objs.size Q I4 r1 (Heap.IsSliceOf.new ..) pl pu q3
  show wpAny (model X.prog X.w) X.A (subscriptTail e (.Slice lo hi none p2) v (.ref s3.heap.objs.size)) (EP X pins σ Q) X.xe { s3 with heap := s3.heap.push { cls := .type "slice", data := .fields #[vl, vu, .none] } }
  exact tail_any (ops := [.ref s3.heap.objs.size, v]) ht hT hg (by with_unfolding_all rfl)

def cutV (xs : List V) (lo hi : Option Int) : List V := (xs.drop (HT.sIx xs.length 0 lo)).take (HT.sIx xs.length xs.length hi - HT.sIx xs.length 0 lo)
theorem cutV_length (xs : List V) (lo hi : Option Int) : (cutV xs lo hi).length ≤ xs.length := by
  unfold cutV
  rw [List.length_take, List.length_drop]
  omega
def rSlT (K : PySem.W.Frag) : V → Option Int → Option Int → Hp → VK → Prop := fun x lo hi H Q => ∃ a xs, x = .ref a ∧ SqT K H a xs ∧
  ¬ (HT.sIx xs.length 0 lo = 0 ∧ HT.sIx xs.length xs.length hi = xs.length) ∧ ∀ p, H p = none → Q (.ref p) (upd H p (.tup (cutV xs lo hi)))
theorem sl_tup : SlR X (rSlT X.K) := by
  intro pins s σ H x v vl vu lo hi sl Q I rx hs pl pu h
  obtain ⟨a, xs, rfl, hx, hw, q⟩ := h
  cases rx
  obtain ⟨its, r, ht, hz⟩ := I.tuple hx
  have hlen : its.toArray.size = xs.length := by rw [List.size_toArray]; exact r.length.symm
  refine ⟨"tuple", _, PyProof.Rows.slot_tuple_getitem.lookup, ht.typeIs, ?_⟩
  refine HT.getItem_tuple_cut ht hs pl pu (by rw [hlen]; exact hw) ?_ (by rw [hlen]; exact hz)
  rw [hlen]
  refine ⟨.ref s.heap.objs.size, _, I.laid (t' := s.toks) (o := .tup (cutV xs lo hi)) (fun b ob q => Heap.get?_push_of_some _ q) (Nat.le_refl _) ?_, rfl, q _ (I.hok.fresh (Nat.le_refl _))⟩
  exact ⟨Nat.le_trans (cutV_length xs lo hi) hz, _, (r.drop (HT.sIx xs.length 0 lo)).take (HT.sIx xs.length xs.length hi - HT.sIx xs.length 0 lo), IsTup.new _ _⟩

end
end L2

namespace L2
open PySem PySem.Spec PyProof.Rows

def ixN (n : Nat) (i : Int) : Option Nat := if 0 ≤ i then (if i < n then some i.toNat else none) else if -(n : Int) ≤ i then some (i + n).toNat else none
def atI {α : Type} (xs : List α) (i : Int) : Option α := (ixN xs.length i).bind fun j => xs[j]?
theorem ixN_seq {n : Nat} {i : Int} {j : Nat} (h : ixN n i = some j) : seqIndex? i n = some j ∧ j < n ∧ -(n : Int) ≤ i ∧ i < n := by
  unfold ixN at h
  by_cases h0 : 0 ≤ i
  · rw [if_pos h0] at h
    by_cases h1 : i < n
    · rw [if_pos h1] at h
      have e : i.toNat = j := Option.some.inj h
      exact ⟨by rw [seqIndex_of h0 h1, e], by omega, by omega, h1⟩
    · rw [if_neg h1] at h; cases h
  · rw [if_neg h0] at h
    by_cases h1 : -(n : Int) ≤ i
    · rw [if_pos h1] at h
      have e : (i + n).toNat = j := Option.some.inj h
      exact ⟨by rw [seqIndex_neg (by omega) h1, e], by omega, h1, by omega⟩
    · rw [if_neg h1] at h; cases h
theorem atI_get {α : Type} {xs : List α} {i : Int} {v : α} (h : atI xs i = some v) : ∃ j, seqIndex? i xs.length = some j ∧ xs[j]? = some v ∧ j < xs.length ∧ -(xs.length : Int) ≤ i ∧ i < xs.length := by
  unfold atI at h
  cases e : ixN xs.length i with
  | none => rw [e] at h; cases h
  | some j =>
    rw [e] at h
    obtain ⟨h1, h2, h3, h4⟩ := ixN_seq e
    exact ⟨j, h1, h, h2, h3, h4⟩
theorem atI_nat {α : Type} {xs : List α} {j : Nat} {v : α} (h : xs[j]? = some v) : atI xs (j : Int) = some v := by
  have hj : j < xs.length := (List.getElem?_eq_some_iff.mp h).1
  have e : ixN xs.length (j : Int) = some j := by
    unfold ixN
    rw [if_pos (by omega), if_pos (by omega)]; simp
  unfold atI; rw [e]; exact h
def PlainIx (b : Expr) : Prop := ∀ o i, subscripted b false o i = operate [o, i] (getItem o i)
def IxR (X : Cx) (r : R2) : Prop :=
  ∀ (value slice : Expr) (pins : List (Addr × Obj)) (s : Shared) (σ : St) (H : Hp) (x y : V) (v u : Value) (Q : VK), Inv X pins σ H s → RelV x v → RelV y u → r x y H Q →
    subscripted slice false v u = operate [v, u] (getItem v u) → wpAny (model X.prog X.w) X.A (subscriptTail value slice v u) (EP X pins σ Q) X.xe s
def MtR (X : Cx) (id : String) (r : V → List V → Hp → VK → Prop) : Prop :=
  ∀ (pins : List (Addr × Obj)) (s : Shared) (σ : St) (H : Hp) (x : V) (xs : List V) (v : Value) (us : List Value) (Q : VK), Inv X pins σ H s → RelV x v → Vals xs us → r x xs H Q →
    wpAny (model X.prog X.w) X.A (call (.builtin id) (v :: us)) (EP X pins σ Q) X.xe s
section
variable {X : Cx} {a b : Expr} {ta tb : TE} {pos : Pos}
theorem pe_ix {r : R2} (hr : IxR X r) (ha : PE X a ta) (hb : PE X b tb) (hs : PlainIx b) : PE X (.Subscript a b pos) (tOp r ta tb) := by
  intro pins s σ H Q I h
  exact Subscript_ (binT ha hb I h fun v u s2 x y H2 I2 rx ry q => hr a b pins s2 σ H2 x y v u Q I2 rx ry q (hs _ _))

def rIxL (K : PySem.W.Frag) : R2 := fun x y H Q => ∃ p xs i v, x = .ref p ∧ y = .int i ∧ SqL K H p xs ∧ atI xs i = some v ∧ Q v H
def rIxT (K : PySem.W.Frag) : R2 := fun x y H Q => ∃ p xs i v, x = .ref p ∧ y = .int i ∧ SqT K H p xs ∧ atI xs i = some v ∧ Q v H
theorem ix_list : IxR X (rIxL X.K) := by
  intro value slice pins s σ H x y v u Q I rx ry h hs
  obtain ⟨p, xs, i, z, rfl, rfl, hq, he, q⟩ := h
  cases rx
  obtain ⟨t, rfl⟩ := ry
  obtain ⟨its, r, pl, hz⟩ := I.list hq
  obtain ⟨j, h1, h2, h3, h4, h5⟩ := atI_get he
  obtain ⟨w, ew, rw'⟩ := r.get h2
  have hl := r.length
  have hn := line63
  have fin : EP X pins σ Q w s := ⟨z, H, I, rw', q⟩
  by_cases h0 : 0 ≤ i
  · have hj : i.toNat = j := by
      rw [seqIndex_of h0 h5] at h1
      exact Option.some.inj h1
    exact item_listR pl.isList h0 (by omega) (by rw [hj]; simpa using ew) fin hs
  · have hj : (i + (its.toArray.size : Int)).toNat = j := by
      rw [seqIndex_neg (by omega) h4] at h1
      rw [List.size_toArray, ← hl]
      exact Option.some.inj h1
    exact subscriptTail_builtinR (x := w) pl.isList.typeIs slot_list_getitem.lookup
      (wpAny_getItem_list_neg (Q := fun r s' => r = w ∧ EP X pins σ Q r s') pl.isList (by omega) (by rw [List.size_toArray] <;> omega) (by omega) (by rw [hj]; simpa using ew) ⟨rfl, fin⟩) hs
theorem ix_tup : IxR X (rIxT X.K) := by
  intro value slice pins s σ H x y v u Q I rx ry h hs
  obtain ⟨p, xs, i, z, rfl, rfl, hq, he, q⟩ := h
  cases rx
  obtain ⟨t, rfl⟩ := ry
  obtain ⟨its, r, pl, hz⟩ := I.tuple hq
  obtain ⟨j, h1, h2, h3, h4, h5⟩ := atI_get he
  obtain ⟨w, ew, rw'⟩ := r.get h2
  have hl := r.length
  have hn := line63
  have fin : EP X pins σ Q w s := ⟨z, H, I, rw', q⟩
  exact subscriptTail_builtinR (x := w) pl.typeIs slot_tuple_getitem.lookup
    (getItem_tuple (j := j) (Q := fun r s' => r = w ∧ EP X pins σ Q r s') pl (by omega) (by omega) (by rw [List.size_toArray, ← hl]; exact h1) (by simpa using ew) ⟨rfl, fin⟩) hs
theorem mapSeq_set (its : List Value) (n j : Nat) (u : Value) : Obj.mapSeq (·.setIfInBounds j u) { cls := .type "list", data := .seq its.toArray n } = { cls := .type "list", data := .seq (its.set j u).toArray n } := by
  simp [Obj.mapSeq]
theorem Inv.lst {pins : List (Addr × Obj)} {σ : St} {H : Hp} {s : Shared} {p : Addr} {xs : List V} (I : Inv X pins σ H s) (h : H p = some (.lst xs)) :
    ∃ (its : List Value) (n : Nat), Vals xs its ∧ s.heap.get? p = some { cls := .type "list", data := .seq its.toArray n } ∧ xs.length ≤ sizeLine := by
  obtain ⟨z, its, n, r, e⟩ := I.hok p _ h
  exact ⟨its, n, r, e, z⟩
theorem Inv.lstUpd {pins : List (Addr × Obj)} {σ : St} {H : Hp} {s : Shared} {p : Addr} {xs ys : List V} {its its' : List Value} {n n' : Nat} {f : Obj → Obj} (I : Inv X pins σ H s) (h : H p = some (.lst xs))
    (ho : s.heap.get? p = some { cls := .type "list", data := .seq its.toArray n }) (hf : f { cls := .type "list", data := .seq its.toArray n } = { cls := .type "list", data := .seq its'.toArray n' }) (r : Vals ys its') (hz : ys.length ≤ sizeLine) (t : Nat) :
    Inv X pins σ (upd H p (.lst ys)) { s with heap := s.heap.update p f, toks := t } := by
  have e : (s.heap.update p f).get? p = some { cls := .type "list", data := .seq its'.toArray n' } := by
    rw [Heap.get?_update_self f ho (by rw [hf] <;> rfl), hf]
  refine I.write (x := p) (e := p) (by rw [h]; trivial) (.inl rfl) (fun b u hb q => (Heap.get?_update_other _ _ (Ne.symm hb)).trans q) ⟨_, e⟩ ?_
  exact ⟨hz, its', n', r, e⟩
def rSetL : V → V → V → Hp → (Hp → Prop) → Prop := fun o i v H Q => ∃ p xs k j, o = .ref p ∧ i = .int k ∧ H p = some (.lst xs) ∧ ixN xs.length k = some j ∧ Q (upd H p (.lst (xs.set j v)))
theorem set_list : PSet X rSetL := by
  intro pins s σ H o i v ov iv u Q I ro ri rv h
  obtain ⟨p, xs, k, j, rfl, rfl, hp, hj, q⟩ := h
  cases ro
  obtain ⟨t, rfl⟩ := ri
  obtain ⟨its, n, r, ho, hz⟩ := I.lst hp
  obtain ⟨h1, h2, h3, h4⟩ := ixN_seq hj
  have hl := r.length
  have hn := line63
  have I' : Inv X pins σ (upd H p (.lst (xs.set j v))) { s with heap := s.heap.update p (Obj.mapSeq (·.setIfInBounds j u)) } :=
    I.lstUpd hp ho (mapSeq_set its n j u) (r.set rv j) (by rw [List.length_set]; exact hz) s.toks
  by_cases h0 : 0 ≤ k
  · have hk : k.toNat = j := by
      rw [seqIndex_of h0 h4] at h1
      exact Option.some.inj h1
    exact PySem.W.ki_setAt ho h0 (by omega) (by rw [List.size_toArray, ← hl]; exact h4) (by rw [hk]; exact ⟨_, I', q⟩)
  · have hk : (k + (its.toArray.size : Int)).toNat = j := by
      rw [seqIndex_neg (by omega) h3] at h1
      rw [List.size_toArray, ← hl]
      exact Option.some.inj h1
    exact PySem.W.ki_setBack ho (by omega) (by rw [List.size_toArray, ← hl]; exact h3) (by omega) (by rw [hk]; exact ⟨_, I', q⟩)

theorem slice_bounds (lo hi : Option Int) (n : Nat) : (sliceBounds lo hi none n).1 = ((HT.sIx n 0 lo : Nat) : Int) ∧ (sliceBounds lo hi none n).2.1 = ((HT.sIx n n hi : Nat) : Int) ∧ (sliceBounds lo hi none n).2.2 = 1 := by
  refine ⟨?_, ?_, rfl⟩
  · cases lo with
    | none => simp [sliceBounds, HT.sIx]
    | some i =>
      simp only [sliceBounds, HT.sIx, Option.getD_none, show (1 : Int) > 0 by decide, if_true]
      by_cases h : i < 0
      · simp only [h, if_true] <;> omega
      · simp only [h, if_false] <;> omega
  · cases hi with
    | none => simp [sliceBounds, HT.sIx]
    | some i =>
      simp only [sliceBounds, HT.sIx, Option.getD_none, show (1 : Int) > 0 by decide, if_true]
      by_cases h : i < 0
      · simp only [h, if_true] <;> omega
      · simp only [h, if_false] <;> omega
theorem slicePick_cut (its : List Value) (lo hi : Option Int) : slicePick its.toArray lo hi none = ((its.drop (HT.sIx its.length 0 lo)).take (HT.sIx its.length its.length hi - HT.sIx its.length 0 lo)).toArray := by
  obtain ⟨h1, h2, h3⟩ := slice_bounds lo hi its.toArray.size
  unfold slicePick
  rw [h1, h2, h3]
  simp only [sliceRange_one, pick_run, List.size_toArray] <;> rfl
def rSlL (K : PySem.W.Frag) : V → Option Int → Option Int → Hp → VK → Prop := fun x lo hi H Q => ∃ a xs, x = .ref a ∧ SqL K H a xs ∧ ∀ p, H p = none → Q (.ref p) (upd H p (.lst (cutV xs lo hi)))
theorem sl_list : SlR X (rSlL X.K) := by
  intro pins s σ H x v vl vu lo hi sl Q I rx hs pl pu h
  obtain ⟨a, xs, rfl, hx, q⟩ := h
  cases rx
  obtain ⟨its, r, ht, hz⟩ := I.list hx
  have hlen := r.length
  refine ⟨"list", _, slot_list_getitem.lookup, ht.isList.typeIs, ?_⟩
  refine wpAny_getItem_list_slice ht.isList hs pl pu .none (by simp) ?_ (by rw [List.size_toArray] <;> omega)
  rw [slicePick_cut, ← hlen]
  refine ⟨.ref s.heap.objs.size, _, I.laid (t' := s.toks) (o := .lst (cutV xs lo hi)) (fun b ob q => Heap.get?_push_of_some _ q) (Nat.le_refl _) ?_, rfl, q _ (I.hok.fresh (Nat.le_refl _))⟩
  exact ⟨Nat.le_trans (cutV_length xs lo hi) hz, _, 0, (r.drop (HT.sIx xs.length 0 lo)).take (HT.sIx xs.length xs.length hi - HT.sIx xs.length 0 lo), Heap.get?_push_size _ rfl⟩

def flatV : V → Bool
  | .non => true
  | .bl _ => true
  | .int _ => true
  | .str _ => true
  | _ => false
def eqV : V → V → Bool
  | .non, .non => true
  | .bl a, .bl b => a == b
  | .bl a, .int b => (if a then 1 else 0) == b
  | .int a, .bl b => a == (if b then 1 else 0)
  | .int a, .int b => a == b
  | .str a, .str b => a == b
  | _, _ => false
theorem eqAt_V {A : Around} {s : Shared} {y x : V} {u v : Value} (ry : RelV y u) (rx : RelV x v) (fy : flatV y = true) (fx : flatV x = true) : SeqAt.EqAt A s u v (eqV y x) := by
  cases y with
  | non =>
    cases ry
    cases x with
    | non => cases rx; exact SeqAt.EqAt.same _
    | bl b => cases rx; exact SeqAt.EqAt.none_bool b
    | int b => obtain ⟨t, rfl⟩ := rx; exact SeqAt.EqAt.none_int b t
    | str b => obtain ⟨t, rfl⟩ := rx; exact SeqAt.EqAt.none_str b t
    | _ => exact absurd (show false = true from fx) Bool.false_ne_true
  | bl a =>
    cases ry
    cases x with
    | non => cases rx; exact SeqAt.EqAt.bool_none a
    | bl b => cases rx; exact SeqAt.EqAt.bool_bool a b
    | int b => obtain ⟨t, rfl⟩ := rx; exact SeqAt.EqAt.bool_int a b t
    | str b => obtain ⟨t, rfl⟩ := rx; exact SeqAt.EqAt.bool_str a b t
    | _ => exact absurd (show false = true from fx) Bool.false_ne_true
  | int a =>
    obtain ⟨t', rfl⟩ := ry
    cases x with
    | non => cases rx; exact SeqAt.EqAt.int_none a t'
    | bl b => cases rx; exact SeqAt.EqAt.int_bool a t' b
    | int b => obtain ⟨t, rfl⟩ := rx; exact SeqAt.EqAt.int_int a t' b t
    | str b => obtain ⟨t, rfl⟩ := rx; exact SeqAt.EqAt.int_str a t' b t
    | _ => exact absurd (show false = true from fx) Bool.false_ne_true
  | str a =>
    obtain ⟨t', rfl⟩ := ry
    cases x with
    | non => cases rx; exact SeqAt.EqAt.str_none a t'
    | bl b => cases rx; exact SeqAt.EqAt.str_bool a t' b
    | int b => obtain ⟨t, rfl⟩ := rx; exact SeqAt.EqAt.str_int a t' b t
    | str b => obtain ⟨t, rfl⟩ := rx; exact SeqAt.EqAt.str_str a t' b t
    | _ => exact absurd (show false = true from fx) Bool.false_ne_true
  | _ => exact absurd (show false = true from fy) Bool.false_ne_true
def eqU (x : V) (u : Value) : Bool := match u with
  | .none => eqV .non x
  | .bool b => eqV (.bl b) x
  | .int i _ => eqV (.int i) x
  | .str z _ => eqV (.str z) x
  | _ => false
theorem eqU_of {x y : V} {u : Value} (r : RelV y u) (f : flatV y = true) : eqU x u = eqV y x := by
  cases y with
  | non => cases r; rfl
  | bl b => cases r; rfl
  | int i => obtain ⟨t, rfl⟩ := r; rfl
  | str z => obtain ⟨t, rfl⟩ := r; rfl
  | _ => exact absurd (show false = true from f) Bool.false_ne_true
theorem any_eqU {x : V} : ∀ {xs : List V} {us : List Value}, Vals xs us → xs.all flatV = true → us.any (eqU x) = xs.any fun y => eqV y x
  | _, _, .nil, _ => rfl
  | y :: xs, u :: us, .cons r t, f => by
    rw [List.all_cons, Bool.and_eq_true] at f
    rw [List.any_cons, List.any_cons, eqU_of r f.1, any_eqU t f.2]
theorem mem_eqAt {A : Around} {s : Shared} {x : V} {v : Value} (rx : RelV x v) (fx : flatV x = true) : ∀ {xs : List V} {us : List Value}, Vals xs us → xs.all flatV = true → ∀ u ∈ us, SeqAt.EqAt A s u v (eqU x u)
  | _, _, .nil, _ => fun u hu => by cases hu
  | y :: xs, u :: us, .cons r t, f => fun u' hu => by
    rw [List.all_cons, Bool.and_eq_true] at f
    rcases List.mem_cons.mp hu with rfl | hu
    · rw [eqU_of r f.1]; exact eqAt_V r rx f.1 fx
    · exact mem_eqAt rx fx t f.2 u' hu
def inV (x : V) (xs : List V) : Bool := xs.any fun y => eqV y x
def rIn (K : PySem.W.Frag) (neg : Bool) : R2 := fun x y H Q => ∃ p xs, y = .ref p ∧ (SqL K H p xs ∨ SqT K H p xs) ∧ flatV x = true ∧ xs.all flatV = true ∧ Q (.bl (if neg then !inV x xs else inV x xs)) H
theorem op_notIn_seq : OpR X (compareOp .NotIn) (rIn X.K true) := by
  intro pins s σ H x y v u Q I rx ry h
  obtain ⟨p, xs, rfl, hq, fx, fs, q⟩ := h
  cases ry
  rcases hq with hq | hq
  · obtain ⟨its, r, pl, hz⟩ := I.list hq
    refine SeqAt.notIn_listAt (eqU x) pl.isList (fun w hw => mem_eqAt rx fx r fs w (by simpa using hw)) ⟨.bl _, H, I, rfl, ?_⟩
    rw [show its.toArray.any (eqU x) = its.any (eqU x) by simp, any_eqU r fs]
    exact q
  · obtain ⟨its, r, pl, hz⟩ := I.tuple hq
    refine SeqAt.notIn_tupleAt (eqU x) pl (fun w hw => mem_eqAt rx fx r fs w (by simpa using hw)) ⟨.bl _, H, I, rfl, ?_⟩
    rw [show its.toArray.any (eqU x) = its.any (eqU x) by simp, any_eqU r fs]
    exact q
theorem call_len_seq : CallR X (.builtin "len") (fun xs H Q => ∃ p ys, xs = [.ref p] ∧ (SqL X.K H p ys ∨ SqT X.K H p ys) ∧ Q (.int ys.length) H) := by
  intro pins s σ H xs us Q I r h
  obtain ⟨p, ys, rfl, hq, q⟩ := h
  obtain ⟨u, rfl, rx⟩ := vals1 r
  cases rx
  have hn := line63
  rcases hq with hq | hq
  · obtain ⟨its, r', pl, hz⟩ := I.list hq
    have hlen := r'.length
    exact Calls.call_len_list pl.isList (by simp only [List.size_toArray] <;> omega) ⟨.int ys.length, H, I.tok _, ⟨s.toks + 1, by rw [List.size_toArray, hlen]⟩, q⟩
  · obtain ⟨its, r', pl, hz⟩ := I.tuple hq
    have hlen := r'.length
    exact len_tuple pl (by simp only [List.size_toArray] <;> omega) ⟨.int ys.length, H, I.tok _, ⟨s.toks + 1, by rw [List.size_toArray, hlen]⟩, q⟩
theorem call_list_of : CallR X (.type "list") (fun xs H Q => ∃ p ys, xs = [.ref p] ∧ (SqL X.K H p ys ∨ SqT X.K H p ys) ∧ ∀ l, H l = none → Q (.ref l) (upd H l (.lst ys))) := by
  intro pins s σ H xs us Q I r h
  obtain ⟨p, ys, rfl, hq, q⟩ := h
  obtain ⟨u, rfl, rx⟩ := vals1 r
  cases rx
  have fin : ∀ (its : List Value), Vals ys its → ys.length ≤ sizeLine → ∀ (h' : Heap) (c' : Nat), (∀ b o', s.heap.get? b = some o' → h'.get? b = some o') →
      h'.get? s.heap.objs.size = some { cls := .type "list", dict := none, data := .seq its.toArray c', slots := #[] } → EP X pins σ Q (.ref s.heap.objs.size) { s with heap := h' } := fun its r' hz h' c' kp e =>
    ⟨.ref s.heap.objs.size, _, I.laid (t' := s.toks) kp (Nat.le_refl _) (show ObjOk X.prog X.w _ h' _ (.lst ys) from ⟨hz, its, c', r', e⟩), rfl, q _ (I.hok.fresh (Nat.le_refl _))⟩
  rcases hq with hq | hq
  · obtain ⟨its, r', pl, hz⟩ := I.list hq
    have hlen := r'.length
    obtain ⟨o, ho, hc, n, hd⟩ := pl.isList
    exact call_list_seq p (.inl rfl) ho hc hd (fun h' c' kp e => fin its r' hz h' c' kp e) (by simp only [List.size_toArray] <;> omega)
  · obtain ⟨its, r', pl, hz⟩ := I.tuple hq
    have hlen := r'.length
    obtain ⟨o, ho, hc, n, hd⟩ := pl
    exact call_list_seq p (.inr rfl) ho hc hd (fun h' c' kp e => fin its r' hz h' c' kp e) (by simp only [List.size_toArray] <;> omega)
theorem call_tuple_of : CallR X (.type "tuple") (fun xs H Q => ∃ p ys, xs = [.ref p] ∧ ((SqL X.K H p ys ∧ ∀ l, H l = none → Q (.ref l) (upd H l (.tup ys))) ∨ (SqT X.K H p ys ∧ Q (.ref p) H))) := by
  intro pins s σ H xs us Q I r h
  obtain ⟨p, ys, rfl, h⟩ := h
  obtain ⟨u, rfl, rx⟩ := vals1 r
  cases rx
  rcases h with ⟨hq, q⟩ | ⟨hq, q⟩
  · obtain ⟨its, r', pl, hz⟩ := I.list hq
    have hlen := r'.length
    refine call_tuple_list pl.isList (fun h' kp => ?_) (by simp only [List.size_toArray] <;> omega)
    have I1 : Inv X pins σ H { s with heap := h' } := I.kept (t' := s.toks) kp
    have I2 : Inv X pins σ (upd H h'.objs.size (.tup ys)) { s with heap := h'.push { cls := .type "tuple", data := .seq its.toArray } } :=
      I1.laid (t' := s.toks) (fun b o e => Heap.get?_push_of_some _ e) (Nat.le_refl _) (show ObjOk X.prog X.w _ _ _ (.tup ys) from ⟨hz, its, r', IsTup.new _ _⟩)
    exact ⟨.ref h'.objs.size, _, I2, rfl, q _ (I1.hok.fresh (Nat.le_refl _))⟩
  · obtain ⟨its, r', pl, hz⟩ := I.tuple hq
    exact call_tuple_same pl ⟨.ref p, H, I, rfl, q⟩

def tyV (K : PySem.W.Frag) (T : String) (x : V) (H : Hp) : Prop := match x with
  | .str _ => T = "str"
  | .int _ => T = "int"
  | .ref p => (T = "list" ∧ ∃ xs, SqL K H p xs) ∨ (T = "tuple" ∧ ∃ o, K.lookup p = some o ∧ o.cls = .type "tuple" ∧ o.dict = none) ∨
      (T = "dict" ∧ ((∃ kvs, H p = some (.dK kvs)) ∨ ∃ kvs, H p = some (.dT kvs))) ∨ (T = "set" ∧ ∃ S n, H p = some (.set S n))
  | _ => False
theorem tyV_is {pins : List (Addr × Obj)} {σ : St} {H : Hp} {s : Shared} {T : String} {x : V} {v : Value} (I : Inv X pins σ H s) (r : RelV x v) (ty : tyV X.K T x H) :
    s.TypeIs v T ∧ ∀ a, v = .ref a → ∃ ob, s.heap.get? a = some ob ∧ ob.dict = none := by
  cases x with
  | str z =>
    obtain ⟨t, rfl⟩ := r
    cases (show T = "str" from ty)
    exact ⟨typeIs_str s z t, fun _ e => nomatch e⟩
  | int i =>
    obtain ⟨t, rfl⟩ := r
    cases (show T = "int" from ty)
    exact ⟨typeIs_int s i t, fun _ e => nomatch e⟩
  | ref p =>
    cases r
    rcases ty with ⟨rfl, xs, hq⟩ | ⟨rfl, o, hk, hc, hd⟩ | ⟨rfl, hk⟩ | ⟨rfl, S, n, hk⟩
    · obtain ⟨its, _, pl, _⟩ := I.list hq
      refine ⟨pl.isList.typeIs, fun a e => ?_⟩
      cases e
      obtain ⟨o, n, e, c, hd, _⟩ := pl
      exact ⟨o, e, hd⟩
    · refine ⟨⟨o, I.kIn p o hk, hc⟩, fun a e => ?_⟩
      cases e
      exact ⟨o, I.kIn _ o hk, hd⟩
    · have z : ∃ o, s.heap.get? p = some o ∧ o.ExactDict := by
        rcases hk with ⟨kvs, hk⟩ | ⟨kvs, hk⟩
        · obtain ⟨_, _, _, _, o, _, _, e, ex, _⟩ := I.hok p _ hk
          exact ⟨o, e, ex⟩
        · obtain ⟨_, _, _, _, o, _, _, e, ex, _⟩ := I.hok p _ hk
          exact ⟨o, e, ex⟩
      obtain ⟨o, e, ex⟩ := z
      refine ⟨⟨o, e, ex.1⟩, fun a e2 => ?_⟩
      cases e2
      exact ⟨o, e, ex.2.1⟩
    · obtain ⟨o, _, _, _, e, ex, _⟩ := I.hok p _ hk
      refine ⟨⟨o, e, ex.1⟩, fun a e2 => ?_⟩
      cases e2
      exact ⟨o, e, ex.2.1⟩
  | _ => exact False.elim ty
def tBM (K : PySem.W.Frag) (T : String) (r : V → List V → Hp → VK → Prop) (to : TE) (t : TA) : TE := fun σ H Q => to σ H fun x H1 => tyV K T x H1 ∧ t σ H1 fun xs H2 => r x xs H2 Q
variable {o e : Expr} {es : List Expr} {to : TE} {t : TA} {name : Str} {apos cpos : Pos} {T id : String} {r : V → List V → Hp → VK → Prop}
theorem pe_bm (pa : PlainAttrs T) (slot : Slot T name id) (hty : typeOf (.builtin id) = pure (.type "method_descriptor")) (hm : MtR X id r) (ho : PE X o to) (ha : PA X (e :: es) t)
    (hbase : attributeBase o name X.env (eval o X.env) = eval o X.env := by rfl)
    (hfew : ((backTo cpos (starEach (e :: es) X.env)).all (fun x => !x.1) && (backToKw cpos (keywordEach [] X.env)).all (fun x => x.1.isSome)
      && decide ((e :: es).length + ([] : List Keyword).length + (if ([] : List Keyword).isEmpty then 0 else 1) < 30)) = true := by rfl)
    (hline : (apos.endLine == cpos.line) = true := by rfl) (hs : starEach (e :: es) X.env = (false, eval e X.env) :: starEach es X.env := by rfl) (hplain : (backTo cpos (starEach es X.env)).any (·.1) = false := by rfl) :
    PE X (.Call (.Attribute o name apos) (e :: es) [] cpos) (tBM X.K T r to t) := by
  intro pins s σ H Q I h
  refine wpAny_Call_method_late hbase hfew hline rfl (thn (ho pins s σ H _ I h) fun v s1 ⟨x, H1, I1, r1, ty, q1⟩ => ?_)
  obtain ⟨h1, h2⟩ := tyV_is I1 r1 ty
  refine ⟨T, id, pa, slot, hty, h1, h2, ?_⟩
  have hA := ha cpos pins s1 σ H1 _ I1 q1
  rw [hs] at hA ⊢
  refine Calls.callWith_builtin (by show (false || (backTo cpos (starEach es X.env)).any (·.1)) = false; rw [hplain] <;> rfl) (Calls.evalArgs_plain ?_)
  exact thn hA fun us s2 ⟨vs, H2, I2, r2, q2⟩ => hm pins s2 σ H2 x vs v us Q I2 r1 r2 q2
end
end L2

namespace L2
open PySem PySem.Spec PyProof.Rows

def MtM (X : Cx) (id : String) (r : V → List V → Hp → VK → Prop) : Prop :=
  ∀ (pins : List (Addr × Obj)) (s : Shared) (σ : St) (H : Hp) (x : V) (xs : List V) (v : Value) (us : List Value) (Q : VK), Inv X pins σ H s → RelV x v → Vals xs us → r x xs H Q →
    wpAny (model X.prog X.w) X.A (call (.builtin id) (v :: us)) (EP X pins σ Q) X.xe s

theorem Vals.one : ∀ {x : V} {us : List Value}, Vals [x] us → ∃ u, us = [u] ∧ RelV x u
  | _, _, .cons r .nil => ⟨_, rfl, r⟩
theorem Vals.two : ∀ {x y : V} {us : List Value}, Vals [x, y] us → ∃ u v, us = [u, v] ∧ RelV x u ∧ RelV y v
  | _, _, _, .cons r (.cons q .nil) => ⟨_, _, rfl, r, q⟩
theorem Vals.zero : ∀ {us : List Value}, Vals [] us → us = []
  | _, .nil => rfl
section
variable {X : Cx} {pins : List (Addr × Obj)} {σ : St} {H : Hp} {s : Shared} {l b : Addr} {xs ys zs : List V}

theorem Inv.lset {its its' : List Value} {n : Nat} {f : Array Value → Array Value} {t' : Nat} (I : Inv X pins σ H s) (hH : H l = some (.lst xs))
    (e : s.heap.get? l = some { cls := .type "list", data := .seq its.toArray n }) (hf : f its.toArray = its'.toArray) (hv : Vals ys its') (hz : ys.length ≤ sizeLine) :
    Inv X pins σ (upd H l (.lst ys)) { s with heap := s.heap.update l (Obj.mapSeq f), toks := t' } := by
  have q := PySem.IsL.update e f
  rw [hf] at q
  refine I.write (x := l) (e := l) (by rw [hH]; exact trivial) (.inl rfl) (fun b' u hb hu => (Heap.get?_update_other s.heap (Obj.mapSeq f) (Ne.symm hb)).trans hu) ⟨_, q⟩ ?_
  exact ⟨hz, its', _, hv, q⟩
theorem Inv.lnew {its : List Value} {t' : Nat} (I : Inv X pins σ H s) (hv : Vals ys its) (hz : ys.length ≤ sizeLine) :
    Inv X pins σ (upd H s.heap.objs.size (.lst ys)) { s with heap := s.heap.push { cls := .type "list", data := .seq its.toArray }, toks := t' } :=
  I.laid (fun _ _ q => Heap.get?_push_of_some _ q) (Nat.le_refl _) ⟨hz, its, 0, hv, Heap.get?_push_size _ rfl⟩
theorem Inv.fresh (I : Inv X pins σ H s) : H s.heap.objs.size = none := I.hok.fresh (Nat.le_refl _)
theorem Inv.lstM (I : Inv X pins σ H s) (hH : H l = some (.lst xs)) : xs.length ≤ sizeLine ∧ ∃ (its : List Value) (n : Nat), Vals xs its ∧ xs.length = its.length ∧ s.heap.get? l = some { cls := .type "list", data := .seq its.toArray n } := by
  obtain ⟨z, its, n, r, e⟩ := I.hok l _ hH
  exact ⟨z, its, n, r, r.length, e⟩

theorem notLongL {n : Nat} (h : n ≤ sizeLine) : Builtin.List.listTooLong n = false := by
  unfold Builtin.List.listTooLong
  exact decide_eq_false (by omega)
end

section
variable {X : Cx}

def rAppend : V → List V → Hp → VK → Prop := fun x vs H Q => ∃ l xs y, x = .ref l ∧ vs = [y] ∧ H l = some (.lst xs) ∧ xs.length < sizeLine ∧ Q .non (upd H l (.lst (xs ++ [y])))
theorem mt_append : MtM X "list.append" rAppend := by
  intro pins s σ H x vs v us Q I rx rv h
  obtain ⟨l, xs, y, rfl, rfl, hH, hz, q⟩ := h
  cases rx
  obtain ⟨u, rfl, ru⟩ := rv.one
  obtain ⟨z, its, n, r, hl, e⟩ := I.lstM hH
  refine call_meets F.slot_list_append ⟨_, e, rfl⟩ F.entry_list_append (F.args_list_append_2 _ _) (PySem.list_append l its.toArray n u (by rw [List.size_toArray]; omega)) ⟨e, ?_⟩
  refine ⟨.non, _, I.lset (its' := its ++ [u]) hH e (by simp) (r.append (.cons ru .nil)) ?_, rfl, q⟩
  rw [List.length_append, List.length_singleton]
  omega

def rExtend : V → List V → Hp → VK → Prop := fun x vs H Q => ∃ l b xs zs, x = .ref l ∧ vs = [.ref b] ∧ H l = some (.lst xs) ∧ H b = some (.lst zs) ∧ xs.length + zs.length ≤ sizeLine ∧ Q .non (upd H l (.lst (xs ++ zs)))
theorem mt_extend : MtM X "list.extend" rExtend := by
  intro pins s σ H x vs v us Q I rx rv h
  obtain ⟨l, b, xs, zs, rfl, rfl, hH, hB, hz, q⟩ := h
  cases rx
  obtain ⟨u, rfl, ru⟩ := rv.one
  cases ru
  obtain ⟨z, its, n, r, hl, e⟩ := I.lstM hH
  obtain ⟨z2, its2, n2, r2, hl2, e2⟩ := I.lstM hB
  have hsz : its.toArray.size + its2.toArray.size ≤ sizeLine := by rw [List.size_toArray, List.size_toArray]; omega
  have hlong : ¬ (!its.toArray.isEmpty && Builtin.List.listTooLong (its.toArray.size + its2.toArray.size)) = true := by
    rw [notLongL hsz, Bool.and_false]
    exact Bool.false_ne_true
  refine call_meets F.slot_list_extend ⟨_, e, rfl⟩ F.entry_list_extend (F.args_list_extend_2 _ _)
    (AutoSeq1.list_extend_list_list_0 l its.toArray n b its2.toArray n2 hlong (by rw [List.size_toArray]; omega) (by omega)) ⟨e, e2, ?_⟩
  refine ⟨.non, _, I.lset (its' := its ++ its2) hH e (by simp) (r.append r2) ?_, rfl, q⟩
  rw [List.length_append]
  omega

def rCat : R2 := fun x y H Q => ∃ l b xs zs, x = .ref l ∧ y = .ref b ∧ H l = some (.lst xs) ∧ H b = some (.lst zs) ∧ xs.length + zs.length ≤ sizeLine ∧ ∀ p, H p = none → Q (.ref p) (upd H p (.lst (xs ++ zs)))
theorem op_cat : OpR X (binaryOp .Add) rCat := by
  intro pins s σ H x y v u Q I rx ry h
  obtain ⟨l, b, xs, zs, rfl, rfl, hH, hB, hz, q⟩ := h
  cases rx
  cases ry
  obtain ⟨z, its, n, r, hl, e⟩ := I.lstM hH
  obtain ⟨z2, its2, n2, r2, hl2, e2⟩ := I.lstM hB
  refine PySem.P.add_list e e2 ?_ (by rw [List.size_toArray, List.size_toArray]; omega)
  have ea : its.toArray ++ its2.toArray = (its ++ its2).toArray := by simp
  rw [ea]
  exact ⟨.ref _, _, I.lnew (t' := s.toks) (r.append r2) (by rw [List.length_append]; omega), rfl, q _ I.fresh⟩
end

section
variable {prog : Program} {w : World} {A : Around} {E : Value → Shared → Prop} {s : Shared}
set_option maxRecDepth 100000 in
end

section
variable {X : Cx}
end
end L2

namespace Att
open PySem PySem.W PySem.Calls PyProof.Rows

theorem ints_of_wellAll {P : Params} {h : Heap} : ∀ (ns : List Int) (vs : List Value), WellAll P h vs (ns.map WData.int) → IntsAre vs ns := by
  intro ns
  induction ns with
  | nil =>
    intro vs w
    rw [List.map_nil] at w
    cases w
    exact .nil
  | cons n ns ih =>
    intro vs w
    rw [List.map_cons] at w
    cases w with
    | cons a b =>
      cases a
      exact .cons _ _ (ih _ b)

theorem script_of {l : OpenLaw} {n : Nat} (hn : l.most = some n) {P : Params} {h : Heap} {args : List WData} {vals : List Value}
    (hpre : l.row.toRowW.claim.pre args = true) (hwl : WellAll P h vals args) :
    ∃ a vs ns, vals = [Value.ref a] ∧ args = [WData.list (ns.map WData.int)] ∧ h.get? a = some { cls := .type "list", data := .seq vs.toArray } ∧ IntsAre vs ns ∧ ns.length ≤ n := by
  have hsh : WShape.hasAll [] args [.list .int] = true := (pre_splitW hpre).1
  have hc : l.pre.holds [] { args := args } = true := (pre_splitW hpre).2
  obtain ⟨d, r, rfl, h1, h2⟩ := hasAllW_cons hsh
  obtain rfl := hasAllW_nil h2
  obtain ⟨xs, rfl, h3⟩ := hasW_list h1
  obtain ⟨ns, rfl⟩ := items_int h3
  have hlen : ns.length ≤ n := by
    unfold OpenLaw.pre at hc
    have h4 : (WTm.not (.lt (.lit (.int (n : Int))) (.len (.arg 0)))).holds [] { args := [.list (ns.map .int)] } = true := by
      have h4 := (holds_andW hc).1
      rw [hn] at h4
      exact h4
    have h5 := condW_of h4 (w_not (w_lt w_lit (w_len_list (w_arg rfl))))
    rw [List.length_map] at h5
    refine Nat.le_of_not_lt fun q => ?_
    have q' : (n : Int) < ((ns.length : Nat) : Int) := by omega
    first
      | (rw [decide_eq_true q'] at h5; exact absurd h5 (by decide))
      | (simp at h5; omega)
  cases hwl with
  | cons w1 w2 =>
    cases w2
    cases w1 with
    | list ho hall => exact ⟨_, _, ns, rfl, rfl, ho, ints_of_wellAll ns _ hall, hlen⟩

theorem post_true (l : OpenLaw) (args : List WData) : l.row.toRowW.claim.post args (.bool true) args = true :=
  postW_of (r := l.row.toRowW) (X := (true == true))
    (show WShape.has [] (.bool true) .bool = true by first | rfl | decide | simp [WShape.has, WShape.arms, WShape.armsAll])
    (show (WTm.eq .res (.lit (.bool true))).value [] { args := args, res := some (.bool true), after := args } = some (.bool (true == true)) from w_eq_bool (w_res rfl) w_lit) rfl

theorem attach_call {l : OpenLaw} {n : Nat} {q : Program} {loose : List Str} {XP : (Str → Option Value) → Heap → Prop} {YP : World → Heap → Prop} {d : DefRec}
    (hn : l.most = some n) (hdf : d.params.defaults = [])
    (call : ∀ (w : World) (s₀ s₁ : Shared) (mg mb : Str → Option Value) (fa : Addr) (o : Obj) (pm cd doc : Value) (a : Addr) (vs : List Value) (ns : List Int),
      Ground q loose [] XP w s₀ mg mb s₁.heap → YP w s₁.heap →
      s₁.heap.get? fa = some o → o.data = .func (docDef d.name d.params d.body d.scope pm cd doc) → s₁.heap.CodeRec cd d.name → mg d.name = some (.ref fa) →
      s₁.heap.get? a = some { cls := .type "list", data := .seq vs.toArray } → IntsAre vs ns → ns.length ≤ n → s₁.gens = #[] →
      codeAny (model l.prog w) callerA (.call (.ref fa) ⟨[.ref a], []⟩) (fun r s' => r = .ok (.ret (.bool true)) ∧ OldK s₁.heap s'.heap ∧ s'.os = s₁.os ∧ AllBare s'.gens) s₁) :
    WalkO q loose XP YP l.row.toRowW d [] (fun f vs => PySem.call f vs) := by
  intro w s₀ s₁ mg mb G Y fa o pm cd doc dV kV ho hd hcd hD hmg hg args vals as hpre hlay hrd hwl hlo
  obtain rfl : dV = .none := Dflts.none hD hdf
  obtain rfl : kV = .none := Dflts.noKw hD
  obtain ⟨a, vs, ns, rfl, rfl, hobj, hints, hlen⟩ := script_of hn hpre hwl
  refine enter_call (codeAny_mono (call w s₀ s₁ mg mb fa o pm cd doc a vs ns G Y ho (fd_plain hd) hcd hmg hobj hints hlen hg) fun r s' hq => ?_)
  obtain ⟨rfl, h2, h3, h4⟩ := hq
  exact ⟨.inl ⟨.bool true, .bool true, [], rfl, fun _ => rfl, .bool true, post_true l _, fun _ => ⟨List.Pairwise.nil, fun _ hm => (nomatch hm)⟩⟩, h2, h3, h4⟩

section
variable {prog : Program} {w : World} {A : Around} {E : Value → Shared → Prop} {s : Shared} {K : Frag}

end
end Att

namespace L2
open PySem PySem.Spec PyProof.Rows

theorem vals_ints : ∀ {vs : List Value} {ns : List Int}, IntsAre vs ns → Vals (ns.map V.int) vs
  | _, _, .nil => .nil
  | _, _, .cons n t h => .cons ⟨t, rfl⟩ (vals_ints h)

def Only (H : Hp) : Prop := ∀ b, H b = none ∨ ∃ o xs, H b = some (.frz o (.lst xs))

theorem law_call {P : Program} {w : World} {K : PySem.W.Frag} {mg mb : Str → Option Value} {CX : CXT} {k : Nat} {fa a : Addr} {fd : FuncData} {x : Str} {sp : Sp} {s₁ : Shared} {vs : List Value} {ns : List Int}
    (KX : K.In s₁.heap) (hns : s₁.heap.Ns mainGlobals mg) (hb : s₁.heap.Ns builtinsNs mb) (hbb : ∀ x : Str, x ≠ "__name__" → mb x = bootBuiltins x) (hlim : s₁.heap.NoLimit) (hg : s₁.gens = #[])
    (ha : s₁.heap.get? a = some { cls := .type "list", data := .seq vs.toArray }) (hi : IntsAre vs ns) (hl : ns.length ≤ sizeLine) (hr : Room k callerA)
    (F : ∀ base : Heap, K.In base → base.Ns mainGlobals mg → FnOk P w K mg base CX k fa fd [x] sp) (hbind : ∀ (s : Shared) (u : Value), BindsTo s fd ⟨[u], []⟩ [(x, u)])
    (hsp : ∀ H : Hp, Only H → SqL K H a (ns.map V.int) → sp [.ref a] H (fun v _ => v = .bl true) fun _ _ _ => False)
    (hCX : ∀ H e s', CX [] H s₁ (fun _ _ _ => False) e s' → False) :
    codeAny (model P w) callerA (.call (.ref fa) ⟨[.ref a], []⟩) (fun r s' => r = .ok (.ret (.bool true)) ∧ OldK s₁.heap s'.heap ∧ s'.os = s₁.os ∧ AllBare s'.gens) s₁ := by
  have rv := vals_ints hi
  have lenV := hi.length
  -- from an abstract heap in which nothing but the script may be tracked
  have core : ∀ H : Hp, Only H → SqL K H a (ns.map V.int) → HOk P w H s₁.heap → (∀ b, H b ≠ none → b = a) → (H a ≠ none → K.lookup a = none) →
      codeAny (model P w) callerA (.call (.ref fa) ⟨[.ref a], []⟩) (fun r s' => r = .ok (.ret (.bool true)) ∧ OldK s₁.heap s'.heap ∧ s'.os = s₁.os ∧ AllBare s'.gens) s₁ := by
    intro H hO hS hok hA hK
    have base_of : ∀ {b : Addr} {o : Obj}, s₁.heap.get? b = some o → H b = none → (hidT s₁.heap H).get? b = some o := fun e n => hidT_get e n
    have noA : ∀ {b : Addr} {o : Obj} {es : Array DictEntry} {ep : Nat}, s₁.heap.get? b = some o → o.data = .dict es ep → H b = none := fun {b o es ep} e d => by
      cases q : H b with
      | none => rfl
      | some u =>
        have e' : b = a := hA b (by rw [q]; simp)
        subst e'
        rw [ha] at e; cases e
        have d' : Data.seq vs.toArray _ = Data.dict es ep := d
        cases d'
    have nsK : ∀ {b : Addr} {m : Str → Option Value}, s₁.heap.Ns b m → (hidT s₁.heap H).Ns b m := fun {b m} ⟨o, es, ep, e, d, r⟩ => ⟨o, es, ep, base_of e (noA e d), d, r⟩
    have hKb : K.In (hidT s₁.heap H) := fun b o e => base_of (KX b o e) (by
      cases q : H b with
      | none => rfl
      | some u =>
        have e' : b = a := hA b (by rw [q]; simp)
        subst e'
        rw [hK (by rw [q]; simp)] at e; cases e)
    have hM : Mod K mg (hidT s₁.heap H) := ⟨hKb, nsK hns, ⟨mb, nsK hb, hbb⟩, let ⟨mc, h1, h2⟩ := hlim; ⟨mc, nsK h1, h2⟩⟩
    have e0 : Env0 P w K mg (hidT s₁.heap H) callerA [] s₁ H := ⟨rfl, hM, fun b o e => of_hidT e, Nat.le_of_eq (hidT_size _ _), trivial, fun b hb => absurd (show b ∈ ([] : List Addr) from hb) (by simp), hok, .of_eq hg⟩
    refine codeAny_mono ((F _ hKb (nsK hns)).run callerA [] s₁ H ⟨[.ref a], []⟩ [.ref a] [.ref a] _ _ hr e0 (hbind s₁ (.ref a)) (.cons rfl .nil) (hsp H hO hS)) fun r s' h => ?_
    cases r with
    | error e => exact (hCX H e s' h).elim
    | ok fl =>
      cases fl with
      | next => exact False.elim h
      | brk => exact False.elim h
      | cont => exact False.elim h
      | ret u =>
        obtain ⟨v, H', os, bare, un, hok', r', q⟩ := h
        have q' : v = .bl true := q
        subst q'
        obtain rfl : u = Value.bool true := r'
        refine ⟨rfl, OldK.of_keep fun b o e => ?_, os, bare⟩
        cases q : H b with
        | none => exact un.keep b o e q (by intro z; exact absurd (show b ∈ ([] : List Addr) from z) (by simp)) (by simp)
        | some u =>
          rcases hO b with z | ⟨ob, xs, z⟩
          · rw [q] at z; cases z
          · have z2 := un.frzs b ob _ z
            obtain ⟨e1, _⟩ := hok b _ z
            obtain ⟨e2, _⟩ := hok' b _ z2
            rw [e] at e1; cases e1
            exact e2
  cases hk : K.lookup a with
  | some o =>
    -- the script is one of the module's own objects
    have e := KX a o hk
    rw [ha] at e
    cases e
    refine core (fun _ => none) (fun _ => .inl rfl) (.inr ⟨_, vs.toArray, _, hk, rfl, rfl, rfl, by rw [List.size_toArray, lenV]; exact hl, by simpa using rv⟩) (fun b u z => by have z' : (none : Option HO) = some u := z; cases z') (fun b z => absurd rfl z) fun z => absurd rfl z
  | none =>
    refine core (fun b => if b = a then some (.frz { cls := .type "list", data := .seq vs.toArray } (.lst (ns.map V.int))) else none) (fun b => ?_) (.inl (.inr ⟨{ cls := .type "list", data := .seq vs.toArray }, if_pos rfl⟩)) (fun b u z => ?_) (fun b z => ?_) fun _ => hk
    · by_cases hb : b = a
      · exact .inr ⟨_, _, if_pos hb⟩
      · exact .inl (if_neg hb)
    · by_cases hb : b = a
      · have z' := (if_pos hb).symm.trans z
        cases z'
        subst hb
        exact ⟨ha, by rw [List.length_map]; exact hl, vs, _, rv, ha⟩
      · have z' := (if_neg hb).symm.trans z
        cases z'
    · by_cases hb : b = a
      · exact hb
      · exact absurd (if_neg hb) z
end L2

namespace L2
open PySem PySem.Spec PyProof.Rows

theorem walk_of {l : PySem.W.OpenLaw} {n k : Nat} {q : Program} {loose : List Str} {XP : (Str → Option Value) → Heap → Prop} {YP : World → Heap → Prop} {d : DefRec} {K : Params → PySem.W.Frag} {CX : World → CXT} {sp : World → Sp} {x : Str}
    (hn : l.most = some n) (hn2 : n ≤ sizeLine) (hdf : d.params.defaults = []) (hr : Room k callerA)
    (hY : ∀ (w : World) (h : Heap), YP w h → (K w.params).In h)
    (F : ∀ (w : World) (mg : Str → Option Value) (fa : Addr) (h : Heap), (K w.params).In h → h.Ns mainGlobals mg → mg d.name = some (.ref fa) →
      ∃ fd : FuncData, (∀ (s : Shared) (u : Value), BindsTo s fd ⟨[u], []⟩ [(x, u)]) ∧
        ∀ base : Heap, (K w.params).In base → base.Ns mainGlobals mg → FnOk l.prog w (K w.params) mg base (CX w) k fa fd [x] (sp w))
    (hsp : ∀ (w : World) (H : Hp) (a : Addr) (ns : List Int), ns.length ≤ n → Only H → SqL (K w.params) H a (ns.map V.int) → sp w [.ref a] H (fun v _ => v = .bl true) fun _ _ _ => False)
    (hCX : ∀ (w : World) (H : Hp) (s : Shared) (e : Value) (s' : Shared), CX w [] H s (fun _ _ _ => False) e s' → False) :
    PySem.W.WalkO q loose XP YP l.row.toRowW d [] (fun f vs => PySem.call f vs) := by
  refine Att.attach_call hn hdf fun w s₀ s₁ mg mb fa o pm cd doc a vs ns G Y ho hd hcd hmg hobj hints hlen hg => ?_
  have KX := hY w _ Y
  obtain ⟨fd, hb, hF⟩ := F w mg fa _ KX G.T.g hmg
  exact law_call KX G.T.g G.T.b G.T.builtins G.T.nolimit hg hobj hints (Nat.le_trans hlen hn2) hr hF hb (fun H hO hS => hsp w H a ns hlen hO hS) fun H e s' => hCX w H s₁ e s'
end L2

namespace L2
open PySem PySem.Spec PyProof.Rows


abbrev CX0 : CXT := fun _ _ _ _ _ _ => False
abbrev E0 : XK := fun _ _ _ => False
theorem pass0 {X : Cx} : Passes CX0 X E0 := fun _ _ _ _ _ _ _ h => h.elim

structure Fun (K : PySem.W.Frag) (x qual : Str) (st : Stmt) (f : Addr) (fd : FuncData) : Prop where
  ex : ∃ (oc : Value) (od : Option Addr) (kV doc pm : Value) (an : Option Addr) (cdv ct : Value) (osl : Array (Option Value)),
    fd = PySem.W.fnOf x qual (defArgs st) (defBody st) (defScope st) .none kV doc pm an cdv ct ∧ K.lookup f = some ⟨oc, od, .func fd, osl⟩ ∧ PySem.W.codeIn K cdv qual = true
  kp : PySem.W.keepIn K (.ref f) = true
section
variable {P : Program} {w : World} {K : PySem.W.Frag} {mg : Str → Option Value} {base : Heap}
theorem Fun.ok {x qual : Str} {st : Stmt} {f : Addr} {fd : FuncData} {N ps : List Str} {k : Nat} {sp : Sp} (F : Fun K x qual st f fd) (S : FnScope N ps (defScope st)) (len : ∀ vs H Q E, sp vs H Q E → vs.length = ps.length)
    (hbody : ∀ (cdv : Value) (A : Around) (outer : List Env) (s : Shared) (H : Hp) (vs : List V) (Q : VK) (E : XK), Room k (A.deeper (envOfC qual (defScope st) s.heap.objs.size f cdv)) → sp vs H Q E →
      ∃ t, PSs (cxOf CX0 P w K mg base N qual (defScope st) f cdv A outer s H E).nox (defBody st) t ∧ t { nx := fun _ H' => Q .non H', rt := Q } (start N vs) H) : FnOk P w K mg base CX0 (k + 1) f fd ps sp := by
  obtain ⟨oc, od, kV, doc, pm, an, cdv, ct, osl, rfl, lk, hcd⟩ := F.ex
  refine fn_of lk hcd S len fun A outer s H vs Q E hr hsp => ?_
  obtain ⟨t, h, q⟩ := hbody cdv A outer s H vs Q E hr hsp
  exact ⟨t, h.nox, q⟩
theorem Fun.binds {x qual : Str} {st : Stmt} {f : Addr} {fd : FuncData} {ps : List Str} (F : Fun K x qual st f fd)
    (h : ∀ (kV doc pm : Value) (an : Option Addr) (cdv ct : Value) (us : List Value), us.length = ps.length → bindArgs (PySem.W.fnOf x qual (defArgs st) (defBody st) (defScope st) .none kV doc pm an cdv ct) ⟨us, []⟩ = pure (ps.zip us)) : Binds K fd ps [] := by
  obtain ⟨oc, od, kV, doc, pm, an, cdv, ct, osl, rfl, lk, hcd⟩ := F.ex
  exact .all (h kV doc pm an cdv ct)
theorem fun_mk {x qual : Str} {st : Stmt} {f : Addr} {oc : Value} {od an : Option Addr} {osl : Array (Option Value)} {kV doc pm cdv ct : Value} (l : K.lookup f = some ⟨oc, od, .func (PySem.W.fnOf x qual (defArgs st) (defBody st) (defScope st) .none kV doc pm an cdv ct), osl⟩)
    (c : PySem.W.codeIn K cdv qual = true) (k : PySem.W.keepIn K (.ref f) = true) : Fun K x qual st f (PySem.W.fnOf x qual (defArgs st) (defBody st) (defScope st) .none kV doc pm an cdv ct) := ⟨⟨oc, od, kV, doc, pm, an, cdv, ct, osl, rfl, l, c⟩, k⟩
end
theorem small1000 {n : Nat} (h : n ≤ 1000) : n < sizeLine := Nat.lt_of_le_of_lt h (by decide)

section
variable {X : Cx}
theorem pv (i : Nat) {x : Str} {pos : Pos} (hN : X.N[i]? = some x := by rfl) (hv : Vis X.env.scope x := by first | exact Or.inl rfl | exact Or.inr (Or.inl rfl) | exact Or.inr (Or.inr rfl)) (hd : (x == ("__debug__" : Str)) = false := by decide)
    (hcd : (x == ("__classdict__" : Str)) = false := by decide) : PE X (.Name x pos) (tVar i) := pe_var hN hv hd hcd
end

theorem iteF {A B : Prop} (h : B) : if false = true then A else B := by
  rw [if_neg Bool.false_ne_true]
  exact h
theorem iteT {A B : Prop} (h : A) : if true = true then A else B := by
  rw [if_pos rfl]
  exact h
def Same (H H' : Hp) : Prop := ∀ b o, H b = some o → H' b = some o
theorem Same.refl (H : Hp) : Same H H := fun _ _ h => h
theorem Same.trans {H H1 H2 : Hp} (a : Same H H1) (b : Same H1 H2) : Same H H2 := fun c o h => b c o (a c o h)
theorem Same.free {H H' : Hp} (e : Same H H') {l : Addr} (h : H' l = Option.none) : H l = Option.none := by
  cases q : H l with
  | none => rfl
  | some o =>
    rw [e l o q] at h
    cases h
theorem Same.seq {K : PySem.W.Frag} {H H' : Hp} {a : Addr} {xs : List V} (e : Same H H') (h : SqL K H a xs) : SqL K H' a xs := by
  rcases h with (h | ⟨o, h⟩) | h
  · exact .inl (.inl (e _ _ h))
  · exact .inl (.inr ⟨o, e _ _ h⟩)
  · exact .inr h

end L2

namespace Sea
def gcdL (ns : List Int) : Nat := ns.foldl (fun g n => Nat.gcd g n.natAbs) 0
theorem gcdL_snoc (ns : List Int) (n : Int) : gcdL (ns ++ [n]) = Nat.gcd (gcdL ns) n.natAbs := by
  unfold gcdL
  rw [List.foldl_append]
  rfl
theorem gcdF_dvd : ∀ (ns : List Int) (g : Nat), ns.foldl (fun g n => Nat.gcd g n.natAbs) g ∣ g ∧ ∀ n ∈ ns, ns.foldl (fun g n => Nat.gcd g n.natAbs) g ∣ n.natAbs
  | [], g => ⟨Nat.dvd_refl g, fun _ h => nomatch h⟩
  | x :: r, g => by
    obtain ⟨h1, h2⟩ := gcdF_dvd r (Nat.gcd g x.natAbs)
    refine ⟨Nat.dvd_trans h1 (Nat.gcd_dvd_left _ _), fun n hn => ?_⟩
    rcases List.mem_cons.mp hn with e | e
    · rw [e]
      exact Nat.dvd_trans h1 (Nat.gcd_dvd_right _ _)
    · exact h2 n e
theorem gcdL_dvd {ns : List Int} {n : Int} (h : n ∈ ns) : gcdL ns ∣ n.natAbs := (gcdF_dvd ns 0).2 n h
theorem gcdL_dvdI {ns : List Int} {n : Int} (h : n ∈ ns) : (gcdL ns : Int) ∣ n := Int.ofNat_dvd_left.mpr (gcdL_dvd h)
theorem dvd_gcdF {d : Nat} : ∀ (ns : List Int) (g : Nat), d ∣ g → (∀ n ∈ ns, d ∣ n.natAbs) → d ∣ ns.foldl (fun g n => Nat.gcd g n.natAbs) g
  | [], _, h, _ => h
  | x :: r, g, h, hr => dvd_gcdF r _ (Nat.dvd_gcd h (hr x List.mem_cons_self)) fun n hn => hr n (List.mem_cons_of_mem _ hn)
theorem dvd_gcdL {d : Nat} {ns : List Int} (h : ∀ n ∈ ns, d ∣ n.natAbs) : d ∣ gcdL ns := dvd_gcdF ns 0 (Nat.dvd_zero d) h
theorem gcdL_pos {ns : List Int} {n : Int} (h : n ∈ ns) (h0 : n ≠ 0) : 0 < gcdL ns := by
  rcases Nat.eq_zero_or_pos (gcdL ns) with e | e
  · have q := gcdL_dvd h
    rw [e, Nat.zero_dvd] at q
    omega
  · exact e
theorem gcdL_le {ns : List Int} {n : Int} (h : n ∈ ns) (h0 : n ≠ 0) : (gcdL ns : Int) ≤ n.natAbs := by
  have q := Nat.le_of_dvd (by omega) (gcdL_dvd h)
  omega
def lowL (ns : List Int) : List Int := ns.map fun n => n / (gcdL ns : Int)
theorem lowL_mul {ns : List Int} {n : Int} (h : n ∈ ns) : n / (gcdL ns : Int) * (gcdL ns : Int) = n := Int.ediv_mul_cancel (gcdL_dvdI h)
theorem gcdL_lowL {ns : List Int} (h : 0 < gcdL ns) : gcdL (lowL ns) = 1 := by
  have key : gcdL ns * gcdL (lowL ns) ∣ gcdL ns := by
    refine dvd_gcdL fun n hn => ?_
    have h1 : gcdL (lowL ns) ∣ (n / (gcdL ns : Int)).natAbs := gcdL_dvd (List.mem_map.mpr ⟨n, hn, rfl⟩)
    obtain ⟨c, hc⟩ := h1
    have h2 := congrArg Int.natAbs (lowL_mul hn)
    rw [Int.natAbs_mul, Int.natAbs_natCast, hc] at h2
    rw [← h2]
    exact ⟨c, by rw [Nat.mul_comm, Nat.mul_assoc]⟩
  obtain ⟨c, hc⟩ := key
  have h3 : gcdL ns * (gcdL (lowL ns) * c) = gcdL ns * 1 := by
    rw [← Nat.mul_assoc, ← hc, Nat.mul_one]
  have h4 := Nat.eq_of_mul_eq_mul_left h h3
  exact Nat.dvd_one.mp ⟨c, h4.symm⟩
theorem gcdL_two (x y : Int) : gcdL [x, y] = Nat.gcd x.natAbs y.natAbs := by
  show Nat.gcd (Nat.gcd 0 x.natAbs) y.natAbs = _
  rw [Nat.gcd_zero_left]
theorem gcdL_three (x y z : Int) : gcdL [x, y, z] = Nat.gcd (Nat.gcd x.natAbs y.natAbs) z.natAbs := by
  show Nat.gcd (Nat.gcd (Nat.gcd 0 x.natAbs) y.natAbs) z.natAbs = _
  rw [Nat.gcd_zero_left]
theorem gcdL_neg (ns : List Int) : gcdL (ns.map fun n => -n) = gcdL ns := by
  have key : ∀ (l : List Int) (g : Nat), (l.map fun n => -n).foldl (fun g n => Nat.gcd g n.natAbs) g = l.foldl (fun g n => Nat.gcd g n.natAbs) g := by
    intro l
    induction l with
    | nil => intro g; rfl
    | cons x r ih =>
      intro g
      show (r.map fun n => -n).foldl _ (Nat.gcd g (-x).natAbs) = r.foldl _ (Nat.gcd g x.natAbs)
      rw [ih, Int.natAbs_neg]
  exact key ns 0
theorem gcd_step {a b : Int} (ha : 0 ≤ a) (hb : 0 < b) : Nat.gcd b.toNat (a % b).toNat = Nat.gcd a.toNat b.toNat := by
  obtain ⟨m, rfl⟩ := Int.eq_ofNat_of_zero_le ha
  obtain ⟨n, rfl⟩ := Int.eq_ofNat_of_zero_le (Int.le_of_lt hb)
  have e : ((m : Int) % (n : Int)).toNat = m % n := by
    rw [← Int.natCast_emod]
    rfl
  show Nat.gcd n ((m : Int) % (n : Int)).toNat = Nat.gcd m n
  rw [e, Nat.gcd_comm m n, Nat.gcd_rec n m, Nat.gcd_comm]
theorem abs_if (i : Int) : (if i < 0 then -i else i) = (i.natAbs : Int) := by
  split <;> omega
end Sea
namespace Sea
structure PartOf (t b x y : Int) : Prop where
  pos : 1 ≤ y
  low : Nat.gcd x.natAbs y.natAbs = 1
  eq : x * b = y * t
  xle : x.natAbs ≤ t.natAbs
  yle : y.natAbs ≤ b.natAbs
theorem ediv_le_abs (n : Int) {g : Int} (hg : 0 < g) (h : g ∣ n) : (n / g).natAbs ≤ n.natAbs := by
  obtain ⟨c, hc⟩ := h
  subst hc
  rw [Int.mul_ediv_cancel_left c (by omega), Int.natAbs_mul]
  exact Nat.le_mul_of_pos_left _ (by omega)
theorem partOf_low (t : Int) {b : Int} (hb : b ≠ 0) : ∃ x y : Int, (lowL (if b < 0 then [t, b].map (fun n => -n) else [t, b])) = [x, y] ∧ PartOf t b x y := by
  have key : ∀ (t b : Int), 0 < b → ∃ x y : Int, lowL [t, b] = [x, y] ∧ PartOf t b x y := fun t b hb => by
    have gp : 0 < gcdL [t, b] := gcdL_pos (n := b) (by simp) (by omega)
    have e1 := lowL_mul (ns := [t, b]) (n := t) (by simp)
    have e2 := lowL_mul (ns := [t, b]) (n := b) (by simp)
    have gI : (0 : Int) < (gcdL [t, b] : Int) := by omega
    refine ⟨t / (gcdL [t, b] : Int), b / (gcdL [t, b] : Int), rfl, ?_, ?_, ?_, ediv_le_abs t gI (gcdL_dvdI (by simp)), ediv_le_abs b gI (gcdL_dvdI (by simp))⟩
    · exact Int.ediv_pos_of_pos_of_dvd hb (Int.le_of_lt gI) (gcdL_dvdI (by simp))
    · have h3 := gcdL_lowL gp
      rw [← gcdL_two]
      exact h3
    · generalize (gcdL [t, b] : Int) = g at e1 e2
      calc t / g * b = t / g * (b / g * g) := by rw [e2]
        _ = b / g * (t / g * g) := by rw [← Int.mul_assoc, ← Int.mul_assoc, Int.mul_comm (t / g)]
        _ = b / g * t := by rw [e1]
  by_cases h : b < 0
  · rw [if_pos h]
    obtain ⟨x, y, e, p⟩ := key (-t) (-b) (by omega)
    refine ⟨x, y, e, p.pos, p.low, ?_, by have := p.xle; omega, by have := p.yle; omega⟩
    have q := p.eq
    rw [Int.mul_neg, Int.mul_neg] at q
    omega
  · rw [if_neg h]
    exact key t b (by omega)
end Sea
namespace Sea
theorem natAbs_mul_le (a b : Int) {m n : Nat} (ha : a.natAbs ≤ m) (hb : b.natAbs ≤ n) : (a * b).natAbs ≤ m * n := by
  rw [Int.natAbs_mul]
  exact Nat.mul_le_mul ha hb
theorem big_ok {b : Int} (h : b.natAbs ≤ 10 ^ 40) : b.natAbs < 10 ^ 500 := Nat.lt_of_le_of_lt h (by decide +kernel)
end Sea
namespace Sea
end Sea
namespace Sea
end Sea
namespace Sea
def upL (X Y W : Int) : List Int := if W < 0 then [-X, -Y, -W] else [X, Y, W]
structure SpotOf (X Y W x y w : Int) : Prop where
  pos : 1 ≤ w
  low : Nat.gcd (Nat.gcd x.natAbs y.natAbs) w.natAbs = 1
  ex : x * W = X * w
  ey : y * W = Y * w
  xle : x.natAbs ≤ X.natAbs
  yle : y.natAbs ≤ Y.natAbs
  wle : w.natAbs ≤ W.natAbs
theorem spot_key {X Y W : Int} (h : 0 < W) : ∃ x y w : Int, lowL [X, Y, W] = [x, y, w] ∧ SpotOf X Y W x y w := by
  have gp : 0 < gcdL [X, Y, W] := gcdL_pos (n := W) (by simp) (by omega)
  have gI : (0 : Int) < (gcdL [X, Y, W] : Int) := by omega
  have e1 := lowL_mul (ns := [X, Y, W]) (n := X) (by simp)
  have e2 := lowL_mul (ns := [X, Y, W]) (n := Y) (by simp)
  have e3 := lowL_mul (ns := [X, Y, W]) (n := W) (by simp)
  have lo := gcdL_lowL gp
  refine ⟨X / (gcdL [X, Y, W] : Int), Y / (gcdL [X, Y, W] : Int), W / (gcdL [X, Y, W] : Int), rfl, Int.ediv_pos_of_pos_of_dvd h (Int.le_of_lt gI) (gcdL_dvdI (by simp)), ?_, ?_, ?_, ediv_le_abs X gI (gcdL_dvdI (by simp)), ediv_le_abs Y gI (gcdL_dvdI (by simp)), ediv_le_abs W gI (gcdL_dvdI (by simp))⟩
  · rw [← gcdL_three]
    exact lo
  · generalize (gcdL [X, Y, W] : Int) = g at e1 e3
    generalize X / g = x at e1
    generalize W / g = w at e3
    rw [← e1, ← e3, Int.mul_assoc, Int.mul_comm g w]
  · generalize (gcdL [X, Y, W] : Int) = g at e2 e3
    generalize Y / g = y at e2
    generalize W / g = w at e3
    rw [← e2, ← e3, Int.mul_assoc, Int.mul_comm g w]
theorem spot_low {X Y W : Int} (h : W ≠ 0) : ∃ x y w : Int, lowL (upL X Y W) = [x, y, w] ∧ SpotOf X Y W x y w := by
  unfold upL
  by_cases c : W < 0
  · rw [if_pos c]
    obtain ⟨x, y, w, e, p⟩ := spot_key (X := -X) (Y := -Y) (W := -W) (by omega)
    refine ⟨x, y, w, e, p.pos, p.low, ?_, ?_, by have := p.xle; omega, by have := p.yle; omega, by have := p.wle; omega⟩
    · have q := p.ex
      rw [Int.mul_neg, Int.neg_mul] at q
      omega
    · have q := p.ey
      rw [Int.mul_neg, Int.neg_mul] at q
      omega
  · rw [if_neg c]
    exact spot_key (by omega)
theorem cross_on {A B C X Y W x y w : Int} (h : W ≠ 0) (p : SpotOf X Y W x y w) (e : A * X + B * Y = C * W) : A * x + B * y = C * w := by
  refine Int.eq_of_mul_eq_mul_right h ?_
  have e1 : (A * x + B * y) * W = A * (x * W) + B * (y * W) := by rw [Int.add_mul, Int.mul_assoc, Int.mul_assoc]
  have e2 : A * (X * w) + B * (Y * w) = (A * X + B * Y) * w := by rw [Int.add_mul, Int.mul_assoc, Int.mul_assoc]
  rw [e1, p.ex, p.ey, e2, e, Int.mul_assoc, Int.mul_comm W w, ← Int.mul_assoc]
theorem cross_one (A1 B1 C1 A2 B2 C2 : Int) : A1 * (C1 * B2 - B1 * C2) + B1 * (A1 * C2 - C1 * A2) = C1 * (A1 * B2 - B1 * A2) := by
  simp only [Int.mul_sub, Int.mul_comm, Int.mul_left_comm]
  omega
theorem cross_two (A1 B1 C1 A2 B2 C2 : Int) : A2 * (C1 * B2 - B1 * C2) + B2 * (A1 * C2 - C1 * A2) = C2 * (A1 * B2 - B1 * A2) := by
  simp only [Int.mul_sub, Int.mul_comm, Int.mul_left_comm]
  omega
end Sea
namespace Sea
end Sea

namespace Sea
theorem sq_pos {a b : Int} (h : a ≠ 0 ∨ b ≠ 0) : 1 ≤ a * a + b * b := by
  have s1 : 0 ≤ a * a := by rw [← Int.natAbs_mul_self]; exact Int.natCast_nonneg _
  have s2 : 0 ≤ b * b := by rw [← Int.natAbs_mul_self]; exact Int.natCast_nonneg _
  rcases h with h | h
  · have : a * a ≠ 0 := Int.mul_ne_zero h h
    omega
  · have : b * b ≠ 0 := Int.mul_ne_zero h h
    omega
end Sea
namespace Sea
end Sea

namespace Sea
end Sea

namespace L2
open PySem PySem.Spec PyProof.Rows

structure CC where
  C : Addr
  s : Shared
  H : Hp
  fp : List Addr

def closL (env : Env) : List (Str × NameKind) → List (Str × Addr) → List (Str × Addr)
  | [], cs => cs
  | (n, k) :: r, cs => closL env r (if (k == NameKind.free) = true then (n, (env.cells.lookup n).getD 0) :: cs else cs)
theorem clos_eq {scope : Scope} {env : Env} (h : ∀ x ∈ scope.names, x.2 = .free → ∃ c, env.cells.lookup x.1 = some c) : closureFor scope env = pure (closL env scope.names []) := by
  simp only [closureFor]
  have key : ∀ (names : List (Str × NameKind)) (cs : List (Str × Addr)), (∀ x ∈ names, x.2 = .free → ∃ c, env.cells.lookup x.1 = some c) →
    (forIn names cs (fun (x : Str × NameKind) (r : List (Str × Addr)) => match x with | (name, kind) => if (kind == NameKind.free) = true then (do let a ← cellOf env name; pure (ForInStep.yield ((name, a) :: r))) else pure (ForInStep.yield r)) : Sem (List (Str × Addr))) = pure (closL env names cs) := by
    intro names
    induction names with
    | nil => intro cs _; rfl
    | cons x r ih =>
      intro cs hx
      obtain ⟨n, k⟩ := x
      rw [List.forIn_cons]
      have hr := ih (if (k == NameKind.free) = true then (n, (env.cells.lookup n).getD 0) :: cs else cs) fun y hy => hx y (List.mem_cons_of_mem _ hy)
      by_cases hk : (k == NameKind.free) = true
      · obtain ⟨c, hc⟩ := hx (n, k) List.mem_cons_self (by simpa using hk)
        have e : cellOf env n = pure c := by unfold cellOf; rw [hc]
        rw [if_pos hk] at hr
        have hc' : env.cells.lookup n = some c := hc
        rw [hc'] at hr
        show (((if (k == NameKind.free) = true then (do let a ← cellOf env n; pure (ForInStep.yield ((n, a) :: cs))) else pure (ForInStep.yield cs)) : Sem _) >>= _) = _
        rw [if_pos hk, e]
        refine Eq.trans ?_ (hr.trans ?_)
        · rfl
        · rw [closL, if_pos hk, hc']
      · rw [if_neg hk] at hr
        show (((if (k == NameKind.free) = true then (do let a ← cellOf env n; pure (ForInStep.yield ((n, a) :: cs))) else pure (ForInStep.yield cs)) : Sem _) >>= _) = _
        rw [if_neg hk]
        refine Eq.trans ?_ (hr.trans ?_)
        · rfl
        · rw [closL, if_neg hk]
  exact congrArg (fun (z : Sem (List (Str × Addr))) => z >>= fun cs => pure cs) (key scope.names [] h)
theorem closL_sound {env : Env} : ∀ (names : List (Str × NameKind)) (cs : List (Str × Addr)), (∀ x ∈ names, x.2 = .free → ∃ c, env.cells.lookup x.1 = some c) →
    (∀ x c, cs.lookup x = some c → env.cells.lookup x = some c) → ∀ x c, (closL env names cs).lookup x = some c → env.cells.lookup x = some c
  | [], _, _, hc => hc
  | (n, k) :: r, cs, h, hc => by
    refine closL_sound r _ (fun y hy => h y (List.mem_cons_of_mem _ hy)) fun x c => ?_
    by_cases hk : (k == NameKind.free) = true
    · rw [if_pos hk]
      obtain ⟨d, hd⟩ := h (n, k) List.mem_cons_self (by simpa using hk)
      have hd' : env.cells.lookup n = some d := hd
      intro e
      rw [List.lookup_cons] at e
      cases hx : x == n with
      | true =>
        rw [hx, hd'] at e
        have ex : x = n := by simpa using hx
        rw [ex, hd']
        exact e
      | false =>
        rw [hx] at e
        exact hc x c e
    · rw [if_neg hk]
      exact hc x c
theorem closL_has {env : Env} : ∀ (names : List (Str × NameKind)) (cs : List (Str × Addr)) (x : Str), ((x, NameKind.free) ∈ names ∨ ∃ c, cs.lookup x = some c) → ∃ c, (closL env names cs).lookup x = some c
  | [], _, _, h => h.elim (fun z => nomatch z) id
  | (n, k) :: r, cs, x, h => by
    refine closL_has r _ x ?_
    by_cases hk : (k == NameKind.free) = true
    · rw [if_pos hk]
      cases hx : x == n with
      | true => exact .inr ⟨_, by rw [List.lookup_cons, hx]⟩
      | false =>
        rcases h with h | ⟨c, h⟩
        · rcases List.mem_cons.mp h with e | e
          · injection e with e1 _
            subst e1
            simp at hx
          · exact .inl e
        · exact .inr ⟨c, by rw [List.lookup_cons, hx]; exact h⟩
    · rw [if_neg hk]
      rcases h with h | h
      · rcases List.mem_cons.mp h with e | e
        · injection e with _ e2
          subst e2
          exact absurd rfl hk
        · exact .inl e
      · exact .inr h
theorem relabel_free {env : Env} : ∀ {names : List (Str × NameKind)} {x : Str}, names.lookup x = some .free →
    (names.map fun (n, k) => if (k == NameKind.free && env.scope.kind == .function && env.kindOf n == some .cell) then (n, NameKind.cell) else (n, k)).lookup x = some .cell ∨
    (names.map fun (n, k) => if (k == NameKind.free && env.scope.kind == .function && env.kindOf n == some .cell) then (n, NameKind.cell) else (n, k)).lookup x = some .free
  | [], _, h => by simp at h
  | (n, k) :: r, x, h => by
    have ih := @relabel_free env r x
    show List.lookup x ((if (k == NameKind.free && env.scope.kind == .function && env.kindOf n == some .cell) = true then (n, NameKind.cell) else (n, k)) :: _) = _ ∨ List.lookup x ((if (k == NameKind.free && env.scope.kind == .function && env.kindOf n == some .cell) = true then (n, NameKind.cell) else (n, k)) :: _) = _
    by_cases hc : (k == NameKind.free && env.scope.kind == .function && env.kindOf n == some .cell) = true
    · rw [if_pos hc]
      cases hx : x == n with
      | true => exact .inl (by rw [List.lookup_cons, hx])
      | false =>
        rw [List.lookup_cons, hx] at h
        rw [List.lookup_cons, hx]
        exact ih h
    · rw [if_neg hc]
      cases hx : x == n with
      | true =>
        rw [List.lookup_cons, hx] at h
        exact .inr (by rw [List.lookup_cons, hx]; exact h)
      | false =>
        rw [List.lookup_cons, hx] at h
        rw [List.lookup_cons, hx]
        exact ih h
theorem relabel_back {env : Env} : ∀ {names : List (Str × NameKind)} {x : Str} {j : NameKind}, (∀ y ∈ names, y.2 ≠ .cell) → (j = .cell ∨ j = .free) →
    (names.map fun (n, k) => if (k == NameKind.free && env.scope.kind == .function && env.kindOf n == some .cell) then (n, NameKind.cell) else (n, k)).lookup x = some j → (x, NameKind.free) ∈ names
  | [], _, _, _, _, h => by simp at h
  | (n, k) :: r, x, j, hn, hj, h => by
    have ih := @relabel_back env r x j (fun y hy => hn y (List.mem_cons_of_mem _ hy)) hj
    have hk0 : k ≠ .cell := hn (n, k) List.mem_cons_self
    replace h : List.lookup x ((if (k == NameKind.free && env.scope.kind == .function && env.kindOf n == some .cell) = true then (n, NameKind.cell) else (n, k)) :: (r.map fun (n, k) => if (k == NameKind.free && env.scope.kind == .function && env.kindOf n == some .cell) then (n, NameKind.cell) else (n, k))) = some j := h
    by_cases hc : (k == NameKind.free && env.scope.kind == .function && env.kindOf n == some .cell) = true
    · rw [if_pos hc] at h
      have hf : k = .free := by
        simp only [Bool.and_eq_true] at hc
        simpa using hc.1.1
      cases hx : x == n with
      | true =>
        have ex : x = n := by simpa using hx
        subst ex
        rw [← hf]
        exact List.mem_cons_self
      | false =>
        rw [List.lookup_cons, hx] at h
        exact List.mem_cons_of_mem _ (ih h)
    · rw [if_neg hc] at h
      cases hx : x == n with
      | true =>
        rw [List.lookup_cons, hx] at h
        have ex : x = n := by simpa using hx
        have ek : k = j := Option.some.inj h
        subst ex
        rcases hj with hj | hj
        · exact absurd (ek.trans hj) hk0
        · rw [← hj, ← ek]
          exact List.mem_cons_self
      | false =>
        rw [List.lookup_cons, hx] at h
        exact List.mem_cons_of_mem _ (ih h)

def cxComp (X : Cx) (N : List Str) (scope : Scope) (c : CC) : Cx where
  prog := X.prog
  w := X.w
  K := X.K
  mg := X.mg
  base := X.base
  A := X.A
  N := N
  s₀ := c.s
  H₀ := c.H
  env := compEnvC scope (closL X.env scope.names []) c.C X.env
  outer := X.stack
  stack := X.stack
  ex := c.fp
  fn := fun _ => false
  calm := X.calm
  pn := []
  xe := fun _ _ => False

def CapsOk (X : Cx) (scope : Scope) : List (Str × Nat) → Prop
  | [] => True
  | p :: r => (X.N[p.2]? = some p.1 ∧ scope.names.lookup p.1 = some .free ∧ (X.env.kindOf p.1 = some .cell ∨ X.env.kindOf p.1 = some .free)) ∧ CapsOk X scope r
theorem CapsOk.mem {X : Cx} {scope : Scope} : ∀ {caps : List (Str × Nat)}, CapsOk X scope caps → ∀ p ∈ caps, X.N[p.2]? = some p.1 ∧ scope.names.lookup p.1 = some .free ∧ (X.env.kindOf p.1 = some .cell ∨ X.env.kindOf p.1 = some .free)
  | [], _, _, h => nomatch h
  | q :: r, h, p, hp => by
    rcases List.mem_cons.mp hp with e | e
    · rw [e]; exact h.1
    · exact CapsOk.mem h.2 p e
structure CompScope (X : Cx) (caps : List (Str × Nat)) (scope : Scope) : Prop where
  kind : scope.kind = .function
  nocell : ∀ y ∈ scope.names, y.2 ≠ .cell
  loc : ∀ y ∈ scope.names, y.2 = .local → scope.names.lookup y.1 = some .local
  clos : (scope.names.all fun x => !(x.2 == .free) || (X.env.cells.lookup x.1).isSome) = true
  cap : CapsOk X scope caps
theorem CompScope.cells {X : Cx} {caps : List (Str × Nat)} {scope : Scope} (S : CompScope X caps scope) : ∀ x ∈ scope.names, x.2 = .free → ∃ c, X.env.cells.lookup x.1 = some c := fun x hx hf => by
  have h := List.all_eq_true.mp S.clos x hx
  rw [hf] at h
  simp only [Bool.or_eq_true] at h
  rcases h with h | h
  · exact absurd h (by decide)
  · exact Option.isSome_iff_exists.mp h

def capSt (caps : List (Str × Nat)) (nt : Nat) (σ : St) : St := List.replicate nt none ++ caps.map fun p => (σ[p.2]?).join

def PIfs (Y : Cx) (ifs : List Expr) (t : TT) : Prop :=
  ∀ (pins : List (Addr × Obj)) (s : Shared) (σ : St) (H : Hp) (Q : Bool → Hp → Prop), Inv Y pins σ H s → t σ H Q →
    wpAny (model Y.prog Y.w) Y.A (forIn ifs true fun c r => if r = true then do let ok ← isTrue c Y.env (eval c Y.env); pure (ForInStep.yield ok) else pure (ForInStep.yield r)) (TP Y pins σ Q) Y.xe s
def tYes : TT := fun _ H Q => Q true H
theorem pifs_nil {Y : Cx} : PIfs Y [] tYes := fun _ _ _ H _ I h => wpAny_tests_nil ⟨H, I, h⟩
theorem pifs_one {Y : Cx} {c : Expr} {t : TT} (h : PT Y c t) : PIfs Y [c] t := fun pins s σ H Q I q => wpAny_tests_one (h pins s σ H Q I q)

def CompW (J : It) (D : Addr) (g : TG) (tt : TT) (te : TE) (σ0 : St) (H1 : Hp) (Q : VK) : Prop :=
  ∃ W : Nat → Nat → St → List V → Hp → Prop, (∃ m, W 0 m σ0 [] (upd H1 D (.lst []))) ∧ ∀ i m σ ys H, W i m σ ys H → H D = some (.lst ys) ∧
    ((J.stop i H ∧ Q (.ref D) H) ∨ (J.go i H ∧ ∃ N : St → List V → Hp → Prop, (∀ σ' zs H', N σ' zs H' → ∃ m', m' < m ∧ W (i + 1) m' σ' zs H') ∧ ∀ x H', J.yld i H x H' → g x σ H' fun σ2 H2 => tt σ2 H2 fun b H3 =>
      if b = true then te σ2 H3 fun y H4 => H4 D = some (.lst ys) ∧ ys.length < sizeLine ∧ N σ2 (ys ++ [y]) (upd H4 D (.lst (ys ++ [y]))) else N σ2 ys H3))
def tComp (nt : Nat) (caps : List (Str × Nat)) (wi : TI) (g : CC → TG) (tt : CC → TT) (te : CC → TE) : TE := fun σ H Q =>
  wi σ H fun J H1 => ∀ (c : CC) (D : Addr), H1 D = none → CompW J D (g c) (tt c) (te c) (capSt caps nt σ) H1 Q

theorem thnF {α : Type} {t : Sem α} {Q Q' : α → Shared → Prop} {M : Model} {A : Around} {E : Value → Shared → Prop} {s : Shared} (h : wpAny M A t Q (fun _ _ => False) s) (hQ : ∀ a s, Q a s → Q' a s) : wpAny M A t Q' E s := wpAny_mono h hQ fun _ _ x => x.elim
theorem Un.same {fs ex : List Addr} {H H' : Hp} {h h1 h2 : Heap} {C : Addr} (u : Un fs ex H H' h h1) (sb : Heap.SameBut C h1 h2) (hC : h.get? C = none) : Un fs ex H H' h h2 := by
  have ne : ∀ b o, h.get? b = some o → b ≠ C := fun b o e z => by rw [z, hC] at e; cases e
  refine ⟨fun b o e n hb hx => (sb.2 b (ne b o e)).trans (u.keep b o e n hb hx), fun b o e n hb hx => ?_, u.free, fun b o e hx => ?_, u.tups, u.frzs, u.tbls⟩
  · obtain ⟨sl, q⟩ := u.slot b o e n hb hx
    exact ⟨sl, (sb.2 b (ne b o e)).trans q⟩
  · obtain ⟨o', q⟩ := u.there b o e hx
    exact ⟨o', (sb.2 b (ne b o e)).trans q⟩
theorem HOk.same {P : Program} {w : World} {H : Hp} {h h' : Heap} {C : Addr} (k : HOk P w H h) (sb : Heap.SameBut C h h') (hC : H C = none) : HOk P w H h' := fun b o e => by
  refine (k b o e).stay (fun c v hc q => (sb.2 c ?_).trans q) (fun _ q => q) fun _ _ q => q
  rintro rfl
  rcases hc with z | z
  · rw [z, e] at hC; cases hC
  · rw [hC] at z; cases z

section
variable {X : Cx} {T : List Str} {caps : List (Str × Nat)} {scope : Scope} {elt target iter : Expr} {ifs : List Expr} {pos : Pos} {wi : TI} {g : CC → TG} {tt : CC → TT} {te : CC → TE}

theorem comp_start {pins : List (Addr × Obj)} {σ : St} {H2 : Hp} {s2 : Shared} {fp : List Addr} {C D : Addr} {h1 : Heap} {tk : Nat} {m : Str → Option Value} (S : CompScope X caps scope) (I2 : Inv X pins σ H2 s2) (f2 : ∀ b ∈ fp, FpOk X pins H2 b)
    (hfp : ∀ b ∈ fp, b < s2.heap.objs.size) (hD : s2.heap.objs.size ≤ D) (hC : s2.heap.objs.size ≤ C) (hDC : C ≠ D) (old : ∀ b o, s2.heap.get? b = some o → h1.get? b = some o)
    (acc : ∃ n, h1.get? D = some { cls := .type "list", data := .seq ([] : List Value).toArray n }) (hn : h1.Ns C m) :
    Inv (cxComp X (T ++ caps.map (·.1)) scope ⟨C, s2, H2, fp⟩) [] (capSt caps T.length σ) (upd H2 D (.lst [])) { s2 with heap := h1, toks := tk } := by
  have cs := closL_sound (env := X.env) scope.names [] S.cells (fun _ _ z => by cases z)
  have cellOld : ∀ x c, X.env.cells.lookup x = some c → c < s2.heap.objs.size := fun x c e => by
    obtain ⟨v, q⟩ := I2.cell x c e
    exact q.lt
  have stkNo : ∀ b ∈ fp, b ∉ frs X.stack := fun b hb z => by
    rcases List.mem_cons.mp (I2.stkSub b z) with e | e
    · exact (f2 b hb).2.1 e
    · exact (f2 b hb).2.2.1 e
  have fr : H2 D = none := I2.hok.fresh hD
  refine ⟨⟨I2.ok.mod, S.kind, I2.ok.glob, I2.ok.blt, hC, fun x y c e1 e2 => I2.ok.inj x y c (cs x c e1) (cs y c e2), fun x hx => ?_, fun _ _ z => absurd (show false = true from z) Bool.false_ne_true, I2.ok.hd, I2.ok.frames, .inl rfl, fun b hb => ⟨?_, fun x c e => (f2 b hb).2.2.2.2.1 x c (cs x c e)⟩,
    fun b o e => I2.bs b o e, Nat.le_trans I2.ok.bsz I2.sz, fun b o e hb => ?_, stkNo, I2.stack, I2.stkFree⟩, rfl, I2.bare, ?_, ⟨m, hn, fun i x v e1 e2 e3 => ?_⟩, fun x c e => ?_, ?_, fun x c e => ?_, fun p hp => absurd (show p ∈ ([] : List (Addr × Obj)) from hp) (by simp), ?_, ?_⟩
  · have hx' : (x, NameKind.free) ∈ scope.names := by
      rcases hx with z | z
      · exact relabel_back S.nocell (.inl rfl) z
      · exact relabel_back S.nocell (.inr rfl) z
    exact closL_has scope.names [] x (.inl hx')
  · exact Nat.ne_of_lt (Nat.lt_of_lt_of_le (hfp b hb) hC)
  · rcases (f2 b hb).2.2.2.1 with z | z
    · exact I2.ok.noex b o e z
    · exact absurd (Nat.lt_of_lt_of_le (Heap.lt_size (show X.base.get? b = some o from e)) (Nat.le_trans I2.ok.bsz z)) (Nat.lt_irrefl _)
  · exact Un.laid old hD fr
  · have hlt : ¬ i < T.length := fun hi => by
      unfold capSt at e2
      rw [List.getElem?_append_left (by simpa using hi), List.getElem?_replicate, if_pos hi] at e2
      cases e2
    have hge : T.length ≤ i := Nat.le_of_not_lt hlt
    have e1' : (T ++ caps.map (·.1))[i]? = some x := e1
    rw [List.getElem?_append_right hge, List.getElem?_map] at e1'
    unfold capSt at e2
    rw [List.getElem?_append_right (by simpa using hge), List.length_replicate, List.getElem?_map] at e2
    cases hp : caps[i - T.length]? with
    | none => rw [hp] at e1'; cases e1'
    | some p =>
      rw [hp] at e1' e2
      have ex : p.1 = x := Option.some.inj e1'
      have ev : (σ[p.2]?).join = some v := Option.some.inj e2
      obtain ⟨hN, hf, hk⟩ := S.cap.mem p (List.mem_of_getElem? hp)
      have ev' : σ[p.2]? = some (some v) := by
        cases hq : σ[p.2]? with
        | none => rw [hq] at ev; cases ev
        | some o =>
          rw [hq] at ev
          exact congrArg some ev
      obtain ⟨m2, _, hl2⟩ := I2.loc
      obtain ⟨u, ru, l⟩ := hl2 p.2 p.1 v hN ev' (hk.elim (fun z => .inr (.inl z)) fun z => .inr (.inr z))
      refine ⟨u, ru, .inr ⟨?_, ?_⟩⟩
      · rw [← ex]
        exact relabel_free (env := X.env) hf
      · rcases l with ⟨kl, _⟩ | ⟨_, c, ec, hcell⟩
        · rcases hk with z | z <;> (rw [kl] at z; cases z)
        · obtain ⟨d, hd⟩ := closL_has (env := X.env) scope.names [] p.1 (.inl (PySem.mem_of_lookup hf))
          have hd' := cs p.1 d hd
          rw [ec] at hd'
          cases hd'
          obtain ⟨o, ho, hod⟩ := hcell
          exact ⟨c, by rw [← ex]; exact hd, o, old c o ho, hod⟩
  · obtain ⟨v, o, ho, hd⟩ := I2.cell x c (cs x c e)
    exact ⟨v, o, old c o ho, hd⟩
  · show upd H2 D (.lst []) C = none
    rw [upd_ne hDC]
    exact I2.hok.fresh hC
  · show upd H2 D (.lst []) c = none
    rw [upd_ne (Nat.ne_of_lt (Nat.lt_of_lt_of_le (cellOld x c (cs x c e)) hD))]
    exact I2.freeC x c (cs x c e)
  · obtain ⟨n, e⟩ := acc
    exact I2.hok.laid old hD ⟨Nat.zero_le _, [], n, .nil, e⟩
  · show (capSt caps T.length σ).length = (T ++ caps.map (·.1)).length
    unfold capSt
    rw [List.length_append, List.length_append, List.length_map, List.length_map, List.length_replicate]

theorem pe_comp (S : CompScope X caps scope) (hc : X.calm = true) (hi : PI X target iter wi) (hg : ∀ c, PG (cxComp X (T ++ caps.map (·.1)) scope c) target (g c)) (ht : ∀ c, PIfs (cxComp X (T ++ caps.map (·.1)) scope c) ifs (tt c)) (he : ∀ c, PE (cxComp X (T ++ caps.map (·.1)) scope c) elt (te c))
    (hs : ∀ x, foldedSetIterable iter X.env x = pure x := by intro _; rfl) : PE X (.ListComp elt [⟨target, iter, ifs, 0⟩] scope pos) (tComp T.length caps wi g tt te) := by
  intro pins s σ H Q I h
  rw [eval_ListComp]
  refine wpAny_comprehension_free (use := none) rfl hs (clos_eq S.cells) S.kind S.loc (thn (hi pins s σ H _ I h) fun v s1 h1 => thn h1 fun itv s2 h2 => ?_)
  obtain ⟨it, fp, tn, J, H2, e, I2, TT, st2, f2, q2⟩ := h2
  subst e
  refine wpAny_newObj_type (wpAny_newFunctionEnv S.nocell (by intro y hy; simp at hy) (fun h1 hn hsb => ?_) S.kind)
  dsimp only at hn hsb ⊢
  generalize hg2 : s2.heap.push { cls := .type "list", dict := none, data := .seq ([] : List Value).toArray } = G at hn hsb ⊢
  have hCv : G.objs.size = s2.heap.objs.size + 1 := by rw [← hg2, Heap.size_push]
  have hDC : G.objs.size ≠ s2.heap.objs.size := by rw [hCv]; exact Nat.succ_ne_self _
  have hCle : s2.heap.objs.size ≤ G.objs.size := by rw [hCv]; exact Nat.le_succ _
  have old : ∀ b o, s2.heap.get? b = some o → h1.get? b = some o := fun b o e => hsb.extBut b o (Nat.ne_of_lt (Nat.lt_of_lt_of_le (Heap.lt_size e) hCle)) (Heap.get?_push_of_some _ (hg2 ▸ Heap.get?_push_of_some _ e))
  have hacc : ∃ n, h1.get? s2.heap.objs.size = some { cls := .type "list", data := .seq ([] : List Value).toArray n } := ⟨_, hsb.extBut _ _ (Ne.symm hDC) (Heap.get?_push_of_some _ (hg2 ▸ Heap.get?_push_size _ rfl))⟩
  have hfp : ∀ b ∈ fp, b < s2.heap.objs.size := fun b hb => by
    obtain ⟨o, e, _⟩ := TT.obj _ _ st2 b hb
    exact Heap.lt_size e
  have cs := closL_sound (env := X.env) scope.names [] S.cells (fun _ _ z => by cases z)
  have I0 := comp_start (T := T) (tk := s2.toks + ([] : List (Str × Value)).length) S I2 f2 hfp (Nat.le_refl _) hCle hDC old hacc hn
  have st0 : tn 0 h1 := TT.keep _ _ _ st2 fun b _ o e => old b o e
  obtain ⟨W, ⟨m0, w0⟩, turn⟩ := q2 ⟨G.objs.size, s2, H2, fp⟩ s2.heap.objs.size (I2.hok.fresh (Nat.le_refl _))
  have fr0 : ∀ b ∈ fp, upd H2 s2.heap.objs.size (.lst []) b = none := fun b hb => by
    rw [upd_ne (Nat.ne_of_lt (hfp b hb))]
    exact (f2 b hb).1
  have stat : ∀ {H' : Hp}, (∀ b ∈ fp, H' b = none) → ∀ b ∈ fp, FpOk (cxComp X (T ++ caps.map (·.1)) scope ⟨G.objs.size, s2, H2, fp⟩) [] H' b := fun {H'} hn' b hb =>
    ⟨hn' b hb, Nat.ne_of_lt (Nat.lt_of_lt_of_le (hfp b hb) hCle), I0.ok.exfs b hb, .inl hb, fun x c e => (f2 b hb).2.2.2.2.1 x c (cs x c e), fun p hp => absurd (show p ∈ ([] : List (Addr × Obj)) from hp) (by simp)⟩
  have loop : codeAny (model X.prog X.w) X.A (.compLoop (.ListComp elt [⟨target, iter, ifs, 0⟩] scope pos) 0 (.ref it) (.ref s2.heap.objs.size) (compEnvC scope (closL X.env scope.names []) G.objs.size X.env))
      (compPost (model X.prog X.w) X.A X.xe none (EP X pins σ Q) (.ref s2.heap.objs.size) G.objs.size) { s2 with heap := h1, toks := s2.toks + ([] : List (Str × Value)).length } := by
    refine codeAny_loop rfl (fun n s' => ∃ i σ' ys H', Inv (cxComp X (T ++ caps.map (·.1)) scope ⟨G.objs.size, s2, H2, fp⟩) [] σ' H' s' ∧ tn i s'.heap ∧ (∀ b ∈ fp, H' b = none) ∧ W i n σ' ys H') (fun n s3 hI => ?_) m0 ⟨0, _, [], _, I0, st0, fr0, w0⟩
    obtain ⟨i, σ3, ys, H3, I3, st3, fr3, w3⟩ := hI
    show wpAny _ X.A ((compTurn (.ListComp elt [⟨target, iter, ifs, 0⟩] scope pos) 0 (.ref it) (.ref s2.heap.objs.size) (compEnvC scope (closL X.env scope.names []) G.objs.size X.env)).onRaise (fun x => do noteFrame x (compEnvC scope (closL X.env scope.names []) G.objs.size X.env); theTreesLotGoes x)) _ _ s3
    refine wpAny_noted ?_
    rw [compTurn_list]
    refine wpAny_bind (wpAny_standAt (wpAny_bind ?_))
    obtain ⟨hD3, turn3⟩ := turn i n σ3 ys H3 w3
    rcases turn3 with ⟨stop, qn⟩ | ⟨go, N, hN, step⟩
    · refine thnF (TT.done (cxComp X (T ++ caps.map (·.1)) scope ⟨G.objs.size, s2, H2, fp⟩) rfl rfl rfl hc i [] s3 σ3 H3 _ I3 (stat fr3) st3 stop) fun r s4 ⟨hr, I4⟩ => ?_
      subst hr
      refine wpAny_pure ?_
      show ∃ m, s4.heap.Ns G.objs.size m ∧ ∀ h', Heap.SameBut G.objs.size s4.heap h' → EP X pins σ Q (.ref s2.heap.objs.size) { s4 with heap := h' }
      obtain ⟨m4, hn4, _⟩ := I4.loc
      refine ⟨m4, hn4, fun h' sb => ⟨.ref s2.heap.objs.size, H3, ?_, rfl, qn⟩⟩
      refine I2.call' (s' := { s4 with heap := h' }) (ch := fp) I4.os (Un.same I4.base sb (Heap.get?_none_of_le hCle)) (HOk.same I4.hok sb I4.free) I4.bare fun b hb => ?_
      obtain ⟨_, f1, _, f3, f4, f5⟩ := f2 b hb
      exact ⟨f3, f1, f4, f5⟩
    · refine thnF (TT.item (cxComp X (T ++ caps.map (·.1)) scope ⟨G.objs.size, s2, H2, fp⟩) rfl rfl rfl hc i [] s3 σ3 H3 _ I3 (stat fr3) st3 go) fun r s4 ⟨u, hr, h4⟩ => ?_
      subst hr
      refine wpAny_bind (thnF h4 fun _ s5 ⟨x, H5, I5, r5, y5, st5, fr5⟩ => ?_)
      have I5' := I5.pinned (stat fr5) (TT.obj _ _ st5)
      refine wpAny_bind (thnF (hg _ _ s5 σ3 H5 x u _ I5' r5 (step x H5 y5)) fun _ s6 ⟨σ6, H6, I6, q6⟩ => ?_)
      have again : ∀ {s7 : Shared} {σ7 : St} {zs : List V} {H7 : Hp}, Inv (cxComp X (T ++ caps.map (·.1)) scope ⟨G.objs.size, s2, H2, fp⟩) ([] ++ pinsAt fp s5.heap) σ7 H7 s7 → N σ7 zs H7 →
          ∃ m, m < n ∧ ∃ i σ' ys H', Inv (cxComp X (T ++ caps.map (·.1)) scope ⟨G.objs.size, s2, H2, fp⟩) [] σ' H' s7 ∧ tn i s7.heap ∧ (∀ b ∈ fp, H' b = none) ∧ W i m σ' ys H' := fun {s7 σ7 zs H7} I7 n7 => by
        obtain ⟨m', hm, w7⟩ := hN σ7 zs H7 n7
        refine ⟨m', hm, i + 1, σ7, zs, H7, I7.unpinned, TT.keep _ _ _ st5 fun b hb o e => (I7.pin (b, o) (List.mem_append_right _ (List.mem_append_right _ (mem_pinsAt hb e)))).1, fun b hb => ?_, w7⟩
        obtain ⟨o, e, d⟩ := TT.obj _ _ st5 b hb
        exact (I7.pin (b, o) (List.mem_append_right _ (List.mem_append_right _ (mem_pinsAt hb e)))).2.1
      refine wpAny_bind (thnF (ht _ _ s6 σ6 H6 _ I6 q6) fun ok s7 ⟨H7, I7, q7⟩ => ?_)
      cases ok with
      | false => exact wpAny_pure ⟨rfl, again I7 q7⟩
      | true =>
        refine wpAny_bind (wpAny_bind (thnF (he _ _ s7 σ6 H7 _ I7 q7) fun y s8 ⟨yv, H8, I8, r8, hD8, hl8, q8⟩ => ?_))
        refine wpAny_bind (thnF (mt_append _ s8 σ6 H8 (.ref s2.heap.objs.size) [yv] (.ref s2.heap.objs.size) [y] (fun _ H9 => N σ6 (ys ++ [yv]) H9) I8 rfl (.cons r8 .nil) ⟨_, ys, yv, rfl, rfl, hD8, hl8, q8⟩) fun _ s9 ⟨_, H9, I9, _, q9⟩ => ?_)
        exact wpAny_pure (wpAny_pure ⟨rfl, again I9 q9⟩)
  exact codeAny_compStart_list loop (TT.self _ 0 _ _ _ st0 loop)
end
end L2

namespace L2
open PySem PySem.Spec PyProof.Rows

theorem bt_len : bootBuiltins "len" = some (.builtin "len") := by decide +kernel
theorem bt_abs : bootBuiltins "abs" = some (.builtin "abs") := by decide +kernel
theorem bt_all : bootBuiltins "all" = some (.builtin "all") := by decide +kernel
theorem bt_min : bootBuiltins "min" = some (.builtin "min") := by decide +kernel
theorem bt_isinstance : bootBuiltins "isinstance" = some (.builtin "isinstance") := by decide +kernel
theorem bt_int : bootBuiltins "int" = some (.type "int") := by decide +kernel
theorem bt_bool : bootBuiltins "bool" = some (.type "bool") := by decide +kernel
theorem bt_str : bootBuiltins "str" = some (.type "str") := by decide +kernel
theorem bt_list : bootBuiltins "list" = some (.type "list") := by decide +kernel
theorem bt_tuple : bootBuiltins "tuple" = some (.type "tuple") := by decide +kernel
theorem bt_zip : bootBuiltins "zip" = some (.type "zip") := by decide +kernel

def Has (P : Program) (w : World) (K : PySem.W.Frag) (mg : Str → Option Value) (base : Heap) (x : Str) (n : Nat) (ps : List Str) (sp : Sp) : Prop :=
  ∃ (f : Addr) (fd : FuncData), FnOk P w K mg base CX0 n f fd ps sp ∧ Binds K fd ps [] ∧ PySem.W.keepIn K (.ref f) = true ∧ mg x = some (.ref f)
section
variable {X : Cx} {x : Str} {p pos : Pos} {e : Expr} {es : List Expr} {t : TA} {n : Nat} {ps : List Str} {sp : Sp}
theorem pe_callH (h : Has X.prog X.w X.K X.mg X.base x n ps sp) (hr : Room n X.A) (hg : Gl X x) (ha : PA X (e :: es) t) (hdb : (x == ("__debug__" : Str)) = false := by decide)
    (he : starEach (e :: es) X.env = (false, eval e X.env) :: starEach es X.env := by rfl) (hpl : (backTo pos (starEach es X.env)).any (·.1) = false := by rfl) : PE X (.Call (.Name x p) (e :: es) [] pos) (tCall sp [] E0 t) := by
  obtain ⟨f, fd, F, b, k, m⟩ := h
  exact pe_call F hr hg m k b .nil pass0 ha hdb he hpl
end

section
variable {X : Cx}
def CDivP (i j : Int) : Prop := 0 < j ∧ j.natAbs < 2 ^ 4096
theorem op_fdivP : OpR X (binaryOp .FloorDiv) (rI CDivP fun i j => .int (i / j)) := opI fun i j _ _ _ _ _ hc q => by
  have h1 : (0 : Int) < j := hc.1
  have h3 : j.natAbs.log2 < 9000 := Nat.lt_trans ((Nat.log2_lt (by omega)).mpr hc.2) (by decide)
  exact floordiv_int (by omega) (by rw [Int.fdiv_eq_ediv_of_nonneg i (by omega)]; exact q) (.inl (PyProof.noPylong_of_log2 h3))
theorem CDivP.of {i j : Int} (h : 0 < j) (h2 : j < 10 ^ 600) : CDivP i j := by
  refine ⟨h, ?_⟩
  have e : (10 : Nat) ^ 600 < 2 ^ 4096 := by decide +kernel
  omega
theorem call_isinst : CallR X (.builtin "isinstance") (fun xs H Q => ∃ x T t b, xs = [x, .ty T] ∧ TyOf X.K H x t ∧ PySem.W.kitOne X.K t (.type T) = some b ∧ Q (.bl b) H) := by
  intro pins s σ H xs us Q I r h
  obtain ⟨x, T, t, b, rfl, ty, e, q⟩ := h
  obtain ⟨u, v, rfl, ru, rv⟩ := Vals.two r
  cases rv
  exact isinst_ok I ru ty e fun tk => ⟨.bl b, H, I.tok tk, rfl, q⟩

def Sq (K : PySem.W.Frag) (H : Hp) (p : Addr) (xs : List V) : Prop := SqL K H p xs ∨ SqT K H p xs
def rIxA (K : PySem.W.Frag) : R2 := fun x y H Q => ∃ p xs i v, x = .ref p ∧ y = .int i ∧ Sq K H p xs ∧ atI xs i = some v ∧ Q v H
theorem ix_any : IxR X (rIxA X.K) := by
  intro value slice pins s σ H x y v u Q I rx ry q hs
  obtain ⟨p, xs, i, z, e1, e2, hq, ha, q⟩ := q
  rcases hq with hq | hq
  · exact ix_list value slice pins s σ H x y v u Q I rx ry ⟨p, xs, i, z, e1, e2, hq, ha, q⟩ hs
  · exact ix_tup value slice pins s σ H x y v u Q I rx ry ⟨p, xs, i, z, e1, e2, hq, ha, q⟩ hs
def iSeq (K : PySem.W.Frag) (tl : TE) : TI := fun σ H R => tl σ H fun x H1 => ∃ a, x = .ref a ∧ (((∃ xs, SqL K H1 a xs) ∧ R (Itl K a) H1) ∨ ((∃ xs, SqT K H1 a xs) ∧ R (Itt K a) H1))
theorem pi_seq {tg l : Expr} {tl : TE} (hl : PE X l tl) : PI X tg l (iSeq X.K tl) := by
  intro pins s σ H R I h
  refine thn (hl pins s σ H _ I h) fun v s1 ⟨x, H1, I1, r1, q1⟩ => ?_
  obtain ⟨a, e, q⟩ := q1
  subst e
  cases r1
  have own : ∀ b, b ∈ [s1.heap.objs.size] → FpOk X pins H1 b := fun b hb => by
    rw [List.mem_singleton] at hb
    subst hb
    exact I1.fpOk (Nat.le_refl _) (I1.hok.fresh (Nat.le_refl _))
  rcases q with ⟨⟨xs, hq⟩, q⟩ | ⟨⟨xs, hq⟩, q⟩
  · obtain ⟨its, rv, p, hz⟩ := I1.list hq
    exact wpAny_pyIter_list p.isList ⟨s1.heap.objs.size, [s1.heap.objs.size], _, _, H1, rfl, I1.kept (t' := s1.toks) fun b o e => Heap.get?_push_of_some _ e, turn_list a _, ⟨_, Heap.get?_push_size _ rfl, rfl, rfl⟩, own, q⟩
  · obtain ⟨its, rv, p, hz⟩ := I1.tuple hq
    exact wpAny_pyIter_tuple (show s1.heap.IsTuple a its.toArray from p) ⟨s1.heap.objs.size, [s1.heap.objs.size], _, _, H1, rfl, I1.kept (t' := s1.toks) fun b o e => Heap.get?_push_of_some _ e, turn_tuple a _, ⟨_, Heap.get?_push_size _ rfl, rfl, rfl⟩, own, q⟩
end

section
variable {K : PySem.W.Frag} {a D : Addr} {xs : List V} {g : TG} {tt : TT} {te : TE} {σ0 : St} {H1 : Hp} {Q : VK}
theorem comp_list (Pv : Nat → St → List V → Hp → Prop) (h0 : Pv 0 σ0 [] (upd H1 D (.lst []))) (hl : ∀ i σ ys H, i ≤ xs.length → Pv i σ ys H → SqL K H a xs ∧ H D = some (.lst ys))
    (hs : ∀ i x σ ys H, xs[i]? = some x → Pv i σ ys H → g x σ H fun σ2 H2 => tt σ2 H2 fun b H3 =>
      if b = true then te σ2 H3 fun y H4 => H4 D = some (.lst ys) ∧ ys.length < sizeLine ∧ Pv (i + 1) σ2 (ys ++ [y]) (upd H4 D (.lst (ys ++ [y]))) else Pv (i + 1) σ2 ys H3)
    (hd : ∀ σ ys H, Pv xs.length σ ys H → Q (.ref D) H) : CompW (Itl K a) D g tt te σ0 H1 Q := by
  refine ⟨fun i m σ ys H => m = xs.length - i ∧ i ≤ xs.length ∧ Pv i σ ys H, ⟨xs.length, by simp, Nat.zero_le _, h0⟩, ?_⟩
  rintro i m σ ys H ⟨rfl, hi, p⟩
  obtain ⟨q, qd⟩ := hl i σ ys H hi p
  refine ⟨qd, ?_⟩
  by_cases hlt : i < xs.length
  · refine .inr ⟨⟨xs, xs[i], q, by simp [hlt]⟩, Pv (i + 1), fun σ' zs H' z => ⟨xs.length - (i + 1), by omega, rfl, hlt, z⟩, fun x H' y => ?_⟩
    obtain ⟨e, y⟩ := y
    subst e
    exact hs i x σ ys _ (y xs q) p
  · have e : i = xs.length := by omega
    subst e
    exact .inl ⟨⟨xs, q, Nat.le_refl _⟩, hd σ ys H p⟩
theorem comp_tup (Pv : Nat → St → List V → Hp → Prop) (h0 : Pv 0 σ0 [] (upd H1 D (.lst []))) (hl : ∀ i σ ys H, i ≤ xs.length → Pv i σ ys H → SqT K H a xs ∧ H D = some (.lst ys))
    (hs : ∀ i x σ ys H, xs[i]? = some x → Pv i σ ys H → g x σ H fun σ2 H2 => tt σ2 H2 fun b H3 =>
      if b = true then te σ2 H3 fun y H4 => H4 D = some (.lst ys) ∧ ys.length < sizeLine ∧ Pv (i + 1) σ2 (ys ++ [y]) (upd H4 D (.lst (ys ++ [y]))) else Pv (i + 1) σ2 ys H3)
    (hd : ∀ σ ys H, Pv xs.length σ ys H → Q (.ref D) H) : CompW (Itt K a) D g tt te σ0 H1 Q := by
  refine ⟨fun i m σ ys H => m = xs.length - i ∧ i ≤ xs.length ∧ Pv i σ ys H, ⟨xs.length, by simp, Nat.zero_le _, h0⟩, ?_⟩
  rintro i m σ ys H ⟨rfl, hi, p⟩
  obtain ⟨q, qd⟩ := hl i σ ys H hi p
  refine ⟨qd, ?_⟩
  by_cases hlt : i < xs.length
  · refine .inr ⟨⟨xs, xs[i], q, by simp [hlt]⟩, Pv (i + 1), fun σ' zs H' z => ⟨xs.length - (i + 1), by omega, rfl, hlt, z⟩, fun x H' y => ?_⟩
    obtain ⟨e, y⟩ := y
    subst e
    exact hs i x σ ys _ (y xs q) p
  · have e : i = xs.length := by omega
    subst e
    exact .inl ⟨⟨xs, q, Nat.le_refl _⟩, hd σ ys H p⟩
theorem comp_range {lo : Int} {n : Nat} (Pv : Nat → St → List V → Hp → Prop) (h0 : Pv 0 σ0 [] (upd H1 D (.lst []))) (hl : ∀ i σ ys H, i ≤ n → Pv i σ ys H → H D = some (.lst ys))
    (hs : ∀ i σ ys H, i < n → Pv i σ ys H → g (.int (lo + i)) σ H fun σ2 H2 => tt σ2 H2 fun b H3 =>
      if b = true then te σ2 H3 fun y H4 => H4 D = some (.lst ys) ∧ ys.length < sizeLine ∧ Pv (i + 1) σ2 (ys ++ [y]) (upd H4 D (.lst (ys ++ [y]))) else Pv (i + 1) σ2 ys H3)
    (hd : ∀ σ ys H, Pv n σ ys H → Q (.ref D) H) : CompW (Itr lo n) D g tt te σ0 H1 Q := by
  refine ⟨fun i m σ ys H => m = n - i ∧ i ≤ n ∧ Pv i σ ys H, ⟨n, by simp, Nat.zero_le _, h0⟩, ?_⟩
  rintro i m σ ys H ⟨rfl, hi, p⟩
  have qd := hl i σ ys H hi p
  refine ⟨qd, ?_⟩
  by_cases hlt : i < n
  · refine .inr ⟨hlt, Pv (i + 1), fun σ' zs H' z => ⟨n - (i + 1), by omega, rfl, hlt, z⟩, fun x H' y => ?_⟩
    obtain ⟨e, y⟩ := y
    subst e y
    exact hs i σ ys _ hlt p
  · have e : i = n := by omega
    subst e
    exact .inl ⟨Nat.le_refl _, hd σ ys H p⟩
end
section
variable {K : PySem.W.Frag} {a D : Addr} {xs : List V} {g : TG} {te : TE} {σ0 : St} {H1 : Hp} {Q : VK}
theorem comp_list0 (Pv : Nat → St → List V → Hp → Prop) (h0 : Pv 0 σ0 [] (upd H1 D (.lst []))) (hl : ∀ i σ ys H, i ≤ xs.length → Pv i σ ys H → SqL K H a xs ∧ H D = some (.lst ys))
    (hs : ∀ i x σ ys H, xs[i]? = some x → Pv i σ ys H → g x σ H fun σ2 H2 => te σ2 H2 fun y H4 => H4 D = some (.lst ys) ∧ ys.length < sizeLine ∧ Pv (i + 1) σ2 (ys ++ [y]) (upd H4 D (.lst (ys ++ [y]))))
    (hd : ∀ σ ys H, Pv xs.length σ ys H → Q (.ref D) H) : CompW (Itl K a) D g tYes te σ0 H1 Q := comp_list Pv h0 hl (fun i x σ ys H e p => hs i x σ ys H e p) hd
theorem comp_tup0 (Pv : Nat → St → List V → Hp → Prop) (h0 : Pv 0 σ0 [] (upd H1 D (.lst []))) (hl : ∀ i σ ys H, i ≤ xs.length → Pv i σ ys H → SqT K H a xs ∧ H D = some (.lst ys))
    (hs : ∀ i x σ ys H, xs[i]? = some x → Pv i σ ys H → g x σ H fun σ2 H2 => te σ2 H2 fun y H4 => H4 D = some (.lst ys) ∧ ys.length < sizeLine ∧ Pv (i + 1) σ2 (ys ++ [y]) (upd H4 D (.lst (ys ++ [y]))))
    (hd : ∀ σ ys H, Pv xs.length σ ys H → Q (.ref D) H) : CompW (Itt K a) D g tYes te σ0 H1 Q := comp_tup Pv h0 hl (fun i x σ ys H e p => hs i x σ ys H e p) hd
theorem comp_range0 {lo : Int} {n : Nat} (Pv : Nat → St → List V → Hp → Prop) (h0 : Pv 0 σ0 [] (upd H1 D (.lst []))) (hl : ∀ i σ ys H, i ≤ n → Pv i σ ys H → H D = some (.lst ys))
    (hs : ∀ i σ ys H, i < n → Pv i σ ys H → g (.int (lo + i)) σ H fun σ2 H2 => te σ2 H2 fun y H4 => H4 D = some (.lst ys) ∧ ys.length < sizeLine ∧ Pv (i + 1) σ2 (ys ++ [y]) (upd H4 D (.lst (ys ++ [y]))))
    (hd : ∀ σ ys H, Pv n σ ys H → Q (.ref D) H) : CompW (Itr lo n) D g tYes te σ0 H1 Q := comp_range Pv h0 hl (fun i σ ys H e p => hs i σ ys H e p) hd
end
end L2

namespace L2
open PySem PySem.Spec PyProof.Rows
theorem all_range : ∀ bs : List Bool, (List.range bs.length).all (fun i => (bs[i]?).getD true) = bs.all id := by
  intro bs
  rw [Bool.eq_iff_iff, List.all_eq_true, List.all_eq_true]
  constructor
  · intro h b hb
    obtain ⟨i, hi, e⟩ := List.getElem_of_mem hb
    have q := h i (List.mem_range.mpr hi)
    rw [List.getElem?_eq_getElem hi, e] at q
    exact q
  · intro h i hi
    have hi' := List.mem_range.mp hi
    rw [List.getElem?_eq_getElem hi']
    exact h _ (List.getElem_mem hi')
theorem bools_at {bs : List Bool} {its : List Value} (r : Vals (bs.map V.bl) its) {i : Nat} {v : Value} (h : its[i]? = some v) : v = .bool ((bs[i]?).getD true) := by
  have hl := r.length
  rw [List.length_map] at hl
  have hi : i < its.length := (List.getElem?_eq_some_iff.mp h).1
  have hb : i < bs.length := by omega
  obtain ⟨u, hu, ru⟩ := r.get (i := i) (x := .bl bs[i]) (by rw [List.getElem?_map, List.getElem?_eq_getElem hb]; rfl)
  rw [hu] at h
  cases h
  rw [List.getElem?_eq_getElem hb]
  exact ru
section
variable {X : Cx}
theorem call_allB (hc : X.calm = true) : CallR X (.builtin "all") (fun xs H Q => ∃ (p : Addr) (bs : List Bool), xs = [.ref p] ∧ SqL X.K H p (bs.map V.bl) ∧ Q (.bl (bs.all id)) H) := by
  intro pins s σ H xs us Q I r h
  obtain ⟨p, bs, rfl, hq, q⟩ := h
  obtain ⟨u, rfl, ru⟩ := Vals.one r
  cases ru
  obtain ⟨its, rv, pl, hz⟩ := I.list hq
  have plt : p < s.heap.objs.size := by
    obtain ⟨_, e, _⟩ := pl.isList
    exact Heap.lt_size e
  refine call_all_walk (wpAny_pyIter_list pl.isList ?_)
  refine ⟨s.heap.objs.size, _, _, _, _, _, fun i => (bs[i]?).getD true, rfl, Walks.list (A := X.A.in1) (show X.A.in1.handled = none from I.ok.hd hc) _ p (Nat.ne_of_lt plt) its.toArray, ⟨⟨_, Heap.get?_push_size _ rfl, rfl, rfl⟩, Heap.IsList.push pl.isList _⟩, fun i v s Q E hP hQ => ?_, fun h' tk k => ?_⟩
  · have e := bools_at rv (by simpa using hP)
    subst e
    exact wpAny_truthy_bool hQ
  · have e : (List.range its.toArray.size).all (fun i => (bs[i]?).getD true) = bs.all id := by
      have hl := rv.length
      rw [List.length_map] at hl
      rw [List.size_toArray, ← hl]
      exact all_range bs
    rw [e]
    exact ⟨.bl (bs.all id), H, I.kept (t' := tk) fun b o z => k b o (fun w => by rw [List.mem_singleton] at w; exact Nat.lt_irrefl _ (w ▸ Heap.lt_size z)) (Heap.get?_push_of_some _ z), rfl, q⟩
end
end L2

namespace L2
open PySem PySem.Spec PyProof.Rows

def SI (b : Bool) (h : Heap) (i l : Addr) (k : Nat) : Prop := match b with | true => h.IsListIter i l k | false => h.IsTupleIter i l k
def SS (b : Bool) (h : Heap) (l : Addr) (its : Array Value) : Prop := match b with | true => h.IsList l its | false => h.IsTuple l its
def itCls (b : Bool) : String := match b with | true => "list_iterator" | false => "tuple_iterator"
theorem SI.obj {b : Bool} {h : Heap} {i l : Addr} {k : Nat} (x : SI b h i l k) : ∃ o, h.get? i = some o ∧ o.cls = .type (itCls b) ∧ o.data = .fields #[.ref l, .int k 0] := by
  cases b <;> exact x
theorem SI.of {b : Bool} {h : Heap} {i l : Addr} {k : Nat} (x : ∃ o, h.get? i = some o ∧ o.cls = .type (itCls b) ∧ o.data = .fields #[.ref l, .int k 0]) : SI b h i l k := by
  cases b <;> exact x
theorem SI.at {b : Bool} {h h' : Heap} {i l : Addr} {k : Nat} (x : SI b h i l k) (e : ∀ o, h.get? i = some o → h'.get? i = some o) : SI b h' i l k := by
  obtain ⟨o, ho, r⟩ := x.obj
  exact SI.of ⟨o, e o ho, r⟩
theorem SS.at {b : Bool} {h h' : Heap} {l : Addr} {its : Array Value} (x : SS b h l its) (e : ∀ o, h.get? l = some o → h'.get? l = some o) : SS b h' l its := by
  cases b <;> (obtain ⟨o, ho, r⟩ := x; exact ⟨o, e o ho, r⟩)
theorem SS.obj {b : Bool} {h : Heap} {l : Addr} {its : Array Value} (x : SS b h l its) : ∃ o, h.get? l = some o ∧ o.cls = .type (match b with | true => "list" | false => "tuple") := by
  cases b <;> (obtain ⟨o, ho, hc, _⟩ := x; exact ⟨o, ho, hc⟩)
section
variable {prog : Program} {w : World} {A : Around} {E : Value → Shared → Prop} {s : Shared}
theorem nxT_item {i l : Addr} {k : Nat} {its : Array Value} {y : Value} {Q : Value → Shared → Prop} (zi : s.heap.IsTupleIter i l k) (zl : s.heap.IsTuple l its) (zy : its[k]? = some y)
    (zq : ∀ h', h'.IsTupleIter i l (k + 1) → Heap.SameBut i s.heap h' → Q y { s with heap := h' }) : wpAny (model prog w) A (Builtin.SmallTypes.nextOf (.ref i)) Q E s := by
  obtain ⟨ob, zo, zc, zd⟩ := id zi
  obtain ⟨ot, zot, _, nt, zdt⟩ := zl
  unfold Builtin.SmallTypes.nextOf
  refine wpAny_bind (wpAny_callSpecial?_slot (name := Str.ofString "__next__") zi.typeIs F.slot_tuple_iterator_next (wpAny_call_entry F.slot_tuple_iterator_next zi.typeIs F.entry_tuple_iterator_next ?_ (F.args_tuple_iterator_next_1 _)))
  show wpAny _ _ (field (.ref i) 0 >>= _) _ _ s
  refine wpAny_bind (wpAny_field zo zd (x := .ref l) rfl ?_)
  show wpAny _ _ (if (Value.ref l == Value.none) = true then _ else _) _ _ s; rw [if_neg (show ¬ ((Value.ref l == Value.none) = true) from Bool.false_ne_true)]
  show wpAny _ _ (field (.ref i) 1 >>= _) _ _ s
  refine wpAny_bind (wpAny_field zo zd (x := .int k 0) rfl ?_)
  show wpAny _ _ (seqItems? (.ref l) >>= _) _ _ s; refine wpAny_bind (wpAny_seqItems zot zdt ?_)
  simp only [Int.toNat_natCast, zy]
  refine wpAny_bind (wpAny_setField zo zd (by simp) (wpAny_pure ⟨y, rfl, wpAny_pure (zq _ ?_ (Heap.SameBut.update ..))⟩))
  exact ⟨_, Heap.get?_update_self _ zo (Obj.isFreed_of_fields (Obj.data_mapFields zd _)), (Obj.cls_mapFields ..).trans zc, by rw [Obj.data_mapFields zd]; simp [rawInt]⟩
theorem nxT_end {i l : Addr} {k : Nat} {its : Array Value} {Q : Value → Shared → Prop} (hh : A.handled = none) (zi : s.heap.IsTupleIter i l k) (zl : s.heap.IsTuple l its) (zy : its[k]? = none)
    (zE : ∀ h' e, Heap.ExtBut i s.heap h' → (∃ o, h'.get? e = some o ∧ o.cls = .type "StopIteration") → E (.ref e) { s with heap := h' }) : wpAny (model prog w) A (Builtin.SmallTypes.nextOf (.ref i)) Q E s := by
  obtain ⟨ob, zo, zc, zd⟩ := id zi
  obtain ⟨ot, zot, _, nt, zdt⟩ := zl
  unfold Builtin.SmallTypes.nextOf
  refine wpAny_bind (wpAny_callSpecial?_slot (name := Str.ofString "__next__") zi.typeIs F.slot_tuple_iterator_next (wpAny_call_entry F.slot_tuple_iterator_next zi.typeIs F.entry_tuple_iterator_next ?_ (F.args_tuple_iterator_next_1 _)))
  show wpAny _ _ (field (.ref i) 0 >>= _) _ _ s
  refine wpAny_bind (wpAny_field zo zd (x := .ref l) rfl ?_)
  show wpAny _ _ (if (Value.ref l == Value.none) = true then _ else _) _ _ s; rw [if_neg (show ¬ ((Value.ref l == Value.none) = true) from Bool.false_ne_true)]
  show wpAny _ _ (field (.ref i) 1 >>= _) _ _ s
  refine wpAny_bind (wpAny_field zo zd (x := .int k 0) rfl ?_)
  show wpAny _ _ (seqItems? (.ref l) >>= _) _ _ s; refine wpAny_bind (wpAny_seqItems zot zdt ?_)
  simp only [Int.toNat_natCast, zy]
  refine wpAny_bind (wpAny_rule (wpAny_bind (wpAny_setField zo zd (by simp) ?_)))
  show wpAny _ _ (newExc (.type "StopIteration") [] >>= _) _ _ _; refine wpAny_bind ?_; simp only [newExc, newTuple]
  refine wpAny_bind (wpAny_newObj_type ?_ (by size_fits)); refine wpAny_bind (m := firstArgMember _ _) (wpAny_of_eq (a := Value.none) (by first | rfl | (simp only [firstArgMember]; rfl)) ?_)
  refine wpAny_newObj_type ?_ (by size_fits); simp only [raiseNew]; refine wpAny_bind (wpAny_handled ?_)
  first | rw [show A.in1.handled = none from hh] | rw [hh]
  refine wpAny_bind (wpAny_pure (wpAny_throw ?_)); exact zE _ _ (((Heap.SameBut.update ..).extBut.push _).push _) ⟨_, Heap.get?_push_size _ rfl, rfl⟩
theorem nx_item {b : Bool} {i l : Addr} {k : Nat} {its : Array Value} {y : Value} {Q : Value → Shared → Prop} (zi : SI b s.heap i l k) (zl : SS b s.heap l its) (zy : its[k]? = some y)
    (zq : ∀ h', SI b h' i l (k + 1) → Heap.SameBut i s.heap h' → Q y { s with heap := h' }) : wpAny (model prog w) A (Builtin.SmallTypes.nextOf (.ref i)) Q E s := by
  cases b
  · exact nxT_item zi zl zy zq
  · exact wpAny_nextOf_list_item zi zl zy zq
theorem nx_end {b : Bool} {i l : Addr} {k : Nat} {its : Array Value} {Q : Value → Shared → Prop} (hh : A.handled = none) (zi : SI b s.heap i l k) (zl : SS b s.heap l its) (zy : its[k]? = none)
    (zE : ∀ h' e, Heap.ExtBut i s.heap h' → (∃ o, h'.get? e = some o ∧ o.cls = .type "StopIteration") → E (.ref e) { s with heap := h' }) : wpAny (model prog w) A (Builtin.SmallTypes.nextOf (.ref i)) Q E s := by
  cases b
  · exact nxT_end hh zi zl zy zE
  · exact wpAny_nextOf_list_end hh zi zl zy zE
theorem it_new {b : Bool} {l : Addr} {its : Array Value} {Q : Value → Shared → Prop} (zl : SS b s.heap l its) (h : Q (.ref s.heap.objs.size) { s with heap := s.heap.push { cls := .type (itCls b), data := .fields #[.ref l, .int 0 0] } }) :
    wpAny (model prog w) A (pyIter (.ref l)) Q E s := by
  cases b
  · exact wpAny_pyIter_tuple zl h
  · exact wpAny_pyIter_list zl h

theorem zipS_item {b1 b2 : Bool} {z TI TO i1 i2 l1 l2 : Addr} {k : Nat} {xs ys : Array Value} {x y a b : Value} {Q : Value → Shared → Prop} (D : ZipApart z TI TO i1 i2 l1 l2)
    (hz : IsZip s.heap z TI TO .none) (hI : IsPair s.heap TI (.ref i1) (.ref i2)) (hO : IsPair s.heap TO a b) (h1 : SI b1 s.heap i1 l1 k) (h2 : SI b2 s.heap i2 l2 k) (g1 : SS b1 s.heap l1 xs) (g2 : SS b2 s.heap l2 ys)
    (hx : xs[k]? = some x) (hy : ys[k]? = some y)
    (hQ : ∀ h', IsZip h' z TI TO (rawInt s.heap.objs.size) → IsPair h' TO x y → SI b1 h' i1 l1 (k + 1) → SI b2 h' i2 l2 (k + 1) → IsPair h' s.heap.objs.size x y →
      (∀ c o, c ≠ z → c ≠ TO → c ≠ i1 → c ≠ i2 → s.heap.get? c = some o → h'.get? c = some o) → Q (.ref s.heap.objs.size) { s with heap := h' }) :
    wpAny (model prog w) A (Builtin.«zip.__next__» ⟨[.ref z], []⟩) (fun fin s' => ∃ v, fin = .done (.ret v) ∧ Q v s') E s := by
  show wpAny _ _ (field (.ref z) 2 >>= _) _ _ _; refine wpAny_bind (wpAny_field hz rfl (x := .bool false) rfl ?_)
  show wpAny _ _ (field (.ref z) 3 >>= _) _ _ _; refine wpAny_bind (wpAny_field hz rfl (x := .ref TI) rfl ?_)
  refine wpAny_bind (wpAny_seqItems hI rfl ?_)
  show wpAny _ _ (Builtin.SmallTypes.ownedTupleIsFree (.ref z) >>= _) _ _ _; refine wpAny_bind ?_; unfold Builtin.SmallTypes.ownedTupleIsFree
  refine wpAny_bind (wpAny_field hz rfl (x := .none) rfl (wpAny_pure ?_)); simp only [if_true]
  refine wpAny_bind (wpAny_rule ?_); refine wpAny_bind (wpAny_field hz rfl (x := .ref TO) rfl ?_)
  refine wpAny_bind (wpAny_setField_rec hz (by simp) fun k1 z1 s1 => ?_); replace z1 : IsZip k1 z TI TO .ellipsis := z1
  refine wpAny_bind ?_; simp only [List.zipIdx_cons, List.zipIdx_nil, List.forIn_cons, List.forIn_nil]
  refine wpAny_bind (wpAny_bind (wpAny_onRaise ?_)); show wpAny _ _ (Builtin.SmallTypes.nextOf (.ref i1) >>= _) _ _ _
  refine wpAny_bind (nx_item (h1.at fun o e => s1.extBut _ o D.i1z e) (g1.at fun o e => s1.extBut _ o D.l1z e) hx fun k2 q2 s2 => wpAny_pure ?_)
  have o2 : IsPair k2 TO a b := s2.extBut _ _ D.TOi1 (s1.extBut _ _ D.TOz hO)
  refine wpAny_bind (wpAny_seqItems o2 rfl ?_)
  refine wpAny_bind (wpAny_updateSeq_pair o2 fun k3 o3 s3 => ?_); replace o3 : IsPair k3 TO x b := o3
  refine wpAny_bind (wpAny_letGo (wpAny_pure ?_)); refine wpAny_bind (wpAny_bind (wpAny_onRaise ?_)); show wpAny _ _ (Builtin.SmallTypes.nextOf (.ref i2) >>= _) _ _ _
  refine wpAny_bind (nx_item (h2.at fun o e => s3.extBut _ o D.TOi2.symm (s2.extBut _ o D.i12.symm (s1.extBut _ o D.i2z e))) (g2.at fun o e => s3.extBut _ o D.l2TO (s2.extBut _ o D.l2i1 (s1.extBut _ o D.l2z e))) hy fun k4 q4 s4 => wpAny_pure ?_)
  have o4 : IsPair k4 TO x b := s4.extBut _ _ D.TOi2 o3
  refine wpAny_bind (wpAny_seqItems o4 rfl ?_)
  refine wpAny_bind (wpAny_updateSeq_pair o4 fun k5 o5 s5 => ?_); replace o5 : IsPair k5 TO x y := o5
  refine wpAny_bind (wpAny_letGo (wpAny_pure (wpAny_pure ?_)))
  refine wpAny_bind (wpAny_seqItems o5 rfl ?_); refine wpAny_bind (wpAny_newTuple ?_)
  have hsz : k5.objs.size = s.heap.objs.size := by rw [s5.1, s4.1, s3.1, s2.1, s1.1]
  have z5 : IsZip k5 z TI TO .ellipsis := s5.extBut _ _ D.TOz.symm (s4.extBut _ _ D.i2z.symm (s3.extBut _ _ D.TOz.symm (s2.extBut _ _ D.i1z.symm z1)))
  have kp : ∀ c o, c ≠ z → c ≠ TO → c ≠ i1 → c ≠ i2 → s.heap.get? c = some o → k5.get? c = some o := fun c o c1 c2 c3 c4 e => s5.extBut _ _ c2 (s4.extBut _ _ c4 (s3.extBut _ _ c2 (s2.extBut _ _ c3 (s1.extBut _ _ c1 e))))
  have a5 : SI b1 k5 i1 l1 (k + 1) := q2.at fun o e => s5.extBut _ o D.TOi1.symm (s4.extBut _ o D.i12 (s3.extBut _ o D.TOi1.symm e))
  have b5 : SI b2 k5 i2 l2 (k + 1) := q4.at fun o e => s5.extBut _ o D.TOi2.symm e
  have zlt : z < k5.objs.size := Heap.lt_size z5
  show wpAny _ _ (Builtin.SmallTypes.ownedTupleHandOut (.ref z) (.ref k5.objs.size) >>= _) _ _ _; refine wpAny_bind ?_; unfold Builtin.SmallTypes.ownedTupleHandOut
  have z6 : IsZip (k5.push { cls := .type "tuple", data := .seq #[x, y] }) z TI TO .ellipsis := Heap.get?_push_of_some _ z5
  refine wpAny_bind (wpAny_setField_rec z6 (by simp) fun k7 z7 s7 => ?_); replace z7 : IsZip k7 z TI TO (rawInt k5.objs.size) := z7
  refine wpAny_setField_rec z7 (by simp) fun k8 z8 s8 => ?_; replace z8 : IsZip k8 z TI TO (rawInt k5.objs.size) := z8
  have up : ∀ c o, c ≠ z → k5.get? c = some o → k8.get? c = some o := fun c o c1 e => s8.extBut _ _ c1 (s7.extBut _ _ c1 (Heap.get?_push_of_some _ e))
  have t8 : IsPair k8 k5.objs.size x y := s8.extBut _ _ (Nat.ne_of_gt zlt) (s7.extBut _ _ (Nat.ne_of_gt zlt) (Heap.get?_push_size _ rfl))
  rw [hsz] at z8 t8
  refine wpAny_pure ⟨_, rfl, ?_⟩; show Q (.ref k5.objs.size) _
  rw [hsz]
  exact hQ k8 z8 (up _ _ D.TOz o5) (a5.at fun o e => up _ o D.i1z e) (b5.at fun o e => up _ o D.i2z e) t8 fun c o c1 c2 c3 c4 e => up c o c1 (kp c o c1 c2 c3 c4 e)
theorem zipS_end {b1 b2 : Bool} {z TI TO i1 i2 l1 l2 : Addr} {k : Nat} {xs ys : Array Value} {a b : Value} {Q : Fin → Shared → Prop} (hh : A.handled = none) (D : ZipApart z TI TO i1 i2 l1 l2)
    (hz : IsZip s.heap z TI TO .none) (hI : IsPair s.heap TI (.ref i1) (.ref i2)) (hO : IsPair s.heap TO a b) (h1 : SI b1 s.heap i1 l1 k) (h2 : SI b2 s.heap i2 l2 k) (g1 : SS b1 s.heap l1 xs) (g2 : SS b2 s.heap l2 ys)
    (hend : xs[k]? = none ∨ ys[k]? = none)
    (hE : ∀ h' e, (∀ c o, c ≠ z → c ≠ TO → c ≠ i1 → c ≠ i2 → s.heap.get? c = some o → h'.get? c = some o) → (∃ o, h'.get? e = some o ∧ o.cls = .type "StopIteration") → E (.ref e) { s with heap := h' }) :
    wpAny (model prog w) A (Builtin.«zip.__next__» ⟨[.ref z], []⟩) Q E s := by
  show wpAny _ _ (field (.ref z) 2 >>= _) _ _ _; refine wpAny_bind (wpAny_field hz rfl (x := .bool false) rfl ?_)
  show wpAny _ _ (field (.ref z) 3 >>= _) _ _ _; refine wpAny_bind (wpAny_field hz rfl (x := .ref TI) rfl ?_)
  refine wpAny_bind (wpAny_seqItems hI rfl ?_)
  show wpAny _ _ (Builtin.SmallTypes.ownedTupleIsFree (.ref z) >>= _) _ _ _; refine wpAny_bind ?_; unfold Builtin.SmallTypes.ownedTupleIsFree
  refine wpAny_bind (wpAny_field hz rfl (x := .none) rfl (wpAny_pure ?_)); simp only [if_true]
  refine wpAny_bind (wpAny_rule ?_); refine wpAny_bind (wpAny_field hz rfl (x := .ref TO) rfl ?_)
  refine wpAny_bind (wpAny_setField_rec hz (by simp) fun k1 z1 s1 => ?_); replace z1 : IsZip k1 z TI TO .ellipsis := z1
  refine wpAny_bind ?_; simp only [List.zipIdx_cons, List.zipIdx_nil, List.forIn_cons, List.forIn_nil]
  refine wpAny_bind (wpAny_bind (wpAny_onRaise ?_)); show wpAny _ _ (Builtin.SmallTypes.nextOf (.ref i1) >>= _) _ _ _
  cases hx : xs[k]? with
  | none =>
    refine wpAny_bind (nx_end hh (h1.at fun o e => s1.extBut _ o D.i1z e) (g1.at fun o e => s1.extBut _ o D.l1z e) hx fun k2 e s2 he => ?_)
    obtain ⟨oe, hoe, hce⟩ := he
    have z2 : IsZip k2 z TI TO .ellipsis := s2 _ _ D.i1z.symm z1
    have nez : e ≠ z := fun x => by subst x; rw [z2] at hoe; cases hoe; simp at hce
    refine wpAny_setField_rec z2 (by simp) fun k3 _ s3 => hE k3 e (fun c o c1 _ c3 _ x => s3.extBut _ _ c1 (s2 _ _ c3 (s1.extBut _ _ c1 x))) ⟨oe, s3.extBut _ _ nez hoe, hce⟩
  | some x =>
    have hy : ys[k]? = none := by
      rcases hend with h | h
      · rw [hx] at h; cases h
      · exact h
    refine wpAny_bind (nx_item (h1.at fun o e => s1.extBut _ o D.i1z e) (g1.at fun o e => s1.extBut _ o D.l1z e) hx fun k2 q2 s2 => wpAny_pure ?_)
    have o2 : IsPair k2 TO a b := s2.extBut _ _ D.TOi1 (s1.extBut _ _ D.TOz hO)
    refine wpAny_bind (wpAny_seqItems o2 rfl ?_); refine wpAny_bind (wpAny_updateSeq_pair o2 fun k3 o3 s3 => ?_)
    refine wpAny_bind (wpAny_letGo (wpAny_pure ?_)); refine wpAny_bind (wpAny_bind (wpAny_onRaise ?_)); show wpAny _ _ (Builtin.SmallTypes.nextOf (.ref i2) >>= _) _ _ _
    refine wpAny_bind (nx_end hh (h2.at fun o e => s3.extBut _ o D.TOi2.symm (s2.extBut _ o D.i12.symm (s1.extBut _ o D.i2z e))) (g2.at fun o e => s3.extBut _ o D.l2TO (s2.extBut _ o D.l2i1 (s1.extBut _ o D.l2z e))) hy fun k4 e s4 he => ?_)
    obtain ⟨oe, hoe, hce⟩ := he
    have z4 : IsZip k4 z TI TO .ellipsis := s4 _ _ D.i2z.symm (s3.extBut _ _ D.TOz.symm (s2.extBut _ _ D.i1z.symm z1))
    have nez : e ≠ z := fun x => by subst x; rw [z4] at hoe; cases hoe; simp at hce
    refine wpAny_setField_rec z4 (by simp) fun k5 _ s5 => hE k5 e (fun c o c1 c2 c3 c4 x => s5.extBut _ _ c1 (s4 _ _ c4 (s3.extBut _ _ c2 (s2.extBut _ _ c3 (s1.extBut _ _ c1 x))))) ⟨oe, s5.extBut _ _ nez hoe, hce⟩
def zipHp (b1 b2 : Bool) (l1 l2 : Addr) (h : Heap) : Heap :=
  ((((h.push { cls := .type (itCls b1), data := .fields #[.ref l1, .int 0 0] }).push { cls := .type (itCls b2), data := .fields #[.ref l2, .int 0 0] }).push { cls := .type "tuple", data := .seq #[.ref h.objs.size, .ref (h.objs.size + 1)] }).push { cls := .type "tuple", data := .seq #[.none, .none] }).push { cls := .type "zip", data := .fields #[.none, .bool false, .bool false, .ref (h.objs.size + 2), .ref (h.objs.size + 3)] }
theorem zipS_new (b1 b2 : Bool) (l1 l2 : Addr) (xs ys : Array Value) :
    Meets (Builtin.«zip.__new__» ⟨[.type "zip", .ref l1, .ref l2], []⟩) (fun _ R s => SS b1 s.heap l1 xs ∧ SS b2 s.heap l2 ys ∧
      R (.ok (.ret (.ref (s.heap.objs.size + 4)))) { s with heap := zipHp b1 b2 l1 l2 s.heap }) :=
  .of_wp fun prog w A R s h => by
    obtain ⟨hp, g, d, tk, os⟩ := s
    obtain ⟨hl1, hl2, h⟩ := h
    have hsub := sub_zip
    have hL1 : SS b1 (Shared.heap ⟨hp, g, d, tk, os⟩) l1 xs := hl1
    have hL2 : SS b2 (Shared.heap ⟨hp.push { cls := .type (itCls b1), data := .fields #[.ref l1, .int 0 0] }, g, d, tk, os⟩) l2 ys := SS.at hl2 fun o e => Heap.get?_push_of_some _ e
    wp_walk using it_new hL1, it_new hL2
    refine ⟨_, rfl, ?_⟩
    simp only [zipHp, Heap.size_push] at h ⊢
    exact h
theorem call_zipS {b1 b2 : Bool} {l1 l2 : Addr} {xs ys : Array Value} {Q : Value → Shared → Prop} (hl1 : SS b1 s.heap l1 xs) (hl2 : SS b2 s.heap l2 ys)
    (h : ∀ h', IsZip h' (s.heap.objs.size + 4) (s.heap.objs.size + 2) (s.heap.objs.size + 3) .none → IsPair h' (s.heap.objs.size + 2) (.ref s.heap.objs.size) (.ref (s.heap.objs.size + 1)) → IsPair h' (s.heap.objs.size + 3) .none .none →
      SI b1 h' s.heap.objs.size l1 0 → SI b2 h' (s.heap.objs.size + 1) l2 0 → (∀ c o, s.heap.get? c = some o → h'.get? c = some o) → Q (.ref (s.heap.objs.size + 4)) { s with heap := h' }) :
    wpAny (model prog w) A (call (.type "zip") [.ref l1, .ref l2]) Q E s := by
  refine callType_new F.called_zip (by decide) (F.typeCall_zip_2 _ _) (F.newCall_zip_2 _ _) (fun obj => F.args_object_init_3 obj _ _) F.entry_zip_new (zipS_new b1 b2 l1 l2 xs ys) ⟨hl1, hl2, ?_⟩
  unfold zipHp
  generalize e1 : s.heap.push { cls := .type (itCls b1), data := .fields #[.ref l1, .int 0 0] } = k1
  have n1 : k1.objs.size = s.heap.objs.size + 1 := by rw [← e1, Heap.size_push]
  generalize e2 : k1.push { cls := .type (itCls b2), data := .fields #[.ref l2, .int 0 0] } = k2
  have n2 : k2.objs.size = s.heap.objs.size + 2 := by rw [← e2, Heap.size_push, n1]
  generalize e3 : k2.push { cls := .type "tuple", data := .seq #[.ref s.heap.objs.size, .ref (s.heap.objs.size + 1)] } = k3
  have n3 : k3.objs.size = s.heap.objs.size + 3 := by rw [← e3, Heap.size_push, n2]
  generalize e4 : k3.push { cls := .type "tuple", data := .seq #[.none, .none] } = k4
  have n4 : k4.objs.size = s.heap.objs.size + 4 := by rw [← e4, Heap.size_push, n3]
  generalize e5 : k4.push { cls := .type "zip", data := .fields #[.none, .bool false, .bool false, .ref (s.heap.objs.size + 2), .ref (s.heap.objs.size + 3)] } = k5
  have u5 : ∀ c o, k4.get? c = some o → k5.get? c = some o := fun c o q => e5 ▸ Heap.get?_push_of_some _ q
  have u4 : ∀ c o, k3.get? c = some o → k5.get? c = some o := fun c o q => u5 c o (e4 ▸ Heap.get?_push_of_some _ q)
  have u3 : ∀ c o, k2.get? c = some o → k5.get? c = some o := fun c o q => u4 c o (e3 ▸ Heap.get?_push_of_some _ q)
  have u2 : ∀ c o, k1.get? c = some o → k5.get? c = some o := fun c o q => u3 c o (e2 ▸ Heap.get?_push_of_some _ q)
  have u1 : ∀ c o, s.heap.get? c = some o → k5.get? c = some o := fun c o q => u2 c o (e1 ▸ Heap.get?_push_of_some _ q)
  have g5 : IsZip k5 (s.heap.objs.size + 4) (s.heap.objs.size + 2) (s.heap.objs.size + 3) .none := by
    rw [← n4, ← e5]
    exact Heap.get?_push_size _ rfl
  have g4 : IsPair k5 (s.heap.objs.size + 3) .none .none := by
    rw [← n3]
    exact u5 _ _ (by rw [← e4]; exact Heap.get?_push_size _ rfl)
  have g3 : IsPair k5 (s.heap.objs.size + 2) (.ref s.heap.objs.size) (.ref (s.heap.objs.size + 1)) := by
    have q := u4 k2.objs.size _ (by rw [← e3]; exact Heap.get?_push_size _ rfl)
    rw [n2] at q
    exact q
  have g2 : SI b2 k5 (s.heap.objs.size + 1) l2 0 := by
    rw [← n1]
    exact SI.of ⟨_, u3 _ _ (by rw [← e2]; exact Heap.get?_push_size _ rfl), rfl, rfl⟩
  have g1 : SI b1 k5 s.heap.objs.size l1 0 := SI.of ⟨_, u2 _ _ (by rw [← e1]; exact Heap.get?_push_size _ rfl), rfl, rfl⟩
  exact ⟨⟨_, g5, rfl⟩, h k5 g5 g3 g4 g1 g2 u1⟩
end
end L2

namespace L2
open PySem PySem.Spec PyProof.Rows
def SqB (b : Bool) (K : PySem.W.Frag) (H : Hp) (l : Addr) (xs : List V) : Prop := match b with | true => SqL K H l xs | false => SqT K H l xs
theorem Inv.sqB {X : Cx} {pins : List (Addr × Obj)} {σ : St} {H : Hp} {s : Shared} {b : Bool} {l : Addr} {xs : List V} (I : Inv X pins σ H s) (h : SqB b X.K H l xs) : ∃ its : List Value, Vals xs its ∧ SS b s.heap l its.toArray ∧ xs.length ≤ sizeLine := by
  cases b with
  | true =>
    obtain ⟨its, r, p, z⟩ := I.list h
    exact ⟨its, r, p.isList, z⟩
  | false =>
    obtain ⟨its, r, p, z⟩ := I.tuple h
    exact ⟨its, r, p, z⟩
theorem Inv.sqB_inj {X : Cx} {pins : List (Addr × Obj)} {σ : St} {H : Hp} {s : Shared} {b : Bool} {l : Addr} {xs ys : List V} (I : Inv X pins σ H s) (h : SqB b X.K H l xs) (h' : SqB b X.K H l ys) : xs = ys := by
  cases b with
  | true => exact I.list_inj h h'
  | false => exact I.tuple_inj h h'
def Itz (K : PySem.W.Frag) (b1 b2 : Bool) (l1 l2 : Addr) : It :=
  ⟨fun k H => ∃ xs ys x y, SqB b1 K H l1 xs ∧ SqB b2 K H l2 ys ∧ xs[k]? = some x ∧ ys[k]? = some y,
   fun k H v H' => ∃ T x y, v = .ref T ∧ H T = none ∧ H' = upd H T (.tup [x, y]) ∧ (∀ xs, SqB b1 K H l1 xs → xs[k]? = some x) ∧ (∀ ys, SqB b2 K H l2 ys → ys[k]? = some y),
   fun k H => ∃ xs ys, SqB b1 K H l1 xs ∧ SqB b2 K H l2 ys ∧ (xs.length ≤ k ∨ ys.length ≤ k)⟩
theorem turn_zip {P : Program} {w : World} {K : PySem.W.Frag} {elts : List Expr} {kt : Nat} {pt : Pos} {b1 b2 : Bool} {z TI TO i1 i2 l1 l2 : Addr} (D : ZipApart z TI TO i1 i2 l1 l2) :
    Turn P w K (.Tuple elts kt pt) (Itz K b1 b2 l1 l2) [z, TI, TO, i1, i2] z (fun k h => IsZip h z TI TO .none ∧ IsPair h TI (.ref i1) (.ref i2) ∧ (∃ a b, IsPair h TO a b) ∧ SI b1 h i1 l1 k ∧ SI b2 h i2 l2 k) where
  mem := by simp
  obj := fun k h st b hb => by
    obtain ⟨hz, hI, ⟨a', b', hO⟩, h1, h2⟩ := st
    obtain ⟨o1, g1, _, d1⟩ := h1.obj
    obtain ⟨o2, g2, _, d2⟩ := h2.obj
    simp only [List.mem_cons, List.not_mem_nil, or_false] at hb
    rcases hb with rfl | rfl | rfl | rfl | rfl
    · exact ⟨_, hz, fun v e => by cases e⟩
    · exact ⟨_, hI, fun v e => by cases e⟩
    · exact ⟨_, hO, fun v e => by cases e⟩
    · exact ⟨_, g1, fun v e => by rw [d1] at e; cases e⟩
    · exact ⟨_, g2, fun v e => by rw [d2] at e; cases e⟩
  keep := fun k h h' st kp => by
    obtain ⟨hz, hI, ⟨a', b', hO⟩, h1, h2⟩ := st
    exact ⟨kp z (by simp) _ hz, kp TI (by simp) _ hI, ⟨a', b', kp TO (by simp) _ hO⟩, h1.at fun o e => kp i1 (by simp) o e, h2.at fun o e => kp i2 (by simp) o e⟩
  item := by
    intro X hP hw hK hc k pins s σ H E I hf st hg
    subst hP hw hK
    obtain ⟨hz, hI, ⟨a', b', hO⟩, h1, h2⟩ := st
    obtain ⟨xs, ys, x, y, q1, q2, hx, hy⟩ := hg
    obtain ⟨its1, r1, p1, _⟩ := I.sqB q1
    obtain ⟨its2, r2, p2, _⟩ := I.sqB q2
    obtain ⟨u1, e1, v1⟩ := r1.get hx
    obtain ⟨u2, e2, v2⟩ := r2.get hy
    have hT : s.TypeIs (.ref z) "zip" := ⟨_, hz, rfl⟩
    have fresh : H s.heap.objs.size = none := I.hok.fresh (Nat.le_refl _)
    unfold pyNext
    refine wpAny_bind (wpAny_attempt (wpAny_callSpecial?_slot (name := Str.ofString "__next__") hT F.slot_zip_next (wpAny_call_entry F.slot_zip_next hT F.entry_zip_next (zipS_item D hz hI hO h1 h2 p1 p2 (by simpa using e1) (by simpa using e2) fun h' z1 o1 j1 j2 t1 kp => wpAny_pure ?_) (F.args_zip_next_1 _))))
    refine ⟨_, rfl, wpAny_letOwnedTupleGo_zip z1 fun h2' z2 sb => ?_⟩
    have kp2 : ∀ c o, c ∉ [z, TO, i1, i2] → s.heap.get? c = some o → h2'.get? c = some o := fun c o hc e => by
      simp only [List.mem_cons, List.not_mem_nil, or_false, not_or] at hc
      exact sb.extBut c o hc.1 (kp c o hc.1 hc.2.1 hc.2.2.1 hc.2.2.2 e)
    have nH : ∀ c ∈ [z, TO, i1, i2], c ∈ [z, TI, TO, i1, i2] := fun c hc => by
      simp only [List.mem_cons, List.not_mem_nil, or_false] at hc ⊢
      rcases hc with e | e | e | e <;> simp [e]
    have neT : ∀ b o, s.heap.get? b = some o → b ≠ s.heap.objs.size := fun b o e => Nat.ne_of_lt (Heap.lt_size e)
    have neH : ∀ b o, H b = some o → b ∉ [z, TO, i1, i2] := fun b o e hb => by
      rw [(hf b (nH b hb)).1] at e
      cases e
    have upn : ∀ b o, H b = some o → upd H s.heap.objs.size (.tup [x, y]) b = some o := fun b o e => by
      rw [upd_ne (ne_of_none e fresh)]
      exact e
    refine ⟨.ref s.heap.objs.size, upd H s.heap.objs.size (.tup [x, y]), ?_, rfl, ⟨_, x, y, rfl, fresh, rfl, fun zs hz' => by rw [I.sqB_inj hz' q1]; exact hx, fun zs hz' => by rw [I.sqB_inj hz' q2]; exact hy⟩, ?_, fun b hb => ?_⟩
    · refine Inv.step (s := s) (h' := h2') (g' := s.gens) (d' := s.drawn) (t' := s.toks) (ch := [z, TO, i1, i2]) I (fun b hb => ?_) (fun b o _ _ hc e _ => kp2 b o hc e) (fun b o _ _ hc e _ => ⟨o.slots, kp2 b o hc e⟩) (fun b o _ e n => ?_) (fun b o hc e => ⟨o, kp2 b o hc e⟩)
        (fun b zs e => upn b _ e) (fun b o zs e => upn b _ e) (fun b ps e => ⟨#[], by rw [upn b _ e]; simp⟩) (fun m hm => ?_) (fun b o e => ?_) I.bare
      · obtain ⟨_, f1, _, f3, f4, f5⟩ := hf b (nH b hb)
        exact ⟨f3, f1, f4, f5⟩
      · rw [upd_ne (neT b o e)]
        exact n
      · obtain ⟨o, es, ep, ho, r⟩ := hm
        refine ⟨o, es, ep, kp2 _ o (fun hb => ?_) ho, r⟩
        exact (hf _ (nH _ hb)).2.1 rfl
      · by_cases hb : b = s.heap.objs.size
        · subst hb
          rw [upd_same] at e
          cases e
          exact ⟨by show 2 ≤ sizeLine; decide, [u1, u2], .cons v1 (.cons v2 .nil), _, sb.extBut _ _ (Nat.ne_of_gt (Heap.lt_size hz)) t1, rfl, _, rfl⟩
        · rw [upd_ne hb] at e
          refine (I.hok b o e).stay (fun c u hc q => kp2 c u ?_ q) (fun c q => upn c _ q) fun c zs q => upn c _ q
          rcases hc with hc | hc
          · rw [hc]; exact neH b o e
          · exact neH c _ hc
    · exact ⟨z2, sb.extBut _ _ D.TIz (kp _ _ D.TIz D.TITO D.TIi1 D.TIi2 hI), ⟨_, _, sb.extBut _ _ D.TOz o1⟩, j1.at fun o e => sb.extBut _ o D.i1z e, j2.at fun o e => sb.extBut _ o D.i2z e⟩
    · obtain ⟨o, e, _⟩ : ∃ o, s.heap.get? b = some o ∧ True := by
        obtain ⟨o1, g1, _⟩ := h1.obj
        obtain ⟨o2, g2, _⟩ := h2.obj
        simp only [List.mem_cons, List.not_mem_nil, or_false] at hb
        rcases hb with rfl | rfl | rfl | rfl | rfl
        · exact ⟨_, hz, trivial⟩
        · exact ⟨_, hI, trivial⟩
        · exact ⟨_, hO, trivial⟩
        · exact ⟨_, g1, trivial⟩
        · exact ⟨_, g2, trivial⟩
      rw [upd_ne (neT b o e)]
      exact (hf b hb).1
  done := by
    intro X hP hw hK hc k pins s σ H E I hf st hg
    subst hP hw hK
    obtain ⟨hz, hI, ⟨a', b', hO⟩, h1, h2⟩ := st
    obtain ⟨xs, ys, q1, q2, hend⟩ := hg
    obtain ⟨its1, r1, p1, _⟩ := I.sqB q1
    obtain ⟨its2, r2, p2, _⟩ := I.sqB q2
    have hT : s.TypeIs (.ref z) "zip" := ⟨_, hz, rfl⟩
    have hend' : its1.toArray[k]? = none ∨ its2.toArray[k]? = none := by
      have l1' := r1.length
      have l2' := r2.length
      rcases hend with h | h
      · exact .inl (Array.getElem?_eq_none (by rw [List.size_toArray]; omega))
      · exact .inr (Array.getElem?_eq_none (by rw [List.size_toArray]; omega))
    have nH : ∀ c ∈ [z, TO, i1, i2], c ∈ [z, TI, TO, i1, i2] := fun c hc => by
      simp only [List.mem_cons, List.not_mem_nil, or_false] at hc ⊢
      rcases hc with e | e | e | e <;> simp [e]
    have neH : ∀ b o, H b = some o → b ∉ [z, TO, i1, i2] := fun b o e hb => by
      rw [(hf b (nH b hb)).1] at e
      cases e
    unfold pyNext
    refine wpAny_bind (wpAny_attempt (wpAny_callSpecial?_slot (name := Str.ofString "__next__") hT F.slot_zip_next (wpAny_call_entry F.slot_zip_next hT F.entry_zip_next (zipS_end (I.ok.hd hc) D hz hI hO h1 h2 p1 p2 hend' fun h' e kp he => ?_) (F.args_zip_next_1 _))))
    obtain ⟨oe, hoe, hce⟩ := he
    refine wpAny_bind (wpAny_isInstance (T := "StopIteration") (b := true) ⟨oe, hoe, hce⟩ isSubtype_stop (wpAny_pure ⟨rfl, ?_⟩))
    have kp2 : ∀ c o, c ∉ [z, TO, i1, i2] → s.heap.get? c = some o → h'.get? c = some o := fun c o hc e => by
      simp only [List.mem_cons, List.not_mem_nil, or_false, not_or] at hc
      exact kp c o hc.1 hc.2.1 hc.2.2.1 hc.2.2.2 e
    refine I.step (g' := s.gens) (d' := s.drawn) (t' := s.toks) (ch := [z, TO, i1, i2]) (fun b hb => ?_) (fun b o _ _ hc e _ => kp2 b o hc e) (fun b o _ _ hc e _ => ⟨o.slots, kp2 b o hc e⟩) (fun b o _ e n => n) (fun b o hc e => ⟨o, kp2 b o hc e⟩)
      (fun b zs e => e) (fun b o zs e => e) (fun b ps e => ⟨#[], by rw [e]; simp⟩) (fun m hm => ?_) (fun b o e => ?_) I.bare
    · obtain ⟨_, f1, _, f3, f4, f5⟩ := hf b (nH b hb)
      exact ⟨f3, f1, f4, f5⟩
    · obtain ⟨o, es, ep, ho, r⟩ := hm
      refine ⟨o, es, ep, kp2 _ o (fun hb => ?_) ho, r⟩
      exact (hf _ (nH _ hb)).2.1 rfl
    · refine (I.hok b o e).stay (fun c u hc q => kp2 c u ?_ q) (fun c q => q) fun c zs q => q
      rcases hc with hc | hc
      · rw [hc]; exact neH b o e
      · exact neH c _ hc
  self := fun _ _ _ _ _ st h => wpAny_pyIter_zip st.1 h
section
variable {X : Cx}
def iZip (K : PySem.W.Frag) (ta : TA) : TI := fun σ H R => ta σ H fun vs H1 => ∃ (b1 b2 : Bool) (l1 l2 : Addr) (xs ys : List V), vs = [.ref l1, .ref l2] ∧ SqB b1 K H1 l1 xs ∧ SqB b2 K H1 l2 ys ∧ R (Itz K b1 b2 l1 l2) H1
theorem pi_zip {elts : List Expr} {kt : Nat} {pt : Pos} {a b : Expr} {ta : TA} {p pos : Pos} (hg : Gl X "zip") (hm : X.mg "zip" = none) (ha : PA X [a, b] ta) (hs : starEach [a, b] X.env = [(false, eval a X.env), (false, eval b X.env)] := by rfl) (hs2 : starEach [b] X.env = [(false, eval b X.env)] := by rfl) :
    PI X (.Tuple elts kt pt) (.Call (.Name "zip" p) [a, b] [] pos) (iZip X.K ta) := by
  intro pins s σ H R I h
  refine Call_ (ld_blt I hg hm bt_zip (PyProof.Rows.callWith_type1 (thn (ha pos pins s σ H _ I h) fun us s1 ⟨vs, H1, I1, r1, q1⟩ => ?_) (by rw [hs, hs2]) (by rw [hs2]; rfl)))
  obtain ⟨b1, b2, l1, l2, xs, ys, e, g1, g2, q⟩ := q1
  subst e
  obtain ⟨u1, u2, rfl, v1, v2⟩ := Vals.two r1
  cases v1
  cases v2
  obtain ⟨its1, _, p1, _⟩ := I1.sqB g1
  obtain ⟨its2, _, p2, _⟩ := I1.sqB g2
  have a1 : l1 < s1.heap.objs.size := by
    obtain ⟨o, e, _⟩ := p1.obj
    exact Heap.lt_size e
  have a2 : l2 < s1.heap.objs.size := by
    obtain ⟨o, e, _⟩ := p2.obj
    exact Heap.lt_size e
  refine call_zipS p1 p2 fun h' hz hI hO j1 j2 kp => ?_
  refine wpAny_pyIter_zip hz ?_
  refine ⟨_, _, _, _, H1, rfl, I1.kept (t' := s1.toks) kp, turn_zip (zipApart_new a1 a2), ⟨hz, hI, ⟨_, _, hO⟩, j1, j2⟩, fun b hb => ?_, q⟩
  have hge : s1.heap.objs.size ≤ b := by
    simp only [List.mem_cons, List.not_mem_nil, or_false] at hb
    rcases hb with rfl | rfl | rfl | rfl | rfl <;> omega
  exact I1.fpOk hge (I1.hok.fresh hge)
end
section
variable {K : PySem.W.Frag} {b1 b2 : Bool} {l1 l2 D : Addr} {xs ys : List V} {g : TG} {tt : TT} {te : TE} {σ0 : St} {H1 : Hp} {Q : VK}
theorem comp_zip (Pv : Nat → St → List V → Hp → Prop) (h0 : Pv 0 σ0 [] (upd H1 D (.lst []))) (hl : ∀ i σ zs H, Pv i σ zs H → SqB b1 K H l1 xs ∧ SqB b2 K H l2 ys ∧ H D = some (.lst zs))
    (hs : ∀ i x y T σ zs H, xs[i]? = some x → ys[i]? = some y → H T = none → Pv i σ zs H → g (.ref T) σ (upd H T (.tup [x, y])) fun σ2 H2 => tt σ2 H2 fun b H3 =>
      if b = true then te σ2 H3 fun z H4 => H4 D = some (.lst zs) ∧ zs.length < sizeLine ∧ Pv (i + 1) σ2 (zs ++ [z]) (upd H4 D (.lst (zs ++ [z]))) else Pv (i + 1) σ2 zs H3)
    (hd : ∀ σ zs H, Pv (min xs.length ys.length) σ zs H → Q (.ref D) H) : CompW (Itz K b1 b2 l1 l2) D g tt te σ0 H1 Q := by
  refine ⟨fun i m σ zs H => m = min xs.length ys.length - i ∧ i ≤ min xs.length ys.length ∧ Pv i σ zs H, ⟨_, rfl, Nat.zero_le _, h0⟩, ?_⟩
  rintro i m σ zs H ⟨rfl, hi, p⟩
  obtain ⟨q1, q2, qd⟩ := hl i σ zs H p
  refine ⟨qd, ?_⟩
  by_cases hlt : i < min xs.length ys.length
  · have c1 : i < xs.length := by omega
    have c2 : i < ys.length := by omega
    refine .inr ⟨⟨xs, ys, xs[i], ys[i], q1, q2, by simp [c1], by simp [c2]⟩, Pv (i + 1), fun σ' zs' H' z => ⟨min xs.length ys.length - (i + 1), by omega, rfl, hlt, z⟩, fun v H' y => ?_⟩
    obtain ⟨T, x, y, rfl, hT, rfl, y1, y2⟩ := y
    exact hs i x y T σ zs H (y1 xs q1) (y2 ys q2) hT p
  · have e : i = min xs.length ys.length := by omega
    subst e
    exact .inl ⟨⟨xs, ys, q1, q2, by omega⟩, hd σ zs H p⟩
theorem comp_zip0 (Pv : Nat → St → List V → Hp → Prop) (h0 : Pv 0 σ0 [] (upd H1 D (.lst []))) (hl : ∀ i σ zs H, Pv i σ zs H → SqB b1 K H l1 xs ∧ SqB b2 K H l2 ys ∧ H D = some (.lst zs))
    (hs : ∀ i x y T σ zs H, xs[i]? = some x → ys[i]? = some y → H T = none → Pv i σ zs H → g (.ref T) σ (upd H T (.tup [x, y])) fun σ2 H2 => te σ2 H2 fun z H4 => H4 D = some (.lst zs) ∧ zs.length < sizeLine ∧ Pv (i + 1) σ2 (zs ++ [z]) (upd H4 D (.lst (zs ++ [z]))))
    (hd : ∀ σ zs H, Pv (min xs.length ys.length) σ zs H → Q (.ref D) H) : CompW (Itz K b1 b2 l1 l2) D g tYes te σ0 H1 Q := comp_zip Pv h0 hl (fun i x y T σ zs H e1 e2 e3 p => hs i x y T σ zs H e1 e2 e3 p) hd
end
end L2

namespace L2
open PySem PySem.Spec PyProof.Rows
theorem ifD {p A B : Prop} [Decidable p] (h1 : p → A) (h2 : ¬ p → B) : if decide p = true then A else B := by
  by_cases h : p
  · rw [if_pos (decide_eq_true h)]; exact h1 h
  · rw [if_neg (by rw [decide_eq_false h]; exact Bool.false_ne_true)]; exact h2 h
theorem ifN {p A B : Prop} [Decidable p] (h1 : ¬ p → A) (h2 : p → B) : if (!decide p) = true then A else B := by
  by_cases h : p
  · rw [if_neg (by rw [decide_eq_true h]; exact Bool.false_ne_true)]; exact h2 h
  · rw [if_pos (by rw [decide_eq_false h]; rfl)]; exact h1 h
theorem ifE {x y : Int} {A B : Prop} (h1 : x = y → A) (h2 : x ≠ y → B) : if decide (V.int x = V.int y) = true then A else B :=
  ifD (fun h => h1 (V.int.inj h)) fun h => h2 fun e => h (congrArg V.int e)
theorem ifNe {x y : Int} {A B : Prop} (h1 : x ≠ y → A) (h2 : x = y → B) : if (!decide (V.int x = V.int y)) = true then A else B :=
  ifN (fun h => h1 fun e => h (congrArg V.int e)) fun h => h2 (V.int.inj h)
theorem decI {x y : Int} (h : x = y) : decide (V.int x = V.int y) = true := decide_eq_true (congrArg V.int h)
theorem same_new {H : Hp} {p : Addr} (h : H p = none) (o : HO) : Same H (upd H p o) := fun b u q => by rw [upd_ne (ne_of_none q h)]; exact q
theorem Sq.same {K : PySem.W.Frag} {H H' : Hp} {a : Addr} {xs : List V} (h : Sq K H a xs) (e : Same H H') : Sq K H' a xs := by
  rcases h with h | h
  · exact .inl (e.seq h)
  · refine .inr ?_
    rcases h with h | h
    · rcases h with h | ⟨o, h⟩
      · exact .inl (.inl (e _ _ h))
      · exact .inl (.inr ⟨o, e _ _ h⟩)
    · exact .inr h
theorem mapInt_get {ns : List Int} {i : Nat} {x : V} (h : (ns.map V.int)[i]? = some x) : ∃ n, ns[i]? = some n ∧ x = .int n := by
  rw [List.getElem?_map] at h
  cases e : ns[i]? with
  | none => rw [e] at h; cases h
  | some n => rw [e] at h; exact ⟨n, rfl, (Option.some.inj h).symm⟩
theorem take_snoc {α : Type} {l : List α} {i : Nat} {x : α} (h : l[i]? = some x) : l.take (i + 1) = l.take i ++ [x] := by
  rw [List.take_succ, h]; rfl
theorem small {n : Nat} (h : n ≤ 1000) : n ≤ sizeLine := Nat.le_of_lt (small1000 h)
end L2
namespace L2
open PySem PySem.Spec PyProof.Rows
theorem SqT.same {K : PySem.W.Frag} {H H' : Hp} {a : Addr} {xs : List V} (h : SqT K H a xs) (e : Same H H') : SqT K H' a xs := by
  rcases h with h | h
  · rcases h with h | ⟨o, h⟩
    · exact .inl (.inl (e _ _ h))
    · exact .inl (.inr ⟨o, e _ _ h⟩)
  · exact .inr h
theorem kit_int_int (K : PySem.W.Frag) : PySem.W.kitOne K (.type "int") (.type "int") = some true := rfl
theorem kit_int_bool (K : PySem.W.Frag) : PySem.W.kitOne K (.type "int") (.type "bool") = some false := rfl
theorem kit_tuple_tuple (K : PySem.W.Frag) : PySem.W.kitOne K (.type "tuple") (.type "tuple") = some true := rfl
end L2
namespace L2
open PySem PySem.Spec PyProof.Rows
def MonoT (t : TT) : Prop := ∀ (σ : St) (H : Hp) (Q Q' : Bool → Hp → Prop), (∀ b H1, Q b H1 → Q' b H1) → t σ H Q → t σ H Q'
def MonoE (t : TE) : Prop := ∀ (σ : St) (H : Hp) (Q Q' : VK), (∀ b H1, Q b H1 → Q' b H1) → t σ H Q → t σ H Q'
def MonoA (t : TA) : Prop := ∀ (σ : St) (H : Hp) (Q Q' : List V → Hp → Prop), (∀ b H1, Q b H1 → Q' b H1) → t σ H Q → t σ H Q'
def MonoR (r : R2) : Prop := ∀ (x y : V) (H : Hp) (Q Q' : VK), (∀ b H1, Q b H1 → Q' b H1) → r x y H Q → r x y H Q'
def MonoC (r : List V → Hp → VK → Prop) : Prop := ∀ (xs : List V) (H : Hp) (Q Q' : VK), (∀ b H1, Q b H1 → Q' b H1) → r xs H Q → r xs H Q'
theorem mo_var {i : Nat} : MonoE (tVar i) := fun _ _ _ _ hq ⟨v, e, z⟩ => ⟨v, e, hq _ _ z⟩
theorem mo_c {v : V} : MonoE (tC v) := fun _ _ _ _ hq z => hq _ _ z
theorem mo_op {r : R2} {ta tb : TE} (hr : MonoR r) (ha : MonoE ta) (hb : MonoE tb) : MonoE (tOp r ta tb) := fun σ _ _ _ hq z => ha σ _ _ _ (fun _ _ z => hb σ _ _ _ (fun _ _ z => hr _ _ _ _ _ hq z) z) z
theorem mo_i0 {g : Int → Int → V} : MonoR (rI0 g) := fun _ _ _ _ _ hq ⟨i, j, e1, e2, z⟩ => ⟨i, j, e1, e2, hq _ _ z⟩
theorem mo_test {t : TE} (h : MonoE t) : MonoT (tTest t) := fun σ _ _ _ hq z => h σ _ _ _ (fun _ _ ⟨k, e, z⟩ => ⟨k, e, hq _ _ z⟩) z
theorem mo_and {t u : TT} (h : MonoT t) (h' : MonoT u) : MonoT (tAnd t u) := fun σ _ _ _ hq z => h σ _ _ _ (fun b _ z => by
  cases b with
  | true => exact h' σ _ _ _ hq z
  | false => exact hq _ _ z) z
theorem mo_nil : MonoA tNil := fun _ _ _ _ hq z => hq _ _ z
theorem mo_cons {te : TE} {ta : TA} (h : MonoE te) (h' : MonoA ta) : MonoA (tCons te ta) := fun σ _ _ _ hq z => h σ _ _ _ (fun _ _ z => h' σ _ _ _ (fun _ _ z => hq _ _ z) z) z
theorem mo_cb {r : List V → Hp → VK → Prop} {t : TA} (hr : MonoC r) (h : MonoA t) : MonoE (tCB r t) := fun σ _ _ _ hq z => h σ _ _ _ (fun _ _ z => hr _ _ _ _ hq z) z
theorem mo_len {K : PySem.W.Frag} : MonoC (fun xs H Q => ∃ p ys, xs = [.ref p] ∧ (SqL K H p ys ∨ SqT K H p ys) ∧ Q (.int ys.length) H) := fun _ _ _ _ hq ⟨p, ys, e, s, z⟩ => ⟨p, ys, e, s, hq _ _ z⟩
theorem cutV_ints (ns : List Int) (lo hi : Option Int) : cutV (ns.map V.int) lo hi = ((ns.drop (HT.sIx ns.length 0 lo)).take (HT.sIx ns.length ns.length hi - HT.sIx ns.length 0 lo)).map V.int := by
  unfold cutV
  rw [List.length_map, List.map_take, List.map_drop]
end L2
namespace L2
open PySem PySem.Spec PyProof.Rows
end L2

namespace L2
open PySem PySem.Spec PyProof.Rows
theorem eqs_at {A : Around} {s : Shared} {xs ys : List Int} {us ws : List Value} (r1 : Vals (xs.map V.int) us) (r2 : Vals (ys.map V.int) ws) : ∀ j (h1 : j < us.toArray.size) (h2 : j < ws.toArray.size),
    SeqAt.EqAt A s us.toArray[j] ws.toArray[j] (decide (xs[j]? = ys[j]?)) := fun j h1 h2 => by
  have l1 := r1.length
  have l2 := r2.length
  rw [List.length_map] at l1 l2
  have g1 : j < us.length := by simpa using h1
  have g2 : j < ws.length := by simpa using h2
  have k1 : j < xs.length := by omega
  have k2 : j < ys.length := by omega
  obtain ⟨u, hu, t, ru⟩ := r1.get (i := j) (x := .int xs[j]) (by rw [List.getElem?_map, List.getElem?_eq_getElem k1]; rfl)
  obtain ⟨w, hw, t', rw'⟩ := r2.get (i := j) (x := .int ys[j]) (by rw [List.getElem?_map, List.getElem?_eq_getElem k2]; rfl)
  have e1 : us.toArray[j] = .int xs[j] t := by
    have z := List.getElem?_eq_getElem g1
    rw [hu] at z
    rw [List.getElem_toArray, ← Option.some.inj z, ru]
  have e2 : ws.toArray[j] = .int ys[j] t' := by
    have z := List.getElem?_eq_getElem g2
    rw [hw] at z
    rw [List.getElem_toArray, ← Option.some.inj z, rw']
  rw [e1, e2]
  have e3 : decide (xs[j]? = ys[j]?) = (xs[j] == ys[j]) := by
    rw [List.getElem?_eq_getElem k1, List.getElem?_eq_getElem k2]
    by_cases h : xs[j] = ys[j]
    · rw [h]; simp
    · rw [decide_eq_false (fun z => h (Option.some.inj z))]
      exact (beq_eq_false_iff_ne.mpr h).symm
  rw [e3]
  exact SeqAt.EqAt.int_int _ _ _ _
theorem all_eqs {xs ys : List Int} : ((List.range (min xs.length ys.length)).all (fun j => decide (xs[j]? = ys[j]?)) && xs.length == ys.length) = decide (xs = ys) := by
  by_cases h : xs = ys
  · subst h
    rw [decide_eq_true rfl, Bool.and_eq_true]
    exact ⟨List.all_eq_true.mpr fun j _ => decide_eq_true rfl, by simp⟩
  · rw [decide_eq_false h, Bool.and_eq_false_iff]
    by_cases hl : xs.length = ys.length
    · left
      rw [Bool.eq_false_iff]
      intro z
      apply h
      rw [List.all_eq_true] at z
      refine List.ext_getElem? fun j => ?_
      by_cases hj : j < xs.length
      · exact of_decide_eq_true (z j (List.mem_range.mpr (by omega)))
      · rw [List.getElem?_eq_none (by omega), List.getElem?_eq_none (by omega)]
    · right
      exact beq_eq_false_iff_ne.mpr hl
section
variable {X : Cx}
def rEqT (K : PySem.W.Frag) (neg : Bool) : R2 := fun x y H Q => ∃ (a b : Addr) (xs ys : List Int), x = .ref a ∧ y = .ref b ∧ SqT K H a (xs.map V.int) ∧ SqT K H b (ys.map V.int) ∧ Q (.bl (if neg then !decide (xs = ys) else decide (xs = ys))) H
theorem op_eqT (hu : X.A.units < cLine) : OpR X (compareOp .Eq) (rEqT X.K false) := by
  intro pins s σ H x y v u Q I rx ry h
  obtain ⟨a, b, xs, ys, rfl, rfl, h1, h2, q⟩ := h
  cases rx
  cases ry
  obtain ⟨us, r1, p1, _⟩ := I.tuple h1
  obtain ⟨ws, r2, p2, _⟩ := I.tuple h2
  refine SeqAt.eq_tupleAt (e := fun j => decide (xs[j]? = ys[j]?)) (show s.heap.IsTuple a us.toArray from p1) (show s.heap.IsTuple b ws.toArray from p2) hu (eqs_at r1 r2) ?_
  have l1 := r1.length
  have l2 := r2.length
  rw [List.length_map] at l1 l2
  rw [List.size_toArray, List.size_toArray, ← l1, ← l2, all_eqs]
  exact ⟨.bl (decide (xs = ys)), H, I, rfl, q⟩
end
end L2
namespace L2
open PySem
theorem row_at {rows : List Int} {P : Int → Prop} (bd : ∀ x ∈ rows, P x) {k : Int} (k0 : 0 ≤ k) (k1 : k < rows.length) : ∃ v : Int, atI (rows.map V.int) k = some (.int v) ∧ P v := by
  have hk : k.toNat < rows.length := by omega
  refine ⟨rows[k.toNat], ?_, bd _ (List.getElem_mem hk)⟩
  have q : atI (rows.map V.int) ((k.toNat : Nat) : Int) = some (.int rows[k.toNat]) := atI_nat (by rw [List.getElem?_map, List.getElem?_eq_getElem hk] <;> rfl)
  rw [show ((k.toNat : Nat) : Int) = k from by omega] at q
  exact q
end L2
namespace L2
end L2

namespace L2
open PySem PySem.Spec PyProof.Rows
section
variable {X : Cx} {T : List Str} {caps : List (Str × Nat)} {scope : Scope} {elt target iter : Expr} {ifs : List Expr} {pos cpos : Pos} {wi : TI} {g : CC → TG} {tt : CC → TT} {te : CC → TE}
theorem comp_use (S : CompScope X caps scope) (hc : X.calm = true) (hi : PI X target iter wi) (hg : ∀ c, PG (cxComp X (T ++ caps.map (·.1)) scope c) target (g c)) (ht : ∀ c, PIfs (cxComp X (T ++ caps.map (·.1)) scope c) ifs (tt c)) (he : ∀ c, PE (cxComp X (T ++ caps.map (·.1)) scope c) elt (te c))
    {use : Option (Value → Sem Unit)} {Qv : Value → Shared → Prop} {pins : List (Addr × Obj)} {s : Shared} {σ : St} {H : Hp} {Q : VK} (I : Inv X pins σ H s) (h : tComp T.length caps wi g tt te σ H Q)
    (hfin : ∀ (D C : Addr) (s4 : Shared) (H3 : Hp), Inv X pins σ H3 s4 → Q (.ref D) H3 → ∀ m, s4.heap.Ns C m → H3 C = none → C ≠ X.env.locals → X.s₀.heap.objs.size ≤ C → (∀ x c, X.env.cells.lookup x = some c → c ≠ C) → (∀ p ∈ X.pn ++ pins, p.1 ≠ C) → compPost (model X.prog X.w) X.A X.xe use Qv (.ref D) C (.ok .next) s4)
    (hs : ∀ x, foldedSetIterable iter X.env x = pure x := by intro _; rfl) :
    wpAny (model X.prog X.w) X.A (comprehension (.ListComp elt [⟨target, iter, ifs, 0⟩] scope pos) scope X.env cpos (newList []) false (eval iter X.env) use) Qv X.xe s := by
  refine wpAny_comprehension_free (use := use) rfl hs (clos_eq S.cells) S.kind S.loc (thn (hi pins s σ H _ I h) fun v s1 h1 => thn h1 fun itv s2 h2 => ?_)
  obtain ⟨it, fp, tn, J, H2, e, I2, TT, st2, f2, q2⟩ := h2
  subst e
  refine wpAny_newObj_type (wpAny_newFunctionEnv S.nocell (by intro y hy; simp at hy) (fun h1 hn hsb => ?_) S.kind)
  dsimp only at hn hsb ⊢
  generalize hg2 : s2.heap.push { cls := .type "list", dict := none, data := .seq ([] : List Value).toArray } = G at hn hsb ⊢
  have hCv : G.objs.size = s2.heap.objs.size + 1 := by rw [← hg2, Heap.size_push]
  have hDC : G.objs.size ≠ s2.heap.objs.size := by rw [hCv]; exact Nat.succ_ne_self _
  have hCle : s2.heap.objs.size ≤ G.objs.size := by rw [hCv]; exact Nat.le_succ _
  have old : ∀ b o, s2.heap.get? b = some o → h1.get? b = some o := fun b o e => hsb.extBut b o (Nat.ne_of_lt (Nat.lt_of_lt_of_le (Heap.lt_size e) hCle)) (Heap.get?_push_of_some _ (hg2 ▸ Heap.get?_push_of_some _ e))
  have hacc : ∃ n, h1.get? s2.heap.objs.size = some { cls := .type "list", data := .seq ([] : List Value).toArray n } := ⟨_, hsb.extBut _ _ (Ne.symm hDC) (Heap.get?_push_of_some _ (hg2 ▸ Heap.get?_push_size _ rfl))⟩
  have hfp : ∀ b ∈ fp, b < s2.heap.objs.size := fun b hb => by
    obtain ⟨o, e, _⟩ := TT.obj _ _ st2 b hb
    exact Heap.lt_size e
  have cs := closL_sound (env := X.env) scope.names [] S.cells (fun _ _ z => by cases z)
  have I0 := comp_start (T := T) (tk := s2.toks + ([] : List (Str × Value)).length) S I2 f2 hfp (Nat.le_refl _) hCle hDC old hacc hn
  have st0 : tn 0 h1 := TT.keep _ _ _ st2 fun b _ o e => old b o e
  obtain ⟨W, ⟨m0, w0⟩, turn⟩ := q2 ⟨G.objs.size, s2, H2, fp⟩ s2.heap.objs.size (I2.hok.fresh (Nat.le_refl _))
  have fr0 : ∀ b ∈ fp, upd H2 s2.heap.objs.size (.lst []) b = none := fun b hb => by
    rw [upd_ne (Nat.ne_of_lt (hfp b hb))]
    exact (f2 b hb).1
  have stat : ∀ {H' : Hp}, (∀ b ∈ fp, H' b = none) → ∀ b ∈ fp, FpOk (cxComp X (T ++ caps.map (·.1)) scope ⟨G.objs.size, s2, H2, fp⟩) [] H' b := fun {H'} hn' b hb =>
    ⟨hn' b hb, Nat.ne_of_lt (Nat.lt_of_lt_of_le (hfp b hb) hCle), I0.ok.exfs b hb, .inl hb, fun x c e => (f2 b hb).2.2.2.2.1 x c (cs x c e), fun p hp => absurd (show p ∈ ([] : List (Addr × Obj)) from hp) (by simp)⟩
  have loop : codeAny (model X.prog X.w) X.A (.compLoop (.ListComp elt [⟨target, iter, ifs, 0⟩] scope pos) 0 (.ref it) (.ref s2.heap.objs.size) (compEnvC scope (closL X.env scope.names []) G.objs.size X.env))
      (compPost (model X.prog X.w) X.A X.xe use Qv (.ref s2.heap.objs.size) G.objs.size) { s2 with heap := h1, toks := s2.toks + ([] : List (Str × Value)).length } := by
    refine codeAny_loop rfl (fun n s' => ∃ i σ' ys H', Inv (cxComp X (T ++ caps.map (·.1)) scope ⟨G.objs.size, s2, H2, fp⟩) [] σ' H' s' ∧ tn i s'.heap ∧ (∀ b ∈ fp, H' b = none) ∧ W i n σ' ys H') (fun n s3 hI => ?_) m0 ⟨0, _, [], _, I0, st0, fr0, w0⟩
    obtain ⟨i, σ3, ys, H3, I3, st3, fr3, w3⟩ := hI
    show wpAny _ X.A ((compTurn (.ListComp elt [⟨target, iter, ifs, 0⟩] scope pos) 0 (.ref it) (.ref s2.heap.objs.size) (compEnvC scope (closL X.env scope.names []) G.objs.size X.env)).onRaise (fun x => do noteFrame x (compEnvC scope (closL X.env scope.names []) G.objs.size X.env); theTreesLotGoes x)) _ _ s3
    refine wpAny_noted ?_
    rw [compTurn_list]
    refine wpAny_bind (wpAny_standAt (wpAny_bind ?_))
    obtain ⟨hD3, turn3⟩ := turn i n σ3 ys H3 w3
    rcases turn3 with ⟨stop, qn⟩ | ⟨go, N, hN, step⟩
    · refine thnF (TT.done (cxComp X (T ++ caps.map (·.1)) scope ⟨G.objs.size, s2, H2, fp⟩) rfl rfl rfl hc i [] s3 σ3 H3 _ I3 (stat fr3) st3 stop) fun r s4 ⟨hr, I4⟩ => ?_
      subst hr
      refine wpAny_pure ?_
      obtain ⟨m4, hn4, _⟩ := I4.loc
      have J4 : Inv X pins σ H3 s4 := by
        refine I2.call' (s' := s4) (ch := fp) I4.os I4.base I4.hok I4.bare fun b hb => ?_
        obtain ⟨_, f1, _, f3, f4, f5⟩ := f2 b hb
        exact ⟨f3, f1, f4, f5⟩
      refine hfin _ G.objs.size s4 H3 J4 qn m4 hn4 I4.free (Nat.ne_of_gt (Nat.lt_of_lt_of_le I2.lt hCle)) (Nat.le_trans I2.sz hCle) (fun x c e z => ?_) (fun p hp z => ?_)
      · obtain ⟨v, qq⟩ := I2.cell x c e
        exact absurd (Nat.lt_of_lt_of_le qq.lt (by rw [z]; exact hCle)) (Nat.lt_irrefl _)
      · exact absurd (Nat.lt_of_lt_of_le (Heap.lt_size (I2.pin p hp).1) (by rw [z]; exact hCle)) (Nat.lt_irrefl _)
    · refine thnF (TT.item (cxComp X (T ++ caps.map (·.1)) scope ⟨G.objs.size, s2, H2, fp⟩) rfl rfl rfl hc i [] s3 σ3 H3 _ I3 (stat fr3) st3 go) fun r s4 ⟨u, hr, h4⟩ => ?_
      subst hr
      refine wpAny_bind (thnF h4 fun _ s5 ⟨x, H5, I5, r5, y5, st5, fr5⟩ => ?_)
      have I5' := I5.pinned (stat fr5) (TT.obj _ _ st5)
      refine wpAny_bind (thnF (hg _ _ s5 σ3 H5 x u _ I5' r5 (step x H5 y5)) fun _ s6 ⟨σ6, H6, I6, q6⟩ => ?_)
      have again : ∀ {s7 : Shared} {σ7 : St} {zs : List V} {H7 : Hp}, Inv (cxComp X (T ++ caps.map (·.1)) scope ⟨G.objs.size, s2, H2, fp⟩) ([] ++ pinsAt fp s5.heap) σ7 H7 s7 → N σ7 zs H7 →
          ∃ m, m < n ∧ ∃ i σ' ys H', Inv (cxComp X (T ++ caps.map (·.1)) scope ⟨G.objs.size, s2, H2, fp⟩) [] σ' H' s7 ∧ tn i s7.heap ∧ (∀ b ∈ fp, H' b = none) ∧ W i m σ' ys H' := fun {s7 σ7 zs H7} I7 n7 => by
        obtain ⟨m', hm, w7⟩ := hN σ7 zs H7 n7
        refine ⟨m', hm, i + 1, σ7, zs, H7, I7.unpinned, TT.keep _ _ _ st5 fun b hb o e => (I7.pin (b, o) (List.mem_append_right _ (List.mem_append_right _ (mem_pinsAt hb e)))).1, fun b hb => ?_, w7⟩
        obtain ⟨o, e, d⟩ := TT.obj _ _ st5 b hb
        exact (I7.pin (b, o) (List.mem_append_right _ (List.mem_append_right _ (mem_pinsAt hb e)))).2.1
      refine wpAny_bind (thnF (ht _ _ s6 σ6 H6 _ I6 q6) fun ok s7 ⟨H7, I7, q7⟩ => ?_)
      cases ok with
      | false => exact wpAny_pure ⟨rfl, again I7 q7⟩
      | true =>
        refine wpAny_bind (wpAny_bind (thnF (he _ _ s7 σ6 H7 _ I7 q7) fun y s8 ⟨yv, H8, I8, r8, hD8, hl8, q8⟩ => ?_))
        refine wpAny_bind (thnF (mt_append _ s8 σ6 H8 (.ref s2.heap.objs.size) [yv] (.ref s2.heap.objs.size) [y] (fun _ H9 => N σ6 (ys ++ [yv]) H9) I8 rfl (.cons r8 .nil) ⟨_, ys, yv, rfl, rfl, hD8, hl8, q8⟩) fun _ s9 ⟨_, H9, I9, _, q9⟩ => ?_)
        exact wpAny_pure (wpAny_pure ⟨rfl, again I9 q9⟩)
  exact codeAny_compStart_list loop (TT.self _ 0 _ _ _ st0 loop)
theorem ps_setComp {i : Nat} {y : Str} {py spos : Pos} (hN : X.N.Nodup) (hy : X.N[i]? = some y) (hloc : X.env.scope.names.lookup y = some .local) (S : CompScope X caps scope) (hc : X.calm = true) (hi : PI X target iter wi) (hg : ∀ c, PG (cxComp X (T ++ caps.map (·.1)) scope c) target (g c)) (ht : ∀ c, PIfs (cxComp X (T ++ caps.map (·.1)) scope c) ifs (tt c)) (he : ∀ c, PE (cxComp X (T ++ caps.map (·.1)) scope c) elt (te c))
    (hsw : swapsWith (.ListComp elt [⟨target, iter, ifs, 0⟩] scope pos) (some (.Name y py)) spos.line X.env = pure true := by rfl) (hs : ∀ x, foldedSetIterable iter X.env x = pure x := by intro _; rfl) :
    PS X (.Assign [.Name y py] (.ListComp elt [⟨target, iter, ifs, 0⟩] scope pos) spos) (tAsg (tComp T.length caps wi g tt te) (gName i)) := by
  intro pins s σ H D I h
  rw [exec_Assign_Name_used _ _ _ _ hsw]
  refine wpAny_bind (wpAny_standAt (wpAny_bind ?_))
  show wpAny _ X.A (do let _ ← comprehension (.ListComp elt [⟨target, iter, ifs, 0⟩] scope pos) scope X.env _ (newList []) false (eval iter X.env) (some (assign (.Name y py) X.env))) _ _ s
  refine wpAny_bind (wpAny_mono (comp_use (Qv := fun _ s' => SP X pins D .next s') S hc hi hg ht he I h (fun D' C s4 H3 J4 q4 m4 hn4 hC hL hS hcell hpin => ?_) hs) (fun _ s' hq => wpAny_pure (wpAny_pure hq)) fun _ _ e => e)
  show wpAny (model X.prog X.w) X.A (assign (.Name y py) X.env (.ref D')) (fun _ s'' => ∃ m, s''.heap.Ns C m ∧ ∀ h', Heap.SameBut C s''.heap h' → SP X pins D .next { s'' with heap := h' }) X.xe s4
  refine wpAny_assign_Name (store_ok2 J4 hN hy (.inl hloc) (v := .ref D') rfl (fun s5 J5 hb => ?_) (.inr hloc))
  obtain ⟨a, sb, ha⟩ := hb
  have hCa : C ≠ a := by
    rcases ha with z | z
    · rw [z]; exact hL
    · exact fun e => hcell y a z e.symm
  refine ⟨m4, hn4.sameBut sb hCa, fun h' sb' => ⟨_, H3, ?_, q4⟩⟩
  exact J5.turned (t' := s5.toks) (fun b o hb e => (sb'.2 b hb).trans e) hC hL (.inr hS) hcell hpin
end
end L2

namespace L2
open PySem PySem.Spec PyProof.Rows
theorem bt_enumerate : bootBuiltins "enumerate" = some (.type "enumerate") := by decide +kernel
def Ite (K : PySem.W.Frag) (l : Addr) : It :=
  ⟨fun k H => ∃ xs x, SqL K H l xs ∧ xs[k]? = some x,
   fun k H v H' => ∃ T x, v = .ref T ∧ H T = none ∧ H' = upd H T (.tup [.int k, x]) ∧ ∀ xs, SqL K H l xs → xs[k]? = some x,
   fun k H => ∃ xs, SqL K H l xs ∧ xs.length ≤ k⟩
theorem turn_enum {P : Program} {w : World} {K : PySem.W.Frag} {elts : List Expr} {kt : Nat} {pt : Pos} {e it l : Addr} (hne : e ≠ it) :
    Turn P w K (.Tuple elts kt pt) (Ite K l) [e, it] e (fun k h => (∃ old, IsEnum h e it k old) ∧ h.IsListIter it l k) where
  mem := by simp
  obj := fun k h st b hb => by
    obtain ⟨⟨old, he⟩, h1⟩ := st
    obtain ⟨o1, g1, _, d1⟩ := h1
    simp only [List.mem_cons, List.not_mem_nil, or_false] at hb
    rcases hb with rfl | rfl
    · exact ⟨_, he, fun v z => by cases z⟩
    · exact ⟨_, g1, fun v z => by rw [d1] at z; cases z⟩
  keep := fun k h h' st kp => by
    obtain ⟨⟨old, he⟩, h1⟩ := st
    exact ⟨⟨old, kp e (by simp) _ he⟩, h1.at fun o z => kp it (by simp) o z⟩
  item := by
    intro X hP hw hK hc k pins s σ H E I hf st hg
    subst hP hw hK
    obtain ⟨⟨old, he⟩, h1⟩ := st
    obtain ⟨xs, x, q1, hx⟩ := hg
    obtain ⟨its, r1, p1, _⟩ := I.list q1
    obtain ⟨u1, e1, v1⟩ := r1.get hx
    have fresh : H s.heap.objs.size = none := I.hok.fresh (Nat.le_refl _)
    refine wpAny_pyNext_enum_item he h1 p1.isList (by simpa using e1) hne fun h' z1 j1 t1 _ kp => ?_
    refine ⟨_, rfl, wpAny_letOwnedTupleGo_enum z1 fun h2' z2 sb => ?_⟩
    have kp2 : ∀ c o, c ∉ [e, it] → s.heap.get? c = some o → h2'.get? c = some o := fun c o hc q => by
      simp only [List.mem_cons, List.not_mem_nil, or_false, not_or] at hc
      exact sb.extBut c o hc.1 (kp c o hc.1 hc.2 q)
    have neT : ∀ b o, s.heap.get? b = some o → b ≠ s.heap.objs.size := fun b o q => Nat.ne_of_lt (Heap.lt_size q)
    have neH : ∀ b o, H b = some o → b ∉ [e, it] := fun b o q hb => by
      rw [(hf b hb).1] at q
      cases q
    have upn : ∀ b o, H b = some o → upd H s.heap.objs.size (.tup [.int k, x]) b = some o := fun b o q => by
      rw [upd_ne (ne_of_none q fresh)]
      exact q
    refine ⟨.ref s.heap.objs.size, upd H s.heap.objs.size (.tup [.int k, x]), ?_, rfl, ⟨_, x, rfl, fresh, rfl, fun zs hz' => by rw [I.list_inj hz' q1]; exact hx⟩, ?_, fun b hb => ?_⟩
    · refine Inv.step (s := s) (h' := h2') (g' := s.gens) (d' := s.drawn) (t' := s.toks + 1) (ch := [e, it]) I (fun b hb => ?_) (fun b o _ _ hc q _ => kp2 b o hc q) (fun b o _ _ hc q _ => ⟨o.slots, kp2 b o hc q⟩) (fun b o _ q n => ?_) (fun b o hc q => ⟨o, kp2 b o hc q⟩)
        (fun b zs q => upn b _ q) (fun b o zs q => upn b _ q) (fun b ps q => ⟨#[], by rw [upn b _ q]; simp⟩) (fun m hm => ?_) (fun b o q => ?_) I.bare
      · obtain ⟨_, f1, _, f3, f4, f5⟩ := hf b hb
        exact ⟨f3, f1, f4, f5⟩
      · rw [upd_ne (neT b o q)]
        exact n
      · obtain ⟨o, es, ep, ho, r⟩ := hm
        refine ⟨o, es, ep, kp2 _ o (fun hb => ?_) ho, r⟩
        exact (hf _ hb).2.1 rfl
      · by_cases hb : b = s.heap.objs.size
        · subst hb
          rw [upd_same] at q
          cases q
          exact ⟨by show 2 ≤ sizeLine; decide, [_, u1], .cons ⟨_, rfl⟩ (.cons v1 .nil), _, sb.extBut _ _ (Nat.ne_of_gt (Heap.lt_size he)) t1, rfl, _, rfl⟩
        · rw [upd_ne hb] at q
          refine (I.hok b o q).stay (fun c u hc z => kp2 c u ?_ z) (fun c z => upn c _ z) fun c zs z => upn c _ z
          rcases hc with hc | hc
          · rw [hc]; exact neH b o q
          · exact neH c _ hc
    · exact ⟨⟨_, z2⟩, j1.at fun o z => sb.extBut _ o (Ne.symm hne) z⟩
    · obtain ⟨o, q, _⟩ : ∃ o, s.heap.get? b = some o ∧ True := by
        obtain ⟨o1, g1, _⟩ := h1
        simp only [List.mem_cons, List.not_mem_nil, or_false] at hb
        rcases hb with rfl | rfl
        · exact ⟨_, he, trivial⟩
        · exact ⟨_, g1, trivial⟩
      rw [upd_ne (neT b o q)]
      exact (hf b hb).1
  done := by
    intro X hP hw hK hc k pins s σ H E I hf st hg
    subst hP hw hK
    obtain ⟨⟨old, he⟩, h1⟩ := st
    obtain ⟨xs, q1, hend⟩ := hg
    obtain ⟨its, r1, p1, _⟩ := I.list q1
    have l1' := r1.length
    refine wpAny_pyNext_enum_end (I.ok.hd hc) he h1 p1.isList (Array.getElem?_eq_none (by rw [List.size_toArray]; omega)) fun h' eb => ⟨rfl, ?_⟩
    obtain ⟨f0, f1, f2, f3, f4, f5⟩ := hf it (by simp)
    exact I.turned (t' := s.toks) (fun b o hb q => eb b o hb q) f0 f1 f3 f4 f5
  self := fun _ _ _ _ _ st h => by
    obtain ⟨⟨old, he⟩, _⟩ := st
    exact wpAny_pyIter_enum he h
section
variable {X : Cx}
def iEnum (K : PySem.W.Frag) (ta : TA) : TI := fun σ H R => ta σ H fun vs H1 => ∃ (l : Addr) (xs : List V), vs = [.ref l] ∧ H1 l = some (.lst xs) ∧ R (Ite K l) H1
theorem pi_enum {elts : List Expr} {kt : Nat} {pt : Pos} {a : Expr} {ta : TA} {p pos : Pos} (hg : Gl X "enumerate") (hm : X.mg "enumerate" = none) (ha : PA X [a] ta) (hs : starEach [a] X.env = [(false, eval a X.env)] := by rfl) :
    PI X (.Tuple elts kt pt) (.Call (.Name "enumerate" p) [a] [] pos) (iEnum X.K ta) := by
  intro pins s σ H R I h
  refine Call_ (ld_blt I hg hm bt_enumerate (PyProof.Rows.callWith_type1 (thn (ha pos pins s σ H _ I h) fun us s1 ⟨vs, H1, I1, r1, q1⟩ => ?_) hs rfl))
  obtain ⟨l, xs, e, hl, q⟩ := q1
  subst e
  obtain ⟨u1, rfl, v1⟩ := Vals.one r1
  cases v1
  obtain ⟨_, its, n, _, _, eo⟩ := I1.lstM hl
  refine call_enumerate_1 eo fun h' he hi _ kp => ?_
  refine wpAny_pyIter_enum he ?_
  refine ⟨_, _, _, _, H1, rfl, I1.kept (t' := s1.toks) kp, turn_enum (Nat.succ_ne_self _), ⟨⟨_, he⟩, hi⟩, fun b hb => ?_, q⟩
  have hge : s1.heap.objs.size ≤ b := by
    simp only [List.mem_cons, List.not_mem_nil, or_false] at hb
    rcases hb with rfl | rfl <;> omega
  exact I1.fpOk hge (I1.hok.fresh hge)
end
section
variable {K : PySem.W.Frag} {l D : Addr} {xs : List V} {g : TG} {tt : TT} {te : TE} {σ0 : St} {H1 : Hp} {Q : VK}
theorem comp_enum (Pv : Nat → St → List V → Hp → Prop) (h0 : Pv 0 σ0 [] (upd H1 D (.lst []))) (hl : ∀ i σ zs H, Pv i σ zs H → SqL K H l xs ∧ H D = some (.lst zs))
    (hs : ∀ i x T σ zs H, xs[i]? = some x → H T = none → Pv i σ zs H → g (.ref T) σ (upd H T (.tup [.int i, x])) fun σ2 H2 => tt σ2 H2 fun b H3 =>
      if b = true then te σ2 H3 fun z H4 => H4 D = some (.lst zs) ∧ zs.length < sizeLine ∧ Pv (i + 1) σ2 (zs ++ [z]) (upd H4 D (.lst (zs ++ [z]))) else Pv (i + 1) σ2 zs H3)
    (hd : ∀ σ zs H, Pv xs.length σ zs H → Q (.ref D) H) : CompW (Ite K l) D g tt te σ0 H1 Q := by
  refine ⟨fun i m σ zs H => m = xs.length - i ∧ i ≤ xs.length ∧ Pv i σ zs H, ⟨_, rfl, Nat.zero_le _, h0⟩, ?_⟩
  rintro i m σ zs H ⟨rfl, hi, p⟩
  obtain ⟨q1, qd⟩ := hl i σ zs H p
  refine ⟨qd, ?_⟩
  by_cases hlt : i < xs.length
  · refine .inr ⟨⟨xs, xs[i], q1, by simp [hlt]⟩, Pv (i + 1), fun σ' zs' H' z => ⟨xs.length - (i + 1), by omega, rfl, hlt, z⟩, fun v H' y => ?_⟩
    obtain ⟨T, x, rfl, hT, rfl, y1⟩ := y
    exact hs i x T σ zs H (y1 xs q1) hT p
  · have e : i = xs.length := by omega
    subst e
    exact .inl ⟨⟨xs, q1, Nat.le_refl _⟩, hd σ zs H p⟩
end
end L2

namespace L2
open PySem PySem.Spec PyProof.Rows
theorem vals_pick {xs : List V} {us : List Value} (r : Vals xs us) : ∀ is : List Nat, Vals (is.filterMap fun i => xs[i]?) (is.filterMap fun i => us[i]?)
  | [] => .nil
  | i :: is => by
    cases e : xs[i]? with
    | none =>
      rw [List.filterMap_cons_none e, List.filterMap_cons_none (Vals.none_of r e)]
      exact vals_pick r is
    | some x =>
      obtain ⟨u, eu, ru⟩ := r.get e
      rw [List.filterMap_cons_some e, List.filterMap_cons_some eu]
      exact .cons ru (vals_pick r is)
theorem pick_mem {xs : List V} {is : List Nat} {y : V} (h : y ∈ is.filterMap fun i => xs[i]?) : y ∈ xs := by
  obtain ⟨i, _, e⟩ := List.mem_filterMap.mp h
  exact List.mem_of_getElem? e
theorem pick_eq (its : List Value) (lo hi st : Option Int) : slicePick its.toArray lo hi st = ((sliceRange (sliceBounds lo hi st its.length).1 (sliceBounds lo hi st its.length).2.1 (sliceBounds lo hi st its.length).2.2).filterMap fun i => its[i]?).toArray := by
  unfold slicePick
  simp only [List.size_toArray, List.getElem?_toArray]
section
variable {X : Cx} {e : Expr} {te : TE} {lo hi : Option Expr} {st : Expr} {tl th ts : TO} {pos p2 : Pos}
def tSlS (K : PySem.W.Frag) (te : TE) (tl th ts : TO) : TE := fun σ H Q => te σ H fun x H1 => tl σ H1 fun l H2 => th σ H2 fun u H3 => ts σ H3 fun k H4 =>
  ∃ a xs, x = .ref a ∧ SqL K H4 a xs ∧ k ≠ some 0 ∧ ∀ p ys, H4 p = none → (∀ y ∈ ys, y ∈ xs) → ys.length ≤ xs.length → Q (.ref p) (upd H4 p (.lst ys))
theorem pe_sliceS (he : PE X e te) (hl : PO X lo tl) (hu : PO X hi th) (hk : PO X (some st) ts) : PE X (.Subscript e (.Slice lo hi (some st) p2) pos) (tSlS X.K te tl th ts) := by
  intro pins s σ H Q I h
  refine Subscript_ (thn (he pins s σ H _ I h) fun v s1 ⟨x, H1, I1, r1, q1⟩ => ?_)
  refine wpAny_Slice (thn (hl pins s1 σ H1 _ I1 q1) fun vl s2 ⟨l, H2, I2, pl, q2⟩ => thn (hu pins s2 σ H2 _ I2 q2) fun vu s3 ⟨u, H3, I3, pu, q3⟩ => thn (hk pins s3 σ H3 _ I3 q3) fun vk s4 ⟨k, H4, I4, pk, q4⟩ => ?_)
  obtain ⟨a, xs, rfl, hx, h0, q⟩ := q4
  cases r1
  have I5 : Inv X pins σ H4 { s4 with heap := s4.heap.push { cls := .type "slice", data := .fields #[vl, vu, vk] } } := I4.kept (t' := s4.toks) fun b ob q => Heap.get?_push_of_some _ q
  obtain ⟨its, r, ht, hz⟩ := I5.list hx
  have hlen := r.length
  show wpAny (model X.prog X.w) X.A (subscriptTail e (.Slice lo hi (some st) p2) (.ref a) (.ref s4.heap.objs.size)) (EP X pins σ Q) X.xe { s4 with heap := s4.heap.push { cls := .type "slice", data := .fields #[vl, vu, vk] } }
  refine tail_any (ops := [.ref a, .ref s4.heap.objs.size]) ht.isList.typeIs slot_list_getitem.lookup ?_ (by with_unfolding_all rfl)
  refine wpAny_getItem_list_slice ht.isList (Heap.IsSliceOf.new ..) pl pu pk h0 ?_ (by rw [List.size_toArray] <;> omega)
  have rp := vals_pick r (sliceRange (sliceBounds l u k its.length).1 (sliceBounds l u k its.length).2.1 (sliceBounds l u k its.length).2.2)
  have hz2 := slicePick_size_le its.toArray l u k
  rw [pick_eq, List.size_toArray, List.size_toArray] at hz2
  have hsz := Nat.le_trans (Nat.le_of_eq rp.length) (Nat.le_trans hz2 (Nat.le_of_eq hlen.symm))
  rw [pick_eq]
  refine ⟨.ref _, _, I5.laid (t' := s4.toks) (o := .lst _) (fun b ob q => Heap.get?_push_of_some _ q) (Nat.le_refl _) ?_, rfl, q _ _ (I5.hok.fresh (Nat.le_refl _)) (fun y hy => pick_mem hy) hsz⟩
  exact ⟨Nat.le_trans hsz hz, _, 0, rp, Heap.get?_push_size _ rfl⟩
end
theorem refs_of : ∀ {rs : List Addr} {us : List Value}, Vals (rs.map V.ref) us → us = rs.map Value.ref
  | [], _, r => by cases r; rfl
  | a :: rs, _, r => by
    cases r with
    | cons r1 r2 =>
      cases r1
      rw [refs_of r2]
      rfl
section
variable {X : Cx}
theorem range_all_tt (n : Nat) : (List.range n).all (fun _ => true) = true := List.all_eq_true.mpr fun _ _ => rfl
end
theorem Same.putNew {H H4 : Hp} {D : Addr} {o : HO} (s : Same H H4) (h : H D = none) : Same H (upd H4 D o) := fun b u q => by
  rw [upd_ne (ne_of_none q h)]
  exact s _ _ q
abbrev Pr := Addr × Int × Int
abbrev refsOf (ps : List Pr) : List V := (ps.map (·.1)).map V.ref
theorem refsOf_length (ps : List Pr) : (refsOf ps).length = ps.length := by simp [refsOf]
theorem refsOf_app (ps qs : List Pr) : refsOf (ps ++ qs) = refsOf ps ++ refsOf qs := by simp [refsOf]
theorem refsOf_at {ps : List Pr} {i : Nat} {k : Int} (e : k = i) (h : i < ps.length) : ∃ t, t ∈ ps ∧ ps[i]? = some t ∧ atI (refsOf ps) k = some (.ref t.1) := by
  refine ⟨ps[i], List.getElem_mem h, List.getElem?_eq_getElem h, ?_⟩
  rw [e]
  exact atI_nat (by rw [List.getElem?_map, List.getElem?_map, List.getElem?_eq_getElem h] <;> rfl)
theorem cut_refs (ps : List Pr) (lo hi : Option Int) : ∃ qs : List Pr, cutV (refsOf ps) lo hi = refsOf qs ∧ (∀ t ∈ qs, t ∈ ps) ∧ qs.length ≤ ps.length := by
  refine ⟨(ps.drop (HT.sIx (refsOf ps).length 0 lo)).take (HT.sIx (refsOf ps).length (refsOf ps).length hi - HT.sIx (refsOf ps).length 0 lo), ?_, fun t ht => List.mem_of_mem_drop (List.mem_of_mem_take ht), ?_⟩
  · show ((refsOf ps).drop _).take _ = _
    simp only [refsOf, List.map_drop, List.map_take]
  · rw [List.length_take, List.length_drop]
    omega
theorem mem_refs : ∀ {ys : List V} {ps : List Pr}, (∀ y ∈ ys, y ∈ refsOf ps) → ∃ qs : List Pr, ys = refsOf qs ∧ ∀ t ∈ qs, t ∈ ps
  | [], _, _ => ⟨[], rfl, fun t ht => nomatch ht⟩
  | y :: ys, ps, h => by
    obtain ⟨qs, e, g⟩ := mem_refs (ys := ys) (ps := ps) fun z hz => h z (List.mem_cons_of_mem _ hz)
    have hy := h y (List.mem_cons_self ..)
    rw [refsOf, List.map_map] at hy
    obtain ⟨t, ht, et⟩ := List.mem_map.mp hy
    refine ⟨t :: qs, ?_, fun z hz => ?_⟩
    · rw [e, ← et]
      rfl
    · rcases List.mem_cons.mp hz with rfl | hz
      · exact ht
      · exact g z hz
end L2
namespace L2
open PySem PySem.Spec PyProof.Rows
theorem mapInt_inj : ∀ {xs ys : List Int}, xs.map V.int = ys.map V.int → xs = ys
  | [], [], _ => rfl
  | [], _ :: _, h => nomatch h
  | _ :: _, [], h => nomatch h
  | x :: xs, y :: ys, h => by
    rw [List.map_cons, List.map_cons] at h
    injection h with h1 h2
    rw [V.int.inj h1, mapInt_inj h2]
section
variable {X : Cx}
theorem eqAt_tups {pins : List (Addr × Obj)} {s : Shared} {σ : St} {H : Hp} (I : Inv X pins σ H s) {A : Around} (hu : A.units < cLine) {a b : Addr} {xs ys : List Int} (h1 : H a = some (.tup (xs.map V.int))) (h2 : H b = some (.tup (ys.map V.int))) :
    SeqAt.EqAt A s (.ref a) (.ref b) (decide (xs = ys)) := by
  by_cases e : a = b
  · subst e
    rw [h1] at h2
    have z : xs = ys := mapInt_inj (by injection (Option.some.inj h2))
    rw [decide_eq_true z]
    exact SeqAt.EqAt.same _
  · obtain ⟨us, r1, p1, _⟩ := I.tuple (SqT.of h1)
    obtain ⟨ws, r2, p2, _⟩ := I.tuple (SqT.of h2)
    have q := SeqAt.RcAt.tuples (A := A) (s := s) (l := a) (b := b) (items := us.toArray) (items2 := ws.toArray) (e := fun j => decide (xs[j]? = ys[j]?)) p1 p2 hu (eqs_at r1 r2)
    have l1 := r1.length
    have l2 := r2.length
    rw [List.length_map] at l1 l2
    rw [List.size_toArray, List.size_toArray, ← l1, ← l2, all_eqs] at q
    exact SeqAt.EqAt.of_refs e q
end
end L2

namespace PySem.W
open PySem PySem.Calls PyProof.Rows
section
variable {O : KeyOrd} (key : Nat → O.α)
structure PIn (n : Nat) (p : Array Nat) : Prop where
  perm : p.Perm (List.toArray (List.range n))
variable {key} {n : Nat}
end
end PySem.W

namespace PySem.W
open PySem PySem.Calls PyProof.Rows
section
variable {prog : Program} {w : World} {A : Around} {E : Value → Shared → Prop} {s : Shared}
end
end PySem.W

namespace L2
open PySem PySem.Spec PyProof.Rows PySem.W
section
variable {prog : Program} {w : World} {A : Around} {E : Value → Shared → Prop} {s : Shared}
end
section
variable {X : Cx}
theorem bt_sorted : bootBuiltins "sorted" = some (.builtin "sorted") := by decide +kernel
end
end L2
namespace L2
open PySem PySem.Spec PyProof.Rows
section
variable {X : Cx}
end
end L2

namespace Sea
open PySem L2
end Sea

namespace L2
open PySem PySem.Spec PyProof.Rows
section
variable {κ : Type} [DecidableEq κ]
end


section
variable {P : Program} {w : World} {H : Hp} {h : Heap} {a : Addr}
end

section
variable {X : Cx} {pins : List (Addr × Obj)} {σ : St} {H : Hp} {s : Shared} {a : Addr} {y v : V} {u r : Value} {o : Option V} {A : Around} {E : Value → Shared → Prop}

end

section
variable {X : Cx} {pins : List (Addr × Obj)} {σ : St} {H : Hp} {s : Shared} {a : Addr} {kvs : List (Key × V)} {k : Key} {u : Value} {A : Around} {E : Value → Shared → Prop}
end


section
variable {X : Cx} {o i e value : Expr} {pos pos' tpos : Pos} {td ty tv : TE}
end


section
variable {X : Cx} {pos : Pos}
end

end L2

namespace L2
open PySem PySem.Spec PyProof.Rows
section
variable {prog : Program} {w : World} {A : Around} {E : Value → Shared → Prop} {z : Shared} {it a : Addr} {rows : Array DictEntry} {age k : Nat}
end
section
variable {X : Cx}
end
end L2

namespace Sea
open PySem L2
abbrev Sd := Addr × Int × Int × Int
abbrev sdRefs (ss : List Sd) : List V := (ss.map (·.1)).map V.ref
def SdOk (H : Hp) (ss : List Sd) : Prop := ∀ t ∈ ss, H t.1 = some (.tup [.int t.2.1, .int t.2.2.1, .int t.2.2.2]) ∧ (t.2.1 ≠ 0 ∨ t.2.2.1 ≠ 0) ∧ t.2.1.natAbs ≤ 10 ^ 9 ∧ t.2.2.1.natAbs ≤ 10 ^ 9 ∧ t.2.2.2.natAbs ≤ 10 ^ 13
theorem SdOk.same {H H' : Hp} {ss : List Sd} (h : SdOk H ss) (s : Same H H') : SdOk H' ss := fun t ht => ⟨s _ _ (h t ht).1, (h t ht).2⟩
theorem sdRefs_length (ss : List Sd) : (sdRefs ss).length = ss.length := by simp [sdRefs]
theorem sdRefs_get {ss : List Sd} {i : Nat} {v : V} (h : (sdRefs ss)[i]? = some v) : ∃ t, ss[i]? = some t ∧ v = .ref t.1 ∧ i < ss.length := by
  rw [List.getElem?_map, List.getElem?_map] at h
  cases e : ss[i]? with
  | none => rw [e] at h; cases h
  | some t => rw [e] at h; exact ⟨t, rfl, (Option.some.inj h).symm, (List.getElem?_eq_some_iff.mp e).1⟩
theorem sdRefs_at {ss : List Sd} {i : Nat} {k : Int} (e : k = i) (h : i < ss.length) : ∃ t, t ∈ ss ∧ ss[i]? = some t ∧ atI (sdRefs ss) k = some (.ref t.1) := by
  refine ⟨ss[i], List.getElem_mem h, List.getElem?_eq_getElem h, ?_⟩
  rw [e]
  exact atI_nat (by rw [List.getElem?_map, List.getElem?_map, List.getElem?_eq_getElem h] <;> rfl)
def wayB (ss : List Sd) (x y : Int) : Bool := ss.all fun t => decide (t.2.1 * x + t.2.2.1 * y ≤ 0)
def WK (ss : List Sd) (n : Nat) (k : List Int) : Prop := ∃ j t, j < n ∧ ss[j]? = some t ∧ ((k = lowL [-t.2.2.1, t.2.1] ∧ wayB ss (-t.2.2.1) t.2.1 = true) ∨ (k = lowL [t.2.2.1, -t.2.1] ∧ wayB ss t.2.2.1 (-t.2.1) = true))
def keyI (ns : List Int) : List Key := ns.map Sum.inl
structure TabK (kvs : List (List Key × V)) (ks : List (List Int)) : Prop where
  keys : kvs.map (·.1) = ks.map keyI
  nodup : ks.Nodup
structure WaysAt (H : Hp) (l : Addr) (ss : List Sd) (us : List (Addr × List Int)) : Prop where
  at' : H l = some (.lst ((us.map (·.1)).map V.ref))
  all : ∀ u ∈ us, H u.1 = some (.tup (u.2.map V.int))
  rises : (us.map (·.2)).Pairwise (fun a b => HT.lexLt b a = false)
  nodup : (us.map (·.2)).Nodup
  mem : ∀ k, k ∈ us.map (·.2) ↔ WK ss ss.length k
  few : us.length ≤ 80
structure SdSt (H0 : Hp) (D : Addr) (ss : List Sd) (H : Hp) : Prop where
  same : Same H0 H
  new : H0 D = none
  at' : H D = some (.lst (sdRefs ss))
  all : SdOk H ss
theorem SdSt.app {H0 H H2 : Hp} {D p : Addr} {ss : List Sd} {a b c : Int} (P : SdSt H0 D ss H) (s : Same H H2) (hp : H p = none) (ep : H2 p = some (.tup [.int a, .int b, .int c])) (n : a ≠ 0 ∨ b ≠ 0) (ma : a.natAbs ≤ 10 ^ 9) (mb : b.natAbs ≤ 10 ^ 9) (mc : c.natAbs ≤ 10 ^ 13) :
    SdSt H0 D (ss ++ [(p, a, b, c)]) (upd H2 D (.lst (sdRefs ss ++ [.ref p]))) := by
  have npD : p ≠ D := fun e => by rw [e, P.at'] at hp; cases hp
  refine ⟨(P.same.trans s).putNew P.new, P.new, by rw [upd_same]; simp [sdRefs], fun t ht => ?_⟩
  rcases List.mem_append.mp ht with h | h
  · obtain ⟨h1, h2⟩ := P.all t h
    refine ⟨?_, h2⟩
    rw [upd_ne (ne_of h1 P.at' (by intro z; cases z))]
    exact s _ _ h1
  · rw [List.mem_singleton] at h
    subst h
    refine ⟨?_, n, ma, mb, mc⟩
    show upd H2 D _ p = _
    rw [upd_ne npD]
    exact ep
theorem cutS {ok : Addr → List Sd → Hp → Prop} {G : Prop} {R : Addr → List Sd → Hp → Prop} (h1 : (∀ D ss H, ok D ss H → R D ss H) → G) (h2 : ∀ D ss H, ok D ss H → R D ss H) : G := h1 h2
end Sea

namespace Sea
open PySem L2
abbrev P3 := Int × Int × Int
def sv (t p : P3) : Int := t.1 * p.1 + t.2.1 * p.2.1 - t.2.2 * p.2.2
def tn (e s : P3) : Int := e.1 * s.2.1 - e.2.1 * s.1
def dl (e p q : P3) : Int := e.1 * (p.2.1 * q.2.2 - q.2.1 * p.2.2) - e.2.1 * (p.1 * q.2.2 - q.1 * p.2.2)
theorem key_id (a b u v X Y : Int) : (a * a + b * b) * (u * X + v * Y) = (a * Y - b * X) * (a * v - b * u) + (a * X + b * Y) * (a * u + b * v) := by
  simp only [Int.mul_sub, Int.sub_mul, Int.mul_add, Int.add_mul, Int.mul_comm, Int.mul_left_comm]
  omega
theorem sv_diff (s p q : P3) : sv s p * q.2.2 - sv s q * p.2.2 = s.1 * (p.1 * q.2.2 - q.1 * p.2.2) + s.2.1 * (p.2.1 * q.2.2 - q.2.1 * p.2.2) := by
  unfold sv
  simp only [Int.mul_sub, Int.sub_mul, Int.add_mul, Int.mul_add, Int.mul_comm, Int.mul_left_comm]
  omega
theorem key_sv {e p q : P3} (hp : sv e p = 0) (hq : sv e q = 0) (s : P3) : (e.1 * e.1 + e.2.1 * e.2.1) * (sv s p * q.2.2 - sv s q * p.2.2) = dl e p q * tn e s := by
  have z := sv_diff e p q
  rw [hp, hq, Int.zero_mul, Int.zero_mul, Int.sub_self] at z
  rw [sv_diff s p q, key_id, ← z, Int.zero_mul, Int.add_zero]
  rfl
theorem sq_hand {x y h : Int} (hh : h * h = 1) : (x * h) * (y * h) = x * y := by
  have e : (x * h) * (y * h) = x * y * (h * h) := by simp only [Int.mul_comm, Int.mul_left_comm]
  rw [e, hh, Int.mul_one]
theorem sv_on {e p q : P3} {h : Int} (hh : h * h = 1) (hN : 0 < e.1 * e.1 + e.2.1 * e.2.1) (hp : sv e p = 0) (hq : sv e q = 0) (pw : 0 < p.2.2) (qw : 0 < q.2.2) (s : P3) (hs : (dl e p q * h) * (tn e s * h) ≤ 0) (hv : sv s q ≤ 0) : sv s p ≤ 0 := by
  have k := key_sv hp hq s
  rw [← sq_hand (x := dl e p q) (y := tn e s) hh] at k
  rw [← k] at hs
  have h1 : sv s p * q.2.2 - sv s q * p.2.2 ≤ 0 := by
    by_cases c : sv s p * q.2.2 - sv s q * p.2.2 ≤ 0
    · exact c
    · have := Int.mul_pos hN (show 0 < sv s p * q.2.2 - sv s q * p.2.2 by omega)
      omega
  have h2 : sv s q * p.2.2 ≤ 0 := by
    have := Int.mul_nonneg (show 0 ≤ -sv s q by omega) (Int.le_of_lt pw)
    rw [Int.neg_mul] at this
    omega
  by_cases c : sv s p ≤ 0
  · exact c
  · have := Int.mul_pos (show 0 < sv s p by omega) qw
    omega
theorem dl_ge {e p q s : P3} {h : Int} (hh : h * h = 1) (hN : 0 < e.1 * e.1 + e.2.1 * e.2.1) (hp : sv e p = 0) (hq : sv e q = 0) (pw : 0 < p.2.2) (h0 : sv s p = 0) (hv : sv s q ≤ 0) (ht : 0 < tn e s * h) : 0 ≤ dl e p q * h := by
  have k := key_sv hp hq s
  rw [h0, Int.zero_mul, ← sq_hand (x := dl e p q) (y := tn e s) hh] at k
  have h2 : 0 ≤ -sv s q * p.2.2 := Int.mul_nonneg (by omega) (Int.le_of_lt pw)
  rw [Int.neg_mul] at h2
  have h3 := Int.mul_nonneg (Int.le_of_lt hN) (show 0 ≤ 0 - sv s q * p.2.2 by omega)
  rw [k] at h3
  by_cases c : 0 ≤ dl e p q * h
  · exact c
  · have := Int.mul_pos (show 0 < -(dl e p q * h) by omega) ht
    rw [Int.neg_mul] at this
    omega
theorem dl_le {e p q s : P3} {h : Int} (hh : h * h = 1) (hN : 0 < e.1 * e.1 + e.2.1 * e.2.1) (hp : sv e p = 0) (hq : sv e q = 0) (pw : 0 < p.2.2) (h0 : sv s p = 0) (hv : 0 < sv s q) (ht : 0 < tn e s * h) : dl e p q * h ≤ 0 := by
  have k := key_sv hp hq s
  rw [h0, Int.zero_mul, ← sq_hand (x := dl e p q) (y := tn e s) hh] at k
  have h2 := Int.mul_pos hv pw
  have h3 := Int.mul_nonneg (Int.le_of_lt hN) (show 0 ≤ sv s q * p.2.2 by omega)
  have h4 : (e.1 * e.1 + e.2.1 * e.2.1) * (0 - sv s q * p.2.2) = -((e.1 * e.1 + e.2.1 * e.2.1) * (sv s q * p.2.2)) := by rw [Int.zero_sub, Int.mul_neg]
  rw [h4] at k
  by_cases c : dl e p q * h ≤ 0
  · exact c
  · have := Int.mul_pos (show 0 < dl e p q * h by omega) ht
    omega
def pt3 (l : List Int) : P3 := match l with
  | [x, y, w] => (x, y, w)
  | _ => (0, 0, 1)
def crL (e s : P3) : List Int := lowL (upL (e.2.2 * s.2.1 - e.2.1 * s.2.2) (e.1 * s.2.2 - e.2.2 * s.1) (e.1 * s.2.1 - e.2.1 * s.1))
def ftL (t : P3) : List Int := lowL (upL (t.1 * t.2.2) (t.2.1 * t.2.2) (t.1 * t.1 + t.2.1 * t.2.1))
structure IsSpot (l : List Int) (p : P3) : Prop where
  list : l = [p.1, p.2.1, p.2.2]
  pos : 0 < p.2.2
  low : Nat.gcd (Nat.gcd p.1.natAbs p.2.1.natAbs) p.2.2.natAbs = 1
theorem cr_ok {e s : P3} (h : tn e s ≠ 0) : IsSpot (crL e s) (pt3 (crL e s)) ∧ sv e (pt3 (crL e s)) = 0 ∧ sv s (pt3 (crL e s)) = 0 := by
  obtain ⟨x, y, w, el, sp⟩ := spot_low (X := e.2.2 * s.2.1 - e.2.1 * s.2.2) (Y := e.1 * s.2.2 - e.2.2 * s.1) (W := e.1 * s.2.1 - e.2.1 * s.1) h
  have e1 : crL e s = [x, y, w] := el
  rw [e1]
  refine ⟨⟨rfl, by have := sp.pos; show 0 < w; omega, sp.low⟩, ?_, ?_⟩
  · have z := cross_on (A := e.1) (B := e.2.1) (C := e.2.2) h sp (cross_one e.1 e.2.1 e.2.2 s.1 s.2.1 s.2.2)
    show e.1 * x + e.2.1 * y - e.2.2 * w = 0
    omega
  · have z := cross_on (A := s.1) (B := s.2.1) (C := s.2.2) h sp (cross_two e.1 e.2.1 e.2.2 s.1 s.2.1 s.2.2)
    show s.1 * x + s.2.1 * y - s.2.2 * w = 0
    omega
theorem nn_pos {t : P3} (h : t.1 ≠ 0 ∨ t.2.1 ≠ 0) : 0 < t.1 * t.1 + t.2.1 * t.2.1 := sq_pos h
theorem ft_ok {t : P3} (h : t.1 ≠ 0 ∨ t.2.1 ≠ 0) : IsSpot (ftL t) (pt3 (ftL t)) ∧ sv t (pt3 (ftL t)) = 0 := by
  have hw := nn_pos h
  obtain ⟨x, y, w, el, sp⟩ := spot_low (X := t.1 * t.2.2) (Y := t.2.1 * t.2.2) (W := t.1 * t.1 + t.2.1 * t.2.1) (by omega)
  have e1 : ftL t = [x, y, w] := el
  rw [e1]
  refine ⟨⟨rfl, by have := sp.pos; show 0 < w; omega, sp.low⟩, ?_⟩
  have z := cross_on (A := t.1) (B := t.2.1) (C := t.2.2) (show t.1 * t.1 + t.2.1 * t.2.1 ≠ 0 by omega) sp (by simp only [Int.mul_add, Int.mul_comm, Int.mul_left_comm])
  show t.1 * x + t.2.1 * y - t.2.2 * w = 0
  omega
def inW (ss : List Sd) (p : P3) : Prop := ∀ t ∈ ss, sv t.2 p ≤ 0
def EndOk (ss : List Sd) (e : P3) (h : Int) : Option Nat → Prop
  | none => ∀ t ∈ ss, tn e t.2 * h ≤ 0
  | some j => ∃ t, ss[j]? = some t ∧ 0 < tn e t.2 * h ∧ ∀ u ∈ ss, 0 < tn e u.2 * h → sv u.2 (pt3 (crL e t.2)) ≤ 0
theorem ne_hand {x h : Int} (h0 : 0 < x * h) : x ≠ 0 := fun z => by rw [z, Int.zero_mul] at h0; exact absurd h0 (by decide)
theorem end_in {ss : List Sd} {e z : P3} {h : Int} {j : Nat} {t : Sd} (hh : h * h = 1) (hN : 0 < e.1 * e.1 + e.2.1 * e.2.1) (hz : sv e z = 0) (zw : 0 < z.2.2) (wz : inW ss z) (gt : ss[j]? = some t) (h0 : 0 < tn e t.2 * h) (ha : ∀ u ∈ ss, 0 < tn e u.2 * h → sv u.2 (pt3 (crL e t.2)) ≤ 0) : inW ss (pt3 (crL e t.2)) := fun u hu => by
  obtain ⟨sp, c1, c2⟩ := cr_ok (ne_hand h0)
  by_cases hp : 0 < tn e u.2 * h
  · exact ha u hu hp
  · have d0 := dl_ge hh hN c1 hz sp.pos c2 (wz t (List.mem_of_getElem? gt)) h0
    refine sv_on hh hN c1 hz sp.pos zw u.2 ?_ (wz u hu)
    have := Int.mul_nonneg d0 (show 0 ≤ -(tn e u.2 * h) by omega)
    rw [Int.mul_neg] at this
    omega
theorem beside_in {ss : List Sd} {e z p : P3} (hN : 0 < e.1 * e.1 + e.2.1 * e.2.1) (hz : sv e z = 0) (zw : 0 < z.2.2) (wz : inW ss z) (hp : sv e p = 0) (pw : 0 < p.2.2) (n1 : EndOk ss e 1 none) (n2 : EndOk ss e (-1) none) : inW ss p := fun u hu => by
  have e1 := n1 u hu
  have e2 := n2 u hu
  rw [Int.mul_one] at e1
  have e0 : tn e u.2 = 0 := by
    rw [Int.mul_neg, Int.mul_one] at e2
    omega
  refine sv_on (h := 1) (by decide) hN hp hz pw zw u.2 ?_ (wz u hu)
  rw [e0, Int.zero_mul, Int.mul_zero]
  exact Int.le_refl _
end Sea

namespace L2
open PySem PySem.Spec PyProof.Rows
section
variable {X : Cx} {pos : Pos}
def rNeE (K : PySem.W.Frag) : R2 := fun x y H Q => ∃ (a b : Addr) (rs : List Addr), x = .ref a ∧ y = .ref b ∧ SqL K H a (rs.map V.ref) ∧ SqL K H b [] ∧ Q (.bl (!rs.isEmpty)) H
theorem op_neE (hu : X.A.units < cLine) : OpR X (compareOp .NotEq) (rNeE X.K) := by
  intro pins s σ H x y v u Q I rx ry h
  obtain ⟨a, b, rs, rfl, rfl, h1, h2, q⟩ := h
  cases rx
  cases ry
  obtain ⟨us, r1, p1, _⟩ := I.list h1
  obtain ⟨ws, r2, p2, _⟩ := I.list h2
  have e1 := refs_of r1
  have e2 := Vals.zero r2
  subst e1 e2
  cases rs with
  | nil =>
    refine SeqAt.RcNeAt.lists (e := fun _ => true) p1.isList p2.isList rfl hu (fun j g _ => absurd g (by simp)) X.prog X.w _ _ ?_
    exact ⟨.bl false, H, I, rfl, q⟩
  | cons r rs =>
    refine SeqAt.RcNeAt.lists_lengths p1.isList p2.isList (by simp) hu X.prog X.w _ _ ?_
    exact ⟨.bl true, H, I, rfl, q⟩
end
end L2
namespace Sea
open PySem L2
end Sea

namespace Sea
open PySem L2
theorem dl_anti (e p q : P3) : dl e p q = -dl e q p := by
  unfold dl
  simp only [Int.mul_sub]
  omega
def FullE (ss : List Sd) (e : P3) (h : Int) (qs : List P3) : Prop := EndOk ss e h none ∨ ∃ (j : Nat) (t : Sd), ss[j]? = some t ∧ 0 < tn e t.2 * h ∧ (∀ u ∈ ss, 0 < tn e u.2 * h → sv u.2 (pt3 (crL e t.2)) ≤ 0) ∧ pt3 (crL e t.2) ∈ qs
theorem FullE.app {ss : List Sd} {e : P3} {h : Int} {qs rs : List P3} (f : FullE ss e h qs) : FullE ss e h (qs ++ rs) := by
  rcases f with f | ⟨j, t, g, p, a, m⟩
  · exact .inl f
  · exact .inr ⟨j, t, g, p, a, List.mem_append_left _ m⟩
end Sea

namespace Sea
open PySem L2
def absI (x : Int) : Int := if x < 0 then -x else x
def span2 (a b : Int) : Int := absI a + absI b
theorem span2_pos {a b : Int} (h : a ≠ 0 ∨ b ≠ 0) : 0 < span2 a b := by
  unfold span2 absI
  split <;> split <;> omega
theorem par {e1 e2 s1 s2 : Int} (h : e1 * s2 = e2 * s1) (hs : e2 * s2 ≤ 0) : absI e2 * s1 + absI s2 * e1 = 0 := by
  unfold absI
  rw [Int.mul_comm e1 s2] at h
  by_cases c : e2 < 0
  · rw [if_pos c]
    by_cases d : s2 < 0
    · have := Int.mul_pos_of_neg_of_neg c d
      omega
    · rw [if_neg d, Int.neg_mul]
      omega
  · rw [if_neg c]
    by_cases d : s2 < 0
    · rw [if_pos d, Int.neg_mul]
      omega
    · rw [if_neg d]
      have z : e2 * s2 = 0 := by
        have := Int.mul_nonneg (show 0 ≤ e2 by omega) (show 0 ≤ s2 by omega)
        omega
      rcases Int.mul_eq_zero.mp z with z | z
      · rw [z, Int.zero_mul] at h
        rw [z, Int.zero_mul, h]
        rfl
      · rw [z, Int.zero_mul] at h
        rw [z, Int.zero_mul, ← h]
        rfl
theorem neg_neg_of {x y : Int} (h : x + y < 0) (hp : 0 ≤ x * y) : x ≤ 0 ∧ y ≤ 0 := by
  by_cases cx : x ≤ 0
  · by_cases cy : y ≤ 0
    · exact ⟨cx, cy⟩
    · by_cases c0 : x = 0
      · omega
      · have := Int.mul_neg_of_neg_of_pos (show x < 0 by omega) (show 0 < y by omega)
        omega
  · by_cases cy : y < 0
    · have := Int.mul_neg_of_pos_of_neg (show 0 < x by omega) cy
      omega
    · omega
theorem sq_nn (x : Int) : 0 ≤ x * x := by
  by_cases h : 0 ≤ x
  · exact Int.mul_nonneg h h
  · exact Int.le_of_lt (Int.mul_pos_of_neg_of_neg (by omega) (by omega))
theorem contrary {e s f P : P3} (ht : tn e s = 0) (hN : 0 < e.1 * e.1 + e.2.1 * e.2.1) (he : e.1 ≠ 0 ∨ e.2.1 ≠ 0) (fw : 0 < f.2.2) (pw : 0 < P.2.2) (h1 : sv e f = 0) (h2 : 0 < sv s f) (h3 : sv s P ≤ 0) (h4 : 0 < sv e P) :
    span2 e.1 e.2.1 * s.1 + span2 s.1 s.2.1 * e.1 = 0 ∧ span2 e.1 e.2.1 * s.2.1 + span2 s.1 s.2.1 * e.2.1 = 0 ∧ span2 e.1 e.2.1 * s.2.2 + span2 s.1 s.2.1 * e.2.2 < 0 := by
  have d1 := sv_diff e P f
  have d2 := sv_diff s P f
  rw [h1, Int.zero_mul] at d1
  have p1 := Int.mul_pos h4 fw
  have p2 := Int.mul_pos h2 pw
  have p3 : sv s P * f.2.2 ≤ 0 := by
    have := Int.mul_nonneg (show 0 ≤ -sv s P by omega) (Int.le_of_lt fw)
    rw [Int.neg_mul] at this
    omega
  have k := key_id e.1 e.2.1 s.1 s.2.1 (P.1 * f.2.2 - f.1 * P.2.2) (P.2.1 * f.2.2 - f.2.1 * P.2.2)
  rw [← d1, ← d2, show e.1 * s.2.1 - e.2.1 * s.1 = 0 from ht, Int.mul_zero, Int.zero_add] at k
  have n1 : (e.1 * e.1 + e.2.1 * e.2.1) * (sv s P * f.2.2 - sv s f * P.2.2) < 0 := Int.mul_neg_of_pos_of_neg hN (by omega)
  rw [k] at n1
  have dot : e.1 * s.1 + e.2.1 * s.2.1 < 0 := by
    by_cases c : e.1 * s.1 + e.2.1 * s.2.1 < 0
    · exact c
    · have := Int.mul_nonneg (show 0 ≤ sv e P * f.2.2 - 0 by omega) (show 0 ≤ e.1 * s.1 + e.2.1 * s.2.1 by omega)
      omega
  have cr : e.1 * s.2.1 = e.2.1 * s.1 := by unfold tn at ht; omega
  have pr : 0 ≤ (e.1 * s.1) * (e.2.1 * s.2.1) := by
    have e0 : (e.1 * s.1) * (e.2.1 * s.2.1) = (e.1 * s.2.1) * (e.2.1 * s.1) := by simp only [Int.mul_comm, Int.mul_left_comm]
    rw [e0, ← cr]
    exact sq_nn _
  obtain ⟨o1, o2⟩ := neg_neg_of dot pr
  have a1 := par (e1 := e.1) (e2 := e.1) (s1 := s.1) (s2 := s.1) rfl o1
  have a2 := par (e1 := e.1) (e2 := e.2.1) (s1 := s.1) (s2 := s.2.1) cr o2
  have a3 := par (e1 := e.2.1) (e2 := e.1) (s1 := s.2.1) (s2 := s.1) cr.symm o1
  have a4 := par (e1 := e.2.1) (e2 := e.2.1) (s1 := s.2.1) (s2 := s.2.1) rfl o2
  have z1 : span2 e.1 e.2.1 * s.1 + span2 s.1 s.2.1 * e.1 = 0 := by
    unfold span2
    rw [Int.add_mul, Int.add_mul]
    omega
  have z2 : span2 e.1 e.2.1 * s.2.1 + span2 s.1 s.2.1 * e.2.1 = 0 := by
    unfold span2
    rw [Int.add_mul, Int.add_mul]
    omega
  refine ⟨z1, z2, ?_⟩
  have up := span2_pos he
  generalize span2 e.1 e.2.1 = u at z1 z2 up ⊢
  generalize span2 s.1 s.2.1 = v at z1 z2 ⊢
  have q : (u * s.2.2 + v * e.2.2) * f.2.2 = (u * s.1 + v * e.1) * f.1 + (u * s.2.1 + v * e.2.1) * f.2.1 - u * sv s f - v * sv e f := by
    unfold sv
    simp only [Int.mul_sub, Int.mul_add, Int.add_mul, Int.mul_comm, Int.mul_left_comm]
    omega
  rw [z1, z2, h1, Int.zero_mul, Int.zero_mul, Int.mul_zero] at q
  have q2 := Int.mul_pos up h2
  by_cases c : u * s.2.2 + v * e.2.2 < 0
  · exact c
  · have := Int.mul_nonneg (show 0 ≤ u * s.2.2 + v * e.2.2 by omega) (Int.le_of_lt fw)
    omega
structure Stuck (ss : List Sd) (j : Nat) (e : Sd) (P : P3) : Prop where
  at' : ss[j]? = some e
  pos : 0 < P.2.2
  ahead : inW (ss.take j) P
  out : 0 < sv e.2 P
  no : ∀ z : P3, sv e.2 z = 0 → 0 < z.2.2 → ¬ inW (ss.take j) z
theorem beside_on {e p f s : P3} (hN : 0 < e.1 * e.1 + e.2.1 * e.2.1) (hp : sv e p = 0) (hf : sv e f = 0) (pw : 0 < p.2.2) (fw : 0 < f.2.2) (ht : tn e s = 0) (hs : sv s f ≤ 0) : sv s p ≤ 0 := by
  refine sv_on (h := 1) (by decide) hN hp hf pw fw s ?_ hs
  rw [ht, Int.zero_mul, Int.mul_zero]
  exact Int.le_refl _
theorem neg_hand {x h : Int} : x * -h = -(x * h) := Int.mul_neg _ _
theorem end_some {ss : List Sd} {e f : P3} {h : Int} (hh : h * h = 1) (hN : 0 < e.1 * e.1 + e.2.1 * e.2.1) (hf : sv e f = 0) (fw : 0 < f.2.2) (no : ∀ z : P3, sv e z = 0 → 0 < z.2.2 → ¬ inW ss z) (bes : ∀ t ∈ ss, tn e t.2 = 0 → sv t.2 f ≤ 0) {r : Option Nat} (n : EndOk ss e h none) (o : EndOk ss e (-h) r) : False := by
  cases r with
  | none =>
    refine no f hf fw fun t ht => bes t ht ?_
    have a := n t ht
    have b := o t ht
    rw [neg_hand] at b
    have z : tn e t.2 * h = 0 := by omega
    rcases Int.mul_eq_zero.mp z with z | z
    · exact z
    · rw [z] at hh
      exact absurd hh (by decide)
  | some j =>
    obtain ⟨t, gt, hp, ha⟩ := o
    obtain ⟨sp, c1, c2⟩ := cr_ok (ne_hand hp)
    refine no _ c1 sp.pos fun u hu => ?_
    by_cases c : 0 < tn e u.2 * -h
    · exact ha u hu c
    · have a := n u hu
      rw [neg_hand] at c
      have z : tn e u.2 * h = 0 := by omega
      rcases Int.mul_eq_zero.mp z with z | z
      · exact beside_on hN c1 hf sp.pos fw z (bes u hu z)
      · rw [z] at hh
        exact absurd hh (by decide)
theorem three {ss : List Sd} {e f P : P3} {a b : Sd} {h : Int} (hh : h * h = 1) (hN : 0 < e.1 * e.1 + e.2.1 * e.2.1) (hf : sv e f = 0) (fw : 0 < f.2.2) (no : ∀ z : P3, sv e z = 0 → 0 < z.2.2 → ¬ inW ss z) (bes : ∀ t ∈ ss, tn e t.2 = 0 → sv t.2 f ≤ 0)
    (ma : a ∈ ss) (mb : b ∈ ss) (ha : 0 < tn e a.2 * h) (hb : 0 < tn e b.2 * -h) (ta : ∀ u ∈ ss, 0 < tn e u.2 * h → sv u.2 (pt3 (crL e a.2)) ≤ 0) (tb : ∀ u ∈ ss, 0 < tn e u.2 * -h → sv u.2 (pt3 (crL e b.2)) ≤ 0)
    (pw : 0 < P.2.2) (wP : inW ss P) (oP : 0 < sv e P) :
    0 < tn b.2 e * h ∧ 0 < tn e a.2 * h ∧ 0 < tn a.2 b.2 * h ∧ (tn b.2 e * a.2.2.2 + tn e a.2 * b.2.2.2 + tn a.2 b.2 * e.2.2) * h < 0 := by
  obtain ⟨sa, a1, a2⟩ := cr_ok (ne_hand ha)
  obtain ⟨sb, b1, b2⟩ := cr_ok (ne_hand hb)
  have hh' : -h * -h = 1 := by rw [Int.neg_mul_neg]; exact hh
  have outb : 0 < sv b.2 (pt3 (crL e a.2)) := by
    by_cases c : 0 < sv b.2 (pt3 (crL e a.2))
    · exact c
    · refine absurd ?_ (no _ a1 sa.pos)
      have d := dl_ge hh' hN b1 a1 sb.pos b2 (show sv b.2 (pt3 (crL e a.2)) ≤ 0 by omega) hb
      intro u hu
      by_cases c1 : 0 < tn e u.2 * h
      · exact ta u hu c1
      · by_cases c2 : 0 < tn e u.2 * -h
        · refine sv_on hh' hN a1 b1 sa.pos sb.pos u.2 ?_ (tb u hu c2)
          rw [dl_anti, Int.neg_mul] 
          have := Int.mul_nonneg d (Int.le_of_lt c2)
          rw [Int.neg_mul]
          omega
        · rw [neg_hand] at c2
          have z : tn e u.2 * h = 0 := by omega
          rcases Int.mul_eq_zero.mp z with z | z
          · exact beside_on hN a1 hf sa.pos fw z (bes u hu z)
          · rw [z] at hh
            exact absurd hh (by decide)
  have A : 0 < tn b.2 e * h := by
    rw [neg_hand] at hb
    have z : tn b.2 e = -tn e b.2 := by unfold tn; rw [Int.mul_comm b.2.1, Int.mul_comm b.2.2.1]; omega
    rw [z, Int.neg_mul]
    omega
  have S : ∀ z : P3, tn b.2 e * sv a.2 z + tn e a.2 * sv b.2 z + tn a.2 b.2 * sv e z = -((tn b.2 e * a.2.2.2 + tn e a.2 * b.2.2.2 + tn a.2 b.2 * e.2.2) * z.2.2) := fun z => by
    unfold tn sv
    simp only [Int.mul_sub, Int.sub_mul, Int.mul_add, Int.add_mul, Int.mul_comm, Int.mul_left_comm]
    omega
  have k1 := S (pt3 (crL e a.2))
  rw [a1, a2, Int.mul_zero, Int.mul_zero, Int.zero_add, Int.add_zero] at k1
  have k2 := S P
  generalize tn b.2 e * a.2.2.2 + tn e a.2 * b.2.2.2 + tn a.2 b.2 * e.2.2 = M at k1 k2 ⊢
  have m1 : M * h < 0 := by
    have p := Int.mul_pos ha outb
    have e1 : tn e a.2 * h * sv b.2 (pt3 (crL e a.2)) = -(M * h * (pt3 (crL e a.2)).2.2) := by
      rw [Int.mul_right_comm, k1, Int.neg_mul, Int.mul_right_comm]
    rw [e1] at p
    by_cases c : M * h < 0
    · exact c
    · have := Int.mul_nonneg (show 0 ≤ M * h by omega) (Int.le_of_lt sa.pos)
      omega
  refine ⟨A, ha, ?_, m1⟩
  have e2 : tn b.2 e * h * sv a.2 P + tn e a.2 * h * sv b.2 P + tn a.2 b.2 * h * sv e P = -(M * h * P.2.2) := by
    have z : (tn b.2 e * sv a.2 P + tn e a.2 * sv b.2 P + tn a.2 b.2 * sv e P) * h = -(M * P.2.2) * h := by rw [k2]
    rw [Int.neg_mul, Int.mul_right_comm M] at z
    rw [← z, Int.add_mul, Int.add_mul, Int.mul_right_comm, Int.mul_right_comm (tn e a.2), Int.mul_right_comm (tn a.2 b.2)]
  have x1 := Int.mul_nonneg (Int.le_of_lt A) (show 0 ≤ -sv a.2 P by have := wP a ma; omega)
  have x2 := Int.mul_nonneg (Int.le_of_lt ha) (show 0 ≤ -sv b.2 P by have := wP b mb; omega)
  have x3 := Int.mul_pos (show 0 < -(M * h) by omega) pw
  rw [Int.mul_neg] at x1 x2
  rw [Int.neg_mul] at x3
  by_cases c : 0 < tn a.2 b.2 * h
  · exact c
  · have := Int.mul_nonneg (show 0 ≤ -(tn a.2 b.2 * h) by omega) (Int.le_of_lt oP)
    rw [Int.neg_mul] at this
    omega
theorem absI_hand {x h : Int} (hh : h = 1 ∨ h = -1) (hx : 0 < x * h) : absI x = x * h := by
  unfold absI
  rcases hh with rfl | rfl
  · rw [if_neg (by omega)]
    omega
  · rw [if_pos (by omega)]
    omega
theorem turns_zero (a b e : P3) : tn b e * a.1 + tn e a * b.1 + tn a b * e.1 = 0 ∧ tn b e * a.2.1 + tn e a * b.2.1 + tn a b * e.2.1 = 0 := by
  unfold tn
  constructor
  · simp only [Int.sub_mul, Int.mul_sub, Int.mul_comm, Int.mul_left_comm]
    omega
  · simp only [Int.sub_mul, Int.mul_sub, Int.mul_comm, Int.mul_left_comm]
    omega
def Clash (ss : List Sd) (cs : List (Int × Int)) : Prop :=
  (∃ (i j : Nat) (u v : Int) (s t : Sd), cs = [((i : Int), u), ((j : Int), v)] ∧ i < j ∧ ss[i]? = some s ∧ ss[j]? = some t ∧ 0 < u ∧ 0 < v ∧ u ≤ 10 ^ 19 ∧ v ≤ 10 ^ 19 ∧
    u * s.2.1 + v * t.2.1 = 0 ∧ u * s.2.2.1 + v * t.2.2.1 = 0 ∧ u * s.2.2.2 + v * t.2.2.2 < 0) ∨
  ∃ (i j k : Nat) (u v x : Int) (s t r : Sd), cs = [((i : Int), u), ((j : Int), v), ((k : Int), x)] ∧ i < j ∧ j < k ∧ ss[i]? = some s ∧ ss[j]? = some t ∧ ss[k]? = some r ∧ 0 < u ∧ 0 < v ∧ 0 < x ∧ u ≤ 10 ^ 19 ∧ v ≤ 10 ^ 19 ∧ x ≤ 10 ^ 19 ∧
    u * s.2.1 + v * t.2.1 + x * r.2.1 = 0 ∧ u * s.2.2.1 + v * t.2.2.1 + x * r.2.2.1 = 0 ∧ u * s.2.2.2 + v * t.2.2.2 + x * r.2.2.2 < 0
theorem z_of {x g : Int} (hg : 0 < g) (h : x * g = 0) : x = 0 := by
  rcases Int.mul_eq_zero.mp h with z | z
  · exact z
  · omega
theorem n_of {x g : Int} (hg : 0 < g) (h : x * g < 0) : x < 0 := by
  by_cases c : x < 0
  · exact c
  · have := Int.mul_nonneg (show 0 ≤ x by omega) (Int.le_of_lt hg)
    omega
theorem gcd_ok {ws : List Int} {n : Int} (h : n ∈ ws) (h0 : 0 < n) (hb : n ≤ 10 ^ 30) : 0 < gcdL ws ∧ (gcdL ws : Int) < 10 ^ 600 := by
  refine ⟨gcdL_pos h (by omega), ?_⟩
  have h1 := gcdL_le h (show n ≠ 0 by omega)
  exact Int.lt_of_le_of_lt (show (gcdL ws : Int) ≤ 10 ^ 30 by omega) (by decide +kernel)
theorem low_pos {ws : List Int} {n : Int} (h : n ∈ ws) (h0 : 0 < n) : 0 < n / (gcdL ws : Int) ∧ n / (gcdL ws : Int) ≤ n := by
  have gp := gcdL_pos h (show n ≠ 0 by omega)
  have e := lowL_mul h
  have p : 0 < n / (gcdL ws : Int) := by
    by_cases c : 0 < n / (gcdL ws : Int)
    · exact c
    · have := Int.mul_nonneg (show 0 ≤ -(n / (gcdL ws : Int)) by omega) (show (0 : Int) ≤ (gcdL ws : Int) by omega)
      rw [Int.neg_mul] at this
      omega
  refine ⟨p, ?_⟩
  have := Int.mul_le_mul_of_nonneg_left (show (1 : Int) ≤ (gcdL ws : Int) by omega) (Int.le_of_lt p)
  omega
theorem clash_two {ss : List Sd} {i j : Nat} {s t : Sd} {U V : Int} (hij : i < j) (gs : ss[i]? = some s) (gt : ss[j]? = some t) (hU : 0 < U) (hV : 0 < V) (bU : U ≤ 10 ^ 19) (bV : V ≤ 10 ^ 19)
    (z1 : U * s.2.1 + V * t.2.1 = 0) (z2 : U * s.2.2.1 + V * t.2.2.1 = 0) (z3 : U * s.2.2.2 + V * t.2.2.2 < 0) : Clash ss ([(i : Int), (j : Int)].zip (lowL [U, V])) := by
  have mU : U ∈ [U, V] := by simp
  have mV : V ∈ [U, V] := by simp
  have gp : (0 : Int) < (gcdL [U, V] : Int) := by have := gcdL_pos mU (show U ≠ 0 by omega); omega
  have pU := low_pos mU hU
  have pV := low_pos mV hV
  have eU := lowL_mul mU
  have eV := lowL_mul mV
  have sum : ∀ a b : Int, (U / (gcdL [U, V] : Int) * a + V / (gcdL [U, V] : Int) * b) * (gcdL [U, V] : Int) = U * a + V * b := fun a b => by
    rw [Int.add_mul, Int.mul_right_comm, eU, Int.mul_right_comm, eV]
  refine .inl ⟨i, j, U / (gcdL [U, V] : Int), V / (gcdL [U, V] : Int), s, t, rfl, hij, gs, gt, pU.1, pV.1, Int.le_trans pU.2 bU, Int.le_trans pV.2 bV, ?_, ?_, ?_⟩
  · exact z_of gp (by rw [sum]; exact z1)
  · exact z_of gp (by rw [sum]; exact z2)
  · exact n_of gp (by rw [sum]; exact z3)
theorem clash_three {ss : List Sd} {i j k : Nat} {s t r : Sd} {U V X : Int} (hij : i < j) (hjk : j < k) (gs : ss[i]? = some s) (gt : ss[j]? = some t) (gr : ss[k]? = some r) (hU : 0 < U) (hV : 0 < V) (hX : 0 < X) (bU : U ≤ 10 ^ 19) (bV : V ≤ 10 ^ 19) (bX : X ≤ 10 ^ 19)
    (z1 : U * s.2.1 + V * t.2.1 + X * r.2.1 = 0) (z2 : U * s.2.2.1 + V * t.2.2.1 + X * r.2.2.1 = 0) (z3 : U * s.2.2.2 + V * t.2.2.2 + X * r.2.2.2 < 0) : Clash ss ([(i : Int), (j : Int), (k : Int)].zip (lowL [U, V, X])) := by
  have mU : U ∈ [U, V, X] := by simp
  have mV : V ∈ [U, V, X] := by simp
  have mX : X ∈ [U, V, X] := by simp
  have gp : (0 : Int) < (gcdL [U, V, X] : Int) := by have := gcdL_pos mU (show U ≠ 0 by omega); omega
  have pU := low_pos mU hU
  have pV := low_pos mV hV
  have pX := low_pos mX hX
  have eU := lowL_mul mU
  have eV := lowL_mul mV
  have eX := lowL_mul mX
  have sum : ∀ a b c : Int, (U / (gcdL [U, V, X] : Int) * a + V / (gcdL [U, V, X] : Int) * b + X / (gcdL [U, V, X] : Int) * c) * (gcdL [U, V, X] : Int) = U * a + V * b + X * c := fun a b c => by
    rw [Int.add_mul, Int.add_mul, Int.mul_right_comm, eU, Int.mul_right_comm, eV, Int.mul_right_comm, eX]
  refine .inr ⟨i, j, k, U / (gcdL [U, V, X] : Int), V / (gcdL [U, V, X] : Int), X / (gcdL [U, V, X] : Int), s, t, r, rfl, hij, hjk, gs, gt, gr, pU.1, pV.1, pX.1, Int.le_trans pU.2 bU, Int.le_trans pV.2 bV, Int.le_trans pX.2 bX, ?_, ?_, ?_⟩
  · exact z_of gp (by rw [sum]; exact z1)
  · exact z_of gp (by rw [sum]; exact z2)
  · exact n_of gp (by rw [sum]; exact z3)
def goB (ss : List Sd) : List (Int × Int) → Int → P3 → Bool
  | [], _, T => decide ([T.1, T.2.1] = [0, 0]) && decide (T.2.2 < 0)
  | c :: cs, last, T => if last < c.1 ∧ c.1 < ss.length ∧ 1 ≤ c.2 then
      match ss[c.1.toNat]? with
      | some t => goB ss cs c.1 (T.1 + c.2 * t.2.1, T.2.1 + c.2 * t.2.2.1, T.2.2 + c.2 * t.2.2.2)
      | none => false
    else false
def clashB (ss : List Sd) (cs : List (Int × Int)) : Bool := decide (2 ≤ cs.length) && (decide (cs.length ≤ 3) && goB ss cs (-1) (0, 0, 0))
theorem goB_step {ss : List Sd} {n w last : Int} {t : Sd} {T : P3} {cs : List (Int × Int)} (h1 : last < n) (h2 : n < ss.length) (h3 : 1 ≤ w) (g : ss[n.toNat]? = some t) : goB ss ((n, w) :: cs) last T = goB ss cs n (T.1 + w * t.2.1, T.2.1 + w * t.2.2.1, T.2.2 + w * t.2.2.2) := by
  rw [goB, if_pos ⟨h1, h2, h3⟩]
  show (match ss[n.toNat]? with | some t => goB ss cs n (T.1 + w * t.2.1, T.2.1 + w * t.2.2.1, T.2.2 + w * t.2.2.2) | none => false) = _
  rw [g]
theorem goB_no {ss : List Sd} {n w last : Int} {T : P3} {cs : List (Int × Int)} (h : ¬ (last < n ∧ n < ss.length ∧ 1 ≤ w)) : goB ss ((n, w) :: cs) last T = false := by
  rw [goB, if_neg h]
theorem Clash.b {ss : List Sd} {cs : List (Int × Int)} (h : Clash ss cs) : clashB ss cs = true := by
  rcases h with ⟨i, j, u, v, s, t, rfl, hij, gs, gt, hu, hv, _, _, z1, z2, z3⟩ | ⟨i, j, k, u, v, x, s, t, r, rfl, hij, hjk, gs, gt, gr, hu, hv, hx, _, _, _, z1, z2, z3⟩
  · have hi := (List.getElem?_eq_some_iff.mp gs).1
    have hj := (List.getElem?_eq_some_iff.mp gt).1
    unfold clashB
    rw [goB_step (t := s) (by omega) (by omega) (by omega) (by rw [Int.toNat_natCast]; exact gs), goB_step (t := t) (by omega) (by omega) (by omega) (by rw [Int.toNat_natCast]; exact gt), goB]
    show (decide (2 ≤ 2) && (decide (2 ≤ 3) && (decide ([0 + u * s.2.1 + v * t.2.1, 0 + u * s.2.2.1 + v * t.2.2.1] = [0, 0]) && decide (0 + u * s.2.2.2 + v * t.2.2.2 < 0)))) = true
    rw [Int.zero_add, Int.zero_add, Int.zero_add, z1, z2, decide_eq_true z3]
    rfl
  · have hi := (List.getElem?_eq_some_iff.mp gs).1
    have hj := (List.getElem?_eq_some_iff.mp gt).1
    have hk := (List.getElem?_eq_some_iff.mp gr).1
    unfold clashB
    rw [goB_step (t := s) (by omega) (by omega) (by omega) (by rw [Int.toNat_natCast]; exact gs), goB_step (t := t) (by omega) (by omega) (by omega) (by rw [Int.toNat_natCast]; exact gt), goB_step (t := r) (by omega) (by omega) (by omega) (by rw [Int.toNat_natCast]; exact gr), goB]
    show (decide (2 ≤ 3) && (decide (3 ≤ 3) && (decide ([0 + u * s.2.1 + v * t.2.1 + x * r.2.1, 0 + u * s.2.2.1 + v * t.2.2.1 + x * r.2.2.1] = [0, 0]) && decide (0 + u * s.2.2.2 + v * t.2.2.2 + x * r.2.2.2 < 0)))) = true
    rw [Int.zero_add, Int.zero_add, Int.zero_add, z1, z2, decide_eq_true z3]
    rfl
theorem Clash.range {ss : List Sd} {cs : List (Int × Int)} (h : Clash ss cs) : (cs.length = 2 ∨ cs.length = 3) ∧ ∀ c ∈ cs, 0 ≤ c.1 ∧ c.1 < ss.length := by
  rcases h with ⟨i, j, u, v, s, t, rfl, _, gs, gt, _⟩ | ⟨i, j, k, u, v, x, s, t, r, rfl, _, _, gs, gt, gr, _⟩
  · have h1 := (List.getElem?_eq_some_iff.mp gs).1
    have h2 := (List.getElem?_eq_some_iff.mp gt).1
    refine ⟨.inl rfl, fun c hc => ?_⟩
    simp only [List.mem_cons, List.not_mem_nil, or_false] at hc
    rcases hc with rfl | rfl
    · exact ⟨by show (0 : Int) ≤ (i : Int); omega, by show (i : Int) < _; omega⟩
    · exact ⟨by show (0 : Int) ≤ (j : Int); omega, by show (j : Int) < _; omega⟩
  · have h1 := (List.getElem?_eq_some_iff.mp gs).1
    have h2 := (List.getElem?_eq_some_iff.mp gt).1
    have h3 := (List.getElem?_eq_some_iff.mp gr).1
    refine ⟨.inr rfl, fun c hc => ?_⟩
    simp only [List.mem_cons, List.not_mem_nil, or_false] at hc
    rcases hc with rfl | rfl | rfl
    · exact ⟨by show (0 : Int) ≤ (i : Int); omega, by show (i : Int) < _; omega⟩
    · exact ⟨by show (0 : Int) ≤ (j : Int); omega, by show (j : Int) < _; omega⟩
    · exact ⟨by show (0 : Int) ≤ (k : Int); omega, by show (k : Int) < _; omega⟩
def Cand (ss : List Sd) (P : P3) : Prop := P = (0, 0, 1) ∨ (∃ t ∈ ss, P = pt3 (ftL t.2)) ∨ ∃ t ∈ ss, ∃ u ∈ ss, tn t.2 u.2 ≠ 0 ∧ P = pt3 (crL t.2 u.2)
end Sea

namespace L2
open PySem PySem.Spec PyProof.Rows PySem.W
section
variable {X : Cx}
theorem call_sortedI : CallR X (.builtin "sorted") (fun xs H Q => ∃ (l : Addr) (ns : List Int), xs = [.ref l] ∧ SqL X.K H l (ns.map V.int) ∧ ns.length < 64 ∧
    ∀ (p : Addr) (ms : List Int), H p = none → ms.Perm ns → ms.Pairwise (· ≤ ·) → Q (.ref p) (upd H p (.lst (ms.map V.int)))) := by
  intro pins s σ H xs us Q I r h
  obtain ⟨l, ns, rfl, hq, h64, q⟩ := h
  obtain ⟨u, rfl, ru⟩ := Vals.one r
  cases ru
  obtain ⟨its, rv, pl, hz⟩ := I.list hq
  have hn := rv.length
  rw [List.length_map] at hn
  refine sorted_ints (ns := ns) pl.isList (intsAre_of rv) (by omega) fun out ms a1 a2 a3 => ?_
  obtain ⟨e, at'⟩ := sortedAll_at s.heap its out
  have fr : H (s.heap.objs.size + 1) = none := I.hok.fresh (Nat.le_succ _)
  refine ⟨.ref (s.heap.objs.size + 1), _, I.laid (t' := s.toks) (a := s.heap.objs.size + 1) (o := .lst (ms.map V.int)) (fun b ob q => sortedAll_old q) (Nat.le_succ _) ?_, rfl, q _ ms fr a2 a3⟩
  refine ⟨?_, out.toList, e, vals_ints a1, by simpa using at'⟩
  rw [List.length_map, a2.length_eq]
  exact Nat.le_trans (Nat.le_of_lt h64) (by rw [sizeLine_eq]; decide)
end
theorem ints_at {ns : List Int} {i : Nat} {k : Int} (e : k = i) (h : i < ns.length) : ∃ n, ns[i]? = some n ∧ atI (ns.map V.int) k = some (.int n) := by
  refine ⟨ns[i], List.getElem?_eq_getElem h, ?_⟩
  rw [e]
  exact atI_nat (by rw [List.getElem?_map, List.getElem?_eq_getElem h] <;> rfl)
theorem two_sorted {a b : Int} {ms : List Int} (h : ms.Perm [a, b]) (s : ms.Pairwise (· ≤ ·)) : (ms = [a, b] ∧ a ≤ b) ∨ (ms = [b, a] ∧ b ≤ a) := by
  match ms, h, s, h.length_eq with
  | [c, d], h, s, _ =>
    have le : c ≤ d := by simpa using s
    have mc : c ∈ [a, b] := h.mem_iff.mp (List.mem_cons_self ..)
    rw [List.mem_cons, List.mem_singleton] at mc
    rcases mc with rfl | rfl
    · have z := List.perm_cons c |>.mp h
      have e := List.perm_singleton.mp z
      cases e
      exact .inl ⟨rfl, le⟩
    · have z := List.perm_cons c |>.mp (h.trans (List.Perm.swap c a []))
      have e := List.perm_singleton.mp z
      cases e
      exact .inr ⟨rfl, le⟩
theorem kit_list_list (K : PySem.W.Frag) : PySem.W.kitOne K (.type "list") (.type "list") = some true := rfl
def PrAt (H : Hp) (cs : List Pr) : Prop := ∀ t ∈ cs, H t.1 = some (.tup [.int t.2.1, .int t.2.2])
theorem PrAt.same {H H' : Hp} {cs : List Pr} (h : PrAt H cs) (s : Same H H') : PrAt H' cs := fun t ht => s _ _ (h t ht)
end L2

namespace Sea
open PySem L2
structure EdgeWay (ss : List Sd) (x y : Int) : Prop where
  low : Nat.gcd x.natAbs y.natAbs = 1
  way : ∀ t ∈ ss, t.2.1 * x + t.2.2.1 * y ≤ 0
  edge : ∃ t ∈ ss, (t.2.1 ≠ 0 ∨ t.2.2.1 ≠ 0) ∧ t.2.1 * x + t.2.2.1 * y = 0
end Sea

namespace Sea
open PySem L2
def dt (s g : P3) : Int := s.1 * g.1 + s.2.1 * g.2.1
structure Bound (ss : List Sd) (g : P3) : Prop where
  nz : ∀ t ∈ ss, t.2.1 ≠ 0 ∨ t.2.2.1 ≠ 0
  gz : g.1 ≠ 0 ∨ g.2.1 ≠ 0
  ways : ∀ t ∈ ss, ∀ h : Int, (h = 1 ∨ h = -1) → (∀ s ∈ ss, tn t.2 s.2 * h ≤ 0) → tn t.2 g * h ≤ 0
  lead : ¬ ∀ s ∈ ss, dt s.2 g ≤ 0
  one : ∀ t ∈ ss, tn t.2 g = 0 → 0 < dt t.2 g → ∀ P : P3, 0 < P.2.2 → sv t.2 P = 0 → ¬ inW ss P
end Sea

namespace L2
open PySem PySem.Spec PyProof.Rows PySem.W
section
variable {prog : Program} {w : World} {A : Around} {E : Value → Shared → Prop} {s : Shared}
end
section
variable {X : Cx}
end
end L2

namespace Sea
open PySem L2
end Sea

namespace L2
open PySem PySem.Spec PyProof.Rows
section
variable {prog : Program} {w : World} {A : Around} {E : Value → Shared → Prop}
theorem draw_rest {I l : Addr} {vs : Array Value} (lI : l ≠ I) : ∀ (m k : Nat) (z : Shared) (R : List Value → Shared → Prop), z.heap.IsListIter I l k → z.heap.IsList l vs → k + m = vs.size →
    (∀ g, g.IsListIter I l vs.size → Heap.SameBut I z.heap g → R (vs.toList.drop k) { z with heap := g }) → wpAny (model prog w) A (draw (.ref I) m) R E z
  | 0, k, z, R, at0, _, e, q => by
    have ek : k = vs.size := by omega
    subst ek
    refine wpAny_pure ?_
    have d : vs.toList.drop vs.size = [] := List.drop_of_length_le (by simp)
    exact d ▸ q z.heap at0 (Heap.SameBut.refl ..)
  | m + 1, k, z, R, at0, hl, e, q => by
    have kl : k < vs.size := by omega
    refine wpAny_bind (wpAny_pyNext_list_item at0 hl (x := vs[k]) (Array.getElem?_eq_getElem kl) fun g1 at1 b1 => wpAny_bind (wpAny_holding (draw_rest lI m (k + 1) _ _ at1 (hl.extBut b1.extBut lI) (by omega) fun g2 at2 b2 => wpAny_pure ?_)))
    have d : vs.toList.drop k = vs[k] :: vs.toList.drop (k + 1) := List.drop_eq_getElem_cons (by simpa using kl)
    exact d ▸ q g2 at2 (b1.trans b2)
theorem unpack_list {z : Shared} {l : Addr} {vs : Array Value} {R : List Value → Shared → Prop} (calm : A.handled = none) (hl : z.heap.IsList l vs)
    (q : ∀ g, Heap.ExtBut z.heap.objs.size z.heap g → R vs.toList { z with heap := g }) : wpAny (model prog w) A (unpackItems (.ref l) vs.size none) R E z := by
  have old : l ≠ z.heap.objs.size := by
    obtain ⟨o, ho, _⟩ := hl
    exact Nat.ne_of_lt (Heap.lt_size ho)
  unfold unpackItems notIterableAtAll
  refine wpAny_bind (wpAny_bind (wpAny_specialOf hl.typeIs F.slot_list_iter.lookup (wpAny_pure ?_)))
  rw [if_neg (by simp)]
  refine wpAny_bind (wpAny_holding (wpAny_pyIter_list hl (wpAny_bind (wpAny_holding (draw_rest old vs.size 0 _ _ ⟨_, Heap.get?_push_size _ rfl, rfl, rfl⟩ (hl.push _) (Nat.zero_add _) fun g1 at1 b1 => ?_)))))
  rw [List.drop_zero, if_neg (by simp)]
  refine wpAny_bind (wpAny_holding (wpAny_pyNext_list_end calm at1 ((hl.push _).extBut b1.extBut old) (by simp) fun g2 b2 => ?_))
  rw [if_neg (by simp)]
  exact wpAny_pure (q g2 fun b o hb e => b2 b o hb (b1.extBut b o hb (Heap.get?_push_of_some _ e)))
end
section
variable {X : Cx} {pos : Pos}
def gTupL (K : PySem.W.Frag) (n : Nat) (t : TGs) : TG := fun v σ H Q => ∃ a xs, v = .ref a ∧ SqL K H a xs ∧ xs.length = n ∧ t xs σ H Q
theorem pg_tupL {es : List Expr} {k : Nat} {t : TGs} {n : Nat} (hc : X.calm = true) (h : PGs X es t)
    (hn : (assignEach es X.env).length = n := by rfl) (hst : (assignEach es X.env).findIdx? (·.1) = none := by rfl) : PG X (.Tuple es k pos) (gTupL X.K n t) := by
  intro pins s σ H v u Q I r hw
  obtain ⟨a, xs, e1, hq, hl, hw⟩ := hw
  subst e1
  cases r
  obtain ⟨its, rv, ht, hz⟩ := I.list hq
  rw [arm_assign_Tuple]
  refine wpAny_bind (wpAny_standAt ?_)
  unfold unpack
  have hsz : (assignEach es X.env).length = its.toArray.size := by simp [hn, ← hl, rv.length]
  rw [hsz, hst]
  refine wpAny_bind (wpAny_holding (unpack_list (I.ok.hd hc) ht.isList fun h' hx => ?_))
  have I1 : Inv X pins σ H { s with heap := h' } := I.kept (t' := s.toks) fun b o e => hx b o (Nat.ne_of_lt (Heap.lt_size e)) e
  exact h pins _ σ H xs _ Q I1 (by simpa using rv) hw
theorem call_minT (hc : X.calm = true) : CallR X (.builtin "min") (fun xs H Q => ∃ (p : Addr) (i j : Int), xs = [.ref p] ∧ SqT X.K H p [.int i, .int j] ∧ Q (.int (if j < i then j else i)) H) := by
  intro pins s σ H xs us Q I r h
  obtain ⟨p, i, j, rfl, hq, q⟩ := h
  obtain ⟨u, rfl, r1⟩ := vals1 r
  cases r1
  obtain ⟨its, rv, pt, hz⟩ := I.tuple hq
  obtain ⟨u1, u2, rfl, ⟨t, rfl⟩, ⟨t', rfl⟩⟩ := vals2 rv
  have hT : s.heap.IsTuple p (intItems #[(i, t), (j, t')]) := by
    have z : s.heap.IsTuple p [Value.int i t, Value.int j t'].toArray := pt
    simpa [intItems] using z
  have hlt : p < s.heap.objs.size := by obtain ⟨o, ho, _⟩ := hT; exact Heap.lt_size ho
  refine call_min_walk (wpAny_pyIter_tuple hT ?_)
  refine ⟨_, [_, p], [_], _, _, _, _, rfl, Walks.tuple (A := X.A.in1) (I.ok.hd hc) _ p (Nat.ne_of_lt hlt) (intItems #[(i, t), (j, t')]),
    ⟨⟨_, Heap.get?_push_size _ rfl, rfl, rfl⟩, hT.push _⟩, fun c hc => ?_, by simp [intItems], CmpOf.ints_lt (numAt #[(i, t), (j, t')]) (fun _ _ => intItems_at), fun v h' tk hP hk => ?_⟩
  · show c < (s.heap.push _).objs.size
    rw [Heap.size_push]
    rcases List.mem_cons.mp hc with rfl | hc
    · exact Nat.lt_succ_self _
    · rcases List.mem_cons.mp hc with rfl | hc
      · exact Nat.lt_succ_of_lt hlt
      · cases hc
  · have hold : ∀ c o, s.heap.get? c = some o → h'.get? c = some o := fun c o e => by
      refine hk c o (fun hm => ?_) (Heap.get?_push_of_some _ e)
      rcases List.mem_cons.mp hm with e1 | hm
      · have := Heap.lt_size e
        rw [e1] at this
        exact Nat.lt_irrefl _ this
      · cases hm
    have hP' : (intItems #[(i, t), (j, t')])[argBest (fun a b => decide (numAt #[(i, t), (j, t')] a < numAt #[(i, t), (j, t')] b)) 1]? = some v := by
      have hsz2 : (intItems #[(i, t), (j, t')]).size - 1 = 1 := by simp [intItems]
      rw [← hsz2]
      exact hP
    refine ⟨.int (if j < i then j else i), H, I.kept (t' := tk) hold, ?_, q⟩
    by_cases hba : j < i
    · have e : argBest (fun a b => decide (numAt #[(i, t), (j, t')] a < numAt #[(i, t), (j, t')] b)) 1 = 1 := by simp [argBest, numAt, hba]
      rw [e] at hP'
      rw [if_pos hba]
      exact ⟨t', by simpa [intItems] using hP'.symm⟩
    · have e : argBest (fun a b => decide (numAt #[(i, t), (j, t')] a < numAt #[(i, t), (j, t')] b)) 1 = 0 := by simp [argBest, numAt, hba]
      rw [e] at hP'
      rw [if_neg hba]
      exact ⟨t, by simpa [intItems] using hP'.symm⟩
def rEqV2 (K : PySem.W.Frag) : R2 := fun x y H Q => ∃ (a b p1 p2 q1 q2 : Addr) (x1 x2 y1 y2 : List Int), x = .ref a ∧ y = .ref b ∧ SqL K H a [.ref p1, .ref p2] ∧ SqL K H b [.ref q1, .ref q2] ∧
  H p1 = some (.tup (x1.map V.int)) ∧ H p2 = some (.tup (x2.map V.int)) ∧ H q1 = some (.tup (y1.map V.int)) ∧ H q2 = some (.tup (y2.map V.int)) ∧ Q (.bl (decide (x1 = y1) && decide (x2 = y2))) H
theorem op_eqV2 (hu : X.A.units + 64 < cLine) : OpR X (compareOp .Eq) (rEqV2 X.K) := by
  intro pins s σ H x y v u Q I rx ry h
  obtain ⟨a, b, p1, p2, q1, q2, x1, x2, y1, y2, rfl, rfl, h1, h2, e1, e2, f1, f2, q⟩ := h
  cases rx
  cases ry
  obtain ⟨us, r1, k1, _⟩ := I.list h1
  obtain ⟨ws, r2, k2, _⟩ := I.list h2
  obtain ⟨u1, u2, rfl, g1, g2⟩ := vals2 r1
  obtain ⟨w1, w2, rfl, g3, g4⟩ := vals2 r2
  cases g1
  cases g2
  cases g3
  cases g4
  have z1 := eqAt_tups I (A := X.A.in1) (show X.A.units + 1 < cLine by omega) e1 f1
  have z2 := eqAt_tups I (A := X.A.in1) (show X.A.units + 1 < cLine by omega) e2 f2
  refine SeqAt.eq_listAt (e := fun j => if j = 0 then decide (x1 = y1) else decide (x2 = y2)) k1.isList k2.isList rfl (show X.A.units < cLine by omega) (fun j g _ => ?_) ?_
  · match j, g with
    | 0, _ => exact z1
    | 1, _ => exact z2
    | j + 2, g => exact absurd g (by simp)
  · refine ⟨.bl (decide (x1 = y1) && decide (x2 = y2)), H, I, ?_, q⟩
    show Value.bool ((List.range 2).all _) = _
    rw [show List.range 2 = [0, 1] from rfl, List.all_cons, List.all_cons, List.all_nil, Bool.and_true]
    rfl
def rEqLL (K : PySem.W.Frag) : R2 := fun x y H Q => ∃ (a b l1 l2 m1 m2 : Addr) (rs ts : List Addr), x = .ref a ∧ y = .ref b ∧ SqL K H a [.ref l1, .ref l2] ∧ SqL K H b [.ref m1, .ref m2] ∧
  SqL K H l1 (rs.map V.ref) ∧ SqL K H m1 (rs.map V.ref) ∧ SqL K H l2 (ts.map V.ref) ∧ SqL K H m2 (ts.map V.ref) ∧ l1 ≠ m1 ∧ l2 ≠ m2 ∧ Q (.bl true) H
theorem op_eqLL (hu : X.A.units + 64 < cLine) : OpR X (compareOp .Eq) (rEqLL X.K) := by
  intro pins s σ H x y v u Q I rx ry h
  obtain ⟨a, b, l1, l2, m1, m2, rs, ts, rfl, rfl, h1, h2, e1, f1, e2, f2, n1, n2, q⟩ := h
  cases rx
  cases ry
  obtain ⟨us, r1, k1, _⟩ := I.list h1
  obtain ⟨ws, r2, k2, _⟩ := I.list h2
  obtain ⟨u1, u2, rfl, g1, g2⟩ := vals2 r1
  obtain ⟨w1, w2, rfl, g3, g4⟩ := vals2 r2
  cases g1
  cases g2
  cases g3
  cases g4
  have one : ∀ {l m : Addr} {rs : List Addr}, SqL X.K H l (rs.map V.ref) → SqL X.K H m (rs.map V.ref) → l ≠ m → SeqAt.EqAt X.A.in1 s (.ref l) (.ref m) true := fun {l m rs} e f n => by
    obtain ⟨us, r1, k1, _⟩ := I.list e
    obtain ⟨ws, r2, k2, _⟩ := I.list f
    have e1 := refs_of r1
    have e2 := refs_of r2
    subst e1 e2
    have z := SeqAt.RcAt.lists (A := X.A.in1) (e := fun _ => true) k1.isList k2.isList rfl (show X.A.units + 1 < cLine by omega) (fun j _ _ => SeqAt.EqAt.same _)
    rw [range_all_tt] at z
    exact SeqAt.EqAt.of_refs n z
  refine SeqAt.eq_listAt (e := fun _ => true) k1.isList k2.isList rfl (show X.A.units < cLine by omega) (fun j g _ => ?_) ?_
  · match j, g with
    | 0, _ => exact one e1 f1 n1
    | 1, _ => exact one e2 f2 n2
    | j + 2, g => exact absurd g (by simp)
  · rw [range_all_tt]
    exact ⟨.bl true, H, I, rfl, q⟩
end
end L2

namespace Sea
open PySem L2
def awB (N : Nat) : List (Int × Int) → Int → Bool
  | [], _ => true
  | c :: cs, least => if least ≤ c.1 ∧ c.1 < N ∧ 1 ≤ c.2 then awB N cs (c.1 + 1) else false
def sideAt (ss : List Sd) (f : Sd → Int) (n : Int) : Int := match ss[n.toNat]? with
  | some t => f t
  | none => 0
def sumF (ss : List Sd) (f : Sd → Int) : List (Int × Int) → Int → Int
  | [], T => T
  | c :: cs, T => sumF ss f cs (T + c.2 * sideAt ss f c.1)
def fAt (k : Int) (t : Sd) : Int := if k = 0 then t.2.1 else if k = 1 then t.2.2.1 else t.2.2.2
theorem goB_parts {ss : List Sd} : ∀ (cs : List (Int × Int)) (last : Int) (T : P3), -1 ≤ last → goB ss cs last T = (awB ss.length cs (last + 1) && (decide ([sumF ss (fAt 0) cs T.1, sumF ss (fAt 1) cs T.2.1] = [0, 0]) && decide (sumF ss (fAt 2) cs T.2.2 < 0)))
  | [], _, _, _ => rfl
  | (n, v) :: cs, last, T, hl => by
    by_cases h : last < n ∧ n < ss.length ∧ 1 ≤ v
    · obtain ⟨h1, h2, h3⟩ := h
      have hn : n.toNat < ss.length := by omega
      have g : ss[n.toNat]? = some ss[n.toNat] := List.getElem?_eq_getElem hn
      rw [goB_step h1 h2 h3 g, goB_parts cs n _ (by omega)]
      have e : awB ss.length ((n, v) :: cs) (last + 1) = awB ss.length cs (n + 1) := by
        rw [awB, if_pos ⟨show last + 1 ≤ n by omega, h2, h3⟩]
      have s : ∀ f : Sd → Int, sideAt ss f n = f ss[n.toNat] := fun f => by
        unfold sideAt
        rw [g]
      rw [e, sumF, sumF, sumF, s, s, s]
      rfl
    · rw [goB_no h, awB, if_neg (fun z => h ⟨by have : last + 1 ≤ n := z.1; omega, z.2⟩)]
      rfl
theorem awB_range {N : Nat} : ∀ {cs : List (Int × Int)} {least : Int}, 0 ≤ least → awB N cs least = true → ∀ c ∈ cs, 0 ≤ c.1 ∧ c.1 < N
  | [], _, _, _, _, h => nomatch h
  | a :: cs, least, hl, h, c, hc => by
    rw [awB] at h
    split at h
    · rename_i hh
      rcases List.mem_cons.mp hc with e | e
      · rw [e]
        exact ⟨by have := hh.1; omega, hh.2.1⟩
      · exact awB_range (least := a.1 + 1) (by have := hh.1; omega) h c e
    · cases h
theorem part_one {t b x y : Int} (hb : b = 1) (p : PartOf t b x y) : x = t ∧ y = 1 := by
  subst hb
  have h1 := p.pos
  have h2 := p.yle
  have hy : y = 1 := by
    have : (1 : Int).natAbs = 1 := rfl
    omega
  have h3 := p.eq
  rw [hy] at h3
  exact ⟨by omega, hy⟩
abbrev Wt := Addr × Addr × Int × Int
def wtRefs (ws : List Wt) : List V := ws.map fun t => V.ref t.1
def WtAt (H : Hp) (ws : List Wt) : Prop := ∀ t ∈ ws, H t.1 = some (.tup [.int t.2.2.1, .ref t.2.1]) ∧ H t.2.1 = some (.tup [.int t.2.2.2, .int 1])
theorem WtAt.same {H H' : Hp} {ws : List Wt} (h : WtAt H ws) (s : Same H H') : WtAt H' ws := fun t ht => ⟨s _ _ (h t ht).1, s _ _ (h t ht).2⟩
theorem wtRefs_length (ws : List Wt) : (wtRefs ws).length = ws.length := List.length_map ..
theorem wtRefs_get {ws : List Wt} {i : Nat} {v : V} (h : (wtRefs ws)[i]? = some v) : ∃ t, ws[i]? = some t ∧ v = .ref t.1 ∧ i < ws.length := by
  unfold wtRefs at h
  rw [List.getElem?_map] at h
  cases e : ws[i]? with
  | none => rw [e] at h; cases h
  | some t =>
    rw [e] at h
    cases h
    exact ⟨t, rfl, rfl, (List.getElem?_eq_some_iff.mp e).1⟩
theorem refsOf_get {ps : List Pr} {i : Nat} {v : V} (h : (refsOf ps)[i]? = some v) : ∃ t, ps[i]? = some t ∧ v = .ref t.1 ∧ i < ps.length := by
  unfold refsOf at h
  rw [List.getElem?_map, List.getElem?_map] at h
  cases e : ps[i]? with
  | none => rw [e] at h; cases h
  | some t =>
    rw [e] at h
    cases h
    exact ⟨t, rfl, rfl, (List.getElem?_eq_some_iff.mp e).1⟩
theorem two_nought (a b : Int) : decide ([a, b] = [(0 : Int), 0]) = (decide (a = 0) && decide (b = 0)) := by
  rw [← Bool.decide_and]
  exact decide_eq_decide.mpr ⟨fun z => ⟨(List.cons.inj z).1, (List.cons.inj (List.cons.inj z).2).1⟩, fun z => by rw [z.1, z.2]⟩
theorem drop_at {α β : Type} {f : α → β} {ws : List α} {i : Nat} {t : α} (h : ws[i]? = some t) : (ws.drop i).map f = f t :: (ws.drop (i + 1)).map f := by
  obtain ⟨hi, e⟩ := List.getElem?_eq_some_iff.mp h
  rw [List.drop_eq_getElem_cons hi, e]
  rfl
structure PrSt (H0 : Hp) (D : Addr) (cs : List Pr) (H : Hp) : Prop where
  same : Same H0 H
  new : H0 D = none
  at' : H D = some (.lst (refsOf cs))
  all : PrAt H cs
theorem PrSt.app {H0 H H2 : Hp} {D p : Addr} {cs : List Pr} {a b : Int} (P : PrSt H0 D cs H) (s : Same H H2) (hp : H p = none) (ep : H2 p = some (.tup [.int a, .int b])) :
    PrSt H0 D (cs ++ [(p, a, b)]) (upd H2 D (.lst (refsOf cs ++ [.ref p]))) := by
  have npD : p ≠ D := fun e => by rw [e, P.at'] at hp; cases hp
  refine ⟨(P.same.trans s).putNew P.new, P.new, by rw [upd_same, refsOf_app]; rfl, fun t ht => ?_⟩
  rcases List.mem_append.mp ht with h | h
  · have h1 := P.all t h
    rw [upd_ne (ne_of h1 P.at' (by intro z; cases z))]
    exact s _ _ h1
  · rw [List.mem_singleton] at h
    subst h
    show upd H2 D _ p = _
    rw [upd_ne npD]
    exact ep
theorem PrSt.more {H0 H H2 : Hp} {D : Addr} {cs : List Pr} (P : PrSt H0 D cs H) (s : Same H H2) : PrSt H0 D cs H2 := ⟨P.same.trans s, P.new, s _ _ P.at', P.all.same s⟩
theorem refsOf_set (cs : List Pr) (j : Nat) (t : Pr) : (refsOf cs).set j (.ref t.1) = refsOf (cs.set j t) := by
  unfold refsOf
  rw [List.map_set, List.map_set]
theorem PrSt.put {H0 H H2 : Hp} {D p : Addr} {cs : List Pr} {a b : Int} (P : PrSt H0 D cs H) (s : Same H H2) (hp : H p = none) (ep : H2 p = some (.tup [.int a, .int b])) (j : Nat) :
    PrSt H0 D (cs.set j (p, a, b)) (upd H2 D (.lst ((refsOf cs).set j (.ref p)))) := by
  have npD : p ≠ D := fun e => by rw [e, P.at'] at hp; cases hp
  refine ⟨(P.same.trans s).putNew P.new, P.new, by rw [upd_same, ← refsOf_set], fun t ht => ?_⟩
  rcases List.mem_or_eq_of_mem_set ht with h | h
  · have h1 := P.all t h
    rw [upd_ne (ne_of h1 P.at' (by intro z; cases z))]
    exact s _ _ h1
  · subst h
    show upd H2 D _ p = _
    rw [upd_ne npD]
    exact ep
theorem by4 (a b c d v : Int) : ∃ x : Int, atI [V.int a, V.int b, V.int c, V.int d] (v % 4) = some (.int x) := by
  have cc : v % 4 = 0 ∨ v % 4 = 1 ∨ v % 4 = 2 ∨ v % 4 = 3 := by omega
  rcases cc with e | e | e | e
  · exact ⟨a, by rw [e]; rfl⟩
  · exact ⟨b, by rw [e]; rfl⟩
  · exact ⟨c, by rw [e]; rfl⟩
  · exact ⟨d, by rw [e]; rfl⟩
theorem by3 (a b c v : Int) : ∃ x : Int, atI [V.int a, V.int b, V.int c] (v % 3) = some (.int x) := by
  have cc : v % 3 = 0 ∨ v % 3 = 1 ∨ v % 3 = 2 := by omega
  rcases cc with e | e | e
  · exact ⟨a, by rw [e]; rfl⟩
  · exact ⟨b, by rw [e]; rfl⟩
  · exact ⟨c, by rw [e]; rfl⟩
theorem cutP {ok : Addr → List Pr → Hp → Prop} {G : Prop} {R : Addr → List Pr → Hp → Prop} (h1 : (∀ D cs H, ok D cs H → R D cs H) → G) (h2 : ∀ D cs H, ok D cs H → R D cs H) : G := h1 h2
end Sea

-- LAW
namespace Sea
open PySem L2
structure Zs (mg : Str → Option Value) : Prop where
  abs : mg "abs" = none
  all : mg "all" = none
  bool : mg "bool" = none
  enumerate : mg "enumerate" = none
  int : mg "int" = none
  isinstance : mg "isinstance" = none
  len : mg "len" = none
  list : mg "list" = none
  min : mg "min" = none
  range : mg "range" = none
  sorted : mg "sorted" = none
  str : mg "str" = none
  tuple : mg "tuple" = none
  zip : mg "zip" = none
theorem sc_p_common_factor : FnScope ["numbers", "shared", "number", "rest", "smaller"] ["numbers"] (defScope s_p_common_factor) := ⟨rfl, rfl, rfl, by decide +kernel, rfl, by decide +kernel, by decide +kernel⟩
theorem sc_p_lowest : FnScope ["numbers", "shared"] ["numbers"] (defScope s_p_lowest) := ⟨rfl, rfl, rfl, by decide +kernel, rfl, by decide +kernel, by decide +kernel⟩
theorem sc_p_upright : FnScope ["numbers"] ["numbers"] (defScope s_p_upright) := ⟨rfl, rfl, rfl, by decide +kernel, rfl, by decide +kernel, by decide +kernel⟩
theorem sc_p_part : FnScope ["top", "bottom"] ["top", "bottom"] (defScope s_p_part) := ⟨rfl, rfl, rfl, by decide +kernel, rfl, by decide +kernel, by decide +kernel⟩
theorem sc_p_plus : FnScope ["one", "other"] ["one", "other"] (defScope s_p_plus) := ⟨rfl, rfl, rfl, by decide +kernel, rfl, by decide +kernel, by decide +kernel⟩
theorem sc_p_times : FnScope ["one", "other"] ["one", "other"] (defScope s_p_times) := ⟨rfl, rfl, rfl, by decide +kernel, rfl, by decide +kernel, by decide +kernel⟩
theorem sc_p_below : FnScope ["one", "other"] ["one", "other"] (defScope s_p_below) := ⟨rfl, rfl, rfl, by decide +kernel, rfl, by decide +kernel, by decide +kernel⟩
theorem sc_p_spot : FnScope ["x", "y", "w"] ["x", "y", "w"] (defScope s_p_spot) := ⟨rfl, rfl, rfl, by decide +kernel, rfl, by decide +kernel, by decide +kernel⟩
theorem sc_p_turn : FnScope ["one", "other"] ["one", "other"] (defScope s_p_turn) := ⟨rfl, rfl, rfl, by decide +kernel, rfl, by decide +kernel, by decide +kernel⟩
theorem sc_p_along : FnScope ["one", "other"] ["one", "other"] (defScope s_p_along) := ⟨rfl, rfl, rfl, by decide +kernel, rfl, by decide +kernel, by decide +kernel⟩
theorem sc_p_beyond : FnScope ["side", "spot"] ["side", "spot"] (defScope s_p_beyond) := ⟨rfl, rfl, rfl, by decide +kernel, rfl, by decide +kernel, by decide +kernel⟩
theorem sc_p_holds : FnScope ["side", "spot"] ["side", "spot"] (defScope s_p_holds) := ⟨rfl, rfl, rfl, by decide +kernel, rfl, by decide +kernel, by decide +kernel⟩
theorem sc_p_crossing : FnScope ["one", "other", "w", "x", "y"] ["one", "other"] (defScope s_p_crossing) := ⟨rfl, rfl, rfl, by decide +kernel, rfl, by decide +kernel, by decide +kernel⟩
theorem sc_p_in_water : FnScope ["sides", "place", "side"] ["sides", "place"] (defScope s_p_in_water) := ⟨rfl, rfl, rfl, by decide +kernel, rfl, by decide +kernel, by decide +kernel⟩
theorem sc_p_foot : FnScope ["side"] ["side"] (defScope s_p_foot) := ⟨rfl, rfl, rfl, by decide +kernel, rfl, by decide +kernel, by decide +kernel⟩
theorem sc_p_edge_end : FnScope ["sides", "edge", "hand", "found", "place", "number", "side"] ["sides", "edge", "hand"] (defScope s_p_edge_end) := ⟨rfl, rfl, rfl, by decide +kernel, rfl, by decide +kernel, by decide +kernel⟩
theorem sc_p_edge_ends : FnScope ["sides", "edge", "numbers"] ["sides", "edge"] (defScope s_p_edge_ends) := ⟨rfl, rfl, rfl, by decide +kernel, rfl, by decide +kernel, by decide +kernel⟩
theorem sc_p_spot_on_edge : FnScope ["sides", "edge", "place"] ["sides", "edge"] (defScope s_p_spot_on_edge) := ⟨rfl, rfl, rfl, by decide +kernel, rfl, by decide +kernel, by decide +kernel⟩
theorem sc_p_sought : FnScope ["sides", "place", "number"] ["sides"] (defScope s_p_sought) := ⟨rfl, rfl, rfl, by decide +kernel, rfl, by decide +kernel, by decide +kernel⟩
theorem sc_p_span : FnScope ["direction"] ["direction"] (defScope s_p_span) := ⟨rfl, rfl, rfl, by decide +kernel, rfl, by decide +kernel, by decide +kernel⟩
theorem sc_p_weighed : FnScope ["numbers", "weights", "least"] ["numbers", "weights"] (defScope s_p_weighed) := ⟨rfl, rfl, rfl, by decide +kernel, rfl, by decide +kernel, by decide +kernel⟩
theorem sc_p_clash_of_three : FnScope ["sides", "last", "edge", "numbers", "one", "other", "weights"] ["sides", "last"] (defScope s_p_clash_of_three) := ⟨rfl, rfl, rfl, by decide +kernel, rfl, by decide +kernel, by decide +kernel⟩
theorem sc_p_clash : FnScope ["sides", "last", "edge", "number", "side"] ["sides"] (defScope s_p_clash) := ⟨rfl, rfl, rfl, by decide +kernel, rfl, by decide +kernel, by decide +kernel⟩
theorem sc_p_are_weights : FnScope ["sides", "weights", "least", "pair"] ["sides", "weights"] (defScope s_p_are_weights) := ⟨rfl, rfl, rfl, by decide +kernel, rfl, by decide +kernel, by decide +kernel⟩
theorem sc_p_sum_at : FnScope ["sides", "weights", "at", "total", "pair"] ["sides", "weights", "at"] (defScope s_p_sum_at) := ⟨rfl, rfl, rfl, by decide +kernel, rfl, by decide +kernel, by decide +kernel⟩
theorem sc_p_makes : FnScope ["sides", "weights", "direction"] ["sides", "weights", "direction"] (defScope s_p_makes) := ⟨rfl, rfl, rfl, by decide +kernel, rfl, by decide +kernel, by decide +kernel⟩
theorem sc_p_good_clash : FnScope ["sides", "paper", "weights"] ["sides", "paper"] (defScope s_p_good_clash) := ⟨rfl, rfl, rfl, by decide +kernel, rfl, by decide +kernel, by decide +kernel⟩
theorem sc_L_turned : FnScope ["_law_one", "_law_other"] ["_law_one", "_law_other"] (defScope s_L_turned) := ⟨rfl, rfl, rfl, by decide +kernel, rfl, by decide +kernel, by decide +kernel⟩
theorem sc_L_power : FnScope ["_law_number"] ["_law_number"] (defScope s_L_power) := ⟨rfl, rfl, rfl, by decide +kernel, rfl, by decide +kernel, by decide +kernel⟩
theorem sc_L_draws : FnScope ["_law_script", "_law_many", "_law_rows", "_law_mix", "_law_cell", "_law_rest"] ["_law_script", "_law_many"] (defScope s_L_draws) := ⟨rfl, rfl, rfl, by decide +kernel, rfl, by decide +kernel, by decide +kernel⟩
theorem sc_L_tight : FnScope ["_law_some", "_law_sides_here"] ["_law_some", "_law_sides_here"] (defScope s_L_tight) := ⟨rfl, rfl, rfl, by decide +kernel, rfl, by decide +kernel, by decide +kernel⟩
theorem sc_L_way : FnScope ["_law_one", "_law_two", "_law_wide", "_law_x", "_law_y"] ["_law_one", "_law_two", "_law_wide"] (defScope s_L_way) := ⟨rfl, rfl, rfl, by decide +kernel, rfl, by decide +kernel, by decide +kernel⟩
theorem sc_L_side : FnScope ["_law_d", "_law_a", "_law_b", "_law_c"] ["_law_d"] (defScope s_L_side) := ⟨rfl, rfl, rfl, by decide +kernel, rfl, by decide +kernel, by decide +kernel⟩
theorem sc_L_sides : FnScope ["_law_some", "_law_many", "_law_rows", "_law_x", "_law_y"] ["_law_some", "_law_many"] (defScope s_L_sides) := ⟨rfl, rfl, rfl, by decide +kernel, rfl, by decide +kernel, by decide +kernel⟩
theorem sc_L_same : FnScope ["_law_told", "_law_due"] ["_law_told", "_law_due"] (defScope s_L_same) := ⟨rfl, rfl, rfl, by decide +kernel, rfl, by decide +kernel, by decide +kernel⟩
theorem sc_L_whole : FnScope ["_law_found"] ["_law_found"] (defScope s_L_whole) := ⟨rfl, rfl, rfl, by decide +kernel, rfl, by decide +kernel, by decide +kernel⟩
theorem sc_L_numbers : FnScope ["_law_found", "_law_many"] ["_law_found", "_law_many"] (defScope s_L_numbers) := ⟨rfl, rfl, rfl, by decide +kernel, rfl, by decide +kernel, by decide +kernel⟩
theorem sc_L_is_clash : FnScope ["_law_sides_here", "_law_paper", "_law_last", "_law_total", "_law_pair", "_law_a", "_law_b", "_law_c"] ["_law_sides_here", "_law_paper"] (defScope s_L_is_clash) := ⟨rfl, rfl, rfl, by decide +kernel, rfl, by decide +kernel, by decide +kernel⟩
theorem sc_L_own : FnScope ["_law_some", "_law_sides_here", "_law_rows", "_law_at", "_law_one", "_law_other", "_law_third", "_law_weights"] ["_law_some", "_law_sides_here"] (defScope s_L_own) := ⟨rfl, rfl, rfl, by decide +kernel, rfl, by decide +kernel, by decide +kernel⟩
theorem sc_L_bent : FnScope ["_law_d", "_law_paper", "_law_rows", "_law_at", "_law_way_here", "_law_number", "_law_weight"] ["_law_d", "_law_paper"] (defScope s_L_bent) := ⟨rfl, rfl, rfl, by decide +kernel, rfl, by decide +kernel, by decide +kernel⟩
theorem sc_law : FnScope ["_law_script", "_law_some", "_law_sides_here", "_law_paper", "_law_k", "_law_handed", "_law_found"] ["_law_script"] (defScope s_law) := ⟨rfl, rfl, rfl, by decide +kernel, rfl, by decide +kernel, by decide +kernel⟩
section
variable {P : Program} {w : World} {K : PySem.W.Frag} {mg : Str → Option Value} {base : Heap}
def sp_p_common_factor (K : PySem.W.Frag) : Sp := fun vs H Q _ => ∃ (a : Addr) (ns : List Int), vs = [.ref a] ∧ Sq K H a (ns.map V.int) ∧ Q (.int (gcdL ns)) H
theorem ok_p_common_factor {f : Addr} {fd : FuncData} (F : Fun K "common_factor" "common_factor" s_p_common_factor f fd) (Z : Zs mg) : FnOk P w K mg base CX0 1 f fd ["numbers"] (sp_p_common_factor K) := by
  refine F.ok sc_p_common_factor (fun vs H Q E h => ?_) (fun cdv A outer s H vs Q E hr h => ?_)
  · obtain ⟨a, ns, rfl, _⟩ := h
    rfl
  obtain ⟨a, ns, rfl, hS, q⟩ := h
  refine ⟨_, (pss_cons (ps_set (i := 1) sc_p_common_factor.nd rfl (Or.inl rfl) pe_int)
      (pss_cons (ps_for PassesOwn.never rfl (pi_seq (pv 0)) (pg_name (i := 2) sc_p_common_factor.nd rfl (Or.inl rfl)) (pss_cons (ps_set (i := 3) sc_p_common_factor.nd rfl (Or.inl rfl) (pe_callB call_abs rfl Z.abs bt_abs (pa_cons (pv 2) pa_nil)))
      (pss_one (ps_while PassesOwn.never (pt_cmpR op_ne (pv 3) pe_int (nomark _)) (pss_cons (ps_set (i := 4) sc_p_common_factor.nd rfl (Or.inl rfl) (pe_op op_mod (pv 1) (pv 3)))
      (pss_cons (ps_set (i := 1) sc_p_common_factor.nd rfl (Or.inl rfl) (pv 3))
      (pss_one (ps_set (i := 3) sc_p_common_factor.nd rfl (Or.inl rfl) (pv 4)))))))))
      (pss_one (ps_ret (pv 1))))), ?_⟩
  have mono : ∀ (σ : St) (H : Hp) (Q Q' : Bool → Hp → Prop), (∀ b H1, Q b H1 → Q' b H1) → tTest (tOp rNe (tVar 3) (tC (.int 0))) σ H Q → tTest (tOp rNe (tVar 3) (tC (.int 0))) σ H Q' := fun σ H Q Q' hq z => by
    obtain ⟨v, hv, hs, k, hk, z⟩ := z
    exact ⟨v, hv, hs, k, hk, hq _ _ z⟩
  rcases hS with hS | hS
  · refine ⟨_, rfl, a, rfl, .inl ⟨⟨_, hS⟩, for_list (K := K) (a := a) (xs := ns.map V.int) (fun i σ H' => H' = H ∧ ∃ (u v z : Option V), σ = [some (.ref a), some (.int (gcdL (ns.take i))), u, v, z]) ⟨rfl, none, none, none, rfl⟩ (fun i σ H' _ ⟨e, _⟩ => by rw [e]; exact hS) ?_ ?_⟩⟩
    · rintro i x σ H' hi ⟨rfl, u, v, z, rfl⟩
      obtain ⟨n, hn, rfl⟩ := mapInt_get hi
      refine ⟨_, rfl, n, rfl, ?_⟩
      refine while_by (fun σ H1 => H1 = H' ∧ ∃ (g r : Int) (y : Option V), σ = [some (.ref a), some (.int g), some (.int n), some (.int r), y] ∧ 0 ≤ g ∧ 0 ≤ r ∧ Nat.gcd g.toNat r.toNat = gcdL (ns.take (i + 1)))
        (fun σ _ => match σ with | [_, _, _, some (.int r), _] => r.toNat | _ => 0) ⟨rfl, _, _, _, rfl, Int.natCast_nonneg _, by split <;> omega, ?_⟩ ?_ mono
      · rw [take_snoc hn, gcdL_snoc, abs_if]; rfl
      · rintro σ H1 ⟨rfl, g, r, y, rfl, h1, h2, h3⟩
        refine ⟨_, rfl, rfl, _, rfl, ?_⟩
        refine ifNe (fun hr0 => ?_) (fun hr0 => ?_)
        · refine ⟨_, rfl, _, rfl, _, _, rfl, rfl, (by show (0 : Int) < r; omega), _, rfl, _, rfl, ⟨rfl, _, _, _, rfl, h2, Int.emod_nonneg g hr0, ?_⟩, ?_⟩
          · rw [gcd_step h1 (by omega)]; exact h3
          · have h4 := Int.emod_lt_of_pos g (show 0 < r by omega)
            show (g % r).toNat < r.toNat
            omega
        · subst hr0
          have h5 : g = ((gcdL (ns.take (i + 1)) : Nat) : Int) := by
            rw [← h3]
            show g = ((Nat.gcd g.toNat 0 : Nat) : Int)
            rw [Nat.gcd_zero_right]
            omega
          exact ⟨rfl, some (.int n), some (.int 0), y, by rw [h5]⟩
    · rintro σ H' ⟨rfl, u, v, z, rfl⟩
      refine ⟨_, rfl, ?_⟩
      rw [List.length_map, List.take_length]
      exact q
  · refine ⟨_, rfl, a, rfl, .inr ⟨⟨_, hS⟩, for_tup (K := K) (a := a) (xs := ns.map V.int) (fun i σ H' => H' = H ∧ ∃ (u v z : Option V), σ = [some (.ref a), some (.int (gcdL (ns.take i))), u, v, z]) ⟨rfl, none, none, none, rfl⟩ (fun i σ H' _ ⟨e, _⟩ => by rw [e]; exact hS) ?_ ?_⟩⟩
    · rintro i x σ H' hi ⟨rfl, u, v, z, rfl⟩
      obtain ⟨n, hn, rfl⟩ := mapInt_get hi
      refine ⟨_, rfl, n, rfl, ?_⟩
      refine while_by (fun σ H1 => H1 = H' ∧ ∃ (g r : Int) (y : Option V), σ = [some (.ref a), some (.int g), some (.int n), some (.int r), y] ∧ 0 ≤ g ∧ 0 ≤ r ∧ Nat.gcd g.toNat r.toNat = gcdL (ns.take (i + 1)))
        (fun σ _ => match σ with | [_, _, _, some (.int r), _] => r.toNat | _ => 0) ⟨rfl, _, _, _, rfl, Int.natCast_nonneg _, by split <;> omega, ?_⟩ ?_ mono
      · rw [take_snoc hn, gcdL_snoc, abs_if]; rfl
      · rintro σ H1 ⟨rfl, g, r, y, rfl, h1, h2, h3⟩
        refine ⟨_, rfl, rfl, _, rfl, ?_⟩
        refine ifNe (fun hr0 => ?_) (fun hr0 => ?_)
        · refine ⟨_, rfl, _, rfl, _, _, rfl, rfl, (by show (0 : Int) < r; omega), _, rfl, _, rfl, ⟨rfl, _, _, _, rfl, h2, Int.emod_nonneg g hr0, ?_⟩, ?_⟩
          · rw [gcd_step h1 (by omega)]; exact h3
          · have h4 := Int.emod_lt_of_pos g (show 0 < r by omega)
            show (g % r).toNat < r.toNat
            omega
        · subst hr0
          have h5 : g = ((gcdL (ns.take (i + 1)) : Nat) : Int) := by
            rw [← h3]
            show g = ((Nat.gcd g.toNat 0 : Nat) : Int)
            rw [Nat.gcd_zero_right]
            omega
          exact ⟨rfl, some (.int n), some (.int 0), y, by rw [h5]⟩
    · rintro σ H' ⟨rfl, u, v, z, rfl⟩
      refine ⟨_, rfl, ?_⟩
      rw [List.length_map, List.take_length]
      exact q
/-- a new tuple in lowest terms -/
def sp_p_lowest (K : PySem.W.Frag) : Sp := fun vs H Q _ => ∃ (a : Addr) (ns : List Int), vs = [.ref a] ∧ Sq K H a (ns.map V.int) ∧ ns.length ≤ 1000 ∧ 0 < gcdL ns ∧ (gcdL ns : Int) < 10 ^ 600 ∧
  ∀ (p : Addr) (H' : Hp), Same H H' → H p = none → H' p = some (.tup ((lowL ns).map V.int)) → Q (.ref p) H'
theorem ok_p_lowest {f : Addr} {fd : FuncData} (F : Fun K "lowest" "lowest" s_p_lowest f fd) (Z : Zs mg) (h_p_common_factor : Has P w K mg base "common_factor" 1 ["numbers"] (sp_p_common_factor K)) : FnOk P w K mg base CX0 2 f fd ["numbers"] (sp_p_lowest K) := by
  refine F.ok sc_p_lowest (fun vs H Q E h => ?_) (fun cdv A outer s H vs Q E hr h => ?_)
  · obtain ⟨a, ns, rfl, _⟩ := h
    rfl
  obtain ⟨a, ns, rfl, hS, hl, hg, hg2, q⟩ := h
  refine ⟨_, (pss_cons (ps_set (i := 1) sc_p_lowest.nd rfl (Or.inr rfl) (pe_callH h_p_common_factor (hr.mono (by decide)) rfl (pa_cons (pv 0) pa_nil)))
      (pss_one (ps_ret (pe_callTy call_tuple_of rfl Z.tuple bt_tuple (pa_cons (pe_comp (T := ["number"]) (caps := [("shared", 1)]) ⟨rfl, by decide +kernel, by decide +kernel, rfl, ⟨⟨rfl, rfl, Or.inl rfl⟩, True.intro⟩⟩ rfl (pi_seq (pv 0)) (fun _ => (pg_name (i := 0) (show (["number", "shared"] : List Str).Nodup by decide +kernel) rfl (Or.inl rfl))) (fun _ => pifs_nil) (fun _ => (pe_op op_fdivP (pv 0) (pv 1)))) pa_nil))))), ?_⟩
  refine ⟨_, rfl, a, ns, rfl, hS, ?_⟩
  have fin : ∀ (D : Addr) (H' : Hp), H D = none → Same H H' → H' D = some (.lst ((lowL ns).map V.int)) → ∀ l, H' l = none → Q (.ref l) (upd H' l (.tup ((lowL ns).map V.int))) := fun D H' hD hs e l hl =>
    q l _ (hs.trans (same_new hl _)) (hs.free hl) upd_same
  have len : ∀ i, ((ns.take i).map fun n => V.int (n / (gcdL ns : Int))).length < sizeLine := fun i => small1000 (by rw [List.length_map, List.length_take]; omega)
  rcases hS with hS | hS
  · refine ⟨_, rfl, a, rfl, .inl ⟨⟨_, hS⟩, fun c D hD => comp_list0 (K := K) (a := a) (xs := ns.map V.int) (fun i σ ys H' => H' = upd H D (.lst ys) ∧ ys = (ns.take i).map (fun n => V.int (n / (gcdL ns : Int))) ∧ ∃ u, σ = [u, some (.int (gcdL ns))])
      ⟨rfl, rfl, none, rfl⟩ (fun i σ ys H' _ ⟨e, _⟩ => by rw [e]; exact ⟨(same_new hD _).seq hS, upd_same⟩) ?_ ?_⟩⟩
    · rintro i x σ ys H' hi ⟨rfl, rfl, u, rfl⟩
      obtain ⟨n, hn, rfl⟩ := mapInt_get hi
      refine ⟨_, rfl, _, rfl, _, _, rfl, rfl, CDivP.of (by omega) hg2, upd_same, len i, ?_⟩
      refine ⟨upd_upd, ?_, _, rfl⟩
      rw [take_snoc hn, List.map_append]
      rfl
    · rintro σ ys H' ⟨rfl, rfl, u, rfl⟩
      rw [List.length_map, List.take_length]
      have e : (ns.map fun n => V.int (n / (gcdL ns : Int))) = (lowL ns).map V.int := by unfold lowL; rw [List.map_map]; rfl
      rw [e]
      exact ⟨D, _, rfl, .inl ⟨SqL.of upd_same, fin D _ hD (same_new hD _) upd_same⟩⟩
  · refine ⟨_, rfl, a, rfl, .inr ⟨⟨_, hS⟩, fun c D hD => comp_tup0 (K := K) (a := a) (xs := ns.map V.int) (fun i σ ys H' => H' = upd H D (.lst ys) ∧ ys = (ns.take i).map (fun n => V.int (n / (gcdL ns : Int))) ∧ ∃ u, σ = [u, some (.int (gcdL ns))])
      ⟨rfl, rfl, none, rfl⟩ (fun i σ ys H' _ ⟨e, _⟩ => by rw [e]; exact ⟨SqT.same hS (same_new hD _), upd_same⟩) ?_ ?_⟩⟩
    · rintro i x σ ys H' hi ⟨rfl, rfl, u, rfl⟩
      obtain ⟨n, hn, rfl⟩ := mapInt_get hi
      refine ⟨_, rfl, _, rfl, _, _, rfl, rfl, CDivP.of (by omega) hg2, upd_same, len i, ?_⟩
      refine ⟨upd_upd, ?_, _, rfl⟩
      rw [take_snoc hn, List.map_append]
      rfl
    · rintro σ ys H' ⟨rfl, rfl, u, rfl⟩
      rw [List.length_map, List.take_length]
      have e : (ns.map fun n => V.int (n / (gcdL ns : Int))) = (lowL ns).map V.int := by unfold lowL; rw [List.map_map]; rfl
      rw [e]
      exact ⟨D, _, rfl, .inl ⟨SqL.of upd_same, fin D _ hD (same_new hD _) upd_same⟩⟩
def sp_p_upright (K : PySem.W.Frag) : Sp := fun vs H Q _ => ∃ (a : Addr) (ns : List Int) (l : Int), vs = [.ref a] ∧ Sq K H a (ns.map V.int) ∧ ns.length ≤ 1000 ∧ atI (ns.map V.int) (-1) = some (.int l) ∧ l ∈ ns ∧ l ≠ 0 ∧ l.natAbs < 10 ^ 500 ∧
  ∀ (p : Addr) (H' : Hp), Same H H' → H p = none → H' p = some (.tup ((lowL (if l < 0 then ns.map (fun n => -n) else ns)).map V.int)) → Q (.ref p) H'
theorem ok_p_upright {f : Addr} {fd : FuncData} (F : Fun K "upright" "upright" s_p_upright f fd) (Z : Zs mg) (h_p_lowest : Has P w K mg base "lowest" 2 ["numbers"] (sp_p_lowest K)) : FnOk P w K mg base CX0 3 f fd ["numbers"] (sp_p_upright K) := by
  refine F.ok sc_p_upright (fun vs H Q E h => ?_) (fun cdv A outer s H vs Q E hr h => ?_)
  · obtain ⟨a, ns, l, rfl, _⟩ := h
    rfl
  obtain ⟨a, ns, l, rfl, hS, hl, hat, hm, h0, hb, q⟩ := h
  refine ⟨_, (pss_cons (ps_if (pt_cmpR op_lt (pe_ix ix_any (pv 0) (pe_un un_neg pe_int) (fun _ _ => rfl)) pe_int (nomark _)) (pss_one (ps_ret (pe_callH h_p_lowest (hr.mono (by decide)) rfl (pa_cons (pe_comp (T := ["number"]) (caps := []) ⟨rfl, by decide +kernel, by decide +kernel, rfl, True.intro⟩ rfl (pi_seq (pv 0)) (fun _ => (pg_name (i := 0) (show (["number"] : List Str).Nodup by decide +kernel) rfl (Or.inl rfl))) (fun _ => pifs_nil) (fun _ => (pe_un un_neg (pv 0)))) pa_nil)))) pss_nil)
      (pss_one (ps_ret (pe_callH h_p_lowest (hr.mono (by decide)) rfl (pa_cons (pv 0) pa_nil))))), ?_⟩
  refine ⟨_, rfl, _, rfl, a, _, _, _, rfl, rfl, hS, hat, _, _, rfl, rfl, _, rfl, ?_⟩
  have gp : 0 < gcdL ns := gcdL_pos hm h0
  have gb : (gcdL ns : Int) < 10 ^ 600 := by
    have h1 := gcdL_le hm h0
    have h2 : (10 : Nat) ^ 500 < 10 ^ 600 := by decide +kernel
    have h3 : ((10 : Int) ^ 600) = ((10 ^ 600 : Nat) : Int) := by rw [Int.natCast_pow]; rfl
    rw [h3]
    omega
  refine ifD (fun hneg => ?_) (fun hneg => ?_)
  · have len : ∀ i, ((ns.take i).map fun n => V.int (-n)).length < sizeLine := fun i => small1000 (by rw [List.length_map, List.length_take]; omega)
    have fin : ∀ (D : Addr) (H' : Hp), H D = none → Same H H' → H' D = some (.lst ((ns.map fun n => -n).map V.int)) → sp_p_lowest K [.ref D] H' Q E0 := fun D H' hD hs e => by
      refine ⟨D, ns.map fun n => -n, rfl, .inl (SqL.of e), by rw [List.length_map]; exact hl, by rw [gcdL_neg]; exact gp, by rw [gcdL_neg]; exact gb, fun p H2 s2 hp e2 => ?_⟩
      exact q p H2 (hs.trans s2) (hs.free hp) (by rw [if_pos hneg]; exact e2)
    rcases hS with hS | hS
    · refine ⟨_, rfl, a, rfl, .inl ⟨⟨_, hS⟩, fun c D hD => comp_list0 (K := K) (a := a) (xs := ns.map V.int) (fun i σ ys H' => H' = upd H D (.lst ys) ∧ ys = (ns.take i).map (fun n => V.int (-n)) ∧ ∃ u, σ = [u])
        ⟨rfl, rfl, none, rfl⟩ (fun i σ ys H' _ ⟨e, _⟩ => by rw [e]; exact ⟨(same_new hD _).seq hS, upd_same⟩) ?_ ?_⟩⟩
      · rintro i x σ ys H' hi ⟨rfl, rfl, u, rfl⟩
        obtain ⟨n, hn, rfl⟩ := mapInt_get hi
        refine ⟨_, rfl, _, rfl, upd_same, len i, ?_⟩
        refine ⟨upd_upd, ?_, _, rfl⟩
        rw [take_snoc hn, List.map_append]
        rfl
      · rintro σ ys H' ⟨rfl, rfl, u, rfl⟩
        rw [List.length_map, List.take_length]
        have e : (ns.map fun n => V.int (-n)) = (ns.map fun n => -n).map V.int := by rw [List.map_map]; rfl
        rw [e]
        exact fin D _ hD (same_new hD _) upd_same
    · refine ⟨_, rfl, a, rfl, .inr ⟨⟨_, hS⟩, fun c D hD => comp_tup0 (K := K) (a := a) (xs := ns.map V.int) (fun i σ ys H' => H' = upd H D (.lst ys) ∧ ys = (ns.take i).map (fun n => V.int (-n)) ∧ ∃ u, σ = [u])
        ⟨rfl, rfl, none, rfl⟩ (fun i σ ys H' _ ⟨e, _⟩ => by rw [e]; exact ⟨SqT.same hS (same_new hD _), upd_same⟩) ?_ ?_⟩⟩
      · rintro i x σ ys H' hi ⟨rfl, rfl, u, rfl⟩
        obtain ⟨n, hn, rfl⟩ := mapInt_get hi
        refine ⟨_, rfl, _, rfl, upd_same, len i, ?_⟩
        refine ⟨upd_upd, ?_, _, rfl⟩
        rw [take_snoc hn, List.map_append]
        rfl
      · rintro σ ys H' ⟨rfl, rfl, u, rfl⟩
        rw [List.length_map, List.take_length]
        have e : (ns.map fun n => V.int (-n)) = (ns.map fun n => -n).map V.int := by rw [List.map_map]; rfl
        rw [e]
        exact fin D _ hD (same_new hD _) upd_same
  · refine ⟨_, rfl, a, ns, rfl, hS, hl, gp, gb, fun p H2 s2 hp e2 => ?_⟩
    exact q p H2 s2 hp (by rw [if_neg hneg]; exact e2)
def sp_p_part (K : PySem.W.Frag) : Sp := fun vs H Q _ => ∃ (t b : Int), vs = [.int t, .int b] ∧ b ≠ 0 ∧ b.natAbs < 10 ^ 500 ∧
  ∀ (p : Addr) (x y : Int) (H' : Hp), Same H H' → H p = none → H' p = some (.tup [.int x, .int y]) → PartOf t b x y → Q (.ref p) H'
theorem ok_p_part {f : Addr} {fd : FuncData} (F : Fun K "part" "part" s_p_part f fd) (Z : Zs mg) (h_p_upright : Has P w K mg base "upright" 3 ["numbers"] (sp_p_upright K)) : FnOk P w K mg base CX0 4 f fd ["top", "bottom"] (sp_p_part K) := by
  refine F.ok sc_p_part (fun vs H Q E h => ?_) (fun cdv A outer s H vs Q E hr h => ?_)
  · obtain ⟨t, b, rfl, _⟩ := h
    rfl
  obtain ⟨t, b, rfl, hb, hb2, q⟩ := h
  refine ⟨_, (pss_one (ps_ret (pe_callH h_p_upright (hr.mono (by decide)) rfl (pa_cons (pe_tup (pa_cons (pv 0) (pa_cons (pv 1) pa_nil))) pa_nil)))), ?_⟩
  refine ⟨_, rfl, _, rfl, (by show 2 ≤ sizeLine; decide), fun p hp => ⟨p, [t, b], b, rfl, .inr (SqT.of upd_same), by show 2 ≤ 1000; decide, rfl, by simp, hb, hb2, fun r H2 s2 hr2 e2 => ?_⟩⟩
  obtain ⟨x, y, exy, hxy⟩ := partOf_low t hb
  rw [exy] at e2
  exact q r x y H2 ((same_new hp _).trans s2) ((same_new hp _).free hr2) e2 hxy
/-- two parts of bottom one -/
def spOne (K : PySem.W.Frag) (R : Int → Int → Hp → VK → Prop) : Sp := fun vs H Q _ => ∃ (a b : Addr) (x1 x2 : Int), vs = [.ref a, .ref b] ∧ SqT K H a [.int x1, .int 1] ∧ SqT K H b [.int x2, .int 1] ∧ R x1 x2 H Q
def sp_p_plus (K : PySem.W.Frag) : Sp := spOne K fun x1 x2 H Q => ∀ (p : Addr) (H' : Hp), Same H H' → H p = none → H' p = some (.tup [.int (x1 + x2), .int 1]) → Q (.ref p) H'
theorem mul1s {x : Int} : CMul x 1 := .inr ⟨by decide, by decide⟩
theorem ok_p_plus {f : Addr} {fd : FuncData} (F : Fun K "plus" "plus" s_p_plus f fd) (Z : Zs mg) (h_p_part : Has P w K mg base "part" 4 ["top", "bottom"] (sp_p_part K)) : FnOk P w K mg base CX0 5 f fd ["one", "other"] (sp_p_plus K) := by
  refine F.ok sc_p_plus (fun vs H Q E h => ?_) (fun cdv A outer s H vs Q E hr h => ?_)
  · obtain ⟨a, b, x1, x2, rfl, _⟩ := h
    rfl
  obtain ⟨a, b, x1, x2, rfl, ha, hb, q⟩ := h
  refine ⟨_, (pss_one (ps_ret (pe_callH h_p_part (hr.mono (by decide)) rfl (pa_cons (pe_op op_add (pe_op op_mul (pe_ix ix_any (pv 0) pe_int (fun _ _ => rfl)) (pe_ix ix_any (pv 1) pe_int (fun _ _ => rfl))) (pe_op op_mul (pe_ix ix_any (pv 1) pe_int (fun _ _ => rfl)) (pe_ix ix_any (pv 0) pe_int (fun _ _ => rfl)))) (pa_cons (pe_op op_mul (pe_ix ix_any (pv 0) pe_int (fun _ _ => rfl)) (pe_ix ix_any (pv 1) pe_int (fun _ _ => rfl))) pa_nil))))), ?_⟩
  refine ⟨_, rfl, a, _, _, .int x1, rfl, rfl, .inr ha, rfl, _, rfl, b, _, _, .int 1, rfl, rfl, .inr hb, rfl, _, _, rfl, rfl, mul1s,
    _, rfl, b, _, _, .int x2, rfl, rfl, .inr hb, rfl, _, rfl, a, _, _, .int 1, rfl, rfl, .inr ha, rfl, _, _, rfl, rfl, mul1s, _, _, rfl, rfl,
    _, rfl, a, _, _, .int 1, rfl, rfl, .inr ha, rfl, _, rfl, b, _, _, .int 1, rfl, rfl, .inr hb, rfl, _, _, rfl, rfl, mul1s,
    _, _, rfl, by decide, by decide +kernel, fun p x y H' sH hp ep po => ?_⟩
  obtain ⟨e1, e2⟩ := part_one (by decide) po
  rw [e1, e2, Int.mul_one, Int.mul_one] at ep
  exact q p H' sH hp ep
def sp_p_times (K : PySem.W.Frag) : Sp := spOne K fun x1 x2 H Q => x2.natAbs ≤ 10 ^ 13 ∧ ∀ (p : Addr) (H' : Hp), Same H H' → H p = none → H' p = some (.tup [.int (x1 * x2), .int 1]) → Q (.ref p) H'
theorem ok_p_times {f : Addr} {fd : FuncData} (F : Fun K "times" "times" s_p_times f fd) (Z : Zs mg) (h_p_part : Has P w K mg base "part" 4 ["top", "bottom"] (sp_p_part K)) : FnOk P w K mg base CX0 5 f fd ["one", "other"] (sp_p_times K) := by
  refine F.ok sc_p_times (fun vs H Q E h => ?_) (fun cdv A outer s H vs Q E hr h => ?_)
  · obtain ⟨a, b, x1, x2, rfl, _⟩ := h
    rfl
  obtain ⟨a, b, x1, x2, rfl, ha, hb, m2, q⟩ := h
  refine ⟨_, (pss_one (ps_ret (pe_callH h_p_part (hr.mono (by decide)) rfl (pa_cons (pe_op op_mul (pe_ix ix_any (pv 0) pe_int (fun _ _ => rfl)) (pe_ix ix_any (pv 1) pe_int (fun _ _ => rfl))) (pa_cons (pe_op op_mul (pe_ix ix_any (pv 0) pe_int (fun _ _ => rfl)) (pe_ix ix_any (pv 1) pe_int (fun _ _ => rfl))) pa_nil))))), ?_⟩
  refine ⟨_, rfl, a, _, _, .int x1, rfl, rfl, .inr ha, rfl, _, rfl, b, _, _, .int x2, rfl, rfl, .inr hb, rfl, _, _, rfl, rfl, .inr ⟨by omega, by omega⟩,
    _, rfl, a, _, _, .int 1, rfl, rfl, .inr ha, rfl, _, rfl, b, _, _, .int 1, rfl, rfl, .inr hb, rfl, _, _, rfl, rfl, mul1s,
    _, _, rfl, by decide, by decide +kernel, fun p x y H' sH hp ep po => ?_⟩
  obtain ⟨e1, e2⟩ := part_one (by decide) po
  rw [e1, e2] at ep
  exact q p H' sH hp ep
def sp_p_below (K : PySem.W.Frag) : Sp := spOne K fun x1 x2 H Q => Q (.bl (decide (x1 < x2))) H
theorem ok_p_below {f : Addr} {fd : FuncData} (F : Fun K "below" "below" s_p_below f fd) (Z : Zs mg)  : FnOk P w K mg base CX0 1 f fd ["one", "other"] (sp_p_below K) := by
  refine F.ok sc_p_below (fun vs H Q E h => ?_) (fun cdv A outer s H vs Q E hr h => ?_)
  · obtain ⟨a, b, x1, x2, rfl, _⟩ := h
    rfl
  obtain ⟨a, b, x1, x2, rfl, ha, hb, q⟩ := h
  refine ⟨_, (pss_one (ps_ret (pe_cmpR op_lt (pe_op op_mul (pe_ix ix_any (pv 0) pe_int (fun _ _ => rfl)) (pe_ix ix_any (pv 1) pe_int (fun _ _ => rfl))) (pe_op op_mul (pe_ix ix_any (pv 1) pe_int (fun _ _ => rfl)) (pe_ix ix_any (pv 0) pe_int (fun _ _ => rfl))) (nomark _)))), ?_⟩
  refine ⟨_, rfl, a, _, _, .int x1, rfl, rfl, .inr ha, rfl, _, rfl, b, _, _, .int 1, rfl, rfl, .inr hb, rfl, _, _, rfl, rfl, mul1s,
    _, rfl, b, _, _, .int x2, rfl, rfl, .inr hb, rfl, _, rfl, a, _, _, .int 1, rfl, rfl, .inr ha, rfl, _, _, rfl, rfl, mul1s, _, _, rfl, rfl, ?_⟩
  rw [Int.mul_one, Int.mul_one]
  exact q
def sp_p_spot (K : PySem.W.Frag) : Sp := fun vs H Q _ => ∃ (X Y W : Int), vs = [.int X, .int Y, .int W] ∧ W ≠ 0 ∧ W.natAbs < 10 ^ 500 ∧ ∀ (p : Addr) (H' : Hp), Same H H' → H p = none → H' p = some (.tup ((lowL (upL X Y W)).map V.int)) → Q (.ref p) H'
theorem ok_p_spot {f : Addr} {fd : FuncData} (F : Fun K "spot" "spot" s_p_spot f fd) (Z : Zs mg) (h_p_upright : Has P w K mg base "upright" 3 ["numbers"] (sp_p_upright K)) : FnOk P w K mg base CX0 4 f fd ["x", "y", "w"] (sp_p_spot K) := by
  refine F.ok sc_p_spot (fun vs H Q E h => ?_) (fun cdv A outer s H vs Q E hr h => ?_)
  · obtain ⟨X, Y, W, rfl, _⟩ := h
    rfl
  obtain ⟨X, Y, W, rfl, hw, hw2, q⟩ := h
  refine ⟨_, (pss_one (ps_ret (pe_callH h_p_upright (hr.mono (by decide)) rfl (pa_cons (pe_tup (pa_cons (pv 0) (pa_cons (pv 1) (pa_cons (pv 2) pa_nil)))) pa_nil)))), ?_⟩
  refine ⟨_, rfl, _, rfl, _, rfl, (by show 3 ≤ sizeLine; decide), fun p hp => ⟨p, [X, Y, W], W, rfl, .inr (SqT.of upd_same), by show 3 ≤ 1000; decide, rfl, by simp, hw, hw2, fun r H2 s2 hr2 e2 => ?_⟩⟩
  exact q r H2 ((same_new hp _).trans s2) ((same_new hp _).free hr2) e2
/-- the first two numbers of each -/
def spTurn (K : PySem.W.Frag) : Sp := fun vs H Q _ => ∃ (a b : Addr) (us ws : List V) (x1 y1 x2 y2 : Int), vs = [.ref a, .ref b] ∧ Sq K H a us ∧ Sq K H b ws ∧ atI us 0 = some (.int x1) ∧ atI us 1 = some (.int y1) ∧ atI ws 0 = some (.int x2) ∧ atI ws 1 = some (.int y2) ∧
  x1.natAbs ≤ 10 ^ 18 ∧ y1.natAbs ≤ 10 ^ 18 ∧ Q (.int (x1 * y2 - y1 * x2)) H
def sp_p_turn (K : PySem.W.Frag) : Sp := spTurn K
theorem ok_p_turn {f : Addr} {fd : FuncData} (F : Fun K "turn" "turn" s_p_turn f fd) (Z : Zs mg)  : FnOk P w K mg base CX0 1 f fd ["one", "other"] (sp_p_turn K) := by
  refine F.ok sc_p_turn (fun vs H Q E h => ?_) (fun cdv A outer s H vs Q E hr h => ?_)
  · obtain ⟨a, b, us, ws, x1, y1, x2, y2, rfl, _⟩ := h
    rfl
  obtain ⟨a, b, us, ws, x1, y1, x2, y2, rfl, ha, hb, u0, u1, w0, w1, m1, m2, q⟩ := h
  refine ⟨_, (pss_one (ps_ret (pe_op op_sub (pe_op op_mul (pe_ix ix_any (pv 0) pe_int (fun _ _ => rfl)) (pe_ix ix_any (pv 1) pe_int (fun _ _ => rfl))) (pe_op op_mul (pe_ix ix_any (pv 0) pe_int (fun _ _ => rfl)) (pe_ix ix_any (pv 1) pe_int (fun _ _ => rfl)))))), ?_⟩
  exact ⟨_, rfl, a, _, _, .int x1, rfl, rfl, ha, u0, _, rfl, b, _, _, .int y2, rfl, rfl, hb, w1, _, _, rfl, rfl, .inl ⟨by omega, by omega⟩,
    _, rfl, a, _, _, .int y1, rfl, rfl, ha, u1, _, rfl, b, _, _, .int x2, rfl, rfl, hb, w0, _, _, rfl, rfl, .inl ⟨by omega, by omega⟩, _, _, rfl, rfl, q⟩
def sp_p_along (K : PySem.W.Frag) : Sp := fun vs H Q _ => ∃ (a b : Addr) (us ws : List V) (x1 y1 x2 y2 : Int), vs = [.ref a, .ref b] ∧ Sq K H a us ∧ Sq K H b ws ∧ atI us 0 = some (.int x1) ∧ atI us 1 = some (.int y1) ∧ atI ws 0 = some (.int x2) ∧ atI ws 1 = some (.int y2) ∧
  x1.natAbs ≤ 10 ^ 18 ∧ y1.natAbs ≤ 10 ^ 18 ∧ Q (.int (x1 * x2 + y1 * y2)) H
theorem ok_p_along {f : Addr} {fd : FuncData} (F : Fun K "along" "along" s_p_along f fd) (Z : Zs mg)  : FnOk P w K mg base CX0 1 f fd ["one", "other"] (sp_p_along K) := by
  refine F.ok sc_p_along (fun vs H Q E h => ?_) (fun cdv A outer s H vs Q E hr h => ?_)
  · obtain ⟨a, b, us, ws, x1, y1, x2, y2, rfl, _⟩ := h
    rfl
  obtain ⟨a, b, us, ws, x1, y1, x2, y2, rfl, ha, hb, u0, u1, w0, w1, m1, m2, q⟩ := h
  refine ⟨_, (pss_one (ps_ret (pe_op op_add (pe_op op_mul (pe_ix ix_any (pv 0) pe_int (fun _ _ => rfl)) (pe_ix ix_any (pv 1) pe_int (fun _ _ => rfl))) (pe_op op_mul (pe_ix ix_any (pv 0) pe_int (fun _ _ => rfl)) (pe_ix ix_any (pv 1) pe_int (fun _ _ => rfl)))))), ?_⟩
  exact ⟨_, rfl, a, _, _, .int x1, rfl, rfl, ha, u0, _, rfl, b, _, _, .int x2, rfl, rfl, hb, w0, _, _, rfl, rfl, .inl ⟨by omega, by omega⟩,
    _, rfl, a, _, _, .int y1, rfl, rfl, ha, u1, _, rfl, b, _, _, .int y2, rfl, rfl, hb, w1, _, _, rfl, rfl, .inl ⟨by omega, by omega⟩, _, _, rfl, rfl, q⟩
def spSide (K : PySem.W.Frag) (R : Int → Int → Int → Int → Int → Int → Hp → VK → Prop) : Sp := fun vs H Q _ => ∃ (a b : Addr) (A B C x y z : Int), vs = [.ref a, .ref b] ∧ Sq K H a [.int A, .int B, .int C] ∧ Sq K H b [.int x, .int y, .int z] ∧ A.natAbs ≤ 10 ^ 18 ∧ B.natAbs ≤ 10 ^ 18 ∧ C.natAbs ≤ 10 ^ 18 ∧ R A B C x y z H Q
def sp_p_beyond (K : PySem.W.Frag) : Sp := spSide K fun A B C x y z H Q => Q (.int (A * x + B * y - C * z)) H
theorem ok_p_beyond {f : Addr} {fd : FuncData} (F : Fun K "beyond" "beyond" s_p_beyond f fd) (Z : Zs mg)  : FnOk P w K mg base CX0 1 f fd ["side", "spot"] (sp_p_beyond K) := by
  refine F.ok sc_p_beyond (fun vs H Q E h => ?_) (fun cdv A outer s H vs Q E hr h => ?_)
  · obtain ⟨a, b, A, B, C, x, y, z, rfl, _⟩ := h
    rfl
  obtain ⟨a, b, A', B, C, x, y, z, rfl, ha, hb, m1, m2, m3, q⟩ := h
  refine ⟨_, (pss_one (ps_ret (pe_op op_sub (pe_op op_add (pe_op op_mul (pe_ix ix_any (pv 0) pe_int (fun _ _ => rfl)) (pe_ix ix_any (pv 1) pe_int (fun _ _ => rfl))) (pe_op op_mul (pe_ix ix_any (pv 0) pe_int (fun _ _ => rfl)) (pe_ix ix_any (pv 1) pe_int (fun _ _ => rfl)))) (pe_op op_mul (pe_ix ix_any (pv 0) pe_int (fun _ _ => rfl)) (pe_ix ix_any (pv 1) pe_int (fun _ _ => rfl)))))), ?_⟩
  exact ⟨_, rfl, a, _, _, .int A', rfl, rfl, ha, rfl, _, rfl, b, _, _, .int x, rfl, rfl, hb, rfl, _, _, rfl, rfl, .inl ⟨by omega, by omega⟩, _, rfl, a, _, _, .int B, rfl, rfl, ha, rfl, _, rfl, b, _, _, .int y, rfl, rfl, hb, rfl, _, _, rfl, rfl, .inl ⟨by omega, by omega⟩, _, _, rfl, rfl, _, rfl, a, _, _, .int C, rfl, rfl, ha, rfl, _, rfl, b, _, _, .int z, rfl, rfl, hb, rfl, _, _, rfl, rfl, .inl ⟨by omega, by omega⟩, _, _, rfl, rfl, q⟩
def sp_p_holds (K : PySem.W.Frag) : Sp := spSide K fun A B C x y z H Q => Q (.bl (decide (A * x + B * y - C * z ≤ 0))) H
theorem ok_p_holds {f : Addr} {fd : FuncData} (F : Fun K "holds" "holds" s_p_holds f fd) (Z : Zs mg) (h_p_beyond : Has P w K mg base "beyond" 1 ["side", "spot"] (sp_p_beyond K)) : FnOk P w K mg base CX0 2 f fd ["side", "spot"] (sp_p_holds K) := by
  refine F.ok sc_p_holds (fun vs H Q E h => ?_) (fun cdv A outer s H vs Q E hr h => ?_)
  · obtain ⟨a, b, A, B, C, x, y, z, rfl, _⟩ := h
    rfl
  obtain ⟨a, b, A', B, C, x, y, z, rfl, ha, hb, m1, m2, m3, q⟩ := h
  refine ⟨_, (pss_one (ps_ret (pe_cmpR op_le (pe_callH h_p_beyond (hr.mono (by decide)) rfl (pa_cons (pv 0) (pa_cons (pv 1) pa_nil))) pe_int (nomark _)))), ?_⟩
  exact ⟨_, rfl, _, rfl, a, b, A', B, C, x, y, z, rfl, ha, hb, m1, m2, m3, _, _, rfl, rfl, q⟩
def sp_p_crossing (K : PySem.W.Frag) : Sp := fun vs H Q _ => ∃ (a b : Addr) (A1 B1 C1 A2 B2 C2 : Int), vs = [.ref a, .ref b] ∧ Sq K H a [.int A1, .int B1, .int C1] ∧ Sq K H b [.int A2, .int B2, .int C2] ∧
  A1.natAbs ≤ 10 ^ 18 ∧ B1.natAbs ≤ 10 ^ 18 ∧ C1.natAbs ≤ 10 ^ 18 ∧ A2.natAbs ≤ 10 ^ 18 ∧ B2.natAbs ≤ 10 ^ 18 ∧
  (A1 * B2 - B1 * A2 = 0 → Q .non H) ∧ (A1 * B2 - B1 * A2 ≠ 0 → ∀ (p : Addr) (H' : Hp), Same H H' → H p = none → H' p = some (.tup ((lowL (upL (C1 * B2 - B1 * C2) (A1 * C2 - C1 * A2) (A1 * B2 - B1 * A2))).map V.int)) → Q (.ref p) H')
theorem ok_p_crossing {f : Addr} {fd : FuncData} (F : Fun K "crossing" "crossing" s_p_crossing f fd) (Z : Zs mg) (h_p_upright : Has P w K mg base "upright" 3 ["numbers"] (sp_p_upright K)) (h_p_turn : Has P w K mg base "turn" 1 ["one", "other"] (sp_p_turn K)) : FnOk P w K mg base CX0 4 f fd ["one", "other"] (sp_p_crossing K) := by
  refine F.ok sc_p_crossing (fun vs H Q E h => ?_) (fun cdv A outer s H vs Q E hr h => ?_)
  · obtain ⟨a, b, A1, B1, C1, A2, B2, C2, rfl, _⟩ := h
    rfl
  obtain ⟨a, b, A1, B1, C1, A2, B2, C2, rfl, ha, hb, m1, m2, m3, m4, m5, q0, q⟩ := h
  refine ⟨_, (pss_cons (ps_set (i := 2) sc_p_crossing.nd rfl (Or.inl rfl) (pe_callH h_p_turn (hr.mono (by decide)) rfl (pa_cons (pv 0) (pa_cons (pv 1) pa_nil))))
      (pss_cons (ps_if (pt_cmpR op_eq (pv 2) pe_int (nomark _)) (pss_one (ps_ret pe_non)) pss_nil)
      (pss_cons (ps_set (i := 3) sc_p_crossing.nd rfl (Or.inl rfl) (pe_op op_sub (pe_op op_mul (pe_ix ix_any (pv 0) pe_int (fun _ _ => rfl)) (pe_ix ix_any (pv 1) pe_int (fun _ _ => rfl))) (pe_op op_mul (pe_ix ix_any (pv 0) pe_int (fun _ _ => rfl)) (pe_ix ix_any (pv 1) pe_int (fun _ _ => rfl)))))
      (pss_cons (ps_set (i := 4) sc_p_crossing.nd rfl (Or.inl rfl) (pe_op op_sub (pe_op op_mul (pe_ix ix_any (pv 0) pe_int (fun _ _ => rfl)) (pe_ix ix_any (pv 1) pe_int (fun _ _ => rfl))) (pe_op op_mul (pe_ix ix_any (pv 0) pe_int (fun _ _ => rfl)) (pe_ix ix_any (pv 1) pe_int (fun _ _ => rfl)))))
      (pss_one (ps_ret (pe_callH h_p_upright (hr.mono (by decide)) rfl (pa_cons (pe_tup (pa_cons (pv 3) (pa_cons (pv 4) (pa_cons (pv 2) pa_nil)))) pa_nil)))))))), ?_⟩
  refine ⟨_, rfl, _, rfl, a, b, _, _, A1, B1, A2, B2, rfl, ha, hb, rfl, rfl, rfl, rfl, m1, m2, ?_⟩
  refine ⟨_, rfl, rfl, _, rfl, ?_⟩
  refine ifE (fun hw => q0 hw) (fun hw => ?_)
  have z1 := natAbs_mul_le A1 B2 m1 m5
  have z2 := natAbs_mul_le B1 A2 m2 m4
  have z0 : (10 : Nat) ^ 18 * 10 ^ 18 = 10 ^ 36 := by decide
  have z3 : (10 : Nat) ^ 36 + 10 ^ 36 ≤ 10 ^ 40 := by decide
  refine ⟨_, rfl, a, _, _, .int C1, rfl, rfl, ha, rfl, _, rfl, b, _, _, .int B2, rfl, rfl, hb, rfl, _, _, rfl, rfl, .inl ⟨by omega, by omega⟩, _, rfl, a, _, _, .int B1, rfl, rfl, ha, rfl, _, rfl, b, _, _, .int C2, rfl, rfl, hb, rfl, _, _, rfl, rfl, .inl ⟨by omega, by omega⟩, _, _, rfl, rfl, ?_⟩
  refine ⟨_, rfl, a, _, _, .int A1, rfl, rfl, ha, rfl, _, rfl, b, _, _, .int C2, rfl, rfl, hb, rfl, _, _, rfl, rfl, .inl ⟨by omega, by omega⟩, _, rfl, a, _, _, .int C1, rfl, rfl, ha, rfl, _, rfl, b, _, _, .int A2, rfl, rfl, hb, rfl, _, _, rfl, rfl, .inl ⟨by omega, by omega⟩, _, _, rfl, rfl, ?_⟩
  refine ⟨_, rfl, _, rfl, _, rfl, (by show 3 ≤ sizeLine; decide), fun p hp => ⟨p, [C1 * B2 - B1 * C2, A1 * C2 - C1 * A2, A1 * B2 - B1 * A2], A1 * B2 - B1 * A2, rfl, .inr (SqT.of upd_same), by show 3 ≤ 1000; decide, rfl, by simp, hw, big_ok (by omega), fun r H2 s2 hr2 e2 => ?_⟩⟩
  exact q hw r H2 ((same_new hp _).trans s2) ((same_new hp _).free hr2) e2
def inWB (ss : List Sd) (p : P3) : Bool := ss.all fun t => decide (sv t.2 p ≤ 0)
theorem inWB_iff {ss : List Sd} {p : P3} : inWB ss p = true ↔ inW ss p := by
  unfold inWB inW
  rw [List.all_eq_true]
  exact ⟨fun h t ht => of_decide_eq_true (h t ht), fun h t ht => decide_eq_true (h t ht)⟩
def sp_p_in_water (K : PySem.W.Frag) : Sp := fun vs H Q _ => ∃ (l p : Addr) (ss : List Sd) (P : P3), vs = [.ref l, .ref p] ∧ SqL K H l (sdRefs ss) ∧ SdOk H ss ∧ Sq K H p [.int P.1, .int P.2.1, .int P.2.2] ∧ Q (.bl (inWB ss P)) H
theorem ok_p_in_water {f : Addr} {fd : FuncData} (F : Fun K "in_water" "in_water" s_p_in_water f fd) (Z : Zs mg) (h_p_holds : Has P w K mg base "holds" 2 ["side", "spot"] (sp_p_holds K)) : FnOk P w K mg base CX0 3 f fd ["sides", "place"] (sp_p_in_water K) := by
  refine F.ok sc_p_in_water (fun vs H Q E h => ?_) (fun cdv A outer s H vs Q E hr h => ?_)
  · obtain ⟨l, p, ss, P, rfl, _⟩ := h
    rfl
  obtain ⟨l, p, ss, P, rfl, hl, ok, hp, q⟩ := h
  refine ⟨_, (pss_cons (ps_for PassesOwn.never rfl (pi_seq (pv 0)) (pg_name (i := 2) sc_p_in_water.nd rfl (Or.inl rfl)) (pss_one (ps_if (pt_not (pt_val (pe_callH h_p_holds (hr.mono (by decide)) rfl (pa_cons (pv 2) (pa_cons (pv 1) pa_nil))))) (pss_one (ps_ret pe_bl)) pss_nil)))
      (pss_one (ps_ret pe_bl))), ?_⟩
  refine ⟨_, rfl, l, rfl, .inl ⟨⟨_, hl⟩, for_list (K := K) (a := l) (xs := sdRefs ss) (fun i σ H' => H = H' ∧ (∀ j t, j < i → ss[j]? = some t → sv t.2 P ≤ 0) ∧ ∃ u2 : Option V, σ = [some (.ref l), some (.ref p), u2])
    ⟨rfl, fun j t hj => absurd hj (Nat.not_lt_zero _), none, rfl⟩ (fun i σ H' _ ⟨e, _⟩ => by rw [← e]; exact hl) ?_ ?_⟩⟩
  · rintro i v σ H' hi ⟨rfl, hall, u2, rfl⟩
    obtain ⟨t, gt, rfl, hil⟩ := sdRefs_get hi
    obtain ⟨et, _, b1, b2, b3⟩ := ok t (List.mem_of_getElem? gt)
    refine ⟨_, rfl, _, rfl, t.1, p, t.2.1, t.2.2.1, t.2.2.2, P.1, P.2.1, P.2.2, rfl, .inr (SqT.of et), hp, by omega, by omega, by omega, _, rfl, ?_⟩
    refine ifN (fun hpos => ?_) (fun hneg => ?_)
    · have e : inWB ss P = false := by
        unfold inWB
        rw [Bool.eq_false_iff]
        intro z
        exact hpos (of_decide_eq_true (List.all_eq_true.mp z t (List.mem_of_getElem? gt)))
      rw [e] at q
      exact q
    · refine ⟨rfl, fun j t' hj ht' => ?_, _, rfl⟩
      by_cases e : j = i
      · rw [e, gt] at ht'
        cases ht'
        exact hneg
      · exact hall j t' (by omega) ht'
  · rintro σ H' ⟨rfl, hall, u2, rfl⟩
    have e : inWB ss P = true := inWB_iff.mpr fun t ht => by
      obtain ⟨j, hj, ej⟩ := List.getElem_of_mem ht
      exact hall j t (by rw [sdRefs_length]; exact hj) (by rw [List.getElem?_eq_getElem hj, ej])
    rw [e] at q
    exact q
def sp_p_foot (K : PySem.W.Frag) : Sp := fun vs H Q _ => ∃ (a : Addr) (t : P3), vs = [.ref a] ∧ Sq K H a [.int t.1, .int t.2.1, .int t.2.2] ∧ (t.1 ≠ 0 ∨ t.2.1 ≠ 0) ∧ t.1.natAbs ≤ 10 ^ 9 ∧ t.2.1.natAbs ≤ 10 ^ 9 ∧
  ∀ (p : Addr) (H' : Hp), Same H H' → H p = none → H' p = some (.tup ((ftL t).map V.int)) → Q (.ref p) H'
theorem ok_p_foot {f : Addr} {fd : FuncData} (F : Fun K "foot" "foot" s_p_foot f fd) (Z : Zs mg) (h_p_spot : Has P w K mg base "spot" 4 ["x", "y", "w"] (sp_p_spot K)) (h_p_along : Has P w K mg base "along" 1 ["one", "other"] (sp_p_along K)) : FnOk P w K mg base CX0 5 f fd ["side"] (sp_p_foot K) := by
  refine F.ok sc_p_foot (fun vs H Q E h => ?_) (fun cdv A outer s H vs Q E hr h => ?_)
  · obtain ⟨a, t, rfl, _⟩ := h
    rfl
  obtain ⟨a, t, rfl, ha, hn, b1, b2, q⟩ := h
  refine ⟨_, (pss_one (ps_ret (pe_callH h_p_spot (hr.mono (by decide)) rfl (pa_cons (pe_op op_mul (pe_ix ix_any (pv 0) pe_int (fun _ _ => rfl)) (pe_ix ix_any (pv 0) pe_int (fun _ _ => rfl))) (pa_cons (pe_op op_mul (pe_ix ix_any (pv 0) pe_int (fun _ _ => rfl)) (pe_ix ix_any (pv 0) pe_int (fun _ _ => rfl))) (pa_cons (pe_callH h_p_along (hr.mono (by decide)) rfl (pa_cons (pv 0) (pa_cons (pv 0) pa_nil))) pa_nil)))))), ?_⟩
  have pos := nn_pos hn
  have z1 := natAbs_mul_le t.1 t.1 b1 b1
  have z2 := natAbs_mul_le t.2.1 t.2.1 b2 b2
  refine ⟨_, rfl, a, _, _, .int t.1, rfl, rfl, ha, rfl, _, rfl, a, _, _, .int t.2.2, rfl, rfl, ha, rfl, _, _, rfl, rfl, .inl ⟨by omega, by omega⟩,
    _, rfl, a, _, _, .int t.2.1, rfl, rfl, ha, rfl, _, rfl, a, _, _, .int t.2.2, rfl, rfl, ha, rfl, _, _, rfl, rfl, .inl ⟨by omega, by omega⟩,
    _, rfl, _, rfl, a, a, _, _, t.1, t.2.1, t.1, t.2.1, rfl, ha, ha, rfl, rfl, rfl, rfl, by omega, by omega,
    t.1 * t.2.2, t.2.1 * t.2.2, t.1 * t.1 + t.2.1 * t.2.1, rfl, by omega, Nat.lt_of_le_of_lt (show (t.1 * t.1 + t.2.1 * t.2.1).natAbs ≤ 10 ^ 40 by omega) (by decide +kernel), fun p H' s' hp ep => q p H' s' hp ep⟩
def optV : Option Nat → V
  | none => .non
  | some j => .int j
theorem take_end {ss : List Sd} {i : Nat} {t u : Sd} (gt : ss[i]? = some t) (hu : u ∈ ss.take (i + 1)) : u ∈ ss.take i ∨ u = t := by
  rw [take_snoc gt] at hu
  rcases List.mem_append.mp hu with h | h
  · exact .inl h
  · exact .inr (List.mem_singleton.mp h)
theorem get_take {ss : List Sd} {i j : Nat} {t : Sd} (h : (ss.take i)[j]? = some t) : (ss.take (i + 1))[j]? = some t := by
  rw [List.getElem?_take] at h ⊢
  split at h
  · rw [if_pos (by omega)]
    exact h
  · cases h
/-- what the loop knows: nothing yet, or the side that is left first and where -/
def EndSt (ss : List Sd) (e : P3) (h : Int) (H : Hp) (x y : V) : Prop := (x = .non ∧ y = .non ∧ EndOk ss e h none) ∨ ∃ (j : Nat) (t : Sd) (p : Addr), x = .int j ∧ y = .ref p ∧ H p = some (.tup ((crL e t.2).map V.int)) ∧ ss[j]? = some t ∧ 0 < tn e t.2 * h ∧ ∀ u ∈ ss, 0 < tn e u.2 * h → sv u.2 (pt3 (crL e t.2)) ≤ 0
theorem EndSt.skip {ss : List Sd} {e : P3} {h : Int} {H : Hp} {x y : V} {i : Nat} {t : Sd} (S : EndSt (ss.take i) e h H x y) (gt : ss[i]? = some t) (hn : ¬ 0 < tn e t.2 * h) : EndSt (ss.take (i + 1)) e h H x y := by
  rcases S with ⟨e1, e2, S⟩ | ⟨j, u, p, e1, e2, ep, gu, hu, ha⟩
  · refine .inl ⟨e1, e2, fun v hv => ?_⟩
    rcases take_end gt hv with hv | rfl
    · exact S v hv
    · omega
  · refine .inr ⟨j, u, p, e1, e2, ep, get_take gu, hu, fun v hv hp => ?_⟩
    rcases take_end gt hv with hv | rfl
    · exact ha v hv hp
    · exact absurd hp hn
theorem EndSt.keep {ss : List Sd} {e : P3} {h : Int} {H H' : Hp} {x y : V} (S : EndSt ss e h H x y) (s : Same H H') : EndSt ss e h H' x y := by
  rcases S with S | ⟨j, u, p, e1, e2, ep, r⟩
  · exact .inl S
  · exact .inr ⟨j, u, p, e1, e2, s _ _ ep, r⟩
def sp_p_edge_end (K : PySem.W.Frag) : Sp := fun vs H Q _ => ∃ (l a : Addr) (ss : List Sd) (e : P3) (h : Int), vs = [.ref l, .ref a, .int h] ∧ SqL K H l (sdRefs ss) ∧ SdOk H ss ∧ ss.length ≤ 1000 ∧ Sq K H a [.int e.1, .int e.2.1, .int e.2.2] ∧ (e.1 ≠ 0 ∨ e.2.1 ≠ 0) ∧ e.1.natAbs ≤ 10 ^ 9 ∧ e.2.1.natAbs ≤ 10 ^ 9 ∧ e.2.2.natAbs ≤ 10 ^ 13 ∧ (h = 1 ∨ h = -1) ∧
  ∀ (r : Option Nat) (H' : Hp), Same H H' → EndOk ss e h r → Q (optV r) H'
theorem ok_p_edge_end {f : Addr} {fd : FuncData} (F : Fun K "edge_end" "edge_end" s_p_edge_end f fd) (Z : Zs mg) (h_p_turn : Has P w K mg base "turn" 1 ["one", "other"] (sp_p_turn K)) (h_p_holds : Has P w K mg base "holds" 2 ["side", "spot"] (sp_p_holds K)) (h_p_crossing : Has P w K mg base "crossing" 4 ["one", "other"] (sp_p_crossing K)) : FnOk P w K mg base CX0 5 f fd ["sides", "edge", "hand"] (sp_p_edge_end K) := by
  refine F.ok sc_p_edge_end (fun vs H Q E h => ?_) (fun cdv A outer s H vs Q E hr h => ?_)
  · obtain ⟨l, a, ss, e, h, rfl, _⟩ := h
    rfl
  obtain ⟨l, a, ss, e, hd, rfl, hl, ok, hlen, ha, hn, b1, b2, b3, h1, q⟩ := h
  have hh : hd * hd = 1 := by rcases h1 with rfl | rfl <;> rfl
  have hN := nn_pos hn
  refine ⟨_, (pss_cons (ps_set (i := 3) sc_p_edge_end.nd rfl (Or.inl rfl) pe_non)
      (pss_cons (ps_set (i := 4) sc_p_edge_end.nd rfl (Or.inl rfl) pe_non)
      (pss_cons (ps_for PassesOwn.never rfl (pi_range1 rfl Z.range (pa_cons (pe_callB call_len_seq rfl Z.len bt_len (pa_cons (pv 0) pa_nil)) pa_nil)) (pg_name (i := 5) sc_p_edge_end.nd rfl (Or.inl rfl)) (pss_cons (ps_set (i := 6) sc_p_edge_end.nd rfl (Or.inl rfl) (pe_ix ix_any (pv 0) (pv 5) (fun _ _ => rfl)))
      (pss_one (ps_if (PW.pt (pw_and (pt_cmpR op_gt (pe_op op_mul (pe_callH h_p_turn (hr.mono (by decide)) rfl (pa_cons (pv 1) (pa_cons (pv 6) pa_nil))) (pv 2)) pe_int (nomark _)) (pw_and1 (PW.pt (pw_or (pt_cmpR op_isN (pv 4) pe_non (nomark _)) (pw_or1 (pt_not (pt_val (pe_callH h_p_holds (hr.mono (by decide)) rfl (pa_cons (pv 6) (pa_cons (pv 4) pa_nil))))))))))) (pss_cons (ps_set (i := 3) sc_p_edge_end.nd rfl (Or.inl rfl) (pv 5))
      (pss_one (ps_set (i := 4) sc_p_edge_end.nd rfl (Or.inl rfl) (pe_callH h_p_crossing (hr.mono (by decide)) rfl (pa_cons (pv 1) (pa_cons (pv 6) pa_nil)))))) pss_nil))))
      (pss_one (ps_ret (pv 3)))))), ?_⟩
  refine ⟨_, rfl, l, _, rfl, .inl hl, _, rfl, (by rw [sdRefs_length]; omega), (by rw [sdRefs_length]; omega), for_range (lo := 0) (n := (((sdRefs ss).length : Nat) : Int).toNat) (fun i σ H' => Same H H' ∧ ∃ (x y : V) (u5 u6 : Option V), EndSt (ss.take i) e hd H' x y ∧ σ = [some (.ref l), some (.ref a), some (.int hd), some x, some y, u5, u6])
    ⟨Same.refl _, .non, .non, none, none, .inl ⟨rfl, rfl, fun t ht => nomatch ht⟩, rfl⟩ ?_ ?_⟩
  · rintro i σ H' hi ⟨sH, x, y, u5, u6, S, rfl⟩
    have hil : i < ss.length := by rw [Int.toNat_natCast, sdRefs_length] at hi; exact hi
    obtain ⟨t, mt, gt, at'⟩ := sdRefs_at (ss := ss) (i := i) (k := 0 + (i : Int)) (by omega) hil
    obtain ⟨et0, nt, c1, c2, c3⟩ := ok t mt
    have et : Sq K H' t.1 [.int t.2.1, .int t.2.2.1, .int t.2.2.2] := .inr (SqT.of (sH _ _ et0))
    have hae := ha.same sH
    have z1 := natAbs_mul_le e.1 t.2.2.1 b1 c2
    have z2 := natAbs_mul_le e.2.1 t.2.1 b2 c1
    refine ⟨_, rfl, _, rfl, l, _, _, _, rfl, rfl, .inl (sH.seq hl), at', ?_⟩
    refine ⟨_, rfl, _, rfl, a, t.1, _, _, e.1, e.2.1, t.2.1, t.2.2.1, rfl, hae, et, rfl, rfl, rfl, rfl, by omega, by omega, _, rfl, _, _, rfl, rfl, .inl ⟨by omega, by omega⟩, _, _, rfl, rfl, _, rfl, ?_⟩
    refine ifD (fun hpos => ?_) (fun hneg => ?_)
    · have hpos' : 0 < tn e t.2 * hd := hpos
      -- the crossing with this side takes the place
      have put : ∀ (H2 : Hp) (p : Addr), Same H' H2 → H2 p = some (.tup ((crL e t.2).map V.int)) → (∀ u ∈ ss.take i, 0 < tn e u.2 * hd → sv u.2 (pt3 (crL e t.2)) ≤ 0) → EndSt (ss.take (i + 1)) e hd H2 (.int (0 + (i : Int))) (.ref p) := fun H2 p s2 ep hb => by
        refine .inr ⟨i, t, p, by rw [Int.zero_add], rfl, ep, ?_, hpos', fun u hu hp => ?_⟩
        · rw [List.getElem?_take, if_pos (by omega)]
          exact gt
        · rcases take_end gt hu with hu | rfl
          · exact hb u hu hp
          · exact Int.le_of_eq (cr_ok (ne_hand hpos')).2.2
      rcases S with ⟨rfl, rfl, S⟩ | ⟨j, u, p, rfl, rfl, ep, gu, hu, hb⟩
      · refine ⟨_, rfl, rfl, _, rfl, ?_⟩
        refine iteT ?_
        refine ⟨_, rfl, _, rfl, _, rfl, a, t.1, e.1, e.2.1, e.2.2, t.2.1, t.2.2.1, t.2.2.2, rfl, hae, et, by omega, by omega, by omega, by omega, by omega, fun z => absurd z (ne_hand hpos'), fun _ p2 H2 s2 hp2 ep2 => ?_⟩
        exact ⟨sH.trans s2, _, _, _, _, put H2 p2 s2 ep2 fun v hv hp => by have := S v hv; omega, rfl⟩
      · obtain ⟨sp0, q1, q2⟩ := cr_ok (ne_hand hu)
        refine ⟨_, rfl, rfl, _, rfl, ?_⟩
        refine iteF ?_
        have ep3 : Sq K H' p [.int (pt3 (crL e u.2)).1, .int (pt3 (crL e u.2)).2.1, .int (pt3 (crL e u.2)).2.2] := .inr (SqT.of (by rw [ep]; rw [sp0.list]; rfl))
        refine ⟨_, rfl, _, rfl, t.1, p, t.2.1, t.2.2.1, t.2.2.2, _, _, _, rfl, et, ep3, by omega, by omega, by omega, _, rfl, ?_⟩
        refine ifN (fun hout => ?_) (fun hin => ?_)
        · have hout' : 0 < sv t.2 (pt3 (crL e u.2)) := by
            have : ¬ sv t.2 (pt3 (crL e u.2)) ≤ 0 := hout
            omega
          refine ⟨_, rfl, _, rfl, _, rfl, a, t.1, e.1, e.2.1, e.2.2, t.2.1, t.2.2.1, t.2.2.2, rfl, hae, et, by omega, by omega, by omega, by omega, by omega, fun z => absurd z (ne_hand hpos'), fun _ p2 H2 s2 hp2 ep2 => ?_⟩
          obtain ⟨sp1, r1, r2⟩ := cr_ok (ne_hand hpos')
          have d1 := dl_le hh hN r1 q1 sp1.pos r2 hout' hpos'
          refine ⟨sH.trans s2, _, _, _, _, put H2 p2 s2 ep2 fun v hv hp => ?_, rfl⟩
          refine sv_on hh hN r1 q1 sp1.pos sp0.pos v.2 ?_ (hb v hv hp)
          have := Int.mul_nonneg (show 0 ≤ -(dl e (pt3 (crL e t.2)) (pt3 (crL e u.2)) * hd) by omega) (Int.le_of_lt hp)
          rw [Int.neg_mul] at this
          omega
        · refine ⟨sH, _, _, _, _, .inr ⟨j, u, p, rfl, rfl, ep, get_take gu, hu, fun v hv hp => ?_⟩, rfl⟩
          rcases take_end gt hv with hv | rfl
          · exact hb v hv hp
          · exact hin
    · refine iteF ?_
      exact ⟨sH, x, y, _, _, S.skip gt hneg, rfl⟩
  · rintro σ H' ⟨sH, x, y, u5, u6, S, rfl⟩
    rw [Int.toNat_natCast, sdRefs_length, List.take_length] at S
    rcases S with ⟨rfl, rfl, S⟩ | ⟨j, u, p, rfl, rfl, ep, gu, hu, hb⟩
    · exact ⟨_, rfl, q none H' sH S⟩
    · exact ⟨_, rfl, q (some j) H' sH ⟨u, gu, hu, hb⟩⟩
abbrev spRefs (qs : List (Addr × P3)) : List V := (qs.map (·.1)).map V.ref
def SpsOk (H : Hp) (qs : List (Addr × P3)) : Prop := ∀ t ∈ qs, H t.1 = some (.tup [.int t.2.1, .int t.2.2.1, .int t.2.2.2]) ∧ 0 < t.2.2.2 ∧ Nat.gcd (Nat.gcd t.2.1.natAbs t.2.2.1.natAbs) t.2.2.2.natAbs = 1
theorem SpsOk.same {H H' : Hp} {qs : List (Addr × P3)} (h : SpsOk H qs) (s : Same H H') : SpsOk H' qs := fun t ht => ⟨s _ _ (h t ht).1, (h t ht).2⟩
/-- each of the places is an end of what the water has of the edge; where there is none, no side crosses it -/
structure EndsOk (ss : List Sd) (e : P3) (qs : List (Addr × P3)) : Prop where
  each : ∀ q ∈ qs, ∃ (h : Int) (j : Nat) (t : Sd), h * h = 1 ∧ ss[j]? = some t ∧ 0 < tn e t.2 * h ∧ (∀ u ∈ ss, 0 < tn e u.2 * h → sv u.2 (pt3 (crL e t.2)) ≤ 0) ∧ q.2 = pt3 (crL e t.2)
  none : qs = [] → EndOk ss e 1 none ∧ EndOk ss e (-1) none
  full : FullE ss e 1 (qs.map (·.2)) ∧ FullE ss e (-1) (qs.map (·.2))
def sp_p_edge_ends (K : PySem.W.Frag) : Sp := fun vs H Q _ => ∃ (l a : Addr) (ss : List Sd) (e : P3), vs = [.ref l, .ref a] ∧ SqL K H l (sdRefs ss) ∧ SdOk H ss ∧ ss.length ≤ 1000 ∧ Sq K H a [.int e.1, .int e.2.1, .int e.2.2] ∧ (e.1 ≠ 0 ∨ e.2.1 ≠ 0) ∧ e.1.natAbs ≤ 10 ^ 9 ∧ e.2.1.natAbs ≤ 10 ^ 9 ∧ e.2.2.natAbs ≤ 10 ^ 13 ∧
  ∀ (D : Addr) (qs : List (Addr × P3)) (H' : Hp), Same H H' → H D = none → H' D = some (.lst (spRefs qs)) → SpsOk H' qs → qs.length ≤ 2 → EndsOk ss e qs → Q (.ref D) H'
theorem ok_p_edge_ends {f : Addr} {fd : FuncData} (F : Fun K "edge_ends" "edge_ends" s_p_edge_ends f fd) (Z : Zs mg) (h_p_crossing : Has P w K mg base "crossing" 4 ["one", "other"] (sp_p_crossing K)) (h_p_edge_end : Has P w K mg base "edge_end" 5 ["sides", "edge", "hand"] (sp_p_edge_end K)) : FnOk P w K mg base CX0 6 f fd ["sides", "edge"] (sp_p_edge_ends K) := by
  refine F.ok sc_p_edge_ends (fun vs H Q E h => ?_) (fun cdv A outer s H vs Q E hr h => ?_)
  · obtain ⟨l, a, ss, e, rfl, _⟩ := h
    rfl
  obtain ⟨l, a, ss, e, rfl, hl, ok, hlen, ha, hn, b1, b2, b3, q⟩ := h
  refine ⟨_, (pss_cons (ps_set (i := 2) sc_p_edge_ends.nd rfl (Or.inl rfl) (pe_lst (pa_cons (pe_callH h_p_edge_end (hr.mono (by decide)) rfl (pa_cons (pv 0) (pa_cons (pv 1) (pa_cons (pe_un un_neg pe_int) pa_nil)))) (pa_cons (pe_callH h_p_edge_end (hr.mono (by decide)) rfl (pa_cons (pv 0) (pa_cons (pv 1) (pa_cons pe_int pa_nil)))) pa_nil))))
      (pss_one (ps_ret (pe_comp (T := ["number"]) (caps := [("edge", 1), ("sides", 0)]) ⟨rfl, by decide +kernel, by decide +kernel, rfl, ⟨⟨rfl, rfl, Or.inl rfl⟩, ⟨rfl, rfl, Or.inl rfl⟩, True.intro⟩⟩ rfl (pi_seq (pv 2)) (fun _ => (pg_name (i := 0) (show (["number", "edge", "sides"] : List Str).Nodup by decide +kernel) rfl (Or.inl rfl))) (fun _ => (pifs_one (pt_cmpR op_notN (pv 0) pe_non (nomark _)))) (fun _ => (pe_callH h_p_crossing (hr.mono (by decide)) rfl (pa_cons (pv 1) (pa_cons (pe_ix ix_any (pv 2) (pv 0) (fun _ _ => rfl)) pa_nil)))))))), ?_⟩
  refine ⟨_, rfl, _, rfl, _, rfl, l, a, ss, e, -1, rfl, hl, ok, hlen, ha, hn, b1, b2, b3, .inr rfl, fun r1 H1 s1 k1 => ?_⟩
  refine ⟨_, rfl, _, rfl, l, a, ss, e, 1, rfl, s1.seq hl, ok.same s1, hlen, ha.same s1, hn, b1, b2, b3, .inl rfl, fun r2 H2 s2 k2 => ?_⟩
  refine ⟨(by show 2 ≤ sizeLine; decide), fun nl hnl => ?_⟩
  have snl : Same H2 (upd H2 nl (.lst [optV r1, optV r2])) := same_new hnl _
  have enl : upd H2 nl (.lst [optV r1, optV r2]) nl = some (.lst [optV r1, optV r2]) := upd_same
  generalize upd H2 nl (.lst [optV r1, optV r2]) = H3 at snl enl ⊢
  have s3 := (s1.trans s2).trans snl
  have one : ∀ (i : Nat) (v : V), [optV r1, optV r2][i]? = some v → (v = .non ∧ ((i = 0 ∧ EndOk ss e (-1) none) ∨ (i = 1 ∧ EndOk ss e 1 none))) ∨ ∃ (j : Nat) (t : Sd) (h : Int), v = .int j ∧ ((i = 0 ∧ h = -1) ∨ (i = 1 ∧ h = 1)) ∧ h * h = 1 ∧ ss[j]? = some t ∧ 0 < tn e t.2 * h ∧ ∀ u ∈ ss, 0 < tn e u.2 * h → sv u.2 (pt3 (crL e t.2)) ≤ 0 := fun i v hv => by
    match i, hv with
    | 0, hv =>
      cases hv
      cases r1 with
      | none => exact .inl ⟨rfl, .inl ⟨rfl, k1⟩⟩
      | some j => obtain ⟨t, g, p, r⟩ := k1; exact .inr ⟨j, t, -1, rfl, .inl ⟨rfl, rfl⟩, rfl, g, p, r⟩
    | 1, hv =>
      cases hv
      cases r2 with
      | none => exact .inl ⟨rfl, .inr ⟨rfl, k2⟩⟩
      | some j => obtain ⟨t, g, p, r⟩ := k2; exact .inr ⟨j, t, 1, rfl, .inr ⟨rfl, rfl⟩, rfl, g, p, r⟩
  refine ⟨_, rfl, nl, rfl, .inl ⟨⟨_, SqL.of enl⟩, fun c D hD => comp_list (K := K) (a := nl) (xs := [optV r1, optV r2]) (fun i σ ys H' => Same H3 H' ∧ H' D = some (.lst ys) ∧ (∃ qs : List (Addr × P3), ys = spRefs qs ∧ qs.length ≤ i ∧ SpsOk H' qs ∧ (∀ q ∈ qs, ∃ (h : Int) (j : Nat) (t : Sd), h * h = 1 ∧ ss[j]? = some t ∧ 0 < tn e t.2 * h ∧ (∀ u ∈ ss, 0 < tn e u.2 * h → sv u.2 (pt3 (crL e t.2)) ≤ 0) ∧ q.2 = pt3 (crL e t.2)) ∧
      ((0 < i → FullE ss e (-1) (qs.map (·.2))) ∧ (1 < i → FullE ss e 1 (qs.map (·.2))))) ∧ ∃ u0 : Option V, σ = [u0, some (.ref a), some (.ref l)])
    ⟨same_new hD _, upd_same, ⟨[], rfl, Nat.le_refl _, (fun t ht => nomatch ht), (fun t ht => nomatch ht), ⟨fun z => absurd z (Nat.not_lt_zero _), fun z => absurd z (Nat.not_lt_zero _)⟩⟩, none, rfl⟩ (fun i σ ys H' _ ⟨e1, e2, _⟩ => ⟨SqL.of (e1 _ _ enl), e2⟩) ?_ ?_⟩⟩
  · rintro i v σ ys H' hi ⟨sH, eD, ⟨qs, rfl, hq, okq, each, non⟩, u0, rfl⟩
    have hi2 : i < 2 := (List.getElem?_eq_some_iff.mp hi).1
    rcases one i v hi with ⟨rfl, hcase⟩ | ⟨j, t, h, rfl, hih, hh, gt, hp, hb⟩
    · refine ⟨_, rfl, rfl, _, rfl, ?_⟩
      refine iteF ?_
      refine ⟨sH, eD, ⟨qs, rfl, by omega, okq, each, ?_⟩, _, rfl⟩
      rcases hcase with ⟨rfl, k⟩ | ⟨rfl, k⟩
      · exact ⟨fun _ => .inl k, fun z' => absurd z' (by decide)⟩
      · exact ⟨fun _ => non.1 (by decide), fun _ => .inl k⟩
    · refine ⟨_, rfl, rfl, _, rfl, ?_⟩
      refine iteT ?_
      have hj : j < ss.length := (List.getElem?_eq_some_iff.mp gt).1
      obtain ⟨t', mt, gt', at'⟩ := sdRefs_at (ss := ss) (i := j) (k := (j : Int)) rfl hj
      rw [gt] at gt'
      cases gt'
      obtain ⟨et0, _, c1, c2, c3⟩ := ok t mt
      have s3H := s3.trans sH
      refine ⟨_, rfl, _, rfl, _, rfl, l, _, _, _, rfl, rfl, .inl (s3H.seq hl), at', a, t.1, e.1, e.2.1, e.2.2, t.2.1, t.2.2.1, t.2.2.2, rfl, ha.same s3H, .inr (SqT.of (s3H _ _ et0)), by omega, by omega, by omega, by omega, by omega, fun z => absurd z (ne_hand hp), fun _ p H5 s5 hp5 ep5 => ?_⟩
      obtain ⟨sp, _, _⟩ := cr_ok (ne_hand hp)
      have ep5' : H5 p = some (.tup [.int (pt3 (crL e t.2)).1, .int (pt3 (crL e t.2)).2.1, .int (pt3 (crL e t.2)).2.2]) := by
        have z : H5 p = some (.tup ((crL e t.2).map V.int)) := ep5
        rw [z, sp.list]
        rfl
      have npD : p ≠ D := fun z => by rw [z, eD] at hp5; cases hp5
      refine ⟨s5 _ _ eD, small1000 (by simp only [List.length_map]; omega), (sH.trans s5).putNew hD, upd_same, ⟨qs ++ [(p, pt3 (crL e t.2))], by simp [spRefs], by rw [List.length_append]; show qs.length + 1 ≤ i + 1; omega, fun u hu => ?_, fun u hu => ?_, ?_⟩, _, rfl⟩
      · rcases List.mem_append.mp hu with hu | hu
        · obtain ⟨g1, g2⟩ := okq u hu
          exact ⟨by rw [upd_ne (ne_of (s5 _ _ g1) (s5 _ _ eD) (by intro z; cases z))]; exact s5 _ _ g1, g2⟩
        · rw [List.mem_singleton] at hu
          subst hu
          refine ⟨?_, sp.pos, sp.low⟩
          show upd H5 D _ p = _
          rw [upd_ne npD]
          exact ep5'
      · rcases List.mem_append.mp hu with hu | hu
        · exact each u hu
        · rw [List.mem_singleton] at hu
          subst hu
          exact ⟨h, j, t, hh, gt, hp, hb, rfl⟩
      · have me : FullE ss e h ((qs ++ [(p, pt3 (crL e t.2))]).map (·.2)) := .inr ⟨j, t, gt, hp, hb, by rw [List.map_append]; exact List.mem_append_right _ (List.mem_singleton.mpr rfl)⟩
        rcases hih with ⟨rfl, rfl⟩ | ⟨rfl, rfl⟩
        · exact ⟨fun _ => me, fun z' => absurd z' (by decide)⟩
        · exact ⟨fun _ => by rw [List.map_append]; exact (non.1 (by decide)).app, fun _ => me⟩
  · rintro σ ys H' ⟨sH, eD, ⟨qs, rfl, hq, okq, each, non⟩, u0, rfl⟩
    have f1 := non.2 (by show 1 < 2; decide)
    have f2 := non.1 (by show 0 < 2; decide)
    refine q D qs H' (s3.trans sH) (s3.free hD) eD okq hq ⟨each, fun z => ?_, f1, f2⟩
    rw [z] at f1 f2
    refine ⟨?_, ?_⟩
    · rcases f1 with f | ⟨_, _, _, _, _, m⟩
      · exact f
      · exact nomatch m
    · rcases f2 with f | ⟨_, _, _, _, _, m⟩
      · exact f
      · exact nomatch m
/-- a spot that stands at an address -/
def SpAt (H : Hp) (p : Addr) (P : P3) : Prop := H p = some (.tup [.int P.1, .int P.2.1, .int P.2.2]) ∧ 0 < P.2.2 ∧ Nat.gcd (Nat.gcd P.1.natAbs P.2.1.natAbs) P.2.2.natAbs = 1
theorem SpAt.same {H H' : Hp} {p : Addr} {P : P3} (h : SpAt H p P) (s : Same H H') : SpAt H' p P := ⟨s _ _ h.1, h.2⟩
def sp_p_spot_on_edge (K : PySem.W.Frag) : Sp := fun vs H Q _ => ∃ (l a : Addr) (ss : List Sd) (e : P3), vs = [.ref l, .ref a] ∧ SqL K H l (sdRefs ss) ∧ SdOk H ss ∧ ss.length ≤ 900 ∧ Sq K H a [.int e.1, .int e.2.1, .int e.2.2] ∧ (e.1 ≠ 0 ∨ e.2.1 ≠ 0) ∧ e.1.natAbs ≤ 10 ^ 9 ∧ e.2.1.natAbs ≤ 10 ^ 9 ∧ e.2.2.natAbs ≤ 10 ^ 13 ∧
  (∀ H', Same H H' → (∀ z : P3, sv e z = 0 → 0 < z.2.2 → ¬ inW ss z) → Q .non H') ∧
  ∀ (p : Addr) (P : P3) (H' : Hp), Same H H' → SpAt H' p P → inW ss P → sv e P = 0 → (P = pt3 (ftL e) ∨ ∃ t ∈ ss, tn e t.2 ≠ 0 ∧ P = pt3 (crL e t.2)) → Q (.ref p) H'
theorem ok_p_spot_on_edge {f : Addr} {fd : FuncData} (F : Fun K "spot_on_edge" "spot_on_edge" s_p_spot_on_edge f fd) (Z : Zs mg) (h_p_edge_ends : Has P w K mg base "edge_ends" 6 ["sides", "edge"] (sp_p_edge_ends K)) (h_p_foot : Has P w K mg base "foot" 5 ["side"] (sp_p_foot K)) (h_p_in_water : Has P w K mg base "in_water" 3 ["sides", "place"] (sp_p_in_water K)) : FnOk P w K mg base CX0 7 f fd ["sides", "edge"] (sp_p_spot_on_edge K) := by
  refine F.ok sc_p_spot_on_edge (fun vs H Q E h => ?_) (fun cdv A outer s H vs Q E hr h => ?_)
  · obtain ⟨l, a, ss, e, rfl, _⟩ := h
    rfl
  obtain ⟨l, a, ss, e, rfl, hl, ok, hlen, ha, hn, b1, b2, b3, qn, q⟩ := h
  have hN := nn_pos hn
  refine ⟨_, (pss_cons (ps_for PassesOwn.never rfl (pi_seq (pe_op op_cat (pe_callH h_p_edge_ends (hr.mono (by decide)) rfl (pa_cons (pv 0) (pa_cons (pv 1) pa_nil))) (pe_lst (pa_cons (pe_callH h_p_foot (hr.mono (by decide)) rfl (pa_cons (pv 1) pa_nil)) pa_nil)))) (pg_name (i := 2) sc_p_spot_on_edge.nd rfl (Or.inl rfl)) (pss_one (ps_if (pt_val (pe_callH h_p_in_water (hr.mono (by decide)) rfl (pa_cons (pv 0) (pa_cons (pv 2) pa_nil)))) (pss_one (ps_ret (pv 2))) pss_nil)))
      (pss_one (ps_ret pe_non))), ?_⟩
  refine ⟨_, rfl, _, rfl, l, a, ss, e, rfl, hl, ok, by omega, ha, hn, b1, b2, b3, fun D qs H1 s1 hD eD okq hq ends => ?_⟩
  refine ⟨_, rfl, a, e, rfl, ha.same s1, hn, b1, b2, fun fp H2 s2 hfp efp => ?_⟩
  obtain ⟨sf, f1⟩ := ft_ok hn
  have efp' : H2 fp = some (.tup [.int (pt3 (ftL e)).1, .int (pt3 (ftL e)).2.1, .int (pt3 (ftL e)).2.2]) := by
    rw [efp, sf.list]
    rfl
  refine ⟨(by show 1 ≤ sizeLine; decide), fun fl hfl => ?_⟩
  have sfl : Same H2 (upd H2 fl (.lst [.ref fp])) := same_new hfl _
  have efl : upd H2 fl (.lst [.ref fp]) fl = some (.lst [.ref fp]) := upd_same
  generalize upd H2 fl (.lst [.ref fp]) = H3 at sfl efl ⊢
  refine ⟨D, fl, _, _, rfl, rfl, sfl _ _ (s2 _ _ eD), efl, small (by simp only [List.length_map]; show qs.length + 1 ≤ 1000; omega), fun L hL => ?_⟩
  have sL : Same H3 (upd H3 L (.lst (spRefs qs ++ [.ref fp]))) := same_new hL _
  have eL : upd H3 L (.lst (spRefs qs ++ [.ref fp])) L = some (.lst (spRefs (qs ++ [(fp, pt3 (ftL e))]))) := by rw [upd_same]; simp [spRefs]
  generalize upd H3 L (.lst (spRefs qs ++ [.ref fp])) = H4 at sL eL ⊢
  have s24 := sfl.trans sL
  have s14 := s2.trans s24
  have s04 := s1.trans s14
  have okA : SpsOk H4 (qs ++ [(fp, pt3 (ftL e))]) := fun u hu => by
    rcases List.mem_append.mp hu with hu | hu
    · exact okq.same s14 u hu
    · rw [List.mem_singleton] at hu
      subst hu
      exact ⟨s24 _ _ efp', sf.pos, sf.low⟩
  refine ⟨L, rfl, .inl ⟨⟨_, SqL.of eL⟩, for_list (K := K) (a := L) (xs := spRefs (qs ++ [(fp, pt3 (ftL e))])) (fun i σ H' => H4 = H' ∧ (∀ j u, j < i → (qs ++ [(fp, pt3 (ftL e))])[j]? = some u → ¬ inW ss u.2) ∧ ∃ u2 : Option V, σ = [some (.ref l), some (.ref a), u2])
    ⟨rfl, fun j t hj => absurd hj (Nat.not_lt_zero _), none, rfl⟩ (fun i σ H' _ ⟨e1, _⟩ => by rw [← e1]; exact SqL.of eL) ?_ ?_⟩⟩
  · rintro i v σ H' hi ⟨rfl, hall, u2, rfl⟩
    rw [List.getElem?_map, List.getElem?_map] at hi
    cases gu : (qs ++ [(fp, pt3 (ftL e))])[i]? with
    | none => rw [gu] at hi; cases hi
    | some u =>
      rw [gu] at hi
      cases hi
      obtain ⟨eu, pu, lu⟩ := okA u (List.mem_of_getElem? gu)
      refine ⟨_, rfl, _, rfl, l, u.1, ss, u.2, rfl, s04.seq hl, ok.same s04, .inr (SqT.of eu), _, rfl, ?_⟩
      by_cases hw : inWB ss u.2 = true
      · rw [hw]
        refine iteT ?_
        have on : sv e u.2 = 0 ∧ (u.2 = pt3 (ftL e) ∨ ∃ t ∈ ss, tn e t.2 ≠ 0 ∧ u.2 = pt3 (crL e t.2)) := by
          rcases List.mem_append.mp (List.mem_of_getElem? gu) with hu | hu
          · obtain ⟨h, j, t, _, gt, hp, _, eq⟩ := ends.each u hu
            rw [eq]
            exact ⟨(cr_ok (ne_hand hp)).2.1, .inr ⟨t, List.mem_of_getElem? gt, ne_hand hp, rfl⟩⟩
          · rw [List.mem_singleton] at hu
            rw [hu]
            exact ⟨f1, .inl rfl⟩
        exact ⟨_, rfl, q u.1 u.2 _ s04 ⟨eu, pu, lu⟩ (inWB_iff.mp hw) on.1 on.2⟩
      · have hw' : inWB ss u.2 = false := by simpa using hw
        rw [hw']
        refine iteF ?_
        refine ⟨rfl, fun j t hj ht => ?_, _, rfl⟩
        by_cases ej : j = i
        · rw [ej, gu] at ht
          cases ht
          exact fun z => hw (inWB_iff.mpr z)
        · exact hall j t (by omega) ht
  · rintro σ H' ⟨rfl, hall, u2, rfl⟩
    refine qn _ s04 fun z hz zw wz => ?_
    have nin : ∀ u ∈ qs ++ [(fp, pt3 (ftL e))], ¬ inW ss u.2 := fun u hu => by
      obtain ⟨j, hj, ej⟩ := List.getElem_of_mem hu
      exact hall j u (by simp only [List.length_map]; exact hj) (by rw [List.getElem?_eq_getElem hj, ej])
    cases qs with
    | nil =>
      obtain ⟨n1, n2⟩ := ends.none rfl
      exact nin (fp, pt3 (ftL e)) (by simp) (beside_in hN hz zw wz f1 sf.pos n1 n2)
    | cons u us =>
      obtain ⟨h, j, t, hh, gt, hp, hb, eq⟩ := ends.each u (List.mem_cons_self ..)
      refine nin u (by simp) ?_
      rw [eq]
      exact end_in hh hN hz zw wz gt hp hb
theorem sd_upto (ss : List Sd) (n : Nat) : cutV (sdRefs ss) none (some (n : Int)) = sdRefs (ss.take n) := by
  unfold cutV
  rw [show HT.sIx (sdRefs ss).length 0 none = 0 from rfl, HT.sIx_nat (sdRefs ss).length (sdRefs ss).length n, List.drop_zero, Nat.sub_zero]
  rw [sdRefs_length]
  simp only [sdRefs, ← List.map_take]
  congr 2
  rw [List.take_eq_take_iff]
  omega
def sp_p_sought (K : PySem.W.Frag) : Sp := fun vs H Q _ => ∃ (l : Addr) (ss : List Sd), vs = [.ref l] ∧ SqL K H l (sdRefs ss) ∧ SdOk H ss ∧ ss.length ≤ 900 ∧
  (∀ (t : Addr) (j : Nat) (e : Sd) (P : P3) (H' : Hp), Same H H' → H' t = some (.tup [.non, .int j]) → Stuck ss j e P → Q (.ref t) H') ∧
  ∀ (t p : Addr) (P : P3) (H' : Hp), Same H H' → H' t = some (.tup [.ref p, .non]) → SpAt H' p P → inW ss P → Cand ss P → Q (.ref t) H'
theorem ok_p_sought {f : Addr} {fd : FuncData} (F : Fun K "sought" "sought" s_p_sought f fd) (Z : Zs mg) (h_p_holds : Has P w K mg base "holds" 2 ["side", "spot"] (sp_p_holds K)) (h_p_spot_on_edge : Has P w K mg base "spot_on_edge" 7 ["sides", "edge"] (sp_p_spot_on_edge K)) (h_p_spot : Has P w K mg base "spot" 4 ["x", "y", "w"] (sp_p_spot K)) : FnOk P w K mg base CX0 8 f fd ["sides"] (sp_p_sought K) := by
  refine F.ok sc_p_sought (fun vs H Q E h => ?_) (fun cdv A outer s H vs Q E hr h => ?_)
  · obtain ⟨l, ss, rfl, _⟩ := h
    rfl
  obtain ⟨l, ss, rfl, hl, ok, hlen, qn, q⟩ := h
  refine ⟨_, (pss_cons (ps_set (i := 1) sc_p_sought.nd rfl (Or.inl rfl) (pe_callH h_p_spot (hr.mono (by decide)) rfl (pa_cons pe_int (pa_cons pe_int (pa_cons pe_int pa_nil)))))
      (pss_cons (ps_for PassesOwn.never rfl (pi_range1 rfl Z.range (pa_cons (pe_callB call_len_seq rfl Z.len bt_len (pa_cons (pv 0) pa_nil)) pa_nil)) (pg_name (i := 2) sc_p_sought.nd rfl (Or.inl rfl)) (pss_one (ps_if (pt_not (pt_val (pe_callH h_p_holds (hr.mono (by decide)) rfl (pa_cons (pe_ix ix_any (pv 0) (pv 2) (fun _ _ => rfl)) (pa_cons (pv 1) pa_nil))))) (pss_cons (ps_set (i := 1) sc_p_sought.nd rfl (Or.inl rfl) (pe_callH h_p_spot_on_edge (hr.mono (by decide)) rfl (pa_cons (pe_slice sl_list (pv 0) po_none (po_some (pv 2))) (pa_cons (pe_ix ix_any (pv 0) (pv 2) (fun _ _ => rfl)) pa_nil))))
      (pss_one (ps_if (pt_cmpR op_isN (pv 1) pe_non (nomark _)) (pss_one (ps_ret (pe_tup (pa_cons pe_non (pa_cons (pv 2) pa_nil))))) pss_nil))) pss_nil)))
      (pss_one (ps_ret (pe_tup (pa_cons (pv 1) (pa_cons pe_non pa_nil))))))), ?_⟩
  refine ⟨0, 0, 1, rfl, by decide, by decide +kernel, fun p0 H1 s1 hp0 ep0 => ?_⟩
  have ep0' : SpAt H1 p0 (0, 0, 1) := ⟨ep0, by decide, by decide⟩
  refine ⟨_, rfl, l, _, rfl, .inl (s1.seq hl), _, rfl, (by rw [sdRefs_length]; omega), (by rw [sdRefs_length]; omega), for_range (lo := 0) (n := (((sdRefs ss).length : Nat) : Int).toNat) (fun i σ H' => Same H H' ∧ ∃ (p : Addr) (P : P3) (u2 : Option V), SpAt H' p P ∧ inW (ss.take i) P ∧ Cand ss P ∧ σ = [some (.ref l), some (.ref p), u2])
    ⟨s1, p0, (0, 0, 1), none, ep0', (fun t ht => nomatch ht), .inl rfl, rfl⟩ ?_ ?_⟩
  · rintro i σ H' hi ⟨sH, p, P, u2, ep, wp, cp, rfl⟩
    have hil : i < ss.length := by rw [Int.toNat_natCast, sdRefs_length] at hi; exact hi
    obtain ⟨t, mt, gt, at'⟩ := sdRefs_at (ss := ss) (i := i) (k := 0 + (i : Int)) (by omega) hil
    obtain ⟨et0, nt, c1, c2, c3⟩ := ok t mt
    have et : Sq K H' t.1 [.int t.2.1, .int t.2.2.1, .int t.2.2.2] := .inr (SqT.of (sH _ _ et0))
    refine ⟨_, rfl, _, rfl, l, _, _, _, rfl, rfl, .inl (sH.seq hl), at', _, rfl, t.1, p, t.2.1, t.2.2.1, t.2.2.2, P.1, P.2.1, P.2.2, rfl, et, .inr (SqT.of ep.1), by omega, by omega, by omega, _, rfl, ?_⟩
    refine ifN (fun hout => ?_) (fun hin => ?_)
    · have hout' : 0 < sv t.2 P := by
        have : ¬ sv t.2 P ≤ 0 := hout
        omega
      refine ⟨_, rfl, _, rfl, _, rfl, l, _, rfl, sH.seq hl, fun c hc => ?_⟩
      rw [show (0 : Int) + (i : Int) = ((i : Nat) : Int) from Int.zero_add _, sd_upto]
      have sc := same_new hc (.lst (sdRefs (ss.take i)))
      have ec : upd H' c (.lst (sdRefs (ss.take i))) c = some (.lst (sdRefs (ss.take i))) := upd_same
      generalize upd H' c (.lst (sdRefs (ss.take i))) = H2 at sc ec ⊢
      have sH2 := sH.trans sc
      rw [show (0 : Int) + (i : Int) = ((i : Nat) : Int) from Int.zero_add _] at at'
      refine ⟨_, rfl, _, rfl, l, _, _, _, rfl, rfl, .inl (sH2.seq hl), at', c, t.1, ss.take i, t.2, rfl, SqL.of ec, (fun u hu => ok.same sH2 u (List.mem_of_mem_take hu)), by rw [List.length_take]; omega, et.same sc, nt, c1, c2, c3, fun H3 s3 no => ?_, fun p3 P3' H3 s3 ep3 wp3 on3 cd3 => ?_⟩
      · refine ⟨_, rfl, rfl, _, rfl, ?_⟩
        refine iteT ?_
        refine ⟨_, rfl, (by show 2 ≤ sizeLine; decide), fun tt htt => ?_⟩
        exact qn tt i t P _ ((sH2.trans s3).trans (same_new htt _)) upd_same ⟨gt, ep.2.1, wp, hout', no⟩
      · refine ⟨_, rfl, rfl, _, rfl, ?_⟩
        refine iteF ?_
        refine ⟨sH2.trans s3, p3, P3', _, ep3, fun u hu => ?_, ?_, rfl⟩
        · rw [take_snoc gt] at hu
          rcases List.mem_append.mp hu with hu | hu
          · exact wp3 u hu
          · rw [List.mem_singleton] at hu
            rw [hu, on3]
            exact Int.le_refl _
        · rcases cd3 with h | ⟨u, hu, ht, h⟩
          · exact .inr (.inl ⟨t, mt, h⟩)
          · exact .inr (.inr ⟨t, mt, u, List.mem_of_mem_take hu, ht, h⟩)
    · refine ⟨sH, p, P, _, ep, fun u hu => ?_, cp, rfl⟩
      rw [take_snoc gt] at hu
      rcases List.mem_append.mp hu with hu | hu
      · exact wp u hu
      · rw [List.mem_singleton] at hu
        rw [hu]
        exact hin
  · rintro σ H' ⟨sH, p, P, u2, ep, wp, cp, rfl⟩
    rw [Int.toNat_natCast, sdRefs_length, List.take_length] at wp
    refine ⟨_, rfl, (by show 2 ≤ sizeLine; decide), fun tt htt => ?_⟩
    have st := same_new htt (.tup [.ref p, .non])
    exact q tt p P _ (sH.trans st) upd_same (ep.same st) wp cp
def sp_p_span (K : PySem.W.Frag) : Sp := fun vs H Q _ => ∃ (a : Addr) (us : List V) (x y : Int), vs = [.ref a] ∧ Sq K H a us ∧ atI us 0 = some (.int x) ∧ atI us 1 = some (.int y) ∧ Q (.int (span2 x y)) H
theorem ok_p_span {f : Addr} {fd : FuncData} (F : Fun K "span" "span" s_p_span f fd) (Z : Zs mg)  : FnOk P w K mg base CX0 1 f fd ["direction"] (sp_p_span K) := by
  refine F.ok sc_p_span (fun vs H Q E h => ?_) (fun cdv A outer s H vs Q E hr h => ?_)
  · obtain ⟨a, us, x, y, rfl, _⟩ := h
    rfl
  obtain ⟨a, us, x, y, rfl, ha, h0, h1, q⟩ := h
  refine ⟨_, (pss_one (ps_ret (pe_op op_add (pe_callB call_abs rfl Z.abs bt_abs (pa_cons (pe_ix ix_any (pv 0) pe_int (fun _ _ => rfl)) pa_nil)) (pe_callB call_abs rfl Z.abs bt_abs (pa_cons (pe_ix ix_any (pv 0) pe_int (fun _ _ => rfl)) pa_nil))))), ?_⟩
  exact ⟨_, rfl, a, _, _, .int x, rfl, rfl, ha, h0, _, rfl, _, rfl, a, _, _, .int y, rfl, rfl, ha, h1, _, rfl, _, _, rfl, rfl, q⟩
def sp_p_weighed (K : PySem.W.Frag) : Sp := fun vs H Q _ => ∃ (a b : Addr) (ns ws : List Int), vs = [.ref a, .ref b] ∧ SqL K H a (ns.map V.int) ∧ SqL K H b (ws.map V.int) ∧ ns.length = ws.length ∧ ws.length ≤ 900 ∧ 0 < gcdL ws ∧ (gcdL ws : Int) < 10 ^ 600 ∧
  ∀ (D : Addr) (cs : List Pr) (H' : Hp), Same H H' → H D = none → H' D = some (.lst (refsOf cs)) → PrAt H' cs → cs.map (·.2) = ns.zip (lowL ws) → Q (.ref D) H'
theorem ok_p_weighed {f : Addr} {fd : FuncData} (F : Fun K "weighed" "weighed" s_p_weighed f fd) (Z : Zs mg) (h_p_lowest : Has P w K mg base "lowest" 2 ["numbers"] (sp_p_lowest K)) : FnOk P w K mg base CX0 3 f fd ["numbers", "weights"] (sp_p_weighed K) := by
  refine F.ok sc_p_weighed (fun vs H Q E h => ?_) (fun cdv A outer s H vs Q E hr h => ?_)
  · obtain ⟨a, b, ns, ws, rfl, _⟩ := h
    rfl
  obtain ⟨a, b, ns, ws, rfl, ha, hb, hn, hl, hg, hg2, q⟩ := h
  refine ⟨_, (pss_cons (ps_set (i := 2) sc_p_weighed.nd rfl (Or.inr rfl) (pe_callH h_p_lowest (hr.mono (by decide)) rfl (pa_cons (pv 1) pa_nil)))
      (pss_one (ps_ret (pe_comp (T := ["at"]) (caps := [("least", 2), ("numbers", 0)]) ⟨rfl, by decide +kernel, by decide +kernel, rfl, ⟨⟨rfl, rfl, Or.inl rfl⟩, ⟨rfl, rfl, Or.inl rfl⟩, True.intro⟩⟩ rfl (pi_range1 rfl Z.range (pa_cons (pe_callB call_len_seq rfl Z.len bt_len (pa_cons (pv 0) pa_nil)) pa_nil)) (fun _ => (pg_name (i := 0) (show (["at", "least", "numbers"] : List Str).Nodup by decide +kernel) rfl (Or.inl rfl))) (fun _ => pifs_nil) (fun _ => (pe_tup (pa_cons (pe_ix ix_any (pv 2) (pv 0) (fun _ _ => rfl)) (pa_cons (pe_ix ix_any (pv 1) (pv 0) (fun _ _ => rfl)) pa_nil)))))))), ?_⟩
  refine ⟨_, rfl, b, ws, rfl, .inl hb, by omega, hg, hg2, fun p H1 s1 hp ep => ?_⟩
  have hlow : (lowL ws).length = ws.length := by unfold lowL; rw [List.length_map]
  have ha1 := s1.seq ha
  refine ⟨_, rfl, a, _, rfl, .inl ha1, _, rfl, (by rw [List.length_map]; omega), (by rw [List.length_map]; omega), fun cc D hD => comp_range0 (lo := 0) (n := (((ns.map V.int).length : Nat) : Int).toNat) (fun i σ ys G => Same H1 G ∧ G D = some (.lst ys) ∧ (∃ cs : List Pr, ys = refsOf cs ∧ PrAt G cs ∧ cs.map (·.2) = (ns.zip (lowL ws)).take i) ∧ ∃ u0 : Option V, σ = [u0, some (.ref p), some (.ref a)])
    ⟨same_new hD _, upd_same, ⟨[], rfl, (fun t ht => nomatch ht), rfl⟩, none, rfl⟩ (fun i σ ys G _ ⟨_, e, _⟩ => e) ?_ ?_⟩
  · rintro i σ ys G hi ⟨sG, eD, ⟨cs, rfl, okc, mc⟩, u0, rfl⟩
    rw [Int.toNat_natCast, List.length_map] at hi
    have lc : cs.length ≤ i := by
      have z := congrArg List.length mc
      rw [List.length_map, List.length_take] at z
      omega
    obtain ⟨n, gn, an⟩ := ints_at (ns := ns) (i := i) (k := 0 + (i : Int)) (by omega) hi
    obtain ⟨m, gm, am⟩ := ints_at (ns := lowL ws) (i := i) (k := 0 + (i : Int)) (by omega) (by omega)
    refine ⟨_, rfl, _, rfl, a, _, _, _, rfl, rfl, .inl (sG.seq ha1), an, _, rfl, _, rfl, p, _, _, _, rfl, rfl, .inr (SqT.of (sG _ _ ep)), am, (by show 2 ≤ sizeLine; decide), fun t ht => ?_⟩
    have st := same_new ht (.tup [.int n, .int m])
    have ntD : t ≠ D := fun z => by rw [z, eD] at ht; cases ht
    refine ⟨st _ _ eD, small1000 (by rw [refsOf_length]; omega), (sG.trans st).putNew hD, upd_same, ⟨cs ++ [(t, n, m)], by simp [refsOf], fun u hu => ?_, ?_⟩, _, rfl⟩
    · rcases List.mem_append.mp hu with hu | hu
      · rw [upd_ne (ne_of (st _ _ (okc u hu)) (st _ _ eD) (by intro z; cases z))]
        exact st _ _ (okc u hu)
      · rw [List.mem_singleton] at hu
        subst hu
        show upd _ D _ t = _
        rw [upd_ne ntD]
        exact upd_same
    · rw [List.map_append, mc, take_snoc (x := (n, m)) (by rw [List.getElem?_zip_eq_some]; exact ⟨gn, gm⟩)]
      rfl
  · rintro σ ys G ⟨sG, eD, ⟨cs, rfl, okc, mc⟩, u0, rfl⟩
    rw [Int.toNat_natCast, List.length_map, List.take_of_length_le (by rw [List.length_zip]; omega)] at mc
    exact q D cs G (s1.trans sG) (s1.free hD) eD okc mc
theorem abs_le {a b c d : Int} (ha : a.natAbs ≤ 10 ^ 9) (hb : b.natAbs ≤ 10 ^ 9) (hc : c.natAbs ≤ 10 ^ 9) (hd : d.natAbs ≤ 10 ^ 9) : absI (a * b - c * d) ≤ 10 ^ 19 := by
  have z1 := natAbs_mul_le a b ha hb
  have z2 := natAbs_mul_le c d hc hd
  unfold absI
  split <;> omega
def sp_p_clash_of_three (K : PySem.W.Frag) : Sp := fun vs H Q _ => ∃ (l : Addr) (ss : List Sd) (j : Nat) (e : Sd) (P : P3), vs = [.ref l, .int j] ∧ SqL K H l (sdRefs ss) ∧ SdOk H ss ∧ ss.length ≤ 900 ∧ Stuck ss j e P ∧ (∀ t ∈ ss.take j, tn e.2 t.2 = 0 → sv t.2 (pt3 (ftL e.2)) ≤ 0) ∧
  ∀ (D : Addr) (cs : List Pr) (H' : Hp), Same H H' → H D = none → H' D = some (.lst (refsOf cs)) → PrAt H' cs → Clash ss (cs.map (·.2)) → Q (.ref D) H'
theorem ok_p_clash_of_three {f : Addr} {fd : FuncData} (F : Fun K "clash_of_three" "clash_of_three" s_p_clash_of_three f fd) (Z : Zs mg) (h_p_weighed : Has P w K mg base "weighed" 3 ["numbers", "weights"] (sp_p_weighed K)) (h_p_turn : Has P w K mg base "turn" 1 ["one", "other"] (sp_p_turn K)) (h_p_edge_end : Has P w K mg base "edge_end" 5 ["sides", "edge", "hand"] (sp_p_edge_end K)) : FnOk P w K mg base CX0 6 f fd ["sides", "last"] (sp_p_clash_of_three K) := by
  refine F.ok sc_p_clash_of_three (fun vs H Q E h => ?_) (fun cdv A outer s H vs Q E hr h => ?_)
  · obtain ⟨l, ss, j, e, P, rfl, _⟩ := h
    rfl
  obtain ⟨l, ss, j, e, P, rfl, hl, ok, hlen, st, bes, q⟩ := h
  have hj : j < ss.length := (List.getElem?_eq_some_iff.mp st.at').1
  obtain ⟨e', me, ge, at'⟩ := sdRefs_at (ss := ss) (i := j) (k := (j : Int)) rfl hj
  rw [st.at'] at ge
  cases ge
  obtain ⟨ee, ne, c1, c2, c3⟩ := ok e me
  have hN := nn_pos ne
  obtain ⟨sf, f1⟩ := ft_ok ne
  refine ⟨_, (pss_cons (ps_set (i := 2) sc_p_clash_of_three.nd rfl (Or.inl rfl) (pe_ix ix_any (pv 0) (pv 1) (fun _ _ => rfl)))
      (pss_cons (ps_set (i := 3) sc_p_clash_of_three.nd rfl (Or.inl rfl) (pe_callB call_sortedI rfl Z.sorted bt_sorted (pa_cons (pe_lst (pa_cons (pe_callH h_p_edge_end (hr.mono (by decide)) rfl (pa_cons (pe_slice sl_list (pv 0) po_none (po_some (pv 1))) (pa_cons (pv 2) (pa_cons (pe_un un_neg pe_int) pa_nil)))) (pa_cons (pe_callH h_p_edge_end (hr.mono (by decide)) rfl (pa_cons (pe_slice sl_list (pv 0) po_none (po_some (pv 1))) (pa_cons (pv 2) (pa_cons pe_int pa_nil)))) pa_nil))) pa_nil)))
      (pss_cons (ps_set (i := 4) sc_p_clash_of_three.nd rfl (Or.inl rfl) (pe_ix ix_any (pv 0) (pe_ix ix_any (pv 3) pe_int (fun _ _ => rfl)) (fun _ _ => rfl)))
      (pss_cons (ps_set (i := 5) sc_p_clash_of_three.nd rfl (Or.inl rfl) (pe_ix ix_any (pv 0) (pe_ix ix_any (pv 3) pe_int (fun _ _ => rfl)) (fun _ _ => rfl)))
      (pss_cons (ps_set (i := 6) sc_p_clash_of_three.nd rfl (Or.inl rfl) (pe_lst (pa_cons (pe_callB call_abs rfl Z.abs bt_abs (pa_cons (pe_callH h_p_turn (hr.mono (by decide)) rfl (pa_cons (pv 5) (pa_cons (pv 2) pa_nil))) pa_nil)) (pa_cons (pe_callB call_abs rfl Z.abs bt_abs (pa_cons (pe_callH h_p_turn (hr.mono (by decide)) rfl (pa_cons (pv 2) (pa_cons (pv 4) pa_nil))) pa_nil)) (pa_cons (pe_callB call_abs rfl Z.abs bt_abs (pa_cons (pe_callH h_p_turn (hr.mono (by decide)) rfl (pa_cons (pv 4) (pa_cons (pv 5) pa_nil))) pa_nil)) pa_nil)))))
      (pss_one (ps_ret (pe_callH h_p_weighed (hr.mono (by decide)) rfl (pa_cons (pe_op op_cat (pv 3) (pe_lst (pa_cons (pv 1) pa_nil))) (pa_cons (pv 6) pa_nil)))))))))), ?_⟩
  -- edge = sides[last]
  refine ⟨_, rfl, _, rfl, l, _, _, _, rfl, rfl, .inl hl, at', ?_⟩
  -- numbers = sorted([edge_end(sides[:last], edge, -1), edge_end(sides[:last], edge, 1)])
  refine ⟨_, rfl, _, rfl, _, rfl, l, _, rfl, hl, fun c hc => ?_⟩
  rw [sd_upto]
  have sc := same_new hc (.lst (sdRefs (ss.take j)))
  have ec : upd H c (.lst (sdRefs (ss.take j))) c = some (.lst (sdRefs (ss.take j))) := upd_same
  generalize upd H c (.lst (sdRefs (ss.take j))) = H1 at sc ec ⊢
  refine ⟨_, rfl, _, rfl, c, e.1, ss.take j, e.2, -1, rfl, SqL.of ec, (fun u hu => ok.same sc u (List.mem_of_mem_take hu)), by rw [List.length_take]; omega, .inr (SqT.of (sc _ _ ee)), ne, c1, c2, c3, .inr rfl, fun r1 H2 s2 k1 => ?_⟩
  have sH2 := sc.trans s2
  refine ⟨_, rfl, _, rfl, _, rfl, l, _, rfl, sH2.seq hl, fun d hd => ?_⟩
  rw [sd_upto]
  have sd := same_new hd (.lst (sdRefs (ss.take j)))
  have ed : upd H2 d (.lst (sdRefs (ss.take j))) d = some (.lst (sdRefs (ss.take j))) := upd_same
  generalize upd H2 d (.lst (sdRefs (ss.take j))) = H3 at sd ed ⊢
  have sH3 := sH2.trans sd
  refine ⟨_, rfl, d, e.1, ss.take j, e.2, 1, rfl, SqL.of ed, (fun u hu => ok.same sH3 u (List.mem_of_mem_take hu)), by rw [List.length_take]; omega, .inr (SqT.of (sH3 _ _ ee)), ne, c1, c2, c3, .inl rfl, fun r2 H4 s4 k2 => ?_⟩
  have sH4 := sH3.trans s4
  obtain ⟨i1, rfl⟩ : ∃ i1, r1 = some i1 := by
    cases r1 with
    | some i1 => exact ⟨i1, rfl⟩
    | none => exact (end_some (h := -1) (by decide) hN f1 sf.pos st.no bes k1 (show EndOk (ss.take j) e.2 (- -1) r2 from k2)).elim
  obtain ⟨i2, rfl⟩ : ∃ i2, r2 = some i2 := by
    cases r2 with
    | some i2 => exact ⟨i2, rfl⟩
    | none => exact (end_some (h := 1) (by decide) hN f1 sf.pos st.no bes k2 k1).elim
  obtain ⟨a, ga, ha, ta⟩ := k1
  obtain ⟨b, gb, hb, tb⟩ := k2
  refine ⟨(by show 2 ≤ sizeLine; decide), fun nl hnl => ?_⟩
  have snl : Same H4 (upd H4 nl (.lst [optV (some i1), optV (some i2)])) := same_new hnl _
  have enl : upd H4 nl (.lst [optV (some i1), optV (some i2)]) nl = some (.lst ([(i1 : Int), (i2 : Int)].map V.int)) := upd_same
  generalize upd H4 nl (.lst [optV (some i1), optV (some i2)]) = H5 at snl enl ⊢
  have sH5 := sH4.trans snl
  refine ⟨nl, [(i1 : Int), (i2 : Int)], rfl, SqL.of enl, (by show 2 < 64; decide), fun sn ms hsn pm pw => ?_⟩
  have di : i1 ≠ i2 := fun z => by
    rw [z, gb] at ga
    cases ga
    omega
  obtain ⟨x, y, s1, t1, h, rfl, hxy, gx, gy, h1, hs1, ht1, as1, at1⟩ : ∃ (x y : Nat) (s1 t1 : Sd) (h : Int), ms = [(x : Int), (y : Int)] ∧ x < y ∧ (ss.take j)[x]? = some s1 ∧ (ss.take j)[y]? = some t1 ∧ (h = 1 ∨ h = -1) ∧ 0 < tn e.2 s1.2 * h ∧ 0 < tn e.2 t1.2 * -h ∧
      (∀ u ∈ ss.take j, 0 < tn e.2 u.2 * h → sv u.2 (pt3 (crL e.2 s1.2)) ≤ 0) ∧ (∀ u ∈ ss.take j, 0 < tn e.2 u.2 * -h → sv u.2 (pt3 (crL e.2 t1.2)) ≤ 0) := by
    rcases two_sorted pm pw with ⟨rfl, le⟩ | ⟨rfl, le⟩
    · exact ⟨i1, i2, a, b, -1, rfl, by omega, ga, gb, .inr rfl, ha, hb, ta, tb⟩
    · exact ⟨i2, i1, b, a, 1, rfl, by omega, gb, ga, .inl rfl, hb, ha, tb, ta⟩
  have hh : h * h = 1 := by rcases h1 with rfl | rfl <;> rfl
  obtain ⟨A1, A2, A3, A4⟩ := three hh hN f1 sf.pos st.no bes (List.mem_of_getElem? gx) (List.mem_of_getElem? gy) hs1 ht1 as1 at1 st.pos st.ahead st.out
  have gx' : ss[x]? = some s1 ∧ x < j := by
    rw [List.getElem?_take] at gx
    split at gx
    · exact ⟨gx, by omega⟩
    · cases gx
  have gy' : ss[y]? = some t1 ∧ y < j := by
    rw [List.getElem?_take] at gy
    split at gy
    · exact ⟨gy, by omega⟩
    · cases gy
  obtain ⟨_, mx, gx2, atx⟩ := sdRefs_at (ss := ss) (i := x) (k := (x : Int)) rfl (by omega)
  rw [gx'.1] at gx2
  cases gx2
  obtain ⟨_, my, gy2, aty⟩ := sdRefs_at (ss := ss) (i := y) (k := (y : Int)) rfl (by omega)
  rw [gy'.1] at gy2
  cases gy2
  obtain ⟨es, ns, d1, d2, d3⟩ := ok s1 mx
  obtain ⟨et, nt, g1, g2, g3⟩ := ok t1 my
  have ssn : Same H5 (upd H5 sn (.lst ([(x : Int), (y : Int)].map V.int))) := same_new hsn _
  have esn : upd H5 sn (.lst ([(x : Int), (y : Int)].map V.int)) sn = some (.lst ([(x : Int), (y : Int)].map V.int)) := upd_same
  generalize upd H5 sn (.lst ([(x : Int), (y : Int)].map V.int)) = H6 at ssn esn ⊢
  have sH6 := sH5.trans ssn
  have hl6 : Sq K H6 l (sdRefs ss) := .inl (sH6.seq hl)
  have ee6 : Sq K H6 e.1 [.int e.2.1, .int e.2.2.1, .int e.2.2.2] := .inr (SqT.of (sH6 _ _ ee))
  have es6 : Sq K H6 s1.1 [.int s1.2.1, .int s1.2.2.1, .int s1.2.2.2] := .inr (SqT.of (sH6 _ _ es))
  have et6 : Sq K H6 t1.1 [.int t1.2.1, .int t1.2.2.1, .int t1.2.2.2] := .inr (SqT.of (sH6 _ _ et))
  -- one, other
  refine ⟨_, rfl, _, rfl, sn, _, _, .int (x : Int), rfl, rfl, .inl (SqL.of esn), rfl, l, _, _, _, rfl, rfl, hl6, atx, ?_⟩
  refine ⟨_, rfl, _, rfl, sn, _, _, .int (y : Int), rfl, rfl, .inl (SqL.of esn), rfl, l, _, _, _, rfl, rfl, hl6, aty, ?_⟩
  -- weights
  refine ⟨_, rfl, _, rfl, t1.1, e.1, _, _, t1.2.1, t1.2.2.1, e.2.1, e.2.2.1, rfl, et6, ee6, rfl, rfl, rfl, rfl, by omega, by omega, _, rfl,
    _, rfl, _, rfl, e.1, s1.1, _, _, e.2.1, e.2.2.1, s1.2.1, s1.2.2.1, rfl, ee6, es6, rfl, rfl, rfl, rfl, by omega, by omega, _, rfl,
    _, rfl, _, rfl, s1.1, t1.1, _, _, s1.2.1, s1.2.2.1, t1.2.1, t1.2.2.1, rfl, es6, et6, rfl, rfl, rfl, rfl, by omega, by omega, _, rfl, (by show 3 ≤ sizeLine; decide), fun wl hwl => ?_⟩
  -- weighed(numbers + [last], weights)
  refine ⟨_, rfl, _, rfl, (by show 1 ≤ sizeLine; decide), fun ol hol => ?_⟩
  have swl := same_new hwl (.lst ([absI (tn t1.2 e.2), absI (tn e.2 s1.2), absI (tn s1.2 t1.2)].map V.int))
  have sol := same_new hol (.lst [.int (j : Int)])
  refine ⟨sn, ol, _, _, rfl, rfl, sol _ _ (swl _ _ esn), upd_same, small (by show 2 + 1 ≤ 1000; decide), fun nc hnc => ?_⟩
  have snc := same_new hnc (.lst ([(x : Int), (y : Int), (j : Int)].map V.int))
  have pU : 0 < absI (tn t1.2 e.2) := by rw [absI_hand h1 A1]; exact A1
  have pV : 0 < absI (tn e.2 s1.2) := by rw [absI_hand h1 A2]; exact A2
  have pX : 0 < absI (tn s1.2 t1.2) := by rw [absI_hand h1 A3]; exact A3
  have bU : absI (tn t1.2 e.2) ≤ 10 ^ 19 := abs_le g1 c2 g2 c1
  have bV : absI (tn e.2 s1.2) ≤ 10 ^ 19 := abs_le c1 d2 c2 d1
  have bX : absI (tn s1.2 t1.2) ≤ 10 ^ 19 := abs_le d1 g2 d2 g1
  have gk := gcd_ok (ws := [absI (tn t1.2 e.2), absI (tn e.2 s1.2), absI (tn s1.2 t1.2)]) (List.mem_cons_self ..) pU (by omega)
  refine ⟨_, rfl, nc, wl, [(x : Int), (y : Int), (j : Int)], [absI (tn t1.2 e.2), absI (tn e.2 s1.2), absI (tn s1.2 t1.2)], rfl, SqL.of upd_same, SqL.of (snc _ _ (sol _ _ upd_same)), rfl, (by show 3 ≤ 900; decide), gk.1, gk.2, fun D cs H' s' hD eD okc mc => ?_⟩
  have sAll := ((swl.trans sol).trans snc).trans s'
  have sBack := (swl.trans sol).trans snc
  refine q D cs H' (sH6.trans sAll) (sH6.free (sBack.free hD)) eD okc ?_
  rw [mc]
  obtain ⟨w1, w2⟩ := turns_zero s1.2 t1.2 e.2
  have f : ∀ a b c : Int, tn t1.2 e.2 * h * a + tn e.2 s1.2 * h * b + tn s1.2 t1.2 * h * c = (tn t1.2 e.2 * a + tn e.2 s1.2 * b + tn s1.2 t1.2 * c) * h := fun a b c => by
    rw [Int.add_mul, Int.add_mul, Int.mul_right_comm, Int.mul_right_comm (tn e.2 s1.2), Int.mul_right_comm (tn s1.2 t1.2)]
  refine clash_three hxy gy'.2 gx'.1 gy'.1 st.at' pU pV pX bU bV bX ?_ ?_ ?_
  · rw [absI_hand h1 A1, absI_hand h1 A2, absI_hand h1 A3, f]
    have w1' : tn t1.2 e.2 * s1.2.1 + tn e.2 s1.2 * t1.2.1 + tn s1.2 t1.2 * e.2.1 = 0 := w1
    rw [w1', Int.zero_mul]
  · rw [absI_hand h1 A1, absI_hand h1 A2, absI_hand h1 A3, f]
    have w2' : tn t1.2 e.2 * s1.2.2.1 + tn e.2 s1.2 * t1.2.2.1 + tn s1.2 t1.2 * e.2.2.1 = 0 := w2
    rw [w2', Int.zero_mul]
  · rw [absI_hand h1 A1, absI_hand h1 A2, absI_hand h1 A3, f]
    exact A4
def sp_p_clash (K : PySem.W.Frag) : Sp := fun vs H Q _ => ∃ (l : Addr) (ss : List Sd), vs = [.ref l] ∧ SqL K H l (sdRefs ss) ∧ SdOk H ss ∧ ss.length ≤ 900 ∧
  (∀ (P : P3) (H' : Hp), Same H H' → 0 < P.2.2 → inW ss P → Cand ss P → Q .non H') ∧
  ∀ (D : Addr) (cs : List Pr) (H' : Hp), Same H H' → H D = none → H' D = some (.lst (refsOf cs)) → PrAt H' cs → Clash ss (cs.map (·.2)) → Q (.ref D) H'
theorem ok_p_clash {f : Addr} {fd : FuncData} (F : Fun K "clash" "clash" s_p_clash f fd) (Z : Zs mg) (h_p_clash_of_three : Has P w K mg base "clash_of_three" 6 ["sides", "last"] (sp_p_clash_of_three K)) (h_p_turn : Has P w K mg base "turn" 1 ["one", "other"] (sp_p_turn K)) (h_p_holds : Has P w K mg base "holds" 2 ["side", "spot"] (sp_p_holds K)) (h_p_foot : Has P w K mg base "foot" 5 ["side"] (sp_p_foot K)) (h_p_weighed : Has P w K mg base "weighed" 3 ["numbers", "weights"] (sp_p_weighed K)) (h_p_span : Has P w K mg base "span" 1 ["direction"] (sp_p_span K)) (h_p_sought : Has P w K mg base "sought" 8 ["sides"] (sp_p_sought K)) : FnOk P w K mg base CX0 9 f fd ["sides"] (sp_p_clash K) := by
  refine F.ok sc_p_clash (fun vs H Q E h => ?_) (fun cdv A outer s H vs Q E hr h => ?_)
  · obtain ⟨l, ss, rfl, _⟩ := h
    rfl
  obtain ⟨l, ss, rfl, hl, ok, hlen, qn, q⟩ := h
  refine ⟨_, (pss_cons (ps_set (i := 1) sc_p_clash.nd rfl (Or.inl rfl) (pe_ix ix_any (pe_callH h_p_sought (hr.mono (by decide)) rfl (pa_cons (pv 0) pa_nil)) pe_int (fun _ _ => rfl)))
      (pss_cons (ps_if (pt_cmpR op_isN (pv 1) pe_non (nomark _)) (pss_one (ps_ret pe_non)) pss_nil)
      (pss_cons (ps_set (i := 2) sc_p_clash.nd rfl (Or.inl rfl) (pe_ix ix_any (pv 0) (pv 1) (fun _ _ => rfl)))
      (pss_cons (ps_for PassesOwn.never rfl (pi_range1 rfl Z.range (pa_cons (pv 1) pa_nil)) (pg_name (i := 3) sc_p_clash.nd rfl (Or.inl rfl)) (pss_cons (ps_set (i := 4) sc_p_clash.nd rfl (Or.inl rfl) (pe_ix ix_any (pv 0) (pv 3) (fun _ _ => rfl)))
      (pss_one (ps_if (PW.pt (pw_and (pt_cmpR op_eq (pe_callH h_p_turn (hr.mono (by decide)) rfl (pa_cons (pv 2) (pa_cons (pv 4) pa_nil))) pe_int (nomark _)) (pw_and1 (pt_not (pt_val (pe_callH h_p_holds (hr.mono (by decide)) rfl (pa_cons (pv 4) (pa_cons (pe_callH h_p_foot (hr.mono (by decide)) rfl (pa_cons (pv 2) pa_nil)) pa_nil)))))))) (pss_one (ps_ret (pe_callH h_p_weighed (hr.mono (by decide)) rfl (pa_cons (pe_lst (pa_cons (pv 3) (pa_cons (pv 1) pa_nil))) (pa_cons (pe_lst (pa_cons (pe_callH h_p_span (hr.mono (by decide)) rfl (pa_cons (pv 2) pa_nil)) (pa_cons (pe_callH h_p_span (hr.mono (by decide)) rfl (pa_cons (pv 4) pa_nil)) pa_nil))) pa_nil))))) pss_nil))))
      (pss_one (ps_ret (pe_callH h_p_clash_of_three (hr.mono (by decide)) rfl (pa_cons (pv 0) (pa_cons (pv 1) pa_nil))))))))), ?_⟩
  refine ⟨_, rfl, l, ss, rfl, hl, ok, hlen, fun t j e P H1 s1 et st => ?_, fun t p P H1 s1 et ep wp cp => ?_⟩
  · refine ⟨t, _, _, .int j, rfl, rfl, .inr (SqT.of et), rfl, ?_⟩
    refine ⟨_, rfl, rfl, _, rfl, ?_⟩
    refine iteF ?_
    have hj : j < ss.length := (List.getElem?_eq_some_iff.mp st.at').1
    obtain ⟨e', me, ge, at'⟩ := sdRefs_at (ss := ss) (i := j) (k := (j : Int)) rfl hj
    rw [st.at'] at ge
    cases ge
    obtain ⟨ee, ne, c1, c2, c3⟩ := ok e me
    have hN := nn_pos ne
    obtain ⟨sf, f1⟩ := ft_ok ne
    refine ⟨_, rfl, _, rfl, l, _, _, _, rfl, rfl, .inl (s1.seq hl), at', ?_⟩
    refine ⟨_, rfl, _, rfl, (by omega), (by omega), for_range (lo := 0) (n := ((j : Nat) : Int).toNat) (fun i σ H' => Same H1 H' ∧ (∀ u ∈ ss.take i, tn e.2 u.2 = 0 → sv u.2 (pt3 (ftL e.2)) ≤ 0) ∧ ∃ u3 u4 : Option V, σ = [some (.ref l), some (.int j), some (.ref e.1), u3, u4])
      ⟨Same.refl _, (fun t ht => nomatch ht), none, none, rfl⟩ ?_ ?_⟩
    · rintro i σ H' hi ⟨sH, bes, u3, u4, rfl⟩
      rw [Int.toNat_natCast] at hi
      obtain ⟨u, mu, gu, atu⟩ := sdRefs_at (ss := ss) (i := i) (k := 0 + (i : Int)) (by omega) (by omega)
      obtain ⟨eu0, nu, d1, d2, d3⟩ := ok u mu
      have s0 := s1.trans sH
      have eu : Sq K H' u.1 [.int u.2.1, .int u.2.2.1, .int u.2.2.2] := .inr (SqT.of (s0 _ _ eu0))
      have ee' : Sq K H' e.1 [.int e.2.1, .int e.2.2.1, .int e.2.2.2] := .inr (SqT.of (s0 _ _ ee))
      refine ⟨_, rfl, _, rfl, l, _, _, _, rfl, rfl, .inl (s0.seq hl), atu, ?_⟩
      refine ⟨_, rfl, _, rfl, e.1, u.1, _, _, e.2.1, e.2.2.1, u.2.1, u.2.2.1, rfl, ee', eu, rfl, rfl, rfl, rfl, by omega, by omega, rfl, _, rfl, ?_⟩
      refine ifE (fun h0 => ?_) (fun h0 => ?_)
      · have h0' : tn e.2 u.2 = 0 := h0
        refine ⟨_, rfl, _, rfl, e.1, e.2, rfl, ee', ne, c1, c2, fun fp H2 s2 hfp efp => ?_⟩
        have efp' : H2 fp = some (.tup [.int (pt3 (ftL e.2)).1, .int (pt3 (ftL e.2)).2.1, .int (pt3 (ftL e.2)).2.2]) := by
          rw [efp, sf.list]
          rfl
        refine ⟨u.1, fp, u.2.1, u.2.2.1, u.2.2.2, (pt3 (ftL e.2)).1, (pt3 (ftL e.2)).2.1, (pt3 (ftL e.2)).2.2, rfl, eu.same s2, .inr (SqT.of efp'), by omega, by omega, by omega, _, rfl, ?_⟩
        refine ifN (fun hout => ?_) (fun hin => ?_)
        · have hout' : 0 < sv u.2 (pt3 (ftL e.2)) := by
            have : ¬ sv u.2 (pt3 (ftL e.2)) ≤ 0 := hout
            omega
          obtain ⟨z1, z2, z3⟩ := contrary h0' hN ne sf.pos st.pos f1 hout' (st.ahead u (List.mem_of_getElem? (i := i) (by rw [List.getElem?_take, if_pos hi]; exact gu))) st.out
          refine ⟨_, rfl, _, rfl, (by show 2 ≤ sizeLine; decide), fun nl hnl => ?_⟩
          have snl := same_new hnl (.lst ([0 + (i : Int), (j : Int)].map V.int))
          refine ⟨_, rfl, e.1, _, e.2.1, e.2.2.1, rfl, (ee'.same s2).same snl, rfl, rfl, _, rfl, u.1, _, u.2.1, u.2.2.1, rfl, (eu.same s2).same snl, rfl, rfl, (by show 2 ≤ sizeLine; decide), fun wl hwl => ?_⟩
          have swl := same_new hwl (.lst ([span2 e.2.1 e.2.2.1, span2 u.2.1 u.2.2.1].map V.int))
          have pU := span2_pos ne
          have pV := span2_pos nu
          have bU : span2 e.2.1 e.2.2.1 ≤ 10 ^ 19 := by unfold span2 absI; split <;> split <;> omega
          have bV : span2 u.2.1 u.2.2.1 ≤ 10 ^ 19 := by unfold span2 absI; split <;> split <;> omega
          have gk := gcd_ok (ws := [span2 e.2.1 e.2.2.1, span2 u.2.1 u.2.2.1]) (List.mem_cons_self ..) pU (by omega)
          refine ⟨nl, wl, [0 + (i : Int), (j : Int)], [span2 e.2.1 e.2.2.1, span2 u.2.1 u.2.2.1], rfl, SqL.of (swl _ _ upd_same), SqL.of upd_same, rfl, (by show 2 ≤ 900; decide), gk.1, gk.2, fun D cs H5 s5 hD eD okc mc => ?_⟩
          have sB := (s0.trans s2).trans (snl.trans swl)
          refine q D cs H5 (sB.trans s5) (sB.free hD) eD okc ?_
          rw [mc, Int.zero_add]
          exact clash_two hi gu st.at' pU pV bU bV z1 z2 z3
        · refine ⟨sH.trans s2, fun v hv hz => ?_, _, _, rfl⟩
          rcases take_end gu hv with hv | rfl
          · exact bes v hv hz
          · exact hin
      · refine iteF ?_
        refine ⟨sH, fun v hv hz => ?_, _, _, rfl⟩
        rcases take_end gu hv with hv | rfl
        · exact bes v hv hz
        · exact absurd hz h0
    · rintro σ H' ⟨sH, bes, u3, u4, rfl⟩
      rw [Int.toNat_natCast] at bes
      have s0 := s1.trans sH
      exact ⟨_, rfl, _, rfl, l, ss, j, e, P, rfl, s0.seq hl, ok.same s0, hlen, st, bes, fun D cs H5 s5 hD eD okc cl => q D cs H5 (s0.trans s5) (s0.free hD) eD okc cl⟩
  · refine ⟨t, _, _, .non, rfl, rfl, .inr (SqT.of et), rfl, ?_⟩
    refine ⟨_, rfl, rfl, _, rfl, ?_⟩
    refine iteT ?_
    exact qn P H1 s1 ep.2.1 wp cp
def sp_p_are_weights (K : PySem.W.Frag) : Sp := fun vs H Q _ => ∃ (l W : Addr) (ss : List Sd) (ws : List Wt), vs = [.ref l, .ref W] ∧ SqL K H l (sdRefs ss) ∧ SqL K H W (wtRefs ws) ∧ WtAt H ws ∧ Q (.bl (awB ss.length (ws.map (·.2.2)) 0)) H
theorem ok_p_are_weights {f : Addr} {fd : FuncData} (F : Fun K "are_weights" "are_weights" s_p_are_weights f fd) (Z : Zs mg) : FnOk P w K mg base CX0 1 f fd ["sides", "weights"] (sp_p_are_weights K) := by
  refine F.ok sc_p_are_weights (fun vs H Q E h => ?_) (fun cdv A outer s H vs Q E hr h => ?_)
  · obtain ⟨l, W, ss, ws, rfl, _⟩ := h
    rfl
  obtain ⟨l, W, ss, ws, rfl, hl, hW, ok, q⟩ := h
  refine ⟨_, (pss_cons (ps_set (i := 2) sc_p_are_weights.nd rfl (Or.inl rfl) pe_int)
      (pss_cons (ps_for PassesOwn.never rfl (pi_seq (pv 1)) (pg_name (i := 3) sc_p_are_weights.nd rfl (Or.inl rfl)) (pss_cons (ps_if (PW.pt (pw_or (pt_cmpR op_lt (pe_ix ix_any (pv 3) pe_int (fun _ _ => rfl)) (pv 2) (nomark _)) (pw_or (pt_cmpR op_ge (pe_ix ix_any (pv 3) pe_int (fun _ _ => rfl)) (pe_callB call_len_seq rfl Z.len bt_len (pa_cons (pv 0) pa_nil)) (nomark _)) (pw_or1 (pt_cmpR op_lt (pe_callB (call_minT rfl) rfl Z.min bt_min (pa_cons (pe_ix ix_any (pv 3) pe_int (fun _ _ => rfl)) pa_nil)) pe_int (nomark _)))))) (pss_one (ps_ret pe_bl)) pss_nil)
      (pss_one (ps_set (i := 2) sc_p_are_weights.nd rfl (Or.inl rfl) (pe_op op_add (pe_ix ix_any (pv 3) pe_int (fun _ _ => rfl)) pe_int)))))
      (pss_one (ps_ret pe_bl)))), ?_⟩
  refine ⟨_, rfl, W, rfl, .inl ⟨⟨_, hW⟩, for_list (K := K) (a := W) (xs := wtRefs ws) (fun i σ H' => H' = H ∧ ∃ (least : Int) (u3 : Option V), awB ss.length (ws.map (·.2.2)) 0 = awB ss.length ((ws.drop i).map (·.2.2)) least ∧ σ = [some (.ref l), some (.ref W), some (.int least), u3])
    ⟨rfl, 0, none, rfl, rfl⟩ (fun i σ H' _ ⟨e, _⟩ => by rw [e]; exact hW) ?_ ?_⟩⟩
  · rintro i v σ H' hi ⟨rfl, least, u3, he, rfl⟩
    obtain ⟨t, gt, rfl, hil⟩ := wtRefs_get hi
    obtain ⟨e1, e2⟩ := ok t (List.mem_of_getElem? gt)
    rw [drop_at gt, awB] at he
    have sq : Sq K H' t.1 [.int t.2.2.1, .ref t.2.1] := .inr (SqT.of e1)
    refine ⟨_, rfl, t.1, _, _, .int t.2.2.1, rfl, rfl, sq, rfl, _, rfl, _, _, rfl, rfl, _, rfl, ?_⟩
    refine ifD (fun h1 => ?_) (fun h1 => ?_)
    · rw [if_neg (fun z => by have := z.1; omega)] at he
      rw [he] at q
      exact iteT q
    refine ⟨_, rfl, t.1, _, _, .int t.2.2.1, rfl, rfl, sq, rfl, _, rfl, l, _, rfl, .inl hl, _, _, rfl, rfl, _, rfl, ?_⟩
    rw [sdRefs_length]
    refine ifD (fun h2 => ?_) (fun h2 => ?_)
    · rw [if_neg (fun z => by have := z.2.1; omega)] at he
      rw [he] at q
      exact iteT q
    refine ⟨_, rfl, t.1, _, _, .ref t.2.1, rfl, rfl, sq, rfl, t.2.1, t.2.2.2, 1, rfl, SqT.of e2, _, _, rfl, rfl, _, rfl, ?_⟩
    refine ifD (fun h3 => ?_) (fun h3 => ?_)
    · rw [if_neg (fun z => by have := z.2.2; split at h3 <;> omega)] at he
      rw [he] at q
      exact q
    rw [if_pos ⟨by omega, by omega, by split at h3 <;> omega⟩] at he
    refine ⟨_, rfl, t.1, _, _, .int t.2.2.1, rfl, rfl, sq, rfl, _, _, rfl, rfl, ?_⟩
    exact ⟨rfl, _, _, he, rfl⟩
  · rintro σ H' ⟨rfl, least, u3, he, rfl⟩
    rw [wtRefs_length, List.drop_length] at he
    rw [he] at q
    exact q
def sp_p_sum_at (K : PySem.W.Frag) : Sp := fun vs H Q _ => ∃ (l W : Addr) (k : Int) (ss : List Sd) (ws : List Wt), vs = [.ref l, .ref W, .int k] ∧ SqL K H l (sdRefs ss) ∧ SdOk H ss ∧ SqL K H W (wtRefs ws) ∧ WtAt H ws ∧ 0 ≤ k ∧ k < 3 ∧ (∀ t ∈ ws, 0 ≤ t.2.2.1 ∧ t.2.2.1 < ss.length) ∧
  ∀ (p : Addr) (H' : Hp), Same H H' → H p = none → H' p = some (.tup [.int (sumF ss (fAt k) (ws.map (·.2.2)) 0), .int 1]) → Q (.ref p) H'
theorem at3 {k a b c : Int} (h0 : 0 ≤ k) (h3 : k < 3) : atI [V.int a, V.int b, V.int c] k = some (.int (if k = 0 then a else if k = 1 then b else c)) := by
  have cc : k = 0 ∨ k = 1 ∨ k = 2 := by omega
  rcases cc with e | e | e <;> (rw [e]; rfl)
theorem ok_p_sum_at {f : Addr} {fd : FuncData} (F : Fun K "sum_at" "sum_at" s_p_sum_at f fd) (Z : Zs mg) (h_p_plus : Has P w K mg base "plus" 5 ["one", "other"] (sp_p_plus K)) (h_p_times : Has P w K mg base "times" 5 ["one", "other"] (sp_p_times K)) (h_p_part : Has P w K mg base "part" 4 ["top", "bottom"] (sp_p_part K)) : FnOk P w K mg base CX0 6 f fd ["sides", "weights", "at"] (sp_p_sum_at K) := by
  refine F.ok sc_p_sum_at (fun vs H Q E h => ?_) (fun cdv A outer s H vs Q E hr h => ?_)
  · obtain ⟨l, W, k, ss, ws, rfl, _⟩ := h
    rfl
  obtain ⟨l, W, k, ss, ws, rfl, hl, ok, hW, okw, k0, k3, rg, q⟩ := h
  refine ⟨_, (pss_cons (ps_set (i := 3) sc_p_sum_at.nd rfl (Or.inl rfl) (pe_callH h_p_part (hr.mono (by decide)) rfl (pa_cons pe_int (pa_cons pe_int pa_nil))))
      (pss_cons (ps_for PassesOwn.never rfl (pi_seq (pv 1)) (pg_name (i := 4) sc_p_sum_at.nd rfl (Or.inl rfl)) (pss_one (ps_set (i := 3) sc_p_sum_at.nd rfl (Or.inl rfl) (pe_callH h_p_plus (hr.mono (by decide)) rfl (pa_cons (pv 3) (pa_cons (pe_callH h_p_times (hr.mono (by decide)) rfl (pa_cons (pe_ix ix_any (pv 4) pe_int (fun _ _ => rfl)) (pa_cons (pe_callH h_p_part (hr.mono (by decide)) rfl (pa_cons (pe_ix ix_any (pe_ix ix_any (pv 0) (pe_ix ix_any (pv 4) pe_int (fun _ _ => rfl)) (fun _ _ => rfl)) (pv 2) (fun _ _ => rfl)) (pa_cons pe_int pa_nil))) pa_nil))) pa_nil))))))
      (pss_one (ps_ret (pv 3))))), ?_⟩
  refine ⟨0, 1, rfl, by decide, by decide +kernel, fun p0 x0 y0 H0 s0 hp0 ep0 po0 => ?_⟩
  obtain ⟨e1, e2⟩ := part_one rfl po0
  rw [e1, e2] at ep0
  clear e1 e2 po0
  refine ⟨_, rfl, W, rfl, .inl ⟨⟨_, s0.seq hW⟩, for_list (K := K) (a := W) (xs := wtRefs ws) (fun i σ H' => Same H H' ∧ ∃ (p : Addr) (T : Int) (u4 : Option V), H p = none ∧ H' p = some (.tup [.int T, .int 1]) ∧ sumF ss (fAt k) (ws.map (·.2.2)) 0 = sumF ss (fAt k) ((ws.drop i).map (·.2.2)) T ∧ σ = [some (.ref l), some (.ref W), some (.int k), some (.ref p), u4])
    ⟨s0, p0, 0, none, hp0, ep0, rfl, rfl⟩ (fun i σ H' _ ⟨e, _⟩ => e.seq hW) ?_ ?_⟩⟩
  · rintro i v σ H' hi ⟨sH, p, T, u4, hp, ep, he, rfl⟩
    obtain ⟨t, gt, rfl, hil⟩ := wtRefs_get hi
    have mt := List.mem_of_getElem? gt
    obtain ⟨w1, w2⟩ := (okw.same sH) t mt
    obtain ⟨r0, r1⟩ := rg t mt
    rw [drop_at gt, sumF] at he
    obtain ⟨sd, msd, gsd, asd⟩ := sdRefs_at (ss := ss) (i := t.2.2.1.toNat) (k := t.2.2.1) (by omega) (by omega)
    obtain ⟨es, _, b1, b2, b3⟩ := (ok.same sH) sd msd
    have sq : Sq K H' t.1 [.int t.2.2.1, .ref t.2.1] := .inr (SqT.of w1)
    have ef : sideAt ss (fAt k) t.2.2.1 = fAt k sd := by
      unfold sideAt
      rw [gsd]
    rw [ef] at he
    refine ⟨_, rfl, _, rfl, t.1, _, _, .ref t.2.1, rfl, rfl, sq, rfl, _, rfl, _, rfl, t.1, _, _, .int t.2.2.1, rfl, rfl, sq, rfl, l, _, _, .ref sd.1, rfl, rfl, .inl (sH.seq hl), asd, _, rfl, sd.1, _, _, .int (fAt k sd), rfl, rfl, .inr (SqT.of es), at3 k0 k3, fAt k sd, 1, rfl, by decide, by decide +kernel, fun p1 x1 y1 H1 s1 hp1 ep1 po1 => ?_⟩
    obtain ⟨e1, e2⟩ := part_one rfl po1
    rw [e1, e2] at ep1
    clear e1 e2 po1
    have bf : (fAt k sd).natAbs ≤ 10 ^ 13 := by
      unfold fAt
      split
      · omega
      · split <;> omega
    refine ⟨t.2.1, p1, t.2.2.2, fAt k sd, rfl, SqT.of (s1 _ _ w2), SqT.of ep1, bf, fun p2 H2 s2 hp2 ep2 => ?_⟩
    refine ⟨p, p2, T, t.2.2.2 * fAt k sd, rfl, SqT.of (s2 _ _ (s1 _ _ ep)), SqT.of ep2, fun p3 H3 s3 hp3 ep3 => ?_⟩
    have s13 := (s1.trans s2).trans s3
    exact ⟨sH.trans s13, p3, _, _, sH.free (s1.free (s2.free hp3)), ep3, he, rfl⟩
  · rintro σ H' ⟨sH, p, T, u4, hp, ep, he, rfl⟩
    rw [wtRefs_length, List.drop_length] at he
    refine ⟨_, rfl, q p H' sH hp ?_⟩
    rw [he]
    exact ep
def sp_p_makes (K : PySem.W.Frag) : Sp := fun vs H Q _ => ∃ (l W d : Addr) (ss : List Sd) (ws : List Wt), vs = [.ref l, .ref W, .ref d] ∧ SqL K H l (sdRefs ss) ∧ SdOk H ss ∧ SqL K H W (wtRefs ws) ∧ WtAt H ws ∧ (∀ t ∈ ws, 0 ≤ t.2.2.1 ∧ t.2.2.1 < ss.length) ∧ SqT K H d [.int 0, .int 0] ∧
  ∀ H' : Hp, Same H H' → Q (.bl (decide (sumF ss (fAt 0) (ws.map (·.2.2)) 0 = 0) && decide (sumF ss (fAt 1) (ws.map (·.2.2)) 0 = 0))) H'
theorem ok_p_makes {f : Addr} {fd : FuncData} (F : Fun K "makes" "makes" s_p_makes f fd) (Z : Zs mg) (h_p_sum_at : Has P w K mg base "sum_at" 6 ["sides", "weights", "at"] (sp_p_sum_at K)) (h_p_part : Has P w K mg base "part" 4 ["top", "bottom"] (sp_p_part K)) : FnOk P w K mg base CX0 7 f fd ["sides", "weights", "direction"] (sp_p_makes K) := by
  refine F.ok sc_p_makes (fun vs H Q E h => ?_) (fun cdv A outer s H vs Q E hr h => ?_)
  · obtain ⟨l, W, d, ss, ws, rfl, _⟩ := h
    rfl
  obtain ⟨l, W, d, ss, ws, rfl, hl, ok, hW, okw, rg, hd, q⟩ := h
  have hu64 := hr.units
  refine ⟨_, (pss_one (ps_ret (pe_cmpR (op_eqV2 hu64) (pe_comp (T := ["at"]) (caps := [("sides", 0), ("weights", 1)]) ⟨rfl, by decide +kernel, by decide +kernel, rfl, ⟨⟨rfl, rfl, Or.inl rfl⟩, ⟨rfl, rfl, Or.inl rfl⟩, True.intro⟩⟩ rfl (pi_range1 rfl Z.range (pa_cons pe_int pa_nil)) (fun _ => (pg_name (i := 0) (show (["at", "sides", "weights"] : List Str).Nodup by decide +kernel) rfl (Or.inl rfl))) (fun _ => pifs_nil) (fun _ => (pe_callH h_p_sum_at (hr.mono (by decide)) rfl (pa_cons (pv 1) (pa_cons (pv 2) (pa_cons (pv 0) pa_nil)))))) (pe_comp (T := ["number"]) (caps := []) ⟨rfl, by decide +kernel, by decide +kernel, rfl, True.intro⟩ rfl (pi_seq (pv 2)) (fun _ => (pg_name (i := 0) (show (["number"] : List Str).Nodup by decide +kernel) rfl (Or.inl rfl))) (fun _ => pifs_nil) (fun _ => (pe_callH h_p_part (hr.mono (by decide)) rfl (pa_cons (pv 0) (pa_cons pe_int pa_nil))))) (nomark _)))), ?_⟩
  refine ⟨2, rfl, by decide, by decide, fun cc D hD => comp_range0 (lo := 0) (n := 2) (fun i σ ys G => Same H G ∧ G D = some (.lst ys) ∧ (∃ ps : List Addr, ys = ps.map V.ref ∧ ps.length = i ∧ ∀ (j : Nat) (p : Addr), ps[j]? = some p → G p = some (.tup ([sumF ss (fAt (j : Int)) (ws.map (·.2.2)) 0, 1].map V.int))) ∧ ∃ u0 : Option V, σ = [u0, some (.ref l), some (.ref W)])
    ⟨same_new hD _, upd_same, ⟨[], rfl, rfl, (fun j p h => nomatch h)⟩, none, rfl⟩ (fun i σ ys G _ ⟨_, e, _⟩ => e) ?_ ?_⟩
  · rintro i σ ys G hi ⟨sG, eD, ⟨ps, rfl, np, hps⟩, u0, rfl⟩
    refine ⟨_, rfl, _, rfl, _, rfl, l, W, 0 + (i : Int), ss, ws, rfl, sG.seq hl, ok.same sG, sG.seq hW, okw.same sG, by omega, by omega, rg, fun p G2 s2 hp ep => ?_⟩
    have npD : p ≠ D := fun e => by rw [e, eD] at hp; cases hp
    refine ⟨s2 _ _ eD, small1000 (by rw [List.length_map]; omega), (sG.trans s2).putNew hD, upd_same, ⟨ps ++ [p], by rw [List.map_append]; rfl, by rw [List.length_append, np]; rfl, fun j p' hj => ?_⟩, _, rfl⟩
    rcases Nat.lt_or_ge j ps.length with h | h
    · rw [List.getElem?_append_left h] at hj
      have z := hps j p' hj
      rw [upd_ne (ne_of z eD (by intro z; cases z))]
      exact s2 _ _ z
    · rw [List.getElem?_append_right h] at hj
      have ej : j = i := by
        have := (List.getElem?_eq_some_iff.mp hj).1
        have e1 : [p].length = 1 := rfl
        omega
      rw [ej, np, Nat.sub_self] at hj
      cases hj
      rw [upd_ne npD, ej, ep, Int.zero_add]
      rfl
  rintro σ ys G ⟨sG, eD, ⟨ps, rfl, np, hps⟩, u0, rfl⟩
  obtain ⟨p1, p2, rfl⟩ : ∃ p1 p2, ps = [p1, p2] := by
    match ps, np with
    | [p1, p2], _ => exact ⟨p1, p2, rfl⟩
  have h1 := hps 0 p1 rfl
  have h2 := hps 1 p2 rfl
  refine ⟨_, rfl, d, rfl, .inr ⟨⟨_, hd.same sG⟩, fun c2 D2 hD2 => comp_tup0 (K := K) (a := d) (xs := [.int 0, .int 0]) (fun i σ ys G2 => Same G G2 ∧ G2 D2 = some (.lst ys) ∧ (∃ qs : List Addr, ys = qs.map V.ref ∧ qs.length = i ∧ ∀ (j : Nat) (p : Addr), qs[j]? = some p → G2 p = some (.tup ([0, 1].map V.int))) ∧ ∃ u0 : Option V, σ = [u0])
    ⟨same_new hD2 _, upd_same, ⟨[], rfl, rfl, (fun j p h => nomatch h)⟩, none, rfl⟩ (fun i σ ys G2 _ ⟨e, e2, _⟩ => ⟨(hd.same sG).same e, e2⟩) ?_ ?_⟩⟩
  · rintro i x σ ys G2 hi ⟨s2, eD2, ⟨qs, rfl, nq, hqs⟩, u0, rfl⟩
    have ex : x = .int 0 ∧ i < 2 := by
      have hi2 : i < 2 := (List.getElem?_eq_some_iff.mp hi).1
      match i, hi with
      | 0, h => exact ⟨(Option.some.inj h).symm, hi2⟩
      | 1, h => exact ⟨(Option.some.inj h).symm, hi2⟩
    obtain ⟨rfl, hi2⟩ := ex
    refine ⟨_, rfl, 0, 1, rfl, by decide, by decide +kernel, fun p x1 y1 G3 s3 hp ep po => ?_⟩
    obtain ⟨e1, e2⟩ := part_one rfl po
    rw [e1, e2] at ep
    have npD : p ≠ D2 := fun e => by rw [e, eD2] at hp; cases hp
    refine ⟨s3 _ _ eD2, small1000 (by rw [List.length_map]; omega), (s2.trans s3).putNew hD2, upd_same, ⟨qs ++ [p], by rw [List.map_append]; rfl, by rw [List.length_append, nq]; rfl, fun j p' hj => ?_⟩, _, rfl⟩
    rcases Nat.lt_or_ge j qs.length with h | h
    · rw [List.getElem?_append_left h] at hj
      have z := hqs j p' hj
      rw [upd_ne (ne_of z eD2 (by intro z; cases z))]
      exact s3 _ _ z
    · rw [List.getElem?_append_right h] at hj
      have ej : j - qs.length = 0 := by
        have := (List.getElem?_eq_some_iff.mp hj).1
        have e1 : [p].length = 1 := rfl
        omega
      rw [ej] at hj
      cases hj
      rw [upd_ne npD]
      exact ep
  rintro σ ys G2 ⟨s2, eD2, ⟨qs, rfl, nq, hqs⟩, u0, rfl⟩
  obtain ⟨q1, q2, rfl⟩ : ∃ q1 q2, qs = [q1, q2] := by
    match qs, nq with
    | [q1, q2], _ => exact ⟨q1, q2, rfl⟩
  refine ⟨D, D2, p1, p2, q1, q2, _, _, _, _, rfl, rfl, SqL.of (s2 _ _ eD), SqL.of eD2, s2 _ _ h1, s2 _ _ h2, hqs 0 q1 rfl, hqs 1 q2 rfl, ?_⟩
  have one : ∀ x : Int, decide ([x, 1] = [(0 : Int), 1]) = decide (x = 0) := fun x => decide_eq_decide.mpr ⟨fun z => (List.cons.inj z).1, fun z => by rw [z]⟩
  rw [one, one]
  exact q G2 (sG.trans s2)
def sp_p_good_clash (K : PySem.W.Frag) : Sp := fun vs H Q _ => ∃ (l D : Addr) (ss : List Sd) (cs : List Pr), vs = [.ref l, .ref D] ∧ SqL K H l (sdRefs ss) ∧ SdOk H ss ∧ SqL K H D (refsOf cs) ∧ PrAt H cs ∧ cs.length ≤ 900 ∧
  ∀ H' : Hp, Same H H' → Q (.bl (clashB ss (cs.map (·.2)))) H'
theorem ok_p_good_clash {f : Addr} {fd : FuncData} (F : Fun K "good_clash" "good_clash" s_p_good_clash f fd) (Z : Zs mg) (h_p_below : Has P w K mg base "below" 1 ["one", "other"] (sp_p_below K)) (h_p_part : Has P w K mg base "part" 4 ["top", "bottom"] (sp_p_part K)) (h_p_sum_at : Has P w K mg base "sum_at" 6 ["sides", "weights", "at"] (sp_p_sum_at K)) (h_p_are_weights : Has P w K mg base "are_weights" 1 ["sides", "weights"] (sp_p_are_weights K)) (h_p_makes : Has P w K mg base "makes" 7 ["sides", "weights", "direction"] (sp_p_makes K)) : FnOk P w K mg base CX0 8 f fd ["sides", "paper"] (sp_p_good_clash K) := by
  refine F.ok sc_p_good_clash (fun vs H Q E h => ?_) (fun cdv A outer s H vs Q E hr h => ?_)
  · obtain ⟨l, D, ss, cs, rfl, _⟩ := h
    rfl
  obtain ⟨l, D, ss, cs, rfl, hl, ok, hD, okc, h900, q⟩ := h
  have nr := refsOf_length cs
  unfold clashB at q
  rw [List.length_map] at q
  refine ⟨_, (pss_cons (ps_if (PW.pt (pw_or (pt_cmpR op_lt (pe_callB call_len_seq rfl Z.len bt_len (pa_cons (pv 1) pa_nil)) pe_int (nomark _)) (pw_or1 (pt_cmpR op_gt (pe_callB call_len_seq rfl Z.len bt_len (pa_cons (pv 1) pa_nil)) pe_int (nomark _))))) (pss_one (ps_ret pe_bl)) pss_nil)
      (pss_cons (ps_setComp (T := ["pair"]) (caps := []) (i := 2) sc_p_good_clash.nd rfl rfl ⟨rfl, by decide +kernel, by decide +kernel, rfl, True.intro⟩ rfl (pi_seq (pv 1)) (fun _ => (pg_name (i := 0) (show (["pair"] : List Str).Nodup by decide +kernel) rfl (Or.inl rfl))) (fun _ => pifs_nil) (fun _ => (pe_tup (pa_cons (pe_ix ix_any (pv 0) pe_int (fun _ _ => rfl)) (pa_cons (pe_tup (pa_cons (pe_ix ix_any (pv 0) pe_int (fun _ _ => rfl)) (pa_cons pe_int pa_nil))) pa_nil)))))
      (pss_cons (ps_if (PW.pt (pw_or (pt_not (pt_val (pe_callH h_p_are_weights (hr.mono (by decide)) rfl (pa_cons (pv 0) (pa_cons (pv 2) pa_nil))))) (pw_or1 (pt_not (pt_val (pe_callH h_p_makes (hr.mono (by decide)) rfl (pa_cons (pv 0) (pa_cons (pv 2) (pa_cons (pe_tup (pa_cons pe_int (pa_cons pe_int pa_nil))) pa_nil))))))))) (pss_one (ps_ret pe_bl)) pss_nil)
      (pss_one (ps_ret (pe_callH h_p_below (hr.mono (by decide)) rfl (pa_cons (pe_callH h_p_sum_at (hr.mono (by decide)) rfl (pa_cons (pv 0) (pa_cons (pv 2) (pa_cons pe_int pa_nil)))) (pa_cons (pe_callH h_p_part (hr.mono (by decide)) rfl (pa_cons pe_int (pa_cons pe_int pa_nil))) pa_nil)))))))), ?_⟩
  refine ⟨_, rfl, D, _, rfl, .inl hD, _, _, rfl, rfl, _, rfl, ?_⟩
  rw [nr]
  refine ifD (fun h1 => ?_) (fun h1 => ?_)
  · refine iteT ?_
    rw [show decide (2 ≤ cs.length) = false from decide_eq_false (by omega)] at q
    exact q H (Same.refl _)
  refine ⟨_, rfl, D, _, rfl, .inl hD, _, _, rfl, rfl, _, rfl, ?_⟩
  rw [nr]
  refine ifD (fun h2 => ?_) (fun h2 => ?_)
  · rw [show decide (2 ≤ cs.length) = true from decide_eq_true (by omega), show decide (cs.length ≤ 3) = false from decide_eq_false (by omega)] at q
    exact q H (Same.refl _)
  rw [show decide (2 ≤ cs.length) = true from decide_eq_true (by omega), show decide (cs.length ≤ 3) = true from decide_eq_true (by omega), Bool.true_and, Bool.true_and, goB_parts _ _ _ (by decide)] at q
  -- weights = [(pair[0], (pair[1], 1)) for pair in paper]
  refine ⟨_, rfl, D, rfl, .inl ⟨⟨_, hD⟩, fun cc W hW => comp_list0 (K := K) (a := D) (xs := refsOf cs) (fun i σ ys G => Same H G ∧ G W = some (.lst ys) ∧ (∃ ws : List Wt, ys = wtRefs ws ∧ WtAt G ws ∧ ws.map (·.2.2) = (cs.take i).map (·.2)) ∧ ∃ u0 : Option V, σ = [u0])
    ⟨same_new hW _, upd_same, ⟨[], rfl, (fun t ht => nomatch ht), rfl⟩, none, rfl⟩ (fun i σ ys G _ ⟨e, e2, _⟩ => ⟨e.seq hD, e2⟩) ?_ ?_⟩⟩
  · rintro i x σ ys G hi ⟨sG, eW, ⟨ws, rfl, okw, mw⟩, u0, rfl⟩
    obtain ⟨t, gt, rfl, hil⟩ := refsOf_get hi
    have et := sG _ _ (okc t (List.mem_of_getElem? gt))
    have sq : Sq K G t.1 [.int t.2.1, .int t.2.2] := .inr (SqT.of et)
    have nw : ws.length ≤ i := by
      have z := congrArg List.length mw
      rw [List.length_map, List.length_map, List.length_take] at z
      omega
    refine ⟨_, rfl, t.1, _, _, .int t.2.1, rfl, rfl, sq, rfl, _, rfl, t.1, _, _, .int t.2.2, rfl, rfl, sq, rfl, (by show 2 ≤ sizeLine; decide), fun p1 hp1 => ?_⟩
    have s1 : Same G (upd G p1 (.tup [.int t.2.2, .int 1])) := same_new hp1 _
    have e1 : upd G p1 (.tup [.int t.2.2, .int 1]) p1 = some (.tup [.int t.2.2, .int 1]) := upd_same
    generalize upd G p1 (.tup [.int t.2.2, .int 1]) = G1 at s1 e1 ⊢
    refine ⟨(by show 2 ≤ sizeLine; decide), fun p2 hp2 => ?_⟩
    have s2 : Same G1 (upd G1 p2 (.tup [.int t.2.1, .ref p1])) := same_new hp2 _
    have e2 : upd G1 p2 (.tup [.int t.2.1, .ref p1]) p2 = some (.tup [.int t.2.1, .ref p1]) := upd_same
    generalize upd G1 p2 (.tup [.int t.2.1, .ref p1]) = G2 at s2 e2 ⊢
    have eW2 := s2 _ _ (s1 _ _ eW)
    have keep : ∀ (b : Addr) (xs : List V) (o : HO), G2 b = some (.tup xs) → upd G2 W o b = some (.tup xs) := fun b xs o e => by
      rw [upd_ne (ne_of e eW2 (by intro z; cases z))]
      exact e
    refine ⟨eW2, small1000 (by rw [wtRefs_length]; omega), (sG.trans (s1.trans s2)).putNew hW, upd_same, ⟨ws ++ [(p2, p1, t.2.1, t.2.2)], by simp [wtRefs], fun u hu => ?_, ?_⟩, _, rfl⟩
    · rcases List.mem_append.mp hu with h | h
      · obtain ⟨z1, z2⟩ := (okw.same (s1.trans s2)) u h
        exact ⟨keep _ _ _ z1, keep _ _ _ z2⟩
      · rw [List.mem_singleton] at h
        subst h
        exact ⟨keep _ _ _ e2, keep _ _ _ (s2 _ _ e1)⟩
    · rw [List.map_append, mw, List.take_succ, gt]
      simp
  rintro σ ys G ⟨sG, eW, ⟨ws, rfl, okw, mw⟩, u0, rfl⟩
  rw [nr, List.take_length] at mw
  rw [← mw] at q
  have hl' := sG.seq hl
  have ok' := ok.same sG
  refine ⟨_, rfl, _, rfl, l, W, ss, ws, rfl, hl', SqL.of eW, okw, _, rfl, ?_⟩
  cases hb : awB ss.length (ws.map (·.2.2)) 0 with
  | false =>
    refine iteT ?_
    have z := q G sG
    rw [show (-1 : Int) + 1 = 0 by decide, hb] at z
    exact iteT z
  | true =>
    refine iteF ?_
    have rg : ∀ t ∈ ws, 0 ≤ t.2.2.1 ∧ t.2.2.1 < ss.length := fun t ht => awB_range (Int.le_refl 0) hb t.2.2 (List.mem_map_of_mem ht)
    rw [show (-1 : Int) + 1 = 0 by decide, hb, Bool.true_and] at q
    refine ⟨_, rfl, _, rfl, (by show 2 ≤ sizeLine; decide), fun d hd => ?_⟩
    have sd : Same G (upd G d (.tup [.int 0, .int 0])) := same_new hd _
    have ed : upd G d (.tup [.int 0, .int 0]) d = some (.tup [.int 0, .int 0]) := upd_same
    generalize upd G d (.tup [.int 0, .int 0]) = G1 at sd ed ⊢
    refine ⟨l, W, d, ss, ws, rfl, sd.seq hl', ok'.same sd, SqL.of (sd _ _ eW), okw.same sd, rg, SqT.of ed, fun G2 s2 => ⟨_, rfl, ?_⟩⟩
    simp only [two_nought] at q
    cases hm : (decide (sumF ss (fAt 0) (ws.map (·.2.2)) 0 = 0) && decide (sumF ss (fAt 1) (ws.map (·.2.2)) 0 = 0)) with
    | false =>
      have z := q G2 (sG.trans (sd.trans s2))
      rw [hm] at z
      exact iteT z
    | true =>
      refine iteF ?_
      rw [hm, Bool.true_and] at q
      have s12 := sd.trans s2
      refine ⟨_, rfl, _, rfl, l, W, 2, ss, ws, rfl, s12.seq hl', ok'.same s12, SqL.of (s12 _ _ eW), okw.same s12, by decide, by decide, rg, fun p G3 s3 hp ep => ?_⟩
      refine ⟨0, 1, rfl, by decide, by decide +kernel, fun p4 x y G4 s4 hp4 ep4 po => ?_⟩
      obtain ⟨e1, e2⟩ := part_one rfl po
      rw [e1, e2] at ep4
      exact ⟨p, p4, _, 0, rfl, SqT.of (s4 _ _ ep), SqT.of ep4, q G4 (sG.trans (s12.trans (s3.trans s4)))⟩
def sp_L_turned (K : PySem.W.Frag) : Sp := fun vs H Q _ => ∃ (a b : Addr) (us ws : List V) (x1 y1 x2 y2 : Int), vs = [.ref a, .ref b] ∧ Sq K H a us ∧ Sq K H b ws ∧ atI us 0 = some (.int x1) ∧ atI us 1 = some (.int y1) ∧ atI ws 0 = some (.int x2) ∧ atI ws 1 = some (.int y2) ∧
  x1.natAbs ≤ 10 ^ 18 ∧ y1.natAbs ≤ 10 ^ 18 ∧ Q (.int (x1 * y2 - y1 * x2)) H
theorem ok_L_turned {f : Addr} {fd : FuncData} (F : Fun K "_law_turned" "_law_turned" s_L_turned f fd) (Z : Zs mg)  : FnOk P w K mg base CX0 1 f fd ["_law_one", "_law_other"] (sp_L_turned K) := by
  refine F.ok sc_L_turned (fun vs H Q E h => ?_) (fun cdv A outer s H vs Q E hr h => ?_)
  · obtain ⟨a, b, us, ws, x1, y1, x2, y2, rfl, _⟩ := h
    rfl
  obtain ⟨a, b, us, ws, x1, y1, x2, y2, rfl, ha, hb, u0, u1, w0, w1, m1, m2, q⟩ := h
  refine ⟨_, (pss_one (ps_ret (pe_op op_sub (pe_op op_mul (pe_ix ix_any (pv 0) pe_int (fun _ _ => rfl)) (pe_ix ix_any (pv 1) pe_int (fun _ _ => rfl))) (pe_op op_mul (pe_ix ix_any (pv 0) pe_int (fun _ _ => rfl)) (pe_ix ix_any (pv 1) pe_int (fun _ _ => rfl)))))), ?_⟩
  exact ⟨_, rfl, a, _, _, .int x1, rfl, rfl, ha, u0, _, rfl, b, _, _, .int y2, rfl, rfl, hb, w1, _, _, rfl, rfl, .inl ⟨by omega, by omega⟩,
    _, rfl, a, _, _, .int y1, rfl, rfl, ha, u1, _, rfl, b, _, _, .int x2, rfl, rfl, hb, w0, _, _, rfl, rfl, .inl ⟨by omega, by omega⟩, _, _, rfl, rfl, q⟩
def sp_L_power (_ : PySem.W.Frag) : Sp := fun vs H Q _ => ∃ (n : Int), vs = [.int n] ∧ ∀ v : Int, 0 ≤ v → v < 1000003 → Q (.int v) H
theorem ok_L_power {f : Addr} {fd : FuncData} (F : Fun K "_law_power" "_law_power" s_L_power f fd) (Z : Zs mg) : FnOk P w K mg base CX0 1 f fd ["_law_number"] (sp_L_power K) := by
  refine F.ok sc_L_power (fun vs H Q E h => ?_) (fun cdv A outer s H vs Q E hr h => ?_)
  · obtain ⟨n, rfl, _⟩ := h
    rfl
  obtain ⟨n, rfl, q⟩ := h
  refine ⟨_, (pss_one (ps_ret (pe_op op_mod (pe_op op_pow (pe_op op_mod (pv 0) pe_int) pe_int) pe_int))), ?_⟩
  have h1 := Int.emod_nonneg n (show (1000003 : Int) ≠ 0 by decide)
  have h2 := Int.emod_lt_of_pos n (show (0 : Int) < 1000003 by decide)
  refine ⟨_, rfl, _, _, rfl, rfl, (by show (0 : Int) < 1000003; decide), _, _, rfl, rfl, ⟨by decide, by decide, by omega⟩, _, _, rfl, rfl, (by show (0 : Int) < 1000003; decide), ?_⟩
  exact q _ (Int.emod_nonneg _ (by decide)) (Int.emod_lt_of_pos _ (by decide))
/-- the draws: at least as many as asked for, each from 0 to 1000002 -/
def sp_L_draws (K : PySem.W.Frag) : Sp := fun vs H Q _ => ∃ (a : Addr) (ns : List Int) (many : Int), vs = [.ref a, .int many] ∧ SqL K H a (ns.map V.int) ∧ ns.length ≤ 63 ∧ 0 ≤ many ∧ many ≤ 500 ∧
  ∀ (r : Addr) (rows : List Int) (H' : Hp), Same H H' → H r = none → H' r = some (.lst (rows.map V.int)) → many ≤ rows.length → rows.length ≤ 600 → (∀ x ∈ rows, 0 ≤ x ∧ x < 1000003) → Q (.ref r) H'
structure DrawSt (H : Hp) (r c : Addr) (ms : List Int) (H' : Hp) (rows : List Int) : Prop where
  same : Same H H'
  src : H' c = some (.lst (ms.map V.int))
  at' : H' r = some (.lst (rows.map V.int))
  bd : ∀ x ∈ rows, 0 ≤ x ∧ x < 1000003
theorem DrawSt.app {H H' : Hp} {r c : Addr} {ms rows : List Int} {v : Int} (d : DrawSt H r c ms H' rows) (hr : H r = none) (hrc : c ≠ r) (h0 : 0 ≤ v) (h1 : v < 1000003) : DrawSt H r c ms (upd H' r (.lst (rows.map V.int ++ [.int v]))) (rows ++ [v]) := by
  refine ⟨fun b o e => ?_, ?_, ?_, fun x hx => ?_⟩
  · rw [upd_ne (ne_of_none e hr)]
    exact d.same b o e
  · rw [upd_ne hrc]
    exact d.src
  · rw [upd_same, List.map_append]
    rfl
  · rcases List.mem_append.mp hx with e | e
    · exact d.bd x e
    · rw [List.mem_singleton] at e
      rw [e]
      exact ⟨h0, h1⟩
theorem ok_L_draws {f : Addr} {fd : FuncData} (F : Fun K "_law_draws" "_law_draws" s_L_draws f fd) (Z : Zs mg) (h_L_power : Has P w K mg base "_law_power" 1 ["_law_number"] (sp_L_power K)) : FnOk P w K mg base CX0 2 f fd ["_law_script", "_law_many"] (sp_L_draws K) := by
  refine F.ok sc_L_draws (fun vs H Q E h => ?_) (fun cdv A outer s H vs Q E hr h => ?_)
  · obtain ⟨a, ns, many, rfl, _⟩ := h
    rfl
  obtain ⟨a, ns, many, rfl, hS, hl, hm0, hm1, q⟩ := h
  refine ⟨_, (pss_cons (ps_set (i := 2) sc_L_draws.nd rfl (Or.inl rfl) (pe_lst pa_nil))
      (pss_cons (ps_set (i := 3) sc_L_draws.nd rfl (Or.inl rfl) pe_int)
      (pss_cons (ps_for PassesOwn.never rfl (pi_list (pe_slice sl_list (pv 0) po_none (po_some pe_int))) (pg_name (i := 4) sc_L_draws.nd rfl (Or.inl rfl)) (pss_cons (ps_set (i := 3) sc_L_draws.nd rfl (Or.inl rfl) (pe_op op_mod (pe_op op_add (pe_op op_mul (pv 3) pe_int) (pv 4)) pe_int))
      (pss_cons (ps_set (i := 5) sc_L_draws.nd rfl (Or.inl rfl) (pe_callB call_abs rfl Z.abs bt_abs (pa_cons (pv 4) pa_nil)))
      (pss_cons (ps_if (pt_cmpR op_lt (pv 5) (pe_op op_pow pe_int pe_int) (nomark _)) (pss_cons (ps_expr (pe_bm PySem.F.plainAttrs_list PySem.F.slot_list_append PySem.F.type_list_append mt_append (pv 2) (pa_cons (pe_callH h_L_power (hr.mono (by decide)) rfl (pa_cons (pe_op op_add (pv 4) (pe_op op_mul pe_int (pe_callB call_len_seq rfl Z.len bt_len (pa_cons (pv 2) pa_nil)))) pa_nil)) pa_nil)))
      (pss_one (ps_set (i := 5) sc_L_draws.nd rfl (Or.inl rfl) pe_int))) pss_nil)
      (pss_one (ps_while PassesOwn.never (PW.pt (pw_and (pt_cmpR op_gt (pv 5) pe_int (nomark _)) (pw_and1 (pt_cmpR op_lt (pe_callB call_len_seq rfl Z.len bt_len (pa_cons (pv 2) pa_nil)) (pv 1) (nomark _))))) (pss_cons (ps_expr (pe_bm PySem.F.plainAttrs_list PySem.F.slot_list_append PySem.F.type_list_append mt_append (pv 2) (pa_cons (pe_op op_mod (pv 5) pe_int) pa_nil)))
      (pss_one (ps_set (i := 5) sc_L_draws.nd rfl (Or.inl rfl) (pe_op op_fdivP (pv 5) pe_int))))))))))
      (pss_cons (ps_while PassesOwn.never (pt_cmpR op_lt (pe_callB call_len_seq rfl Z.len bt_len (pa_cons (pv 2) pa_nil)) (pv 1) (nomark _)) (pss_cons (ps_set (i := 3) sc_L_draws.nd rfl (Or.inl rfl) (pe_op op_mod (pe_op op_add (pe_op op_mul (pv 3) pe_int) pe_int) pe_int))
      (pss_one (ps_expr (pe_bm PySem.F.plainAttrs_list PySem.F.slot_list_append PySem.F.type_list_append mt_append (pv 2) (pa_cons (pe_callH h_L_power (hr.mono (by decide)) rfl (pa_cons (pv 3) pa_nil)) pa_nil))))))
      (pss_one (ps_ret (pv 2))))))), ?_⟩
  refine ⟨(by show 0 ≤ sizeLine; decide), fun r hr0 => ?_⟩
  have S1 := same_new hr0 (.lst [])
  refine ⟨_, rfl, _, rfl, a, _, rfl, S1.seq hS, fun c hc => ⟨c, rfl, ⟨_, SqL.of upd_same⟩, ?_⟩⟩
  rw [cutV_ints]
  generalize hms : ((ns.drop (HT.sIx ns.length 0 none)).take (HT.sIx ns.length ns.length (some 63) - HT.sIx ns.length 0 none)) = ms
  have hml : ms.length ≤ 63 := by
    rw [← hms, List.length_take, List.length_drop]
    omega
  have hcr : c ≠ r := fun e => by
    rw [e, upd_same] at hc
    cases hc
  have hc0 : H c = none := S1.free hc
  refine for_list (K := K) (a := c) (xs := ms.map V.int) (fun i σ H' => ∃ (rows : List Int) (mix : Int) (u v : Option V), σ = [some (.ref a), some (.int many), some (.ref r), some (.int mix), u, v] ∧ DrawSt H r c ms H' rows ∧ 0 ≤ mix ∧ mix < 2147483647 ∧ rows.length ≤ many.toNat + i)
    ⟨[], 7, none, none, rfl, ⟨S1.trans (same_new hc _), upd_same, by rw [upd_ne (Ne.symm hcr), upd_same]; rfl, fun x hx => nomatch hx⟩, by decide, by decide, Nat.zero_le _⟩ (fun i σ H' _ ⟨_, _, _, _, _, d, _⟩ => SqL.of d.src) ?_ ?_
  · rintro i x σ H' hi ⟨rows, mix, u, v, rfl, d, hx0, hx1, hrl⟩
    obtain ⟨n, hn, rfl⟩ := mapInt_get hi
    have hi63 : i < 63 := Nat.lt_of_lt_of_le (List.getElem?_eq_some_iff.mp hn).1 hml
    refine ⟨_, rfl, _, _, rfl, rfl, .inr ⟨by decide, by decide⟩, _, rfl, _, _, rfl, rfl, _, _, rfl, rfl, (by show (0 : Int) < 2147483647; decide), ?_⟩
    have m0 := Int.emod_nonneg (mix * 48271 + n) (show (2147483647 : Int) ≠ 0 by decide)
    have m1 := Int.emod_lt_of_pos (mix * 48271 + n) (show (0 : Int) < 2147483647 by decide)
    refine ⟨_, rfl, n, rfl, ?_⟩
    have a0 : 0 ≤ (if n < 0 then -n else n) := by split <;> omega
    generalize (if n < 0 then -n else n) = rest at a0 ⊢
    refine ⟨_, rfl, _, _, rfl, rfl, ⟨by decide, by decide, by decide⟩, _, _, rfl, rfl, _, rfl, ?_⟩
    refine ifD (fun hsm => ?_) (fun hsm => ?_)
    · refine ⟨_, rfl, .inl ⟨rfl, _, SqL.of d.at'⟩, _, rfl, _, rfl, r, _, rfl, .inl (SqL.of d.at'), _, _, rfl, rfl, .inl ⟨by decide, by decide⟩, _, _, rfl, rfl, _, rfl, fun v v0 v1 => ?_⟩
      refine ⟨r, _, _, rfl, rfl, d.at', small1000 (by rw [List.length_map]; omega), ?_⟩
      have j0 : (0 : Int) ≤ 0 := Int.le_refl 0
      have j1 := d.app hr0 hcr v0 v1
      have j2 : (rows ++ [v]).length ≤ many.toNat + (i + 1) := by rw [List.length_append, List.length_singleton]; omega
      refine while_by (fun σ H2 => ∃ (rows : List Int) (rest : Int), σ = [some (.ref a), some (.int many), some (.ref r), some (.int ((mix * 48271 + n) % 2147483647)), some (.int n), some (.int rest)] ∧ 0 ≤ rest ∧ DrawSt H r c ms H2 rows ∧ rows.length ≤ many.toNat + (i + 1))
        (fun σ _ => match σ with | [_, _, _, _, _, some (.int z)] => z.toNat | _ => 0) ⟨_, _, rfl, j0, j1, j2⟩ ?_ (mo_and (mo_test (mo_op mo_i0 mo_var mo_c)) (mo_test (mo_op mo_i0 (mo_cb mo_len (mo_cons mo_var mo_nil)) mo_var)))
      rintro σ H2 ⟨rows, rest, rfl, r0, d2, l2⟩
      refine ⟨_, rfl, _, _, rfl, rfl, _, rfl, ?_⟩
      refine ifD (fun hpos => ?_) (fun hpos => ?_)
      · refine ⟨_, rfl, r, _, rfl, .inl (SqL.of d2.at'), _, rfl, _, _, rfl, rfl, _, rfl, ?_⟩
        refine ifD (fun hlt => ?_) (fun hlt => ?_)
        · have hlt' : ((rows.map V.int).length : Int) < many := hlt
          rw [List.length_map] at hlt'
          refine ⟨_, rfl, .inl ⟨rfl, _, SqL.of d2.at'⟩, _, rfl, _, _, rfl, rfl, (by show (0 : Int) < 1000003; decide), r, _, _, rfl, rfl, d2.at', small1000 (by rw [List.length_map]; omega), ?_⟩
          have v0 := Int.emod_nonneg rest (show (1000003 : Int) ≠ 0 by decide)
          have v1 := Int.emod_lt_of_pos rest (show (0 : Int) < 1000003 by decide)
          refine ⟨_, rfl, _, _, rfl, rfl, CDivP.of (by decide) (by decide +kernel), ⟨rows ++ [rest % 1000003], _, rfl, by omega, d2.app hr0 hcr v0 v1, by rw [List.length_append, List.length_singleton]; omega⟩, ?_⟩
          show (rest / 1000003).toNat < rest.toNat
          omega
        · exact ⟨rows, _, _, _, rfl, d2, m0, m1, l2⟩
      · exact ⟨rows, _, _, _, rfl, d2, m0, m1, l2⟩
    · have j0 := a0
      have j1 := d
      have j2 : rows.length ≤ many.toNat + (i + 1) := by omega
      refine while_by (fun σ H2 => ∃ (rows : List Int) (rest : Int), σ = [some (.ref a), some (.int many), some (.ref r), some (.int ((mix * 48271 + n) % 2147483647)), some (.int n), some (.int rest)] ∧ 0 ≤ rest ∧ DrawSt H r c ms H2 rows ∧ rows.length ≤ many.toNat + (i + 1))
        (fun σ _ => match σ with | [_, _, _, _, _, some (.int z)] => z.toNat | _ => 0) ⟨_, _, rfl, j0, j1, j2⟩ ?_ (mo_and (mo_test (mo_op mo_i0 mo_var mo_c)) (mo_test (mo_op mo_i0 (mo_cb mo_len (mo_cons mo_var mo_nil)) mo_var)))
      rintro σ H2 ⟨rows, rest, rfl, r0, d2, l2⟩
      refine ⟨_, rfl, _, _, rfl, rfl, _, rfl, ?_⟩
      refine ifD (fun hpos => ?_) (fun hpos => ?_)
      · refine ⟨_, rfl, r, _, rfl, .inl (SqL.of d2.at'), _, rfl, _, _, rfl, rfl, _, rfl, ?_⟩
        refine ifD (fun hlt => ?_) (fun hlt => ?_)
        · have hlt' : ((rows.map V.int).length : Int) < many := hlt
          rw [List.length_map] at hlt'
          refine ⟨_, rfl, .inl ⟨rfl, _, SqL.of d2.at'⟩, _, rfl, _, _, rfl, rfl, (by show (0 : Int) < 1000003; decide), r, _, _, rfl, rfl, d2.at', small1000 (by rw [List.length_map]; omega), ?_⟩
          have v0 := Int.emod_nonneg rest (show (1000003 : Int) ≠ 0 by decide)
          have v1 := Int.emod_lt_of_pos rest (show (0 : Int) < 1000003 by decide)
          refine ⟨_, rfl, _, _, rfl, rfl, CDivP.of (by decide) (by decide +kernel), ⟨rows ++ [rest % 1000003], _, rfl, by omega, d2.app hr0 hcr v0 v1, by rw [List.length_append, List.length_singleton]; omega⟩, ?_⟩
          show (rest / 1000003).toNat < rest.toNat
          omega
        · exact ⟨rows, _, _, _, rfl, d2, m0, m1, l2⟩
      · exact ⟨rows, _, _, _, rfl, d2, m0, m1, l2⟩
  · rintro σ H' ⟨rows, mix, u, v, rfl, d, hx0, hx1, hrl⟩
    rw [List.length_map] at hrl
    refine while_by (fun σ H2 => ∃ (rows : List Int) (mix : Int), σ = [some (.ref a), some (.int many), some (.ref r), some (.int mix), u, v] ∧ DrawSt H r c ms H2 rows ∧ 0 ≤ mix ∧ mix < 2147483647 ∧ rows.length ≤ many.toNat + 63 ∧ H2 r = some (.lst (rows.map V.int)))
      (fun σ H2 => match H2 r with | some (.lst xs) => many.toNat - xs.length | _ => 0) ⟨rows, mix, rfl, d, hx0, hx1, by omega, d.at'⟩ ?_ (mo_test (mo_op mo_i0 (mo_cb mo_len (mo_cons mo_var mo_nil)) mo_var))
    rintro σ H2 ⟨rows, mix, rfl, d2, hx0, hx1, l2, ha2⟩
    refine ⟨_, rfl, r, _, rfl, .inl (SqL.of d2.at'), _, rfl, _, _, rfl, rfl, _, rfl, ?_⟩
    refine ifD (fun hlt => ?_) (fun hlt => ?_)
    · have hlt' : ((rows.map V.int).length : Int) < many := hlt
      rw [List.length_map] at hlt'
      refine ⟨_, rfl, _, _, rfl, rfl, .inr ⟨by decide, by decide⟩, _, _, rfl, rfl, _, _, rfl, rfl, (by show (0 : Int) < 2147483647; decide), ?_⟩
      have m0 := Int.emod_nonneg (mix * 48271 + 11) (show (2147483647 : Int) ≠ 0 by decide)
      have m1 := Int.emod_lt_of_pos (mix * 48271 + 11) (show (0 : Int) < 2147483647 by decide)
      refine ⟨_, rfl, .inl ⟨rfl, _, SqL.of d2.at'⟩, _, rfl, _, rfl, fun v v0 v1 => ?_⟩
      refine ⟨r, _, _, rfl, rfl, d2.at', small1000 (by rw [List.length_map]; omega), ⟨rows ++ [v], _, rfl, d2.app hr0 hcr v0 v1, m0, m1, by rw [List.length_append, List.length_singleton]; omega, (d2.app hr0 hcr v0 v1).at'⟩, ?_⟩
      rw [ha2, upd_same]
      show many.toNat - (rows.map V.int ++ [V.int v]).length < many.toNat - (rows.map V.int).length
      rw [List.length_append, List.length_map, List.length_singleton]
      omega
    · have hlt' : ¬ ((rows.map V.int).length : Int) < many := hlt
      rw [List.length_map] at hlt'
      exact ⟨_, rfl, q r rows H2 d2.same hr0 d2.at' (by omega) (by omega) d2.bd⟩
def Small (ss : List Sd) (m : Nat) : Prop := ∀ t ∈ ss, t.2.1.natAbs ≤ 3 * 10 ^ 8 ∧ t.2.2.1.natAbs ≤ 3 * 10 ^ 8 ∧ t.2.2.2.natAbs ≤ m
def sp_L_tight (K : PySem.W.Frag) : Sp := fun vs H Q _ => ∃ (r l : Addr) (rows : List Int) (ss : List Sd), vs = [.ref r, .ref l] ∧ SqL K H r (rows.map V.int) ∧ 2 ≤ rows.length ∧ (∀ x ∈ rows, 0 ≤ x ∧ x < 1000003) ∧ H l = some (.lst (sdRefs ss)) ∧ SdOk H ss ∧ ss.length ≤ 900 ∧ Small ss (3 * 10 ^ 12) ∧
  ∀ (l' : Addr) (ss' : List Sd) (H' : Hp), Same H H' → H' l' = some (.lst (sdRefs ss')) → ss'.length = ss.length → SdOk H' ss' → Small ss' (4 * 10 ^ 12) → Q (.ref l') H'
theorem ok_L_tight {f : Addr} {fd : FuncData} (F : Fun K "_law_tight" "_law_tight" s_L_tight f fd) (Z : Zs mg)  : FnOk P w K mg base CX0 1 f fd ["_law_some", "_law_sides_here"] (sp_L_tight K) := by
  refine F.ok sc_L_tight (fun vs H Q E h => ?_) (fun cdv A outer s H vs Q E hr h => ?_)
  · obtain ⟨r, l, rows, ss, rfl, _⟩ := h
    rfl
  obtain ⟨r, l, rows, ss, rfl, hS, h2, bd, el, ok, hlen, bnd, q⟩ := h
  refine ⟨_, (pss_cons (ps_if (pt_cmpR op_eq (pe_op op_mod (pe_ix ix_any (pv 0) pe_int (fun _ _ => rfl)) pe_int) pe_int (nomark _)) (pss_one (ps_ret (pv 1))) pss_nil)
      (pss_cons (ps_if (pt_cmpR op_eq (pe_op op_mod (pe_ix ix_any (pv 0) pe_int (fun _ _ => rfl)) pe_int) pe_int (nomark _)) (pss_one (ps_ret (pe_comp (T := ["_law_a", "_law_b", "_law_c"]) (caps := []) ⟨rfl, by decide +kernel, by decide +kernel, rfl, True.intro⟩ rfl (pi_seq (pv 1)) (fun _ => (pg_tup rfl (pgs_cons (pg_name (i := 0) (show (["_law_a", "_law_b", "_law_c"] : List Str).Nodup by decide +kernel) rfl (Or.inl rfl)) (pgs_cons (pg_name (i := 1) (show (["_law_a", "_law_b", "_law_c"] : List Str).Nodup by decide +kernel) rfl (Or.inl rfl)) (pgs_cons (pg_name (i := 2) (show (["_law_a", "_law_b", "_law_c"] : List Str).Nodup by decide +kernel) rfl (Or.inl rfl)) pgs_nil))))) (fun _ => pifs_nil) (fun _ => (pe_tup (pa_cons (pv 0) (pa_cons (pv 1) (pa_cons (pe_op op_sub (pe_op op_sub (pv 2) (pe_callB call_abs rfl Z.abs bt_abs (pa_cons (pv 0) pa_nil))) (pe_callB call_abs rfl Z.abs bt_abs (pa_cons (pv 1) pa_nil))) pa_nil)))))))) pss_nil)
      (pss_one (ps_ret (pe_comp (T := ["_law_a", "_law_b", "_law_c"]) (caps := [("_law_some", 0)]) ⟨rfl, by decide +kernel, by decide +kernel, rfl, ⟨⟨rfl, rfl, Or.inl rfl⟩, True.intro⟩⟩ rfl (pi_seq (pv 1)) (fun _ => (pg_tup rfl (pgs_cons (pg_name (i := 0) (show (["_law_a", "_law_b", "_law_c", "_law_some"] : List Str).Nodup by decide +kernel) rfl (Or.inl rfl)) (pgs_cons (pg_name (i := 1) (show (["_law_a", "_law_b", "_law_c", "_law_some"] : List Str).Nodup by decide +kernel) rfl (Or.inl rfl)) (pgs_cons (pg_name (i := 2) (show (["_law_a", "_law_b", "_law_c", "_law_some"] : List Str).Nodup by decide +kernel) rfl (Or.inl rfl)) pgs_nil))))) (fun _ => pifs_nil) (fun _ => (pe_tup (pa_cons (pv 0) (pa_cons (pv 1) (pa_cons (pe_op op_add (pe_callB call_abs rfl Z.abs bt_abs (pa_cons (pv 2) pa_nil)) (pe_op op_mod (pe_ix ix_any (pv 3) pe_int (fun _ _ => rfl)) pe_int)) pa_nil)))))))))), ?_⟩
  obtain ⟨v0, a0, _⟩ := row_at bd (k := 0) (by decide) (by omega)
  obtain ⟨v1, a1, w0, w1⟩ := row_at bd (k := 1) (by decide) (by omega)
  refine ⟨_, rfl, r, _, _, _, rfl, rfl, .inl hS, a0, _, _, rfl, rfl, (by show (0 : Int) < 3; decide), rfl, _, rfl, ?_⟩
  refine ifE (fun _ => ?_) (fun _ => ?_)
  · exact ⟨_, rfl, q l ss H (Same.refl _) el rfl ok fun t ht => ⟨(bnd t ht).1, (bnd t ht).2.1, by have := (bnd t ht).2.2; omega⟩⟩
  refine ⟨_, rfl, r, _, _, _, rfl, rfl, .inl hS, a0, _, _, rfl, rfl, (by show (0 : Int) < 3; decide), rfl, _, rfl, ?_⟩
  refine ifE (fun _ => ?_) (fun _ => ?_)
  · show _
    refine ⟨_, rfl, l, rfl, .inl ⟨⟨_, SqL.of el⟩, fun cc D hD => comp_list0 (K := K) (a := l) (xs := sdRefs ss) (fun i σ ys G => ∃ sa : List Sd, ys = sdRefs sa ∧ sa.length = i ∧ SdSt H D sa G ∧ Small sa (4 * 10 ^ 12) ∧ ∃ u0 u1 u2 : Option V, σ = [u0, u1, u2])
      ⟨[], rfl, rfl, ⟨same_new hD _, hD, upd_same, (fun t ht => nomatch ht)⟩, (fun t ht => nomatch ht), none, none, none, rfl⟩ (fun i σ ys G _ ⟨sa, e1, _, Pq, _⟩ => ⟨SqL.of (Pq.same _ _ el), by rw [e1]; exact Pq.at'⟩) ?_ ?_⟩⟩
    · rintro i x σ ys Gc hi ⟨sa, rfl, na, Pc, bc, u0, u1, u2, rfl⟩
      obtain ⟨t, gt, rfl, hil⟩ := sdRefs_get hi
      obtain ⟨et, nt, _⟩ := ok t (List.mem_of_getElem? gt)
      obtain ⟨b1, b2, b3⟩ := bnd t (List.mem_of_getElem? gt)
      refine ⟨t.1, _, rfl, SqT.of (Pc.same _ _ et), rfl, .int t.2.1, _, rfl, .int t.2.2.1, _, rfl, .int t.2.2.2, _, rfl, rfl, ?_⟩
      have nb : (t.2.2.2 - (if t.2.1 < 0 then -t.2.1 else t.2.1) - (if t.2.2.1 < 0 then -t.2.2.1 else t.2.2.1)).natAbs ≤ 4 * 10 ^ 12 := by
        split <;> first | omega | (split <;> omega)
      refine ⟨_, rfl, _, rfl, _, rfl, _, rfl, _, rfl, _, _, rfl, rfl, _, rfl, _, rfl, _, _, rfl, rfl, (by show 3 ≤ sizeLine; decide), fun p hp => ?_⟩
      have sp := same_new hp (.tup [.int t.2.1, .int t.2.2.1, .int (t.2.2.2 - (if t.2.1 < 0 then -t.2.1 else t.2.1) - (if t.2.2.1 < 0 then -t.2.2.1 else t.2.2.1))])
      refine ⟨sp _ _ Pc.at', small1000 (by rw [sdRefs_length]; omega), sa ++ [(p, t.2.1, t.2.2.1, (t.2.2.2 - (if t.2.1 < 0 then -t.2.1 else t.2.1) - (if t.2.2.1 < 0 then -t.2.2.1 else t.2.2.1)))], by simp [sdRefs], by rw [List.length_append, na]; rfl, Pc.app sp hp upd_same nt (by omega) (by omega) (by omega), fun u hu => (List.mem_append.mp hu).elim (bc u) fun h => by rw [List.mem_singleton] at h; subst h; exact ⟨b1, b2, nb⟩, _, _, _, rfl⟩
    · rintro σ ys Gc ⟨sa, rfl, na, Pc, bc, u0, u1, u2, rfl⟩
      rw [sdRefs_length] at na
      exact q D sa Gc Pc.same Pc.at' na Pc.all bc
  · show _
    refine ⟨_, rfl, l, rfl, .inl ⟨⟨_, SqL.of el⟩, fun cc D hD => comp_list0 (K := K) (a := l) (xs := sdRefs ss) (fun i σ ys G => ∃ sa : List Sd, ys = sdRefs sa ∧ sa.length = i ∧ SdSt H D sa G ∧ Small sa (4 * 10 ^ 12) ∧ ∃ u0 u1 u2 : Option V, σ = [u0, u1, u2, some (.ref r)])
      ⟨[], rfl, rfl, ⟨same_new hD _, hD, upd_same, (fun t ht => nomatch ht)⟩, (fun t ht => nomatch ht), none, none, none, rfl⟩ (fun i σ ys G _ ⟨sa, e1, _, Pq, _⟩ => ⟨SqL.of (Pq.same _ _ el), by rw [e1]; exact Pq.at'⟩) ?_ ?_⟩⟩
    · rintro i x σ ys Gc hi ⟨sa, rfl, na, Pc, bc, u0, u1, u2, rfl⟩
      obtain ⟨t, gt, rfl, hil⟩ := sdRefs_get hi
      obtain ⟨et, nt, _⟩ := ok t (List.mem_of_getElem? gt)
      obtain ⟨b1, b2, b3⟩ := bnd t (List.mem_of_getElem? gt)
      refine ⟨t.1, _, rfl, SqT.of (Pc.same _ _ et), rfl, .int t.2.1, _, rfl, .int t.2.2.1, _, rfl, .int t.2.2.2, _, rfl, rfl, ?_⟩
      have nb : ((if t.2.2.2 < 0 then -t.2.2.2 else t.2.2.2) + v1 % 4).natAbs ≤ 4 * 10 ^ 12 := by
        split <;> first | omega | (split <;> omega)
      refine ⟨_, rfl, _, rfl, _, rfl, _, rfl, _, rfl, r, _, _, _, rfl, rfl, .inl (Pc.same.seq hS), a1, _, _, rfl, rfl, (by show (0 : Int) < 4; decide), _, _, rfl, rfl, (by show 3 ≤ sizeLine; decide), fun p hp => ?_⟩
      have sp := same_new hp (.tup [.int t.2.1, .int t.2.2.1, .int ((if t.2.2.2 < 0 then -t.2.2.2 else t.2.2.2) + v1 % 4)])
      refine ⟨sp _ _ Pc.at', small1000 (by rw [sdRefs_length]; omega), sa ++ [(p, t.2.1, t.2.2.1, ((if t.2.2.2 < 0 then -t.2.2.2 else t.2.2.2) + v1 % 4))], by simp [sdRefs], by rw [List.length_append, na]; rfl, Pc.app sp hp upd_same nt (by omega) (by omega) (by omega), fun u hu => (List.mem_append.mp hu).elim (bc u) fun h => by rw [List.mem_singleton] at h; subst h; exact ⟨b1, b2, nb⟩, _, _, _, rfl⟩
    · rintro σ ys Gc ⟨sa, rfl, na, Pc, bc, u0, u1, u2, rfl⟩
      rw [sdRefs_length] at na
      exact q D sa Gc Pc.same Pc.at' na Pc.all bc
def sp_L_way (_ : PySem.W.Frag) : Sp := fun vs H Q _ => ∃ (o t wd : Int), vs = [.int o, .int t, .int wd] ∧ 1 ≤ wd ∧ wd ≤ 1000000 ∧
  ∀ (p : Addr) (x y : Int) (H' : Hp), Same H H' → H p = none → H' p = some (.tup [.int x, .int y]) → (x ≠ 0 ∨ y ≠ 0) → x.natAbs ≤ wd.natAbs → y.natAbs ≤ wd.natAbs → Q (.ref p) H'
theorem ok_L_way {f : Addr} {fd : FuncData} (F : Fun K "_law_way" "_law_way" s_L_way f fd) (Z : Zs mg)  : FnOk P w K mg base CX0 1 f fd ["_law_one", "_law_two", "_law_wide"] (sp_L_way K) := by
  refine F.ok sc_L_way (fun vs H Q E h => ?_) (fun cdv A outer s H vs Q E hr h => ?_)
  · obtain ⟨o, t, wd, rfl, _⟩ := h
    rfl
  obtain ⟨o, t, wd, rfl, w1, w2, q⟩ := h
  refine ⟨_, (pss_cons (ps_set (i := 3) sc_L_way.nd rfl (Or.inl rfl) (pe_op op_sub (pe_op op_mod (pv 0) (pe_op op_add (pe_op op_mul pe_int (pv 2)) pe_int)) (pv 2)))
      (pss_cons (ps_set (i := 4) sc_L_way.nd rfl (Or.inl rfl) (pe_op op_sub (pe_op op_mod (pv 1) (pe_op op_add (pe_op op_mul pe_int (pv 2)) pe_int)) (pv 2)))
      (pss_cons (ps_if (PW.pt (pw_and (pt_cmpR op_eq (pv 3) pe_int (nomark _)) (pw_and1 (pt_cmpR op_eq (pv 4) pe_int (nomark _))))) (pss_one (ps_set (i := 3) sc_L_way.nd rfl (Or.inl rfl) (pe_op op_sub pe_int (pe_op op_mul pe_int (pe_op op_mod (pv 0) pe_int))))) pss_nil)
      (pss_one (ps_ret (pe_tup (pa_cons (pv 3) (pa_cons (pv 4) pa_nil)))))))), ?_⟩
  have x0 := Int.emod_nonneg o (show 2 * wd + 1 ≠ 0 by omega)
  have x1 := Int.emod_lt_of_pos o (show 0 < 2 * wd + 1 by omega)
  have y0 := Int.emod_nonneg t (show 2 * wd + 1 ≠ 0 by omega)
  have y1 := Int.emod_lt_of_pos t (show 0 < 2 * wd + 1 by omega)
  refine ⟨_, rfl, _, rfl, _, _, rfl, rfl, .inl ⟨by decide, by decide⟩, _, _, rfl, rfl, _, _, rfl, rfl, (by show 0 < 2 * wd + 1; omega), _, rfl, _, _, rfl, rfl, ?_⟩
  refine ⟨_, rfl, _, rfl, _, _, rfl, rfl, .inl ⟨by decide, by decide⟩, _, _, rfl, rfl, _, _, rfl, rfl, (by show 0 < 2 * wd + 1; omega), _, rfl, _, _, rfl, rfl, ?_⟩
  refine ⟨_, rfl, rfl, _, rfl, ?_⟩
  refine ifE (fun hx => ?_) (fun hx => ?_)
  · refine ⟨_, rfl, rfl, _, rfl, ?_⟩
    refine ifE (fun hy => ?_) (fun hy => ?_)
    · refine ⟨_, rfl, _, _, rfl, rfl, (by show (0 : Int) < 2; decide), _, _, rfl, rfl, .inl ⟨by decide, by decide⟩, _, _, rfl, rfl, ?_⟩
      refine ⟨_, rfl, _, rfl, (by show 2 ≤ sizeLine; decide), fun p hp => ?_⟩
      exact q p _ _ _ (same_new hp _) hp upd_same (by left; omega) (by omega) (by omega)
    · refine ⟨_, rfl, _, rfl, (by show 2 ≤ sizeLine; decide), fun p hp => ?_⟩
      exact q p _ _ _ (same_new hp _) hp upd_same (.inr hy) (by omega) (by omega)
  · refine iteF ?_
    refine ⟨_, rfl, _, rfl, (by show 2 ≤ sizeLine; decide), fun p hp => ?_⟩
    exact q p _ _ _ (same_new hp _) hp upd_same (.inl hx) (by omega) (by omega)
/-- a drawn side: its direction is not nought -/
def sp_L_side (K : PySem.W.Frag) : Sp := fun vs H Q _ => ∃ (a : Addr) (rows : List Int), vs = [.ref a] ∧ SqL K H a (rows.map V.int) ∧ 5 ≤ rows.length ∧ (∀ x ∈ rows, 0 ≤ x ∧ x < 1000003) ∧
  ∀ (p : Addr) (A B C : Int) (H' : Hp), Same H H' → H p = none → H' p = some (.tup [.int A, .int B, .int C]) → (A ≠ 0 ∨ B ≠ 0) → A.natAbs ≤ 10 ^ 7 → B.natAbs ≤ 10 ^ 7 → C.natAbs ≤ 10 ^ 10 → Q (.ref p) H'
theorem ok_L_side {f : Addr} {fd : FuncData} (F : Fun K "_law_side" "_law_side" s_L_side f fd) (Z : Zs mg) (h_L_way : Has P w K mg base "_law_way" 1 ["_law_one", "_law_two", "_law_wide"] (sp_L_way K)) : FnOk P w K mg base CX0 2 f fd ["_law_d"] (sp_L_side K) := by
  refine F.ok sc_L_side (fun vs H Q E h => ?_) (fun cdv A outer s H vs Q E hr h => ?_)
  · obtain ⟨a, rows, rfl, _⟩ := h
    rfl
  obtain ⟨a, rows, rfl, hS, hl, bd, q⟩ := h
  refine ⟨_, (pss_cons (ps_asg (pe_callH h_L_way (hr.mono (by decide)) rfl (pa_cons (pe_ix ix_any (pv 0) pe_int (fun _ _ => rfl)) (pa_cons (pe_ix ix_any (pv 0) pe_int (fun _ _ => rfl)) (pa_cons (pe_ix ix_any (pe_lst (pa_cons pe_int (pa_cons pe_int (pa_cons pe_int (pa_cons pe_int (pa_cons pe_int pa_nil)))))) (pe_op op_mod (pe_ix ix_any (pv 0) pe_int (fun _ _ => rfl)) pe_int) (fun _ _ => rfl)) pa_nil)))) (pg_tup rfl (pgs_cons (pg_name (i := 1) sc_L_side.nd rfl (Or.inl rfl)) (pgs_cons (pg_name (i := 2) sc_L_side.nd rfl (Or.inl rfl)) pgs_nil))))
      (pss_cons (ps_set (i := 3) sc_L_side.nd rfl (Or.inl rfl) (pe_op op_sub (pe_op op_mod (pe_ix ix_any (pv 0) pe_int (fun _ _ => rfl)) pe_int) pe_int))
      (pss_cons (ps_if (pt_cmpR op_eq (pe_op op_mod (pe_ix ix_any (pv 0) pe_int (fun _ _ => rfl)) pe_int) pe_int (nomark _)) (pss_one (ps_set (i := 3) sc_L_side.nd rfl (Or.inl rfl) (pe_op op_sub (pe_op op_mod (pe_ix ix_any (pv 0) pe_int (fun _ _ => rfl)) pe_int) pe_int))) pss_nil)
      (pss_cons (ps_if (pt_cmpR op_eq (pe_op op_mod (pe_ix ix_any (pv 0) pe_int (fun _ _ => rfl)) pe_int) pe_int (nomark _)) (pss_one (ps_set (i := 3) sc_L_side.nd rfl (Or.inl rfl) (pe_op op_add (pe_op op_mul (pv 1) (pe_op op_sub (pe_op op_mod (pe_ix ix_any (pv 0) pe_int (fun _ _ => rfl)) pe_int) pe_int)) (pe_op op_mul (pv 2) (pe_op op_sub (pe_op op_mod (pe_op op_fdivP (pe_ix ix_any (pv 0) pe_int (fun _ _ => rfl)) pe_int) pe_int) pe_int))))) pss_nil)
      (pss_cons (ps_if (pt_cmpR op_eq (pe_op op_mod (pe_op op_fdivP (pe_ix ix_any (pv 0) pe_int (fun _ _ => rfl)) pe_int) pe_int) pe_int (nomark _)) (pss_one (ps_ret (pe_tup (pa_cons (pe_op op_sub (pe_op op_add (pe_op op_mul pe_int (pv 1)) (pe_op op_mod (pe_ix ix_any (pv 0) pe_int (fun _ _ => rfl)) pe_int)) pe_int) (pa_cons (pe_op op_sub (pe_op op_add (pe_op op_mul pe_int (pv 2)) (pe_op op_mod (pe_ix ix_any (pv 0) pe_int (fun _ _ => rfl)) pe_int)) pe_int) (pa_cons (pe_op op_add (pe_op op_mul pe_int (pv 3)) (pe_op op_mod (pe_ix ix_any (pv 0) pe_int (fun _ _ => rfl)) pe_int)) pa_nil)))))) pss_nil)
      (pss_one (ps_ret (pe_tup (pa_cons (pv 1) (pa_cons (pv 2) (pa_cons (pv 3) pa_nil))))))))))), ?_⟩
  obtain ⟨v0, a0, b00, b01⟩ := row_at bd (k := 0) (by decide) (by omega)
  obtain ⟨v1, a1, b10, b11⟩ := row_at bd (k := 1) (by decide) (by omega)
  obtain ⟨v2, a2, b20, b21⟩ := row_at bd (k := 2) (by decide) (by omega)
  obtain ⟨v3, a3, b30, b31⟩ := row_at bd (k := 3) (by decide) (by omega)
  obtain ⟨v4, a4, b40, b41⟩ := row_at bd (k := 4) (by decide) (by omega)
  refine ⟨_, rfl, a, _, _, _, rfl, rfl, .inl hS, a0, _, rfl, a, _, _, _, rfl, rfl, .inl hS, a1, (by show 5 ≤ sizeLine; decide), fun c hc => ?_⟩
  have s1 := same_new hc (.lst [.int 3, .int 3, .int 3, .int 100, .int 2000])
  obtain ⟨wd, hw, hw1, hw2⟩ : ∃ b : Int, atI [V.int 3, V.int 3, V.int 3, V.int 100, V.int 2000] (v4 % 5) = some (.int b) ∧ 1 ≤ b ∧ b ≤ 2000 := by
    have c0 := Int.emod_nonneg v4 (show (5 : Int) ≠ 0 by decide)
    have c1 := Int.emod_lt_of_pos v4 (show (0 : Int) < 5 by decide)
    have cc : v4 % 5 = 0 ∨ v4 % 5 = 1 ∨ v4 % 5 = 2 ∨ v4 % 5 = 3 ∨ v4 % 5 = 4 := by omega
    rcases cc with e | e | e | e | e
    · exact ⟨3, by rw [e]; rfl, by decide, by decide⟩
    · exact ⟨3, by rw [e]; rfl, by decide, by decide⟩
    · exact ⟨3, by rw [e]; rfl, by decide, by decide⟩
    · exact ⟨100, by rw [e]; rfl, by decide, by decide⟩
    · exact ⟨2000, by rw [e]; rfl, by decide, by decide⟩
  refine ⟨_, rfl, a, _, _, _, rfl, rfl, .inl (s1.seq hS), a4, _, _, rfl, rfl, (by show (0 : Int) < 5; decide), c, _, _, .int wd, rfl, rfl, .inl (SqL.of upd_same), hw, v0, v1, wd, rfl, hw1, by omega, fun p x y H2 s2' hp e2 hn n1 n2 => ?_⟩
  have s2 := s1.trans s2'
  have mx : x.natAbs ≤ 2000 := by omega
  have my : y.natAbs ≤ 2000 := by omega
  refine ⟨p, [.int x, .int y], rfl, SqT.of e2, rfl, .int x, [.int y], rfl, .int y, [], rfl, rfl, ?_⟩
  refine ⟨_, rfl, a, _, _, _, rfl, rfl, .inl (s2.seq hS), a2, _, _, rfl, rfl, (by show (0 : Int) < 19; decide), _, _, rfl, rfl, ?_⟩
  refine ⟨_, rfl, a, _, _, _, rfl, rfl, .inl (s2.seq hS), a3, _, _, rfl, rfl, (by show (0 : Int) < 4; decide), rfl, _, rfl, ?_⟩
  refine ifE (fun _ => ?_) (fun _ => ?_)
  · refine ⟨_, rfl, a, _, _, _, rfl, rfl, .inl (s2.seq hS), a2, _, _, rfl, rfl, (by show (0 : Int) < 1000001; decide), _, _, rfl, rfl, ?_⟩
    -- if d[3] % 4 == 2: c = a * (d[2] % 9 - 4) + b * (d[2] // 9 % 9 - 4)
    refine ⟨_, rfl, a, _, _, _, rfl, rfl, .inl (s2.seq hS), a3, _, _, rfl, rfl, (by show (0 : Int) < 4; decide), rfl, _, rfl, ?_⟩
    refine ifE (fun _ => ?_) (fun _ => ?_)
    · refine ⟨_, rfl, _, rfl, a, _, _, _, rfl, rfl, .inl (s2.seq hS), a2, _, _, rfl, rfl, (by show (0 : Int) < 9; decide), _, _, rfl, rfl, _, _, rfl, rfl, .inl ⟨by omega, by omega⟩,
        _, rfl, _, rfl, a, _, _, _, rfl, rfl, .inl (s2.seq hS), a2, _, _, rfl, rfl, CDivP.of (by decide) (by decide +kernel), _, _, rfl, rfl, (by show (0 : Int) < 9; decide), _, _, rfl, rfl, _, _, rfl, rfl, .inl ⟨by omega, by omega⟩, _, _, rfl, rfl, ?_⟩
      have z1 := natAbs_mul_le x (v2 % 9 - 4) (m := 2000) (n := 4) mx (by omega)
      have z2 := natAbs_mul_le y (v2 / 9 % 9 - 4) (m := 2000) (n := 4) my (by omega)
      have mc : ((x * (v2 % 9 - 4) + y * (v2 / 9 % 9 - 4))).natAbs ≤ 1000000 := by omega
      refine ⟨_, rfl, a, _, _, _, rfl, rfl, .inl (s2.seq hS), a4, _, _, rfl, rfl, CDivP.of (by decide) (by decide +kernel), _, _, rfl, rfl, (by show (0 : Int) < 12; decide), rfl, _, rfl, ?_⟩
      refine ifE (fun _ => ?_) (fun _ => ?_)
      · refine ⟨_, rfl, _, _, rfl, rfl, .inl ⟨by decide, by decide⟩, _, rfl, a, _, _, _, rfl, rfl, .inl (s2.seq hS), a0, _, _, rfl, rfl, (by show (0 : Int) < 5; decide), _, _, rfl, rfl, _, _, rfl, rfl,
          _, rfl, _, _, rfl, rfl, .inl ⟨by decide, by decide⟩, _, rfl, a, _, _, _, rfl, rfl, .inl (s2.seq hS), a1, _, _, rfl, rfl, (by show (0 : Int) < 5; decide), _, _, rfl, rfl, _, _, rfl, rfl,
          _, rfl, _, _, rfl, rfl, .inl ⟨by decide, by decide⟩, _, rfl, a, _, _, _, rfl, rfl, .inl (s2.seq hS), a3, _, _, rfl, rfl, (by show (0 : Int) < 900; decide), _, _, rfl, rfl, (by show 3 ≤ sizeLine; decide), fun r hr0 => ?_⟩
        exact q r _ _ _ _ (s2.trans (same_new hr0 _)) (s2.free hr0) upd_same (by omega) (by omega) (by omega) (by omega)
      · refine ⟨_, rfl, _, rfl, _, rfl, (by show 3 ≤ sizeLine; decide), fun r hr0 => ?_⟩
        exact q r _ _ _ _ (s2.trans (same_new hr0 _)) (s2.free hr0) upd_same hn (by omega) (by omega) (by omega)
    · skip
      have mc : ((v2 % 1000001 - 300000)).natAbs ≤ 1000000 := by omega
      refine ⟨_, rfl, a, _, _, _, rfl, rfl, .inl (s2.seq hS), a4, _, _, rfl, rfl, CDivP.of (by decide) (by decide +kernel), _, _, rfl, rfl, (by show (0 : Int) < 12; decide), rfl, _, rfl, ?_⟩
      refine ifE (fun _ => ?_) (fun _ => ?_)
      · refine ⟨_, rfl, _, _, rfl, rfl, .inl ⟨by decide, by decide⟩, _, rfl, a, _, _, _, rfl, rfl, .inl (s2.seq hS), a0, _, _, rfl, rfl, (by show (0 : Int) < 5; decide), _, _, rfl, rfl, _, _, rfl, rfl,
          _, rfl, _, _, rfl, rfl, .inl ⟨by decide, by decide⟩, _, rfl, a, _, _, _, rfl, rfl, .inl (s2.seq hS), a1, _, _, rfl, rfl, (by show (0 : Int) < 5; decide), _, _, rfl, rfl, _, _, rfl, rfl,
          _, rfl, _, _, rfl, rfl, .inl ⟨by decide, by decide⟩, _, rfl, a, _, _, _, rfl, rfl, .inl (s2.seq hS), a3, _, _, rfl, rfl, (by show (0 : Int) < 900; decide), _, _, rfl, rfl, (by show 3 ≤ sizeLine; decide), fun r hr0 => ?_⟩
        exact q r _ _ _ _ (s2.trans (same_new hr0 _)) (s2.free hr0) upd_same (by omega) (by omega) (by omega) (by omega)
      · refine ⟨_, rfl, _, rfl, _, rfl, (by show 3 ≤ sizeLine; decide), fun r hr0 => ?_⟩
        exact q r _ _ _ _ (s2.trans (same_new hr0 _)) (s2.free hr0) upd_same hn (by omega) (by omega) (by omega)
  · skip
    -- if d[3] % 4 == 2: c = a * (d[2] % 9 - 4) + b * (d[2] // 9 % 9 - 4)
    refine ⟨_, rfl, a, _, _, _, rfl, rfl, .inl (s2.seq hS), a3, _, _, rfl, rfl, (by show (0 : Int) < 4; decide), rfl, _, rfl, ?_⟩
    refine ifE (fun _ => ?_) (fun _ => ?_)
    · refine ⟨_, rfl, _, rfl, a, _, _, _, rfl, rfl, .inl (s2.seq hS), a2, _, _, rfl, rfl, (by show (0 : Int) < 9; decide), _, _, rfl, rfl, _, _, rfl, rfl, .inl ⟨by omega, by omega⟩,
        _, rfl, _, rfl, a, _, _, _, rfl, rfl, .inl (s2.seq hS), a2, _, _, rfl, rfl, CDivP.of (by decide) (by decide +kernel), _, _, rfl, rfl, (by show (0 : Int) < 9; decide), _, _, rfl, rfl, _, _, rfl, rfl, .inl ⟨by omega, by omega⟩, _, _, rfl, rfl, ?_⟩
      have z1 := natAbs_mul_le x (v2 % 9 - 4) (m := 2000) (n := 4) mx (by omega)
      have z2 := natAbs_mul_le y (v2 / 9 % 9 - 4) (m := 2000) (n := 4) my (by omega)
      have mc : ((x * (v2 % 9 - 4) + y * (v2 / 9 % 9 - 4))).natAbs ≤ 1000000 := by omega
      refine ⟨_, rfl, a, _, _, _, rfl, rfl, .inl (s2.seq hS), a4, _, _, rfl, rfl, CDivP.of (by decide) (by decide +kernel), _, _, rfl, rfl, (by show (0 : Int) < 12; decide), rfl, _, rfl, ?_⟩
      refine ifE (fun _ => ?_) (fun _ => ?_)
      · refine ⟨_, rfl, _, _, rfl, rfl, .inl ⟨by decide, by decide⟩, _, rfl, a, _, _, _, rfl, rfl, .inl (s2.seq hS), a0, _, _, rfl, rfl, (by show (0 : Int) < 5; decide), _, _, rfl, rfl, _, _, rfl, rfl,
          _, rfl, _, _, rfl, rfl, .inl ⟨by decide, by decide⟩, _, rfl, a, _, _, _, rfl, rfl, .inl (s2.seq hS), a1, _, _, rfl, rfl, (by show (0 : Int) < 5; decide), _, _, rfl, rfl, _, _, rfl, rfl,
          _, rfl, _, _, rfl, rfl, .inl ⟨by decide, by decide⟩, _, rfl, a, _, _, _, rfl, rfl, .inl (s2.seq hS), a3, _, _, rfl, rfl, (by show (0 : Int) < 900; decide), _, _, rfl, rfl, (by show 3 ≤ sizeLine; decide), fun r hr0 => ?_⟩
        exact q r _ _ _ _ (s2.trans (same_new hr0 _)) (s2.free hr0) upd_same (by omega) (by omega) (by omega) (by omega)
      · refine ⟨_, rfl, _, rfl, _, rfl, (by show 3 ≤ sizeLine; decide), fun r hr0 => ?_⟩
        exact q r _ _ _ _ (s2.trans (same_new hr0 _)) (s2.free hr0) upd_same hn (by omega) (by omega) (by omega)
    · skip
      have mc : ((v2 % 19 - 4)).natAbs ≤ 1000000 := by omega
      refine ⟨_, rfl, a, _, _, _, rfl, rfl, .inl (s2.seq hS), a4, _, _, rfl, rfl, CDivP.of (by decide) (by decide +kernel), _, _, rfl, rfl, (by show (0 : Int) < 12; decide), rfl, _, rfl, ?_⟩
      refine ifE (fun _ => ?_) (fun _ => ?_)
      · refine ⟨_, rfl, _, _, rfl, rfl, .inl ⟨by decide, by decide⟩, _, rfl, a, _, _, _, rfl, rfl, .inl (s2.seq hS), a0, _, _, rfl, rfl, (by show (0 : Int) < 5; decide), _, _, rfl, rfl, _, _, rfl, rfl,
          _, rfl, _, _, rfl, rfl, .inl ⟨by decide, by decide⟩, _, rfl, a, _, _, _, rfl, rfl, .inl (s2.seq hS), a1, _, _, rfl, rfl, (by show (0 : Int) < 5; decide), _, _, rfl, rfl, _, _, rfl, rfl,
          _, rfl, _, _, rfl, rfl, .inl ⟨by decide, by decide⟩, _, rfl, a, _, _, _, rfl, rfl, .inl (s2.seq hS), a3, _, _, rfl, rfl, (by show (0 : Int) < 900; decide), _, _, rfl, rfl, (by show 3 ≤ sizeLine; decide), fun r hr0 => ?_⟩
        exact q r _ _ _ _ (s2.trans (same_new hr0 _)) (s2.free hr0) upd_same (by omega) (by omega) (by omega) (by omega)
      · refine ⟨_, rfl, _, rfl, _, rfl, (by show 3 ≤ sizeLine; decide), fun r hr0 => ?_⟩
        exact q r _ _ _ _ (s2.trans (same_new hr0 _)) (s2.free hr0) upd_same hn (by omega) (by omega) (by omega)
theorem comp_enum0 {K : PySem.W.Frag} {l D : Addr} {xs : List V} {g : TG} {te : TE} {σ0 : St} {H1 : Hp} {Q : VK} (Pv : Nat → St → List V → Hp → Prop) (h0 : Pv 0 σ0 [] (upd H1 D (.lst []))) (hl : ∀ i σ zs H, Pv i σ zs H → SqL K H l xs ∧ H D = some (.lst zs))
    (hs : ∀ i x T σ zs H, xs[i]? = some x → H T = none → Pv i σ zs H → g (.ref T) σ (upd H T (.tup [.int i, x])) fun σ2 H2 => te σ2 H2 fun z H4 => H4 D = some (.lst zs) ∧ zs.length < sizeLine ∧ Pv (i + 1) σ2 (zs ++ [z]) (upd H4 D (.lst (zs ++ [z]))))
    (hd : ∀ σ zs H, Pv xs.length σ zs H → Q (.ref D) H) : CompW (Ite K l) D g tYes te σ0 H1 Q := comp_enum Pv h0 hl (fun i x T σ zs H e1 e2 p => hs i x T σ zs H e1 e2 p) hd
theorem sdRefs_set (ss : List Sd) (j : Nat) (t : Sd) : (sdRefs ss).set j (.ref t.1) = sdRefs (ss.set j t) := by
  simp [sdRefs, List.map_set]
def sp_L_sides (K : PySem.W.Frag) : Sp := fun vs H Q _ => ∃ (r : Addr) (rows : List Int) (m : Int), vs = [.ref r, .int m] ∧ SqL K H r (rows.map V.int) ∧ 0 ≤ m ∧ m ≤ 60 ∧ 3 ≤ rows.length ∧ 3 + 5 * m ≤ rows.length ∧ (∀ x ∈ rows, 0 ≤ x ∧ x < 1000003) ∧
  ∀ (l : Addr) (ss : List Sd) (H' : Hp), Same H H' → H l = none → H' l = some (.lst (sdRefs ss)) → ss.length = m.toNat → SdOk H' ss → (∀ t ∈ ss, t.2.1.natAbs ≤ 3 * 10 ^ 8 ∧ t.2.2.1.natAbs ≤ 3 * 10 ^ 8 ∧ t.2.2.2.natAbs ≤ 3 * 10 ^ 12) → Q (.ref l) H'
theorem ok_L_sides {f : Addr} {fd : FuncData} (F : Fun K "_law_sides" "_law_sides" s_L_sides f fd) (Z : Zs mg) (h_L_side : Has P w K mg base "_law_side" 2 ["_law_d"] (sp_L_side K)) : FnOk P w K mg base CX0 3 f fd ["_law_some", "_law_many"] (sp_L_sides K) := by
  refine F.ok sc_L_sides (fun vs H Q E h => ?_) (fun cdv A outer s H vs Q E hr h => ?_)
  · obtain ⟨r, rows, m, rfl, _⟩ := h
    rfl
  obtain ⟨r, rows, m, rfl, hS, m0, m60, hl3, hl, bd, q⟩ := h
  refine ⟨_, (pss_cons (ps_setComp (T := ["_law_k"]) (caps := [("_law_some", 0)]) (i := 2) sc_L_sides.nd rfl rfl ⟨rfl, by decide +kernel, by decide +kernel, rfl, ⟨⟨rfl, rfl, Or.inl rfl⟩, True.intro⟩⟩ rfl (pi_range1 rfl Z.range (pa_cons (pv 1) pa_nil)) (fun _ => (pg_name (i := 0) (show (["_law_k", "_law_some"] : List Str).Nodup by decide +kernel) rfl (Or.inl rfl))) (fun _ => pifs_nil) (fun _ => (pe_callH h_L_side (hr.mono (by decide)) rfl (pa_cons (pe_slice sl_list (pv 1) (po_some (pe_op op_add pe_int (pe_op op_mul pe_int (pv 0)))) po_none) pa_nil))))
      (pss_cons (ps_if (PW.pt (pw_and (pt_cmpR op_gt (pv 1) pe_int (nomark _)) (pw_and1 (pt_cmpR op_eq (pe_op op_mod (pe_ix ix_any (pv 0) pe_int (fun _ _ => rfl)) pe_int) pe_int (nomark _))))) (pss_one (ps_asg (pe_ix ix_any (pv 2) (pe_op op_mod (pe_ix ix_any (pv 0) pe_int (fun _ _ => rfl)) (pv 1)) (fun _ _ => rfl)) (pg_sub (pv 2) (pe_op op_mod (pe_ix ix_any (pv 0) pe_int (fun _ _ => rfl)) (pv 1)) set_list))) pss_nil)
      (pss_cons (ps_if (pt_cmpR op_eq (pe_op op_mod (pe_op op_fdivP (pe_ix ix_any (pv 0) pe_int (fun _ _ => rfl)) pe_int) pe_int) pe_int (nomark _)) (pss_cons (ps_asg (pe_tup (pa_cons (pe_op op_sub (pe_op op_mod (pe_ix ix_any (pv 0) pe_int (fun _ _ => rfl)) pe_int) pe_int) (pa_cons (pe_op op_sub (pe_op op_mod (pe_ix ix_any (pv 0) pe_int (fun _ _ => rfl)) pe_int) pe_int) pa_nil))) (pg_tup rfl (pgs_cons (pg_name (i := 3) sc_L_sides.nd rfl (Or.inr rfl)) (pgs_cons (pg_name (i := 4) sc_L_sides.nd rfl (Or.inr rfl)) pgs_nil))))
      (pss_one (ps_setComp (T := ["_law_a", "_law_b", "_law_c"]) (caps := [("_law_x", 3), ("_law_y", 4)]) (i := 2) sc_L_sides.nd rfl rfl ⟨rfl, by decide +kernel, by decide +kernel, rfl, ⟨⟨rfl, rfl, Or.inl rfl⟩, ⟨rfl, rfl, Or.inl rfl⟩, True.intro⟩⟩ rfl (pi_seq (pv 2)) (fun _ => (pg_tup rfl (pgs_cons (pg_name (i := 0) (show (["_law_a", "_law_b", "_law_c", "_law_x", "_law_y"] : List Str).Nodup by decide +kernel) rfl (Or.inl rfl)) (pgs_cons (pg_name (i := 1) (show (["_law_a", "_law_b", "_law_c", "_law_x", "_law_y"] : List Str).Nodup by decide +kernel) rfl (Or.inl rfl)) (pgs_cons (pg_name (i := 2) (show (["_law_a", "_law_b", "_law_c", "_law_x", "_law_y"] : List Str).Nodup by decide +kernel) rfl (Or.inl rfl)) pgs_nil))))) (fun _ => pifs_nil) (fun _ => (pe_tup (pa_cons (pv 0) (pa_cons (pv 1) (pa_cons (pe_op op_add (pe_op op_add (pv 2) (pe_op op_mul (pv 0) (pv 3))) (pe_op op_mul (pv 1) (pv 4))) pa_nil)))))))) pss_nil)
      (pss_cons (ps_if (pt_cmpR op_eq (pe_op op_mod (pe_op op_fdivP (pe_ix ix_any (pv 0) pe_int (fun _ _ => rfl)) pe_int) pe_int) pe_int (nomark _)) (pss_one (ps_setComp (T := ["_law_k", "_law_a", "_law_b", "_law_c"]) (caps := []) (i := 2) sc_L_sides.nd rfl rfl ⟨rfl, by decide +kernel, by decide +kernel, rfl, True.intro⟩ rfl (pi_enum rfl Z.enumerate (pa_cons (pv 2) pa_nil)) (fun _ => (pg_tup rfl (pgs_cons (pg_name (i := 0) (show (["_law_k", "_law_a", "_law_b", "_law_c"] : List Str).Nodup by decide +kernel) rfl (Or.inl rfl)) (pgs_cons (pg_tup rfl (pgs_cons (pg_name (i := 1) (show (["_law_k", "_law_a", "_law_b", "_law_c"] : List Str).Nodup by decide +kernel) rfl (Or.inl rfl)) (pgs_cons (pg_name (i := 2) (show (["_law_k", "_law_a", "_law_b", "_law_c"] : List Str).Nodup by decide +kernel) rfl (Or.inl rfl)) (pgs_cons (pg_name (i := 3) (show (["_law_k", "_law_a", "_law_b", "_law_c"] : List Str).Nodup by decide +kernel) rfl (Or.inl rfl)) pgs_nil)))) pgs_nil)))) (fun _ => pifs_nil) (fun _ => (pe_ifExp (pt_cmpR op_eq (pe_op op_mod (pv 0) pe_int) pe_int (nomark _)) (pe_tup (pa_cons (pe_op op_mul pe_int (pv 1)) (pa_cons (pe_op op_mul pe_int (pv 2)) (pa_cons (pe_op op_mul pe_int (pv 3)) pa_nil)))) (pe_tup (pa_cons (pv 1) (pa_cons (pv 2) (pa_cons (pv 3) pa_nil)))))))) pss_nil)
      (pss_one (ps_ret (pv 2))))))), ?_⟩
  obtain ⟨v0, a0, _⟩ := row_at bd (k := 0) (by decide) (by omega)
  obtain ⟨v1, a1, _⟩ := row_at bd (k := 1) (by decide) (by omega)
  obtain ⟨v2, a2, _⟩ := row_at bd (k := 2) (by decide) (by omega)
  have cutD : ∀ k : Nat, k ≤ rows.length → cutV (rows.map V.int) (some (k : Int)) none = (rows.drop k).map V.int := fun k hk => by
    rw [cutV_ints, HT.sIx_nat rows.length 0 k, show min k rows.length = k by omega, show HT.sIx rows.length rows.length none = rows.length from rfl, List.take_of_length_le (by rw [List.length_drop]; omega)]
  apply cutS (ok := fun D ss G => ss.length = m.toNat ∧ SdSt H D ss G ∧ ∀ t ∈ ss, t.2.1.natAbs ≤ 10 ^ 7 ∧ t.2.2.1.natAbs ≤ 10 ^ 7 ∧ t.2.2.2.natAbs ≤ 10 ^ 10)
  · intro main
    refine ⟨_, rfl, _, rfl, (by omega), (by omega), fun cc D hD => comp_range0 (lo := 0) (n := m.toNat) (fun i σ ys G => ∃ ss : List Sd, ys = sdRefs ss ∧ ss.length = i ∧ SdSt H D ss G ∧ (∀ t ∈ ss, t.2.1.natAbs ≤ 10 ^ 7 ∧ t.2.2.1.natAbs ≤ 10 ^ 7 ∧ t.2.2.2.natAbs ≤ 10 ^ 10) ∧ ∃ u0 : Option V, σ = [u0, some (.ref r)])
      ⟨[], rfl, rfl, ⟨same_new hD _, hD, upd_same, (fun t ht => nomatch ht)⟩, (fun t ht => nomatch ht), none, rfl⟩ (fun i σ ys G _ ⟨ss, e1, _, P, _⟩ => by rw [e1]; exact P.at') ?_ ?_⟩
    · rintro i σ ys G hi ⟨ss, rfl, hlen, Pi, bnd, u0, rfl⟩
      have cm : CMul 5 (0 + (i : Int)) := .inl ⟨by decide, by decide⟩
      have ci : (3 : Int) + 5 * (0 + (i : Int)) = ((3 + 5 * i : Nat) : Int) := by omega
      have hi' : 3 + 5 * i + 5 ≤ rows.length := by omega
      refine ⟨_, rfl, _, rfl, _, _, rfl, rfl, cm, _, _, rfl, rfl, _, rfl, r, _, rfl, Pi.same.seq hS, fun c1 hc1 => ?_⟩
      rw [ci, cutD (3 + 5 * i) (by omega)]
      have sc1 := same_new hc1 (.lst ((rows.drop (3 + 5 * i)).map V.int))
      refine ⟨c1, rows.drop (3 + 5 * i), rfl, SqL.of upd_same, by rw [List.length_drop]; omega, fun x hx => bd x (List.mem_of_mem_drop hx), fun p a b c G2 s2 hp ep n ma mb mc => ?_⟩
      refine ⟨s2 _ _ (sc1 _ _ Pi.at'), small1000 (by rw [sdRefs_length]; omega), ss ++ [(p, a, b, c)], by simp [sdRefs], by rw [List.length_append, hlen]; rfl, Pi.app (sc1.trans s2) (sc1.free hp) ep n (Nat.le_trans ma (by decide)) (Nat.le_trans mb (by decide)) (Nat.le_trans mc (by decide)), fun u hu => ?_, _, rfl⟩
      rcases List.mem_append.mp hu with h | h
      · exact bnd u h
      · rw [List.mem_singleton] at h
        subst h
        exact ⟨ma, mb, mc⟩
    rintro σ ys G ⟨ss, rfl, hlen, P0, bnd, u0, rfl⟩
    -- if many > 1 and some[0] % 4 == 1
    refine ⟨_, rfl, _, _, rfl, rfl, _, rfl, ?_⟩
    refine ifD (fun hm1 => ?_) (fun _ => ?_)
    · refine ⟨_, rfl, r, _, _, _, rfl, rfl, .inl (P0.same.seq hS), a0, _, _, rfl, rfl, (by show (0 : Int) < 4; decide), rfl, _, rfl, ?_⟩
      refine ifE (fun _ => ?_) (fun _ => ?_)
      · have sqr : Sq K G r (rows.map V.int) := .inl (P0.same.seq hS)
        have y0 := Int.emod_nonneg v2 (show m ≠ 0 by omega)
        have y1 := Int.emod_lt_of_pos v2 (show 0 < m by omega)
        have x0 := Int.emod_nonneg v1 (show m ≠ 0 by omega)
        have x1 := Int.emod_lt_of_pos v1 (show 0 < m by omega)
        obtain ⟨t, mt, gt, at'⟩ := sdRefs_at (ss := ss) (i := (v2 % m).toNat) (k := v2 % m) (by omega) (by omega)
        have ixn : ixN (sdRefs ss).length (v1 % m) = some (v1 % m).toNat := by
          unfold ixN
          rw [if_pos x0, sdRefs_length, if_pos (by omega)]
        refine ⟨_, rfl, _, rfl, r, _, _, _, rfl, rfl, sqr, a2, _, rfl, _, _, rfl, rfl, (by show (0 : Int) < m; omega), D, _, _, _, rfl, rfl, .inl (SqL.of P0.at'), at', ?_⟩
        refine ⟨_, rfl, _, rfl, r, _, _, _, rfl, rfl, sqr, a1, _, rfl, _, _, rfl, rfl, (by show (0 : Int) < m; omega), D, _, _, _, rfl, rfl, P0.at', ixn, ?_⟩
        rw [sdRefs_set]
        have P1 : SdSt H D (ss.set (v1 % m).toNat t) (upd G D (.lst (sdRefs (ss.set (v1 % m).toNat t)))) := by
          refine ⟨P0.same.putNew P0.new, P0.new, upd_same, fun u hu => ?_⟩
          have hu' : u ∈ ss := by
            rcases List.mem_or_eq_of_mem_set hu with h | h
            · exact h
            · rw [h]; exact mt
          obtain ⟨h1, h2⟩ := P0.all u hu'
          exact ⟨by rw [upd_ne (ne_of h1 P0.at' (by intro z; cases z))]; exact h1, h2⟩
        have B1 : ∀ u ∈ ss.set (v1 % m).toNat t, u.2.1.natAbs ≤ 10 ^ 7 ∧ u.2.2.1.natAbs ≤ 10 ^ 7 ∧ u.2.2.2.natAbs ≤ 10 ^ 10 := fun u hu => by
          rcases List.mem_or_eq_of_mem_set hu with h | h
          · exact bnd u h
          · rw [h]; exact bnd t mt
        have N1 : (ss.set (v1 % m).toNat t).length = m.toNat := by rw [List.length_set]; exact hlen
        generalize upd G D (.lst (sdRefs (ss.set (v1 % m).toNat t))) = G1 at P1 ⊢
        generalize ss.set (v1 % m).toNat t = ss1 at P1 B1 N1
        exact main D ss1 G1 ⟨N1, P1, B1⟩
      · exact main D ss G ⟨hlen, P0, bnd⟩
    · refine iteF ?_
      exact main D ss G ⟨hlen, P0, bnd⟩
  clear cutD
  rintro D ss G ⟨hlen, P0, bnd⟩
  -- if some[0] // 4 % 3 == 1
  refine ⟨_, rfl, r, _, _, _, rfl, rfl, (.inl ((P0).same.seq hS)), a0, _, _, rfl, rfl, CDivP.of (by decide) (by decide +kernel), _, _, rfl, rfl, (by show (0 : Int) < 3; decide), rfl, _, rfl, ?_⟩
  refine ifE (fun _ => ?_) (fun _ => ?_)
  · have sqr : Sq K G r (rows.map V.int) := .inl ((P0).same.seq hS)
    refine ⟨_, rfl, r, _, _, _, rfl, rfl, sqr, a1, _, _, rfl, rfl, (by show (0 : Int) < 2001; decide), _, _, rfl, rfl, _, rfl, r, _, _, _, rfl, rfl, sqr, a2, _, _, rfl, rfl, (by show (0 : Int) < 2001; decide), _, _, rfl, rfl, (by show 2 ≤ sizeLine; decide), fun tx htx => ?_⟩
    have stx : Same G (upd G tx (.tup [.int (v1 % 2001 - 1000), .int (v2 % 2001 - 1000)])) := same_new htx _
    have etx : upd G tx (.tup [.int (v1 % 2001 - 1000), .int (v2 % 2001 - 1000)]) tx = some (.tup [.int (v1 % 2001 - 1000), .int (v2 % 2001 - 1000)]) := upd_same
    generalize upd G tx (.tup [.int (v1 % 2001 - 1000), .int (v2 % 2001 - 1000)]) = GX at stx etx ⊢
    have bX : (v1 % 2001 - 1000).natAbs ≤ 1000 := by omega
    have bY : (v2 % 2001 - 1000).natAbs ≤ 1000 := by omega
    generalize v1 % 2001 - 1000 = X at etx bX
    generalize v2 % 2001 - 1000 = Y at etx bY
    refine ⟨tx, _, rfl, SqT.of etx, rfl, .int X, _, rfl, .int Y, _, rfl, rfl, ?_⟩
    refine ⟨_, rfl, D, rfl, .inl ⟨⟨_, SqL.of (stx _ _ (P0).at')⟩, fun cc D2 hD2 => comp_list0 (K := K) (a := D) (xs := sdRefs ss) (fun i σ ys Gd => ∃ sb : List Sd, ys = sdRefs sb ∧ sb.length = i ∧ SdSt GX D2 sb Gd ∧ (∀ t ∈ sb, t.2.1.natAbs ≤ 10 ^ 7 ∧ t.2.2.1.natAbs ≤ 10 ^ 7 ∧ t.2.2.2.natAbs ≤ 10 ^ 12) ∧ ∃ u0 u1 u2 : Option V, σ = [u0, u1, u2, some (.int X), some (.int Y)])
      ⟨[], rfl, rfl, ⟨same_new hD2 _, hD2, upd_same, (fun t ht => nomatch ht)⟩, (fun t ht => nomatch ht), none, none, none, rfl⟩ (fun i σ ys Ge _ ⟨sb, e1, _, Pq, _⟩ => ⟨SqL.of (Pq.same _ _ (stx _ _ (P0).at')), by rw [e1]; exact Pq.at'⟩) ?_ ?_⟩⟩
    · rintro i x σ ys Gf hi ⟨sb, rfl, nb, Pg, bnb, u0, u1, u2, rfl⟩
      obtain ⟨t, gt, rfl, hil⟩ := sdRefs_get hi
      obtain ⟨et, nt, b1, b2, b3⟩ := (P0).all t (List.mem_of_getElem? gt)
      obtain ⟨c1, c2, c3⟩ := bnd t (List.mem_of_getElem? gt)
      refine ⟨t.1, _, rfl, SqT.of (Pg.same _ _ (stx _ _ et)), rfl, .int t.2.1, _, rfl, .int t.2.2.1, _, rfl, .int t.2.2.2, _, rfl, rfl, ?_⟩
      have z1 := natAbs_mul_le t.2.1 X c1 bX
      have z2 := natAbs_mul_le t.2.2.1 Y c2 bY
      refine ⟨_, rfl, _, rfl, _, rfl, _, rfl, _, rfl, _, _, rfl, rfl, .inl ⟨by omega, by omega⟩, _, _, rfl, rfl, _, rfl, _, rfl, _, _, rfl, rfl, .inl ⟨by omega, by omega⟩, _, _, rfl, rfl, (by show 3 ≤ sizeLine; decide), fun p hp => ?_⟩
      have sp := same_new hp (.tup [.int t.2.1, .int t.2.2.1, .int (t.2.2.2 + t.2.1 * X + t.2.2.1 * Y)])
      refine ⟨sp _ _ Pg.at', small1000 (by rw [sdRefs_length]; omega), sb ++ [(p, t.2.1, t.2.2.1, t.2.2.2 + t.2.1 * X + t.2.2.1 * Y)], by simp [sdRefs], by rw [List.length_append, nb]; rfl, Pg.app sp hp upd_same nt b1 b2 (by omega), fun u hu => ?_, _, _, _, rfl⟩
      rcases List.mem_append.mp hu with h | h
      · exact bnb u h
      · rw [List.mem_singleton] at h
        subst h
        exact ⟨c1, c2, by show (t.2.2.2 + t.2.1 * X + t.2.2.1 * Y).natAbs ≤ 10 ^ 12; omega⟩
    · rintro σ ys Gf ⟨ss2, rfl, nb, Pg, bnb, u0, u1, u2, rfl⟩
      rw [sdRefs_length] at nb
      have N2 : ss2.length = m.toNat := nb.trans hlen
      have P2 : SdSt H D2 ss2 Gf := ⟨((P0).same.trans stx).trans Pg.same, (P0).same.free (stx.free Pg.new), Pg.at', Pg.all⟩
      have P2s : ∀ t ∈ ss2, t.2.1.natAbs ≤ 10 ^ 8 ∧ t.2.2.1.natAbs ≤ 10 ^ 8 ∧ t.2.2.2.natAbs ≤ 10 ^ 12 := fun t ht => ⟨Nat.le_trans (bnb t ht).1 (by decide), Nat.le_trans (bnb t ht).2.1 (by decide), (bnb t ht).2.2⟩
      clear Pg
      -- if some[0] // 12 % 3 == 1
      refine ⟨_, rfl, r, _, _, _, rfl, rfl, (.inl (P2.same.seq hS)), a0, _, _, rfl, rfl, CDivP.of (by decide) (by decide +kernel), _, _, rfl, rfl, (by show (0 : Int) < 3; decide), rfl, _, rfl, ?_⟩
      refine ifE (fun _ => ?_) (fun _ => ?_)
      · refine ⟨_, rfl, D2, _, rfl, (P2).at', fun cc D3 hD3 => comp_enum0 (K := K) (l := D2) (xs := sdRefs ss2) (fun i σ ys Ga => ∃ sa : List Sd, ys = sdRefs sa ∧ sa.length = i ∧ SdSt Gf D3 sa Ga ∧ (∀ t ∈ sa, t.2.1.natAbs ≤ 3 * 10 ^ 8 ∧ t.2.2.1.natAbs ≤ 3 * 10 ^ 8 ∧ t.2.2.2.natAbs ≤ 3 * 10 ^ 12) ∧ ∃ u0 u1 u2 u3 : Option V, σ = [u0, u1, u2, u3])
          ⟨[], rfl, rfl, ⟨same_new hD3 _, hD3, upd_same, (fun t ht => nomatch ht)⟩, (fun t ht => nomatch ht), none, none, none, none, rfl⟩ (fun i σ ys Gb ⟨sa, e1, _, Pq, _⟩ => ⟨SqL.of (Pq.same _ _ (P2).at'), by rw [e1]; exact Pq.at'⟩) ?_ ?_⟩
        · rintro i x T σ ys Gc hi hT ⟨sa, rfl, na, Pc, bc, u0, u1, u2, u3, rfl⟩
          obtain ⟨t, gt, rfl, hil⟩ := sdRefs_get hi
          obtain ⟨et, nt, _⟩ := (P2).all t (List.mem_of_getElem? gt)
          obtain ⟨b1, b2, b3⟩ := P2s t (List.mem_of_getElem? gt)
          have k9 : (10 : Nat) ^ 8 * 3 ≤ 10 ^ 9 := by decide
          have sT := same_new hT (.tup [.int i, .ref t.1])
          have npT : ∀ p, upd Gc T (.tup [.int i, .ref t.1]) p = none → Gc p = none := fun p hp => sT.free hp
          have eT : upd Gc T (.tup [.int i, .ref t.1]) T = some (.tup [.int i, .ref t.1]) := upd_same
          have et' := sT _ _ (Pc.same _ _ et)
          generalize upd Gc T (.tup [.int i, .ref t.1]) = G2 at sT npT eT et' ⊢
          refine ⟨T, _, rfl, SqT.of eT, rfl, .int i, _, rfl, .ref t.1, _, rfl, ?_⟩
          refine ⟨t.1, _, rfl, SqT.of et', rfl, .int t.2.1, _, rfl, .int t.2.2.1, _, rfl, .int t.2.2.2, _, rfl, rfl, rfl, ?_⟩
          have c3 : ∀ j : Int, CMul 3 j := fun j => .inl ⟨by decide, by decide⟩
          refine ⟨_, rfl, _, _, rfl, rfl, (by show (0 : Int) < 2; decide), rfl, _, rfl, ?_⟩
          refine ifE (fun _ => ?_) (fun _ => ?_)
          · refine ⟨_, rfl, _, _, rfl, rfl, c3 _, _, rfl, _, _, rfl, rfl, c3 _, _, rfl, _, _, rfl, rfl, c3 _, (by show 3 ≤ sizeLine; decide), fun p hp => ?_⟩
            have sp := same_new hp (.tup [.int (3 * t.2.1), .int (3 * t.2.2.1), .int (3 * t.2.2.2)])
            refine ⟨sp _ _ (sT _ _ Pc.at'), small1000 (by rw [sdRefs_length]; omega), sa ++ [(p, 3 * t.2.1, 3 * t.2.2.1, 3 * t.2.2.2)], by simp [sdRefs], by rw [List.length_append, na]; rfl, Pc.app (sT.trans sp) (npT p hp) upd_same (by omega) (by omega) (by omega) (by omega), fun u hu => (List.mem_append.mp hu).elim (bc u) fun h => by rw [List.mem_singleton] at h; subst h; exact ⟨(by show (3 * t.2.1).natAbs ≤ 3 * 10 ^ 8; omega), (by show (3 * t.2.2.1).natAbs ≤ 3 * 10 ^ 8; omega), (by show (3 * t.2.2.2).natAbs ≤ 3 * 10 ^ 12; omega)⟩, _, _, _, _, rfl⟩
          · refine ⟨_, rfl, _, rfl, _, rfl, (by show 3 ≤ sizeLine; decide), fun p hp => ?_⟩
            have sp := same_new hp (.tup [.int t.2.1, .int t.2.2.1, .int t.2.2.2])
            refine ⟨sp _ _ (sT _ _ Pc.at'), small1000 (by rw [sdRefs_length]; omega), sa ++ [(p, t.2.1, t.2.2.1, t.2.2.2)], by simp [sdRefs], by rw [List.length_append, na]; rfl, Pc.app (sT.trans sp) (npT p hp) upd_same nt (by omega) (by omega) (by omega), fun u hu => (List.mem_append.mp hu).elim (bc u) fun h => by rw [List.mem_singleton] at h; subst h; exact ⟨(by show t.2.1.natAbs ≤ 3 * 10 ^ 8; omega), (by show t.2.2.1.natAbs ≤ 3 * 10 ^ 8; omega), (by show t.2.2.2.natAbs ≤ 3 * 10 ^ 12; omega)⟩, _, _, _, _, rfl⟩
        · rintro σ ys Gc ⟨sa, rfl, na, Pc, bc, u0, u1, u2, u3, rfl⟩
          rw [sdRefs_length] at na
          exact ⟨_, rfl, q D3 sa Gc ((P2).same.trans Pc.same) ((P2).same.free Pc.new) Pc.at' (na.trans N2) (fun t ht => (Pc.all t ht)) bc⟩
      · exact ⟨_, rfl, q D2 ss2 _ (P2).same (P2).new (P2).at' N2 (fun t ht => ⟨((P2).all t ht).1, ((P2).all t ht).2.1, by have := ((P2).all t ht).2.2.1; omega, by have := ((P2).all t ht).2.2.2.1; omega, by have := ((P2).all t ht).2.2.2.2; omega⟩) (fun t ht => by have z := P2s t ht; exact ⟨by omega, by omega, by omega⟩)⟩
  · have N3 := hlen
    have P3 := P0
    have P3s : ∀ t ∈ ss, t.2.1.natAbs ≤ 10 ^ 8 ∧ t.2.2.1.natAbs ≤ 10 ^ 8 ∧ t.2.2.2.natAbs ≤ 10 ^ 12 := fun t ht => ⟨Nat.le_trans (bnd t ht).1 (by decide), Nat.le_trans (bnd t ht).2.1 (by decide), Nat.le_trans (bnd t ht).2.2 (by decide)⟩
    -- if some[0] // 12 % 3 == 1
    refine ⟨_, rfl, r, _, _, _, rfl, rfl, (.inl (P3.same.seq hS)), a0, _, _, rfl, rfl, CDivP.of (by decide) (by decide +kernel), _, _, rfl, rfl, (by show (0 : Int) < 3; decide), rfl, _, rfl, ?_⟩
    refine ifE (fun _ => ?_) (fun _ => ?_)
    · refine ⟨_, rfl, D, _, rfl, (P3).at', fun cc D3 hD3 => comp_enum0 (K := K) (l := D) (xs := sdRefs ss) (fun i σ ys Ga => ∃ sa : List Sd, ys = sdRefs sa ∧ sa.length = i ∧ SdSt G D3 sa Ga ∧ (∀ t ∈ sa, t.2.1.natAbs ≤ 3 * 10 ^ 8 ∧ t.2.2.1.natAbs ≤ 3 * 10 ^ 8 ∧ t.2.2.2.natAbs ≤ 3 * 10 ^ 12) ∧ ∃ u0 u1 u2 u3 : Option V, σ = [u0, u1, u2, u3])
        ⟨[], rfl, rfl, ⟨same_new hD3 _, hD3, upd_same, (fun t ht => nomatch ht)⟩, (fun t ht => nomatch ht), none, none, none, none, rfl⟩ (fun i σ ys Gb ⟨sa, e1, _, Pq, _⟩ => ⟨SqL.of (Pq.same _ _ (P3).at'), by rw [e1]; exact Pq.at'⟩) ?_ ?_⟩
      · rintro i x T σ ys Gc hi hT ⟨sa, rfl, na, Pc, bc, u0, u1, u2, u3, rfl⟩
        obtain ⟨t, gt, rfl, hil⟩ := sdRefs_get hi
        obtain ⟨et, nt, _⟩ := (P3).all t (List.mem_of_getElem? gt)
        obtain ⟨b1, b2, b3⟩ := P3s t (List.mem_of_getElem? gt)
        have k9 : (10 : Nat) ^ 8 * 3 ≤ 10 ^ 9 := by decide
        have sT := same_new hT (.tup [.int i, .ref t.1])
        have npT : ∀ p, upd Gc T (.tup [.int i, .ref t.1]) p = none → Gc p = none := fun p hp => sT.free hp
        have eT : upd Gc T (.tup [.int i, .ref t.1]) T = some (.tup [.int i, .ref t.1]) := upd_same
        have et' := sT _ _ (Pc.same _ _ et)
        generalize upd Gc T (.tup [.int i, .ref t.1]) = G2 at sT npT eT et' ⊢
        refine ⟨T, _, rfl, SqT.of eT, rfl, .int i, _, rfl, .ref t.1, _, rfl, ?_⟩
        refine ⟨t.1, _, rfl, SqT.of et', rfl, .int t.2.1, _, rfl, .int t.2.2.1, _, rfl, .int t.2.2.2, _, rfl, rfl, rfl, ?_⟩
        have c3 : ∀ j : Int, CMul 3 j := fun j => .inl ⟨by decide, by decide⟩
        refine ⟨_, rfl, _, _, rfl, rfl, (by show (0 : Int) < 2; decide), rfl, _, rfl, ?_⟩
        refine ifE (fun _ => ?_) (fun _ => ?_)
        · refine ⟨_, rfl, _, _, rfl, rfl, c3 _, _, rfl, _, _, rfl, rfl, c3 _, _, rfl, _, _, rfl, rfl, c3 _, (by show 3 ≤ sizeLine; decide), fun p hp => ?_⟩
          have sp := same_new hp (.tup [.int (3 * t.2.1), .int (3 * t.2.2.1), .int (3 * t.2.2.2)])
          refine ⟨sp _ _ (sT _ _ Pc.at'), small1000 (by rw [sdRefs_length]; omega), sa ++ [(p, 3 * t.2.1, 3 * t.2.2.1, 3 * t.2.2.2)], by simp [sdRefs], by rw [List.length_append, na]; rfl, Pc.app (sT.trans sp) (npT p hp) upd_same (by omega) (by omega) (by omega) (by omega), fun u hu => (List.mem_append.mp hu).elim (bc u) fun h => by rw [List.mem_singleton] at h; subst h; exact ⟨(by show (3 * t.2.1).natAbs ≤ 3 * 10 ^ 8; omega), (by show (3 * t.2.2.1).natAbs ≤ 3 * 10 ^ 8; omega), (by show (3 * t.2.2.2).natAbs ≤ 3 * 10 ^ 12; omega)⟩, _, _, _, _, rfl⟩
        · refine ⟨_, rfl, _, rfl, _, rfl, (by show 3 ≤ sizeLine; decide), fun p hp => ?_⟩
          have sp := same_new hp (.tup [.int t.2.1, .int t.2.2.1, .int t.2.2.2])
          refine ⟨sp _ _ (sT _ _ Pc.at'), small1000 (by rw [sdRefs_length]; omega), sa ++ [(p, t.2.1, t.2.2.1, t.2.2.2)], by simp [sdRefs], by rw [List.length_append, na]; rfl, Pc.app (sT.trans sp) (npT p hp) upd_same nt (by omega) (by omega) (by omega), fun u hu => (List.mem_append.mp hu).elim (bc u) fun h => by rw [List.mem_singleton] at h; subst h; exact ⟨(by show t.2.1.natAbs ≤ 3 * 10 ^ 8; omega), (by show t.2.2.1.natAbs ≤ 3 * 10 ^ 8; omega), (by show t.2.2.2.natAbs ≤ 3 * 10 ^ 12; omega)⟩, _, _, _, _, rfl⟩
      · rintro σ ys Gc ⟨sa, rfl, na, Pc, bc, u0, u1, u2, u3, rfl⟩
        rw [sdRefs_length] at na
        exact ⟨_, rfl, q D3 sa Gc ((P3).same.trans Pc.same) ((P3).same.free Pc.new) Pc.at' (na.trans N3) (fun t ht => (Pc.all t ht)) bc⟩
    · exact ⟨_, rfl, q D ss _ (P3).same (P3).new (P3).at' N3 (fun t ht => ⟨((P3).all t ht).1, ((P3).all t ht).2.1, by have := ((P3).all t ht).2.2.1; omega, by have := ((P3).all t ht).2.2.2.1; omega, by have := ((P3).all t ht).2.2.2.2; omega⟩) (fun t ht => by have z := P3s t ht; exact ⟨by omega, by omega, by omega⟩)⟩
/-- the same data, to the depth n: ints and bools, lists and tuples of them -/
def DR (H : Hp) : Nat → V → V → Prop
  | 0, x, y => x = y ∧ ((∃ i, x = .int i) ∨ ∃ b, x = .bl b)
  | n + 1, x, y => (x = y ∧ ((∃ i, x = .int i) ∨ ∃ b, x = .bl b)) ∨ ∃ (a b : Addr) (xs ys : List V) (l : Bool), x = .ref a ∧ y = .ref b ∧ H a = some (if l then .lst xs else .tup xs) ∧ H b = some (if l then .lst ys else .tup ys) ∧ xs.length = ys.length ∧ xs.length ≤ 1000 ∧
      ∀ (i : Nat) (u v : V), xs[i]? = some u → ys[i]? = some v → DR H n u v
theorem DR.same {H H' : Hp} (e : Same H H') : ∀ {n : Nat} {x y : V}, DR H n x y → DR H' n x y
  | 0, _, _, h => h
  | n + 1, x, y, h => by
    rcases h with h | ⟨a, b, xs, ys, l, e1, e2, h1, h2, h3, h4, h5⟩
    · exact .inl h
    · exact .inr ⟨a, b, xs, ys, l, e1, e2, e _ _ h1, e _ _ h2, h3, h4, fun i u v g1 g2 => DR.same e (h5 i u v g1 g2)⟩
theorem DR.int {H : Hp} {n : Nat} {x y : Int} (h : x = y) : DR H n (.int x) (.int y) := by
  subst h
  cases n with
  | zero => exact ⟨rfl, .inl ⟨x, rfl⟩⟩
  | succ m => exact .inl ⟨rfl, .inl ⟨x, rfl⟩⟩
theorem DR.bl {H : Hp} {n : Nat} {x y : Bool} (h : x = y) : DR H n (.bl x) (.bl y) := by
  subst h
  cases n with
  | zero => exact ⟨rfl, .inr ⟨x, rfl⟩⟩
  | succ m => exact .inl ⟨rfl, .inr ⟨x, rfl⟩⟩
theorem DR.tupI {H : Hp} {n : Nat} {a b : Addr} {xs ys : List Int} (h1 : H a = some (.tup (xs.map V.int))) (h2 : H b = some (.tup (ys.map V.int))) (e : xs = ys) (hl : xs.length ≤ 1000) : DR H (n + 1) (.ref a) (.ref b) := by
  subst e
  refine .inr ⟨a, b, xs.map V.int, xs.map V.int, false, rfl, rfl, h1, h2, rfl, by rw [List.length_map]; exact hl, fun i u v g1 g2 => ?_⟩
  rw [g1] at g2
  cases g2
  obtain ⟨m, _, rfl⟩ := mapInt_get g1
  exact DR.int rfl
def spR_same : Nat → Sp
  | 0 => fun _ _ _ _ => False
  | n + 1 => fun vs H Q _ => ∃ (x y : V), vs = [x, y] ∧ DR H n x y ∧ ∀ H', Same H H' → Q (.bl true) H'
def sp_L_same (_ : PySem.W.Frag) : Sp := spR_same 6
/-- what isinstance says of a type of the model -/
structure KT (K : PySem.W.Frag) (ty : Value) (bb bi bl bt bs : Bool) : Prop where
  b : PySem.W.kitOne K ty (.type "bool") = some bb
  i : PySem.W.kitOne K ty (.type "int") = some bi
  l : PySem.W.kitOne K ty (.type "list") = some bl
  t : PySem.W.kitOne K ty (.type "tuple") = some bt
  s : PySem.W.kitOne K ty (.type "str") = some bs
theorem okR_same {f : Addr} {fd : FuncData} (F : Fun K "_law_same" "_law_same" s_L_same f fd) (Z : Zs mg) (bS : Binds K fd ["_law_told", "_law_due"] []) (kS : PySem.W.keepIn K (.ref f) = true) (mS : mg "_law_same" = some (.ref f)) :
    ∀ n : Nat, FnOk P w K mg base CX0 n f fd ["_law_told", "_law_due"] (spR_same n)
  | 0 => ⟨fun _ _ _ _ h => h.elim, fun _ _ _ _ _ _ _ _ _ _ _ _ _ h => h.elim⟩
  | n + 1 => by
    have ih := okR_same F Z bS kS mS n
    have h_L_same : Has P w K mg base "_law_same" n ["_law_told", "_law_due"] (spR_same n) := ⟨f, fd, ih, bS, kS, mS⟩
    refine F.ok sc_L_same (fun vs H Q E h => ?_) (fun cdv A outer s H vs Q E hr h => ?_)
    · obtain ⟨x, y, rfl, _⟩ := h
      rfl
    obtain ⟨x, y, rfl, hD, q⟩ := h
    have hr_self := hr
    refine ⟨_, (pss_cons (ps_if (PW.pt (pw_or (pt_cmpR op_ne (pe_callB call_isinst rfl Z.isinstance bt_isinstance (pa_cons (pv 0) (pa_cons (pe_bltn (v := .ty "bool") rfl Z.bool bt_bool rfl) pa_nil))) (pe_callB call_isinst rfl Z.isinstance bt_isinstance (pa_cons (pv 1) (pa_cons (pe_bltn (v := .ty "bool") rfl Z.bool bt_bool rfl) pa_nil))) (nomark _)) (pw_or1 (pt_cmpR op_ne (pe_callB call_isinst rfl Z.isinstance bt_isinstance (pa_cons (pv 0) (pa_cons (pe_bltn (v := .ty "int") rfl Z.int bt_int rfl) pa_nil))) (pe_callB call_isinst rfl Z.isinstance bt_isinstance (pa_cons (pv 1) (pa_cons (pe_bltn (v := .ty "int") rfl Z.int bt_int rfl) pa_nil))) (nomark _))))) (pss_one (ps_ret pe_bl)) pss_nil)
      (pss_cons (ps_if (PW.pt (pw_or (pt_cmpR op_ne (pe_callB call_isinst rfl Z.isinstance bt_isinstance (pa_cons (pv 0) (pa_cons (pe_bltn (v := .ty "list") rfl Z.list bt_list rfl) pa_nil))) (pe_callB call_isinst rfl Z.isinstance bt_isinstance (pa_cons (pv 1) (pa_cons (pe_bltn (v := .ty "list") rfl Z.list bt_list rfl) pa_nil))) (nomark _)) (pw_or1 (pt_cmpR op_ne (pe_callB call_isinst rfl Z.isinstance bt_isinstance (pa_cons (pv 0) (pa_cons (pe_bltn (v := .ty "tuple") rfl Z.tuple bt_tuple rfl) pa_nil))) (pe_callB call_isinst rfl Z.isinstance bt_isinstance (pa_cons (pv 1) (pa_cons (pe_bltn (v := .ty "tuple") rfl Z.tuple bt_tuple rfl) pa_nil))) (nomark _))))) (pss_one (ps_ret pe_bl)) pss_nil)
      (pss_cons (ps_if (PW.pt (pw_and (pt_not (pt_val (pe_callB call_isinst rfl Z.isinstance bt_isinstance (pa_cons (pv 1) (pa_cons (pe_bltn (v := .ty "list") rfl Z.list bt_list rfl) pa_nil))))) (pw_and1 (pt_not (pt_val (pe_callB call_isinst rfl Z.isinstance bt_isinstance (pa_cons (pv 1) (pa_cons (pe_bltn (v := .ty "tuple") rfl Z.tuple bt_tuple rfl) pa_nil)))))))) (pss_one (ps_ret (pe_and (pe_cmpR op_eq (pe_callB call_isinst rfl Z.isinstance bt_isinstance (pa_cons (pv 0) (pa_cons (pe_bltn (v := .ty "str") rfl Z.str bt_str rfl) pa_nil))) (pe_callB call_isinst rfl Z.isinstance bt_isinstance (pa_cons (pv 1) (pa_cons (pe_bltn (v := .ty "str") rfl Z.str bt_str rfl) pa_nil))) (nomark _)) (pe_one (pe_cmpR op_eq (pv 0) (pv 1) (nomark _)))))) pss_nil)
      (pss_one (ps_ret (pe_and (pe_cmpR op_eq (pe_callB call_len_seq rfl Z.len bt_len (pa_cons (pv 0) pa_nil)) (pe_callB call_len_seq rfl Z.len bt_len (pa_cons (pv 1) pa_nil)) (nomark _)) (pe_one (pe_callB (call_allB rfl) rfl Z.all bt_all (pa_cons (pe_comp (T := ["_law_one", "_law_other"]) (caps := []) ⟨rfl, by decide +kernel, by decide +kernel, rfl, True.intro⟩ rfl (pi_zip rfl Z.zip (pa_cons (pv 0) (pa_cons (pv 1) pa_nil))) (fun _ => (pg_tup rfl (pgs_cons (pg_name (i := 0) (show (["_law_one", "_law_other"] : List Str).Nodup by decide +kernel) rfl (Or.inl rfl)) (pgs_cons (pg_name (i := 1) (show (["_law_one", "_law_other"] : List Str).Nodup by decide +kernel) rfl (Or.inl rfl)) pgs_nil)))) (fun _ => pifs_nil) (fun _ => (pe_callH h_L_same hr_self rfl (pa_cons (pv 0) (pa_cons (pv 1) pa_nil))))) pa_nil))))))))), ?_⟩
    have kinds : ∃ (t : Value) (bb bi bl bt bs : Bool), TyOf K H x t ∧ TyOf K H y t ∧ KT K t bb bi bl bt bs ∧ ((bl = false ∧ bt = false ∧ x = y ∧ ((∃ i, x = .int i) ∨ ∃ b, x = .bl b)) ∨
        ∃ (m : Nat) (a b : Addr) (xs ys : List V) (l : Bool), bl = l ∧ bt = !l ∧ n = m + 1 ∧ x = .ref a ∧ y = .ref b ∧ H a = some (if l then .lst xs else .tup xs) ∧ H b = some (if l then .lst ys else .tup ys) ∧ xs.length = ys.length ∧ xs.length ≤ 1000 ∧
          ∀ (i : Nat) (u v : V), xs[i]? = some u → ys[i]? = some v → DR H m u v) := by
      have scal : (x = y ∧ ((∃ i, x = .int i) ∨ ∃ b, x = .bl b)) → ∃ (t : Value) (bb bi bl bt bs : Bool), TyOf K H x t ∧ TyOf K H y t ∧ KT K t bb bi bl bt bs ∧ (bl = false ∧ bt = false ∧ x = y ∧ ((∃ i, x = .int i) ∨ ∃ b, x = .bl b)) := fun h => by
        obtain ⟨rfl, h⟩ := h
        rcases h with ⟨i, rfl⟩ | ⟨b, rfl⟩
        · exact ⟨_, _, _, _, _, _, .int i, .int i, ⟨rfl, rfl, rfl, rfl, rfl⟩, rfl, rfl, rfl, .inl ⟨i, rfl⟩⟩
        · exact ⟨_, _, _, _, _, _, .bl b, .bl b, ⟨rfl, rfl, rfl, rfl, rfl⟩, rfl, rfl, rfl, .inr ⟨b, rfl⟩⟩
      cases n with
      | zero =>
        obtain ⟨t, bb, bi, bl, bt, bs, h1, h2, h3, h4⟩ := scal hD
        exact ⟨t, bb, bi, bl, bt, bs, h1, h2, h3, .inl h4⟩
      | succ m =>
        rcases hD with h | ⟨a, b, xs, ys, l, e1, e2, h1, h2, h3, h4, h5⟩
        · obtain ⟨t, bb, bi, bl, bt, bs, h1, h2, h3, h4⟩ := scal h
          exact ⟨t, bb, bi, bl, bt, bs, h1, h2, h3, .inl h4⟩
        · subst e1 e2
          cases l with
          | true => exact ⟨_, _, _, _, _, _, .lst h1, .lst h2, ⟨rfl, rfl, rfl, rfl, rfl⟩, .inr ⟨m, a, b, xs, ys, true, rfl, rfl, rfl, rfl, rfl, h1, h2, h3, h4, h5⟩⟩
          | false => exact ⟨_, _, _, _, _, _, .tup h1, .tup h2, ⟨rfl, rfl, rfl, rfl, rfl⟩, .inr ⟨m, a, b, xs, ys, false, rfl, rfl, rfl, rfl, rfl, h1, h2, h3, h4, h5⟩⟩
    obtain ⟨t, bb, bi, bl, bt, bs, tx, ty, kt, rest⟩ := kinds
    refine ⟨_, rfl, _, "bool", t, bb, rfl, tx, kt.b, _, rfl, _, "bool", t, bb, rfl, ty, kt.b, rfl, _, rfl, ?_⟩
    refine ifN (fun z => absurd rfl z) (fun _ => ?_)
    refine ⟨_, rfl, _, "int", t, bi, rfl, tx, kt.i, _, rfl, _, "int", t, bi, rfl, ty, kt.i, rfl, _, rfl, ?_⟩
    refine ifN (fun z => absurd rfl z) (fun _ => ?_)
    refine ⟨_, rfl, _, "list", t, bl, rfl, tx, kt.l, _, rfl, _, "list", t, bl, rfl, ty, kt.l, rfl, _, rfl, ?_⟩
    refine ifN (fun z => absurd rfl z) (fun _ => ?_)
    refine ⟨_, rfl, _, "tuple", t, bt, rfl, tx, kt.t, _, rfl, _, "tuple", t, bt, rfl, ty, kt.t, rfl, _, rfl, ?_⟩
    refine ifN (fun z => absurd rfl z) (fun _ => ?_)
    refine ⟨_, rfl, _, "list", t, bl, rfl, ty, kt.l, _, rfl, ?_⟩
    rcases rest with ⟨rfl, rfl, rfl, hs⟩ | ⟨m, a, b, xs, ys, l, rfl, rfl, rfl, rfl, rfl, ha, hb, hlen, h1000, hel⟩
    · refine iteT ?_
      refine ⟨_, rfl, _, "tuple", t, false, rfl, ty, kt.t, _, rfl, ?_⟩
      refine iteT ?_
      refine ⟨_, rfl, _, "str", t, bs, rfl, tx, kt.s, _, rfl, _, "str", t, bs, rfl, ty, kt.s, rfl, _, rfl, ?_⟩
      rw [decide_eq_true rfl]
      refine iteT ?_
      refine ⟨_, rfl, _, rfl, ?_, ?_⟩
      · rcases hs with ⟨i, rfl⟩ | ⟨b, rfl⟩ <;> rfl
      · rw [decide_eq_true rfl]
        exact q H (Same.refl H)
    · have SA : SqB bl K H a xs := by
        cases bl
        · exact SqT.of ha
        · exact SqL.of ha
      have SB : SqB bl K H b ys := by
        cases bl
        · exact SqT.of hb
        · exact SqL.of hb
      have SA' : SqL K H a xs ∨ SqT K H a xs := by
        cases bl
        · exact .inr SA
        · exact .inl SA
      have SB' : SqL K H b ys ∨ SqT K H b ys := by
        cases bl
        · exact .inr SB
        · exact .inl SB
      have keep : ∀ (H' : Hp), Same H H' → SqB bl K H' a xs ∧ SqB bl K H' b ys := fun H' e => by
        cases bl
        · exact ⟨SqT.same SA e, SqT.same SB e⟩
        · exact ⟨e.seq SA, e.seq SB⟩
      cases hbl : bl with
      | true =>
        refine iteF ?_
        refine iteF ?_
        refine ⟨_, rfl, a, xs, rfl, SA', _, rfl, b, ys, rfl, SB', rfl, _, rfl, ?_⟩
        rw [decI (by rw [hlen])]
        refine iteT ?_
        refine ⟨_, rfl, _, rfl, bl, bl, a, b, xs, ys, rfl, SA, SB, fun c D hD => comp_zip0 (K := K) (xs := xs) (ys := ys) (fun i σ zs H' => Same H H' ∧ H' D = some (.lst zs) ∧ zs = (List.replicate i true).map V.bl ∧ i ≤ xs.length ∧ ∃ u v, σ = [u, v])
          ⟨same_new hD _, upd_same, rfl, Nat.zero_le _, none, none, rfl⟩ (fun i σ zs H' ⟨e, e2, _⟩ => ⟨(keep H' e).1, (keep H' e).2, e2⟩) ?_ ?_⟩
        · rintro i u v T σ zs H' hu hv hT ⟨e, e2, rfl, hi, o1, o2, rfl⟩
          have hil : i < xs.length := (List.getElem?_eq_some_iff.mp hu).1
          have s2 := same_new hT (.tup [u, v])
          refine ⟨T, [u, v], rfl, SqT.of upd_same, rfl, u, [v], rfl, v, [], rfl, rfl, _, rfl, _, rfl, u, v, rfl, (hel i u v hu hv).same (e.trans s2), fun H4 s4 => ?_⟩
          have e4 := s4 _ _ (s2 _ _ e2)
          refine ⟨e4, small1000 (by rw [List.length_map, List.length_replicate]; omega), fun p o z => ?_, upd_same, ?_, hil, _, _, rfl⟩
          · rw [upd_ne (ne_of_none z hD)]
            exact s4 _ _ (s2 _ _ (e _ _ z))
          · rw [List.replicate_succ', List.map_append]
            rfl
        · rintro σ zs H' ⟨e, e2, rfl, hi, o1, o2, rfl⟩
          refine ⟨D, List.replicate (min xs.length ys.length) true, rfl, SqL.of e2, ?_⟩
          rw [show (List.replicate (min xs.length ys.length) true).all id = true from by simp]
          exact q _ e
      | false =>
        refine iteT ?_
        refine ⟨_, rfl, _, "tuple", t, true, rfl, ty, kt.t.trans (by rw [hbl]; rfl), _, rfl, ?_⟩
        refine iteF ?_
        refine ⟨_, rfl, a, xs, rfl, SA', _, rfl, b, ys, rfl, SB', rfl, _, rfl, ?_⟩
        rw [decI (by rw [hlen])]
        refine iteT ?_
        refine ⟨_, rfl, _, rfl, bl, bl, a, b, xs, ys, rfl, SA, SB, fun c D hD => comp_zip0 (K := K) (xs := xs) (ys := ys) (fun i σ zs H' => Same H H' ∧ H' D = some (.lst zs) ∧ zs = (List.replicate i true).map V.bl ∧ i ≤ xs.length ∧ ∃ u v, σ = [u, v])
          ⟨same_new hD _, upd_same, rfl, Nat.zero_le _, none, none, rfl⟩ (fun i σ zs H' ⟨e, e2, _⟩ => ⟨(keep H' e).1, (keep H' e).2, e2⟩) ?_ ?_⟩
        · rintro i u v T σ zs H' hu hv hT ⟨e, e2, rfl, hi, o1, o2, rfl⟩
          have hil : i < xs.length := (List.getElem?_eq_some_iff.mp hu).1
          have s2 := same_new hT (.tup [u, v])
          refine ⟨T, [u, v], rfl, SqT.of upd_same, rfl, u, [v], rfl, v, [], rfl, rfl, _, rfl, _, rfl, u, v, rfl, (hel i u v hu hv).same (e.trans s2), fun H4 s4 => ?_⟩
          have e4 := s4 _ _ (s2 _ _ e2)
          refine ⟨e4, small1000 (by rw [List.length_map, List.length_replicate]; omega), fun p o z => ?_, upd_same, ?_, hil, _, _, rfl⟩
          · rw [upd_ne (ne_of_none z hD)]
            exact s4 _ _ (s2 _ _ (e _ _ z))
          · rw [List.replicate_succ', List.map_append]
            rfl
        · rintro σ zs H' ⟨e, e2, rfl, hi, o1, o2, rfl⟩
          refine ⟨D, List.replicate (min xs.length ys.length) true, rfl, SqL.of e2, ?_⟩
          rw [show (List.replicate (min xs.length ys.length) true).all id = true from by simp]
          exact q _ e
theorem ok_L_same {f : Addr} {fd : FuncData} (F : Fun K "_law_same" "_law_same" s_L_same f fd) (Z : Zs mg) (bS : Binds K fd ["_law_told", "_law_due"] []) (kS : PySem.W.keepIn K (.ref f) = true) (mS : mg "_law_same" = some (.ref f)) : FnOk P w K mg base CX0 6 f fd ["_law_told", "_law_due"] (sp_L_same K) := okR_same F Z bS kS mS 6
def sp_L_whole (_ : PySem.W.Frag) : Sp := fun vs H Q _ => ∃ (x : Int), vs = [.int x] ∧ Q (.bl true) H
theorem ok_L_whole {f : Addr} {fd : FuncData} (F : Fun K "_law_whole" "_law_whole" s_L_whole f fd) (Z : Zs mg) : FnOk P w K mg base CX0 1 f fd ["_law_found"] (sp_L_whole K) := by
  refine F.ok sc_L_whole (fun vs H Q E h => ?_) (fun cdv A outer s H vs Q E hr h => ?_)
  · obtain ⟨x, rfl, _⟩ := h
    rfl
  obtain ⟨x, rfl, q⟩ := h
  refine ⟨_, (pss_one (ps_ret (pe_and (pe_callB call_isinst rfl Z.isinstance bt_isinstance (pa_cons (pv 0) (pa_cons (pe_bltn (v := .ty "int") rfl Z.int bt_int rfl) pa_nil))) (pe_one (pe_not (pe_callB call_isinst rfl Z.isinstance bt_isinstance (pa_cons (pv 0) (pa_cons (pe_bltn (v := .ty "bool") rfl Z.bool bt_bool rfl) pa_nil)))))))), ?_⟩
  refine ⟨_, rfl, _, "int", _, _, rfl, .int x, kit_int_int K, _, rfl, iteT ?_⟩
  exact ⟨_, rfl, _, "bool", _, _, rfl, .int x, kit_int_bool K, _, rfl, q⟩
def sp_L_numbers (_ : PySem.W.Frag) : Sp := fun vs H Q _ => ∃ (a : Addr) (ns : List Int) (m : Int), vs = [.ref a, .int m] ∧ H a = some (.tup (ns.map V.int)) ∧ ns.length ≤ 1000 ∧ m = ns.length ∧ ∀ H', Same H H' → Q (.bl true) H'
theorem ok_L_numbers {f : Addr} {fd : FuncData} (F : Fun K "_law_numbers" "_law_numbers" s_L_numbers f fd) (Z : Zs mg) (h_L_whole : Has P w K mg base "_law_whole" 1 ["_law_found"] (sp_L_whole K)) : FnOk P w K mg base CX0 2 f fd ["_law_found", "_law_many"] (sp_L_numbers K) := by
  refine F.ok sc_L_numbers (fun vs H Q E h => ?_) (fun cdv A outer s H vs Q E hr h => ?_)
  · obtain ⟨a, ns, m, rfl, _⟩ := h
    rfl
  obtain ⟨a, ns, m, rfl, ha, hl, hm, q⟩ := h
  refine ⟨_, (pss_one (ps_ret (pe_and (pe_callB call_isinst rfl Z.isinstance bt_isinstance (pa_cons (pv 0) (pa_cons (pe_bltn (v := .ty "tuple") rfl Z.tuple bt_tuple rfl) pa_nil))) (pe_and (pe_cmpR op_eq (pe_callB call_len_seq rfl Z.len bt_len (pa_cons (pv 0) pa_nil)) (pv 1) (nomark _)) (pe_one (pe_callB (call_allB rfl) rfl Z.all bt_all (pa_cons (pe_comp (T := ["_law_one"]) (caps := []) ⟨rfl, by decide +kernel, by decide +kernel, rfl, True.intro⟩ rfl (pi_seq (pv 0)) (fun _ => (pg_name (i := 0) (show (["_law_one"] : List Str).Nodup by decide +kernel) rfl (Or.inl rfl))) (fun _ => pifs_nil) (fun _ => (pe_callH h_L_whole (hr.mono (by decide)) rfl (pa_cons (pv 0) pa_nil)))) pa_nil))))))), ?_⟩
  refine ⟨_, rfl, _, "tuple", _, _, rfl, .tup ha, kit_tuple_tuple K, _, rfl, iteT ?_⟩
  refine ⟨_, rfl, a, _, rfl, .inr (SqT.of ha), _, rfl, rfl, _, rfl, ?_⟩
  rw [decI (by rw [List.length_map, hm])]
  refine iteT ?_
  refine ⟨_, rfl, a, rfl, .inr ⟨⟨_, SqT.of ha⟩, fun c D hD => comp_tup0 (K := K) (a := a) (xs := ns.map V.int) (fun i σ ys H' => H' = upd H D (.lst ys) ∧ ys = (List.replicate i true).map V.bl ∧ i ≤ ns.length ∧ ∃ u, σ = [u])
    ⟨rfl, rfl, Nat.zero_le _, none, rfl⟩ (fun i σ ys H' _ ⟨e, _⟩ => by rw [e]; exact ⟨SqT.same (SqT.of ha) (same_new hD _), upd_same⟩) ?_ ?_⟩⟩
  · rintro i x σ ys H' hi ⟨rfl, rfl, hil, u, rfl⟩
    obtain ⟨n, hn, rfl⟩ := mapInt_get hi
    have hin : i < ns.length := (List.getElem?_eq_some_iff.mp hn).1
    refine ⟨_, rfl, n, rfl, upd_same, small1000 (by rw [List.length_map, List.length_replicate]; omega), ?_⟩
    refine ⟨upd_upd, ?_, hin, _, rfl⟩
    rw [List.replicate_succ', List.map_append]
    rfl
  · rintro σ ys H' ⟨rfl, rfl, hil, u, rfl⟩
    refine ⟨D, List.replicate (ns.map V.int).length true, rfl, SqL.of upd_same, ?_⟩
    rw [show (List.replicate (ns.map V.int).length true).all id = true from by simp]
    exact q _ (same_new hD _)
def sp_L_is_clash (K : PySem.W.Frag) : Sp := fun vs H Q _ => ∃ (l D : Addr) (ss : List Sd) (cs : List Pr), vs = [.ref l, .ref D] ∧ H l = some (.lst (sdRefs ss)) ∧ SdOk H ss ∧ ss.length ≤ 900 ∧ H D = some (.lst (refsOf cs)) ∧ PrAt H cs ∧
  ∀ (b : Bool) (H' : Hp), Same H H' → clashB ss (cs.map (·.2)) = b → Q (.bl b) H'
theorem ok_L_is_clash {f : Addr} {fd : FuncData} (F : Fun K "_law_is_clash" "_law_is_clash" s_L_is_clash f fd) (Z : Zs mg) (h_L_numbers : Has P w K mg base "_law_numbers" 2 ["_law_found", "_law_many"] (sp_L_numbers K)) : FnOk P w K mg base CX0 3 f fd ["_law_sides_here", "_law_paper"] (sp_L_is_clash K) := by
  refine F.ok sc_L_is_clash (fun vs H Q E h => ?_) (fun cdv A outer s H vs Q E hr h => ?_)
  · obtain ⟨l, D, ss, cs, rfl, _⟩ := h
    rfl
  obtain ⟨l, D, ss, cs, rfl, el, ok, hlen, eD, okc, q⟩ := h
  have hu := hr.units0
  have nm : (cs.map (·.2)).length = cs.length := List.length_map _
  have nr := refsOf_length cs
  refine ⟨_, (pss_cons (ps_if (PW.pt (pw_or (pt_not (pt_val (pe_callB call_isinst rfl Z.isinstance bt_isinstance (pa_cons (pv 1) (pa_cons (pe_bltn (v := .ty "list") rfl Z.list bt_list rfl) pa_nil))))) (pw_or1 (pt_not (pt_chain op_le op_le pe_int (pe_callB call_len_seq rfl Z.len bt_len (pa_cons (pv 1) pa_nil)) pe_int))))) (pss_one (ps_ret pe_bl)) pss_nil)
      (pss_cons (ps_set (i := 2) sc_L_is_clash.nd rfl (Or.inl rfl) (pe_un un_neg pe_int))
      (pss_cons (ps_set (i := 3) sc_L_is_clash.nd rfl (Or.inl rfl) (pe_tup (pa_cons pe_int (pa_cons pe_int (pa_cons pe_int pa_nil)))))
      (pss_cons (ps_for PassesOwn.never rfl (pi_seq (pv 1)) (pg_name (i := 4) sc_L_is_clash.nd rfl (Or.inl rfl)) (pss_cons (ps_if (PW.pt (pw_or (pt_not (pt_val (pe_callH h_L_numbers (hr.mono (by decide)) rfl (pa_cons (pv 4) (pa_cons pe_int pa_nil))))) (pw_or (pt_not (pt_chain op_lt op_lt (pv 2) (pe_ix ix_any (pv 4) pe_int (fun _ _ => rfl)) (pe_callB call_len_seq rfl Z.len bt_len (pa_cons (pv 0) pa_nil)))) (pw_or1 (pt_cmpR op_lt (pe_ix ix_any (pv 4) pe_int (fun _ _ => rfl)) pe_int (nomark _)))))) (pss_one (ps_ret pe_bl)) pss_nil)
      (pss_cons (ps_set (i := 2) sc_L_is_clash.nd rfl (Or.inl rfl) (pe_ix ix_any (pv 4) pe_int (fun _ _ => rfl)))
      (pss_cons (ps_asg (pe_ix ix_any (pv 0) (pe_ix ix_any (pv 4) pe_int (fun _ _ => rfl)) (fun _ _ => rfl)) (pg_tup rfl (pgs_cons (pg_name (i := 5) sc_L_is_clash.nd rfl (Or.inl rfl)) (pgs_cons (pg_name (i := 6) sc_L_is_clash.nd rfl (Or.inl rfl)) (pgs_cons (pg_name (i := 7) sc_L_is_clash.nd rfl (Or.inl rfl)) pgs_nil)))))
      (pss_one (ps_set (i := 3) sc_L_is_clash.nd rfl (Or.inl rfl) (pe_tup (pa_cons (pe_op op_add (pe_ix ix_any (pv 3) pe_int (fun _ _ => rfl)) (pe_op op_mul (pe_ix ix_any (pv 4) pe_int (fun _ _ => rfl)) (pv 5))) (pa_cons (pe_op op_add (pe_ix ix_any (pv 3) pe_int (fun _ _ => rfl)) (pe_op op_mul (pe_ix ix_any (pv 4) pe_int (fun _ _ => rfl)) (pv 6))) (pa_cons (pe_op op_add (pe_ix ix_any (pv 3) pe_int (fun _ _ => rfl)) (pe_op op_mul (pe_ix ix_any (pv 4) pe_int (fun _ _ => rfl)) (pv 7))) pa_nil))))))))))
      (pss_one (ps_ret (pe_and (pe_cmpR (op_eqT hu) (pe_slice sl_tup (pv 3) po_none (po_some pe_int)) (pe_tup (pa_cons pe_int (pa_cons pe_int pa_nil))) (nomark _)) (pe_one (pe_cmpR op_lt (pe_ix ix_any (pv 3) pe_int (fun _ _ => rfl)) pe_int (nomark _)))))))))), ?_⟩
  refine ⟨_, rfl, _, "list", _, _, rfl, .lst eD, kit_list_list K, _, rfl, ?_⟩
  refine iteF ?_
  refine ⟨_, rfl, D, _, rfl, .inl (SqL.of eD), _, _, rfl, rfl, _, rfl, ?_⟩
  refine ifD (fun l2 => ?_) (fun l2 => ?_)
  rotate_left
  · refine ⟨_, rfl, ?_⟩
    refine iteT ?_
    refine q false H (Same.refl _) ?_
    unfold clashB
    rw [decide_eq_false (by omega)]
    rfl
  refine ⟨_, _, rfl, rfl, _, rfl, ?_⟩
  refine ifN (fun l3 => ?_) (fun l3 => ?_)
  · refine q false H (Same.refl _) ?_
    unfold clashB
    rw [decide_eq_false (p := (cs.map (·.2)).length ≤ 3) (by omega), Bool.false_and, Bool.and_false]
  have hc : clashB ss (cs.map (·.2)) = goB ss (cs.map (·.2)) (-1) (0, 0, 0) := by
    unfold clashB
    rw [decide_eq_true (by omega), decide_eq_true (p := (cs.map (·.2)).length ≤ 3) (by omega), Bool.true_and, Bool.true_and]
  refine ⟨_, rfl, ?_⟩
  refine ⟨(by show 3 ≤ sizeLine; decide), fun t0 ht0 => ?_⟩
  have st0 : Same H (upd H t0 (.tup [.int 0, .int 0, .int 0])) := same_new ht0 _
  have et0 : upd H t0 (.tup [.int 0, .int 0, .int 0]) t0 = some (.tup [.int 0, .int 0, .int 0]) := upd_same
  generalize upd H t0 (.tup [.int 0, .int 0, .int 0]) = H1 at st0 et0 ⊢
  refine ⟨_, rfl, D, rfl, .inl ⟨⟨_, SqL.of (st0 _ _ eD)⟩, for_list (K := K) (a := D) (xs := refsOf cs) (fun i σ H' => Same H H' ∧ ∃ (last : Int) (T : P3) (ta : Addr) (u4 u5 u6 u7 : Option V), -1 ≤ last ∧ H' ta = some (.tup [.int T.1, .int T.2.1, .int T.2.2]) ∧ goB ss ((cs.map (·.2)).drop i) last T = goB ss (cs.map (·.2)) (-1) (0, 0, 0) ∧ σ = [some (.ref l), some (.ref D), some (.int last), some (.ref ta), u4, u5, u6, u7])
    ⟨st0, -1, (0, 0, 0), t0, none, none, none, none, Int.le_refl _, et0, rfl, rfl⟩ (fun i σ H' _ ⟨e1, _⟩ => SqL.of (e1 _ _ eD)) ?_ ?_⟩⟩
  · rintro i v σ H' hi ⟨sH, last, T, ta, u4, u5, u6, u7, hl1, et, hg, rfl⟩
    rw [List.getElem?_map, List.getElem?_map] at hi
    cases gc : cs[i]? with
    | none => rw [gc] at hi; cases hi
    | some c =>
      rw [gc] at hi
      cases hi
      have ec := sH _ _ (okc c (List.mem_of_getElem? gc))
      have hil : i < cs.length := (List.getElem?_eq_some_iff.mp gc).1
      have dr : (cs.map (·.2)).drop i = (c.2.1, c.2.2) :: (cs.map (·.2)).drop (i + 1) := by
        rw [List.drop_eq_getElem_cons (by omega)]
        congr 1
        rw [List.getElem_map]
        have z := (List.getElem?_eq_some_iff.mp gc).2
        rw [z]
      rw [dr] at hg
      have bad : ¬ (last < c.2.1 ∧ c.2.1 < ss.length ∧ 1 ≤ c.2.2) → ∀ H2, Same H' H2 → Q (.bl false) H2 := fun hb H2 s2 => q false H2 (sH.trans s2) (by rw [hc, ← hg]; exact goB_no hb)
      refine ⟨_, rfl, c.1, [c.2.1, c.2.2], 2, rfl, ec, (by show 2 ≤ 1000; decide), rfl, fun H2 s2 => ?_⟩
      refine ⟨_, rfl, ?_⟩
      refine iteF ?_
      have ec2 : Sq K H2 c.1 [.int c.2.1, .int c.2.2] := .inr (SqT.of (s2 _ _ ec))
      have sH2 := sH.trans s2
      refine ⟨_, rfl, _, rfl, c.1, _, _, .int c.2.1, rfl, rfl, ec2, rfl, _, _, rfl, rfl, _, rfl, ?_⟩
      refine ifD (fun g1 => ?_) (fun g1 => ?_)
      rotate_left
      · refine ⟨_, rfl, ?_⟩
        refine iteT ?_
        exact bad (fun z => g1 z.1) _ s2
      refine ⟨_, rfl, l, _, rfl, .inl (SqL.of (sH2 _ _ el)), _, _, rfl, rfl, _, rfl, ?_⟩
      refine ifN (fun g2 => ?_) (fun g2 => ?_)
      · exact bad (fun z => g2 (by rw [sdRefs_length]; exact z.2.1)) _ s2
      rw [sdRefs_length] at g2
      refine ⟨_, rfl, c.1, _, _, .int c.2.2, rfl, rfl, ec2, rfl, _, _, rfl, rfl, _, rfl, ?_⟩
      refine ifD (fun g3 => ?_) (fun g3 => ?_)
      · exact bad (fun z => by omega) _ s2
      refine ⟨_, rfl, c.1, _, _, .int c.2.1, rfl, rfl, ec2, rfl, ?_⟩
      obtain ⟨t, mt, gt, att⟩ := sdRefs_at (ss := ss) (i := c.2.1.toNat) (k := c.2.1) (by omega) (by omega)
      obtain ⟨ett, _, b1, b2, b3⟩ := ok t mt
      refine ⟨_, rfl, _, rfl, c.1, _, _, .int c.2.1, rfl, rfl, ec2, rfl, l, _, _, _, rfl, rfl, .inl (SqL.of (sH2 _ _ el)), att, t.1, _, rfl, SqT.of (sH2 _ _ ett), rfl, .int t.2.1, _, rfl, .int t.2.2.1, _, rfl, .int t.2.2.2, _, rfl, rfl, ?_⟩
      have et2 : Sq K H2 ta [.int T.1, .int T.2.1, .int T.2.2] := .inr (SqT.of (s2 _ _ et))
      refine ⟨_, rfl, ta, _, _, .int T.1, rfl, rfl, et2, rfl, _, rfl, c.1, _, _, .int c.2.2, rfl, rfl, ec2, rfl, _, rfl, _, _, rfl, rfl, .inr ⟨by omega, by omega⟩, _, _, rfl, rfl,
        _, rfl, ta, _, _, .int T.2.1, rfl, rfl, et2, rfl, _, rfl, c.1, _, _, .int c.2.2, rfl, rfl, ec2, rfl, _, rfl, _, _, rfl, rfl, .inr ⟨by omega, by omega⟩, _, _, rfl, rfl,
        _, rfl, ta, _, _, .int T.2.2, rfl, rfl, et2, rfl, _, rfl, c.1, _, _, .int c.2.2, rfl, rfl, ec2, rfl, _, rfl, _, _, rfl, rfl, .inr ⟨by omega, by omega⟩, _, _, rfl, rfl, (by show 3 ≤ sizeLine; decide), fun T2 hT2 => ?_⟩
      refine ⟨sH2.trans (same_new hT2 _), c.2.1, (T.1 + c.2.2 * t.2.1, T.2.1 + c.2.2 * t.2.2.1, T.2.2 + c.2.2 * t.2.2.2), T2, _, _, _, _, by omega, upd_same, ?_, rfl⟩
      rw [← hg, goB_step g1 g2 (by omega) gt]
  · rintro σ H' ⟨sH, last, T, ta, u4, u5, u6, u7, hl1, et, hg, rfl⟩
    rw [nr, List.drop_of_length_le (by omega)] at hg
    refine ⟨_, rfl, 2, rfl, ta, [.int T.1, .int T.2.1, .int T.2.2], rfl, SqT.of et, (fun h => absurd (show HT.sIx 3 3 (some 2) = 3 from h.2) (by decide)), fun d1 hd1 => ?_⟩
    have sd1 := same_new hd1 (.tup (cutV [.int T.1, .int T.2.1, .int T.2.2] none (some 2)))
    refine ⟨(by show 2 ≤ sizeLine; decide), fun d2 hd2 => ?_⟩
    have sd2 := same_new hd2 (.tup [.int 0, .int 0])
    refine ⟨d1, d2, [T.1, T.2.1], [0, 0], rfl, rfl, SqT.of (sd2 _ _ upd_same), SqT.of upd_same, _, rfl, ?_⟩
    refine ifD (fun h0 => ?_) (fun h0 => ?_)
    · refine ⟨_, rfl, ta, _, _, .int T.2.2, rfl, rfl, .inr (SqT.of (sd2 _ _ (sd1 _ _ et))), rfl, _, _, rfl, rfl, ?_⟩
      refine q _ _ (sH.trans (sd1.trans sd2)) ?_
      rw [hc, ← hg, goB, decide_eq_true h0, Bool.true_and]
    · refine q _ _ (sH.trans (sd1.trans sd2)) ?_
      rw [hc, ← hg, goB, decide_eq_false h0, Bool.false_and]
def sp_L_own (K : PySem.W.Frag) : Sp := fun vs H Q _ => ∃ (r l : Addr) (rows : List Int) (ss : List Sd), vs = [.ref r, .ref l] ∧ SqL K H r (rows.map V.int) ∧ 3 ≤ rows.length ∧ (∀ x ∈ rows, 0 ≤ x ∧ x < 1000003) ∧ SqL K H l (sdRefs ss) ∧ SdOk H ss ∧ ss ≠ [] ∧
  ∀ (D : Addr) (cs : List Pr) (H' : Hp), PrSt H D cs H' → cs.length ≤ 3 → Q (.ref D) H'
theorem ok_L_own {f : Addr} {fd : FuncData} (F : Fun K "_law_own" "_law_own" s_L_own f fd) (Z : Zs mg) (h_L_turned : Has P w K mg base "_law_turned" 1 ["_law_one", "_law_other"] (sp_L_turned K)) : FnOk P w K mg base CX0 2 f fd ["_law_some", "_law_sides_here"] (sp_L_own K) := by
  refine F.ok sc_L_own (fun vs H Q E h => ?_) (fun cdv A outer s H vs Q E hr h => ?_)
  · obtain ⟨r, l, rows, ss, rfl, _⟩ := h
    rfl
  obtain ⟨r, l, rows, ss, rfl, hS, h3, bd, hl, ok, hne, q⟩ := h
  have nl := sdRefs_length ss
  have npos : 0 < ss.length := List.length_pos_iff.mpr hne
  obtain ⟨v0, a0, _⟩ := row_at bd (k := 0) (by decide) (by omega)
  obtain ⟨v1, a1, _⟩ := row_at bd (k := 1) (by decide) (by omega)
  obtain ⟨v2, a2, _⟩ := row_at bd (k := 2) (by decide) (by omega)
  refine ⟨_, (pss_cons (ps_set (i := 2) sc_L_own.nd rfl (Or.inl rfl) (pe_lst pa_nil))
      (pss_cons (ps_for PassesOwn.never rfl (pi_seq (pe_callB call_sortedI rfl Z.sorted bt_sorted (pa_cons (pe_lst (pa_cons (pe_op op_mod (pe_ix ix_any (pv 0) pe_int (fun _ _ => rfl)) (pe_callB call_len_seq rfl Z.len bt_len (pa_cons (pv 1) pa_nil))) (pa_cons (pe_op op_mod (pe_ix ix_any (pv 0) pe_int (fun _ _ => rfl)) (pe_callB call_len_seq rfl Z.len bt_len (pa_cons (pv 1) pa_nil))) (pa_cons (pe_op op_mod (pe_ix ix_any (pv 0) pe_int (fun _ _ => rfl)) (pe_callB call_len_seq rfl Z.len bt_len (pa_cons (pv 1) pa_nil))) pa_nil)))) pa_nil))) (pg_name (i := 3) sc_L_own.nd rfl (Or.inl rfl)) (pss_one (ps_if (pt_cmpR op_notIn_seq (pv 3) (pe_comp (T := ["_law_one", "_law_weight"]) (caps := []) ⟨rfl, by decide +kernel, by decide +kernel, rfl, True.intro⟩ rfl (pi_seq (pv 2)) (fun _ => (pg_tup rfl (pgs_cons (pg_name (i := 0) (show (["_law_one", "_law_weight"] : List Str).Nodup by decide +kernel) rfl (Or.inl rfl)) (pgs_cons (pg_name (i := 1) (show (["_law_one", "_law_weight"] : List Str).Nodup by decide +kernel) rfl (Or.inl rfl)) pgs_nil)))) (fun _ => pifs_nil) (fun _ => (pv 0))) (by with_unfolding_all rfl)) (pss_one (ps_expr (pe_bm PySem.F.plainAttrs_list PySem.F.slot_list_append PySem.F.type_list_append mt_append (pv 2) (pa_cons (pe_tup (pa_cons (pv 3) (pa_cons pe_int pa_nil))) pa_nil)))) pss_nil)))
      (pss_cons (ps_if (pt_cmpR op_eq (pe_callB call_len_seq rfl Z.len bt_len (pa_cons (pv 2) pa_nil)) pe_int (nomark _)) (pss_cons (ps_asg (pe_comp (T := ["_law_at", "_law_weight"]) (caps := [("_law_sides_here", 1)]) ⟨rfl, by decide +kernel, by decide +kernel, rfl, ⟨⟨rfl, rfl, Or.inl rfl⟩, True.intro⟩⟩ rfl (pi_seq (pv 2)) (fun _ => (pg_tup rfl (pgs_cons (pg_name (i := 0) (show (["_law_at", "_law_weight", "_law_sides_here"] : List Str).Nodup by decide +kernel) rfl (Or.inl rfl)) (pgs_cons (pg_name (i := 1) (show (["_law_at", "_law_weight", "_law_sides_here"] : List Str).Nodup by decide +kernel) rfl (Or.inl rfl)) pgs_nil)))) (fun _ => pifs_nil) (fun _ => (pe_ix ix_any (pv 2) (pv 0) (fun _ _ => rfl)))) (pg_tupL rfl (pgs_cons (pg_name (i := 4) sc_L_own.nd rfl (Or.inl rfl)) (pgs_cons (pg_name (i := 5) sc_L_own.nd rfl (Or.inl rfl)) (pgs_cons (pg_name (i := 6) sc_L_own.nd rfl (Or.inl rfl)) pgs_nil)))))
      (pss_cons (ps_set (i := 7) sc_L_own.nd rfl (Or.inl rfl) (pe_lst (pa_cons (pe_callH h_L_turned (hr.mono (by decide)) rfl (pa_cons (pv 5) (pa_cons (pv 6) pa_nil))) (pa_cons (pe_callH h_L_turned (hr.mono (by decide)) rfl (pa_cons (pv 6) (pa_cons (pv 4) pa_nil))) (pa_cons (pe_callH h_L_turned (hr.mono (by decide)) rfl (pa_cons (pv 4) (pa_cons (pv 5) pa_nil))) pa_nil)))))
      (pss_one (ps_setComp (T := ["_law_at", "_law_spare", "_law_weight"]) (caps := []) (i := 2) sc_L_own.nd rfl rfl ⟨rfl, by decide +kernel, by decide +kernel, rfl, True.intro⟩ rfl (pi_zip rfl Z.zip (pa_cons (pv 2) (pa_cons (pv 7) pa_nil))) (fun _ => (pg_tup rfl (pgs_cons (pg_tup rfl (pgs_cons (pg_name (i := 0) (show (["_law_at", "_law_spare", "_law_weight"] : List Str).Nodup by decide +kernel) rfl (Or.inl rfl)) (pgs_cons (pg_name (i := 1) (show (["_law_at", "_law_spare", "_law_weight"] : List Str).Nodup by decide +kernel) rfl (Or.inl rfl)) pgs_nil))) (pgs_cons (pg_name (i := 2) (show (["_law_at", "_law_spare", "_law_weight"] : List Str).Nodup by decide +kernel) rfl (Or.inl rfl)) pgs_nil)))) (fun _ => pifs_nil) (fun _ => (pe_tup (pa_cons (pv 0) (pa_cons (pe_callB call_abs rfl Z.abs bt_abs (pa_cons (pv 2) pa_nil)) pa_nil)))))))) pss_nil)
      (pss_one (ps_ret (pv 2)))))), ?_⟩
  refine ⟨(by show 0 ≤ sizeLine; decide), fun R hR => ?_⟩
  have P0 : PrSt H R [] (upd H R (.lst [])) := ⟨same_new hR _, hR, upd_same, (fun t ht => nomatch ht)⟩
  generalize upd H R (.lst []) = H0 at P0 ⊢
  have sr0 : Sq K H0 r (rows.map V.int) := .inl (P0.same.seq hS)
  have sl0 : SqL K H0 l (sdRefs ss) := P0.same.seq hl
  have pos : (0 : Int) < (((sdRefs ss).length : Nat) : Int) := by rw [nl]; omega
  refine ⟨_, rfl, r, _, _, _, rfl, rfl, sr0, a0, _, rfl, l, _, rfl, .inl sl0, _, _, rfl, rfl, pos, _, rfl, r, _, _, _, rfl, rfl, sr0, a1, _, rfl, l, _, rfl, .inl sl0, _, _, rfl, rfl, pos, _, rfl, r, _, _, _, rfl, rfl, sr0, a2, _, rfl, l, _, rfl, .inl sl0, _, _, rfl, rfl, pos, (by show 3 ≤ sizeLine; decide), fun L hL => ?_⟩
  rw [nl]
  refine ⟨L, [v0 % (ss.length : Int), v1 % (ss.length : Int), v2 % (ss.length : Int)], rfl, SqL.of upd_same, by show 3 < 64; decide, fun p ms hp pm _ => ?_⟩
  have nm : ms.length = 3 := pm.length_eq
  have rm : ∀ m ∈ ms, 0 ≤ m ∧ m < (ss.length : Int) := fun m hm => by
    have z := pm.mem_iff.mp hm
    simp only [List.mem_cons, List.not_mem_nil, or_false] at z
    rcases z with z | z | z <;> (rw [z]; exact ⟨Int.emod_nonneg _ (by omega), Int.emod_lt_of_pos _ (by omega)⟩)
  have npR : p ≠ R := fun e => ne_of_none ((same_new hL _) _ _ P0.at') hp e.symm
  refine ⟨p, rfl, .inl ⟨⟨_, SqL.of upd_same⟩, for_list (K := K) (a := p) (xs := ms.map V.int) (fun i σ G => (∃ cs : List Pr, PrSt H R cs G ∧ cs.length ≤ i ∧ ∀ c ∈ cs, 0 ≤ c.2.1 ∧ c.2.1 < (ss.length : Int)) ∧ G p = some (.lst (ms.map V.int)) ∧ ∃ u3 : Option V, σ = [some (.ref r), some (.ref l), some (.ref R), u3, none, none, none, none])
    ⟨⟨[], P0.more ((same_new hL _).trans (same_new hp _)), Nat.le_refl _, (fun c hc => nomatch hc)⟩, upd_same, none, rfl⟩ (fun i σ G _ ⟨_, e, _⟩ => SqL.of e) ?_ ?_⟩⟩
  · rintro i v σ G hi ⟨⟨cs, Pc, nc, rc⟩, epG, u3, rfl⟩
    obtain ⟨m, gm, rfl, hil⟩ : ∃ m, ms[i]? = some m ∧ v = .int m ∧ i < ms.length := by
      rw [List.getElem?_map] at hi
      cases e : ms[i]? with
      | none => rw [e] at hi; cases hi
      | some m =>
        rw [e] at hi
        cases hi
        exact ⟨m, rfl, rfl, (List.getElem?_eq_some_iff.mp e).1⟩
    have hm := rm m (List.mem_of_getElem? gm)
    refine ⟨_, rfl, _, rfl, R, rfl, .inl ⟨⟨_, SqL.of Pc.at'⟩, fun cc D hD => comp_list0 (K := K) (a := R) (xs := refsOf cs) (fun j σ ys G2 => Same G G2 ∧ G2 D = some (.lst ys) ∧ ys = (cs.take j).map (fun c => V.int c.2.1) ∧ ∃ u0 u1 : Option V, σ = [u0, u1])
      ⟨same_new hD _, upd_same, rfl, none, none, rfl⟩ (fun j σ ys G2 _ ⟨e, e2, _⟩ => ⟨e.seq (SqL.of Pc.at'), e2⟩) ?_ ?_⟩⟩
    · rintro j x σ ys G2 hj ⟨s2, eD, rfl, u0, u1, rfl⟩
      obtain ⟨t, gt, rfl, hjl⟩ := refsOf_get hj
      have et := s2 _ _ (Pc.all t (List.mem_of_getElem? gt))
      refine ⟨t.1, _, rfl, SqT.of et, rfl, .int t.2.1, _, rfl, .int t.2.2, _, rfl, rfl, _, rfl, eD, ?_⟩
      refine ⟨small1000 (by rw [List.length_map, List.length_take]; omega), s2.putNew hD, upd_same, ?_, _, _, rfl⟩
      rw [List.take_succ, gt, List.map_append]
      rfl
    · rintro σ ys G2 ⟨s2, eD, rfl, u0, u1, rfl⟩
      have P2 := Pc.more s2
      have ep2 := s2 _ _ epG
      refine ⟨D, _, rfl, .inl (SqL.of eD), rfl, ?_, _, rfl, ?_⟩
      · rw [List.all_map]
        exact List.all_eq_true.mpr fun _ _ => rfl
      · generalize (if true = true then !inV (V.int m) (List.map (fun c : Pr => V.int c.2.1) (List.take (refsOf cs).length cs)) else inV (V.int m) (List.map (fun c : Pr => V.int c.2.1) (List.take (refsOf cs).length cs))) = bb
        cases bb with
        | false =>
          refine iteF ?_
          exact ⟨⟨cs, P2, Nat.le_succ_of_le nc, rc⟩, ep2, _, rfl⟩
        | true =>
          refine iteT ?_
          refine ⟨_, rfl, .inl ⟨rfl, _, SqL.of P2.at'⟩, _, rfl, (by show 2 ≤ sizeLine; decide), fun z hz => ⟨R, _, _, rfl, rfl, same_new hz _ _ _ P2.at', small1000 (by rw [refsOf_length]; omega), ?_⟩⟩
          have sz := same_new hz (.tup [.int m, .int 1])
          refine ⟨⟨cs ++ [(z, m, 1)], P2.app sz hz upd_same, by rw [List.length_append]; exact Nat.succ_le_succ nc, fun c hc => ?_⟩, ?_, _, rfl⟩
          · rcases List.mem_append.mp hc with h | h
            · exact rc c h
            · rw [List.mem_singleton] at h
              subst h
              exact hm
          · rw [upd_ne npR]
            exact sz _ _ ep2
  · rintro σ G ⟨⟨cs, Pc, nc, rc⟩, epG, u3, rfl⟩
    rw [List.length_map, nm] at nc
    refine ⟨_, rfl, R, _, rfl, .inl (SqL.of Pc.at'), rfl, _, rfl, ?_⟩
    rw [refsOf_length]
    refine ifE (fun e3 => ?_) (fun _ => ?_)
    rotate_left
    · exact ⟨_, rfl, q R cs G Pc nc⟩
    have e3' : cs.length = 3 := by omega
    have slG : SqL K G l (sdRefs ss) := Pc.same.seq hl
    have okG := ok.same Pc.same
    refine ⟨_, rfl, R, rfl, .inl ⟨⟨_, SqL.of Pc.at'⟩, fun cc D hD => comp_list0 (K := K) (a := R) (xs := refsOf cs) (fun j σ ys G2 => Same G G2 ∧ G2 D = some (.lst ys) ∧ (∃ sa : List Sd, ys = sdRefs sa ∧ sa.length = j ∧ ∀ t ∈ sa, t ∈ ss) ∧ ∃ u0 u1 : Option V, σ = [u0, u1, some (.ref l)])
      ⟨same_new hD _, upd_same, ⟨[], rfl, rfl, (fun t ht => nomatch ht)⟩, none, none, rfl⟩ (fun j σ ys G2 _ ⟨e, e2, _⟩ => ⟨e.seq (SqL.of Pc.at'), e2⟩) ?_ ?_⟩⟩
    · rintro j x σ ys G2 hj ⟨s2, eD, ⟨sa, rfl, na, ma⟩, u0, u1, rfl⟩
      obtain ⟨t, gt, rfl, hjl⟩ := refsOf_get hj
      have et := s2 _ _ (Pc.all t (List.mem_of_getElem? gt))
      have rt := rc t (List.mem_of_getElem? gt)
      obtain ⟨sd, msd, gsd, asd⟩ := sdRefs_at (ss := ss) (i := t.2.1.toNat) (k := t.2.1) (by omega) (by omega)
      refine ⟨t.1, _, rfl, SqT.of et, rfl, .int t.2.1, _, rfl, .int t.2.2, _, rfl, rfl, _, rfl, _, rfl, l, _, _, .ref sd.1, rfl, rfl, .inl (s2.seq slG), asd, eD, ?_⟩
      refine ⟨small1000 (by rw [sdRefs_length]; omega), s2.putNew hD, upd_same, ⟨sa ++ [sd], by simp [sdRefs], by rw [List.length_append, na]; rfl, fun u hu => ?_⟩, _, _, rfl⟩
      rcases List.mem_append.mp hu with h | h
      · exact ma u h
      · rw [List.mem_singleton] at h
        rw [h]
        exact msd
    rintro σ ys G2 ⟨s2, eD, ⟨sa, rfl, na, ma⟩, u0, u1, rfl⟩
    rw [refsOf_length, e3'] at na
    obtain ⟨x, y, z, rfl⟩ : ∃ x y z, sa = [x, y, z] := by
      match sa, na with
      | [x, y, z], _ => exact ⟨x, y, z, rfl⟩
    have P2 := Pc.more s2
    have ok2 := okG.same s2
    obtain ⟨ex, _, bx, bx2, _⟩ := ok2 x (ma x (by simp))
    obtain ⟨ey, _, by1, by2, _⟩ := ok2 y (ma y (by simp))
    obtain ⟨ez, _, bz, bz2, _⟩ := ok2 z (ma z (by simp))
    have qx : Sq K G2 x.1 [.int x.2.1, .int x.2.2.1, .int x.2.2.2] := .inr (SqT.of ex)
    have qy : Sq K G2 y.1 [.int y.2.1, .int y.2.2.1, .int y.2.2.2] := .inr (SqT.of ey)
    have qz : Sq K G2 z.1 [.int z.2.1, .int z.2.2.1, .int z.2.2.2] := .inr (SqT.of ez)
    refine ⟨D, _, rfl, SqL.of eD, rfl, .ref x.1, _, rfl, .ref y.1, _, rfl, .ref z.1, _, rfl, rfl, ?_⟩
    refine ⟨_, rfl, _, rfl, y.1, z.1, _, _, y.2.1, y.2.2.1, z.2.1, z.2.2.1, rfl, qy, qz, rfl, rfl, rfl, rfl, by omega, by omega, _, rfl, _, rfl, z.1, x.1, _, _, z.2.1, z.2.2.1, x.2.1, x.2.2.1, rfl, qz, qx, rfl, rfl, rfl, rfl, by omega, by omega, _, rfl, _, rfl, x.1, y.1, _, _, x.2.1, x.2.2.1, y.2.1, y.2.2.1, rfl, qx, qy, rfl, rfl, rfl, rfl, by omega, by omega, (by show 3 ≤ sizeLine; decide), fun W hW => ?_⟩
    generalize y.2.1 * z.2.2.1 - y.2.2.1 * z.2.1 = n1
    generalize z.2.1 * x.2.2.1 - z.2.2.1 * x.2.1 = n2
    generalize x.2.1 * y.2.2.1 - x.2.2.1 * y.2.1 = n3
    have sW : Same G2 (upd G2 W (.lst [.int n1, .int n2, .int n3])) := same_new hW _
    have eW : upd G2 W (.lst [.int n1, .int n2, .int n3]) W = some (.lst [.int n1, .int n2, .int n3]) := upd_same
    have P3 := P2.more sW
    generalize upd G2 W (.lst [.int n1, .int n2, .int n3]) = G3 at sW eW P3 ⊢
    refine ⟨_, rfl, _, rfl, true, true, R, W, refsOf cs, [.int n1, .int n2, .int n3], rfl, SqL.of P3.at', SqL.of eW, fun cc D3 hD3 => comp_zip0 (K := K) (xs := refsOf cs) (ys := [.int n1, .int n2, .int n3]) (fun i σ zs G4 => ∃ ca : List Pr, zs = refsOf ca ∧ ca.length = i ∧ i ≤ 3 ∧ PrSt G3 D3 ca G4 ∧ ∃ u0 u1 u2 : Option V, σ = [u0, u1, u2])
      ⟨[], rfl, rfl, by decide, ⟨same_new hD3 _, hD3, upd_same, (fun t ht => nomatch ht)⟩, none, none, none, rfl⟩ (fun i σ zs G4 ⟨ca, e, _, _, P4, _⟩ => ⟨SqL.of (P4.same _ _ P3.at'), SqL.of (P4.same _ _ eW), by rw [e]; exact P4.at'⟩) ?_ ?_⟩
    · rintro i u v T σ zs G4 hu hv hT ⟨ca, rfl, na4, hi3, P4, u0, u1, u2, rfl⟩
      obtain ⟨t, gt, rfl, hil⟩ := refsOf_get hu
      have hi3' : i < 3 := (List.getElem?_eq_some_iff.mp hv).1
      obtain ⟨n, rfl⟩ : ∃ n, v = V.int n := by
        match i, hv with
        | 0, h => exact ⟨n1, (Option.some.inj h).symm⟩
        | 1, h => exact ⟨n2, (Option.some.inj h).symm⟩
        | 2, h => exact ⟨n3, (Option.some.inj h).symm⟩
      have sT : Same G4 (upd G4 T (.tup [.ref t.1, .int n])) := same_new hT _
      have eT : upd G4 T (.tup [.ref t.1, .int n]) T = some (.tup [.ref t.1, .int n]) := upd_same
      have npT : ∀ p, upd G4 T (.tup [.ref t.1, .int n]) p = none → G4 p = none := fun p hp => sT.free hp
      generalize upd G4 T (.tup [.ref t.1, .int n]) = G5 at sT eT npT ⊢
      have et := (P4.same.trans sT) _ _ (P3.all t (List.mem_of_getElem? gt))
      refine ⟨T, _, rfl, SqT.of eT, rfl, .ref t.1, _, rfl, t.1, _, rfl, SqT.of et, rfl, .int t.2.1, _, rfl, .int t.2.2, _, rfl, rfl, .int n, _, rfl, rfl, ?_⟩
      refine ⟨_, rfl, _, rfl, _, rfl, (by show 2 ≤ sizeLine; decide), fun p hp => ?_⟩
      have sp := same_new hp (.tup [.int t.2.1, .int (if n < 0 then -n else n)])
      exact ⟨sp _ _ (sT _ _ P4.at'), small1000 (by rw [refsOf_length]; omega), ca ++ [(p, t.2.1, (if n < 0 then -n else n))], by rw [refsOf_app]; rfl, by rw [List.length_append, na4]; rfl, hi3', P4.app (sT.trans sp) (npT p hp) upd_same, _, _, _, rfl⟩
    · rintro σ zs G4 ⟨ca, rfl, na4, hi3, P4, u0, u1, u2, rfl⟩
      refine ⟨_, rfl, q D3 ca G4 ⟨P3.same.trans P4.same, P3.same.free P4.new, P4.at', P4.all⟩ (by omega)⟩
def sp_L_bent (K : PySem.W.Frag) : Sp := fun vs H Q _ => ∃ (a l : Addr) (rows : List Int) (ps : List Pr), vs = [.ref a, .ref l] ∧ SqL K H a (rows.map V.int) ∧ 4 ≤ rows.length ∧ (∀ x ∈ rows, 0 ≤ x ∧ x < 1000003) ∧ H l = some (.lst (refsOf ps)) ∧ PrAt H ps ∧ ps.length ≤ 100 ∧
  ∀ (l' : Addr) (qs : List Pr) (H' : Hp), Same H H' → H' l' = some (.lst (refsOf qs)) → PrAt H' qs → qs.length ≤ 2 * ps.length + 1 → Q (.ref l') H'
theorem ok_L_bent {f : Addr} {fd : FuncData} (F : Fun K "_law_bent" "_law_bent" s_L_bent f fd) (Z : Zs mg)  : FnOk P w K mg base CX0 1 f fd ["_law_d", "_law_paper"] (sp_L_bent K) := by
  refine F.ok sc_L_bent (fun vs H Q E h => ?_) (fun cdv A outer s H vs Q E hr h => ?_)
  · obtain ⟨a, l, rows, ps, rfl, _⟩ := h
    rfl
  obtain ⟨a, l, rows, ps, rfl, hS, hl, bd, el, pk, hp1, q⟩ := h
  refine ⟨_, (pss_cons (ps_set (i := 2) sc_L_bent.nd rfl (Or.inl rfl) (pe_callTy call_list_of rfl Z.list bt_list (pa_cons (pv 1) pa_nil)))
      (pss_cons (ps_set (i := 3) sc_L_bent.nd rfl (Or.inl rfl) (pe_op op_mod (pe_ix ix_any (pv 0) pe_int (fun _ _ => rfl)) (pe_op op_add (pe_callB call_len_seq rfl Z.len bt_len (pa_cons (pv 2) pa_nil)) pe_int)))
      (pss_cons (ps_set (i := 4) sc_L_bent.nd rfl (Or.inl rfl) (pe_op op_mod (pe_ix ix_any (pv 0) pe_int (fun _ _ => rfl)) pe_int))
      (pss_cons (ps_if (PW.pt (pw_or (pt_cmpR op_eq (pv 4) pe_int (nomark _)) (pw_or1 (pt_cmpR op_eq (pv 3) (pe_callB call_len_seq rfl Z.len bt_len (pa_cons (pv 2) pa_nil)) (nomark _))))) (pss_one (ps_ret (pe_op op_cat (pe_op op_cat (pe_slice sl_list (pv 2) po_none (po_some (pv 3))) (pe_lst (pa_cons (pe_tup (pa_cons (pe_op op_sub (pe_op op_mod (pe_ix ix_any (pv 0) pe_int (fun _ _ => rfl)) pe_int) pe_int) (pa_cons (pe_op op_sub (pe_op op_mod (pe_ix ix_any (pv 0) pe_int (fun _ _ => rfl)) pe_int) pe_int) pa_nil))) pa_nil))) (pe_slice sl_list (pv 2) (po_some (pv 3)) po_none)))) pss_nil)
      (pss_cons (ps_asg (pe_ix ix_any (pv 2) (pv 3) (fun _ _ => rfl)) (pg_tup rfl (pgs_cons (pg_name (i := 5) sc_L_bent.nd rfl (Or.inl rfl)) (pgs_cons (pg_name (i := 6) sc_L_bent.nd rfl (Or.inl rfl)) pgs_nil))))
      (pss_cons (ps_if (pt_cmpR op_eq (pv 4) pe_int (nomark _)) (pss_one (ps_ret (pe_op op_cat (pe_slice sl_list (pv 2) po_none (po_some (pv 3))) (pe_slice sl_list (pv 2) (po_some (pe_op op_add (pv 3) pe_int)) po_none)))) pss_nil)
      (pss_cons (ps_if (pt_cmpR op_eq (pv 4) pe_int (nomark _)) (pss_one (ps_ret (pe_sliceS (pv 2) po_none po_none (po_some (pe_un un_neg pe_int))))) pss_nil)
      (pss_cons (ps_if (pt_cmpR op_eq (pv 4) pe_int (nomark _)) (pss_one (ps_ret (pe_op op_cat (pe_op op_cat (pe_slice sl_list (pv 2) po_none (po_some (pv 3))) (pe_lst (pa_cons (pe_ix ix_any (pv 2) (pv 3) (fun _ _ => rfl)) pa_nil))) (pe_slice sl_list (pv 2) (po_some (pv 3)) po_none)))) pss_nil)
      (pss_cons (ps_if (pt_cmpR op_eq (pv 4) pe_int (nomark _)) (pss_one (ps_ret (pe_comp (T := ["_law_one", "_law_other"]) (caps := [("_law_d", 0)]) ⟨rfl, by decide +kernel, by decide +kernel, rfl, ⟨⟨rfl, rfl, Or.inl rfl⟩, True.intro⟩⟩ rfl (pi_seq (pv 2)) (fun _ => (pg_tup rfl (pgs_cons (pg_name (i := 0) (show (["_law_one", "_law_other", "_law_d"] : List Str).Nodup by decide +kernel) rfl (Or.inl rfl)) (pgs_cons (pg_name (i := 1) (show (["_law_one", "_law_other", "_law_d"] : List Str).Nodup by decide +kernel) rfl (Or.inl rfl)) pgs_nil)))) (fun _ => pifs_nil) (fun _ => (pe_tup (pa_cons (pv 0) (pa_cons (pe_op op_mul (pv 1) (pe_op op_add pe_int (pe_op op_mod (pe_ix ix_any (pv 2) pe_int (fun _ _ => rfl)) pe_int))) pa_nil))))))) pss_nil)
      (pss_cons (ps_asg (pe_tup (pa_cons (pv 5) (pa_cons (pe_op op_add (pv 6) (pe_ix ix_any (pe_lst (pa_cons pe_int (pa_cons (pe_un un_neg pe_int) (pa_cons (pe_op op_mul (pe_un un_neg pe_int) (pv 6)) (pa_cons (pe_op op_pow pe_int pe_int) pa_nil))))) (pe_op op_mod (pe_ix ix_any (pv 0) pe_int (fun _ _ => rfl)) pe_int) (fun _ _ => rfl))) pa_nil))) (pg_sub (pv 2) (pv 3) set_list))
      (pss_cons (ps_if (pt_cmpR op_eq (pv 4) pe_int (nomark _)) (pss_one (ps_asg (pe_tup (pa_cons (pe_op op_add (pv 5) (pe_ix ix_any (pe_lst (pa_cons pe_int (pa_cons (pe_un un_neg pe_int) (pa_cons (pe_op op_pow pe_int pe_int) pa_nil)))) (pe_op op_mod (pe_ix ix_any (pv 0) pe_int (fun _ _ => rfl)) pe_int) (fun _ _ => rfl))) (pa_cons (pv 6) pa_nil))) (pg_sub (pv 2) (pv 3) set_list))) pss_nil)
      (pss_one (ps_ret (pv 2)))))))))))))), ?_⟩
  obtain ⟨v0, a0, _⟩ := row_at bd (k := 0) (by decide) (by omega)
  obtain ⟨v1, a1, _⟩ := row_at bd (k := 1) (by decide) (by omega)
  obtain ⟨v2, a2, c20, _⟩ := row_at bd (k := 2) (by decide) (by omega)
  obtain ⟨v3, a3, c30, _⟩ := row_at bd (k := 3) (by decide) (by omega)
  have nr := refsOf_length ps
  -- rows = list(paper)
  refine ⟨_, rfl, l, _, rfl, .inl (SqL.of el), fun R hR => ?_⟩
  have sR : Same H (upd H R (.lst (refsOf ps))) := same_new hR _
  have eR : upd H R (.lst (refsOf ps)) R = some (.lst (refsOf ps)) := upd_same
  generalize upd H R (.lst (refsOf ps)) = H0 at sR eR ⊢
  have sq : Sq K H0 a (rows.map V.int) := .inl (sR.seq hS)
  have pk0 := pk.same sR
  -- at = d[1] % (len(rows) + 1); way = d[0] % 7
  refine ⟨_, rfl, a, _, _, _, rfl, rfl, sq, a1, _, rfl, R, _, rfl, .inl (SqL.of eR), _, _, rfl, rfl, _, _, rfl, rfl, (by rw [nr]; omega), ?_⟩
  refine ⟨_, rfl, a, _, _, _, rfl, rfl, sq, a0, _, _, rfl, rfl, (by show (0 : Int) < 7; decide), ?_⟩
  have ke : ∃ k : Nat, v1 % (((refsOf ps).length : Int) + 1) = (k : Int) ∧ k ≤ ps.length := by
    rw [nr]
    have z0 := Int.emod_nonneg v1 (show ((ps.length : Int) + 1) ≠ 0 by omega)
    have z1 := Int.emod_lt_of_pos v1 (show 0 < ((ps.length : Int) + 1) by omega)
    exact ⟨(v1 % ((ps.length : Int) + 1)).toNat, by omega, by omega⟩
  obtain ⟨k, ek, hk⟩ := ke
  obtain ⟨q1, cq1, mq1, nq1⟩ := cut_refs ps none (some (v1 % (((refsOf ps).length : Int) + 1)))
  obtain ⟨q2, cq2, mq2, nq2⟩ := cut_refs ps (some (v1 % (((refsOf ps).length : Int) + 1) + 1)) none
  obtain ⟨q3, cq3, mq3, nq3⟩ := cut_refs ps (some (v1 % (((refsOf ps).length : Int) + 1))) none
  -- way == 0 or at == len(rows)
  refine ⟨_, rfl, rfl, _, rfl, ?_⟩
  refine ifE (fun _ => ?_) (fun _ => ?_)
  · refine iteT ?_
    refine ⟨_, rfl, _, rfl, _, rfl, R, _, rfl, SqL.of eR, fun f1 hf1 => ?_⟩
    rw [cq1]
    have sf1 := same_new hf1 (.lst (refsOf q1))
    have ef1 : upd H0 f1 (.lst (refsOf q1)) f1 = some (.lst (refsOf q1)) := upd_same
    generalize upd H0 f1 (.lst (refsOf q1)) = G1 at sf1 ef1 ⊢
    have sq1 := sq.same sf1
    refine ⟨_, rfl, a, _, _, _, rfl, rfl, sq1, a2, _, _, rfl, rfl, (by show (0 : Int) < 9; decide), _, _, rfl, rfl, _, rfl, a, _, _, _, rfl, rfl, sq1, a3, _, _, rfl, rfl, (by show (0 : Int) < 5; decide), _, _, rfl, rfl, (by show 2 ≤ sizeLine; decide), fun u hu => ⟨(by show 1 ≤ sizeLine; decide), fun f2 hf2 => ?_⟩⟩
    have su := same_new hu (.tup [.int (v2 % 9 - 1), .int (v3 % 5 - 1)])
    have sf2 := su.trans (same_new hf2 (.lst [.ref u]))
    have ef2 : upd (upd G1 u (.tup [.int (v2 % 9 - 1), .int (v3 % 5 - 1)])) f2 (.lst [.ref u]) f2 = some (.lst (refsOf [(u, v2 % 9 - 1, v3 % 5 - 1)])) := upd_same
    have eu : upd G1 u (.tup [.int (v2 % 9 - 1), .int (v3 % 5 - 1)]) u = some (.tup [.int (v2 % 9 - 1), .int (v3 % 5 - 1)]) := upd_same
    have eT := same_new hf2 (.lst [.ref u]) _ _ eu
    generalize upd (upd G1 u (.tup [.int (v2 % 9 - 1), .int (v3 % 5 - 1)])) f2 (.lst [.ref u]) = G2 at sf2 ef2 eT ⊢
    -- the middle list stands at f2 with one thing
    have sm := sf1.trans sf2
    refine ⟨f1, f2, _, _, rfl, rfl, sf2 _ _ ef1, ef2, small (by rw [refsOf_length, refsOf_length] <;> show q1.length + 1 ≤ 1000; omega), fun f3 hf3 => ?_⟩
    have sf3 := same_new hf3 (.lst (refsOf q1 ++ refsOf [(u, v2 % 9 - 1, v3 % 5 - 1)]))
    have ef3 : upd G2 f3 (.lst (refsOf q1 ++ refsOf [(u, v2 % 9 - 1, v3 % 5 - 1)])) f3 = some (.lst (refsOf (q1 ++ [(u, v2 % 9 - 1, v3 % 5 - 1)]))) := by rw [upd_same, refsOf_app]
    generalize upd G2 f3 (.lst (refsOf q1 ++ refsOf [(u, v2 % 9 - 1, v3 % 5 - 1)])) = G3 at sf3 ef3 ⊢
    have s3 := sm.trans sf3
    refine ⟨_, rfl, _, rfl, _, rfl, R, _, rfl, SqL.of (s3 _ _ eR), fun f4 hf4 => ?_⟩
    rw [cq3]
    have sf4 := same_new hf4 (.lst (refsOf q3))
    have ef4 : upd G3 f4 (.lst (refsOf q3)) f4 = some (.lst (refsOf q3)) := upd_same
    generalize upd G3 f4 (.lst (refsOf q3)) = G4 at sf4 ef4 ⊢
    refine ⟨f3, f4, _, _, rfl, rfl, sf4 _ _ ef3, ef4, small (by rw [refsOf_length, refsOf_length, List.length_append] <;> show q1.length + 1 + q3.length ≤ 1000; omega), fun f5 hf5 => ?_⟩
    have sf5 := same_new hf5 (.lst (refsOf (q1 ++ [(u, v2 % 9 - 1, v3 % 5 - 1)]) ++ refsOf q3))
    have sA := (s3.trans sf4).trans sf5
    refine q f5 ((q1 ++ [(u, v2 % 9 - 1, v3 % 5 - 1)]) ++ q3) _ (sR.trans sA) (by rw [upd_same, refsOf_app _ q3]) (fun u hu => ?_) (by rw [List.length_append, List.length_append, List.length_singleton]; omega)
    rcases List.mem_append.mp hu with hu | hu
    · rcases List.mem_append.mp hu with hu | hu
      · exact sA _ _ (pk0 u (mq1 u hu))
      · rw [List.mem_singleton] at hu
        rw [hu]
        exact ((sf3.trans sf4).trans sf5) _ _ eT
    · exact sA _ _ (pk0 u (mq3 u hu))
  refine ⟨_, rfl, _, rfl, R, _, rfl, .inl (SqL.of eR), rfl, _, rfl, ?_⟩
  refine ifE (fun _ => ?_) (fun hne => ?_)
  · show _
    refine ⟨_, rfl, _, rfl, _, rfl, R, _, rfl, SqL.of eR, fun f1 hf1 => ?_⟩
    rw [cq1]
    have sf1 := same_new hf1 (.lst (refsOf q1))
    have ef1 : upd H0 f1 (.lst (refsOf q1)) f1 = some (.lst (refsOf q1)) := upd_same
    generalize upd H0 f1 (.lst (refsOf q1)) = G1 at sf1 ef1 ⊢
    have sq1 := sq.same sf1
    refine ⟨_, rfl, a, _, _, _, rfl, rfl, sq1, a2, _, _, rfl, rfl, (by show (0 : Int) < 9; decide), _, _, rfl, rfl, _, rfl, a, _, _, _, rfl, rfl, sq1, a3, _, _, rfl, rfl, (by show (0 : Int) < 5; decide), _, _, rfl, rfl, (by show 2 ≤ sizeLine; decide), fun u hu => ⟨(by show 1 ≤ sizeLine; decide), fun f2 hf2 => ?_⟩⟩
    have su := same_new hu (.tup [.int (v2 % 9 - 1), .int (v3 % 5 - 1)])
    have sf2 := su.trans (same_new hf2 (.lst [.ref u]))
    have ef2 : upd (upd G1 u (.tup [.int (v2 % 9 - 1), .int (v3 % 5 - 1)])) f2 (.lst [.ref u]) f2 = some (.lst (refsOf [(u, v2 % 9 - 1, v3 % 5 - 1)])) := upd_same
    have eu : upd G1 u (.tup [.int (v2 % 9 - 1), .int (v3 % 5 - 1)]) u = some (.tup [.int (v2 % 9 - 1), .int (v3 % 5 - 1)]) := upd_same
    have eT := same_new hf2 (.lst [.ref u]) _ _ eu
    generalize upd (upd G1 u (.tup [.int (v2 % 9 - 1), .int (v3 % 5 - 1)])) f2 (.lst [.ref u]) = G2 at sf2 ef2 eT ⊢
    -- the middle list stands at f2 with one thing
    have sm := sf1.trans sf2
    refine ⟨f1, f2, _, _, rfl, rfl, sf2 _ _ ef1, ef2, small (by rw [refsOf_length, refsOf_length] <;> show q1.length + 1 ≤ 1000; omega), fun f3 hf3 => ?_⟩
    have sf3 := same_new hf3 (.lst (refsOf q1 ++ refsOf [(u, v2 % 9 - 1, v3 % 5 - 1)]))
    have ef3 : upd G2 f3 (.lst (refsOf q1 ++ refsOf [(u, v2 % 9 - 1, v3 % 5 - 1)])) f3 = some (.lst (refsOf (q1 ++ [(u, v2 % 9 - 1, v3 % 5 - 1)]))) := by rw [upd_same, refsOf_app]
    generalize upd G2 f3 (.lst (refsOf q1 ++ refsOf [(u, v2 % 9 - 1, v3 % 5 - 1)])) = G3 at sf3 ef3 ⊢
    have s3 := sm.trans sf3
    refine ⟨_, rfl, _, rfl, _, rfl, R, _, rfl, SqL.of (s3 _ _ eR), fun f4 hf4 => ?_⟩
    rw [cq3]
    have sf4 := same_new hf4 (.lst (refsOf q3))
    have ef4 : upd G3 f4 (.lst (refsOf q3)) f4 = some (.lst (refsOf q3)) := upd_same
    generalize upd G3 f4 (.lst (refsOf q3)) = G4 at sf4 ef4 ⊢
    refine ⟨f3, f4, _, _, rfl, rfl, sf4 _ _ ef3, ef4, small (by rw [refsOf_length, refsOf_length, List.length_append] <;> show q1.length + 1 + q3.length ≤ 1000; omega), fun f5 hf5 => ?_⟩
    have sf5 := same_new hf5 (.lst (refsOf (q1 ++ [(u, v2 % 9 - 1, v3 % 5 - 1)]) ++ refsOf q3))
    have sA := (s3.trans sf4).trans sf5
    refine q f5 ((q1 ++ [(u, v2 % 9 - 1, v3 % 5 - 1)]) ++ q3) _ (sR.trans sA) (by rw [upd_same, refsOf_app _ q3]) (fun u hu => ?_) (by rw [List.length_append, List.length_append, List.length_singleton]; omega)
    rcases List.mem_append.mp hu with hu | hu
    · rcases List.mem_append.mp hu with hu | hu
      · exact sA _ _ (pk0 u (mq1 u hu))
      · rw [List.mem_singleton] at hu
        rw [hu]
        exact ((sf3.trans sf4).trans sf5) _ _ eT
    · exact sA _ _ (pk0 u (mq3 u hu))
  have hk' : k < ps.length := by rw [ek, nr] at hne; omega
  obtain ⟨t, mt, gt, at'⟩ := refsOf_at (ps := ps) (i := k) (k := v1 % (((refsOf ps).length : Int) + 1)) ek hk'
  have et := pk0 t mt
  -- number, weight = rows[at]
  refine ⟨_, rfl, _, rfl, R, _, _, _, rfl, rfl, .inl (SqL.of eR), at', t.1, _, rfl, SqT.of et, rfl, _, _, rfl, _, _, rfl, rfl, ?_⟩
  -- 1
  refine ⟨_, rfl, rfl, _, rfl, ?_⟩
  refine ifE (fun _ => ?_) (fun _ => ?_)
  · refine ⟨_, rfl, _, rfl, _, rfl, R, _, rfl, SqL.of eR, fun f1 hf1 => ?_⟩
    rw [cq1]
    have sf1 := same_new hf1 (.lst (refsOf q1))
    have ef1 : upd H0 f1 (.lst (refsOf q1)) f1 = some (.lst (refsOf q1)) := upd_same
    generalize upd H0 f1 (.lst (refsOf q1)) = G1 at sf1 ef1 ⊢
    refine ⟨_, rfl, _, rfl, _, _, rfl, rfl, _, rfl, R, _, rfl, SqL.of (sf1 _ _ eR), fun f2 hf2 => ?_⟩
    rw [cq2]
    have sf2 := same_new hf2 (.lst (refsOf q2))
    refine ⟨f1, f2, _, _, rfl, rfl, sf2 _ _ ef1, upd_same, small (by rw [refsOf_length, refsOf_length]; omega), fun f3 hf3 => ?_⟩
    have sf3 := same_new hf3 (.lst (refsOf q1 ++ refsOf q2))
    have sA := (sf1.trans sf2).trans sf3
    refine q f3 (q1 ++ q2) _ (sR.trans sA) (by rw [upd_same, refsOf_app]) (fun u hu => ?_) (by rw [List.length_append]; omega)
    rcases List.mem_append.mp hu with hu | hu
    · exact sA _ _ (pk0 u (mq1 u hu))
    · exact sA _ _ (pk0 u (mq2 u hu))
  -- 2
  refine ⟨_, rfl, rfl, _, rfl, ?_⟩
  refine ifE (fun _ => ?_) (fun _ => ?_)
  · refine ⟨_, rfl, _, rfl, _, rfl, R, _, rfl, SqL.of eR, by decide, fun f1 ys hf1 hys hyl => ?_⟩
    obtain ⟨qs, rfl, mqs⟩ := mem_refs hys
    rw [refsOf_length, refsOf_length] at hyl
    have sf1 := same_new hf1 (.lst (refsOf qs))
    exact q f1 qs _ (sR.trans sf1) upd_same (fun u hu => sf1 _ _ (pk0 u (mqs u hu))) (by omega)
  -- 3
  refine ⟨_, rfl, rfl, _, rfl, ?_⟩
  refine ifE (fun _ => ?_) (fun _ => ?_)
  · refine ⟨_, rfl, _, rfl, _, rfl, R, _, rfl, SqL.of eR, fun f1 hf1 => ?_⟩
    rw [cq1]
    have sf1 := same_new hf1 (.lst (refsOf q1))
    have ef1 : upd H0 f1 (.lst (refsOf q1)) f1 = some (.lst (refsOf q1)) := upd_same
    generalize upd H0 f1 (.lst (refsOf q1)) = G1 at sf1 ef1 ⊢
    refine ⟨_, rfl, _, rfl, R, _, _, _, rfl, rfl, .inl (SqL.of (sf1 _ _ eR)), at', (by show 1 ≤ sizeLine; decide), fun f2 hf2 => ?_⟩
    have sf2 := same_new hf2 (.lst [.ref t.1])
    have ef2 : upd G1 f2 (.lst [.ref t.1]) f2 = some (.lst (refsOf [(t.1, t.2.1, t.2.2)])) := upd_same
    have eT := sf2 _ _ (sf1 _ _ et)
    generalize upd G1 f2 (.lst [.ref t.1]) = G2 at sf2 ef2 eT ⊢
    -- the middle list stands at f2 with one thing
    have sm := sf1.trans sf2
    refine ⟨f1, f2, _, _, rfl, rfl, sf2 _ _ ef1, ef2, small (by rw [refsOf_length, refsOf_length] <;> show q1.length + 1 ≤ 1000; omega), fun f3 hf3 => ?_⟩
    have sf3 := same_new hf3 (.lst (refsOf q1 ++ refsOf [(t.1, t.2.1, t.2.2)]))
    have ef3 : upd G2 f3 (.lst (refsOf q1 ++ refsOf [(t.1, t.2.1, t.2.2)])) f3 = some (.lst (refsOf (q1 ++ [(t.1, t.2.1, t.2.2)]))) := by rw [upd_same, refsOf_app]
    generalize upd G2 f3 (.lst (refsOf q1 ++ refsOf [(t.1, t.2.1, t.2.2)])) = G3 at sf3 ef3 ⊢
    have s3 := sm.trans sf3
    refine ⟨_, rfl, _, rfl, _, rfl, R, _, rfl, SqL.of (s3 _ _ eR), fun f4 hf4 => ?_⟩
    rw [cq3]
    have sf4 := same_new hf4 (.lst (refsOf q3))
    have ef4 : upd G3 f4 (.lst (refsOf q3)) f4 = some (.lst (refsOf q3)) := upd_same
    generalize upd G3 f4 (.lst (refsOf q3)) = G4 at sf4 ef4 ⊢
    refine ⟨f3, f4, _, _, rfl, rfl, sf4 _ _ ef3, ef4, small (by rw [refsOf_length, refsOf_length, List.length_append] <;> show q1.length + 1 + q3.length ≤ 1000; omega), fun f5 hf5 => ?_⟩
    have sf5 := same_new hf5 (.lst (refsOf (q1 ++ [(t.1, t.2.1, t.2.2)]) ++ refsOf q3))
    have sA := (s3.trans sf4).trans sf5
    refine q f5 ((q1 ++ [(t.1, t.2.1, t.2.2)]) ++ q3) _ (sR.trans sA) (by rw [upd_same, refsOf_app _ q3]) (fun u hu => ?_) (by rw [List.length_append, List.length_append, List.length_singleton]; omega)
    rcases List.mem_append.mp hu with hu | hu
    · rcases List.mem_append.mp hu with hu | hu
      · exact sA _ _ (pk0 u (mq1 u hu))
      · rw [List.mem_singleton] at hu
        rw [hu]
        exact ((sf3.trans sf4).trans sf5) _ _ eT
    · exact sA _ _ (pk0 u (mq3 u hu))
  -- 4
  refine ⟨_, rfl, rfl, _, rfl, ?_⟩
  refine ifE (fun _ => ?_) (fun _ => ?_)
  · refine ⟨_, rfl, R, rfl, .inl ⟨⟨_, SqL.of eR⟩, fun cc D hD => comp_list0 (K := K) (a := R) (xs := refsOf ps) (fun i σ ys G => ∃ ca : List Pr, ys = refsOf ca ∧ ca.length = i ∧ PrSt H0 D ca G ∧ ∃ u0 u1 : Option V, σ = [u0, u1, some (.ref a)])
      ⟨[], rfl, rfl, ⟨same_new hD _, hD, upd_same, (fun t ht => nomatch ht)⟩, none, none, rfl⟩ (fun i σ ys G _ ⟨ca, e1, _, P4, _⟩ => ⟨P4.same.seq (SqL.of eR), by rw [e1]; exact P4.at'⟩) ?_ ?_⟩⟩
    · rintro i x σ ys G hi ⟨ca, rfl, na, P4, u0, u1, rfl⟩
      obtain ⟨t', gt', rfl, hil⟩ := refsOf_get hi
      have et' := P4.same _ _ (pk0 t' (List.mem_of_getElem? gt'))
      refine ⟨t'.1, _, rfl, SqT.of et', rfl, .int t'.2.1, _, rfl, .int t'.2.2, _, rfl, rfl, ?_⟩
      refine ⟨_, rfl, _, rfl, _, rfl, a, _, _, _, rfl, rfl, sq.same P4.same, a2, _, _, rfl, rfl, (by show (0 : Int) < 9; decide), _, _, rfl, rfl, _, _, rfl, rfl, .inr ⟨by omega, by omega⟩, (by show 2 ≤ sizeLine; decide), fun p hp => ?_⟩
      have sp := same_new hp (.tup [.int t'.2.1, .int (t'.2.2 * (1 + v2 % 9))])
      exact ⟨sp _ _ P4.at', small1000 (by rw [refsOf_length]; omega), ca ++ [(p, t'.2.1, t'.2.2 * (1 + v2 % 9))], by rw [refsOf_app]; rfl, by rw [List.length_append, na]; rfl, P4.app sp hp upd_same, _, _, rfl⟩
    · rintro σ ys G ⟨ca, rfl, na, P4, u0, u1, rfl⟩
      rw [nr] at na
      exact q D ca G (sR.trans P4.same) P4.at' P4.all (by omega)
  have PR : PrSt H R ps H0 := ⟨sR, hR, eR, pk0⟩
  have ixn : ixN (refsOf ps).length (v1 % (((refsOf ps).length : Int) + 1)) = some k := by
    unfold ixN
    rw [ek, nr, if_pos (show (0 : Int) ≤ (k : Int) by omega), if_pos (show (k : Int) < (ps.length : Int) by omega), Int.toNat_natCast]
  obtain ⟨x4, ax4⟩ := by4 1 (-1) (-2 * t.2.2) (10 ^ 20) v2
  refine ⟨_, rfl, _, rfl, _, rfl, _, rfl, _, rfl, _, _, rfl, rfl, .inl ⟨by decide, by decide⟩, _, _, rfl, rfl, ⟨by decide, by decide, by decide⟩, (by show 4 ≤ sizeLine; decide), fun B hB => ?_⟩
  have sB := same_new hB (.lst [.int 1, .int (-1), .int (-2 * t.2.2), .int (10 ^ 20)])
  refine ⟨_, rfl, a, _, _, _, rfl, rfl, sq.same sB, a2, _, _, rfl, rfl, (by show (0 : Int) < 4; decide), B, _, _, .int x4, rfl, rfl, .inl (SqL.of upd_same), ax4, _, _, rfl, rfl, (by show 2 ≤ sizeLine; decide), fun p hp => ?_⟩
  have sp := same_new hp (.tup [.int t.2.1, .int (t.2.2 + x4)])
  refine ⟨_, rfl, _, rfl, R, _, _, k, rfl, rfl, sp _ _ (sB _ _ eR), ixn, ?_⟩
  have P5 := PR.put (sB.trans sp) (sB.free hp) (upd_same : upd _ p (.tup [.int t.2.1, .int (t.2.2 + x4)]) p = _) k
  have n5 : (ps.set k (p, t.2.1, t.2.2 + x4)).length = ps.length := List.length_set ..
  refine ⟨_, rfl, rfl, _, rfl, ?_⟩
  refine ifE (fun _ => ?_) (fun _ => ?_)
  rotate_left
  · exact ⟨_, rfl, q R _ _ P5.same P5.at' P5.all (by omega)⟩
  obtain ⟨x3, ax3⟩ := by3 1 (-1) (10 ^ 20) v2
  refine ⟨_, rfl, _, rfl, _, _, rfl, rfl, ⟨by decide, by decide, by decide⟩, (by show 3 ≤ sizeLine; decide), fun B2 hB2 => ?_⟩
  refine ⟨_, rfl, a, _, _, _, rfl, rfl, .inl ((P5.same.trans (same_new hB2 _)).seq hS), a2, _, _, rfl, rfl, (by show (0 : Int) < 3; decide), B2, _, _, .int x3, rfl, rfl, .inl (SqL.of upd_same), ax3, _, _, rfl, rfl, _, rfl, (by show 2 ≤ sizeLine; decide), fun p2 hp2 => ?_⟩
  have ixn2 : ixN (refsOf (ps.set k (p, t.2.1, t.2.2 + x4))).length (v1 % (((refsOf ps).length : Int) + 1)) = some k := by
    rw [refsOf_length, n5, ← nr]
    exact ixn
  refine ⟨_, rfl, _, rfl, R, _, _, k, rfl, rfl, (same_new hp2 _) _ _ ((same_new hB2 _) _ _ P5.at'), ixn2, ?_⟩
  have P6 := P5.put ((same_new hB2 (.lst [.int 1, .int (-1), .int (10 ^ 20)])).trans (same_new hp2 (.tup [.int (t.2.1 + x3), .int t.2.2]))) ((same_new hB2 _).free hp2) upd_same k
  refine ⟨_, rfl, q R _ _ P6.same P6.at' P6.all ?_⟩
  rw [List.length_set]
  omega
def sp_law (K : PySem.W.Frag) : Sp := fun vs H Q _ => ∃ (a : Addr) (ns : List Int), vs = [.ref a] ∧ SqL K H a (ns.map V.int) ∧ ns.length ≤ 63 ∧ ∀ H', Q (.bl true) H'
theorem ok_law {f : Addr} {fd : FuncData} (F : Fun K "law" "law" s_law f fd) (Z : Zs mg) (h_L_same : Has P w K mg base "_law_same" 6 ["_law_told", "_law_due"] (sp_L_same K)) (h_L_is_clash : Has P w K mg base "_law_is_clash" 3 ["_law_sides_here", "_law_paper"] (sp_L_is_clash K)) (h_p_good_clash : Has P w K mg base "good_clash" 8 ["sides", "paper"] (sp_p_good_clash K)) (h_L_bent : Has P w K mg base "_law_bent" 1 ["_law_d", "_law_paper"] (sp_L_bent K)) (h_L_own : Has P w K mg base "_law_own" 2 ["_law_some", "_law_sides_here"] (sp_L_own K)) (h_p_clash : Has P w K mg base "clash" 9 ["sides"] (sp_p_clash K)) (h_L_tight : Has P w K mg base "_law_tight" 1 ["_law_some", "_law_sides_here"] (sp_L_tight K)) (h_L_sides : Has P w K mg base "_law_sides" 3 ["_law_some", "_law_many"] (sp_L_sides K)) (h_L_draws : Has P w K mg base "_law_draws" 2 ["_law_script", "_law_many"] (sp_L_draws K)) : FnOk P w K mg base CX0 10 f fd ["_law_script"] (sp_law K) := by
  refine F.ok sc_law (fun vs H Q E h => ?_) (fun cdv A outer s H vs Q E hr h => ?_)
  · obtain ⟨a, ns, rfl, _⟩ := h
    rfl
  obtain ⟨ad, ns, rfl, hS, hl, q⟩ := h
  have hu := hr.units0
  have hu64 := hr.units
  refine ⟨_, (pss_cons (ps_set (i := 1) sc_law.nd rfl (Or.inl rfl) (pe_callH h_L_draws (hr.mono (by decide)) rfl (pa_cons (pv 0) (pa_cons pe_int pa_nil))))
      (pss_cons (ps_set (i := 2) sc_law.nd rfl (Or.inl rfl) (pe_callH h_L_tight (hr.mono (by decide)) rfl (pa_cons (pe_slice sl_list (pv 1) (po_some pe_int) po_none) (pa_cons (pe_callH h_L_sides (hr.mono (by decide)) rfl (pa_cons (pe_slice sl_list (pv 1) (po_some pe_int) po_none) (pa_cons (pe_op op_mod (pe_ix ix_any (pv 1) pe_int (fun _ _ => rfl)) pe_int) pa_nil))) pa_nil))))
      (pss_cons (ps_set (i := 3) sc_law.nd rfl (Or.inl rfl) (pe_callH h_p_clash (hr.mono (by decide)) rfl (pa_cons (pe_callTy call_list_of rfl Z.list bt_list (pa_cons (pv 2) pa_nil)) pa_nil)))
      (pss_cons (ps_if (PW.pt (pw_or (pt_cmpR op_isN (pv 3) pe_non (nomark _)) (pw_or1 (pt_cmpR op_eq (pe_op op_mod (pe_ix ix_any (pv 1) pe_int (fun _ _ => rfl)) pe_int) pe_int (nomark _))))) (pss_cons (ps_set (i := 3) sc_law.nd rfl (Or.inl rfl) (pe_lst pa_nil))
      (pss_one (ps_if (pt_cmpR (op_neE hu) (pv 2) (pe_lst pa_nil) (nomark _)) (pss_one (ps_set (i := 3) sc_law.nd rfl (Or.inl rfl) (pe_callH h_L_own (hr.mono (by decide)) rfl (pa_cons (pe_slice sl_list (pv 1) (po_some pe_int) po_none) (pa_cons (pv 2) pa_nil))))) pss_nil))) pss_nil)
      (pss_cons (ps_for PassesOwn.never rfl (pi_range1 rfl Z.range (pa_cons (pe_op op_mod (pe_op op_fdivP (pe_ix ix_any (pv 1) pe_int (fun _ _ => rfl)) pe_int) pe_int) pa_nil)) (pg_name (i := 4) sc_law.nd rfl (Or.inl rfl)) (pss_one (ps_set (i := 3) sc_law.nd rfl (Or.inl rfl) (pe_callH h_L_bent (hr.mono (by decide)) rfl (pa_cons (pe_slice sl_list (pv 1) (po_some (pe_op op_add pe_int (pe_op op_mul pe_int (pv 4)))) po_none) (pa_cons (pv 3) pa_nil))))))
      (pss_cons (ps_set (i := 5) sc_law.nd rfl (Or.inl rfl) (pe_lst (pa_cons (pe_callTy call_list_of rfl Z.list bt_list (pa_cons (pv 2) pa_nil)) (pa_cons (pe_callTy call_list_of rfl Z.list bt_list (pa_cons (pv 3) pa_nil)) pa_nil))))
      (pss_cons (ps_set (i := 6) sc_law.nd rfl (Or.inl rfl) (pe_callH h_p_good_clash (hr.mono (by decide)) rfl (pa_cons (pe_ix ix_any (pv 5) pe_int (fun _ _ => rfl)) (pa_cons (pe_ix ix_any (pv 5) pe_int (fun _ _ => rfl)) pa_nil))))
      (pss_one (ps_ret (pe_and (pe_cmpR (op_eqLL hu64) (pv 5) (pe_lst (pa_cons (pv 2) (pa_cons (pv 3) pa_nil))) (nomark _)) (pe_one (pe_callH h_L_same (hr.mono (by decide)) rfl (pa_cons (pv 6) (pa_cons (pe_callH h_L_is_clash (hr.mono (by decide)) rfl (pa_cons (pv 2) (pa_cons (pv 3) pa_nil))) pa_nil)))))))))))))), ?_⟩
  refine ⟨_, rfl, ad, ns, 60, rfl, hS, hl, by decide, by decide, fun r rows H1 s1 hr0 er1 l1 l2 bd => ?_⟩
  obtain ⟨v0, a0, _⟩ := row_at bd (k := 0) (by decide) (by omega)
  obtain ⟨v1, a1, _⟩ := row_at bd (k := 1) (by decide) (by omega)
  have cutD : ∀ k : Nat, k ≤ 56 → cutV (rows.map V.int) (some (k : Int)) none = (rows.drop k).map V.int := fun k hk => by
    rw [cutV_ints, HT.sIx_nat rows.length 0 k, show min k rows.length = k by omega, show HT.sIx rows.length rows.length none = rows.length from rfl, List.take_of_length_le (by rw [List.length_drop]; omega)]
  have sqr : SqL K H1 r (rows.map V.int) := SqL.of er1
  -- sides = tight(some[4:], sides(some[2:], some[0] % 7))
  refine ⟨_, rfl, _, rfl, r, _, rfl, sqr, fun c hc => ?_⟩
  rw [show cutV (rows.map V.int) (some 4) none = (rows.drop 4).map V.int from cutD 4 (by decide)]
  have sc := same_new hc (.lst ((rows.drop 4).map V.int))
  have ec : upd H1 c (.lst ((rows.drop 4).map V.int)) c = some (.lst ((rows.drop 4).map V.int)) := upd_same
  generalize upd H1 c (.lst ((rows.drop 4).map V.int)) = H2 at sc ec ⊢
  refine ⟨_, rfl, _, rfl, r, _, rfl, sc.seq sqr, fun d hd0 => ?_⟩
  rw [show cutV (rows.map V.int) (some 2) none = (rows.drop 2).map V.int from cutD 2 (by decide)]
  have sd := same_new hd0 (.lst ((rows.drop 2).map V.int))
  have ed : upd H2 d (.lst ((rows.drop 2).map V.int)) d = some (.lst ((rows.drop 2).map V.int)) := upd_same
  generalize upd H2 d (.lst ((rows.drop 2).map V.int)) = H3 at sd ed ⊢
  have m0 := Int.emod_nonneg v0 (show (7 : Int) ≠ 0 by decide)
  have m1 := Int.emod_lt_of_pos v0 (show (0 : Int) < 7 by decide)
  refine ⟨_, rfl, r, _, _, _, rfl, rfl, .inl ((sc.trans sd).seq sqr), a0, _, _, rfl, rfl, (by show (0 : Int) < 7; decide), d, rows.drop 2, v0 % 7, rfl, SqL.of ed, by omega, by omega, by rw [List.length_drop]; omega, by rw [List.length_drop]; omega, fun x hx => bd x (List.mem_of_mem_drop hx), fun l0 ss0 G0 s0' hl0 el0 hn0 ok0 bnd0 => ?_⟩
  refine ⟨c, l0, rows.drop 4, ss0, rfl, SqL.of (s0' _ _ (sd _ _ ec)), by rw [List.length_drop]; omega, fun x hx => bd x (List.mem_of_mem_drop hx), el0, ok0, by omega, bnd0, fun l ss G1 s1' el hn ok bnd => ?_⟩
  have n6 : ss.length ≤ 6 := by omega
  have er := s1' _ _ (s0' _ _ (sd _ _ (sc _ _ er1)))
  clear bnd bnd0 ok0 el0 hl0 ec ed hn hn0
  apply cutP (ok := fun D cs G => Same G1 G ∧ G D = some (.lst (refsOf cs)) ∧ PrAt G cs ∧ cs.length ≤ 3)
  · intro main
    -- paper = clash(list(sides))
    refine ⟨_, rfl, l, _, rfl, .inl (SqL.of el), fun lc hlc => ?_⟩
    have slc : Same G1 (upd G1 lc (.lst (sdRefs ss))) := same_new hlc _
    have elc : upd G1 lc (.lst (sdRefs ss)) lc = some (.lst (sdRefs ss)) := upd_same
    generalize upd G1 lc (.lst (sdRefs ss)) = G2 at slc elc ⊢
    refine ⟨lc, ss, rfl, SqL.of elc, ok.same slc, by omega, fun P G3 s3 _ _ _ => ?_, fun D cs G3 s3 hD eD okc cl => ?_⟩
    rotate_left
    · have s13 := slc.trans s3
      have nc := cl.range.1
      rw [List.length_map] at nc
      refine ⟨_, rfl, rfl, _, rfl, ?_⟩
      refine iteF ?_
      refine ⟨_, rfl, r, _, _, _, rfl, rfl, .inl (SqL.of (s13 _ _ er)), a1, _, _, rfl, rfl, (by show (0 : Int) < 3; decide), rfl, _, rfl, ?_⟩
      refine ifE (fun _ => ?_) (fun _ => ?_)
      rotate_left
      · exact main D cs G3 ⟨s13, eD, okc, by omega⟩
      -- paper = []; if sides != []: paper = own(some[40:], sides)
      refine ⟨(by show 0 ≤ sizeLine; decide), fun e0 he0 => ?_⟩
      have sE : Same G3 (upd G3 e0 (.lst [])) := same_new he0 _
      have eE : upd G3 e0 (.lst []) e0 = some (.lst []) := upd_same
      generalize upd G3 e0 (.lst []) = G4 at sE eE ⊢
      refine ⟨_, rfl, (by show 0 ≤ sizeLine; decide), fun z hz => ?_⟩
      have sz : Same G4 (upd G4 z (.lst [])) := same_new hz _
      have ez : upd G4 z (.lst []) z = some (.lst []) := upd_same
      generalize upd G4 z (.lst []) = G5 at sz ez ⊢
      have s15 := (s13.trans sE).trans sz
      refine ⟨l, z, ss.map (·.1), rfl, rfl, SqL.of (s15 _ _ el), SqL.of ez, _, rfl, ?_⟩
      by_cases hne : ss = []
      · rw [show (!(ss.map (·.1)).isEmpty) = false by rw [hne]; rfl]
        refine iteF ?_
        exact main e0 [] G5 ⟨s15, sz _ _ eE, (fun t ht => nomatch ht), by decide⟩
      · have hb : (!(ss.map (·.1)).isEmpty) = true := by
          cases hss : ss with
          | nil => exact absurd hss hne
          | cons x xs => rfl
        rw [hb]
        refine iteT ?_
        refine ⟨_, rfl, _, rfl, r, _, rfl, SqL.of (s15 _ _ er), fun c4 hc4 => ?_⟩
        rw [show cutV (rows.map V.int) (some 40) none = (rows.drop 40).map V.int from cutD 40 (by decide)]
        have s4 := same_new hc4 (.lst ((rows.drop 40).map V.int))
        exact ⟨_, rfl, c4, l, rows.drop 40, ss, rfl, SqL.of upd_same, by rw [List.length_drop]; omega, fun x hx => bd x (List.mem_of_mem_drop hx), SqL.of (s4 _ _ (s15 _ _ el)), ok.same (s15.trans s4), hne, fun D cs G6 P6 n3 => main D cs G6 ⟨(s15.trans s4).trans P6.same, P6.at', P6.all, n3⟩⟩
    · have s13 := slc.trans s3
      refine ⟨_, rfl, rfl, _, rfl, ?_⟩
      refine iteT ?_
      refine iteT ?_
      -- paper = []; if sides != []: paper = own(some[40:], sides)
      refine ⟨(by show 0 ≤ sizeLine; decide), fun e0 he0 => ?_⟩
      have sE : Same G3 (upd G3 e0 (.lst [])) := same_new he0 _
      have eE : upd G3 e0 (.lst []) e0 = some (.lst []) := upd_same
      generalize upd G3 e0 (.lst []) = G4 at sE eE ⊢
      refine ⟨_, rfl, (by show 0 ≤ sizeLine; decide), fun z hz => ?_⟩
      have sz : Same G4 (upd G4 z (.lst [])) := same_new hz _
      have ez : upd G4 z (.lst []) z = some (.lst []) := upd_same
      generalize upd G4 z (.lst []) = G5 at sz ez ⊢
      have s15 := (s13.trans sE).trans sz
      refine ⟨l, z, ss.map (·.1), rfl, rfl, SqL.of (s15 _ _ el), SqL.of ez, _, rfl, ?_⟩
      by_cases hne : ss = []
      · rw [show (!(ss.map (·.1)).isEmpty) = false by rw [hne]; rfl]
        refine iteF ?_
        exact main e0 [] G5 ⟨s15, sz _ _ eE, (fun t ht => nomatch ht), by decide⟩
      · have hb : (!(ss.map (·.1)).isEmpty) = true := by
          cases hss : ss with
          | nil => exact absurd hss hne
          | cons x xs => rfl
        rw [hb]
        refine iteT ?_
        refine ⟨_, rfl, _, rfl, r, _, rfl, SqL.of (s15 _ _ er), fun c4 hc4 => ?_⟩
        rw [show cutV (rows.map V.int) (some 40) none = (rows.drop 40).map V.int from cutD 40 (by decide)]
        have s4 := same_new hc4 (.lst ((rows.drop 40).map V.int))
        exact ⟨_, rfl, c4, l, rows.drop 40, ss, rfl, SqL.of upd_same, by rw [List.length_drop]; omega, fun x hx => bd x (List.mem_of_mem_drop hx), SqL.of (s4 _ _ (s15 _ _ el)), ok.same (s15.trans s4), hne, fun D cs G6 P6 n3 => main D cs G6 ⟨(s15.trans s4).trans P6.same, P6.at', P6.all, n3⟩⟩
  rintro D cs G ⟨sG, eD, okc, nc⟩
  have el' := sG _ _ el
  have ok' := ok.same sG
  have er' := sG _ _ er
  -- for k in range(some[1] // 3 % 3): paper = bent(some[43 + 4 * k:], paper)
  have x0 := Int.emod_nonneg (v1 / 3) (show (3 : Int) ≠ 0 by decide)
  have x1 := Int.emod_lt_of_pos (v1 / 3) (show (0 : Int) < 3 by decide)
  refine ⟨_, rfl, r, _, _, _, rfl, rfl, .inl (SqL.of er'), a1, _, _, rfl, rfl, CDivP.of (by decide) (by decide +kernel), _, _, rfl, rfl, (by show (0 : Int) < 3; decide), _, rfl, (by omega), (by omega), for_range (lo := 0) (n := (v1 / 3 % 3).toNat) (fun i σ G' => Same G G' ∧ ∃ (D' : Addr) (ca : List Pr) (u4 : Option V), G' D' = some (.lst (refsOf ca)) ∧ PrAt G' ca ∧ ca.length + 1 ≤ 4 * 2 ^ i ∧ σ = [some (.ref ad), some (.ref r), some (.ref l), some (.ref D'), u4, none, none]) ⟨Same.refl _, D, cs, none, eD, okc, by show cs.length + 1 ≤ 4 * 2 ^ 0; omega, rfl⟩ ?_ ?_⟩
  · rintro i σ G' hi ⟨sG', D', ca, u4, eD', okc', nca, rfl⟩
    have i2 : i < 2 := by omega
    have nca' : ca.length ≤ 7 := by
      match i, i2 with
      | 0, _ => have : ca.length + 1 ≤ 4 := nca; omega
      | 1, _ => have : ca.length + 1 ≤ 8 := nca; omega
    have cm : CMul 4 (0 + (i : Int)) := .inl ⟨by decide, by decide⟩
    have ci : (43 : Int) + 4 * (0 + (i : Int)) = ((43 + 4 * i : Nat) : Int) := by omega
    refine ⟨_, rfl, _, rfl, _, _, rfl, rfl, cm, _, _, rfl, rfl, _, rfl, r, _, rfl, SqL.of (sG' _ _ er'), fun c5 hc5 => ?_⟩
    rw [ci, cutD (43 + 4 * i) (by omega)]
    have s5 := same_new hc5 (.lst ((rows.drop (43 + 4 * i)).map V.int))
    refine ⟨_, rfl, c5, D', rows.drop (43 + 4 * i), ca, rfl, SqL.of upd_same, by rw [List.length_drop]; omega, fun x hx => bd x (List.mem_of_mem_drop hx), s5 _ _ eD', okc'.same s5, by omega, fun l' qs G6 s6 eq okq nq => ?_⟩
    exact ⟨(sG'.trans s5).trans s6, l', qs, _, eq, okq, by rw [Nat.pow_succ]; omega, rfl⟩
  · rintro σ G' ⟨sG', D', ca, u4, eD', okc', nca, rfl⟩
    have nca' : ca.length ≤ 15 := by
      have i2 : (v1 / 3 % 3).toNat ≤ 2 := by omega
      match h : (v1 / 3 % 3).toNat, i2 with
      | 0, _ => rw [h] at nca; have : ca.length + 1 ≤ 4 := nca; omega
      | 1, _ => rw [h] at nca; have : ca.length + 1 ≤ 8 := nca; omega
      | 2, _ => rw [h] at nca; have : ca.length + 1 ≤ 16 := nca; omega
    have el2 := sG' _ _ el'
    have ok2 := ok'.same sG'
    -- handed = [list(sides), list(paper)]
    refine ⟨_, rfl, l, _, rfl, .inl (SqL.of el2), fun h1 hh1 => ?_⟩
    have t1 : Same G' (upd G' h1 (.lst (sdRefs ss))) := same_new hh1 _
    have e1 : upd G' h1 (.lst (sdRefs ss)) h1 = some (.lst (sdRefs ss)) := upd_same
    generalize upd G' h1 (.lst (sdRefs ss)) = K1 at t1 e1 ⊢
    refine ⟨_, rfl, D', _, rfl, .inl (SqL.of (t1 _ _ eD')), fun h2 hh2 => ?_⟩
    have t2 : Same K1 (upd K1 h2 (.lst (refsOf ca))) := same_new hh2 _
    have e2 : upd K1 h2 (.lst (refsOf ca)) h2 = some (.lst (refsOf ca)) := upd_same
    generalize upd K1 h2 (.lst (refsOf ca)) = K2 at t2 e2 ⊢
    refine ⟨(by show 2 ≤ sizeLine; decide), fun hd hhd => ?_⟩
    have t3 : Same K2 (upd K2 hd (.lst [.ref h1, .ref h2])) := same_new hhd _
    have e3 : upd K2 hd (.lst [.ref h1, .ref h2]) hd = some (.lst [.ref h1, .ref h2]) := upd_same
    generalize upd K2 hd (.lst [.ref h1, .ref h2]) = K3 at t3 e3 ⊢
    have t23 := t2.trans t3
    have t13 := t1.trans t23
    have n1 : h1 ≠ l := fun e => by rw [e, el2] at hh1; cases hh1
    have n2 : h2 ≠ D' := fun e => by rw [e, t1 _ _ eD'] at hh2; cases hh2
    -- found = good_clash(handed[0], handed[1])
    refine ⟨_, rfl, hd, _, _, .ref h1, rfl, rfl, .inl (SqL.of e3), rfl, _, rfl, hd, _, _, .ref h2, rfl, rfl, .inl (SqL.of e3), rfl, h1, h2, ss, ca, rfl, SqL.of (t23 _ _ e1), ok2.same t13, SqL.of (t3 _ _ e2), okc'.same t13, by omega, fun K4 t4 => ?_⟩
    have t14 := t13.trans t4
    -- handed == [sides, paper]
    refine ⟨_, rfl, _, rfl, _, rfl, (by show 2 ≤ sizeLine; decide), fun m hm => ?_⟩
    have t5 : Same K4 (upd K4 m (.lst [.ref l, .ref D'])) := same_new hm _
    have e5 : upd K4 m (.lst [.ref l, .ref D']) m = some (.lst [.ref l, .ref D']) := upd_same
    generalize upd K4 m (.lst [.ref l, .ref D']) = K5 at t5 e5 ⊢
    have t15 := t14.trans t5
    refine ⟨hd, m, h1, h2, l, D', ss.map (·.1), ca.map (·.1), rfl, rfl, SqL.of (t5 _ _ (t4 _ _ e3)), SqL.of e5, SqL.of (t5 _ _ (t4 _ _ (t23 _ _ e1))), SqL.of (t15 _ _ el2), SqL.of (t5 _ _ (t4 _ _ (t3 _ _ e2))), SqL.of (t15 _ _ eD'), n1, n2, _, rfl, ?_⟩
    refine iteT ?_
    refine ⟨_, rfl, _, rfl, _, rfl, l, D', ss, ca, rfl, t15 _ _ el2, ok2.same t15, by omega, t15 _ _ eD', okc'.same t15, fun b K6 t6 hb => ?_⟩
    exact ⟨.bl (clashB ss (ca.map (·.2))), .bl b, rfl, DR.bl hb, fun K7 _ => q _⟩
end
theorem all_mk {l : PySem.W.OpenLaw} {w : World} {K : PySem.W.Frag} {h : Heap} {mg : Str → Option Value} {fa : Addr} (X : K.In h) (G : h.Ns mainGlobals mg) (hfa : mg "law" = some (.ref fa))
    {od1 an1 : Option Addr} {sl1 : Array (Option Value)} {oc1 kV1 dc1 pm1 cd1 ct1 : Value} {f1 : Addr}
    {od2 an2 : Option Addr} {sl2 : Array (Option Value)} {oc2 kV2 dc2 pm2 cd2 ct2 : Value} {f2 : Addr}
    {od3 an3 : Option Addr} {sl3 : Array (Option Value)} {oc3 kV3 dc3 pm3 cd3 ct3 : Value} {f3 : Addr}
    {od4 an4 : Option Addr} {sl4 : Array (Option Value)} {oc4 kV4 dc4 pm4 cd4 ct4 : Value} {f4 : Addr}
    {od5 an5 : Option Addr} {sl5 : Array (Option Value)} {oc5 kV5 dc5 pm5 cd5 ct5 : Value} {f5 : Addr}
    {od6 an6 : Option Addr} {sl6 : Array (Option Value)} {oc6 kV6 dc6 pm6 cd6 ct6 : Value} {f6 : Addr}
    {od7 an7 : Option Addr} {sl7 : Array (Option Value)} {oc7 kV7 dc7 pm7 cd7 ct7 : Value} {f7 : Addr}
    {od8 an8 : Option Addr} {sl8 : Array (Option Value)} {oc8 kV8 dc8 pm8 cd8 ct8 : Value} {f8 : Addr}
    {od9 an9 : Option Addr} {sl9 : Array (Option Value)} {oc9 kV9 dc9 pm9 cd9 ct9 : Value} {f9 : Addr}
    {od10 an10 : Option Addr} {sl10 : Array (Option Value)} {oc10 kV10 dc10 pm10 cd10 ct10 : Value} {f10 : Addr}
    {od11 an11 : Option Addr} {sl11 : Array (Option Value)} {oc11 kV11 dc11 pm11 cd11 ct11 : Value} {f11 : Addr}
    {od12 an12 : Option Addr} {sl12 : Array (Option Value)} {oc12 kV12 dc12 pm12 cd12 ct12 : Value} {f12 : Addr}
    {od13 an13 : Option Addr} {sl13 : Array (Option Value)} {oc13 kV13 dc13 pm13 cd13 ct13 : Value} {f13 : Addr}
    {od14 an14 : Option Addr} {sl14 : Array (Option Value)} {oc14 kV14 dc14 pm14 cd14 ct14 : Value} {f14 : Addr}
    {od15 an15 : Option Addr} {sl15 : Array (Option Value)} {oc15 kV15 dc15 pm15 cd15 ct15 : Value} {f15 : Addr}
    {od16 an16 : Option Addr} {sl16 : Array (Option Value)} {oc16 kV16 dc16 pm16 cd16 ct16 : Value} {f16 : Addr}
    {od17 an17 : Option Addr} {sl17 : Array (Option Value)} {oc17 kV17 dc17 pm17 cd17 ct17 : Value} {f17 : Addr}
    {od18 an18 : Option Addr} {sl18 : Array (Option Value)} {oc18 kV18 dc18 pm18 cd18 ct18 : Value} {f18 : Addr}
    {od19 an19 : Option Addr} {sl19 : Array (Option Value)} {oc19 kV19 dc19 pm19 cd19 ct19 : Value} {f19 : Addr}
    {od20 an20 : Option Addr} {sl20 : Array (Option Value)} {oc20 kV20 dc20 pm20 cd20 ct20 : Value} {f20 : Addr}
    {od21 an21 : Option Addr} {sl21 : Array (Option Value)} {oc21 kV21 dc21 pm21 cd21 ct21 : Value} {f21 : Addr}
    {od22 an22 : Option Addr} {sl22 : Array (Option Value)} {oc22 kV22 dc22 pm22 cd22 ct22 : Value} {f22 : Addr}
    {od23 an23 : Option Addr} {sl23 : Array (Option Value)} {oc23 kV23 dc23 pm23 cd23 ct23 : Value} {f23 : Addr}
    {od24 an24 : Option Addr} {sl24 : Array (Option Value)} {oc24 kV24 dc24 pm24 cd24 ct24 : Value} {f24 : Addr}
    {od25 an25 : Option Addr} {sl25 : Array (Option Value)} {oc25 kV25 dc25 pm25 cd25 ct25 : Value} {f25 : Addr}
    {od26 an26 : Option Addr} {sl26 : Array (Option Value)} {oc26 kV26 dc26 pm26 cd26 ct26 : Value} {f26 : Addr}
    {od27 an27 : Option Addr} {sl27 : Array (Option Value)} {oc27 kV27 dc27 pm27 cd27 ct27 : Value} {f27 : Addr}
    {od28 an28 : Option Addr} {sl28 : Array (Option Value)} {oc28 kV28 dc28 pm28 cd28 ct28 : Value} {f28 : Addr}
    {od29 an29 : Option Addr} {sl29 : Array (Option Value)} {oc29 kV29 dc29 pm29 cd29 ct29 : Value} {f29 : Addr}
    {od30 an30 : Option Addr} {sl30 : Array (Option Value)} {oc30 kV30 dc30 pm30 cd30 ct30 : Value} {f30 : Addr}
    {od31 an31 : Option Addr} {sl31 : Array (Option Value)} {oc31 kV31 dc31 pm31 cd31 ct31 : Value} {f31 : Addr}
    {od32 an32 : Option Addr} {sl32 : Array (Option Value)} {oc32 kV32 dc32 pm32 cd32 ct32 : Value} {f32 : Addr}
    {od33 an33 : Option Addr} {sl33 : Array (Option Value)} {oc33 kV33 dc33 pm33 cd33 ct33 : Value} {f33 : Addr}
    {od34 an34 : Option Addr} {sl34 : Array (Option Value)} {oc34 kV34 dc34 pm34 cd34 ct34 : Value} {f34 : Addr}
    {od35 an35 : Option Addr} {sl35 : Array (Option Value)} {oc35 kV35 dc35 pm35 cd35 ct35 : Value} {f35 : Addr}
    {od36 an36 : Option Addr} {sl36 : Array (Option Value)} {oc36 kV36 dc36 pm36 cd36 ct36 : Value} {f36 : Addr}
    {od37 an37 : Option Addr} {sl37 : Array (Option Value)} {oc37 kV37 dc37 pm37 cd37 ct37 : Value} {f37 : Addr}
    {od38 an38 : Option Addr} {sl38 : Array (Option Value)} {oc38 kV38 dc38 pm38 cd38 ct38 : Value} {f38 : Addr}
    {od39 an39 : Option Addr} {sl39 : Array (Option Value)} {oc39 kV39 dc39 pm39 cd39 ct39 : Value} {f39 : Addr}
    {od40 an40 : Option Addr} {sl40 : Array (Option Value)} {oc40 kV40 dc40 pm40 cd40 ct40 : Value} {f40 : Addr}
    {od41 an41 : Option Addr} {sl41 : Array (Option Value)} {oc41 kV41 dc41 pm41 cd41 ct41 : Value} {f41 : Addr}
    (a1 : PySem.W.nsIn K mainGlobals "common_factor" = some (some (.ref f1))) (l1 : K.lookup f1 = some ⟨oc1, od1, .func (PySem.W.fnOf "common_factor" "common_factor" (defArgs s_p_common_factor) (defBody s_p_common_factor) (defScope s_p_common_factor) .none kV1 dc1 pm1 an1 cd1 ct1), sl1⟩) (c1 : PySem.W.codeIn K cd1 "common_factor" = true) (k1 : PySem.W.keepIn K (.ref f1) = true)
    (a2 : PySem.W.nsIn K mainGlobals "lowest" = some (some (.ref f2))) (l2 : K.lookup f2 = some ⟨oc2, od2, .func (PySem.W.fnOf "lowest" "lowest" (defArgs s_p_lowest) (defBody s_p_lowest) (defScope s_p_lowest) .none kV2 dc2 pm2 an2 cd2 ct2), sl2⟩) (c2 : PySem.W.codeIn K cd2 "lowest" = true) (k2 : PySem.W.keepIn K (.ref f2) = true)
    (a3 : PySem.W.nsIn K mainGlobals "upright" = some (some (.ref f3))) (l3 : K.lookup f3 = some ⟨oc3, od3, .func (PySem.W.fnOf "upright" "upright" (defArgs s_p_upright) (defBody s_p_upright) (defScope s_p_upright) .none kV3 dc3 pm3 an3 cd3 ct3), sl3⟩) (c3 : PySem.W.codeIn K cd3 "upright" = true) (k3 : PySem.W.keepIn K (.ref f3) = true)
    (a4 : PySem.W.nsIn K mainGlobals "part" = some (some (.ref f4))) (l4 : K.lookup f4 = some ⟨oc4, od4, .func (PySem.W.fnOf "part" "part" (defArgs s_p_part) (defBody s_p_part) (defScope s_p_part) .none kV4 dc4 pm4 an4 cd4 ct4), sl4⟩) (c4 : PySem.W.codeIn K cd4 "part" = true) (k4 : PySem.W.keepIn K (.ref f4) = true)
    (a5 : PySem.W.nsIn K mainGlobals "plus" = some (some (.ref f5))) (l5 : K.lookup f5 = some ⟨oc5, od5, .func (PySem.W.fnOf "plus" "plus" (defArgs s_p_plus) (defBody s_p_plus) (defScope s_p_plus) .none kV5 dc5 pm5 an5 cd5 ct5), sl5⟩) (c5 : PySem.W.codeIn K cd5 "plus" = true) (k5 : PySem.W.keepIn K (.ref f5) = true)
    (a6 : PySem.W.nsIn K mainGlobals "times" = some (some (.ref f6))) (l6 : K.lookup f6 = some ⟨oc6, od6, .func (PySem.W.fnOf "times" "times" (defArgs s_p_times) (defBody s_p_times) (defScope s_p_times) .none kV6 dc6 pm6 an6 cd6 ct6), sl6⟩) (c6 : PySem.W.codeIn K cd6 "times" = true) (k6 : PySem.W.keepIn K (.ref f6) = true)
    (a7 : PySem.W.nsIn K mainGlobals "below" = some (some (.ref f7))) (l7 : K.lookup f7 = some ⟨oc7, od7, .func (PySem.W.fnOf "below" "below" (defArgs s_p_below) (defBody s_p_below) (defScope s_p_below) .none kV7 dc7 pm7 an7 cd7 ct7), sl7⟩) (c7 : PySem.W.codeIn K cd7 "below" = true) (k7 : PySem.W.keepIn K (.ref f7) = true)
    (a8 : PySem.W.nsIn K mainGlobals "spot" = some (some (.ref f8))) (l8 : K.lookup f8 = some ⟨oc8, od8, .func (PySem.W.fnOf "spot" "spot" (defArgs s_p_spot) (defBody s_p_spot) (defScope s_p_spot) .none kV8 dc8 pm8 an8 cd8 ct8), sl8⟩) (c8 : PySem.W.codeIn K cd8 "spot" = true) (k8 : PySem.W.keepIn K (.ref f8) = true)
    (a9 : PySem.W.nsIn K mainGlobals "turn" = some (some (.ref f9))) (l9 : K.lookup f9 = some ⟨oc9, od9, .func (PySem.W.fnOf "turn" "turn" (defArgs s_p_turn) (defBody s_p_turn) (defScope s_p_turn) .none kV9 dc9 pm9 an9 cd9 ct9), sl9⟩) (c9 : PySem.W.codeIn K cd9 "turn" = true) (k9 : PySem.W.keepIn K (.ref f9) = true)
    (a10 : PySem.W.nsIn K mainGlobals "along" = some (some (.ref f10))) (l10 : K.lookup f10 = some ⟨oc10, od10, .func (PySem.W.fnOf "along" "along" (defArgs s_p_along) (defBody s_p_along) (defScope s_p_along) .none kV10 dc10 pm10 an10 cd10 ct10), sl10⟩) (c10 : PySem.W.codeIn K cd10 "along" = true) (k10 : PySem.W.keepIn K (.ref f10) = true)
    (a11 : PySem.W.nsIn K mainGlobals "beyond" = some (some (.ref f11))) (l11 : K.lookup f11 = some ⟨oc11, od11, .func (PySem.W.fnOf "beyond" "beyond" (defArgs s_p_beyond) (defBody s_p_beyond) (defScope s_p_beyond) .none kV11 dc11 pm11 an11 cd11 ct11), sl11⟩) (c11 : PySem.W.codeIn K cd11 "beyond" = true) (k11 : PySem.W.keepIn K (.ref f11) = true)
    (a12 : PySem.W.nsIn K mainGlobals "holds" = some (some (.ref f12))) (l12 : K.lookup f12 = some ⟨oc12, od12, .func (PySem.W.fnOf "holds" "holds" (defArgs s_p_holds) (defBody s_p_holds) (defScope s_p_holds) .none kV12 dc12 pm12 an12 cd12 ct12), sl12⟩) (c12 : PySem.W.codeIn K cd12 "holds" = true) (k12 : PySem.W.keepIn K (.ref f12) = true)
    (a13 : PySem.W.nsIn K mainGlobals "crossing" = some (some (.ref f13))) (l13 : K.lookup f13 = some ⟨oc13, od13, .func (PySem.W.fnOf "crossing" "crossing" (defArgs s_p_crossing) (defBody s_p_crossing) (defScope s_p_crossing) .none kV13 dc13 pm13 an13 cd13 ct13), sl13⟩) (c13 : PySem.W.codeIn K cd13 "crossing" = true) (k13 : PySem.W.keepIn K (.ref f13) = true)
    (a14 : PySem.W.nsIn K mainGlobals "in_water" = some (some (.ref f14))) (l14 : K.lookup f14 = some ⟨oc14, od14, .func (PySem.W.fnOf "in_water" "in_water" (defArgs s_p_in_water) (defBody s_p_in_water) (defScope s_p_in_water) .none kV14 dc14 pm14 an14 cd14 ct14), sl14⟩) (c14 : PySem.W.codeIn K cd14 "in_water" = true) (k14 : PySem.W.keepIn K (.ref f14) = true)
    (a15 : PySem.W.nsIn K mainGlobals "foot" = some (some (.ref f15))) (l15 : K.lookup f15 = some ⟨oc15, od15, .func (PySem.W.fnOf "foot" "foot" (defArgs s_p_foot) (defBody s_p_foot) (defScope s_p_foot) .none kV15 dc15 pm15 an15 cd15 ct15), sl15⟩) (c15 : PySem.W.codeIn K cd15 "foot" = true) (k15 : PySem.W.keepIn K (.ref f15) = true)
    (a16 : PySem.W.nsIn K mainGlobals "edge_end" = some (some (.ref f16))) (l16 : K.lookup f16 = some ⟨oc16, od16, .func (PySem.W.fnOf "edge_end" "edge_end" (defArgs s_p_edge_end) (defBody s_p_edge_end) (defScope s_p_edge_end) .none kV16 dc16 pm16 an16 cd16 ct16), sl16⟩) (c16 : PySem.W.codeIn K cd16 "edge_end" = true) (k16 : PySem.W.keepIn K (.ref f16) = true)
    (a17 : PySem.W.nsIn K mainGlobals "edge_ends" = some (some (.ref f17))) (l17 : K.lookup f17 = some ⟨oc17, od17, .func (PySem.W.fnOf "edge_ends" "edge_ends" (defArgs s_p_edge_ends) (defBody s_p_edge_ends) (defScope s_p_edge_ends) .none kV17 dc17 pm17 an17 cd17 ct17), sl17⟩) (c17 : PySem.W.codeIn K cd17 "edge_ends" = true) (k17 : PySem.W.keepIn K (.ref f17) = true)
    (a18 : PySem.W.nsIn K mainGlobals "spot_on_edge" = some (some (.ref f18))) (l18 : K.lookup f18 = some ⟨oc18, od18, .func (PySem.W.fnOf "spot_on_edge" "spot_on_edge" (defArgs s_p_spot_on_edge) (defBody s_p_spot_on_edge) (defScope s_p_spot_on_edge) .none kV18 dc18 pm18 an18 cd18 ct18), sl18⟩) (c18 : PySem.W.codeIn K cd18 "spot_on_edge" = true) (k18 : PySem.W.keepIn K (.ref f18) = true)
    (a19 : PySem.W.nsIn K mainGlobals "sought" = some (some (.ref f19))) (l19 : K.lookup f19 = some ⟨oc19, od19, .func (PySem.W.fnOf "sought" "sought" (defArgs s_p_sought) (defBody s_p_sought) (defScope s_p_sought) .none kV19 dc19 pm19 an19 cd19 ct19), sl19⟩) (c19 : PySem.W.codeIn K cd19 "sought" = true) (k19 : PySem.W.keepIn K (.ref f19) = true)
    (a20 : PySem.W.nsIn K mainGlobals "span" = some (some (.ref f20))) (l20 : K.lookup f20 = some ⟨oc20, od20, .func (PySem.W.fnOf "span" "span" (defArgs s_p_span) (defBody s_p_span) (defScope s_p_span) .none kV20 dc20 pm20 an20 cd20 ct20), sl20⟩) (c20 : PySem.W.codeIn K cd20 "span" = true) (k20 : PySem.W.keepIn K (.ref f20) = true)
    (a21 : PySem.W.nsIn K mainGlobals "weighed" = some (some (.ref f21))) (l21 : K.lookup f21 = some ⟨oc21, od21, .func (PySem.W.fnOf "weighed" "weighed" (defArgs s_p_weighed) (defBody s_p_weighed) (defScope s_p_weighed) .none kV21 dc21 pm21 an21 cd21 ct21), sl21⟩) (c21 : PySem.W.codeIn K cd21 "weighed" = true) (k21 : PySem.W.keepIn K (.ref f21) = true)
    (a22 : PySem.W.nsIn K mainGlobals "clash_of_three" = some (some (.ref f22))) (l22 : K.lookup f22 = some ⟨oc22, od22, .func (PySem.W.fnOf "clash_of_three" "clash_of_three" (defArgs s_p_clash_of_three) (defBody s_p_clash_of_three) (defScope s_p_clash_of_three) .none kV22 dc22 pm22 an22 cd22 ct22), sl22⟩) (c22 : PySem.W.codeIn K cd22 "clash_of_three" = true) (k22 : PySem.W.keepIn K (.ref f22) = true)
    (a23 : PySem.W.nsIn K mainGlobals "clash" = some (some (.ref f23))) (l23 : K.lookup f23 = some ⟨oc23, od23, .func (PySem.W.fnOf "clash" "clash" (defArgs s_p_clash) (defBody s_p_clash) (defScope s_p_clash) .none kV23 dc23 pm23 an23 cd23 ct23), sl23⟩) (c23 : PySem.W.codeIn K cd23 "clash" = true) (k23 : PySem.W.keepIn K (.ref f23) = true)
    (a24 : PySem.W.nsIn K mainGlobals "are_weights" = some (some (.ref f24))) (l24 : K.lookup f24 = some ⟨oc24, od24, .func (PySem.W.fnOf "are_weights" "are_weights" (defArgs s_p_are_weights) (defBody s_p_are_weights) (defScope s_p_are_weights) .none kV24 dc24 pm24 an24 cd24 ct24), sl24⟩) (c24 : PySem.W.codeIn K cd24 "are_weights" = true) (k24 : PySem.W.keepIn K (.ref f24) = true)
    (a25 : PySem.W.nsIn K mainGlobals "sum_at" = some (some (.ref f25))) (l25 : K.lookup f25 = some ⟨oc25, od25, .func (PySem.W.fnOf "sum_at" "sum_at" (defArgs s_p_sum_at) (defBody s_p_sum_at) (defScope s_p_sum_at) .none kV25 dc25 pm25 an25 cd25 ct25), sl25⟩) (c25 : PySem.W.codeIn K cd25 "sum_at" = true) (k25 : PySem.W.keepIn K (.ref f25) = true)
    (a26 : PySem.W.nsIn K mainGlobals "makes" = some (some (.ref f26))) (l26 : K.lookup f26 = some ⟨oc26, od26, .func (PySem.W.fnOf "makes" "makes" (defArgs s_p_makes) (defBody s_p_makes) (defScope s_p_makes) .none kV26 dc26 pm26 an26 cd26 ct26), sl26⟩) (c26 : PySem.W.codeIn K cd26 "makes" = true) (k26 : PySem.W.keepIn K (.ref f26) = true)
    (a27 : PySem.W.nsIn K mainGlobals "good_clash" = some (some (.ref f27))) (l27 : K.lookup f27 = some ⟨oc27, od27, .func (PySem.W.fnOf "good_clash" "good_clash" (defArgs s_p_good_clash) (defBody s_p_good_clash) (defScope s_p_good_clash) .none kV27 dc27 pm27 an27 cd27 ct27), sl27⟩) (c27 : PySem.W.codeIn K cd27 "good_clash" = true) (k27 : PySem.W.keepIn K (.ref f27) = true)
    (a28 : PySem.W.nsIn K mainGlobals "_law_turned" = some (some (.ref f28))) (l28 : K.lookup f28 = some ⟨oc28, od28, .func (PySem.W.fnOf "_law_turned" "_law_turned" (defArgs s_L_turned) (defBody s_L_turned) (defScope s_L_turned) .none kV28 dc28 pm28 an28 cd28 ct28), sl28⟩) (c28 : PySem.W.codeIn K cd28 "_law_turned" = true) (k28 : PySem.W.keepIn K (.ref f28) = true)
    (a29 : PySem.W.nsIn K mainGlobals "_law_power" = some (some (.ref f29))) (l29 : K.lookup f29 = some ⟨oc29, od29, .func (PySem.W.fnOf "_law_power" "_law_power" (defArgs s_L_power) (defBody s_L_power) (defScope s_L_power) .none kV29 dc29 pm29 an29 cd29 ct29), sl29⟩) (c29 : PySem.W.codeIn K cd29 "_law_power" = true) (k29 : PySem.W.keepIn K (.ref f29) = true)
    (a30 : PySem.W.nsIn K mainGlobals "_law_draws" = some (some (.ref f30))) (l30 : K.lookup f30 = some ⟨oc30, od30, .func (PySem.W.fnOf "_law_draws" "_law_draws" (defArgs s_L_draws) (defBody s_L_draws) (defScope s_L_draws) .none kV30 dc30 pm30 an30 cd30 ct30), sl30⟩) (c30 : PySem.W.codeIn K cd30 "_law_draws" = true) (k30 : PySem.W.keepIn K (.ref f30) = true)
    (a31 : PySem.W.nsIn K mainGlobals "_law_tight" = some (some (.ref f31))) (l31 : K.lookup f31 = some ⟨oc31, od31, .func (PySem.W.fnOf "_law_tight" "_law_tight" (defArgs s_L_tight) (defBody s_L_tight) (defScope s_L_tight) .none kV31 dc31 pm31 an31 cd31 ct31), sl31⟩) (c31 : PySem.W.codeIn K cd31 "_law_tight" = true) (k31 : PySem.W.keepIn K (.ref f31) = true)
    (a32 : PySem.W.nsIn K mainGlobals "_law_way" = some (some (.ref f32))) (l32 : K.lookup f32 = some ⟨oc32, od32, .func (PySem.W.fnOf "_law_way" "_law_way" (defArgs s_L_way) (defBody s_L_way) (defScope s_L_way) .none kV32 dc32 pm32 an32 cd32 ct32), sl32⟩) (c32 : PySem.W.codeIn K cd32 "_law_way" = true) (k32 : PySem.W.keepIn K (.ref f32) = true)
    (a33 : PySem.W.nsIn K mainGlobals "_law_side" = some (some (.ref f33))) (l33 : K.lookup f33 = some ⟨oc33, od33, .func (PySem.W.fnOf "_law_side" "_law_side" (defArgs s_L_side) (defBody s_L_side) (defScope s_L_side) .none kV33 dc33 pm33 an33 cd33 ct33), sl33⟩) (c33 : PySem.W.codeIn K cd33 "_law_side" = true) (k33 : PySem.W.keepIn K (.ref f33) = true)
    (a34 : PySem.W.nsIn K mainGlobals "_law_sides" = some (some (.ref f34))) (l34 : K.lookup f34 = some ⟨oc34, od34, .func (PySem.W.fnOf "_law_sides" "_law_sides" (defArgs s_L_sides) (defBody s_L_sides) (defScope s_L_sides) .none kV34 dc34 pm34 an34 cd34 ct34), sl34⟩) (c34 : PySem.W.codeIn K cd34 "_law_sides" = true) (k34 : PySem.W.keepIn K (.ref f34) = true)
    (a35 : PySem.W.nsIn K mainGlobals "_law_same" = some (some (.ref f35))) (l35 : K.lookup f35 = some ⟨oc35, od35, .func (PySem.W.fnOf "_law_same" "_law_same" (defArgs s_L_same) (defBody s_L_same) (defScope s_L_same) .none kV35 dc35 pm35 an35 cd35 ct35), sl35⟩) (c35 : PySem.W.codeIn K cd35 "_law_same" = true) (k35 : PySem.W.keepIn K (.ref f35) = true)
    (a36 : PySem.W.nsIn K mainGlobals "_law_whole" = some (some (.ref f36))) (l36 : K.lookup f36 = some ⟨oc36, od36, .func (PySem.W.fnOf "_law_whole" "_law_whole" (defArgs s_L_whole) (defBody s_L_whole) (defScope s_L_whole) .none kV36 dc36 pm36 an36 cd36 ct36), sl36⟩) (c36 : PySem.W.codeIn K cd36 "_law_whole" = true) (k36 : PySem.W.keepIn K (.ref f36) = true)
    (a37 : PySem.W.nsIn K mainGlobals "_law_numbers" = some (some (.ref f37))) (l37 : K.lookup f37 = some ⟨oc37, od37, .func (PySem.W.fnOf "_law_numbers" "_law_numbers" (defArgs s_L_numbers) (defBody s_L_numbers) (defScope s_L_numbers) .none kV37 dc37 pm37 an37 cd37 ct37), sl37⟩) (c37 : PySem.W.codeIn K cd37 "_law_numbers" = true) (k37 : PySem.W.keepIn K (.ref f37) = true)
    (a38 : PySem.W.nsIn K mainGlobals "_law_is_clash" = some (some (.ref f38))) (l38 : K.lookup f38 = some ⟨oc38, od38, .func (PySem.W.fnOf "_law_is_clash" "_law_is_clash" (defArgs s_L_is_clash) (defBody s_L_is_clash) (defScope s_L_is_clash) .none kV38 dc38 pm38 an38 cd38 ct38), sl38⟩) (c38 : PySem.W.codeIn K cd38 "_law_is_clash" = true) (k38 : PySem.W.keepIn K (.ref f38) = true)
    (a39 : PySem.W.nsIn K mainGlobals "_law_own" = some (some (.ref f39))) (l39 : K.lookup f39 = some ⟨oc39, od39, .func (PySem.W.fnOf "_law_own" "_law_own" (defArgs s_L_own) (defBody s_L_own) (defScope s_L_own) .none kV39 dc39 pm39 an39 cd39 ct39), sl39⟩) (c39 : PySem.W.codeIn K cd39 "_law_own" = true) (k39 : PySem.W.keepIn K (.ref f39) = true)
    (a40 : PySem.W.nsIn K mainGlobals "_law_bent" = some (some (.ref f40))) (l40 : K.lookup f40 = some ⟨oc40, od40, .func (PySem.W.fnOf "_law_bent" "_law_bent" (defArgs s_L_bent) (defBody s_L_bent) (defScope s_L_bent) .none kV40 dc40 pm40 an40 cd40 ct40), sl40⟩) (c40 : PySem.W.codeIn K cd40 "_law_bent" = true) (k40 : PySem.W.keepIn K (.ref f40) = true)
    (a41 : PySem.W.nsIn K mainGlobals "law" = some (some (.ref f41))) (l41 : K.lookup f41 = some ⟨oc41, od41, .func (PySem.W.fnOf "law" "law" (defArgs s_law) (defBody s_law) (defScope s_law) .none kV41 dc41 pm41 an41 cd41 ct41), sl41⟩) (c41 : PySem.W.codeIn K cd41 "law" = true) (k41 : PySem.W.keepIn K (.ref f41) = true)
    (z_abs : PySem.W.nsIn K mainGlobals "abs" = some none)
    (z_all : PySem.W.nsIn K mainGlobals "all" = some none)
    (z_bool : PySem.W.nsIn K mainGlobals "bool" = some none)
    (z_enumerate : PySem.W.nsIn K mainGlobals "enumerate" = some none)
    (z_int : PySem.W.nsIn K mainGlobals "int" = some none)
    (z_isinstance : PySem.W.nsIn K mainGlobals "isinstance" = some none)
    (z_len : PySem.W.nsIn K mainGlobals "len" = some none)
    (z_list : PySem.W.nsIn K mainGlobals "list" = some none)
    (z_min : PySem.W.nsIn K mainGlobals "min" = some none)
    (z_range : PySem.W.nsIn K mainGlobals "range" = some none)
    (z_sorted : PySem.W.nsIn K mainGlobals "sorted" = some none)
    (z_str : PySem.W.nsIn K mainGlobals "str" = some none)
    (z_tuple : PySem.W.nsIn K mainGlobals "tuple" = some none)
    (z_zip : PySem.W.nsIn K mainGlobals "zip" = some none) :
    ∃ fd : FuncData, (∀ (s : Shared) (v : Value), BindsTo s fd ⟨[v], []⟩ [("_law_script", v)]) ∧ ∀ base : Heap, K.In base → base.Ns mainGlobals mg → FnOk l.prog w K mg base CX0 10 fa fd ["_law_script"] (sp_law K) := by
  have e := hfa.symm.trans (PySem.W.mg_of X G a41)
  cases e
  have Z : Zs mg := ⟨PySem.W.mg_none_of X G z_abs, PySem.W.mg_none_of X G z_all, PySem.W.mg_none_of X G z_bool, PySem.W.mg_none_of X G z_enumerate, PySem.W.mg_none_of X G z_int, PySem.W.mg_none_of X G z_isinstance, PySem.W.mg_none_of X G z_len, PySem.W.mg_none_of X G z_list, PySem.W.mg_none_of X G z_min, PySem.W.mg_none_of X G z_range, PySem.W.mg_none_of X G z_sorted, PySem.W.mg_none_of X G z_str, PySem.W.mg_none_of X G z_tuple, PySem.W.mg_none_of X G z_zip⟩
  refine ⟨PySem.W.fnOf "law" "law" (defArgs s_law) (defBody s_law) (defScope s_law) .none kV41 dc41 pm41 an41 cd41 ct41, fun s v => .of_eq rfl, fun base _ _ => ?_⟩
  have F1 := fun_mk (st := s_p_common_factor) l1 c1 k1
  have b1 := F1.binds (ps := ["numbers"]) fun _ _ _ _ _ _ us hl => match us, hl with | [_], _ => rfl
  have h_p_common_factor : Has l.prog w K mg base "common_factor" 1 ["numbers"] (sp_p_common_factor K) := ⟨_, _, ok_p_common_factor F1 Z , b1, k1, PySem.W.mg_of X G a1⟩
  have F2 := fun_mk (st := s_p_lowest) l2 c2 k2
  have b2 := F2.binds (ps := ["numbers"]) fun _ _ _ _ _ _ us hl => match us, hl with | [_], _ => rfl
  have h_p_lowest : Has l.prog w K mg base "lowest" 2 ["numbers"] (sp_p_lowest K) := ⟨_, _, ok_p_lowest F2 Z h_p_common_factor, b2, k2, PySem.W.mg_of X G a2⟩
  have F3 := fun_mk (st := s_p_upright) l3 c3 k3
  have b3 := F3.binds (ps := ["numbers"]) fun _ _ _ _ _ _ us hl => match us, hl with | [_], _ => rfl
  have h_p_upright : Has l.prog w K mg base "upright" 3 ["numbers"] (sp_p_upright K) := ⟨_, _, ok_p_upright F3 Z h_p_lowest, b3, k3, PySem.W.mg_of X G a3⟩
  have F4 := fun_mk (st := s_p_part) l4 c4 k4
  have b4 := F4.binds (ps := ["top", "bottom"]) fun _ _ _ _ _ _ us hl => match us, hl with | [_, _], _ => rfl
  have h_p_part : Has l.prog w K mg base "part" 4 ["top", "bottom"] (sp_p_part K) := ⟨_, _, ok_p_part F4 Z h_p_upright, b4, k4, PySem.W.mg_of X G a4⟩
  have F5 := fun_mk (st := s_p_plus) l5 c5 k5
  have b5 := F5.binds (ps := ["one", "other"]) fun _ _ _ _ _ _ us hl => match us, hl with | [_, _], _ => rfl
  have h_p_plus : Has l.prog w K mg base "plus" 5 ["one", "other"] (sp_p_plus K) := ⟨_, _, ok_p_plus F5 Z h_p_part, b5, k5, PySem.W.mg_of X G a5⟩
  have F6 := fun_mk (st := s_p_times) l6 c6 k6
  have b6 := F6.binds (ps := ["one", "other"]) fun _ _ _ _ _ _ us hl => match us, hl with | [_, _], _ => rfl
  have h_p_times : Has l.prog w K mg base "times" 5 ["one", "other"] (sp_p_times K) := ⟨_, _, ok_p_times F6 Z h_p_part, b6, k6, PySem.W.mg_of X G a6⟩
  have F7 := fun_mk (st := s_p_below) l7 c7 k7
  have b7 := F7.binds (ps := ["one", "other"]) fun _ _ _ _ _ _ us hl => match us, hl with | [_, _], _ => rfl
  have h_p_below : Has l.prog w K mg base "below" 1 ["one", "other"] (sp_p_below K) := ⟨_, _, ok_p_below F7 Z , b7, k7, PySem.W.mg_of X G a7⟩
  have F8 := fun_mk (st := s_p_spot) l8 c8 k8
  have b8 := F8.binds (ps := ["x", "y", "w"]) fun _ _ _ _ _ _ us hl => match us, hl with | [_, _, _], _ => rfl
  have h_p_spot : Has l.prog w K mg base "spot" 4 ["x", "y", "w"] (sp_p_spot K) := ⟨_, _, ok_p_spot F8 Z h_p_upright, b8, k8, PySem.W.mg_of X G a8⟩
  have F9 := fun_mk (st := s_p_turn) l9 c9 k9
  have b9 := F9.binds (ps := ["one", "other"]) fun _ _ _ _ _ _ us hl => match us, hl with | [_, _], _ => rfl
  have h_p_turn : Has l.prog w K mg base "turn" 1 ["one", "other"] (sp_p_turn K) := ⟨_, _, ok_p_turn F9 Z , b9, k9, PySem.W.mg_of X G a9⟩
  have F10 := fun_mk (st := s_p_along) l10 c10 k10
  have b10 := F10.binds (ps := ["one", "other"]) fun _ _ _ _ _ _ us hl => match us, hl with | [_, _], _ => rfl
  have h_p_along : Has l.prog w K mg base "along" 1 ["one", "other"] (sp_p_along K) := ⟨_, _, ok_p_along F10 Z , b10, k10, PySem.W.mg_of X G a10⟩
  have F11 := fun_mk (st := s_p_beyond) l11 c11 k11
  have b11 := F11.binds (ps := ["side", "spot"]) fun _ _ _ _ _ _ us hl => match us, hl with | [_, _], _ => rfl
  have h_p_beyond : Has l.prog w K mg base "beyond" 1 ["side", "spot"] (sp_p_beyond K) := ⟨_, _, ok_p_beyond F11 Z , b11, k11, PySem.W.mg_of X G a11⟩
  have F12 := fun_mk (st := s_p_holds) l12 c12 k12
  have b12 := F12.binds (ps := ["side", "spot"]) fun _ _ _ _ _ _ us hl => match us, hl with | [_, _], _ => rfl
  have h_p_holds : Has l.prog w K mg base "holds" 2 ["side", "spot"] (sp_p_holds K) := ⟨_, _, ok_p_holds F12 Z h_p_beyond, b12, k12, PySem.W.mg_of X G a12⟩
  have F13 := fun_mk (st := s_p_crossing) l13 c13 k13
  have b13 := F13.binds (ps := ["one", "other"]) fun _ _ _ _ _ _ us hl => match us, hl with | [_, _], _ => rfl
  have h_p_crossing : Has l.prog w K mg base "crossing" 4 ["one", "other"] (sp_p_crossing K) := ⟨_, _, ok_p_crossing F13 Z h_p_upright h_p_turn, b13, k13, PySem.W.mg_of X G a13⟩
  have F14 := fun_mk (st := s_p_in_water) l14 c14 k14
  have b14 := F14.binds (ps := ["sides", "place"]) fun _ _ _ _ _ _ us hl => match us, hl with | [_, _], _ => rfl
  have h_p_in_water : Has l.prog w K mg base "in_water" 3 ["sides", "place"] (sp_p_in_water K) := ⟨_, _, ok_p_in_water F14 Z h_p_holds, b14, k14, PySem.W.mg_of X G a14⟩
  have F15 := fun_mk (st := s_p_foot) l15 c15 k15
  have b15 := F15.binds (ps := ["side"]) fun _ _ _ _ _ _ us hl => match us, hl with | [_], _ => rfl
  have h_p_foot : Has l.prog w K mg base "foot" 5 ["side"] (sp_p_foot K) := ⟨_, _, ok_p_foot F15 Z h_p_spot h_p_along, b15, k15, PySem.W.mg_of X G a15⟩
  have F16 := fun_mk (st := s_p_edge_end) l16 c16 k16
  have b16 := F16.binds (ps := ["sides", "edge", "hand"]) fun _ _ _ _ _ _ us hl => match us, hl with | [_, _, _], _ => rfl
  have h_p_edge_end : Has l.prog w K mg base "edge_end" 5 ["sides", "edge", "hand"] (sp_p_edge_end K) := ⟨_, _, ok_p_edge_end F16 Z h_p_turn h_p_holds h_p_crossing, b16, k16, PySem.W.mg_of X G a16⟩
  have F17 := fun_mk (st := s_p_edge_ends) l17 c17 k17
  have b17 := F17.binds (ps := ["sides", "edge"]) fun _ _ _ _ _ _ us hl => match us, hl with | [_, _], _ => rfl
  have h_p_edge_ends : Has l.prog w K mg base "edge_ends" 6 ["sides", "edge"] (sp_p_edge_ends K) := ⟨_, _, ok_p_edge_ends F17 Z h_p_crossing h_p_edge_end, b17, k17, PySem.W.mg_of X G a17⟩
  have F18 := fun_mk (st := s_p_spot_on_edge) l18 c18 k18
  have b18 := F18.binds (ps := ["sides", "edge"]) fun _ _ _ _ _ _ us hl => match us, hl with | [_, _], _ => rfl
  have h_p_spot_on_edge : Has l.prog w K mg base "spot_on_edge" 7 ["sides", "edge"] (sp_p_spot_on_edge K) := ⟨_, _, ok_p_spot_on_edge F18 Z h_p_edge_ends h_p_foot h_p_in_water, b18, k18, PySem.W.mg_of X G a18⟩
  have F19 := fun_mk (st := s_p_sought) l19 c19 k19
  have b19 := F19.binds (ps := ["sides"]) fun _ _ _ _ _ _ us hl => match us, hl with | [_], _ => rfl
  have h_p_sought : Has l.prog w K mg base "sought" 8 ["sides"] (sp_p_sought K) := ⟨_, _, ok_p_sought F19 Z h_p_holds h_p_spot_on_edge h_p_spot, b19, k19, PySem.W.mg_of X G a19⟩
  have F20 := fun_mk (st := s_p_span) l20 c20 k20
  have b20 := F20.binds (ps := ["direction"]) fun _ _ _ _ _ _ us hl => match us, hl with | [_], _ => rfl
  have h_p_span : Has l.prog w K mg base "span" 1 ["direction"] (sp_p_span K) := ⟨_, _, ok_p_span F20 Z , b20, k20, PySem.W.mg_of X G a20⟩
  have F21 := fun_mk (st := s_p_weighed) l21 c21 k21
  have b21 := F21.binds (ps := ["numbers", "weights"]) fun _ _ _ _ _ _ us hl => match us, hl with | [_, _], _ => rfl
  have h_p_weighed : Has l.prog w K mg base "weighed" 3 ["numbers", "weights"] (sp_p_weighed K) := ⟨_, _, ok_p_weighed F21 Z h_p_lowest, b21, k21, PySem.W.mg_of X G a21⟩
  have F22 := fun_mk (st := s_p_clash_of_three) l22 c22 k22
  have b22 := F22.binds (ps := ["sides", "last"]) fun _ _ _ _ _ _ us hl => match us, hl with | [_, _], _ => rfl
  have h_p_clash_of_three : Has l.prog w K mg base "clash_of_three" 6 ["sides", "last"] (sp_p_clash_of_three K) := ⟨_, _, ok_p_clash_of_three F22 Z h_p_weighed h_p_turn h_p_edge_end, b22, k22, PySem.W.mg_of X G a22⟩
  have F23 := fun_mk (st := s_p_clash) l23 c23 k23
  have b23 := F23.binds (ps := ["sides"]) fun _ _ _ _ _ _ us hl => match us, hl with | [_], _ => rfl
  have h_p_clash : Has l.prog w K mg base "clash" 9 ["sides"] (sp_p_clash K) := ⟨_, _, ok_p_clash F23 Z h_p_clash_of_three h_p_turn h_p_holds h_p_foot h_p_weighed h_p_span h_p_sought, b23, k23, PySem.W.mg_of X G a23⟩
  have F24 := fun_mk (st := s_p_are_weights) l24 c24 k24
  have b24 := F24.binds (ps := ["sides", "weights"]) fun _ _ _ _ _ _ us hl => match us, hl with | [_, _], _ => rfl
  have h_p_are_weights : Has l.prog w K mg base "are_weights" 1 ["sides", "weights"] (sp_p_are_weights K) := ⟨_, _, ok_p_are_weights F24 Z , b24, k24, PySem.W.mg_of X G a24⟩
  have F25 := fun_mk (st := s_p_sum_at) l25 c25 k25
  have b25 := F25.binds (ps := ["sides", "weights", "at"]) fun _ _ _ _ _ _ us hl => match us, hl with | [_, _, _], _ => rfl
  have h_p_sum_at : Has l.prog w K mg base "sum_at" 6 ["sides", "weights", "at"] (sp_p_sum_at K) := ⟨_, _, ok_p_sum_at F25 Z h_p_plus h_p_times h_p_part, b25, k25, PySem.W.mg_of X G a25⟩
  have F26 := fun_mk (st := s_p_makes) l26 c26 k26
  have b26 := F26.binds (ps := ["sides", "weights", "direction"]) fun _ _ _ _ _ _ us hl => match us, hl with | [_, _, _], _ => rfl
  have h_p_makes : Has l.prog w K mg base "makes" 7 ["sides", "weights", "direction"] (sp_p_makes K) := ⟨_, _, ok_p_makes F26 Z h_p_sum_at h_p_part, b26, k26, PySem.W.mg_of X G a26⟩
  have F27 := fun_mk (st := s_p_good_clash) l27 c27 k27
  have b27 := F27.binds (ps := ["sides", "paper"]) fun _ _ _ _ _ _ us hl => match us, hl with | [_, _], _ => rfl
  have h_p_good_clash : Has l.prog w K mg base "good_clash" 8 ["sides", "paper"] (sp_p_good_clash K) := ⟨_, _, ok_p_good_clash F27 Z h_p_below h_p_part h_p_sum_at h_p_are_weights h_p_makes, b27, k27, PySem.W.mg_of X G a27⟩
  have F28 := fun_mk (st := s_L_turned) l28 c28 k28
  have b28 := F28.binds (ps := ["_law_one", "_law_other"]) fun _ _ _ _ _ _ us hl => match us, hl with | [_, _], _ => rfl
  have h_L_turned : Has l.prog w K mg base "_law_turned" 1 ["_law_one", "_law_other"] (sp_L_turned K) := ⟨_, _, ok_L_turned F28 Z , b28, k28, PySem.W.mg_of X G a28⟩
  have F29 := fun_mk (st := s_L_power) l29 c29 k29
  have b29 := F29.binds (ps := ["_law_number"]) fun _ _ _ _ _ _ us hl => match us, hl with | [_], _ => rfl
  have h_L_power : Has l.prog w K mg base "_law_power" 1 ["_law_number"] (sp_L_power K) := ⟨_, _, ok_L_power F29 Z , b29, k29, PySem.W.mg_of X G a29⟩
  have F30 := fun_mk (st := s_L_draws) l30 c30 k30
  have b30 := F30.binds (ps := ["_law_script", "_law_many"]) fun _ _ _ _ _ _ us hl => match us, hl with | [_, _], _ => rfl
  have h_L_draws : Has l.prog w K mg base "_law_draws" 2 ["_law_script", "_law_many"] (sp_L_draws K) := ⟨_, _, ok_L_draws F30 Z h_L_power, b30, k30, PySem.W.mg_of X G a30⟩
  have F31 := fun_mk (st := s_L_tight) l31 c31 k31
  have b31 := F31.binds (ps := ["_law_some", "_law_sides_here"]) fun _ _ _ _ _ _ us hl => match us, hl with | [_, _], _ => rfl
  have h_L_tight : Has l.prog w K mg base "_law_tight" 1 ["_law_some", "_law_sides_here"] (sp_L_tight K) := ⟨_, _, ok_L_tight F31 Z , b31, k31, PySem.W.mg_of X G a31⟩
  have F32 := fun_mk (st := s_L_way) l32 c32 k32
  have b32 := F32.binds (ps := ["_law_one", "_law_two", "_law_wide"]) fun _ _ _ _ _ _ us hl => match us, hl with | [_, _, _], _ => rfl
  have h_L_way : Has l.prog w K mg base "_law_way" 1 ["_law_one", "_law_two", "_law_wide"] (sp_L_way K) := ⟨_, _, ok_L_way F32 Z , b32, k32, PySem.W.mg_of X G a32⟩
  have F33 := fun_mk (st := s_L_side) l33 c33 k33
  have b33 := F33.binds (ps := ["_law_d"]) fun _ _ _ _ _ _ us hl => match us, hl with | [_], _ => rfl
  have h_L_side : Has l.prog w K mg base "_law_side" 2 ["_law_d"] (sp_L_side K) := ⟨_, _, ok_L_side F33 Z h_L_way, b33, k33, PySem.W.mg_of X G a33⟩
  have F34 := fun_mk (st := s_L_sides) l34 c34 k34
  have b34 := F34.binds (ps := ["_law_some", "_law_many"]) fun _ _ _ _ _ _ us hl => match us, hl with | [_, _], _ => rfl
  have h_L_sides : Has l.prog w K mg base "_law_sides" 3 ["_law_some", "_law_many"] (sp_L_sides K) := ⟨_, _, ok_L_sides F34 Z h_L_side, b34, k34, PySem.W.mg_of X G a34⟩
  have F35 := fun_mk (st := s_L_same) l35 c35 k35
  have b35 := F35.binds (ps := ["_law_told", "_law_due"]) fun _ _ _ _ _ _ us hl => match us, hl with | [_, _], _ => rfl
  have h_L_same : Has l.prog w K mg base "_law_same" 6 ["_law_told", "_law_due"] (sp_L_same K) := ⟨_, _, ok_L_same F35 Z  b35 k35 (PySem.W.mg_of X G a35), b35, k35, PySem.W.mg_of X G a35⟩
  have F36 := fun_mk (st := s_L_whole) l36 c36 k36
  have b36 := F36.binds (ps := ["_law_found"]) fun _ _ _ _ _ _ us hl => match us, hl with | [_], _ => rfl
  have h_L_whole : Has l.prog w K mg base "_law_whole" 1 ["_law_found"] (sp_L_whole K) := ⟨_, _, ok_L_whole F36 Z , b36, k36, PySem.W.mg_of X G a36⟩
  have F37 := fun_mk (st := s_L_numbers) l37 c37 k37
  have b37 := F37.binds (ps := ["_law_found", "_law_many"]) fun _ _ _ _ _ _ us hl => match us, hl with | [_, _], _ => rfl
  have h_L_numbers : Has l.prog w K mg base "_law_numbers" 2 ["_law_found", "_law_many"] (sp_L_numbers K) := ⟨_, _, ok_L_numbers F37 Z h_L_whole, b37, k37, PySem.W.mg_of X G a37⟩
  have F38 := fun_mk (st := s_L_is_clash) l38 c38 k38
  have b38 := F38.binds (ps := ["_law_sides_here", "_law_paper"]) fun _ _ _ _ _ _ us hl => match us, hl with | [_, _], _ => rfl
  have h_L_is_clash : Has l.prog w K mg base "_law_is_clash" 3 ["_law_sides_here", "_law_paper"] (sp_L_is_clash K) := ⟨_, _, ok_L_is_clash F38 Z h_L_numbers, b38, k38, PySem.W.mg_of X G a38⟩
  have F39 := fun_mk (st := s_L_own) l39 c39 k39
  have b39 := F39.binds (ps := ["_law_some", "_law_sides_here"]) fun _ _ _ _ _ _ us hl => match us, hl with | [_, _], _ => rfl
  have h_L_own : Has l.prog w K mg base "_law_own" 2 ["_law_some", "_law_sides_here"] (sp_L_own K) := ⟨_, _, ok_L_own F39 Z h_L_turned, b39, k39, PySem.W.mg_of X G a39⟩
  have F40 := fun_mk (st := s_L_bent) l40 c40 k40
  have b40 := F40.binds (ps := ["_law_d", "_law_paper"]) fun _ _ _ _ _ _ us hl => match us, hl with | [_, _], _ => rfl
  have h_L_bent : Has l.prog w K mg base "_law_bent" 1 ["_law_d", "_law_paper"] (sp_L_bent K) := ⟨_, _, ok_L_bent F40 Z , b40, k40, PySem.W.mg_of X G a40⟩
  have F41 := fun_mk (st := s_law) l41 c41 k41
  exact ok_law F41 Z h_L_same h_L_is_clash h_p_good_clash h_L_bent h_L_own h_p_clash h_L_tight h_L_sides h_L_draws
theorem walk {l : PySem.W.OpenLaw} {q : Program} {loose : List Str} {XP : (Str → Option Value) → Heap → Prop} {YP : World → Heap → Prop} {d : DefRec} {K : Params → PySem.W.Frag} (hn : l.most = some 63) (hdf : d.params.defaults = [])
    (hY : ∀ (w : World) (h : Heap), YP w h → (K w.params).In h)
    (F : ∀ (w : World) (mg : Str → Option Value) (fa : Addr) (h : Heap), (K w.params).In h → h.Ns mainGlobals mg → mg d.name = some (.ref fa) →
      ∃ fd : FuncData, (∀ (s : Shared) (u : Value), BindsTo s fd ⟨[u], []⟩ [("_law_script", u)]) ∧ ∀ base : Heap, (K w.params).In base → base.Ns mainGlobals mg → FnOk l.prog w (K w.params) mg base CX0 10 fa fd ["_law_script"] (sp_law (K w.params))) :
    PySem.W.WalkO q loose XP YP l.row.toRowW d [] (fun f vs => PySem.call f vs) :=
  L2.walk_of (n := 63) (k := 10) (x := "_law_script") (CX := fun _ => CX0) (sp := fun w => sp_law (K w.params)) hn (by decide) hdf ⟨rfl, by decide, by decide⟩ hY F (fun _ _ a ns hl _ hS => ⟨a, ns, rfl, hS, hl, fun _ => rfl⟩) fun _ _ _ _ _ z => z

end Sea
open PySem PySem.W PyProof.Rows
set_option maxRecDepth 100000 in
set_option maxHeartbeats 0 in
theorem PySem.Challenge.cw_seamarks_k27_clashes_judged_holds : PySem.Challenge.rw_seamarks_k27_clashes_judged.Holds := by
  w_on; o_law
  refine holds_open (q := Sea.qv) (loose := []) (XP := XL Sea.qv []) (YP := InK Sea.KK) Sea.left_ok (InK.of Sea.kas_ok)
    InK.keeps (fun s e => xl_of s (Bool.and_eq_true_iff.mp e).1) XL.keeps (by rfl) (by rfl) (by rfl)
    (fun s e => recFacts_of (Bool.and_eq_true_iff.mp e).2) (by rfl) (by assumption) (by decide +kernel)
    ⟨rfl, rfl, rfl, rfl, rfl, by decide +kernel⟩ ?hw ?hc
  case hw => w_witness2
  k_fill
  refine Sea.walk (l := PySem.Challenge.rw_seamarks_k27_clashes_judged) rfl rfl (fun w h Y => Y) ?F
  case F =>
    intro w mg fa h KX G hmg
    refine' Sea.all_mk KX G hmg ?a1 ?l1 ?c1 ?k1 ?a2 ?l2 ?c2 ?k2 ?a3 ?l3 ?c3 ?k3 ?a4 ?l4 ?c4 ?k4 ?a5 ?l5 ?c5 ?k5 ?a6 ?l6 ?c6 ?k6 ?a7 ?l7 ?c7 ?k7 ?a8 ?l8 ?c8 ?k8 ?a9 ?l9 ?c9 ?k9 ?a10 ?l10 ?c10 ?k10 ?a11 ?l11 ?c11 ?k11 ?a12 ?l12 ?c12 ?k12 ?a13 ?l13 ?c13 ?k13 ?a14 ?l14 ?c14 ?k14 ?a15 ?l15 ?c15 ?k15 ?a16 ?l16 ?c16 ?k16 ?a17 ?l17 ?c17 ?k17 ?a18 ?l18 ?c18 ?k18 ?a19 ?l19 ?c19 ?k19 ?a20 ?l20 ?c20 ?k20 ?a21 ?l21 ?c21 ?k21 ?a22 ?l22 ?c22 ?k22 ?a23 ?l23 ?c23 ?k23 ?a24 ?l24 ?c24 ?k24 ?a25 ?l25 ?c25 ?k25 ?a26 ?l26 ?c26 ?k26 ?a27 ?l27 ?c27 ?k27 ?a28 ?l28 ?c28 ?k28 ?a29 ?l29 ?c29 ?k29 ?a30 ?l30 ?c30 ?k30 ?a31 ?l31 ?c31 ?k31 ?a32 ?l32 ?c32 ?k32 ?a33 ?l33 ?c33 ?k33 ?a34 ?l34 ?c34 ?k34 ?a35 ?l35 ?c35 ?k35 ?a36 ?l36 ?c36 ?k36 ?a37 ?l37 ?c37 ?k37 ?a38 ?l38 ?c38 ?k38 ?a39 ?l39 ?c39 ?k39 ?a40 ?l40 ?c40 ?k40 ?a41 ?l41 ?c41 ?k41 ?z_abs ?z_all ?z_bool ?z_enumerate ?z_int ?z_isinstance ?z_len ?z_list ?z_min ?z_range ?z_sorted ?z_str ?z_tuple ?z_zip
    (case a1 => k_is)
    (case l1 => k_is)
    (case c1 => k_is)
    (case k1 => k_is)
    (case a2 => k_is)
    (case l2 => k_is)
    (case c2 => k_is)
    (case k2 => k_is)
    (case a3 => k_is)
    (case l3 => k_is)
    (case c3 => k_is)
    (case k3 => k_is)
    (case a4 => k_is)
    (case l4 => k_is)
    (case c4 => k_is)
    (case k4 => k_is)
    (case a5 => k_is)
    (case l5 => k_is)
    (case c5 => k_is)
    (case k5 => k_is)
    (case a6 => k_is)
    (case l6 => k_is)
    (case c6 => k_is)
    (case k6 => k_is)
    (case a7 => k_is)
    (case l7 => k_is)
    (case c7 => k_is)
    (case k7 => k_is)
    (case a8 => k_is)
    (case l8 => k_is)
    (case c8 => k_is)
    (case k8 => k_is)
    (case a9 => k_is)
    (case l9 => k_is)
    (case c9 => k_is)
    (case k9 => k_is)
    (case a10 => k_is)
    (case l10 => k_is)
    (case c10 => k_is)
    (case k10 => k_is)
    (case a11 => k_is)
    (case l11 => k_is)
    (case c11 => k_is)
    (case k11 => k_is)
    (case a12 => k_is)
    (case l12 => k_is)
    (case c12 => k_is)
    (case k12 => k_is)
    (case a13 => k_is)
    (case l13 => k_is)
    (case c13 => k_is)
    (case k13 => k_is)
    (case a14 => k_is)
    (case l14 => k_is)
    (case c14 => k_is)
    (case k14 => k_is)
    (case a15 => k_is)
    (case l15 => k_is)
    (case c15 => k_is)
    (case k15 => k_is)
    (case a16 => k_is)
    (case l16 => k_is)
    (case c16 => k_is)
    (case k16 => k_is)
    (case a17 => k_is)
    (case l17 => k_is)
    (case c17 => k_is)
    (case k17 => k_is)
    (case a18 => k_is)
    (case l18 => k_is)
    (case c18 => k_is)
    (case k18 => k_is)
    (case a19 => k_is)
    (case l19 => k_is)
    (case c19 => k_is)
    (case k19 => k_is)
    (case a20 => k_is)
    (case l20 => k_is)
    (case c20 => k_is)
    (case k20 => k_is)
    (case a21 => k_is)
    (case l21 => k_is)
    (case c21 => k_is)
    (case k21 => k_is)
    (case a22 => k_is)
    (case l22 => k_is)
    (case c22 => k_is)
    (case k22 => k_is)
    (case a23 => k_is)
    (case l23 => k_is)
    (case c23 => k_is)
    (case k23 => k_is)
    (case a24 => k_is)
    (case l24 => k_is)
    (case c24 => k_is)
    (case k24 => k_is)
    (case a25 => k_is)
    (case l25 => k_is)
    (case c25 => k_is)
    (case k25 => k_is)
    (case a26 => k_is)
    (case l26 => k_is)
    (case c26 => k_is)
    (case k26 => k_is)
    (case a27 => k_is)
    (case l27 => k_is)
    (case c27 => k_is)
    (case k27 => k_is)
    (case a28 => k_is)
    (case l28 => k_is)
    (case c28 => k_is)
    (case k28 => k_is)
    (case a29 => k_is)
    (case l29 => k_is)
    (case c29 => k_is)
    (case k29 => k_is)
    (case a30 => k_is)
    (case l30 => k_is)
    (case c30 => k_is)
    (case k30 => k_is)
    (case a31 => k_is)
    (case l31 => k_is)
    (case c31 => k_is)
    (case k31 => k_is)
    (case a32 => k_is)
    (case l32 => k_is)
    (case c32 => k_is)
    (case k32 => k_is)
    (case a33 => k_is)
    (case l33 => k_is)
    (case c33 => k_is)
    (case k33 => k_is)
    (case a34 => k_is)
    (case l34 => k_is)
    (case c34 => k_is)
    (case k34 => k_is)
    (case a35 => k_is)
    (case l35 => k_is)
    (case c35 => k_is)
    (case k35 => k_is)
    (case a36 => k_is)
    (case l36 => k_is)
    (case c36 => k_is)
    (case k36 => k_is)
    (case a37 => k_is)
    (case l37 => k_is)
    (case c37 => k_is)
    (case k37 => k_is)
    (case a38 => k_is)
    (case l38 => k_is)
    (case c38 => k_is)
    (case k38 => k_is)
    (case a39 => k_is)
    (case l39 => k_is)
    (case c39 => k_is)
    (case k39 => k_is)
    (case a40 => k_is)
    (case l40 => k_is)
    (case c40 => k_is)
    (case k40 => k_is)
    (case a41 => k_is)
    (case l41 => k_is)
    (case c41 => k_is)
    (case k41 => k_is)
    (case z_abs => k_is)
    (case z_all => k_is)
    (case z_bool => k_is)
    (case z_enumerate => k_is)
    (case z_int => k_is)
    (case z_isinstance => k_is)
    (case z_len => k_is)
    (case z_list => k_is)
    (case z_min => k_is)
    (case z_range => k_is)
    (case z_sorted => k_is)
    (case z_str => k_is)
    (case z_tuple => k_is)
    (case z_zip => k_is)
