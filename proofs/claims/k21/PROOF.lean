import PyProof.Rows.All
import Wide.All
import OpenK.AllK
import Wide.FinOn
import Lean
import PyProof.EqAt
import PyProof.EqKinds
import PyProof.TupleCall
import PyProof.ZipIter
import PyProof.Rows.ZipGen
import PyProof.EnumFor
import PyProof.EnumStmt
import KE.KSortTup
import KE.KDictList
import PySem.Challenge.RW_seamarks_k21_whole_no_fewer_disbelieved
set_option Elab.async false
set_option linter.all false
set_option maxRecDepth 100000
set_option maxHeartbeats 4000000
namespace L2
open PySem
def defArgs (s : Stmt) : Arguments := match s with
  | .FunctionDef _ a _ _ _ _ _ _ _ _ => a
  | _ => { posonlyargs := [], args := [], vararg := none, kwonlyargs := [], kw_defaults := [], kwarg := none, defaults := [] }
def defBody (s : Stmt) : List Stmt := match s with
  | .FunctionDef _ _ b _ _ _ _ _ _ _ => b
  | _ => []
def defScope (s : Stmt) : Scope := match s with
  | .FunctionDef _ _ _ _ _ _ sc _ _ _ => sc
  | _ => { kind := .function, names := [], isGenerator := false, isCoroutine := false }
end L2
namespace Sea
open PySem L2
def top (i : Nat) : Stmt := PySem.Challenge.pw_seamarks_k21_whole_no_fewer_disbelieved.main.body.getD i (.Pass ⟨0, 0, 0, 0⟩)
abbrev s_p_common_factor : Stmt := top 1
abbrev s_p_lowest : Stmt := top 2
abbrev s_p_upright : Stmt := top 3
abbrev s_p_spot : Stmt := top 4
abbrev s_p_turn : Stmt := top 6
abbrev s_p_along : Stmt := top 7
abbrev s_p_beyond : Stmt := top 8
abbrev s_p_holds : Stmt := top 9
abbrev s_p_crossing : Stmt := top 10
abbrev s_p_in_water : Stmt := top 12
abbrev s_p_foot : Stmt := top 13
abbrev s_p_doubted : Stmt := top 15
abbrev s_p_places_to_try : Stmt := top 16
abbrev s_p_least_doubts : Stmt := top 17
abbrev s_p_choices : Stmt := top 18
abbrev s_L_power : Stmt := top 20
abbrev s_L_draws : Stmt := top 21
abbrev s_L_way : Stmt := top 22
abbrev s_L_side : Stmt := top 23
abbrev s_L_turned : Stmt := top 24
abbrev s_L_left_pair : Stmt := top 25
abbrev s_L_groups : Stmt := top 26
abbrev s_L_low : Stmt := top 27
abbrev s_L_spot_of : Stmt := top 28
abbrev s_L_meet : Stmt := top 29
abbrev s_L_has : Stmt := top 30
abbrev s_L_corners_of : Stmt := top 31
abbrev s_L_feet : Stmt := top 32
abbrev s_L_any_place : Stmt := top 33
abbrev s_L_same : Stmt := top 34
abbrev s_law : Stmt := top 35
noncomputable def qv : Program := { PySem.Challenge.pw_seamarks_k21_whole_no_fewer_disbelieved with main := { PySem.Challenge.pw_seamarks_k21_whole_no_fewer_disbelieved.main with body := [top 1, top 2, top 3, top 4, top 6, top 7, top 8, top 9, top 10, top 12, top 13, top 15, top 16, top 17, top 18, top 20, top 21, top 22, top 23, top 24, top 25, top 26, top 27, top 28, top 29, top 30, top 31, top 32, top 33, top 34, top 35] } }
noncomputable def kd (P : Params) (x : Str) (t : Nat) (v : Value) : DictEntry := ⟨PyData.keyHash P x, .str x t, v⟩
noncomputable def kc (l : List Value) : Obj := ⟨.type "code", none, .fields (List.toArray l), List.toArray []⟩
noncomputable abbrev kf (x : Str) (s : Stmt) (kV doc pm cd ct : Value) : Obj := ⟨.type "function", none, .func (PySem.W.fnOf x x (defArgs s) (defBody s) (defScope s) .none kV doc pm none cd ct), List.toArray []⟩
noncomputable def KK (P : Params) : PySem.W.Frag :=
  (nat_lit 3, ⟨.type "dict", none, .dict (List.toArray (kd P "__name__" 165 (.str "law_seamarks_k21_whole_no_fewer_disbelieved" 317) :: kd P "__doc__" 166 .none :: kd P "__package__" 167 .none :: kd P "__loader__" 168 (.builtin "__main__.__loader__#opaque") :: kd P "__spec__" 169 .none :: kd P "__annotations__" 170 (.ref 6) :: kd P "__builtins__" 171 (.ref 4) :: kd P "__file__" 173 (.str "/claim/cut.py" 172) :: kd P "__cached__" 174 .none :: kd P "common_factor" 199 (.ref 21) :: kd P "lowest" 205 (.ref 26) :: kd P "upright" 211 (.ref 31) :: kd P "spot" 220 (.ref 38) :: kd P "turn" 230 (.ref 45) :: kd P "along" 238 (.ref 52) :: kd P "beyond" 246 (.ref 59) :: kd P "holds" 254 (.ref 66) :: kd P "crossing" 265 (.ref 73) :: kd P "in_water" 276 (.ref 80) :: kd P "foot" 283 (.ref 87) :: kd P "doubted" 291 (.ref 92) :: kd P "places_to_try" 304 (.ref 99) :: kd P "least_doubts" 310 (.ref 104) :: kd P "choices" 316 (.ref 109) :: kd P "_law_power" 325 (.ref 116) :: kd P "_law_draws" 337 (.ref 123) :: kd P "_law_way" 348 (.ref 130) :: kd P "_law_side" 358 (.ref 137) :: kd P "_law_turned" 366 (.ref 144) :: kd P "_law_left_pair" 376 (.ref 151) :: kd P "_law_groups" 391 (.ref 158) :: kd P "_law_low" 399 (.ref 165) :: kd P "_law_spot_of" 409 (.ref 172) :: kd P "_law_meet" 418 (.ref 179) :: kd P "_law_has" 424 (.ref 184) :: kd P "_law_corners_of" 436 (.ref 191) :: kd P "_law_feet" 442 (.ref 196) :: kd P "_law_any_place" 450 (.ref 203) :: kd P "_law_same" 456 (.ref 208) :: kd P "law" 462 (.ref 213) :: [])) 40, List.toArray []⟩) ::
  (nat_lit 20, kc ((.str "common_factor" 189) :: ((.str "common_factor" 190) :: ((.str "/claim/cut.py" 191) :: ((.int 2 0) :: ((.int 1 0) :: ((.int 0 0) :: ((.int 0 0) :: ((.int 3 0) :: ((.ref 15) :: ((.bool true) :: ((.int 181 0) :: ((.ref 16) :: (.none :: ((.ref 17) :: ((.ref 18) :: ((.ref 19) :: ((.int 197 0) :: ((.int 2 0) :: ((.str "/claim/cut.py" 198) :: [])))))))))))))))))))) ::
  (nat_lit 21, kf "common_factor" s_p_common_factor .none .none (.str "seamarks.parts" 187) (.ref 20) .none) ::
  (nat_lit 25, kc ((.str "lowest" 200) :: ((.str "lowest" 201) :: ((.str "/claim/cut.py" 202) :: ((.int 11 0) :: ((.int 1 0) :: ((.int 0 0) :: ((.int 0 0) :: ((.int 3 0) :: ((.ref 22) :: ((.bool true) :: ((.int 181 0) :: ((.ref 23) :: (.none :: (.none :: (.none :: ((.ref 24) :: ((.int 203 0) :: ((.int 11 0) :: ((.str "/claim/cut.py" 204) :: [])))))))))))))))))))) ::
  (nat_lit 26, kf "lowest" s_p_lowest .none .none (.str "seamarks.parts" 187) (.ref 25) .none) ::
  (nat_lit 30, kc ((.str "upright" 206) :: ((.str "upright" 207) :: ((.str "/claim/cut.py" 208) :: ((.int 14 0) :: ((.int 1 0) :: ((.int 0 0) :: ((.int 0 0) :: ((.int 3 0) :: ((.ref 27) :: ((.bool true) :: ((.int 181 0) :: ((.ref 28) :: (.none :: (.none :: (.none :: ((.ref 29) :: ((.int 209 0) :: ((.int 14 0) :: ((.str "/claim/cut.py" 210) :: [])))))))))))))))))))) ::
  (nat_lit 31, kf "upright" s_p_upright .none .none (.str "seamarks.parts" 187) (.ref 30) .none) ::
  (nat_lit 37, kc ((.str "spot" 212) :: ((.str "spot" 213) :: ((.str "/claim/cut.py" 214) :: ((.int 18 0) :: ((.int 3 0) :: ((.int 0 0) :: ((.int 0 0) :: ((.int 3 0) :: ((.ref 32) :: ((.bool true) :: ((.int 181 0) :: ((.ref 33) :: (.none :: ((.ref 34) :: ((.ref 35) :: ((.ref 36) :: ((.int 218 0) :: ((.int 18 0) :: ((.str "/claim/cut.py" 219) :: [])))))))))))))))))))) ::
  (nat_lit 38, kf "spot" s_p_spot .none .none (.str "seamarks.parts" 187) (.ref 37) .none) ::
  (nat_lit 44, kc ((.str "turn" 223) :: ((.str "turn" 224) :: ((.str "/claim/cut.py" 225) :: ((.int 21 0) :: ((.int 2 0) :: ((.int 0 0) :: ((.int 0 0) :: ((.int 3 0) :: ((.ref 39) :: ((.bool true) :: ((.int 181 0) :: ((.ref 40) :: (.none :: ((.ref 41) :: ((.ref 42) :: ((.ref 43) :: ((.int 228 0) :: ((.int 21 0) :: ((.str "/claim/cut.py" 229) :: [])))))))))))))))))))) ::
  (nat_lit 45, kf "turn" s_p_turn .none .none (.str "seamarks.sides" 221) (.ref 44) .none) ::
  (nat_lit 51, kc ((.str "along" 231) :: ((.str "along" 232) :: ((.str "/claim/cut.py" 233) :: ((.int 23 0) :: ((.int 2 0) :: ((.int 0 0) :: ((.int 0 0) :: ((.int 3 0) :: ((.ref 46) :: ((.bool true) :: ((.int 181 0) :: ((.ref 47) :: (.none :: ((.ref 48) :: ((.ref 49) :: ((.ref 50) :: ((.int 236 0) :: ((.int 23 0) :: ((.str "/claim/cut.py" 237) :: [])))))))))))))))))))) ::
  (nat_lit 52, kf "along" s_p_along .none .none (.str "seamarks.sides" 221) (.ref 51) .none) ::
  (nat_lit 58, kc ((.str "beyond" 239) :: ((.str "beyond" 240) :: ((.str "/claim/cut.py" 241) :: ((.int 25 0) :: ((.int 2 0) :: ((.int 0 0) :: ((.int 0 0) :: ((.int 3 0) :: ((.ref 53) :: ((.bool true) :: ((.int 181 0) :: ((.ref 54) :: (.none :: ((.ref 55) :: ((.ref 56) :: ((.ref 57) :: ((.int 244 0) :: ((.int 25 0) :: ((.str "/claim/cut.py" 245) :: [])))))))))))))))))))) ::
  (nat_lit 59, kf "beyond" s_p_beyond .none .none (.str "seamarks.sides" 221) (.ref 58) .none) ::
  (nat_lit 65, kc ((.str "holds" 247) :: ((.str "holds" 248) :: ((.str "/claim/cut.py" 249) :: ((.int 27 0) :: ((.int 2 0) :: ((.int 0 0) :: ((.int 0 0) :: ((.int 3 0) :: ((.ref 60) :: ((.bool true) :: ((.int 181 0) :: ((.ref 61) :: (.none :: ((.ref 62) :: ((.ref 63) :: ((.ref 64) :: ((.int 252 0) :: ((.int 27 0) :: ((.str "/claim/cut.py" 253) :: [])))))))))))))))))))) ::
  (nat_lit 66, kf "holds" s_p_holds .none .none (.str "seamarks.sides" 221) (.ref 65) .none) ::
  (nat_lit 72, kc ((.str "crossing" 255) :: ((.str "crossing" 256) :: ((.str "/claim/cut.py" 257) :: ((.int 29 0) :: ((.int 2 0) :: ((.int 0 0) :: ((.int 0 0) :: ((.int 3 0) :: ((.ref 67) :: ((.bool true) :: ((.int 181 0) :: ((.ref 68) :: (.none :: ((.ref 69) :: ((.ref 70) :: ((.ref 71) :: ((.int 263 0) :: ((.int 29 0) :: ((.str "/claim/cut.py" 264) :: [])))))))))))))))))))) ::
  (nat_lit 73, kf "crossing" s_p_crossing .none .none (.str "seamarks.sides" 221) (.ref 72) .none) ::
  (nat_lit 79, kc ((.str "in_water" 268) :: ((.str "in_water" 269) :: ((.str "/claim/cut.py" 270) :: ((.int 37 0) :: ((.int 2 0) :: ((.int 0 0) :: ((.int 0 0) :: ((.int 3 0) :: ((.ref 74) :: ((.bool true) :: ((.int 181 0) :: ((.ref 75) :: (.none :: ((.ref 76) :: ((.ref 77) :: ((.ref 78) :: ((.int 274 0) :: ((.int 37 0) :: ((.str "/claim/cut.py" 275) :: [])))))))))))))))))))) ::
  (nat_lit 80, kf "in_water" s_p_in_water .none .none (.str "seamarks.water" 266) (.ref 79) .none) ::
  (nat_lit 86, kc ((.str "foot" 277) :: ((.str "foot" 278) :: ((.str "/claim/cut.py" 279) :: ((.int 42 0) :: ((.int 1 0) :: ((.int 0 0) :: ((.int 0 0) :: ((.int 3 0) :: ((.ref 81) :: ((.bool true) :: ((.int 181 0) :: ((.ref 82) :: (.none :: ((.ref 83) :: ((.ref 84) :: ((.ref 85) :: ((.int 281 0) :: ((.int 42 0) :: ((.str "/claim/cut.py" 282) :: [])))))))))))))))))))) ::
  (nat_lit 87, kf "foot" s_p_foot .none .none (.str "seamarks.water" 266) (.ref 86) .none) ::
  (nat_lit 91, kc ((.str "doubted" 286) :: ((.str "doubted" 287) :: ((.str "/claim/cut.py" 288) :: ((.int 45 0) :: ((.int 2 0) :: ((.int 0 0) :: ((.int 0 0) :: ((.int 3 0) :: ((.ref 88) :: ((.bool true) :: ((.int 181 0) :: ((.ref 89) :: (.none :: (.none :: (.none :: ((.ref 90) :: ((.int 289 0) :: ((.int 45 0) :: ((.str "/claim/cut.py" 290) :: [])))))))))))))))))))) ::
  (nat_lit 92, kf "doubted" s_p_doubted .none .none (.str "seamarks.trust" 284) (.ref 91) .none) ::
  (nat_lit 98, kc ((.str "places_to_try" 292) :: ((.str "places_to_try" 293) :: ((.str "/claim/cut.py" 294) :: ((.int 47 0) :: ((.int 1 0) :: ((.int 0 0) :: ((.int 0 0) :: ((.int 3 0) :: ((.ref 93) :: ((.bool true) :: ((.int 181 0) :: ((.ref 94) :: (.none :: ((.ref 95) :: ((.ref 96) :: ((.ref 97) :: ((.int 302 0) :: ((.int 47 0) :: ((.str "/claim/cut.py" 303) :: [])))))))))))))))))))) ::
  (nat_lit 99, kf "places_to_try" s_p_places_to_try .none .none (.str "seamarks.trust" 284) (.ref 98) .none) ::
  (nat_lit 103, kc ((.str "least_doubts" 305) :: ((.str "least_doubts" 306) :: ((.str "/claim/cut.py" 307) :: ((.int 59 0) :: ((.int 1 0) :: ((.int 0 0) :: ((.int 0 0) :: ((.int 3 0) :: ((.ref 100) :: ((.bool true) :: ((.int 181 0) :: ((.ref 101) :: (.none :: (.none :: (.none :: ((.ref 102) :: ((.int 308 0) :: ((.int 59 0) :: ((.str "/claim/cut.py" 309) :: [])))))))))))))))))))) ::
  (nat_lit 104, kf "least_doubts" s_p_least_doubts .none .none (.str "seamarks.trust" 284) (.ref 103) .none) ::
  (nat_lit 108, kc ((.str "choices" 311) :: ((.str "choices" 312) :: ((.str "/claim/cut.py" 313) :: ((.int 69 0) :: ((.int 1 0) :: ((.int 0 0) :: ((.int 0 0) :: ((.int 3 0) :: ((.ref 105) :: ((.bool true) :: ((.int 181 0) :: ((.ref 106) :: (.none :: (.none :: (.none :: ((.ref 107) :: ((.int 314 0) :: ((.int 69 0) :: ((.str "/claim/cut.py" 315) :: [])))))))))))))))))))) ::
  (nat_lit 109, kf "choices" s_p_choices .none .none (.str "seamarks.trust" 284) (.ref 108) .none) ::
  (nat_lit 115, kc ((.str "_law_power" 319) :: ((.str "_law_power" 320) :: ((.str "/claim/cut.py" 321) :: ((.int 72 0) :: ((.int 1 0) :: ((.int 0 0) :: ((.int 0 0) :: ((.int 3 0) :: ((.ref 110) :: ((.bool true) :: ((.int 181 0) :: ((.ref 111) :: (.none :: ((.ref 112) :: ((.ref 113) :: ((.ref 114) :: ((.int 323 0) :: ((.int 72 0) :: ((.str "/claim/cut.py" 324) :: [])))))))))))))))))))) ::
  (nat_lit 116, kf "_law_power" s_L_power .none .none (.str "law_seamarks_k21_whole_no_fewer_disbelieved" 317) (.ref 115) .none) ::
  (nat_lit 122, kc ((.str "_law_draws" 326) :: ((.str "_law_draws" 327) :: ((.str "/claim/cut.py" 328) :: ((.int 74 0) :: ((.int 2 0) :: ((.int 0 0) :: ((.int 0 0) :: ((.int 3 0) :: ((.ref 117) :: ((.bool true) :: ((.int 181 0) :: ((.ref 118) :: (.none :: ((.ref 119) :: ((.ref 120) :: ((.ref 121) :: ((.int 335 0) :: ((.int 74 0) :: ((.str "/claim/cut.py" 336) :: [])))))))))))))))))))) ::
  (nat_lit 123, kf "_law_draws" s_L_draws .none .none (.str "law_seamarks_k21_whole_no_fewer_disbelieved" 317) (.ref 122) .none) ::
  (nat_lit 129, kc ((.str "_law_way" 338) :: ((.str "_law_way" 339) :: ((.str "/claim/cut.py" 340) :: ((.int 90 0) :: ((.int 3 0) :: ((.int 0 0) :: ((.int 0 0) :: ((.int 3 0) :: ((.ref 124) :: ((.bool true) :: ((.int 181 0) :: ((.ref 125) :: (.none :: ((.ref 126) :: ((.ref 127) :: ((.ref 128) :: ((.int 346 0) :: ((.int 90 0) :: ((.str "/claim/cut.py" 347) :: [])))))))))))))))))))) ::
  (nat_lit 130, kf "_law_way" s_L_way .none .none (.str "law_seamarks_k21_whole_no_fewer_disbelieved" 317) (.ref 129) .none) ::
  (nat_lit 136, kc ((.str "_law_side" 349) :: ((.str "_law_side" 350) :: ((.str "/claim/cut.py" 351) :: ((.int 96 0) :: ((.int 1 0) :: ((.int 0 0) :: ((.int 0 0) :: ((.int 3 0) :: ((.ref 131) :: ((.bool true) :: ((.int 181 0) :: ((.ref 132) :: (.none :: ((.ref 133) :: ((.ref 134) :: ((.ref 135) :: ((.int 356 0) :: ((.int 96 0) :: ((.str "/claim/cut.py" 357) :: [])))))))))))))))))))) ::
  (nat_lit 137, kf "_law_side" s_L_side .none .none (.str "law_seamarks_k21_whole_no_fewer_disbelieved" 317) (.ref 136) .none) ::
  (nat_lit 143, kc ((.str "_law_turned" 359) :: ((.str "_law_turned" 360) :: ((.str "/claim/cut.py" 361) :: ((.int 106 0) :: ((.int 2 0) :: ((.int 0 0) :: ((.int 0 0) :: ((.int 3 0) :: ((.ref 138) :: ((.bool true) :: ((.int 181 0) :: ((.ref 139) :: (.none :: ((.ref 140) :: ((.ref 141) :: ((.ref 142) :: ((.int 364 0) :: ((.int 106 0) :: ((.str "/claim/cut.py" 365) :: [])))))))))))))))))))) ::
  (nat_lit 144, kf "_law_turned" s_L_turned .none .none (.str "law_seamarks_k21_whole_no_fewer_disbelieved" 317) (.ref 143) .none) ::
  (nat_lit 150, kc ((.str "_law_left_pair" 367) :: ((.str "_law_left_pair" 368) :: ((.str "/claim/cut.py" 369) :: ((.int 108 0) :: ((.int 2 0) :: ((.int 0 0) :: ((.int 0 0) :: ((.int 3 0) :: ((.ref 145) :: ((.bool true) :: ((.int 181 0) :: ((.ref 146) :: (.none :: ((.ref 147) :: ((.ref 148) :: ((.ref 149) :: ((.int 374 0) :: ((.int 108 0) :: ((.str "/claim/cut.py" 375) :: [])))))))))))))))))))) ::
  (nat_lit 151, kf "_law_left_pair" s_L_left_pair .none .none (.str "law_seamarks_k21_whole_no_fewer_disbelieved" 317) (.ref 150) .none) ::
  (nat_lit 157, kc ((.str "_law_groups" 377) :: ((.str "_law_groups" 378) :: ((.str "/claim/cut.py" 379) :: ((.int 118 0) :: ((.int 2 0) :: ((.int 0 0) :: ((.int 0 0) :: ((.int 3 0) :: ((.ref 152) :: ((.bool true) :: ((.int 181 0) :: ((.ref 153) :: (.none :: ((.ref 154) :: ((.ref 155) :: ((.ref 156) :: ((.int 389 0) :: ((.int 118 0) :: ((.str "/claim/cut.py" 390) :: [])))))))))))))))))))) ::
  (nat_lit 158, kf "_law_groups" s_L_groups .none .none (.str "law_seamarks_k21_whole_no_fewer_disbelieved" 317) (.ref 157) .none) ::
  (nat_lit 164, kc ((.str "_law_low" 392) :: ((.str "_law_low" 393) :: ((.str "/claim/cut.py" 394) :: ((.int 134 0) :: ((.int 2 0) :: ((.int 0 0) :: ((.int 0 0) :: ((.int 3 0) :: ((.ref 159) :: ((.bool true) :: ((.int 181 0) :: ((.ref 160) :: (.none :: ((.ref 161) :: ((.ref 162) :: ((.ref 163) :: ((.int 397 0) :: ((.int 134 0) :: ((.str "/claim/cut.py" 398) :: [])))))))))))))))))))) ::
  (nat_lit 165, kf "_law_low" s_L_low .none .none (.str "law_seamarks_k21_whole_no_fewer_disbelieved" 317) (.ref 164) .none) ::
  (nat_lit 171, kc ((.str "_law_spot_of" 400) :: ((.str "_law_spot_of" 401) :: ((.str "/claim/cut.py" 402) :: ((.int 140 0) :: ((.int 3 0) :: ((.int 0 0) :: ((.int 0 0) :: ((.int 3 0) :: ((.ref 166) :: ((.bool true) :: ((.int 181 0) :: ((.ref 167) :: (.none :: ((.ref 168) :: ((.ref 169) :: ((.ref 170) :: ((.int 407 0) :: ((.int 140 0) :: ((.str "/claim/cut.py" 408) :: [])))))))))))))))))))) ::
  (nat_lit 172, kf "_law_spot_of" s_L_spot_of .none .none (.str "law_seamarks_k21_whole_no_fewer_disbelieved" 317) (.ref 171) .none) ::
  (nat_lit 178, kc ((.str "_law_meet" 410) :: ((.str "_law_meet" 411) :: ((.str "/claim/cut.py" 412) :: ((.int 145 0) :: ((.int 2 0) :: ((.int 0 0) :: ((.int 0 0) :: ((.int 3 0) :: ((.ref 173) :: ((.bool true) :: ((.int 181 0) :: ((.ref 174) :: (.none :: ((.ref 175) :: ((.ref 176) :: ((.ref 177) :: ((.int 416 0) :: ((.int 145 0) :: ((.str "/claim/cut.py" 417) :: [])))))))))))))))))))) ::
  (nat_lit 179, kf "_law_meet" s_L_meet .none .none (.str "law_seamarks_k21_whole_no_fewer_disbelieved" 317) (.ref 178) .none) ::
  (nat_lit 183, kc ((.str "_law_has" 419) :: ((.str "_law_has" 420) :: ((.str "/claim/cut.py" 421) :: ((.int 150 0) :: ((.int 2 0) :: ((.int 0 0) :: ((.int 0 0) :: ((.int 3 0) :: ((.ref 180) :: ((.bool true) :: ((.int 181 0) :: ((.ref 181) :: (.none :: (.none :: (.none :: ((.ref 182) :: ((.int 422 0) :: ((.int 150 0) :: ((.str "/claim/cut.py" 423) :: [])))))))))))))))))))) ::
  (nat_lit 184, kf "_law_has" s_L_has .none .none (.str "law_seamarks_k21_whole_no_fewer_disbelieved" 317) (.ref 183) .none) ::
  (nat_lit 190, kc ((.str "_law_corners_of" 425) :: ((.str "_law_corners_of" 426) :: ((.str "/claim/cut.py" 427) :: ((.int 153 0) :: ((.int 1 0) :: ((.int 0 0) :: ((.int 0 0) :: ((.int 3 0) :: ((.ref 185) :: ((.bool true) :: ((.int 181 0) :: ((.ref 186) :: (.none :: ((.ref 187) :: ((.ref 188) :: ((.ref 189) :: ((.int 434 0) :: ((.int 153 0) :: ((.str "/claim/cut.py" 435) :: [])))))))))))))))))))) ::
  (nat_lit 191, kf "_law_corners_of" s_L_corners_of .none .none (.str "law_seamarks_k21_whole_no_fewer_disbelieved" 317) (.ref 190) .none) ::
  (nat_lit 195, kc ((.str "_law_feet" 437) :: ((.str "_law_feet" 438) :: ((.str "/claim/cut.py" 439) :: ((.int 161 0) :: ((.int 1 0) :: ((.int 0 0) :: ((.int 0 0) :: ((.int 3 0) :: ((.ref 192) :: ((.bool true) :: ((.int 181 0) :: ((.ref 193) :: (.none :: (.none :: (.none :: ((.ref 194) :: ((.int 440 0) :: ((.int 161 0) :: ((.str "/claim/cut.py" 441) :: [])))))))))))))))))))) ::
  (nat_lit 196, kf "_law_feet" s_L_feet .none .none (.str "law_seamarks_k21_whole_no_fewer_disbelieved" 317) (.ref 195) .none) ::
  (nat_lit 202, kc ((.str "_law_any_place" 443) :: ((.str "_law_any_place" 444) :: ((.str "/claim/cut.py" 445) :: ((.int 163 0) :: ((.int 1 0) :: ((.int 0 0) :: ((.int 0 0) :: ((.int 3 0) :: ((.ref 197) :: ((.bool true) :: ((.int 181 0) :: ((.ref 198) :: (.none :: ((.ref 199) :: ((.ref 200) :: ((.ref 201) :: ((.int 448 0) :: ((.int 163 0) :: ((.str "/claim/cut.py" 449) :: [])))))))))))))))))))) ::
  (nat_lit 203, kf "_law_any_place" s_L_any_place .none .none (.str "law_seamarks_k21_whole_no_fewer_disbelieved" 317) (.ref 202) .none) ::
  (nat_lit 207, kc ((.str "_law_same" 451) :: ((.str "_law_same" 452) :: ((.str "/claim/cut.py" 453) :: ((.int 168 0) :: ((.int 2 0) :: ((.int 0 0) :: ((.int 0 0) :: ((.int 3 0) :: ((.ref 204) :: ((.bool true) :: ((.int 181 0) :: ((.ref 205) :: (.none :: (.none :: (.none :: ((.ref 206) :: ((.int 454 0) :: ((.int 168 0) :: ((.str "/claim/cut.py" 455) :: [])))))))))))))))))))) ::
  (nat_lit 208, kf "_law_same" s_L_same .none .none (.str "law_seamarks_k21_whole_no_fewer_disbelieved" 317) (.ref 207) .none) ::
  (nat_lit 212, kc ((.str "law" 457) :: ((.str "law" 458) :: ((.str "/claim/cut.py" 459) :: ((.int 176 0) :: ((.int 1 0) :: ((.int 0 0) :: ((.int 0 0) :: ((.int 3 0) :: ((.ref 209) :: ((.bool true) :: ((.int 181 0) :: ((.ref 210) :: (.none :: (.none :: (.none :: ((.ref 211) :: ((.int 460 0) :: ((.int 176 0) :: ((.str "/claim/cut.py" 461) :: [])))))))))))))))))))) ::
  (nat_lit 213, kf "law" s_law .none .none (.str "law_seamarks_k21_whole_no_fewer_disbelieved" 317) (.ref 212) .none) :: []
noncomputable def kas : List Nat := nat_lit 3 :: nat_lit 20 :: nat_lit 21 :: nat_lit 25 :: nat_lit 26 :: nat_lit 30 :: nat_lit 31 :: nat_lit 37 :: nat_lit 38 :: nat_lit 44 :: nat_lit 45 :: nat_lit 51 :: nat_lit 52 :: nat_lit 58 :: nat_lit 59 :: nat_lit 65 :: nat_lit 66 :: nat_lit 72 :: nat_lit 73 :: nat_lit 79 :: nat_lit 80 :: nat_lit 86 :: nat_lit 87 :: nat_lit 91 :: nat_lit 92 :: nat_lit 98 :: nat_lit 99 :: nat_lit 103 :: nat_lit 104 :: nat_lit 108 :: nat_lit 109 :: nat_lit 115 :: nat_lit 116 :: nat_lit 122 :: nat_lit 123 :: nat_lit 129 :: nat_lit 130 :: nat_lit 136 :: nat_lit 137 :: nat_lit 143 :: nat_lit 144 :: nat_lit 150 :: nat_lit 151 :: nat_lit 157 :: nat_lit 158 :: nat_lit 164 :: nat_lit 165 :: nat_lit 171 :: nat_lit 172 :: nat_lit 178 :: nat_lit 179 :: nat_lit 183 :: nat_lit 184 :: nat_lit 190 :: nat_lit 191 :: nat_lit 195 :: nat_lit 196 :: nat_lit 202 :: nat_lit 203 :: nat_lit 207 :: nat_lit 208 :: nat_lit 212 :: nat_lit 213 :: []
theorem kas_ok : ∀ P : Params, kas = (KK P).map (·.1) := fun _ => by kernel_rfl
set_option maxHeartbeats 0 in
theorem said_ok : PySem.Challenge.rw_seamarks_k21_whole_no_fewer_disbelieved.wellSaid = true := by kernel_rfl
set_option maxHeartbeats 0 in
open PySem.W in
theorem left_ok : LeftO PySem.Challenge.rw_seamarks_k21_whole_no_fewer_disbelieved.row.prog qv [] (fun s => xlAt qv [] s && recOk (RowW.records (OpenRow.toRowW PySem.Challenge.rw_seamarks_k21_whole_no_fewer_disbelieved.row)) s)
    (fun s => kas.map s.heap.get?) (fun w => (KK w.params).map fun p => some p.2) 9000 := by
  unfold LeftO
  rw [Fast.te4187177175401517315, Fast.te5923862056798008813, Fast.te2368527892694137696, Fast.te14364793385576792824]
  intro w
  kernel_rfl
end Sea
-- BASE
namespace L2
open PySem PySem.Spec PyProof.Rows

abbrev Key := Sum Int Str
def keyIs : Key → Value → Bool
  | .inl k, v => Value.isInt k v
  | .inr x, v => Value.isStrOf x v
def keyH (w : World) : Key → Int
  | .inl k => hashInt k
  | .inr x => hashStr w x
theorem keyIs_shape : ∀ {k : Key} {v : Value}, keyIs k v = true → (∃ i t, k = Sum.inl i ∧ v = Value.int i t) ∨ (∃ x t, k = Sum.inr x ∧ v = Value.str x t)
  | .inl i, v, h => by
    obtain ⟨t, e⟩ := Value.isInt_shape (k := i) (v := v) h
    exact .inl ⟨i, t, rfl, e⟩
  | .inr x, v, h => by
    obtain ⟨t, e⟩ := Value.isStrOf_shape (x := x) (v := v) h
    exact .inr ⟨x, t, rfl, e⟩
theorem keyIs_int (i : Int) (t : Tok) : keyIs (.inl i) (.int i t) = true := by simp [keyIs, Value.isInt]
theorem keyIs_str (x : Str) (t : Tok) : keyIs (.inr x) (.str x t) = true := by simp [keyIs, Value.isStrOf]
theorem key_ll (a b : Int) : decide ((Sum.inl a : Key) = Sum.inl b) = (a == b) := by
  by_cases e : a = b
  · subst e; simp
  · have h : ¬ (Sum.inl a : Key) = Sum.inl b := fun q => e (Sum.inl.inj q)
    rw [decide_eq_false h]
    exact (beq_eq_false_iff_ne.mpr e).symm
theorem key_rr (a b : Str) : decide ((Sum.inr a : Key) = Sum.inr b) = decide (a = b) := by
  by_cases e : a = b
  · subst e; simp
  · have h : ¬ (Sum.inr a : Key) = Sum.inr b := fun q => e (Sum.inr.inj q)
    rw [decide_eq_false h, decide_eq_false e]
theorem key_lr (a : Int) (b : Str) : decide ((Sum.inl a : Key) = Sum.inr b) = false := decide_eq_false (fun q => nomatch q)
theorem key_rl (a : Str) (b : Int) : decide ((Sum.inr a : Key) = Sum.inl b) = false := decide_eq_false (fun q => nomatch q)

def mixKind (prog : Program) (w : World) : PySem.KeyKind prog w Key where
  is := keyIs
  hash := keyH w
  inj := fun v a b ha hb => by
    rcases keyIs_shape ha with ⟨i, t, rfl, rfl⟩ | ⟨x, t, rfl, rfl⟩
    · rcases keyIs_shape hb with ⟨j, u, rfl, e⟩ | ⟨y, u, rfl, e⟩
      · injection e with e1 _; rw [e1]
      · exact nomatch e
    · rcases keyIs_shape hb with ⟨j, u, rfl, e⟩ | ⟨y, u, rfl, e⟩
      · exact nomatch e
      · injection e with e1 _; rw [e1]
  byValue := fun k v h => by
    rcases keyIs_shape h with ⟨i, t, rfl, rfl⟩ | ⟨x, t, rfl, rfl⟩ <;> rfl
  pyHash := fun hv h => by
    rcases keyIs_shape hv with ⟨i, t, rfl, rfl⟩ | ⟨x, t, rfl, rfl⟩
    · exact wpAny_pyHash_int h
    · exact wpAny_pyHash_str h
  eqBool := fun hu hv h => by
    rcases keyIs_shape hu with ⟨i, t, rfl, rfl⟩ | ⟨x, t, rfl, rfl⟩
    · rcases keyIs_shape hv with ⟨j, u, rfl, rfl⟩ | ⟨y, u, rfl, rfl⟩
      · rw [key_ll] at h; exact wpAny_eqBool_int h
      · rw [key_lr] at h; exact SeqAt.EqAt.int_str i t y u _ _ _ _ h
    · rcases keyIs_shape hv with ⟨j, u, rfl, rfl⟩ | ⟨y, u, rfl, rfl⟩
      · rw [key_rl] at h; exact SeqAt.EqAt.str_int x t j u _ _ _ _ h
      · rw [key_rr] at h; exact wpAny_eqBool_str h
  «strs» := fun k x t v h => by
    rcases keyIs_shape h with ⟨i, u, rfl, e⟩ | ⟨y, u, rfl, e⟩
    · exact nomatch e
    · injection e with e1 _
      subst e1
      cases v <;> rfl

theorem mixKind_int (prog : Program) (w : World) (i : Int) (t : Tok) : (mixKind prog w).is (.inl i) (.int i t) = true := keyIs_int i t
theorem mixKind_str (prog : Program) (w : World) (x : Str) (t : Tok) : (mixKind prog w).is (.inr x) (.str x t) = true := keyIs_str x t
end L2

namespace L2
open PySem PySem.Spec PyProof.Rows

inductive V where
  | non | bl (b : Bool) | int (i : Int) | str (x : Str) | byt (b : Array UInt8) | flt (b : UInt64) | ref (a : Addr) | ty (n : String)
  deriving DecidableEq

def RelV : V → Value → Prop
  | .non, u => u = Value.none
  | .bl b, u => u = Value.bool b
  | .int i, u => ∃ t, u = Value.int i t
  | .str x, u => ∃ t, u = Value.str x t
  | .byt b, u => ∃ t, u = Value.bytes b t
  | .flt b, u => ∃ t, u = Value.float b t
  | .ref a, u => u = Value.ref a
  | .ty n, u => u = Value.type n

abbrev Vals : List V → List Value → Prop := Paired RelV
theorem Vals.length {xs : List V} {us : List Value} (r : Vals xs us) : xs.length = us.length := Paired.length r
theorem Vals.get : ∀ {xs : List V} {us : List Value} {i : Nat} {x : V}, Vals xs us → xs[i]? = some x → ∃ u, us[i]? = some u ∧ RelV x u
  | _, _, _, _, .nil, e => by simp at e
  | _, _, 0, _, .cons r _, e => by simp at e; subst e; exact ⟨_, rfl, r⟩
  | _, _, i + 1, x, .cons _ t, e => by
    obtain ⟨u, h1, h2⟩ := Vals.get (i := i) (x := x) t (by simpa using e)
    exact ⟨u, by simpa using h1, h2⟩
theorem Vals.set {x : V} {u : Value} (r : RelV x u) : ∀ {xs : List V} {us : List Value} (i : Nat), Vals xs us → Vals (xs.set i x) (us.set i u)
  | _, _, _, .nil => .nil
  | _, _, 0, .cons _ t => .cons r t
  | _, _, i + 1, .cons q t => .cons q (Vals.set r i t)
theorem Vals.append : ∀ {xs ys : List V} {us ws : List Value}, Vals xs us → Vals ys ws → Vals (xs ++ ys) (us ++ ws)
  | _, _, _, _, .nil, s => s
  | _, _, _, _, .cons r t, s => .cons r (Vals.append t s)
theorem Vals.take : ∀ {xs : List V} {us : List Value} (n : Nat), Vals xs us → Vals (xs.take n) (us.take n)
  | _, _, 0, _ => .nil
  | _, _, _ + 1, .nil => .nil
  | _, _, n + 1, .cons r t => .cons r (Vals.take n t)
theorem Vals.drop : ∀ {xs : List V} {us : List Value} (n : Nat), Vals xs us → Vals (xs.drop n) (us.drop n)
  | _, _, 0, r => r
  | _, _, _ + 1, .nil => .nil
  | _, _, n + 1, .cons _ t => Vals.drop n t
def RelO : Option V → Option Value → Prop
  | some v, some u => RelV v u
  | none, none => True
  | _, _ => False
def KV {κ : Type} : List (κ × V) → List (κ × Value) → Prop := Paired fun (p : κ × V) (q : κ × Value) => p.1 = q.1 ∧ RelV p.2 q.2

def kV : Key → V
  | .inl i => .int i
  | .inr x => .str x

inductive HO where
  | lst (xs : List V)
  | tup (xs : List V)
  | dK (kvs : List (Key × V)) | dT (kvs : List (List Key × V))
  | set (S : Int → Bool) (n : Nat)
  | ins (C dx : Addr) (fs : List (Str × V))
  | own (x : Addr)
  | xd (fs : List (Str × V))
  | met (f x : Addr)
  | rng (lo hi : Int)
  | frz (o : Obj) (u : HO)
  | tbl (ps : Array Value)
  | ext (φ : Heap → Prop)

abbrev Hp := Addr → Option HO
def upd (H : Hp) (a : Addr) (o : HO) : Hp := fun b => if b = a then some o else H b
theorem upd_same {H : Hp} {a : Addr} {o : HO} : upd H a o a = some o := by unfold upd; rw [if_pos rfl]
theorem upd_ne {H : Hp} {a b : Addr} {o : HO} (h : b ≠ a) : upd H a o b = H b := by unfold upd; rw [if_neg h]
theorem upd_upd {H : Hp} {a : Addr} {o u : HO} : upd (upd H a o) a u = upd H a u := by
  funext b; unfold upd; split <;> rfl
theorem ne_of {H : Hp} {a b : Addr} {o u : HO} (h : H a = some o) (h' : H b = some u) (d : o ≠ u) : a ≠ b := by
  intro e; subst e; rw [h] at h'; exact d (Option.some.inj h')
theorem ne_of_none {H : Hp} {a b : Addr} {o : HO} (h : H a = some o) (h' : H b = none) : a ≠ b := by
  intro e; subst e; rw [h] at h'; cases h'

section
variable (P : Program) (w : World)
def ObjOk (H : Hp) (h : Heap) (a : Addr) : HO → Prop
  | .lst xs => xs.length ≤ sizeLine ∧ ∃ (its : List Value) (n : Nat), Vals xs its ∧ h.get? a = some { cls := .type "list", data := .seq its.toArray n }
  | .tup xs => xs.length ≤ sizeLine ∧ ∃ its : List Value, Vals xs its ∧ IsTup h a its.toArray
  | .dK kvs => kvs.length ≤ sizeLine ∧ (a == sysModules) = false ∧ ∃ vs, KV kvs vs ∧ h.DictOf (mixKind P w) a vs
  | .dT kvs => kvs.length ≤ sizeLine ∧ (a == sysModules) = false ∧ ∃ xs : List (List Key × Addr × Value),
      Paired (fun (p : List Key × V) (q : List Key × Addr × Value) => p.1 = q.1 ∧ H q.2.1 = some (.tup (p.1.map kV)) ∧ RelV p.2 q.2.2) kvs xs ∧
      ∃ o es ep, h.get? a = some o ∧ o.ExactDict ∧ o.data = .dict es ep ∧ es.toList = xs.map (entryOfKey (tupleKind (mixKind P w))) ∧ (xs.map (·.1)).Nodup
  | .set S n => h.SetOf (intKind P w) a S n
  | .ins C dx fs => H dx = some (.own a) ∧ fs.length ≤ 1000 ∧ dx ≠ a ∧ h.get? a = some (PySem.W.instObj C dx) ∧
      ∃ mA, h.Ns1 dx mA ∧ (∀ f, RelO (fs.lookup f) (mA f)) ∧ PySem.Within mA (fs.map (·.1))
  | .own _ => ∃ o, h.get? a = some o
  | .xd fs => ∃ mA, h.Ns1 a mA ∧ ∀ f, RelO (fs.lookup f) (mA f)
  | .rng lo hi => ∃ t u v, h.get? a = some { cls := .type "range", data := .fields #[.int lo t, .int hi u, .int 1 v] }
  | .frz o u => h.get? a = some o ∧ ObjOk H h a u
  | .tbl ps => h.get? a = some { cls := .none, data := .fields ps }
  | .met f x => h.get? a = some (PySem.W.methodObj (.ref f) (.ref x))
  | .ext φ => φ h ∧ (∃ o, h.get? a = some o) ∧ ∀ h1 h2 : Heap, φ h1 → (∀ o, h1.get? a = some o → h2.get? a = some o) → φ h2
def HOk (H : Hp) (h : Heap) : Prop := ∀ a o, H a = some o → ObjOk P w H h a o
end

section
variable {P : Program} {w : World} {H H' : Hp} {h h' : Heap} {a : Addr} {o : HO}
theorem ObjOk.lt (x : ObjOk P w H h a o) : a < h.objs.size := by
  cases o with
  | lst xs => obtain ⟨_, _, _, _, e⟩ := x; exact Heap.lt_size e
  | tup xs => obtain ⟨_, _, _, p⟩ := x; exact p.lt
  | dK kvs => obtain ⟨_, _, _, _, o, _, _, e, _⟩ := x; exact Heap.lt_size e
  | dT kvs => obtain ⟨_, _, _, _, o, _, _, e, _⟩ := x; exact Heap.lt_size e
  | set S n => obtain ⟨o, _, _, _, e, _⟩ := x; exact Heap.lt_size e
  | ins C dx fs => obtain ⟨_, _, _, e, _⟩ := x; exact Heap.lt_size e
  | own y => obtain ⟨_, e⟩ := x; exact Heap.lt_size e
  | xd fs => obtain ⟨_, ⟨_, _, _, e, _⟩, _⟩ := x; exact Heap.lt_size e
  | rng lo hi => obtain ⟨_, _, _, e⟩ := x; exact Heap.lt_size e
  | frz ob u => obtain ⟨e, _⟩ := x; exact Heap.lt_size e
  | tbl ps => exact Heap.lt_size (show h.get? a = some _ from x)
  | met f y => exact Heap.lt_size (show h.get? a = some _ from x)
  | ext φ => obtain ⟨_, ⟨_, e⟩, _⟩ := x; exact Heap.lt_size e
theorem Paired.mapP {α β : Type} {F G : α → β → Prop} : ∀ {l₁ : List α} {l₂ : List β}, Paired F l₁ l₂ → (∀ a b, F a b → G a b) → Paired G l₁ l₂
  | _, _, .nil, _ => .nil
  | _, _, .cons r t, f => .cons (f _ _ r) (Paired.mapP t f)
theorem ObjOk.stay (x : ObjOk P w H h a o) (k : ∀ b u, (b = a ∨ H b = some (.own a)) → h.get? b = some u → h'.get? b = some u)
    (ho : ∀ b, H b = some (.own a) → H' b = some (.own a)) (ht : ∀ b xs, H b = some (.tup xs) → H' b = some (.tup xs)) : ObjOk P w H' h' a o := by
  induction o with
  | lst xs => obtain ⟨z, its, n, r, e⟩ := x; exact ⟨z, its, n, r, k _ _ (.inl rfl) e⟩
  | tup xs => obtain ⟨z, its, r, ob, e, c⟩ := x; exact ⟨z, its, r, ob, k _ _ (.inl rfl) e, c⟩
  | dK kvs => obtain ⟨z, y, vs, r, ob, es, ep, e, c⟩ := x; exact ⟨z, y, vs, r, ob, es, ep, k _ _ (.inl rfl) e, c⟩
  | dT kvs =>
    obtain ⟨z, y, xs, r, ob, es, ep, e, c⟩ := x
    exact ⟨z, y, xs, Paired.mapP r fun p q z => ⟨z.1, ht _ _ z.2.1, z.2.2⟩, ob, es, ep, k _ _ (.inl rfl) e, c⟩
  | set S n => obtain ⟨ob, es, ep, t, e, c⟩ := x; exact ⟨ob, es, ep, t, k _ _ (.inl rfl) e, c⟩
  | ins C dx fs =>
    obtain ⟨d, z, ne, e, mA, ⟨od, es, ep, e2, c⟩, r⟩ := x
    exact ⟨ho _ d, z, ne, k _ _ (.inl rfl) e, mA, ⟨od, es, ep, k _ _ (.inr d) e2, c⟩, r⟩
  | own y => obtain ⟨ob, e⟩ := x; exact ⟨ob, k _ _ (.inl rfl) e⟩
  | xd fs => obtain ⟨mA, ⟨od, es, ep, e, c⟩, r⟩ := x; exact ⟨mA, ⟨od, es, ep, k _ _ (.inl rfl) e, c⟩, r⟩
  | rng lo hi => obtain ⟨t, u, v, e⟩ := x; exact ⟨t, u, v, k _ _ (.inl rfl) e⟩
  | frz ob u ih => obtain ⟨e, q⟩ := x; exact ⟨k _ _ (.inl rfl) e, ih q⟩
  | tbl ps =>
    have e : h.get? a = some { cls := .none, data := .fields ps } := x
    show h'.get? a = some { cls := .none, data := .fields ps }
    exact k a _ (.inl rfl) e
  | met f y =>
    have e : h.get? a = some (PySem.W.methodObj (.ref f) (.ref y)) := x
    show h'.get? a = some (PySem.W.methodObj (.ref f) (.ref y))
    exact k a _ (.inl rfl) e
  | ext φ => obtain ⟨p, ⟨o, e⟩, st⟩ := x; exact ⟨st _ _ p fun o q => k _ _ (.inl rfl) q, ⟨o, k _ _ (.inl rfl) e⟩, st⟩
theorem HOk.lt (x : HOk P w H h) (e : H a = some o) : a < h.objs.size := (x a o e).lt
theorem HOk.fresh (x : HOk P w H h) (e : h.objs.size ≤ a) : H a = none := by
  cases q : H a with
  | none => rfl
  | some u => exact absurd (Nat.lt_of_lt_of_le (x.lt q) e) (Nat.lt_irrefl _)
theorem HOk.kept (x : HOk P w H h) (k : ∀ b u, h.get? b = some u → h'.get? b = some u) : HOk P w H h' := fun a o e =>
  (x a o e).stay (fun b u _ q => k b u q) (fun _ q => q) fun _ _ q => q
theorem HOk.laid (x : HOk P w H h) (k : ∀ b u, h.get? b = some u → h'.get? b = some u) (hp : h.objs.size ≤ a) (new : ObjOk P w (upd H a o) h' a o) : HOk P w (upd H a o) h' := fun b u e => by
  have hn := x.fresh hp
  by_cases hb : b = a
  · subst hb; rw [upd_same] at e; cases e; exact new
  · rw [upd_ne hb] at e
    exact (x b u e).stay (fun c v _ q => k c v q) (fun c q => by rw [upd_ne (ne_of_none q hn)]; exact q) fun c xs q => by rw [upd_ne (ne_of_none q hn)]; exact q
end

def Rd (H : Hp) (a : Addr) (u : HO) : Prop := H a = some u ∨ ∃ o, H a = some (.frz o u)
theorem Rd.ok {P : Program} {w : World} {H : Hp} {h : Heap} {a : Addr} {u : HO} (r : Rd H a u) (x : HOk P w H h) : ObjOk P w H h a u := by
  rcases r with r | ⟨o, r⟩
  · exact x a u r
  · obtain ⟨_, q⟩ := x a _ r
    exact q
def Mut : Option HO → Prop
  | some (.lst _) => True
  | some (.dK _) => True
  | some (.dT _) => True
  | some (.set _ _) => True
  | some (.ins _ _ _) => True
  | some (.ext _) => True
  | _ => False
section
variable {P : Program} {w : World} {H : Hp} {h h' : Heap} {x e : Addr} {o' : HO}
theorem HOk.write (ok : HOk P w H h) (mu : Mut (H x)) (he : e = x ∨ H e = some (.own x)) (k : ∀ b u, b ≠ e → h.get? b = some u → h'.get? b = some u) (heo : ∃ u, h'.get? e = some u)
    (new : ObjOk P w (upd H x o') h' x o') : HOk P w (upd H x o') h' := fun b u q => by
  have nown : ∀ c y, H c = some (.own y) → c ≠ x := fun c y r z => by subst z; rw [r] at mu; exact mu
  have ntup : ∀ c xs, H c = some (.tup xs) → c ≠ x := fun c xs r z => by subst z; rw [r] at mu; exact mu
  by_cases hb : b = x
  · subst hb; rw [upd_same] at q; cases q; exact new
  · rw [upd_ne hb] at q
    by_cases hbe : b = e
    · have q' : H b = some (.own x) := by
        rcases he with z | z
        · exact absurd (hbe.trans z) hb
        · rw [hbe]; exact z
      rw [q] at q'; cases q'
      obtain ⟨v, hv⟩ := heo
      exact ⟨v, by rw [hbe]; exact hv⟩
    · refine (ok b u q).stay (fun c v hc r => k c v ?_ r) (fun c r => by rw [upd_ne (nown c b r)]; exact r) fun c xs r => by rw [upd_ne (ntup c xs r)]; exact r
      rcases hc with rfl | hc
      · exact hbe
      · rintro rfl
        rcases he with z | z
        · exact nown c b hc z
        · rw [hc] at z; cases z; exact hb rfl
end

structure Un (fs ex : List Addr) (H H' : Hp) (h h' : Heap) : Prop where
  keep : ∀ b o, h.get? b = some o → H b = none → b ∉ fs → b ∉ ex → h'.get? b = some o
  slot : ∀ b o, h.get? b = some o → H b = none → b ∈ fs → b ∉ ex → ∃ sl, h'.get? b = some { o with slots := sl }
  free : ∀ b o, h.get? b = some o → H b = none → b ∉ ex → H' b = none
  there : ∀ b o, h.get? b = some o → b ∉ ex → ∃ o', h'.get? b = some o'
  tups : ∀ b xs, H b = some (.tup xs) → H' b = some (.tup xs)
  frzs : ∀ b o u, H b = some (.frz o u) → H' b = some (.frz o u)
  tbls : ∀ b ps, H b = some (.tbl ps) → ∃ more, H' b = some (.tbl (ps ++ more))
section
variable {fs fs' ex ex' : List Addr} {H H1 H2 : Hp} {h h1 h2 h' : Heap} {a x e : Addr} {o : HO}
theorem Un.any (u : Un fs ex H H1 h h1) {b : Addr} {ob : Obj} (q : h.get? b = some ob) (n : H b = none) (hx : b ∉ ex) : ∃ sl, h1.get? b = some { ob with slots := sl } := by
  by_cases hb : b ∈ fs
  · exact u.slot b ob q n hb hx
  · exact ⟨ob.slots, u.keep b ob q n hb hx⟩
theorem Un.kept (k : ∀ b u, h.get? b = some u → h'.get? b = some u) : Un fs ex H H h h' :=
  ⟨fun b ob q _ _ _ => k b ob q, fun b ob q _ _ _ => ⟨ob.slots, k b ob q⟩, fun _ _ _ n _ => n, fun b ob q _ => ⟨ob, k b ob q⟩, fun _ _ q => q, fun _ _ _ q => q, fun _ ps q => ⟨#[], by rw [q]; simp⟩⟩
theorem Un.refl : Un fs ex H H h h := Un.kept fun _ _ q => q
theorem Un.laid (k : ∀ b u, h.get? b = some u → h'.get? b = some u) (hp : h.objs.size ≤ a) (hn : H a = none) : Un fs ex H (upd H a o) h h' where
  keep := fun b u q _ _ _ => k b u q
  slot := fun b u q _ _ _ => ⟨u.slots, k b u q⟩
  free := fun b u q n _ => by rw [upd_ne (Nat.ne_of_lt (Nat.lt_of_lt_of_le (Heap.lt_size q) hp))]; exact n
  there := fun b u q _ => ⟨u, k b u q⟩
  tups := fun b xs q => by rw [upd_ne (ne_of_none q hn)]; exact q
  frzs := fun b u xs q => by rw [upd_ne (ne_of_none q hn)]; exact q
  tbls := fun b ps q => ⟨#[], by rw [upd_ne (ne_of_none q hn), q]; simp⟩
theorem Un.write (mu : Mut (H x)) (he : e = x ∨ H e = some (.own x)) (k : ∀ b u, b ≠ e → h.get? b = some u → h'.get? b = some u) (heo : ∃ u, h'.get? e = some u) : Un fs ex H (upd H x o) h h' := by
  have hx : ∀ b, H b = none → b ≠ x := fun b n z => by subst z; rw [n] at mu; exact mu
  have hb : ∀ b, H b = none → b ≠ e := fun b n z => by
    subst z
    rcases he with r | r
    · exact hx b n r
    · rw [n] at r; cases r
  have hm : ∀ b u, H b = some u → ¬ Mut (some u) → b ≠ x := fun b u q nm z => by subst z; rw [q] at mu; exact nm mu
  refine ⟨fun b u q n _ _ => k b u (hb b n) q, fun b u q n _ _ => ⟨u.slots, k b u (hb b n) q⟩, fun b u q n _ => by rw [upd_ne (hx b n)]; exact n, fun b u q _ => ?_,
    fun b xs q => by rw [upd_ne (hm b _ q fun z => z)]; exact q, fun b u xs q => by rw [upd_ne (hm b _ q fun z => z)]; exact q, fun b ps q => ⟨#[], by rw [upd_ne (hm b _ q fun z => z), q]; simp⟩⟩
  by_cases hbe : b = e
  · subst hbe; exact heo
  · exact ⟨u, k b u hbe q⟩
end

def trk (h : Heap) (H : Hp) : List Addr := (List.range h.objs.size).filter fun a => (H a).isSome
def hidT (h : Heap) (H : Hp) : Heap := PySem.W.hideAll h (trk h H)
theorem hidT_size (h : Heap) (H : Hp) : (hidT h H).objs.size = h.objs.size := PySem.W.hideAll_size _ _
theorem hidT_get {h : Heap} {H : Hp} {b : Addr} {o : Obj} (e : h.get? b = some o) (n : H b = none) : (hidT h H).get? b = some o :=
  PySem.W.hideAll_get _ e fun hm => by
    have q : (H b).isSome = true := (List.mem_filter.mp hm).2
    rw [n] at q; simp at q
theorem of_hidT {h : Heap} {H : Hp} {b : Addr} {o : Obj} (e : (hidT h H).get? b = some o) : h.get? b = some o ∧ H b = none := by
  have e' : h.get? b = some o := PySem.W.of_hideAll (trk h H) e
  refine ⟨e', ?_⟩
  cases q : H b with
  | none => rfl
  | some x =>
    have hm : b ∈ trk h H := List.mem_filter.mpr ⟨List.mem_range.mpr (Heap.lt_size e'), by simp [q]⟩
    have z : (hidT h H).get? b = none := PySem.W.hideAll_none (trk h H) hm
    rw [z] at e; cases e

end L2

namespace L2
open PySem PySem.Spec PyProof.Rows

structure Mod (K : PySem.W.Frag) (mg : Str → Option Value) (base : Heap) : Prop where
  kin : K.In base
  glob : base.Ns mainGlobals mg
  blt : ∃ mb, base.Ns builtinsNs mb ∧ ∀ x : Str, x ≠ "__name__" → mb x = bootBuiltins x
  nolimit : base.NoLimit

structure Cx where
  prog : Program
  w : World
  K : PySem.W.Frag
  mg : Str → Option Value
  base : Heap
  A : Around
  N : List Str
  s₀ : Shared
  H₀ : Hp
  env : Env
  outer : List Env
  stack : List Env
  ex : List Addr
  fn : Str → Bool
  calm : Bool
  pn : List (Addr × Obj)
  xe : Value → Shared → Prop
def frs (l : List Env) : List Addr := l.filterMap (·.frame)
abbrev Cx.fs (X : Cx) : List Addr := frs X.outer

def Vis (sc : Scope) (x : Str) : Prop := sc.names.lookup x = some .local ∨ sc.names.lookup x = some .cell ∨ sc.names.lookup x = some .free
def Loc (sc : Scope) (x : Str) : Prop := sc.names.lookup x = some .local ∨ sc.names.lookup x = some .cell
def Look (env : Env) (h : Heap) (m : Str → Option Value) (x : Str) (u : Value) : Prop :=
  (env.kindOf x = some .local ∧ m x = some u) ∨ ((env.kindOf x = some .cell ∨ env.kindOf x = some .free) ∧ ∃ c, env.cells.lookup x = some c ∧ h.IsCell c (some u))

structure Cx.Ok (X : Cx) : Prop where
  mod : Mod X.K X.mg X.base
  kind : X.env.scope.kind = .function
  glob : X.env.globals = mainGlobals
  blt : X.env.builtins = builtinsNs
  above : X.s₀.heap.objs.size ≤ X.env.locals
  inj : ∀ x y c, X.env.cells.lookup x = some c → X.env.cells.lookup y = some c → x = y
  has : ∀ x, (X.env.kindOf x = some .cell ∨ X.env.kindOf x = some .free) → ∃ c, X.env.cells.lookup x = some c
  cab : ∀ x c, X.fn x = true → X.env.cells.lookup x = some c → X.s₀.heap.objs.size ≤ c
  hd : X.calm = true → X.A.handled = none
  frames : X.A.frames = some X.stack
  stk : X.stack = X.outer ∨ (X.stack = X.env :: X.outer ∧ X.env.frame = some X.env.locals)
  exf : ∀ b ∈ X.ex, b ≠ X.env.locals ∧ ∀ x c, X.env.cells.lookup x = some c → c ≠ b
  bs : ∀ b o, X.base.get? b = some o → X.s₀.heap.get? b = some o ∧ X.H₀ b = none
  bsz : X.base.objs.size ≤ X.s₀.heap.objs.size
  noex : ∀ b o, X.base.get? b = some o → b ∉ X.ex
  exfs : ∀ b ∈ X.ex, b ∉ X.fs
  funs : X.s₀.heap.FunFrames X.base X.outer
  frf : ∀ b ∈ X.fs, X.H₀ b = none

structure Inv (X : Cx) (pins : List (Addr × Obj)) (σ : List (Option V)) (H : Hp) (s : Shared) : Prop where
  ok : X.Ok
  os : s.os = X.s₀.os
  bare : AllBare s.gens
  base : Un X.fs X.ex X.H₀ H X.s₀.heap s.heap
  loc : ∃ m, s.heap.Ns X.env.locals m ∧ ∀ (i : Nat) (x : Str) (v : V), X.N[i]? = some x → σ[i]? = some (some v) → Vis X.env.scope x → ∃ u, RelV v u ∧ Look X.env s.heap m x u
  cell : ∀ x c, X.env.cells.lookup x = some c → ∃ v, s.heap.IsCell c v
  free : H X.env.locals = none
  freeC : ∀ x c, X.env.cells.lookup x = some c → H c = none
  pin : ∀ p ∈ X.pn ++ pins, s.heap.get? p.1 = some p.2 ∧ H p.1 = none ∧ p.1 ≠ X.env.locals ∧ p.1 ∉ X.fs ∧ ∀ v, p.2.data ≠ .cell v
  hok : HOk X.prog X.w H s.heap
  len : σ.length = X.N.length

section
variable {X : Cx} {pins : List (Addr × Obj)} {σ : List (Option V)} {H H' : Hp} {s : Shared} {h' : Heap}

theorem Cx.Ok.nofr (ok : X.Ok) {b : Addr} {o : Obj} (e : X.base.get? b = some o) : b ∉ X.fs := fun hb => by
  have := (ok.funs.mem hb).1
  rw [e] at this; cases this
theorem Inv.bs (I : Inv X pins σ H s) : ∀ b o, X.base.get? b = some o → s.heap.get? b = some o ∧ H b = none := fun b o e =>
  ⟨I.base.keep b o (I.ok.bs b o e).1 (I.ok.bs b o e).2 (I.ok.nofr e) (I.ok.noex b o e), I.base.free b o (I.ok.bs b o e).1 (I.ok.bs b o e).2 (I.ok.noex b o e)⟩
theorem Inv.bk (I : Inv X pins σ H s) : ∀ b o, X.base.get? b = some o → s.heap.get? b = some o := fun b o e => (I.bs b o e).1
theorem Inv.mod (I : Inv X pins σ H s) : Mod X.K X.mg X.base := I.ok.mod
theorem Inv.kIn (I : Inv X pins σ H s) : X.K.In s.heap := I.ok.mod.kin.keeps I.bk
theorem Inv.lt (I : Inv X pins σ H s) : X.env.locals < s.heap.objs.size := let ⟨_, hn, _⟩ := I.loc; hn.lt
theorem Inv.sz (I : Inv X pins σ H s) : X.s₀.heap.objs.size ≤ s.heap.objs.size := Nat.le_trans I.ok.above (Nat.le_of_lt I.lt)
theorem Inv.nofs (I : Inv X pins σ H s) {a : Addr} (h : s.heap.objs.size ≤ a) : a ∉ X.fs := fun hb => by
  obtain ⟨_, o, ho, _⟩ := I.ok.funs.mem hb
  exact absurd (Nat.lt_of_lt_of_le (Heap.lt_size ho) (Nat.le_trans I.sz h)) (Nat.lt_irrefl _)
theorem Inv.cne (I : Inv X pins σ H s) : ∀ x c, X.env.cells.lookup x = some c → c ≠ X.env.locals := fun x c e z => by
  obtain ⟨v, o, ho, hd⟩ := I.cell x c e
  obtain ⟨m, ⟨o', es, ep, ho', hd', _⟩, _⟩ := I.loc
  rw [z, ho'] at ho; cases ho; rw [hd'] at hd; cases hd
theorem Inv.funs (I : Inv X pins σ H s) : s.heap.FunFrames X.base X.outer := by
  have all : ∀ (l : List Env), (∀ b ∈ frs l, b ∈ X.fs) → X.s₀.heap.FunFrames X.base l → s.heap.FunFrames X.base l := by
    intro l
    induction l with
    | nil => intro _ _; trivial
    | cons env r ih =>
      intro hs hl
      obtain ⟨hk, ⟨L, o, hf, hn, ho, hd⟩, hr⟩ := hl
      have hL : L ∈ X.fs := hs L (by unfold frs; rw [List.filterMap_cons, hf]; exact List.mem_cons_self)
      obtain ⟨sl, e⟩ := I.base.slot L o ho (I.ok.frf L hL) hL fun z => I.ok.exfs L z hL
      exact ⟨hk, ⟨L, _, hf, hn, e, hd⟩, ih (fun b hb => hs b (by unfold frs; rw [List.filterMap_cons, hf]; exact List.mem_cons_of_mem _ hb)) hr⟩
  exact all X.outer (fun _ hb => hb) I.ok.funs

theorem Inv.stack (I : Inv X pins σ H s) : s.heap.FunFrames X.base X.stack := by
  rcases I.ok.stk with e | ⟨e, hf⟩
  · rw [e]; exact I.funs
  · rw [e]
    obtain ⟨m, hn, _⟩ := I.loc
    refine .cons (by rw [I.ok.kind]; decide) hf hn ?_ I.funs
    exact Heap.get?_none_of_le (Nat.le_trans I.ok.bsz I.ok.above)
theorem Inv.stkSub (I : Inv X pins σ H s) : ∀ b ∈ frs X.stack, b ∈ X.env.locals :: X.fs := fun b hb => by
  rcases I.ok.stk with e | ⟨e, hf⟩
  · rw [e] at hb; exact List.mem_cons_of_mem _ hb
  · rw [e] at hb
    unfold frs at hb
    rw [List.filterMap_cons, hf] at hb
    exact hb
theorem Inv.stkFree (I : Inv X pins σ H s) : ∀ b ∈ frs X.stack, H b = none := fun b hb => by
  rcases List.mem_cons.mp (I.stkSub b hb) with e | hb
  · rw [e]; exact I.free
  · obtain ⟨_, o, ho, _⟩ := I.ok.funs.mem hb
    exact I.base.free b o ho (I.ok.frf b hb) fun z => I.ok.exfs b z hb

theorem Inv.step {g' : Array GenState} {t' : Nat} {d' : Drawn} {ch : List Addr} (I : Inv X pins σ H s)
    (hch : ∀ b ∈ ch, (b ∈ X.ex ∨ X.s₀.heap.objs.size ≤ b) ∧ b ≠ X.env.locals ∧ (∀ x c, X.env.cells.lookup x = some c → c ≠ b) ∧ ∀ p ∈ X.pn ++ pins, p.1 ≠ b)
    (keep : ∀ b o, b ≠ X.env.locals → b ∉ X.fs → b ∉ ch → s.heap.get? b = some o → H b = none → h'.get? b = some o)
    (slot : ∀ b o, b ≠ X.env.locals → b ∈ X.fs → b ∉ ch → s.heap.get? b = some o → H b = none → ∃ sl, h'.get? b = some { o with slots := sl }) (free : ∀ b o, b ∉ ch → s.heap.get? b = some o → H b = none → H' b = none)
    (there : ∀ b o, b ∉ ch → s.heap.get? b = some o → ∃ o', h'.get? b = some o')
    (tups : ∀ b xs, H b = some (.tup xs) → H' b = some (.tup xs)) (frzs : ∀ b o u, H b = some (.frz o u) → H' b = some (.frz o u)) (tbls : ∀ b ps, H b = some (.tbl ps) → ∃ more, H' b = some (.tbl (ps ++ more)))
    (ns : ∀ m, s.heap.Ns X.env.locals m → h'.Ns X.env.locals m) (hok : HOk X.prog X.w H' h') (hg : AllBare g') :
    Inv X pins σ H' { s with heap := h', gens := g', drawn := d', toks := t' } := by
  have neL : ∀ b o, X.s₀.heap.get? b = some o → b ≠ X.env.locals := fun b o e => Nat.ne_of_lt (Nat.lt_of_lt_of_le (Heap.lt_size e) I.ok.above)
  have neC : ∀ b o, X.s₀.heap.get? b = some o → b ∉ X.ex → b ∉ ch := fun b o e hx hb => by
    rcases (hch b hb).1 with z | z
    · exact hx z
    · exact absurd (Nat.lt_of_lt_of_le (Heap.lt_size e) z) (Nat.lt_irrefl _)
  have cellK : ∀ x c, X.env.cells.lookup x = some c → ∀ v, s.heap.IsCell c v → h'.IsCell c v := fun x c e v ⟨o, ho, hd⟩ => by
    have nch : c ∉ ch := fun z => (hch c z).2.2.1 x c e rfl
    by_cases hc : c ∈ X.fs
    · obtain ⟨sl, q⟩ := slot c o (I.cne x c e) hc nch ho (I.freeC x c e)
      exact ⟨_, q, hd⟩
    · exact ⟨o, keep c o (I.cne x c e) hc nch ho (I.freeC x c e), hd⟩
  refine ⟨I.ok, I.os, hg, ⟨fun b o e n hb hx => ?_, fun b o e n hb hx => ?_, fun b o e n hx => ?_, fun b o e hx => ?_, fun b xs e => tups b xs (I.base.tups b xs e), fun b o xs e => frzs b o xs (I.base.frzs b o xs e), fun b ps e => ?_⟩, ?_, fun x c e => ?_, ?_, fun x c e => ?_, fun p hp => ?_, hok, I.len⟩
  · exact keep b o (neL b o e) hb (neC b o e hx) (I.base.keep b o e n hb hx) (I.base.free b o e n hx)
  · obtain ⟨sl, e1⟩ := I.base.slot b o e n hb hx
    obtain ⟨sl', e2⟩ := slot b _ (neL b o e) hb (neC b o e hx) e1 (I.base.free b o e n hx)
    exact ⟨sl', e2⟩
  · obtain ⟨o', e1⟩ := I.base.there b o e hx
    exact free b o' (neC b o e hx) e1 (I.base.free b o e n hx)
  · obtain ⟨o', e1⟩ := I.base.there b o e hx
    exact there b o' (neC b o e hx) e1
  · obtain ⟨m1, e1⟩ := I.base.tbls b ps e
    obtain ⟨m2, e2⟩ := tbls b _ e1
    exact ⟨m1 ++ m2, by rw [e2, Array.append_assoc]⟩
  · obtain ⟨m, hn, hl⟩ := I.loc
    refine ⟨m, ns m hn, fun i x v e1 e2 e3 => ?_⟩
    obtain ⟨u, r, l⟩ := hl i x v e1 e2 e3
    refine ⟨u, r, ?_⟩
    rcases l with l | ⟨k, c, e, z⟩
    · exact .inl l
    · exact .inr ⟨k, c, e, cellK x c e _ z⟩
  · obtain ⟨v, z⟩ := I.cell x c e
    exact ⟨v, cellK x c e v z⟩
  · obtain ⟨m, ⟨o, _, _, ho, _⟩, _⟩ := I.loc
    exact free _ o (fun z => (hch _ z).2.1 rfl) ho I.free
  · obtain ⟨v, o, ho, hd⟩ := I.cell x c e
    exact free c o (fun z => (hch c z).2.2.1 x c e rfl) ho (I.freeC x c e)
  · obtain ⟨e, n, ne, nf, d⟩ := I.pin p hp
    have nch : p.1 ∉ ch := fun z => (hch p.1 z).2.2.2 p hp rfl
    exact ⟨keep p.1 p.2 ne nf nch e n, free p.1 p.2 nch e n, ne, nf, d⟩
theorem Inv.un {t' : Nat} (I : Inv X pins σ H s) (u : Un X.fs [] H H' s.heap h') (hok : HOk X.prog X.w H' h') : Inv X pins σ H' { s with heap := h', toks := t' } := by
  obtain ⟨m, ⟨o, es, ep, ho, r⟩, _⟩ := id I.loc
  obtain ⟨sl, hL⟩ := u.any ho I.free (by simp)
  exact I.step (g' := s.gens) (d' := s.drawn) (ch := []) (fun _ z => nomatch z) (fun b o _ hb _ e n => u.keep b o e n hb (by simp)) (fun b o _ hb _ e n => u.slot b o e n hb (by simp)) (fun b o _ e n => u.free b o e n (by simp)) (fun b o _ e => u.there b o e (by simp)) u.tups u.frzs u.tbls (fun m' hm => by
    obtain ⟨o', es', ep', ho', r'⟩ := hm
    rw [ho] at ho'; cases ho'
    exact ⟨_, es', ep', hL, r'⟩) hok I.bare
theorem Inv.call {g' : Array GenState} {t' : Nat} {d' : Drawn} {ch : List Addr} (I : Inv X pins σ H s) (u : Un (frs X.stack) ch H H' s.heap h') (hok : HOk X.prog X.w H' h') (hg : AllBare g')
    (hch : ∀ b ∈ ch, (b ∈ X.ex ∨ X.s₀.heap.objs.size ≤ b) ∧ b ≠ X.env.locals ∧ (∀ x c, X.env.cells.lookup x = some c → c ≠ b) ∧ ∀ p ∈ X.pn ++ pins, p.1 ≠ b) :
    Inv X pins σ H' { s with heap := h', gens := g', drawn := d', toks := t' } := by
  obtain ⟨m, ⟨o, es, ep, ho, r⟩, _⟩ := id I.loc
  obtain ⟨sl, hL⟩ := u.any ho I.free fun z => (hch _ z).2.1 rfl
  exact I.step (ch := ch) hch (fun b o hL hb hc e n => u.keep b o e n (fun z => (List.mem_cons.mp (I.stkSub b z)).elim hL hb) hc) (fun b o _ _ hc e n => u.any e n hc) (fun b o hc e n => u.free b o e n hc) (fun b o hc e => u.there b o e hc) u.tups u.frzs u.tbls (fun m' hm => by
    obtain ⟨o', es', ep', ho', r'⟩ := hm
    rw [ho] at ho'; cases ho'
    exact ⟨_, es', ep', hL, r'⟩) hok hg
theorem Inv.turned {t' : Nat} {it : Addr} (I : Inv X pins σ H s) (k : ∀ b o, b ≠ it → s.heap.get? b = some o → h'.get? b = some o) (hn : H it = none) (hL : it ≠ X.env.locals)
    (h1 : it ∈ X.ex ∨ X.s₀.heap.objs.size ≤ it) (h2 : ∀ x c, X.env.cells.lookup x = some c → c ≠ it) (h3 : ∀ p ∈ X.pn ++ pins, p.1 ≠ it) : Inv X pins σ H { s with heap := h', toks := t' } := by
  have nit : ∀ b u, H b = some u → b ≠ it := fun b u e z => by rw [z, hn] at e; cases e
  refine I.step (g' := s.gens) (d' := s.drawn) (ch := [it]) (fun b hb => ?_) (fun b o _ _ hc e _ => k b o (fun z => hc (by simp [z])) e) (fun b o _ _ hc e _ => ⟨o.slots, k b o (fun z => hc (by simp [z])) e⟩) (fun _ _ _ _ n => n)
    (fun b o hc e => ⟨o, k b o (fun z => hc (by simp [z])) e⟩) (fun _ _ e => e) (fun _ _ _ e => e) (fun b ps e => ⟨#[], by rw [e]; simp⟩) (fun m hm => ?_) (fun b u e => ?_) I.bare
  · have e : b = it := by simpa using hb
    subst e
    exact ⟨h1, hL, h2, h3⟩
  · obtain ⟨o, es, ep, ho, r⟩ := hm
    exact ⟨o, es, ep, k _ o (Ne.symm hL) ho, r⟩
  · refine (I.hok b u e).stay (fun c v hc q => k c v ?_ q) (fun _ q => q) fun _ _ q => q
    rcases hc with z | z
    · rw [z]; exact nit b u e
    · exact nit c _ z
theorem Inv.tok (I : Inv X pins σ H s) (t : Nat) : Inv X pins σ H { s with toks := t } := I.un (h' := s.heap) (t' := t) Un.refl I.hok
theorem Inv.kept {t' : Nat} (I : Inv X pins σ H s) (k : ∀ b u, s.heap.get? b = some u → h'.get? b = some u) : Inv X pins σ H { s with heap := h', toks := t' } := I.un (Un.kept k) (I.hok.kept k)
theorem Inv.laid {a : Addr} {o : HO} {t' : Nat} (I : Inv X pins σ H s) (k : ∀ b u, s.heap.get? b = some u → h'.get? b = some u) (hp : s.heap.objs.size ≤ a) (new : ObjOk X.prog X.w (upd H a o) h' a o) :
    Inv X pins σ (upd H a o) { s with heap := h', toks := t' } := I.un (Un.laid k hp (I.hok.fresh hp)) (I.hok.laid k hp new)
theorem Inv.write {x e : Addr} {o : HO} {t' : Nat} (I : Inv X pins σ H s) (mu : Mut (H x)) (he : e = x ∨ H e = some (.own x)) (k : ∀ b u, b ≠ e → s.heap.get? b = some u → h'.get? b = some u) (heo : ∃ u, h'.get? e = some u)
    (new : ObjOk X.prog X.w (upd H x o) h' x o) : Inv X pins σ (upd H x o) { s with heap := h', toks := t' } := I.un (Un.write mu he k heo) (I.hok.write mu he k heo new)
theorem Inv.pins_of {pins' : List (Addr × Obj)} (I : Inv X pins σ H s) (h : ∀ p ∈ pins', s.heap.get? p.1 = some p.2 ∧ H p.1 = none ∧ p.1 ≠ X.env.locals ∧ p.1 ∉ X.fs ∧ ∀ v, p.2.data ≠ .cell v) : Inv X pins' σ H s :=
  ⟨I.ok, I.os, I.bare, I.base, I.loc, I.cell, I.free, I.freeC, fun p hp => (List.mem_append.mp hp).elim (fun z => I.pin p (List.mem_append_left _ z)) (h p), I.hok, I.len⟩

theorem nodup_ix {N : List Str} (hN : N.Nodup) {i j : Nat} {x : Str} (a : N[i]? = some x) (b : N[j]? = some x) : i = j := by
  obtain ⟨h1, e1⟩ := List.getElem?_eq_some_iff.mp a
  obtain ⟨h2, e2⟩ := List.getElem?_eq_some_iff.mp b
  exact (List.getElem_inj hN).mp (e1.trans e2.symm)

theorem store_ok2 {M : Model} {A : Around} {E : Value → Shared → Prop} {i : Nat} {x : Str} {v : V} {u : Value} {Q : Unit → Shared → Prop} (I : Inv X pins σ H s) (hN : X.N.Nodup) (hi : X.N[i]? = some x) (hx : Loc X.env.scope x) (r : RelV v u)
    (h : ∀ s', Inv X pins (σ.set i (some v)) H s' → (∃ a, Heap.SameBut a s.heap s'.heap ∧ (a = X.env.locals ∨ X.env.cells.lookup x = some a)) → Q () s') (hf : X.fn x = true ∨ X.env.scope.names.lookup x = some .local := by first | exact .inl rfl | exact .inr rfl | assumption) : wpAny M A (storeName X.env x u) Q E s := by
  obtain ⟨m, hn, hl⟩ := id I.loc
  have hcls : (X.env.scope.kind == .class || (X.env.scope.kind == .module && X.env.locals != X.env.globals)) = false := by rw [I.ok.kind]; rfl
  have hiσ : i < σ.length := by rw [I.len]; exact (List.getElem?_eq_some_iff.mp hi).1
  have cne := I.cne
  have tracked : ∀ {a : Addr} {h' : Heap}, (∃ o, s.heap.get? a = some o ∧ H a = none) → Heap.SameBut a s.heap h' → HOk X.prog X.w H h' := fun {a h'} ha hs b ob e => by
    obtain ⟨_, _, hfree⟩ := ha
    refine (I.hok b ob e).stay (fun c w' hc q => (hs.2 c ?_).trans q) (fun _ q => q) fun _ _ q => q
    rintro rfl
    rcases hc with rfl | hc
    · rw [hfree] at e; cases e
    · rw [hfree] at hc; cases hc
  rcases hx with hk | hk
  · refine wpAny_storeName_local hk hn (fun h' hn' hs => ?_) hcls
    obtain ⟨oL, _, _, hoL, _⟩ := id hn
    refine h _ ⟨I.ok, I.os, I.bare, ⟨fun b o e n hb hx => ?_, fun b o e n hb hx => ?_, I.base.free, fun b o e hx => ?_, I.base.tups, I.base.frzs, I.base.tbls⟩, ⟨_, hn', fun j y v' e1 e2 e3 => ?_⟩, fun y c e => ?_, I.free, I.freeC, fun p hp => ?_, tracked ⟨oL, hoL, I.free⟩ hs, by simpa using I.len⟩ ⟨_, hs, .inl rfl⟩
    · exact (hs.2 b (Nat.ne_of_lt (Nat.lt_of_lt_of_le (Heap.lt_size e) I.ok.above))).trans (I.base.keep b o e n hb hx)
    · obtain ⟨sl, e1⟩ := I.base.slot b o e n hb hx
      exact ⟨sl, (hs.2 b (Nat.ne_of_lt (Nat.lt_of_lt_of_le (Heap.lt_size e) I.ok.above))).trans e1⟩
    · obtain ⟨o', e1⟩ := I.base.there b o e hx
      exact ⟨o', (hs.2 b (Nat.ne_of_lt (Nat.lt_of_lt_of_le (Heap.lt_size e) I.ok.above))).trans e1⟩
    · by_cases hj : j = i
      · subst hj
        rw [hi] at e1; cases e1
        rw [List.getElem?_set_self hiσ] at e2
        cases e2
        exact ⟨u, r, .inl ⟨hk, by simp⟩⟩
      · rw [List.getElem?_set_ne (Ne.symm hj)] at e2
        obtain ⟨u', r', q⟩ := hl j y v' e1 e2 e3
        refine ⟨u', r', ?_⟩
        rcases q with ⟨k, e⟩ | ⟨k, c, e, z⟩
        · refine .inl ⟨k, ?_⟩
          have : y ≠ x := fun e => hj (nodup_ix hN e1 (e ▸ hi))
          simp [this, e]
        · exact .inr ⟨k, c, e, z.sameBut hs (cne y c e)⟩
    · obtain ⟨w', z⟩ := I.cell y c e
      exact ⟨w', z.sameBut hs (cne y c e)⟩
    · obtain ⟨e, n, ne, nf, d⟩ := I.pin p hp
      exact ⟨(hs.2 p.1 ne).trans e, n, ne, nf, d⟩
  · have hfn : X.fn x = true := by
      rcases hf with z | z
      · exact z
      · rw [z] at hk; cases hk
    obtain ⟨c, hc⟩ := I.ok.has x (.inl hk)
    obtain ⟨w', z⟩ := I.cell x c hc
    refine wpAny_storeName_cell I.ok.kind hk hc z (fun h' hc' hs => ?_)
    obtain ⟨oc, hoc, hocd⟩ := id z
    refine h { s with heap := h' } ⟨I.ok, I.os, I.bare, ⟨fun b o e n hb hx => ?_, fun b o e n hb hx => ?_, I.base.free, fun b o e hx => ?_, I.base.tups, I.base.frzs, I.base.tbls⟩, ⟨m, hn.sameBut hs (Ne.symm (cne x c hc)), fun j y v' e1 e2 e3 => ?_⟩, fun y c' e => ?_, I.free, I.freeC, fun p hp => ?_, tracked ⟨oc, hoc, I.freeC x c hc⟩ hs, by simpa using I.len⟩ ⟨c, hs, .inr hc⟩
    · exact (hs.2 b (Nat.ne_of_lt (Nat.lt_of_lt_of_le (Heap.lt_size e) (I.ok.cab x c hfn hc)))).trans (I.base.keep b o e n hb hx)
    · obtain ⟨sl, e1⟩ := I.base.slot b o e n hb hx
      exact ⟨sl, (hs.2 b (Nat.ne_of_lt (Nat.lt_of_lt_of_le (Heap.lt_size e) (I.ok.cab x c hfn hc)))).trans e1⟩
    · obtain ⟨o', e1⟩ := I.base.there b o e hx
      exact ⟨o', (hs.2 b (Nat.ne_of_lt (Nat.lt_of_lt_of_le (Heap.lt_size e) (I.ok.cab x c hfn hc)))).trans e1⟩
    · by_cases hj : j = i
      · subst hj
        rw [hi] at e1; cases e1
        rw [List.getElem?_set_self hiσ] at e2
        cases e2
        exact ⟨u, r, .inr ⟨.inl hk, c, hc, hc'⟩⟩
      · rw [List.getElem?_set_ne (Ne.symm hj)] at e2
        obtain ⟨u', r', q⟩ := hl j y v' e1 e2 e3
        refine ⟨u', r', ?_⟩
        rcases q with q | ⟨k, c', e, z'⟩
        · exact .inl q
        · refine .inr ⟨k, c', e, z'.sameBut hs ?_⟩
          rintro rfl
          exact hj (nodup_ix hN e1 (I.ok.inj _ _ _ e hc ▸ hi))
    · by_cases hcc : c' = c
      · subst hcc; exact ⟨_, hc'⟩
      · obtain ⟨w2, z2⟩ := I.cell y c' e
        exact ⟨w2, z2.sameBut hs hcc⟩
    · obtain ⟨e, n, ne, nf, d⟩ := I.pin p hp
      refine ⟨(hs.2 p.1 ?_).trans e, n, ne, nf, d⟩
      intro q
      rw [q, hoc] at e
      have q' : oc = p.2 := Option.some.inj e
      exact d w' (by rw [← q']; exact hocd)
theorem store_ok {M : Model} {A : Around} {E : Value → Shared → Prop} {i : Nat} {x : Str} {v : V} {u : Value} {Q : Unit → Shared → Prop} (I : Inv X pins σ H s) (hN : X.N.Nodup) (hi : X.N[i]? = some x) (hx : Loc X.env.scope x) (r : RelV v u)
    (h : ∀ s', Inv X pins (σ.set i (some v)) H s' → Q () s') (hf : X.fn x = true ∨ X.env.scope.names.lookup x = some .local := by first | exact .inl rfl | exact .inr rfl | assumption) : wpAny M A (storeName X.env x u) Q E s :=
  store_ok2 I hN hi hx r (fun s' I' _ => h s' I') hf
theorem Inv.call' {s' : Shared} {ch : List Addr} (I : Inv X pins σ H s) (ho : s'.os = s.os) (u : Un (frs X.stack) ch H H' s.heap s'.heap) (hok : HOk X.prog X.w H' s'.heap) (hg : AllBare s'.gens)
    (hch : ∀ b ∈ ch, (b ∈ X.ex ∨ X.s₀.heap.objs.size ≤ b) ∧ b ≠ X.env.locals ∧ (∀ x c, X.env.cells.lookup x = some c → c ≠ b) ∧ ∀ p ∈ X.pn ++ pins, p.1 ≠ b) : Inv X pins σ H' s' := by
  obtain ⟨h', g', d', t', o'⟩ := s'
  have e : o' = s.os := ho
  subst e
  exact I.call (g' := g') (t' := t') (d' := d') u hok hg hch
end

abbrev XK := Value → Option Addr → Hp → Prop
abbrev St := List (Option V)
abbrev VK := V → Hp → Prop
abbrev TE := St → Hp → VK → Prop
abbrev TT := St → Hp → (Bool → Hp → Prop) → Prop
abbrev TA := St → Hp → (List V → Hp → Prop) → Prop
structure Ends where
  nx : St → Hp → Prop
  rt : VK
  bk : St → Hp → Prop := fun _ _ => False
  ct : St → Hp → Prop := fun _ _ => False
abbrev TS := Ends → St → Hp → Prop

def EP (X : Cx) (pins : List (Addr × Obj)) (σ : St) (Q : VK) (u : Value) (s' : Shared) : Prop := ∃ v H', Inv X pins σ H' s' ∧ RelV v u ∧ Q v H'
def TP (X : Cx) (pins : List (Addr × Obj)) (σ : St) (Q : Bool → Hp → Prop) (b : Bool) (s' : Shared) : Prop := ∃ H', Inv X pins σ H' s' ∧ Q b H'
def AP (X : Cx) (pins : List (Addr × Obj)) (σ : St) (Q : List V → Hp → Prop) (us : List Value) (s' : Shared) : Prop := ∃ vs H', Inv X pins σ H' s' ∧ Vals vs us ∧ Q vs H'
def SP (X : Cx) (pins : List (Addr × Obj)) (D : Ends) (f : Flow) (s' : Shared) : Prop :=
  match f with
  | .next => ∃ σ' H', Inv X pins σ' H' s' ∧ D.nx σ' H'
  | .brk => ∃ σ' H', Inv X pins σ' H' s' ∧ D.bk σ' H'
  | .cont => ∃ σ' H', Inv X pins σ' H' s' ∧ D.ct σ' H'
  | .ret u => ∃ v σ' H', Inv X pins σ' H' s' ∧ RelV v u ∧ D.rt v H'

def PE (X : Cx) (e : Expr) (t : TE) : Prop :=
  ∀ (pins : List (Addr × Obj)) (s : Shared) (σ : St) (H : Hp) (Q : VK), Inv X pins σ H s → t σ H Q → wpAny (model X.prog X.w) X.A (eval e X.env) (EP X pins σ Q) X.xe s
def PT (X : Cx) (e : Expr) (t : TT) : Prop :=
  ∀ (pins : List (Addr × Obj)) (s : Shared) (σ : St) (H : Hp) (Q : Bool → Hp → Prop), Inv X pins σ H s → t σ H Q → wpAny (model X.prog X.w) X.A (isTrue e X.env (eval e X.env)) (TP X pins σ Q) X.xe s
def PW (X : Cx) (e : Expr) (t : TT) : Prop :=
  ∀ (whole : Sem Value) (pins : List (Addr × Obj)) (s : Shared) (σ : St) (H : Hp) (Q : Bool → Hp → Prop), Inv X pins σ H s → t σ H Q → wpAny (model X.prog X.w) X.A (isTrue e X.env whole) (TP X pins σ Q) X.xe s
theorem PW.pt {X : Cx} {e : Expr} {t : TT} (h : PW X e t) : PT X e t := h _
def PA (X : Cx) (es : List Expr) (t : TA) : Prop :=
  ∀ (pos : Pos) (pins : List (Addr × Obj)) (s : Shared) (σ : St) (H : Hp) (Q : List V → Hp → Prop), Inv X pins σ H s → t σ H Q → wpAny (model X.prog X.w) X.A (spliced (backTo pos (starEach es X.env))) (AP X pins σ Q) X.xe s
def PS (X : Cx) (st : Stmt) (t : TS) : Prop :=
  ∀ (pins : List (Addr × Obj)) (s : Shared) (σ : St) (H : Hp) (D : Ends), Inv X pins σ H s → t D σ H → wpAny (model X.prog X.w) X.A (exec st X.env) (SP X pins D) X.xe s
def PSs (X : Cx) (st : List Stmt) (t : TS) : Prop :=
  ∀ (pins : List (Addr × Obj)) (s : Shared) (σ : St) (H : Hp) (D : Ends), Inv X pins σ H s → t D σ H → wpAny (model X.prog X.w) X.A (execs st X.env) (SP X pins D) X.xe s
theorem thn {α : Type} {t : Sem α} {Q Q' : α → Shared → Prop} {M : Model} {A : Around} {E : Value → Shared → Prop} {s : Shared} (h : wpAny M A t Q E s) (hQ : ∀ a s, Q a s → Q' a s) : wpAny M A t Q' E s := wpAny_mono h hQ fun _ _ x => x
end L2

namespace L2
open PySem PySem.Spec PyProof.Rows
section
variable {X : Cx}

theorem bin {a b : Expr} {ta tb : TE} (ha : PE X a ta) (hb : PE X b tb) {pins : List (Addr × Obj)} {s : Shared} {σ : St} {H : Hp} {R : V → V → Hp → Prop} (I : Inv X pins σ H s) (h : ta σ H fun x H1 => tb σ H1 fun y H2 => R x y H2)
    {α : Type} {Q : α → Shared → Prop} {f : Value → Value → Sem α}
    (hf : ∀ v u s2 x y H2, Inv X pins σ H2 s2 → RelV x v → RelV y u → R x y H2 → wpAny (model X.prog X.w) X.A (f v u) Q X.xe s2) :
    wpAny (model X.prog X.w) X.A (eval a X.env) (fun v s₁ => wpAny (model X.prog X.w) X.A (eval b X.env) (fun u s₂ => wpAny (model X.prog X.w) X.A (f v u) Q X.xe s₂) X.xe s₁) X.xe s := by
  refine thn (ha pins s σ H _ I h) fun v s1 ⟨x, H1, I1, r1, q1⟩ => ?_
  refine thn (hb pins s1 σ H1 _ I1 q1) fun u s2 ⟨y, H2, I2, r2, q2⟩ => ?_
  exact hf v u s2 x y H2 I2 r1 r2 q2

inductive TVar (i : Nat) (σ : St) (H : Hp) (Q : VK) : Prop where
  | mk (v : V) (e : σ[i]? = some (some v)) (q : Q v H)
def tVar (i : Nat) : TE := fun σ H Q => TVar i σ H Q
def tC (v : V) : TE := fun _ H Q => Q v H
theorem pe_var {i : Nat} {x : Str} {pos : Pos} (hN : X.N[i]? = some x) (hv : Vis X.env.scope x) (hd : (x == ("__debug__" : Str)) = false := by decide) (hcd : (x == ("__classdict__" : Str)) = false := by decide) : PE X (.Name x pos) (tVar i) := by
  intro pins s σ H Q I h
  obtain ⟨v, e, h⟩ := h
  obtain ⟨m, hn, hl⟩ := I.loc
  obtain ⟨u, r, l⟩ := hl i x v hN e hv
  have fin : EP X pins σ Q u s := ⟨v, H, I, r, h⟩
  rcases l with ⟨hk, hm⟩ | ⟨hk, c, hc, hcell⟩
  · exact wpAny_Name (wpAny_loadName_local I.ok.kind hk hn hm fin) hd
  · rcases hk with hk | hk
    · exact wpAny_Name (wpAny_loadName_cell I.ok.kind hk hc hcell fin) hd
    · exact wpAny_Name (wpAny_loadName_free I.ok.kind hk hc hcell fin hcd) hd
theorem pe_int {i j pos} : PE X (.Constant (.int i) j pos) (tC (.int i)) := fun _ _ _ H _ I h => wpAny_Constant_int ⟨.int i, H, I.tok _, ⟨_, rfl⟩, h⟩
theorem pe_bl {b j pos} : PE X (.Constant (.bool b) j pos) (tC (.bl b)) := fun _ _ _ H _ I h => Constant_bool ⟨.bl b, H, I, rfl, h⟩
theorem pe_non {j pos} : PE X (.Constant .none j pos) (tC .non) := fun _ _ _ H _ I h => Constant_none ⟨.non, H, I, rfl, h⟩
def Gl (X : Cx) (x : Str) : Prop := X.env.kindOf x = some .globalImplicit
theorem ld_glob {E : Value → Shared → Prop} {pins : List (Addr × Obj)} {s : Shared} {σ : St} {H : Hp} {x : Str} {u : Value} {pos : Pos} {Q : Value → Shared → Prop} (I : Inv X pins σ H s) (hg : Gl X x) (hm : X.mg x = some u) (h : Q u s)
    (hd : (x == ("__debug__" : Str)) = false := by decide) : wpAny (model X.prog X.w) X.A (eval (.Name x pos) X.env) Q E s :=
  Calls.Name_function_global I.ok.kind hg (Calls.loadGlobal_global (by rw [I.ok.glob]; exact I.mod.glob.keeps I.bk) hm h) hd
theorem ld_blt {E : Value → Shared → Prop} {pins : List (Addr × Obj)} {s : Shared} {σ : St} {H : Hp} {x : Str} {u : Value} {pos : Pos} {Q : Value → Shared → Prop} (I : Inv X pins σ H s) (hg : Gl X x) (hm : X.mg x = none) (hv : bootBuiltins x = some u) (h : Q u s)
    (hn : x ≠ "__name__" := by decide) (hd : (x == ("__debug__" : Str)) = false := by decide) : wpAny (model X.prog X.w) X.A (eval (.Name x pos) X.env) Q E s := by
  obtain ⟨mb, h1, h2⟩ := I.mod.blt
  exact Calls.Name_function_global I.ok.kind hg (Calls.loadGlobal_builtin (by rw [I.ok.glob]; exact I.mod.glob.keeps I.bk) hm (by rw [I.ok.blt]; exact h1.keeps I.bk) ((h2 x hn).trans hv) h) hd
theorem pe_bltn {x : Str} {v : V} {u : Value} {pos : Pos} (hg : Gl X x) (hm : X.mg x = none) (hv : bootBuiltins x = some u) (r : RelV v u) (hn : x ≠ "__name__" := by decide) (hd : (x == ("__debug__" : Str)) = false := by decide) : PE X (.Name x pos) (tC v) :=
  fun _ _ _ H _ I h => ld_blt I hg hm hv ⟨v, H, I, r, h⟩ hn hd

variable {a b : Expr} {ta tb : TE} {pos : Pos}
def PC (X : Cx) (op : CmpOp) (a b : Expr) (t : TE) : Prop :=
  ∀ (pins : List (Addr × Obj)) (s : Shared) (σ : St) (H : Hp) (Q : VK), Inv X pins σ H s → t σ H Q →
    wpAny (model X.prog X.w) X.A (eval a X.env) (fun v s₁ => wpAny (model X.prog X.w) X.A (eval b X.env) (fun u s₂ => wpAny (model X.prog X.w) X.A (compareOp op v u) (EP X pins σ Q) X.xe s₂) X.xe s₁) X.xe s
def tB (t : TE) : TT := fun σ H Q => t σ H fun x H1 => ∃ c, x = .bl c ∧ Q c H1
theorem pt_cmp {op : CmpOp} {t : TE} (h : PC X op a b t) (h1 : behindInMarks op b = false := by first | exact nobehind _ (by decide) (by decide) | rfl) : PT X (.Compare a [op] [b] pos) (tB t) := by
  intro pins s σ H Q I hw
  refine wpAny_isTrue_Compare1 (thn (h pins s σ H _ I hw) fun v s1 h1 => thn h1 fun u s2 h2 => thn h2 fun c s3 ⟨x, H1, I1, r1, q1⟩ => ?_) h1
  obtain ⟨d, rfl, q⟩ := q1
  cases r1
  exact wpAny_truthy_bool ⟨H1, I1, q⟩
theorem pt_val {e : Expr} {t : TE} (h : PE X e t) (he : ∀ whole, isTrue e X.env whole = (do let v ← whole; standAt e.pos; holding [v] (truthy v)) := by intro _; rfl) : PT X e (tB t) := by
  intro pins s σ H Q I hw
  refine isTrue_plain (thn (h pins s σ H _ I hw) fun v s1 ⟨x, H1, I1, r1, q1⟩ => ?_) (he _)
  obtain ⟨d, rfl, q⟩ := q1
  cases r1
  exact wpAny_truthy_bool ⟨H1, I1, q⟩

variable {tA tB' : TT} {rest : List Expr}
def tAnd (t u : TT) : TT := fun σ H Q => t σ H fun c H1 => if c = true then u σ H1 Q else Q false H1
def tOr (t u : TT) : TT := fun σ H Q => t σ H fun c H1 => if c = true then Q true H1 else u σ H1 Q
def tNot (t : TT) : TT := fun σ H Q => t σ H fun c H1 => Q (!c) H1
theorem pw_and1 (ha : PT X a tA) : PW X (.BoolOp .And [a] pos) tA := by
  intro wh pins s σ H Q I h
  refine isTrue_and (thn (ha pins s σ H Q I h) fun c s1 e => ?_)
  cases c with
  | true => exact isTrue_and_nil e
  | false => exact e
theorem pw_or1 (ha : PT X a tA) : PW X (.BoolOp .Or [a] pos) tA := by
  intro wh pins s σ H Q I h
  refine isTrue_or (thn (ha pins s σ H Q I h) fun c s1 e => ?_)
  cases c with
  | false => exact isTrue_or_nil e
  | true => exact e
theorem pw_and (ha : PT X a tA) (hb : PW X (.BoolOp .And (b :: rest) pos) tB') : PW X (.BoolOp .And (a :: b :: rest) pos) (tAnd tA tB') := by
  intro wh pins s σ H Q I h
  refine isTrue_and (thn (ha pins s σ H _ I h) fun c s1 ⟨H1, I1, q1⟩ => ?_)
  cases c with
  | true => exact hb wh pins s1 σ H1 Q I1 q1
  | false => exact ⟨H1, I1, q1⟩
theorem pw_or (ha : PT X a tA) (hb : PW X (.BoolOp .Or (b :: rest) pos) tB') : PW X (.BoolOp .Or (a :: b :: rest) pos) (tOr tA tB') := by
  intro wh pins s σ H Q I h
  refine isTrue_or (thn (ha pins s σ H _ I h) fun c s1 ⟨H1, I1, q1⟩ => ?_)
  cases c with
  | true => exact ⟨H1, I1, q1⟩
  | false => exact hb wh pins s1 σ H1 Q I1 q1
theorem pt_not (ha : PT X a tA) : PT X (.UnaryOp .Not a pos) (tNot tA) := by
  intro pins s σ H Q I h
  exact isTrue_not (ha pins s σ H (fun c H1 => Q (!c) H1) I h)
def tAndV (ta tb : TE) : TE := fun σ H Q => ta σ H fun x H1 => ∃ c, x = .bl c ∧ if c = true then tb σ H1 Q else Q (.bl false) H1
theorem pe_one {op} {t : TE} (h : PE X a t) : PE X (.BoolOp op [a] pos) t := fun pins s σ H Q I hw => BoolOp_one (h pins s σ H Q I hw)
theorem pe_and (ha : PE X a ta) (hb : PE X (.BoolOp .And (b :: rest) pos) tb) : PE X (.BoolOp .And (a :: b :: rest) pos) (tAndV ta tb) := by
  intro pins s σ H Q I h
  refine BoolOp_and (thn (ha pins s σ H _ I h) fun v s1 ⟨x, H1, I1, r1, q1⟩ => ?_)
  obtain ⟨c, rfl, q1⟩ := q1
  cases r1
  refine wpAny_truthy_bool ?_
  cases c with
  | true => exact hb pins s1 σ H1 Q I1 q1
  | false => exact ⟨.bl false, H1, I1, rfl, q1⟩
end
end L2

namespace L2
open PySem PySem.Spec PyProof.Rows

def SqL (K : PySem.W.Frag) (H : Hp) (a : Addr) (xs : List V) : Prop :=
  Rd H a (.lst xs) ∨
    ∃ (o : Obj) (its : Array Value) (n : Nat), K.lookup a = some o ∧ o.cls = .type "list" ∧ o.dict = none ∧ o.data = .seq its n ∧ its.size ≤ sizeLine ∧ Vals xs its.toList
def SqT (K : PySem.W.Frag) (H : Hp) (a : Addr) (xs : List V) : Prop :=
  Rd H a (.tup xs) ∨
    ∃ (o : Obj) (its : Array Value) (n : Nat), K.lookup a = some o ∧ o.cls = .type "tuple" ∧ o.data = .seq its n ∧ its.size ≤ sizeLine ∧ Vals xs its.toList
def absV : Value → Option V
  | .none => some .non
  | .bool b => some (.bl b)
  | .int i _ => some (.int i)
  | .str x _ => some (.str x)
  | .bytes b _ => some (.byt b)
  | .float b _ => some (.flt b)
  | .ref a => some (.ref a)
  | .type n => some (.ty n)
  | _ => none
theorem RelV.abs {x : V} {u : Value} (r : RelV x u) : absV u = some x := by
  cases x with
  | non => cases r; rfl
  | bl _ => cases r; rfl
  | int _ => obtain ⟨t, rfl⟩ := r; rfl
  | str _ => obtain ⟨t, rfl⟩ := r; rfl
  | byt _ => obtain ⟨t, rfl⟩ := r; rfl
  | flt _ => obtain ⟨t, rfl⟩ := r; rfl
  | ref _ => cases r; rfl
  | ty _ => cases r; rfl
theorem RelV.inj {x y : V} {u : Value} (r : RelV x u) (q : RelV y u) : x = y := Option.some.inj (r.abs.symm.trans q.abs)
theorem Vals.inj : ∀ {xs ys : List V} {us : List Value}, Vals xs us → Vals ys us → xs = ys
  | _, _, _, .nil, .nil => rfl
  | _, _, _, .cons r t, .cons r' t' => by rw [r.inj r', Vals.inj t t']
section
variable {X : Cx} {pins : List (Addr × Obj)} {σ : St} {H : Hp} {s : Shared} {a : Addr} {xs ys : List V}
theorem SqL.of {K : PySem.W.Frag} (h : H a = some (.lst xs)) : SqL K H a xs := .inl (.inl h)
theorem SqT.of {K : PySem.W.Frag} (h : H a = some (.tup xs)) : SqT K H a xs := .inl (.inl h)
theorem Inv.list (I : Inv X pins σ H s) (h : SqL X.K H a xs) : ∃ its : List Value, Vals xs its ∧ PlainL s.heap a its.toArray ∧ xs.length ≤ sizeLine := by
  rcases h with h | ⟨o, its, n, hk, hc, hd, hs, hz, r⟩
  · obtain ⟨z, its, n, r, e⟩ := h.ok I.hok
    exact ⟨its, r, ⟨_, n, e, rfl, rfl, rfl⟩, z⟩
  · refine ⟨its.toList, r, ⟨o, n, I.kIn a o hk, hc, hd, by simpa using hs⟩, ?_⟩
    have e := r.length
    simp only [Array.length_toList] at e
    omega
theorem Inv.tuple (I : Inv X pins σ H s) (h : SqT X.K H a xs) : ∃ its : List Value, Vals xs its ∧ IsTup s.heap a its.toArray ∧ xs.length ≤ sizeLine := by
  rcases h with h | ⟨o, its, n, hk, hc, hs, hz, r⟩
  · obtain ⟨z, its, r, p⟩ := h.ok I.hok
    exact ⟨its, r, p, z⟩
  · refine ⟨its.toList, r, ⟨o, I.kIn a o hk, hc, n, by simpa using hs⟩, ?_⟩
    have e := r.length
    simp only [Array.length_toList] at e
    omega
theorem Inv.list_inj (I : Inv X pins σ H s) (h : SqL X.K H a xs) (h' : SqL X.K H a ys) : xs = ys := by
  obtain ⟨its, r, ⟨o, n, e, _, _, d⟩, _⟩ := I.list h
  obtain ⟨its', r', ⟨o', n', e', _, _, d'⟩, _⟩ := I.list h'
  rw [e] at e'; cases e'
  rw [d] at d'
  injection d' with d1 _
  have : its = its' := by simpa using congrArg Array.toList d1
  subst this
  exact r.inj r'
theorem Inv.tuple_inj (I : Inv X pins σ H s) (h : SqT X.K H a xs) (h' : SqT X.K H a ys) : xs = ys := by
  obtain ⟨its, r, ⟨o, e, _, n, d⟩, _⟩ := I.tuple h
  obtain ⟨its', r', ⟨o', e', _, n', d'⟩, _⟩ := I.tuple h'
  rw [e] at e'; cases e'
  rw [d] at d'
  injection d' with d1 _
  have : its = its' := by simpa using congrArg Array.toList d1
  subst this
  exact r.inj r'
end

abbrev Cx.wish (X : Cx) (E : Value → Shared → Prop) : Cx := { X with xe := E }
abbrev Cx.nox (X : Cx) : Cx := X.wish fun _ _ => False
theorem Cx.Ok.wish {X : Cx} (ok : X.Ok) (E : Value → Shared → Prop) : (X.wish E).Ok :=
  ⟨ok.mod, ok.kind, ok.glob, ok.blt, ok.above, ok.inj, ok.has, ok.cab, ok.hd, ok.frames, ok.stk, ok.exf, ok.bs, ok.bsz, ok.noex, ok.exfs, ok.funs, ok.frf⟩
theorem Cx.Ok.unwish {X : Cx} {E : Value → Shared → Prop} (ok : (X.wish E).Ok) : X.Ok :=
  ⟨ok.mod, ok.kind, ok.glob, ok.blt, ok.above, ok.inj, ok.has, ok.cab, ok.hd, ok.frames, ok.stk, ok.exf, ok.bs, ok.bsz, ok.noex, ok.exfs, ok.funs, ok.frf⟩
section
variable {X : Cx} {pins : List (Addr × Obj)} {σ : St} {H : Hp} {s : Shared} {E : Value → Shared → Prop}
theorem Inv.wish (I : Inv X pins σ H s) (E : Value → Shared → Prop) : Inv (X.wish E) pins σ H s := ⟨I.ok.wish E, I.os, I.bare, I.base, I.loc, I.cell, I.free, I.freeC, I.pin, I.hok, I.len⟩
theorem Inv.unwish (I : Inv (X.wish E) pins σ H s) : Inv X pins σ H s := ⟨I.ok.unwish, I.os, I.bare, I.base, I.loc, I.cell, I.free, I.freeC, I.pin, I.hok, I.len⟩
theorem SP.unwish {D : Ends} {f : Flow} {s' : Shared} (h : SP (X.wish E) pins D f s') : SP X pins D f s' := by
  cases f with
  | next => obtain ⟨σ', H', I, q⟩ := h; exact ⟨σ', H', I.unwish, q⟩
  | brk => obtain ⟨σ', H', I, q⟩ := h; exact ⟨σ', H', I.unwish, q⟩
  | cont => obtain ⟨σ', H', I, q⟩ := h; exact ⟨σ', H', I.unwish, q⟩
  | ret u => obtain ⟨v, σ', H', I, r, q⟩ := h; exact ⟨v, σ', H', I.unwish, r, q⟩
theorem PSs.nox {st : List Stmt} {t : TS} (h : PSs X.nox st t) : PSs X st t := fun pins s σ H D I hw =>
  wpAny_mono (h pins s σ H D (I.wish _) hw) (fun _ _ q => q.unwish) fun _ _ z => False.elim z
end

section
variable {X : Cx} {st : Stmt} {rest : List Stmt} {t u : TS} {e : Expr} {te : TE} {pos : Pos}
def tNext : TS := fun D σ H => D.nx σ H
def tSeq (t u : TS) : TS := fun D σ H => t { D with nx := u D } σ H
theorem pss_nil : PSs X [] tNext := fun _ _ σ H _ I h => wpAny_execs_nil ⟨σ, H, I, h⟩
theorem pss_cons (h1 : PS X st t) (h2 : PSs X rest u) : PSs X (st :: rest) (tSeq t u) := by
  intro pins s σ H D I h
  refine wpAny_execs_cons (thn (h1 pins s σ H { D with nx := u D } I h) fun f s1 q => ?_)
  cases f with
  | next =>
    obtain ⟨σ', H', I', q⟩ := q
    exact h2 pins s1 σ' H' D I' q
  | ret v => exact q
  | brk => exact q
  | cont => exact q
theorem pss_one (h1 : PS X st t) : PSs X [st] t := by
  intro pins s σ H D I h
  refine wpAny_execs_cons (thn (h1 pins s σ H D I h) fun f s1 q => ?_)
  cases f with
  | next => exact wpAny_execs_nil q
  | ret v => exact q
  | brk => exact q
  | cont => exact q
theorem Inv.quiet {pins : List (Addr × Obj)} {σ : St} {H : Hp} {s : Shared} (I : Inv X pins σ H s) : interactive X.env = false := by simp [interactive, I.ok.kind]
def tDrop (te : TE) : TS := fun D σ H => te σ H fun _ H1 => D.nx σ H1
theorem ps_expr (he : PE X e te) (hs : swapsWith e none pos.line X.env = pure false := by rfl) : PS X (.Expr e pos) (tDrop te) := by
  intro pins s σ H D I h
  exact wpAny_Expr_any (thn (he pins s σ H _ I h) fun v s1 ⟨x, H1, I1, r1, q1⟩ => ⟨σ, H1, I1, q1⟩) I.quiet hs
def tRet (te : TE) : TS := fun D σ H => te σ H D.rt
theorem ps_ret (he : PE X e te) : PS X (.Return (some e) pos) (tRet te) := by
  intro pins s σ H D I h
  exact wpAny_Return_some (thn (he pins s σ H _ I h) fun v s1 ⟨x, H1, I1, r1, q1⟩ => ⟨x, σ, H1, I1, r1, q1⟩)
def tIfS (c : TT) (t u : TS) : TS := fun D σ H => c σ H fun b H1 => if b = true then t D σ H1 else u D σ H1
theorem ps_if {c : Expr} {a b : List Stmt} {tc : TT} (hc : PT X c tc) (ha : PSs X a t) (hb : PSs X b u) : PS X (.If c a b pos) (tIfS tc t u) := by
  intro pins s σ H D I h
  refine wpAny_If (thn (hc pins s σ H _ I h) fun d s1 ⟨H1, I1, q1⟩ => ?_)
  cases d with
  | true => exact ha pins s1 σ H1 D I1 q1
  | false => exact hb pins s1 σ H1 D I1 q1
end

abbrev TG := V → St → Hp → (St → Hp → Prop) → Prop
abbrev TGs := List V → St → Hp → (St → Hp → Prop) → Prop
def PG (X : Cx) (target : Expr) (t : TG) : Prop :=
  ∀ (pins : List (Addr × Obj)) (s : Shared) (σ : St) (H : Hp) (v : V) (u : Value) (Q : St → Hp → Prop), Inv X pins σ H s → RelV v u → t v σ H Q →
    wpAny (model X.prog X.w) X.A (assign target X.env u) (fun _ s' => ∃ σ' H', Inv X pins σ' H' s' ∧ Q σ' H') X.xe s
def PGs (X : Cx) (ts : List Expr) (t : TGs) : Prop :=
  ∀ (pins : List (Addr × Obj)) (s : Shared) (σ : St) (H : Hp) (vs : List V) (us : List Value) (Q : St → Hp → Prop), Inv X pins σ H s → Vals vs us → t vs σ H Q →
    wpAny (model X.prog X.w) X.A (assignInOrder ((assignEach ts X.env).map (·.2)) us) (fun _ s' => ∃ σ' H', Inv X pins σ' H' s' ∧ Q σ' H') X.xe s
abbrev TSet := V → V → V → Hp → (Hp → Prop) → Prop
def PSet (X : Cx) (t : TSet) : Prop :=
  ∀ (pins : List (Addr × Obj)) (s : Shared) (σ : St) (H : Hp) (o i v : V) (ov iv u : Value) (Q : Hp → Prop), Inv X pins σ H s → RelV o ov → RelV i iv → RelV v u → t o i v H Q →
    wpAny (model X.prog X.w) X.A (setItem ov iv u) (fun _ s' => ∃ H', Inv X pins σ H' s' ∧ Q H') X.xe s
section
variable {X : Cx} {pos : Pos}
def gName (i : Nat) : TG := fun v σ H Q => Q (σ.set i (some v)) H
theorem pg_name {i : Nat} {x : Str} (hN : X.N.Nodup) (hi : X.N[i]? = some x) (hx : Loc X.env.scope x) (hf : X.fn x = true ∨ X.env.scope.names.lookup x = some .local := by first | exact .inl rfl | exact .inr rfl | assumption) : PG X (.Name x pos) (gName i) := by
  intro pins s σ H v u Q I r h
  exact wpAny_assign_Name (store_ok I hN hi hx r (fun s' I' => ⟨_, H, I', h⟩) hf)
def gNil : TGs := fun vs σ H Q => vs = [] ∧ Q σ H
def gCons (t : TG) (u : TGs) : TGs := fun vs σ H Q => ∃ v r, vs = v :: r ∧ t v σ H fun σ' H' => u r σ' H' Q
theorem pgs_nil : PGs X [] gNil := by
  intro pins s σ H vs us Q I r h
  obtain ⟨e, h⟩ := h
  subst e
  cases r
  exact assignInOrder_nil ⟨σ, H, I, h⟩
theorem pgs_cons {e : Expr} {es : List Expr} {t : TG} {u : TGs} (h1 : PG X e t) (h2 : PGs X es u)
    (hs : (assignEach (e :: es) X.env).map (·.2) = assign e X.env :: (assignEach es X.env).map (·.2) := by rfl) : PGs X (e :: es) (gCons t u) := by
  intro pins s σ H vs us Q I r h
  obtain ⟨v, vr, e1, h⟩ := h
  subst e1
  cases r with
  | cons r rr =>
    rw [hs]
    refine assignInOrder_cons (thn (h1 pins s σ H _ _ _ I r h) fun _ s1 ⟨σ1, H1, I1, q1⟩ => ?_)
    exact h2 pins s1 σ1 H1 _ _ Q I1 rr q1
def gTup (K : PySem.W.Frag) (n : Nat) (t : TGs) : TG := fun v σ H Q => ∃ a xs, v = .ref a ∧ SqT K H a xs ∧ xs.length = n ∧ t xs σ H Q
theorem pg_tup {es : List Expr} {k : Nat} {t : TGs} {n : Nat} (hc : X.calm = true) (h : PGs X es t)
    (hn : (assignEach es X.env).length = n := by rfl) (hst : (assignEach es X.env).findIdx? (·.1) = none := by rfl) : PG X (.Tuple es k pos) (gTup X.K n t) := by
  intro pins s σ H v u Q I r hw
  obtain ⟨a, xs, e1, hq, hl, hw⟩ := hw
  subst e1
  cases r
  obtain ⟨its, rv, ht, hz⟩ := I.tuple hq
  refine assign_Tuple_tuple (I.ok.hd hc) ht (by simp [hn, ← hl, rv.length]) hst fun h' hx => ?_
  have I1 : Inv X pins σ H { s with heap := h' } := I.kept (t' := s.toks) fun b o e => hx b o (Nat.ne_of_lt (Heap.lt_size e)) e
  exact h pins _ σ H xs _ Q I1 (by simpa using rv) hw
def gSub (to ti : TE) (t : TSet) : TG := fun v σ H Q => to σ H fun o H1 => ti σ H1 fun i H2 => t o i v H2 fun H3 => Q σ H3
theorem pg_sub {o i : Expr} {to ti : TE} {t : TSet} (ho : PE X o to) (hi : PE X i ti) (hs : PSet X t)
    (ha : ∀ v, assign (.Subscript o i pos) X.env v = (do
      let ov ← holding [v] (eval o X.env)
      let iv ← holding [v, ov] (eval i X.env)
      standAt pos
      holding [v, ov, iv] (setItem ov iv v)
      release [v, ov, iv] []) := by intro _; rfl) : PG X (.Subscript o i pos) (gSub to ti t) := by
  intro pins s σ H v u Q I r h
  rw [ha]
  refine wpAny_bind (wpAny_holding (thn (ho pins s σ H _ I h) fun ov s1 ⟨x, H1, I1, r1, q1⟩ => ?_))
  refine wpAny_bind (wpAny_holding (thn (hi pins s1 σ H1 _ I1 q1) fun iv s2 ⟨y, H2, I2, r2, q2⟩ => ?_))
  refine wpAny_bind (wpAny_standAt (wpAny_bind (wpAny_holding (thn (hs pins s2 σ H2 x y v ov iv u _ I2 r1 r2 r q2) fun _ s3 ⟨H3, I3, q3⟩ => ?_))))
  exact wpAny_release ⟨σ, H3, I3, q3⟩
def tAsg (te : TE) (g : TG) : TS := fun D σ H => te σ H fun x H1 => g x σ H1 D.nx
theorem ps_asg {tg e : Expr} {te : TE} {g : TG} (he : PE X e te) (hg : PG X tg g) (hs : swapsWithSole [tg] e pos.line X.env = pure false := by rfl) (hw : swappedStores [tg] e X.env = pure none := by rfl)
    (h1 : (assignEach [tg] X.env).map (·.2) = [assign tg X.env] := by rfl) : PS X (.Assign [tg] e pos) (tAsg te g) := by
  intro pins s σ H D I h
  refine wpAny_Assign_stores (thn (he pins s σ H _ I h) fun v s1 ⟨x, H1, I1, r1, q1⟩ => ?_) hs hw
  rw [h1]
  exact thn (hg pins s1 σ H1 x v _ I1 r1 q1) fun _ s2 q => q
theorem ps_set {i : Nat} {x : Str} {e : Expr} {te : TE} {pos' : Pos} (hN : X.N.Nodup) (hi : X.N[i]? = some x) (hx : Loc X.env.scope x) (he : PE X e te) (hs : swapsWith e (some (.Name x pos')) pos.line X.env = pure false := by rfl) (hf : X.fn x = true ∨ X.env.scope.names.lookup x = some .local := by first | exact .inl rfl | exact .inr rfl | assumption) :
    PS X (.Assign [.Name x pos'] e pos) (tAsg te (gName i)) := by
  intro pins s σ H D I h
  refine wpAny_Assign_Name (thn (he pins s σ H _ I h) fun v s1 ⟨y, H1, I1, r1, q1⟩ => ?_) hs
  exact store_ok I1 hN hi hx r1 (fun s2 I2 => ⟨_, H1, I2, q1⟩) hf
def tPar (i j : Nat) (ta : TA) : TS := fun D σ H => ta σ H fun vs H1 => ∃ v w, vs = [v, w] ∧ D.nx ((σ.set i (some v)).set j (some w)) H1
theorem ps_par {i j : Nat} {x y : Str} {a b : Expr} {ta : TA} {px py pt : Pos} {kt k2 pt2} (hc : X.calm = true) (hN : X.N.Nodup) (hi : X.N[i]? = some x) (hj : X.N[j]? = some y) (hij : i ≠ j)
    (hx : X.env.scope.names.lookup x = some .local) (hy : X.env.scope.names.lookup y = some .local) (ha : PA X [a, b] ta)
    (hw : swappedStores [.Tuple [.Name x px, .Name y py] kt pt] (.Tuple [a, b] k2 pt2) X.env = pure (some [x, y]))
    (hs : swapsWithSole [.Tuple [.Name x px, .Name y py] kt pt] (.Tuple [a, b] k2 pt2) pos.line X.env = pure false := by rfl) :
    PS X (.Assign [.Tuple [.Name x px, .Name y py] kt pt] (.Tuple [a, b] k2 pt2) pos) (tPar i j ta) := by
  intro pins s σ H D I h
  rw [exec_Assign_arm]
  refine wpAny_bind (wpAny_standAt ?_)
  rw [hs]
  refine wpAny_bind (wpAny_pure ?_)
  rw [if_neg (by decide)]
  refine wpAny_bind (Tuple_ (thn (ha _ pins s σ H _ I h) fun us s1 ⟨vs, H1, I1, r1, q1⟩ => ?_))
  obtain ⟨v, w, e1, q1⟩ := q1
  subst e1
  obtain ⟨u1, u2, rfl, rv, rw'⟩ : ∃ u1 u2, us = [u1, u2] ∧ RelV v u1 ∧ RelV w u2 := by
    cases r1 with
    | cons p q =>
      cases q with
      | cons p' q' =>
        cases q'
        exact ⟨_, _, rfl, p, p'⟩
  refine wpAny_newObj_type ?_ (by show 2 ≤ sizeLine; decide)
  have I2 : Inv X pins σ H1 { s1 with heap := s1.heap.push { cls := .type "tuple", data := .seq [u1, u2].toArray } } := I1.kept (t' := s1.toks) fun b o e => Heap.get?_push_of_some _ e
  rw [hw]
  refine wpAny_bind (wpAny_pure ?_)
  show wpAny (model X.prog X.w) X.A (do rule "assign.swapped-stores"; let items ← unpackItems (.ref s1.heap.objs.size) 2 none; assignInOrder [fun v => bindName X.env y v, fun v => bindName X.env x v] items.reverse; pure Flow.next) _ _ _
  refine wpAny_bind (wpAny_rule (wpAny_bind (unpackItems_tuple (items := #[u1, u2]) (I.ok.hd hc) (IsTup.new s1.heap _) fun h' hx' => ?_)))
  have I3 := I2.kept (h' := h') (t' := s1.toks) fun b o e => hx' b o (Nat.ne_of_lt (Heap.lt_size e)) e
  show wpAny _ _ (assignInOrder [fun v => bindName X.env y v, fun v => bindName X.env x v] [u2, u1] >>= fun _ => pure Flow.next) _ _ _
  refine wpAny_bind (assignInOrder_cons (wpAny_bindName (store_ok I3 hN hj (.inl hy) rw' (fun s2 I4 => ?_) (.inr hy))))
  refine assignInOrder_cons (wpAny_bindName (store_ok I4 hN hi (.inl hx) rv (fun s3 I5 => assignInOrder_nil (wpAny_pure ?_)) (.inr hx)))
  rw [List.set_comm _ _ (Ne.symm hij)] at I5
  exact ⟨_, H1, I5, q1⟩
end

section
variable {X : Cx} {pos : Pos}
def tWhile (c : TT) (tb : TS) : TS := fun D σ H => ∃ W : Nat → St → Hp → Prop, (∃ m, W m σ H) ∧ ∀ m σ H, W m σ H →
  c σ H fun b H1 => if b = true then ∃ N : St → Hp → Prop, (∀ σ' H', N σ' H' → ∃ m', m' < m ∧ W m' σ' H') ∧ tb { D with nx := N, ct := N, bk := D.nx } σ H1 else D.nx σ H1
theorem ps_while {c : Expr} {body : List Stmt} {tc : TT} {tb : TS} (hp : PassesOwn (model X.prog X.w) X.A X.env X.xe) (hc : PT X c tc) (hb : PSs X body tb) : PS X (.While c body [] pos) (tWhile tc tb) := by
  intro pins s σ H D I h
  obtain ⟨W, ⟨m0, w0⟩, turn⟩ := h
  refine wpAny_While (codeAny_whileLoop (fun n s' => ∃ σ' H', Inv X pins σ' H' s' ∧ W n σ' H') ?_ m0 ⟨σ, H, I, w0⟩)
  rintro n s1 ⟨σ1, H1, I1, w1⟩
  refine wpAny_passesOwn hp (thn (hc pins s1 σ1 H1 _ I1 (turn n σ1 H1 w1)) fun b s2 ⟨H2, I2, q2⟩ => ?_)
  cases b with
  | true =>
    obtain ⟨N, hN, q2⟩ := q2
    rw [if_pos rfl]
    refine wpAny_passesOwn hp (thn (hb pins s2 σ1 H2 _ I2 q2) fun f s3 q3 => ?_)
    cases f with
    | next =>
      obtain ⟨σ3, H3, I3, n3⟩ := q3
      obtain ⟨m', hm, w3⟩ := hN σ3 H3 n3
      exact ⟨m', hm, σ3, H3, I3, w3⟩
    | cont =>
      obtain ⟨σ3, H3, I3, n3⟩ := q3
      obtain ⟨m', hm, w3⟩ := hN σ3 H3 n3
      exact ⟨m', hm, σ3, H3, I3, w3⟩
    | brk => exact q3
    | ret v => exact q3
  | false =>
    rw [if_neg Bool.false_ne_true]
    exact wpAny_execs_nil ⟨σ1, H2, I2, q2⟩
end

structure It where
  go : Nat → Hp → Prop
  yld : Nat → Hp → V → Hp → Prop
  stop : Nat → Hp → Prop
def FpOk (X : Cx) (pins : List (Addr × Obj)) (H : Hp) (b : Addr) : Prop :=
  H b = none ∧ b ≠ X.env.locals ∧ b ∉ X.fs ∧ (b ∈ X.ex ∨ X.s₀.heap.objs.size ≤ b) ∧ (∀ x c, X.env.cells.lookup x = some c → c ≠ b) ∧ ∀ p ∈ X.pn ++ pins, p.1 ≠ b
theorem Inv.fpOk {X : Cx} {pins : List (Addr × Obj)} {σ : St} {H H' : Hp} {s : Shared} {b : Addr} (I : Inv X pins σ H s) (hb : s.heap.objs.size ≤ b) (hn : H' b = none) : FpOk X pins H' b := by
  refine ⟨hn, Nat.ne_of_gt (Nat.lt_of_lt_of_le I.lt hb), I.nofs hb, .inr (Nat.le_trans I.sz hb), fun x c e z => ?_, fun p hp z => ?_⟩
  · obtain ⟨v, q⟩ := I.cell x c e
    exact absurd (Nat.lt_of_lt_of_le q.lt (by rw [z]; exact hb)) (Nat.lt_irrefl _)
  · exact absurd (Nat.lt_of_lt_of_le (Heap.lt_size (I.pin p hp).1) (by rw [z]; exact hb)) (Nat.lt_irrefl _)
structure Turn (P : Program) (w : World) (K : PySem.W.Frag) (tg : Expr) (J : It) (fp : List Addr) (it : Addr) (tn : Nat → Heap → Prop) : Prop where
  mem : it ∈ fp
  obj : ∀ i h, tn i h → ∀ b ∈ fp, ∃ o, h.get? b = some o ∧ ∀ v, o.data ≠ .cell v
  keep : ∀ i h h', tn i h → (∀ b ∈ fp, ∀ o, h.get? b = some o → h'.get? b = some o) → tn i h'
  item : ∀ (X : Cx), X.prog = P → X.w = w → X.K = K → X.calm = true → ∀ (i : Nat) (pins : List (Addr × Obj)) (s : Shared) (σ : St) (H : Hp) (E : Value → Shared → Prop), Inv X pins σ H s → (∀ b ∈ fp, FpOk X pins H b) → tn i s.heap → J.go i H →
    wpAny (model P w) X.A (pyNext (.ref it)) (fun r s1 => ∃ u, r = some u ∧
      wpAny (model P w) X.A (letOwnedTupleGo tg (.ref it) u) (fun _ s2 => ∃ x H', Inv X pins σ H' s2 ∧ RelV x u ∧ J.yld i H x H' ∧ tn (i + 1) s2.heap ∧ ∀ b ∈ fp, H' b = none) E s1) E s
  done : ∀ (X : Cx), X.prog = P → X.w = w → X.K = K → X.calm = true → ∀ (i : Nat) (pins : List (Addr × Obj)) (s : Shared) (σ : St) (H : Hp) (E : Value → Shared → Prop), Inv X pins σ H s → (∀ b ∈ fp, FpOk X pins H b) → tn i s.heap → J.stop i H →
    wpAny (model P w) X.A (pyNext (.ref it)) (fun r s1 => r = none ∧ Inv X pins σ H s1) E s
  self : ∀ (A : Around) (i : Nat) (s : Shared) (Q : Value → Shared → Prop) (E : Value → Shared → Prop), tn i s.heap → Q (.ref it) s → wpAny (model P w) A (pyIter (.ref it)) Q E s
abbrev TI := St → Hp → (It → Hp → Prop) → Prop
def PIE (X : Cx) (pins : List (Addr × Obj)) (σ : St) (tg : Expr) (R : It → Hp → Prop) (itv : Value) (s2 : Shared) : Prop :=
  ∃ (it : Addr) (fp : List Addr) (tn : Nat → Heap → Prop) (J : It) (H' : Hp), itv = .ref it ∧ Inv X pins σ H' s2 ∧ Turn X.prog X.w X.K tg J fp it tn ∧ tn 0 s2.heap ∧ (∀ b ∈ fp, FpOk X pins H' b) ∧ R J H'
def PI (X : Cx) (tg iter : Expr) (wi : TI) : Prop :=
  ∀ (pins : List (Addr × Obj)) (s : Shared) (σ : St) (H : Hp) (R : It → Hp → Prop), Inv X pins σ H s → wi σ H R →
    wpAny (model X.prog X.w) X.A (eval iter X.env) (fun v s1 => wpAny (model X.prog X.w) X.A (pyIter v) (PIE X pins σ tg R) X.xe s1) X.xe s

theorem go_of {M : Model} {A : Around} {E : Value → Shared → Prop} {s : Shared} {tg : Expr} {it : Addr} {u : Value} {o : Obj} {n : String} {vs : Array Value} {Q : Unit → Shared → Prop} (ho : s.heap.get? it = some o) (hc : o.cls = .type n) (hd : o.data = .fields vs)
    (hn : ["enumerate", "zip", "dict_itemiterator", "dict_reverseitemiterator", "odict_iterator", "itertools.zip_longest", "itertools.pairwise"].contains n = false) (hQ : Q () s) : wpAny M A (letOwnedTupleGo tg (.ref it) u) Q E s := by
  unfold letOwnedTupleGo
  cases tg <;> first
    | exact wpAny_pure hQ
    | (cases u <;> first
        | exact wpAny_pure hQ
        | (refine wpAny_bind (wpAny_load ho ?_)
           rw [hc, hd]
           show wpAny M A (if (["enumerate", "zip", "dict_itemiterator", "dict_reverseitemiterator", "odict_iterator", "itertools.zip_longest", "itertools.pairwise"].contains n && vs[0]? == some (rawInt _)) = true then _ else _) Q E s
           rw [if_neg (by intro h; rw [hn, Bool.false_and] at h; cases h)]
           exact wpAny_pure hQ))

def Itl (K : PySem.W.Frag) (a : Addr) : It :=
  ⟨fun i H => ∃ xs x, SqL K H a xs ∧ xs[i]? = some x, fun i H x H' => H' = H ∧ ∀ xs, SqL K H a xs → xs[i]? = some x, fun i H => ∃ xs, SqL K H a xs ∧ xs.length ≤ i⟩
def Itt (K : PySem.W.Frag) (a : Addr) : It :=
  ⟨fun i H => ∃ xs x, SqT K H a xs ∧ xs[i]? = some x, fun i H x H' => H' = H ∧ ∀ xs, SqT K H a xs → xs[i]? = some x, fun i H => ∃ xs, SqT K H a xs ∧ xs.length ≤ i⟩
def Itr (lo : Int) (n : Nat) : It := ⟨fun i _ => i < n, fun i H x H' => H' = H ∧ x = .int (lo + i), fun i _ => n ≤ i⟩
theorem turn_list {P : Program} {w : World} {K : PySem.W.Frag} {tg : Expr} (a it : Addr) : Turn P w K tg (Itl K a) [it] it (fun i h => h.IsListIter it a i) where
  mem := by simp
  obj := fun i h st b hb => by
    have e : b = it := by simpa using hb
    subst e
    obtain ⟨o, e, c, d⟩ := st
    exact ⟨o, e, fun v z => by rw [d] at z; cases z⟩
  keep := fun i h h' st k => st.at fun o e => k it (by simp) o e
  item := by
    intro X hP hw hK hc i pins s σ H E I hf st hg
    subst hP hw hK
    obtain ⟨xs, x, hq, hx⟩ := hg
    obtain ⟨its, rv, p, hz⟩ := I.list hq
    obtain ⟨u, hu, ru⟩ := rv.get hx
    obtain ⟨f0, f1, f2, f3, f4, f5⟩ := hf it (by simp)
    refine wpAny_pyNext_list_item st p.isList (x := u) (by simpa using hu) fun h' st' sb => ?_
    have I1 : Inv X pins σ H { s with heap := h' } := I.turned (t' := s.toks) (fun b o hb e => (sb.2 b hb).trans e) f0 f1 f3 f4 f5
    obtain ⟨o, e, c, d⟩ := id st'
    exact ⟨u, rfl, go_of (s := { s with heap := h' }) e c d (by decide) ⟨x, H, I1, ru, ⟨rfl, fun ys hy => by rw [I.list_inj hy hq]; exact hx⟩, st', fun b hb => (hf b hb).1⟩⟩
  done := by
    intro X hP hw hK hc i pins s σ H E I hf st hg
    subst hP hw hK
    obtain ⟨xs, hq, hx⟩ := hg
    obtain ⟨its, rv, p, hz⟩ := I.list hq
    obtain ⟨f0, f1, f2, f3, f4, f5⟩ := hf it (by simp)
    have hl := rv.length
    exact wpAny_pyNext_list_end (I.ok.hd hc) st p.isList (by simp; omega) fun h' eb => ⟨rfl, I.turned (t' := s.toks) (fun b o hb e => eb b o hb e) f0 f1 f3 f4 f5⟩
  self := fun _ _ _ _ _ st h => wpAny_pyIter_listiter st h
theorem turn_tuple {P : Program} {w : World} {K : PySem.W.Frag} {tg : Expr} (a it : Addr) : Turn P w K tg (Itt K a) [it] it (fun i h => h.IsTupleIter it a i) where
  mem := by simp
  obj := fun i h st b hb => by
    have e : b = it := by simpa using hb
    subst e
    obtain ⟨o, e, c, d⟩ := st
    exact ⟨o, e, fun v z => by rw [d] at z; cases z⟩
  keep := fun i h h' st k => st.at fun o e => k it (by simp) o e
  item := by
    intro X hP hw hK hc i pins s σ H E I hf st hg
    subst hP hw hK
    obtain ⟨xs, x, hq, hx⟩ := hg
    obtain ⟨its, rv, p, hz⟩ := I.tuple hq
    obtain ⟨u, hu, ru⟩ := rv.get hx
    obtain ⟨f0, f1, f2, f3, f4, f5⟩ := hf it (by simp)
    refine wpAny_pyNext_tuple_item st (show s.heap.IsTuple a its.toArray from p) (x := u) (by simpa using hu) fun h' st' sb => ?_
    have I1 : Inv X pins σ H { s with heap := h' } := I.turned (t' := s.toks) (fun b o hb e => (sb.2 b hb).trans e) f0 f1 f3 f4 f5
    obtain ⟨o, e, c, d⟩ := id st'
    exact ⟨u, rfl, go_of (s := { s with heap := h' }) e c d (by decide) ⟨x, H, I1, ru, ⟨rfl, fun ys hy => by rw [I.tuple_inj hy hq]; exact hx⟩, st', fun b hb => (hf b hb).1⟩⟩
  done := by
    intro X hP hw hK hc i pins s σ H E I hf st hg
    subst hP hw hK
    obtain ⟨xs, hq, hx⟩ := hg
    obtain ⟨its, rv, p, hz⟩ := I.tuple hq
    obtain ⟨f0, f1, f2, f3, f4, f5⟩ := hf it (by simp)
    have hl := rv.length
    exact wpAny_pyNext_tuple_end (I.ok.hd hc) st (show s.heap.IsTuple a its.toArray from p) (by simp; omega) fun h' eb => ⟨rfl, I.turned (t' := s.toks) (fun b o hb e => eb b o hb e) f0 f1 f3 f4 f5⟩
  self := fun _ _ _ _ _ st h => wpAny_pyIter_tupleiter st h
theorem turn_range {P : Program} {w : World} {K : PySem.W.Frag} {tg : Expr} (it : Addr) (lo : Int) (n : Nat) : Turn P w K tg (Itr lo n) [it] it (fun i h => IsRangeIter h it (lo + (i : Nat) * 1) ((n : Int) - (i : Nat)) 1) where
  mem := by simp
  obj := fun i h st b hb => by
    have e : b = it := by simpa using hb
    subst e
    exact ⟨_, st, fun v z => by
      have z' : Data.fields _ = Data.cell v := z
      cases z'⟩
  keep := fun i h h' st k => k it (by simp) _ st
  item := by
    intro X hP hw hK hc i pins s σ H E I hf st hg
    subst hP hw hK
    obtain ⟨f0, f1, f2, f3, f4, f5⟩ := hf it (by simp)
    have W := Walks.range (prog := X.prog) (w := X.w) (I.ok.hd hc) it lo 1 n
    refine W.item i s _ _ hg st fun v h' tk hv st' kk => ?_
    obtain ⟨t, rfl⟩ := hv
    have I1 : Inv X pins σ H { s with heap := h', toks := tk } := I.turned (fun b o hb e => kk b o (by simpa using hb) e) f0 f1 f3 f4 f5
    refine ⟨_, rfl, go_of (s := { s with heap := h', toks := tk }) (n := "range_iterator") st' rfl rfl (by decide) ⟨.int (lo + i), H, I1, ⟨t, ?_⟩, ⟨rfl, rfl⟩, st', fun b hb => (hf b hb).1⟩⟩
    rw [Int.mul_one]
  done := by
    intro X hP hw hK hc i pins s σ H E I hf st hg
    subst hP hw hK
    obtain ⟨f0, f1, f2, f3, f4, f5⟩ := hf it (by simp)
    exact wpAny_pyNext_range_end (I.ok.hd hc) st (by have : n ≤ i := hg; omega) fun h' eb => ⟨rfl, I.turned (t' := s.toks) (fun b o hb e => eb b o hb e) f0 f1 f3 f4 f5⟩
  self := fun _ _ _ _ _ st h => wpAny_pyIter_rangeiter st h
end L2

namespace L2
open PySem PySem.Spec PyProof.Rows
section
variable {X : Cx} {tg : Expr}
def iList (K : PySem.W.Frag) (tl : TE) : TI := fun σ H R => tl σ H fun x H1 => ∃ a, x = .ref a ∧ (∃ xs, SqL K H1 a xs) ∧ R (Itl K a) H1
theorem pi_list {l : Expr} {tl : TE} (hl : PE X l tl) : PI X tg l (iList X.K tl) := by
  intro pins s σ H R I h
  refine thn (hl pins s σ H _ I h) fun v s1 ⟨x, H1, I1, r1, q1⟩ => ?_
  obtain ⟨a, e, ⟨xs, hq⟩, q⟩ := q1
  subst e
  cases r1
  obtain ⟨its, rv, p, hz⟩ := I1.list hq
  refine wpAny_pyIter_list p.isList ?_
  refine ⟨s1.heap.objs.size, [s1.heap.objs.size], _, _, H1, rfl, I1.kept (t' := s1.toks) fun b o e => Heap.get?_push_of_some _ e, turn_list a _, ⟨_, Heap.get?_push_size _ rfl, rfl, rfl⟩, fun b hb => ?_, q⟩
  have e : b = s1.heap.objs.size := by simpa using hb
  subst e
  exact I1.fpOk (Nat.le_refl _) (I1.hok.fresh (Nat.le_refl _))
theorem range_it {pins : List (Addr × Obj)} {σ : St} {H : Hp} {s : Shared} {R : It → Hp → Prop} {E : Value → Shared → Prop} {lo hi : Int} {t u v : Tok} {tk : Nat} (I : Inv X pins σ H s) (h1 : -(2 ^ 62) ≤ lo) (h2 : lo < 2 ^ 62) (h3 : -(2 ^ 62) ≤ hi) (h4 : hi < 2 ^ 62)
    (q : R (Itr lo (hi - lo).toNat) H) : wpAny (model X.prog X.w) X.A (pyIter (.ref s.heap.objs.size)) (PIE X pins σ tg R) E { s with heap := s.heap.push { cls := .type "range", data := .fields #[.int lo t, .int hi u, .int 1 v] }, toks := tk } := by
  refine wpAny_pyIter_range (IsRange.new ..) (small_one h1 h2 h3 h4) ?_
  have I1 : Inv X pins σ H { s with heap := s.heap.push { cls := .type "range", data := .fields #[.int lo t, .int hi u, .int 1 v] }, toks := tk } := I.kept fun b o e => Heap.get?_push_of_some _ e
  refine ⟨(s.heap.push { cls := .type "range", data := .fields #[.int lo t, .int hi u, .int 1 v] }).objs.size, [(s.heap.push { cls := .type "range", data := .fields #[.int lo t, .int hi u, .int 1 v] }).objs.size], _, _, H, rfl,
    I1.kept (t' := tk) fun b o e => Heap.get?_push_of_some _ e, turn_range _ lo (hi - lo).toNat, ?_, fun b hb => ?_, q⟩
  · have e1 : lo + ((0 : Nat) : Int) * 1 = lo := by simp
    have e2 : (((hi - lo).toNat : Nat) : Int) - ((0 : Nat) : Int) = Builtin.Range.rangeSize lo hi 1 := by rw [rangeSize_one]; split <;> omega
    show IsRangeIter _ _ (lo + ((0 : Nat) : Int) * 1) ((((hi - lo).toNat : Nat) : Int) - ((0 : Nat) : Int)) 1
    rw [e1, e2]
    exact Heap.get?_push_size _ rfl
  · have e : b = (s.heap.push { cls := .type "range", data := .fields #[.int lo t, .int hi u, .int 1 v] }).objs.size := by simpa using hb
    subst e
    exact I1.fpOk (Nat.le_refl _) (I1.hok.fresh (Nat.le_refl _))
def iRng1 (ta : TA) : TI := fun σ H R => ta σ H fun vs H1 => ∃ j : Int, vs = [.int j] ∧ -(2 ^ 62) ≤ j ∧ j < 2 ^ 62 ∧ R (Itr 0 j.toNat) H1
theorem pi_range1 {a : Expr} {ta : TA} {p pos : Pos} (hg : Gl X "range") (hm : X.mg "range" = none) (ha : PA X [a] ta) (hs : starEach [a] X.env = [(false, eval a X.env)] := by rfl) : PI X tg (.Call (.Name "range" p) [a] [] pos) (iRng1 ta) := by
  intro pins s σ H R I h
  refine Call_ (ld_blt I hg hm boot_range (PyProof.Rows.callWith_type1 (thn (ha pos pins s σ H _ I h) fun us s1 ⟨vs, H1, I1, r1, q1⟩ => ?_) hs rfl))
  obtain ⟨j, e, q1, q2, q⟩ := q1
  subst e
  cases r1 with
  | cons r rr =>
    cases rr
    obtain ⟨t, rfl⟩ := r
    exact call_range_1 (range_it I1 (by omega) (by omega) q1 q2 (by simpa using q))
def tFor (wi : TI) (g : TG) (tb : TS) : TS := fun D σ H => wi σ H fun J H1 => ∃ W : Nat → Nat → St → Hp → Prop, (∃ m, W 0 m σ H1) ∧ ∀ i m σ H, W i m σ H →
  (J.stop i H ∧ D.nx σ H) ∨ (J.go i H ∧ ∃ N : St → Hp → Prop, (∀ σ' H', N σ' H' → ∃ m', m' < m ∧ W (i + 1) m' σ' H') ∧ ∀ x H', J.yld i H x H' → g x σ H' fun σ2 H2 => tb { D with nx := N, ct := N, bk := D.nx } σ2 H2)
def pinsAt (fp : List Addr) (h : Heap) : List (Addr × Obj) := fp.filterMap fun b => (h.get? b).map fun o => (b, o)
theorem mem_pinsAt {fp : List Addr} {h : Heap} {b : Addr} {o : Obj} (hb : b ∈ fp) (e : h.get? b = some o) : (b, o) ∈ pinsAt fp h := List.mem_filterMap.mpr ⟨b, hb, by rw [e]; rfl⟩
theorem of_pinsAt {fp : List Addr} {h : Heap} {p : Addr × Obj} (hp : p ∈ pinsAt fp h) : p.1 ∈ fp ∧ h.get? p.1 = some p.2 := by
  obtain ⟨b, hb, e⟩ := List.mem_filterMap.mp hp
  cases q : h.get? b with
  | none => rw [q] at e; cases e
  | some o =>
    rw [q] at e
    have e' : (b, o) = p := Option.some.inj e
    subst e'
    exact ⟨hb, q⟩
theorem Inv.pinned {pins : List (Addr × Obj)} {σ : St} {H : Hp} {s : Shared} {fp : List Addr} (I : Inv X pins σ H s) (hf : ∀ b ∈ fp, FpOk X pins H b) (ho : ∀ b ∈ fp, ∃ o, s.heap.get? b = some o ∧ ∀ v, o.data ≠ .cell v) : Inv X (pins ++ pinsAt fp s.heap) σ H s :=
  I.pins_of fun p hp => (List.mem_append.mp hp).elim (fun z => I.pin p (List.mem_append_right _ z)) fun z => by
    obtain ⟨hb, e⟩ := of_pinsAt z
    obtain ⟨f0, f1, f2, _⟩ := hf p.1 hb
    obtain ⟨o, e', d⟩ := ho p.1 hb
    rw [e] at e'; cases e'
    exact ⟨e, f0, f1, f2, d⟩
theorem Inv.unpinned {pins pl : List (Addr × Obj)} {σ : St} {H : Hp} {s : Shared} (I : Inv X (pins ++ pl) σ H s) : Inv X pins σ H s := I.pins_of fun p hp => I.pin p (List.mem_append_right _ (List.mem_append_left _ hp))
theorem ps_for {iter : Expr} {body : List Stmt} {wi : TI} {g : TG} {tb : TS} {pos : Pos} (hp : PassesOwn (model X.prog X.w) X.A X.env X.xe) (hc : X.calm = true) (hi : PI X tg iter wi) (hg : PG X tg g) (hb : PSs X body tb)
    (hs : ∀ x, foldedSetIterable iter X.env x = pure x := by intro _; rfl) : PS X (.For tg iter body [] pos) (tFor wi g tb) := by
  intro pins s σ H D I h
  refine wpAny_For (thn (hi pins s σ H _ I h) fun v s1 h1 => thn h1 fun itv s2 h2 => ?_) hs
  obtain ⟨it, fp, tn, J, H2, e, I2, T, st2, f2, W, ⟨m0, w0⟩, turn⟩ := h2
  subst e
  have stat : ∀ {H' : Hp}, (∀ b ∈ fp, H' b = none) → ∀ b ∈ fp, FpOk X pins H' b := fun hn b hb => ⟨hn b hb, (f2 b hb).2⟩
  refine codeAny_forLoop_any (fun n s' => ∃ i σ' H', Inv X pins σ' H' s' ∧ tn i s'.heap ∧ (∀ b ∈ fp, H' b = none) ∧ W i n σ' H') ?_ m0 ⟨0, σ, H2, I2, st2, fun b hb => (f2 b hb).1, w0⟩
  rintro n s3 ⟨i, σ3, H3, I3, st3, fr3, w3⟩
  rcases turn i n σ3 H3 w3 with ⟨stop, qn⟩ | ⟨go, N, hN, step⟩
  · refine wpAny_passesOwn hp (thn (T.done X rfl rfl rfl hc i pins s3 σ3 H3 X.xe I3 (stat fr3) st3 stop) fun r s4 ⟨hr, I4⟩ => ?_)
    subst hr
    exact wpAny_execs_nil ⟨σ3, H3, I4, qn⟩
  · refine wpAny_passesOwn hp (thn (T.item X rfl rfl rfl hc i pins s3 σ3 H3 X.xe I3 (stat fr3) st3 go) fun r s4 ⟨u, hr, h4⟩ => ?_)
    subst hr
    refine wpAny_passesOwn hp (thn h4 fun _ s5 ⟨x, H5, I5, r5, y5, st5, fr5⟩ => ?_)
    have I5' := I5.pinned (stat fr5) (T.obj _ _ st5)
    refine wpAny_passesOwn hp (thn (hg _ s5 σ3 H5 x u _ I5' r5 (step x H5 y5)) fun _ s6 ⟨σ6, H6, I6, q6⟩ => ?_)
    refine wpAny_passesOwn hp (thn (hb _ s6 σ6 H6 _ I6 q6) fun f s7 q7 => ?_)
    have again : ∀ {σ7 : St} {H7 : Hp}, Inv X (pins ++ pinsAt fp s5.heap) σ7 H7 s7 → N σ7 H7 → ∃ m, m < n ∧ ∃ i σ' H', Inv X pins σ' H' s7 ∧ tn i s7.heap ∧ (∀ b ∈ fp, H' b = none) ∧ W i m σ' H' := fun {σ7 H7} I7 n7 => by
      obtain ⟨m', hm, w7⟩ := hN σ7 H7 n7
      refine ⟨m', hm, i + 1, σ7, H7, I7.unpinned, T.keep _ _ _ st5 fun b hb o e => (I7.pin (b, o) (List.mem_append_right _ (List.mem_append_right _ (mem_pinsAt hb e)))).1, fun b hb => ?_, w7⟩
      obtain ⟨o, e, d⟩ := T.obj _ _ st5 b hb
      exact (I7.pin (b, o) (List.mem_append_right _ (List.mem_append_right _ (mem_pinsAt hb e)))).2.1
    cases f with
    | next => obtain ⟨σ7, H7, I7, n7⟩ := q7; exact again I7 n7
    | cont => obtain ⟨σ7, H7, I7, n7⟩ := q7; exact again I7 n7
    | brk => obtain ⟨σ7, H7, I7, q7⟩ := q7; exact ⟨σ7, H7, I7.unpinned, q7⟩
    | ret v => obtain ⟨x7, σ7, H7, I7, r7, q7⟩ := q7; exact ⟨x7, σ7, H7, I7.unpinned, r7, q7⟩
end

theorem for_list {K : PySem.W.Frag} {a : Addr} {xs : List V} {g : TG} {tb : TS} {D : Ends} {σ : St} {H : Hp} (Pv : Nat → St → Hp → Prop) (h0 : Pv 0 σ H) (hl : ∀ i σ H, i ≤ xs.length → Pv i σ H → SqL K H a xs)
    (hs : ∀ i x σ H, xs[i]? = some x → Pv i σ H → g x σ H fun σ2 H2 => tb { D with nx := Pv (i + 1), ct := Pv (i + 1), bk := D.nx } σ2 H2) (hd : ∀ σ H, Pv xs.length σ H → D.nx σ H) :
    ∃ W : Nat → Nat → St → Hp → Prop, (∃ m, W 0 m σ H) ∧ ∀ i m σ H, W i m σ H →
      ((Itl K a).stop i H ∧ D.nx σ H) ∨ ((Itl K a).go i H ∧ ∃ N : St → Hp → Prop, (∀ σ' H', N σ' H' → ∃ m', m' < m ∧ W (i + 1) m' σ' H') ∧ ∀ x H', (Itl K a).yld i H x H' → g x σ H' fun σ2 H2 => tb { D with nx := N, ct := N, bk := D.nx } σ2 H2) := by
  refine ⟨fun i m σ H => m = xs.length - i ∧ i ≤ xs.length ∧ Pv i σ H, ⟨xs.length, by simp, Nat.zero_le _, h0⟩, ?_⟩
  rintro i m σ H ⟨rfl, hi, p⟩
  have q := hl i σ H hi p
  by_cases hlt : i < xs.length
  · refine .inr ⟨⟨xs, xs[i], q, by simp [hlt]⟩, Pv (i + 1), fun σ' H' p' => ⟨xs.length - (i + 1), by omega, rfl, hlt, p'⟩, fun x H' y => ?_⟩
    obtain ⟨e, y⟩ := y
    subst e
    exact hs i x σ _ (y xs q) p
  · have e : i = xs.length := by omega
    subst e
    exact .inl ⟨⟨xs, q, Nat.le_refl _⟩, hd σ H p⟩
theorem for_tup {K : PySem.W.Frag} {a : Addr} {xs : List V} {g : TG} {tb : TS} {D : Ends} {σ : St} {H : Hp} (Pv : Nat → St → Hp → Prop) (h0 : Pv 0 σ H) (hl : ∀ i σ H, i ≤ xs.length → Pv i σ H → SqT K H a xs)
    (hs : ∀ i x σ H, xs[i]? = some x → Pv i σ H → g x σ H fun σ2 H2 => tb { D with nx := Pv (i + 1), ct := Pv (i + 1), bk := D.nx } σ2 H2) (hd : ∀ σ H, Pv xs.length σ H → D.nx σ H) :
    ∃ W : Nat → Nat → St → Hp → Prop, (∃ m, W 0 m σ H) ∧ ∀ i m σ H, W i m σ H →
      ((Itt K a).stop i H ∧ D.nx σ H) ∨ ((Itt K a).go i H ∧ ∃ N : St → Hp → Prop, (∀ σ' H', N σ' H' → ∃ m', m' < m ∧ W (i + 1) m' σ' H') ∧ ∀ x H', (Itt K a).yld i H x H' → g x σ H' fun σ2 H2 => tb { D with nx := N, ct := N, bk := D.nx } σ2 H2) := by
  refine ⟨fun i m σ H => m = xs.length - i ∧ i ≤ xs.length ∧ Pv i σ H, ⟨xs.length, by simp, Nat.zero_le _, h0⟩, ?_⟩
  rintro i m σ H ⟨rfl, hi, p⟩
  have q := hl i σ H hi p
  by_cases hlt : i < xs.length
  · refine .inr ⟨⟨xs, xs[i], q, by simp [hlt]⟩, Pv (i + 1), fun σ' H' p' => ⟨xs.length - (i + 1), by omega, rfl, hlt, p'⟩, fun x H' y => ?_⟩
    obtain ⟨e, y⟩ := y
    subst e
    exact hs i x σ _ (y xs q) p
  · have e : i = xs.length := by omega
    subst e
    exact .inl ⟨⟨xs, q, Nat.le_refl _⟩, hd σ H p⟩
theorem for_range {lo : Int} {n : Nat} {g : TG} {tb : TS} {D : Ends} {σ : St} {H : Hp} (Pv : Nat → St → Hp → Prop) (h0 : Pv 0 σ H)
    (hs : ∀ i σ H, i < n → Pv i σ H → g (.int (lo + i)) σ H fun σ2 H2 => tb { D with nx := Pv (i + 1), ct := Pv (i + 1), bk := D.nx } σ2 H2) (hd : ∀ σ H, Pv n σ H → D.nx σ H) :
    ∃ W : Nat → Nat → St → Hp → Prop, (∃ m, W 0 m σ H) ∧ ∀ i m σ H, W i m σ H →
      ((Itr lo n).stop i H ∧ D.nx σ H) ∨ ((Itr lo n).go i H ∧ ∃ N : St → Hp → Prop, (∀ σ' H', N σ' H' → ∃ m', m' < m ∧ W (i + 1) m' σ' H') ∧ ∀ x H', (Itr lo n).yld i H x H' → g x σ H' fun σ2 H2 => tb { D with nx := N, ct := N, bk := D.nx } σ2 H2) := by
  refine ⟨fun i m σ H => m = n - i ∧ i ≤ n ∧ Pv i σ H, ⟨n, by simp, Nat.zero_le _, h0⟩, ?_⟩
  rintro i m σ H ⟨rfl, hi, p⟩
  by_cases hlt : i < n
  · refine .inr ⟨hlt, Pv (i + 1), fun σ' H' p' => ⟨n - (i + 1), by omega, rfl, hlt, p'⟩, fun x H' y => ?_⟩
    obtain ⟨e, y⟩ := y
    subst e y
    exact hs i σ _ hlt p
  · have e : i = n := by omega
    subst e
    exact .inl ⟨Nat.le_refl _, hd σ H p⟩
theorem while_by {c : TT} {tb : TS} {D : Ends} {σ : St} {H : Hp} (Pv : St → Hp → Prop) (μ : St → Hp → Nat) (h0 : Pv σ H)
    (hs : ∀ σ H, Pv σ H → c σ H fun b H1 => if b = true then tb { D with nx := fun σ' H' => Pv σ' H' ∧ μ σ' H' < μ σ H, ct := fun σ' H' => Pv σ' H' ∧ μ σ' H' < μ σ H, bk := D.nx } σ H1 else D.nx σ H1)
    (mono : ∀ σ H Q Q', (∀ b H1, Q b H1 → Q' b H1) → c σ H Q → c σ H Q') : tWhile c tb D σ H := by
  refine ⟨fun m σ H => m = μ σ H ∧ Pv σ H, ⟨_, rfl, h0⟩, ?_⟩
  rintro m σ H ⟨rfl, p⟩
  refine mono σ H _ _ (fun b H1 q => ?_) (hs σ H p)
  cases b with
  | true => exact ⟨_, fun σ' H' ⟨p', l⟩ => ⟨_, l, rfl, p'⟩, q⟩
  | false => exact q
end L2

namespace L2
open PySem PySem.Spec PyProof.Rows

abbrev R2 := V → V → Hp → VK → Prop
def OpR (X : Cx) (f : Value → Value → Sem Value) (r : R2) : Prop :=
  ∀ (pins : List (Addr × Obj)) (s : Shared) (σ : St) (H : Hp) (x y : V) (v u : Value) (Q : VK), Inv X pins σ H s → RelV x v → RelV y u → r x y H Q →
    wpAny (model X.prog X.w) X.A (f v u) (EP X pins σ Q) X.xe s
def UnR (X : Cx) (f : Value → Sem Value) (r : V → Hp → VK → Prop) : Prop :=
  ∀ (pins : List (Addr × Obj)) (s : Shared) (σ : St) (H : Hp) (x : V) (v : Value) (Q : VK), Inv X pins σ H s → RelV x v → r x H Q →
    wpAny (model X.prog X.w) X.A (f v) (EP X pins σ Q) X.xe s
def CallR (X : Cx) (f : Value) (r : List V → Hp → VK → Prop) : Prop :=
  ∀ (pins : List (Addr × Obj)) (s : Shared) (σ : St) (H : Hp) (xs : List V) (us : List Value) (Q : VK), Inv X pins σ H s → Vals xs us → r xs H Q →
    wpAny (model X.prog X.w) X.A (call f us) (EP X pins σ Q) X.xe s
def tOp (r : R2) (ta tb : TE) : TE := fun σ H Q => ta σ H fun x H1 => tb σ H1 fun y H2 => r x y H2 Q
def tUn (r : V → Hp → VK → Prop) (ta : TE) : TE := fun σ H Q => ta σ H fun x H1 => r x H1 Q
inductive RI (C : Int → Int → Prop) (g : Int → Int → V) (x y : V) (H : Hp) (Q : VK) : Prop where
  | mk (i j : Int) (ex : x = .int i) (ey : y = .int j) (c : C i j) (q : Q (g i j) H)
def rI (C : Int → Int → Prop) (g : Int → Int → V) : R2 := fun x y H Q => RI C g x y H Q
inductive RI0 (g : Int → Int → V) (x y : V) (H : Hp) (Q : VK) : Prop where
  | mk (i j : Int) (ex : x = .int i) (ey : y = .int j) (q : Q (g i j) H)
def rI0 (g : Int → Int → V) : R2 := fun x y H Q => RI0 g x y H Q
inductive RU (g : Int → V) (x : V) (H : Hp) (Q : VK) : Prop where
  | mk (i : Int) (ex : x = .int i) (q : Q (g i) H)
def rU (g : Int → V) : V → Hp → VK → Prop := fun x H Q => RU g x H Q

section
variable {X : Cx} {a b c : Expr} {ta tb tc : TE} {pos : Pos}

theorem binT (ha : PE X a ta) (hb : PE X b tb) {pins : List (Addr × Obj)} {s : Shared} {σ : St} {H : Hp} {R : V → V → Hp → Prop} (I : Inv X pins σ H s)
    (h : ta σ H fun x H1 => tb σ H1 fun y H2 => R x y H2) {Q : Value → Shared → Prop} {f : Value → Value → Sem Value}
    (hf : ∀ v u s2 x y H2, Inv X pins σ H2 s2 → RelV x v → RelV y u → R x y H2 → wpAny (model X.prog X.w) X.A (f v u) Q X.xe s2) :
    wpAny (model X.prog X.w) X.A (eval a X.env) (fun v s₁ => wpAny (model X.prog X.w) X.A (eval b X.env) (fun u s₂ => wpAny (model X.prog X.w) X.A (f v u) Q X.xe s₂) X.xe s₁) X.xe s := by
  refine thn (ha pins s σ H _ I h) fun v s1 ⟨x, H1, I1, r1, q1⟩ => ?_
  refine thn (hb pins s1 σ H1 _ I1 q1) fun u s2 ⟨y, H2, I2, r2, q2⟩ => ?_
  exact hf v u s2 x y H2 I2 r1 r2 q2

theorem pe_op {op : Operator} {r : R2} (ho : OpR X (binaryOp op) r) (ha : PE X a ta) (hb : PE X b tb) : PE X (.BinOp a op b pos) (tOp r ta tb) := by
  intro pins s σ H Q I h
  exact wpAny_BinOp (binT ha hb I h fun v u s2 x y H2 I2 rx ry q => ho pins s2 σ H2 x y v u Q I2 rx ry q)
theorem pe_un {op : UnaryOp} {r : V → Hp → VK → Prop} (ho : UnR X (unaryOp op) r) (ha : PE X a ta) : PE X (.UnaryOp op a pos) (tUn r ta) := by
  intro pins s σ H Q I h
  exact UnaryOp_ (thn (ha pins s σ H _ I h) fun v s1 ⟨x, H1, I1, r1, q1⟩ => ho pins s1 σ H1 x v Q I1 r1 q1)
theorem opI {f : Value → Value → Sem Value} {C : Int → Int → Prop} {g : Int → Int → Int}
    (rule : ∀ (i j : Int) (t u : Tok) (s : Shared) (Q : Value → Shared → Prop) (E : Value → Shared → Prop), C i j → Q (.int (g i j) s.toks) { s with toks := s.toks + 1 } → wpAny (model X.prog X.w) X.A (f (.int i t) (.int j u)) Q E s) :
    OpR X f (rI C fun i j => .int (g i j)) := by
  intro pins s σ H x y v u Q I rx ry h
  obtain ⟨i, j, rfl, rfl, hc, q⟩ := h
  obtain ⟨t, rfl⟩ := rx
  obtain ⟨t', rfl⟩ := ry
  exact rule i j t t' s _ _ hc ⟨.int (g i j), H, I.tok _, ⟨_, rfl⟩, q⟩
theorem opI0 {f : Value → Value → Sem Value} {g : Int → Int → Int}
    (rule : ∀ (i j : Int) (t u : Tok) (s : Shared) (Q : Value → Shared → Prop) (E : Value → Shared → Prop), Q (.int (g i j) s.toks) { s with toks := s.toks + 1 } → wpAny (model X.prog X.w) X.A (f (.int i t) (.int j u)) Q E s) :
    OpR X f (rI0 fun i j => .int (g i j)) := by
  intro pins s σ H x y v u Q I rx ry h
  obtain ⟨i, j, rfl, rfl, q⟩ := h
  obtain ⟨t, rfl⟩ := rx
  obtain ⟨t', rfl⟩ := ry
  exact rule i j t t' s _ _ ⟨.int (g i j), H, I.tok _, ⟨_, rfl⟩, q⟩
theorem opB0 {f : Value → Value → Sem Value} {g : Int → Int → Bool}
    (rule : ∀ (i j : Int) (t u : Tok) (s : Shared) (Q : Value → Shared → Prop) (E : Value → Shared → Prop), Q (.bool (g i j)) s → wpAny (model X.prog X.w) X.A (f (.int i t) (.int j u)) Q E s) :
    OpR X f (rI0 fun i j => .bl (g i j)) := by
  intro pins s σ H x y v u Q I rx ry h
  obtain ⟨i, j, rfl, rfl, q⟩ := h
  obtain ⟨t, rfl⟩ := rx
  obtain ⟨t', rfl⟩ := ry
  exact rule i j t t' s _ _ ⟨.bl (g i j), H, I, rfl, q⟩

def CPow (i j : Int) : Prop := 0 ≤ j ∧ j ≤ 1000000 ∧ i.natAbs < 2 ^ 64
def CMul (i j : Int) : Prop := (-(2 ^ 64) < i ∧ i < 2 ^ 64) ∨ (-(2 ^ 64) < j ∧ j < 2 ^ 64)
theorem CMul.ok {i j : Int} (h : CMul i j) : IntMulOk i j := by
  rcases h with ⟨h1, h2⟩ | ⟨h1, h2⟩
  · exact .of_left (intBits_le_64 h1 h2)
  · exact .of_right (intBits_le_64 h1 h2)
theorem op_add : OpR X (binaryOp .Add) (rI0 fun i j => .int (i + j)) := opI0 fun _ _ _ _ _ _ _ q => add_int q
theorem op_sub : OpR X (binaryOp .Sub) (rI0 fun i j => .int (i - j)) := opI0 fun _ _ _ _ _ _ _ q => sub_int q
theorem op_mul : OpR X (binaryOp .Mult) (rI CMul fun i j => .int (i * j)) := opI fun _ _ _ _ _ _ _ hc q => mul_int q hc.ok
theorem op_mod : OpR X (binaryOp .Mod) (rI (fun _ j => 0 < j) fun i j => .int (i % j)) := opI fun i j _ _ _ _ _ hc q => by
  have h1 : (0 : Int) < j := hc
  exact mod_int' (by omega) (by rw [Int.fmod_eq_emod_of_nonneg i (by omega)]; exact q)
theorem op_pow : OpR X (binaryOp .Pow) (rI CPow fun i j => .int (i ^ j.toNat)) := opI fun _ _ _ _ _ _ _ hc q => pow_int_small hc.1 hc.2.1 hc.2.2 q
theorem unI {f : Value → Sem Value} {g : Int → Int}
    (rule : ∀ (i : Int) (t : Tok) (s : Shared) (Q : Value → Shared → Prop) (E : Value → Shared → Prop), Q (.int (g i) s.toks) { s with toks := s.toks + 1 } → wpAny (model X.prog X.w) X.A (f (.int i t)) Q E s) :
    UnR X f (rU fun i => .int (g i)) := by
  intro pins s σ H x v Q I rx h
  obtain ⟨i, rfl, q⟩ := h
  obtain ⟨t, rfl⟩ := rx
  exact rule i t s _ _ ⟨.int (g i), H, I.tok _, ⟨_, rfl⟩, q⟩
theorem un_neg : UnR X (unaryOp .USub) (rU fun i => .int (-i)) := unI fun _ _ _ _ _ q => neg_int q
end

def scal : V → V → Bool
  | .non, .non => true | .non, .int _ => true | .int _, .non => true | .non, .bl _ => true | .bl _, .non => true | .non, .str _ => true | .str _, .non => true
  | .int _, .int _ => true | .bl _, .bl _ => true | .str _, .str _ => true | .byt _, .byt _ => true
  | .int _, .str _ => true | .str _, .int _ => true | .bl _, .str _ => true | .str _, .bl _ => true
  | _, _ => false
def rEq : R2 := fun x y H Q => scal x y = true ∧ Q (.bl (decide (x = y))) H
def rNe : R2 := fun x y H Q => scal x y = true ∧ Q (.bl (!decide (x = y))) H

theorem dec_int {i j : Int} : decide (V.int i = V.int j) = (i == j) := by
  rw [Bool.eq_iff_iff]
  simp
theorem dec_bl {i j : Bool} : decide (V.bl i = V.bl j) = (i == j) := by
  rw [Bool.eq_iff_iff]
  simp
theorem dec_str {i j : Str} : decide (V.str i = V.str j) = (i == j) := by
  rw [Bool.eq_iff_iff]
  simp
theorem dec_byt {i j : Array UInt8} : decide (V.byt i = V.byt j) = (i.toList == j.toList) := by
  rw [Bool.eq_iff_iff]
  cases i
  cases j
  simp

section
variable {X : Cx} {a b c : Expr} {ta tb tc : TE} {pos : Pos}
theorem fin_bl {pins : List (Addr × Obj)} {σ : St} {H : Hp} {s : Shared} {Q : VK} {k k' : Bool} (I : Inv X pins σ H s) (q : Q (.bl k) H) (e : k = k') : EP X pins σ Q (.bool k') s := by
  subst e
  exact ⟨.bl k, H, I, rfl, q⟩
theorem op_eq : OpR X (compareOp .Eq) rEq := by
  intro pins s σ H x y v u Q I rx ry h
  obtain ⟨hs, q⟩ := h
  cases x with
  | non =>
    cases rx
    cases y with
    | non => cases ry; exact PySem.EqNone.eq_none_none (fin_bl I q (by simp))
    | bl j => cases ry; exact PySem.EqNone.eq_none_bool (fin_bl I q (by simp))
    | int j => obtain ⟨t', rfl⟩ := ry; exact PySem.EqNone.eq_none_int (fin_bl I q (by simp))
    | str j => obtain ⟨t', rfl⟩ := ry; exact PySem.EqNone.eq_none_str (fin_bl I q (by simp))
    | _ => exact absurd (show false = true from hs) Bool.false_ne_true
  | bl i =>
    cases rx
    cases y with
    | non => cases ry; exact PySem.EqNone.eq_bool_none (fin_bl I q (by simp))
    | bl j => cases ry; exact eq_bool (fin_bl I q dec_bl)
    | str j => obtain ⟨t', rfl⟩ := ry; exact PySem.EqMixed.eq_bool_str (fin_bl I q (by simp))
    | _ => exact absurd (show false = true from hs) Bool.false_ne_true
  | int i =>
    obtain ⟨t, rfl⟩ := rx
    cases y with
    | non => cases ry; exact PySem.EqNone.eq_int_none (fin_bl I q (by simp))
    | int j => obtain ⟨t', rfl⟩ := ry; exact eq_int (fin_bl I q dec_int)
    | str j => obtain ⟨t', rfl⟩ := ry; exact PySem.EqMixed.eq_int_str (fin_bl I q (by simp))
    | _ => exact absurd (show false = true from hs) Bool.false_ne_true
  | str i =>
    obtain ⟨t, rfl⟩ := rx
    cases y with
    | non => cases ry; exact PySem.EqNone.eq_str_none (fin_bl I q (by simp))
    | bl j => cases ry; exact PySem.EqMixed.eq_str_bool (fin_bl I q (by simp))
    | int j => obtain ⟨t', rfl⟩ := ry; exact PySem.EqMixed.eq_str_int (fin_bl I q (by simp))
    | str j => obtain ⟨t', rfl⟩ := ry; exact eq_str (fin_bl I q dec_str)
    | _ => exact absurd (show false = true from hs) Bool.false_ne_true
  | byt i =>
    obtain ⟨t, rfl⟩ := rx
    cases y with
    | byt j => obtain ⟨t', rfl⟩ := ry; exact PySem.W.eq_bytes (fin_bl I q dec_byt)
    | _ => exact absurd (show false = true from hs) Bool.false_ne_true
  | _ => cases y <;> exact absurd (show false = true from hs) Bool.false_ne_true
theorem op_ne : OpR X (compareOp .NotEq) rNe := by
  intro pins s σ H x y v u Q I rx ry h
  obtain ⟨hs, q⟩ := h
  cases x with
  | non =>
    cases rx
    cases y with
    | non => cases ry; exact PySem.EqNone.ne_none_none (fin_bl I q (by simp))
    | bl j => cases ry; exact PySem.EqNone.ne_none_bool (fin_bl I q (by simp))
    | int j => obtain ⟨t', rfl⟩ := ry; exact PySem.EqNone.ne_none_int (fin_bl I q (by simp))
    | str j => obtain ⟨t', rfl⟩ := ry; exact PySem.EqNone.ne_none_str (fin_bl I q (by simp))
    | _ => exact absurd (show false = true from hs) Bool.false_ne_true
  | bl i =>
    cases rx
    cases y with
    | non => cases ry; exact PySem.EqNone.ne_bool_none (fin_bl I q (by simp))
    | bl j => cases ry; exact ne_bool (fin_bl I q (congrArg not dec_bl))
    | str j => obtain ⟨t', rfl⟩ := ry; exact PySem.EqMixed.ne_bool_str (fin_bl I q (by simp))
    | _ => exact absurd (show false = true from hs) Bool.false_ne_true
  | int i =>
    obtain ⟨t, rfl⟩ := rx
    cases y with
    | non => cases ry; exact PySem.EqNone.ne_int_none (fin_bl I q (by simp))
    | int j => obtain ⟨t', rfl⟩ := ry; exact ne_int (fin_bl I q (congrArg not dec_int))
    | str j => obtain ⟨t', rfl⟩ := ry; exact PySem.EqMixed.ne_int_str (fin_bl I q (by simp))
    | _ => exact absurd (show false = true from hs) Bool.false_ne_true
  | str i =>
    obtain ⟨t, rfl⟩ := rx
    cases y with
    | non => cases ry; exact PySem.EqNone.ne_str_none (fin_bl I q (by simp))
    | bl j => cases ry; exact PySem.EqMixed.ne_str_bool (fin_bl I q (by simp))
    | int j => obtain ⟨t', rfl⟩ := ry; exact PySem.EqMixed.ne_str_int (fin_bl I q (by simp))
    | str j => obtain ⟨t', rfl⟩ := ry; exact ne_str (fin_bl I q (congrArg not dec_str))
    | _ => exact absurd (show false = true from hs) Bool.false_ne_true
  | byt i =>
    obtain ⟨t, rfl⟩ := rx
    cases y with
    | byt j => obtain ⟨t', rfl⟩ := ry; exact PySem.W.ne_bytes (fin_bl I q (congrArg not dec_byt))
    | _ => exact absurd (show false = true from hs) Bool.false_ne_true
  | _ => cases y <;> exact absurd (show false = true from hs) Bool.false_ne_true

theorem op_lt : OpR X (compareOp .Lt) (rI0 fun i j => .bl (decide (i < j))) := opB0 fun _ _ _ _ _ _ _ q => lt_int q
theorem op_le : OpR X (compareOp .LtE) (rI0 fun i j => .bl (decide (i ≤ j))) := opB0 fun _ _ _ _ _ _ _ q => le_int q
theorem op_gt : OpR X (compareOp .Gt) (rI0 fun i j => .bl (decide (j < i))) := opB0 fun _ _ _ _ _ _ _ q => gt_int q
theorem op_notN : OpR X (compareOp .IsNot) (fun x y H Q => y = .non ∧ Q (.bl (!decide (x = .non))) H) := by
  intro pins s σ H x y v u Q I rx ry h
  obtain ⟨rfl, q⟩ := h
  cases ry
  refine isnot_none_gen (fin_bl I q ?_)
  cases x <;> first
    | (cases rx; rfl)
    | (obtain ⟨t, rfl⟩ := rx; rfl)

theorem nomark (b : Expr) {op : CmpOp} (h : op ≠ .In := by decide) (h2 : op ≠ .NotIn := by decide) : behindInMarks op b = false := by
  have e1 : (op == CmpOp.In) = false := by cases op <;> first | rfl | exact absurd rfl h
  have e2 : (op == CmpOp.NotIn) = false := by cases op <;> first | rfl | exact absurd rfl h2
  cases b <;> simp [behindInMarks, e1, e2]
theorem pe_cmpR {op : CmpOp} {r : R2} (ho : OpR X (compareOp op) r) (ha : PE X a ta) (hb : PE X b tb) (hm : behindInMarks op b = false) : PE X (.Compare a [op] [b] pos) (tOp r ta tb) := by
  intro pins s σ H Q I h
  exact wpAny_Compare1 (binT ha hb I h fun v u s2 x y H2 I2 rx ry q => ho pins s2 σ H2 x y v u Q I2 rx ry q) hm
def tTest (t : TE) : TT := fun σ H Q => t σ H fun x H' => ∃ k, x = .bl k ∧ Q k H'
theorem pt_cmpR {op : CmpOp} {r : R2} (ho : OpR X (compareOp op) r) (ha : PE X a ta) (hb : PE X b tb) (hm : behindInMarks op b = false) : PT X (.Compare a [op] [b] pos) (tTest (tOp r ta tb)) := by
  intro pins s σ H Q I h
  refine wpAny_isTrue_Compare1 (thn (ha pins s σ H _ I h) fun v s1 ⟨x, H1, I1, r1, q1⟩ => thn (hb pins s1 σ H1 _ I1 q1) fun u s2 ⟨y, H2, I2, r2, q2⟩ =>
    thn (ho pins s2 σ H2 x y v u _ I2 r1 r2 q2) fun c s3 ⟨z, H3, I3, r3, k, e, q3⟩ => ?_) hm
  subst e
  cases r3
  exact wpAny_truthy_bool ⟨H3, I3, q3⟩
theorem line63 : (sizeLine : Nat) < 2 ^ 63 := by rw [sizeLine_eq]; decide
theorem vals1 {x : V} {us : List Value} (r : Vals [x] us) : ∃ u, us = [u] ∧ RelV x u := by
  cases r with
  | cons r1 r2 => cases r2; exact ⟨_, rfl, r1⟩
theorem call_abs : CallR X (.builtin "abs") (fun xs H Q => ∃ i, xs = [.int i] ∧ Q (.int (if i < 0 then -i else i)) H) := by
  intro pins s σ H xs us Q I r h
  obtain ⟨i, rfl, q⟩ := h
  obtain ⟨u, rfl, t, rfl⟩ := vals1 r
  exact call_abs_int fun u tk => ⟨.int (if i < 0 then -i else i), H, I.tok _, ⟨_, rfl⟩, q⟩
end
end L2

namespace L2
open PySem PySem.Spec PyProof.Rows

structure ObjM (h : Heap) (x dx C : Addr) (mA : Str → Option Value) : Prop where
  obj : h.get? x = some (PySem.W.instObj C dx)
  ns : h.Ns1 dx mA
  ne : dx ≠ x

theorem lookIn_ns {h : Heap} {dx : Addr} {mA : Str → Option Value} (n : h.Ns1 dx mA) : ∃ od, h.get? dx = some od ∧ ∀ name, PySem.W.lookIn name od = some (mA name) := by
  obtain ⟨o, es, ep, ho, hd, hk, _, hm⟩ := n
  refine ⟨o, ho, fun name => ?_⟩
  have e := hm name
  unfold nsFind findBy at e
  rw [← Array.find?_toList] at e
  unfold PySem.W.lookIn
  rw [hd]
  dsimp only
  split
  · rename_i y q
    rw [q] at e
    exact congrArg some e
  · rename_i q
    rw [q] at e
    have a : es.toList.any (·.refKey) = false := by
      rw [List.any_eq_false]
      intro y hy
      obtain ⟨z, t, hkey⟩ := hk y (Array.mem_toList_iff.mp hy)
      simp [DictEntry.refKey, hkey]
    have a' : ¬ es.toList.any (·.refKey) = true := by rw [a]; exact Bool.false_ne_true
    rw [if_neg a']
    exact congrArg some e

theorem ObjM.look {h : Heap} {x dx C : Addr} {mA : Str → Option Value} (I : ObjM h x dx C mA) : ∃ od, PySem.W.InstAt h x (PySem.W.instObj C dx) C (some od) ∧ ∀ name, PySem.W.lookIn name od = some (mA name) :=
  let ⟨od, ho, hl⟩ := lookIn_ns I.ns
  ⟨od, ⟨I.obj, rfl, rfl, ho⟩, hl⟩

section
variable {prog : Program} {w : World} {A : Around} {E : Value → Shared → Prop} {s : Shared} {K : PySem.W.Frag} {x dx C f : Addr} {mA : Str → Option Value} {name : Str} {v : Value}

end

theorem RelO.some_of {v : V} {o : Option Value} (r : RelO (some v) o) : ∃ u, o = some u ∧ RelV v u := by
  cases o with
  | none => exact (show False from r).elim
  | some u => exact ⟨u, rfl, r⟩
section
variable {P : Program} {w : World} {H H' : Hp} {h h' : Heap} {a C dx : Addr} {fs fs' : List (Str × V)}
theorem ins_get (hok : HOk P w H h) (e : H a = some (.ins C dx fs)) : ∃ mA, ObjM h a dx C mA ∧ (∀ f, RelO (fs.lookup f) (mA f)) ∧ PySem.Within mA (fs.map (·.1)) ∧ fs.length ≤ 1000 ∧ H dx = some (.own a) := by
  obtain ⟨d, z, ne, ob, mA, n, r, q⟩ := (show ObjOk P w H h a (.ins C dx fs) from hok a _ e)
  exact ⟨mA, ⟨ob, n, ne⟩, r, q, z, d⟩
end

structure Cls (K : PySem.W.Frag) (C : Addr) : Prop where
  pg : PySem.W.plainGet K C Str.empty = true
  hd : PySem.W.hasDictIn K C = true
  po : PySem.W.plainOver K C = true
  sa : PySem.W.findIn K (.ref C) "__setattr__" = some (some (.builtin "object.__setattr__"))
theorem Cls.get {K : PySem.W.Frag} {C : Addr} (c : Cls K C) (f : Str) : PySem.W.plainGet K C f = true := c.pg
structure Con (K : PySem.W.Frag) (C : Addr) (f : Str) (v : V) (u : Value) : Prop where
  at_ : PySem.W.findIn K (.ref C) f = some (some u)
  rel : RelV v u
  get : PySem.W.specialIn K u "__get__" = some none
  cp : PySem.W.copiedNames.contains f = false
structure Meth (K : PySem.W.Frag) (C : Addr) (m : Str) (f : Addr) : Prop where
  at_ : PySem.W.findIn K (.ref C) m = some (some (.ref f))
  fn : PySem.W.isFn K (.ref f) = true
  kp : PySem.W.keepIn K (.ref f) = true

section
variable {X : Cx} {pins : List (Addr × Obj)} {σ : St} {H : Hp} {s : Shared} {a C dx : Addr} {fs : List (Str × V)} {f : Str} {v : V} {A : Around} {E : Value → Shared → Prop}

end

section
variable {X : Cx} {o e value : Expr} {f : Str} {pos pos' tpos : Pos} {ta tv : TE}
end

section
variable {X : Cx} {pins : List (Addr × Obj)} {σ : St} {H : Hp} {s : Shared} {A : Around} {E : Value → Shared → Prop} {Q : Value → Shared → Prop} {c : Value} {b : Bool}
inductive TyOf (K : PySem.W.Frag) (H : Hp) : V → Value → Prop where
  | non : TyOf K H .non (.type "NoneType")
  | bl (x : Bool) : TyOf K H (.bl x) (.type "bool")
  | int (i : Int) : TyOf K H (.int i) (.type "int")
  | str (x : Str) : TyOf K H (.str x) (.type "str")
  | flt (x : UInt64) : TyOf K H (.flt x) (.type "float")
  | lst {a : Addr} {xs : List V} (e : H a = some (.lst xs)) : TyOf K H (.ref a) (.type "list")
  | frz {a : Addr} {o : Obj} {xs : List V} (e : H a = some (.frz o (.lst xs))) : TyOf K H (.ref a) (.type "list")
  | tup {a : Addr} {xs : List V} (e : H a = some (.tup xs)) : TyOf K H (.ref a) (.type "tuple")
  | dK {a : Addr} {kvs : List (Key × V)} (e : H a = some (.dK kvs)) : TyOf K H (.ref a) (.type "dict")
  | dT {a : Addr} {kvs : List (List Key × V)} (e : H a = some (.dT kvs)) : TyOf K H (.ref a) (.type "dict")
  | ins {a C dx : Addr} {fs : List (Str × V)} (e : H a = some (.ins C dx fs)) (cl : Cls K C) (ha : PySem.W.findIn K (.ref C) "__class__" = some (some (.builtin "object.__class__")))
      (hn : PySem.W.specialIn K (.builtin "object.__class__") "__get__" = some (some (.builtin "getset_descriptor.__get__"))) (htk : PySem.W.takesIn K (.builtin "object.__class__") = some true)
      (hm : PySem.W.mroIn K C (.type "object") = some true) : TyOf K H (.ref a) (.ref C)
theorem isinst_ok {x : V} {u t : Value} (I : Inv X pins σ H s) (rx : RelV x u) (ty : TyOf X.K H x t) (e : PySem.W.kitOne X.K t c = some b) (h : ∀ tk, Q (.bool b) { s with toks := tk }) :
    wpAny (model X.prog X.w) A (call (.builtin "isinstance") [u, c]) Q E s := by
  cases ty with
  | non => cases (show u = Value.none from rx); exact PySem.W.kia_one PySem.W.kitx_none I.kIn True.intro e (fun z => nomatch z) h
  | bl y => cases (show u = Value.bool y from rx); exact PySem.W.kia_one PySem.W.kitx_bool I.kIn True.intro e (fun z => nomatch z) h
  | int i => obtain ⟨t, q⟩ := (show ∃ t, u = Value.int i t from rx); cases q; exact PySem.W.kia_one PySem.W.kitx_int I.kIn True.intro e (fun z => nomatch z) h
  | str y => obtain ⟨t, q⟩ := (show ∃ t, u = Value.str y t from rx); cases q; exact PySem.W.kia_one PySem.W.kitx_str I.kIn True.intro e (fun z => nomatch z) h
  | flt y => obtain ⟨t, q⟩ := (show ∃ t, u = Value.float y t from rx); cases q; exact PySem.W.kia_one PySem.W.kitx_float I.kIn True.intro e (fun z => nomatch z) h
  | @lst a xs ea =>
    cases (show u = Value.ref a from rx)
    obtain ⟨_, _, n, _, h1⟩ := (show ObjOk X.prog X.w H s.heap a (.lst xs) from I.hok a _ ea)
    exact PySem.W.kia_one PySem.W.kitx_list I.kIn ⟨_, h1, rfl⟩ e (fun z => nomatch z) h
  | @frz a ob xs ea =>
    cases (show u = Value.ref a from rx)
    obtain ⟨_, _, _, n, _, h1⟩ := (show ObjOk X.prog X.w H s.heap a (.frz ob (.lst xs)) from I.hok a _ ea)
    exact PySem.W.kia_one PySem.W.kitx_list I.kIn ⟨_, h1, rfl⟩ e (fun z => nomatch z) h
  | @tup a xs ea =>
    cases (show u = Value.ref a from rx)
    obtain ⟨_, _, _, p⟩ := (show ObjOk X.prog X.w H s.heap a (.tup xs) from I.hok a _ ea)
    obtain ⟨o, h1, h2, _⟩ := p
    exact PySem.W.kia_one PySem.W.kitx_tuple I.kIn ⟨o, h1, h2⟩ e (fun z => nomatch z) h
  | @dK a kvs ea =>
    cases (show u = Value.ref a from rx)
    obtain ⟨_, _, vs, _, p⟩ := (show ObjOk X.prog X.w H s.heap a (.dK kvs) from I.hok a _ ea)
    obtain ⟨o, es, ep, h1, h2, _⟩ := p
    exact PySem.W.kia_one PySem.W.kitx_dict I.kIn ⟨o, h1, h2.1⟩ e (fun z => nomatch z) h
  | @dT a kvs ea =>
    cases (show u = Value.ref a from rx)
    obtain ⟨_, _, xs, _, o, es, ep, h1, h2, _⟩ := (show ObjOk X.prog X.w H s.heap a (.dT kvs) from I.hok a _ ea)
    exact PySem.W.kia_one PySem.W.kitx_dict I.kIn ⟨o, h1, h2.1⟩ e (fun z => nomatch z) h
  | @ins a C dx fs ea cl ha hn htk hm =>
    cases (show u = Value.ref a from rx)
    obtain ⟨mA, O, _⟩ := ins_get I.hok ea
    obtain ⟨od, J, _⟩ := O.look
    exact PySem.W.kia_one (PySem.W.kitx_own (cl.get _) cl.hd ha hn htk hm) I.kIn J e (fun z => nomatch z) h
end
end L2

namespace L2
open PySem PySem.Spec PyProof.Rows

structure Room (k : Nat) (A : Around) : Prop where
  hd : A.handled = none
  dp : A.depth + 3 * k + 5 < recursionLimit
  un : A.units + 16 * k + 200 < cLine
theorem Room.mono {j k : Nat} {A : Around} (r : Room k A) (h : j ≤ k) : Room j A := ⟨r.hd, by have := r.dp; omega, by have := r.un; omega⟩
theorem Room.deeper {k : Nat} {A : Around} (r : Room (k + 1) A) (env : Env) : Room k (A.deeper env) :=
  ⟨r.hd, by have := r.dp; show A.depth + 1 + 3 * k + 5 < _; omega, by have := r.un; show A.units + 3 + 16 * k + 200 < _; omega⟩
theorem Room.depth {k : Nat} {A : Around} (r : Room k A) : A.depth < recursionLimit := by have := r.dp; omega
theorem Room.units {k : Nat} {A : Around} (r : Room k A) : A.units + 64 < cLine := by have := r.un; omega
theorem Room.units0 {k : Nat} {A : Around} (r : Room k A) : A.units < cLine := by have := r.un; omega

def tNil : TA := fun _ H Q => Q [] H
def tCons (ta : TE) (tr : TA) : TA := fun σ H Q => ta σ H fun x H1 => tr σ H1 fun xs H2 => Q (x :: xs) H2
section
variable {X : Cx} {e : Expr} {es : List Expr} {te : TE} {t : TA} {pos : Pos}
theorem pa_nil : PA X [] tNil := fun _ _ _ _ H Q I h => Calls.spliced_nil ⟨[], H, I, .nil, h⟩
theorem pa_cons (ha : PE X e te) (hr : PA X es t) (hs : starEach (e :: es) X.env = (false, eval e X.env) :: starEach es X.env := by rfl) : PA X (e :: es) (tCons te t) := by
  intro pos pins s σ H Q I h
  rw [hs]
  show wpAny _ _ (spliced ((false, eval e X.env) :: backTo pos (starEach es X.env))) _ _ s
  refine Calls.spliced_cons (thn (ha pins s σ H _ I h) fun u s1 ⟨x, H1, I1, r1, q1⟩ => ?_)
  exact thn (hr pos pins s1 σ H1 _ I1 q1) fun us s2 ⟨xs, H2, I2, r2, q2⟩ => ⟨x :: xs, H2, I2, .cons r1 r2, q2⟩

def tTup (t : TA) : TE := fun σ H Q => t σ H fun xs H1 => xs.length ≤ sizeLine ∧ ∀ p, H1 p = none → Q (.ref p) (upd H1 p (.tup xs))
def tLst (t : TA) : TE := fun σ H Q => t σ H fun xs H1 => xs.length ≤ sizeLine ∧ ∀ p, H1 p = none → Q (.ref p) (upd H1 p (.lst xs))
theorem pe_tup {x1} (h : PA X es t) : PE X (.Tuple es x1 pos) (tTup t) := by
  intro pins s σ H Q I hq
  refine wpAny_Tuple_spliced (thn (h pos pins s σ H _ I hq) fun us s1 ⟨xs, H1, I1, r, z, q⟩ => ⟨by rw [← r.length]; exact z, ?_⟩)
  have hf : H1 s1.heap.objs.size = none := I1.hok.fresh (Nat.le_refl _)
  refine ⟨.ref s1.heap.objs.size, upd H1 s1.heap.objs.size (.tup xs), I1.laid (t' := s1.toks) (fun b u e => Heap.get?_push_of_some _ e) (Nat.le_refl _) ?_, rfl, q _ hf⟩
  exact ⟨z, us, r, ⟨_, Heap.get?_push_size _ rfl, rfl, _, rfl⟩⟩
theorem pe_lst (h : PA X es t) : PE X (.List es pos) (tLst t) := by
  intro pins s σ H Q I hq
  refine wpAny_List_spliced (thn (h pos pins s σ H _ I hq) fun us s1 ⟨xs, H1, I1, r, z, q⟩ => ⟨by rw [← r.length]; exact z, ?_⟩)
  have hf : H1 s1.heap.objs.size = none := I1.hok.fresh (Nat.le_refl _)
  refine ⟨.ref s1.heap.objs.size, upd H1 s1.heap.objs.size (.lst xs), I1.laid (t' := s1.toks) (fun b u e => Heap.get?_push_of_some _ e) (Nat.le_refl _) ?_, rfl, q _ hf⟩
  exact ⟨z, us, 0, r, Heap.get?_push_size _ rfl⟩
end

abbrev Sp := List V → Hp → VK → XK → Prop
abbrev CXT := List Env → Hp → Shared → XK → Value → Shared → Prop

structure Env0 (P : Program) (w : World) (K : PySem.W.Frag) (mg : Str → Option Value) (base : Heap) (A : Around) (outer : List Env) (s : Shared) (H : Hp) : Prop where
  frames : A.frames = some outer
  mod : Mod K mg base
  bs : ∀ b o, base.get? b = some o → s.heap.get? b = some o ∧ H b = none
  bsz : base.objs.size ≤ s.heap.objs.size
  funs : s.heap.FunFrames base outer
  frf : ∀ b ∈ frs outer, H b = none
  hok : HOk P w H s.heap
  bare : AllBare s.gens
def CE (outer : List Env) (P : Program) (w : World) (H : Hp) (s : Shared) (Q : VK) (u : Value) (s' : Shared) : Prop :=
  ∃ v H', s'.os = s.os ∧ AllBare s'.gens ∧ Un (frs outer) [] H H' s.heap s'.heap ∧ HOk P w H' s'.heap ∧ RelV v u ∧ Q v H'
def CR (CX : CXT) (outer : List Env) (P : Program) (w : World) (H : Hp) (s : Shared) (Q : VK) (E : XK) (r : Result) (s' : Shared) : Prop :=
  match r with
  | .ok (.ret u) => CE outer P w H s Q u s'
  | .ok _ => False
  | .error e => CX outer H s E e s'
structure FnOk (P : Program) (w : World) (K : PySem.W.Frag) (mg : Str → Option Value) (base : Heap) (CX : CXT) (k : Nat) (f : Addr) (fd : FuncData) (ps : List Str) (sp : Sp) : Prop where
  len : ∀ vs H Q E, sp vs H Q E → vs.length = ps.length
  run : ∀ (A : Around) (outer : List Env) (s : Shared) (H : Hp) (args : Args) (us : List Value) (vs : List V) (Q : VK) (E : XK), Room k A → Env0 P w K mg base A outer s H → BindsTo s fd args (ps.zip us) → Vals vs us → sp vs H Q E →
    codeAny (model P w) A (.call (.ref f) args) (CR CX outer P w H s Q E) s
section
variable {X : Cx} {pins : List (Addr × Obj)} {σ : St} {H : Hp} {s s' : Shared}
theorem Inv.env0 (I : Inv X pins σ H s) : Env0 X.prog X.w X.K X.mg X.base X.A X.stack s H :=
  ⟨I.ok.frames, I.ok.mod, I.bs, Nat.le_trans I.ok.bsz I.sz, I.stack, I.stkFree, I.hok, I.bare⟩
theorem Inv.after {Q : VK} {u : Value} (I : Inv X pins σ H s) (h : CE X.stack X.prog X.w H s Q u s') : EP X pins σ Q u s' := by
  obtain ⟨v, H', os, bare, un, hok, r, q⟩ := h
  obtain ⟨hh, g, d, t, os'⟩ := s'
  obtain rfl : os' = s.os := os
  exact ⟨v, H', I.call (h' := hh) (g' := g) (d' := d) (t' := t) (ch := []) un hok bare (fun b z => absurd z (by simp)), r, q⟩
end

def tCall (sp : Sp) (dvs : List V) (E : XK) (t : TA) : TE := fun σ H Q => t σ H fun vs H1 => sp (vs ++ dvs) H1 Q E
def Binds (K : PySem.W.Frag) (fd : FuncData) (ps : List Str) (ds : List Value) : Prop :=
  ∀ (s : Shared) (us : List Value), K.In s.heap → (us ++ ds).length = ps.length → BindsTo s fd ⟨us, []⟩ (ps.zip (us ++ ds))
theorem Binds.all {K : PySem.W.Frag} {fd : FuncData} {ps : List Str} (h : ∀ us : List Value, us.length = ps.length → bindArgs fd ⟨us, []⟩ = pure (ps.zip us)) : Binds K fd ps [] := fun s us _ hl => by
  rw [List.append_nil] at hl ⊢
  exact .of_eq (h us hl)

def Passes (CX : CXT) (X : Cx) (E : XK) : Prop := ∀ (pins : List (Addr × Obj)) (σ : St) (H : Hp) (s : Shared) (e : Value) (s' : Shared), Inv X pins σ H s → CX X.stack H s E e s' → X.xe e s'

section
variable {X : Cx} {CX : CXT} {k : Nat} {f C : Addr} {fd : FuncData} {ps : List Str} {sp : Sp} {dvs : List V} {ds : List Value} {E : XK} {x m : Str} {p pos apos : Pos} {e o : Expr} {es : List Expr} {ta : TE} {t : TA}

theorem run_fn {pins : List (Addr × Obj)} {σ : St} {H : Hp} {s : Shared} {Q : VK} {us : List Value} {vs : List V} (F : FnOk X.prog X.w X.K X.mg X.base CX k f fd ps sp) (hr : Room k X.A) (hb : Binds X.K fd ps ds) (hd : Vals dvs ds) (hx : Passes CX X E)
    (I : Inv X pins σ H s) (r : Vals vs us) (h : sp (vs ++ dvs) H Q E) : wpAny (model X.prog X.w) X.A (call (.ref f) us) (EP X pins σ Q) X.xe s := by
  have r2 : Vals (vs ++ dvs) (us ++ ds) := r.append hd
  have hl : (us ++ ds).length = ps.length := by rw [← r2.length]; exact F.len _ _ _ _ h
  refine wpAny_call (codeAny_mono (F.run X.A X.stack s H ⟨us, []⟩ (us ++ ds) (vs ++ dvs) Q E hr I.env0 (hb s us I.kIn hl) r2 h) fun r s' hq => ?_)
  cases r with
  | error e => exact hx pins σ H s e s' I hq
  | ok fl =>
    cases fl with
    | ret u => exact I.after hq
    | next => exact False.elim hq
    | brk => exact False.elim hq
    | cont => exact False.elim hq

theorem pe_call (F : FnOk X.prog X.w X.K X.mg X.base CX k f fd ps sp) (hr : Room k X.A) (hg : Gl X x) (hm : X.mg x = some (.ref f)) (hk : PySem.W.keepIn X.K (.ref f) = true) (hb : Binds X.K fd ps ds) (hd : Vals dvs ds) (hx : Passes CX X E)
    (ha : PA X (e :: es) t) (hdb : (x == ("__debug__" : Str)) = false := by decide) (he : starEach (e :: es) X.env = (false, eval e X.env) :: starEach es X.env := by rfl) (hpl : (backTo pos (starEach es X.env)).any (·.1) = false := by rfl) :
    PE X (.Call (.Name x p) (e :: es) [] pos) (tCall sp dvs E t) := by
  intro pins s σ H Q I h
  refine wpAny_Call_Name_kw (ld_glob I hg hm ?_ hdb)
  refine PySem.W.callWith_K (h₀ := X.base) I.ok.mod.kin hk (thn (ha pos pins s σ H _ I h) fun us s1 ⟨vs, H1, I1, r, q⟩ => ⟨I1.kIn, ?_⟩) he hpl
  exact run_fn F hr hb hd hx I1 r q
structure Mk (K : PySem.W.Frag) (C f : Addr) : Prop where
  makes : PySem.W.makesIn K C = true
  init : PySem.W.findIn K (.ref C) "__init__" = some (some (.ref f))
  fn : PySem.W.isFn K (.ref f) = true
  kp : PySem.W.keepIn K (.ref C) = true

end

section
variable {X : Cx} {CX : CXT} {k : Nat} {f C : Addr} {fd : FuncData} {ps ks : List Str} {sp : Sp} {E : XK} {x m : Str} {p pos apos kpos : Pos} {e o : Expr} {es : List Expr} {kws : List Keyword} {te ta : TE} {t tk : TA} {nm : Option Str}
structure KBinds (K : PySem.W.Frag) (fd : FuncData) (ps ks : List Str) (g : List Value → List Value → List Value) (gV : List V → List V → List V) : Prop where
  to : ∀ (s : Shared) (us ws : List Value), K.In s.heap → (g us ws).length = ps.length → BindsTo s fd ⟨us, ks.zip ws⟩ (ps.zip (g us ws))
  rel : ∀ {vs : List V} {us : List Value} {zs : List V} {ws : List Value}, Vals vs us → Vals zs ws → Vals (gV vs zs) (g us ws)
variable {g : List Value → List Value → List Value} {gV : List V → List V → List V}
end

structure FnScope (N P : List Str) (sc : Scope) : Prop where
  kind : sc.kind = .function
  co : sc.isCoroutine = false
  gen : sc.isGenerator = false
  nd : N.Nodup
  pre : N.take P.length = P
  par : ∀ x ∈ P, sc.names.lookup x = some .local ∨ sc.names.lookup x = some .cell
  nofree : ∀ y ∈ sc.names, y.2 ≠ .free

theorem bindL_out {kindOf : Str → Option NameKind} {x : Str} : ∀ {binds : List (Str × Value)} {m : Str → Option Value}, (∀ v, (x, v) ∉ binds) → bindL kindOf binds m x = m x
  | [], _, _ => rfl
  | (n, v) :: r, m, h => by
    unfold bindL
    rw [bindL_out fun w hw => h w (List.mem_cons_of_mem _ hw)]
    split
    · have : x ≠ n := by rintro rfl; exact h v List.mem_cons_self
      simp [this]
    · rfl
theorem bindC_out {kindOf : Str → Option NameKind} {x : Str} : ∀ {binds : List (Str × Value)} {m : Str → Option Value}, (∀ v, (x, v) ∉ binds) → bindC kindOf binds m x = m x
  | [], _, _ => rfl
  | (n, v) :: r, m, h => by
    unfold bindC
    rw [bindC_out fun w hw => h w (List.mem_cons_of_mem _ hw)]
    split
    · rfl
    · have : x ≠ n := by rintro rfl; exact h v List.mem_cons_self
      simp [this]
theorem bindL_get {kindOf : Str → Option NameKind} {x : Str} {v : Value} : ∀ {P : List Str} {vs : List Value} {i : Nat} {m : Str → Option Value}, P.Nodup → P[i]? = some x → vs[i]? = some v → kindOf x = some .local →
    bindL kindOf (P.zip vs) m x = some v
  | [], _, _, _, _, h, _, _ => by simp at h
  | _ :: _, [], _, _, _, _, h, _ => by simp at h
  | p :: P, w :: vs, 0, m, nd, h1, h2, hk => by
    simp at h1 h2; subst h1; subst h2
    show bindL kindOf ((p, w) :: P.zip vs) m p = _
    unfold bindL
    rw [bindL_out fun v hv => (List.nodup_cons.mp nd).1 (List.of_mem_zip hv).1, if_pos hk]
    simp
  | p :: P, w :: vs, i + 1, m, nd, h1, h2, hk => by
    show bindL kindOf ((p, w) :: P.zip vs) m x = _
    unfold bindL
    exact bindL_get (i := i) (List.nodup_cons.mp nd).2 (by simpa using h1) (by simpa using h2) hk
theorem bindC_get {kindOf : Str → Option NameKind} {x : Str} {v : Value} : ∀ {P : List Str} {vs : List Value} {i : Nat} {m : Str → Option Value}, P.Nodup → P[i]? = some x → vs[i]? = some v → kindOf x ≠ some .local →
    bindC kindOf (P.zip vs) m x = some v
  | [], _, _, _, _, h, _, _ => by simp at h
  | _ :: _, [], _, _, _, _, h, _ => by simp at h
  | p :: P, w :: vs, 0, m, nd, h1, h2, hk => by
    simp at h1 h2; subst h1; subst h2
    show bindC kindOf ((p, w) :: P.zip vs) m p = _
    unfold bindC
    rw [bindC_out fun v hv => (List.nodup_cons.mp nd).1 (List.of_mem_zip hv).1, if_neg hk]
    simp
  | p :: P, w :: vs, i + 1, m, nd, h1, h2, hk => by
    show bindC kindOf ((p, w) :: P.zip vs) m x = _
    unfold bindC
    exact bindC_get (i := i) (List.nodup_cons.mp nd).2 (by simpa using h1) (by simpa using h2) hk

def start (N : List Str) (vs : List V) : St := vs.map some ++ List.replicate (N.length - vs.length) none

def cxOf (CX : CXT) (P : Program) (w : World) (K : PySem.W.Frag) (mg : Str → Option Value) (base : Heap) (N : List Str) (qual : Str) (scope : Scope) (f : Addr) (cd : Value) (A : Around) (outer : List Env) (s : Shared) (H : Hp) (E : XK) : Cx where
  prog := P
  w := w
  K := K
  mg := mg
  base := base
  A := A.deeper (envOfC qual scope s.heap.objs.size f cd)
  N := N
  s₀ := s
  H₀ := H
  env := envOfC qual scope s.heap.objs.size f cd
  outer := outer
  stack := envOfC qual scope s.heap.objs.size f cd :: outer
  ex := []
  calm := true
  fn := fun _ => true
  pn := []
  xe := fun e s' => wpAny (model P w) (A.deeper (envOfC qual scope s.heap.objs.size f cd)) (leaving (envOfC qual scope s.heap.objs.size f cd) e) (fun _ s'' => CX outer H s E e s'') (fun e' s'' => CX outer H s E e' s'') s'

theorem cell_has {sc : Scope} {n : Nat} {x : Str} (h : sc.names.lookup x = some .cell) : ∃ c, (cellsFrom n sc.names []).lookup x = some c := by
  have q := PySem.W.cellsFrom_some sc.names n [] (.inl h)
  exact Option.isSome_iff_exists.mp q

theorem inv_start {CX : CXT} {P : Program} {w : World} {K : PySem.W.Frag} {mg : Str → Option Value} {base : Heap} {N ps : List Str} {qual : Str} {scope : Scope} {f : Addr} {cd : Value} {A : Around} {outer : List Env} {s s1 : Shared} {H : Hp} {E : XK} {us : List Value} {vs : List V}
    (S : FnScope N ps scope) (hd : A.handled = none) (e0 : Env0 P w K mg base A outer s H) (hl : vs.length = ps.length) (r : Vals vs us)
    (x : InCallC s s.heap.objs.size (bindL (envOfC qual scope s.heap.objs.size f cd).kindOf (ps.zip us) fun _ => none) (cellsFrom (s.heap.objs.size + 1) scope.names []) (bindC (envOfC qual scope s.heap.objs.size f cd).kindOf (ps.zip us) fun _ => none) s1) :
    Inv (cxOf CX P w K mg base N qual scope f cd A outer s H E) [] (start N vs) H s1 := by
  have hpl : ps.length ≤ N.length := by have := congrArg List.length S.pre; rw [List.length_take] at this; omega
  obtain ⟨h1, tk, rfl, hk⟩ := x.done
  have noA : ∀ b : Addr, b ∉ (cxOf CX P w K mg base N qual scope f cd A outer s H E).ex := fun b z => absurd (show b ∈ ([] : List Addr) from z) (by simp)
  refine ⟨⟨e0.mod, S.kind, rfl, rfl, Nat.le_refl _, fun y z c h1 h2 => ?_, fun y hy => ?_, fun y c _ h => ?_, fun _ => hd, Around.frames_deeper e0.frames, .inr ⟨rfl, rfl⟩, fun b z => absurd z (noA b), e0.bs, e0.bsz, fun b _ _ => noA b, fun b z => absurd z (noA b), e0.funs, e0.frf⟩,
    rfl, e0.bare, Un.kept hk, ⟨_, x.toInCall.ns, fun i y v h1 h2 h3 => ?_⟩, fun y c h => ⟨_, x.cell y c h⟩, e0.hok.fresh (Nat.le_refl _), fun y c h => ?_, fun p hp => absurd (show p ∈ ([] : List (Addr × Obj)) from hp) (by simp), e0.hok.kept hk, ?_⟩
  · exact name_of_addr x.apart (PySem.mem_of_lookup h1) (PySem.mem_of_lookup h2)
  · have hy : scope.names.lookup y = some .cell ∨ scope.names.lookup y = some .free := hy
    rcases hy with hy | hy
    · exact cell_has hy
    · exact absurd rfl (S.nofree _ (PySem.mem_of_lookup hy))
  · exact Nat.le_of_lt (x.above y c (PySem.mem_of_lookup h))
  · have hi : i < vs.length := by
      unfold start at h2
      by_cases hi : i < vs.length
      · exact hi
      · rw [List.getElem?_append_right (by simpa using hi)] at h2
        rw [List.getElem?_replicate] at h2
        split at h2 <;> cases h2
    have ha : vs[i]? = some v := by
      unfold start at h2
      rw [List.getElem?_append_left (by simpa using hi), List.getElem?_map] at h2
      cases e : vs[i]? with
      | none => rw [e] at h2; cases h2
      | some a => rw [e] at h2; cases h2; rfl
    obtain ⟨u, hu, rv⟩ := r.get ha
    have hp : ps[i]? = some y := by
      rw [← S.pre, List.getElem?_take_of_lt (by omega)]; exact h1
    have ndP : ps.Nodup := by rw [← S.pre]; exact S.nd.sublist (List.take_sublist _ _)
    refine ⟨u, rv, ?_⟩
    rcases S.par y (List.mem_of_getElem? hp) with k | k
    · exact .inl ⟨k, bindL_get ndP hp hu k⟩
    · obtain ⟨c, e⟩ := cell_has (n := s.heap.objs.size + 1) k
      refine .inr ⟨.inl k, c, e, ?_⟩
      have q := x.cell y c e
      rw [bindC_get ndP hp hu (by show scope.names.lookup y ≠ _; rw [k]; decide)] at q
      exact q
  · exact e0.hok.fresh (Nat.le_of_lt (x.above y c (PySem.mem_of_lookup h)))
  · unfold start
    show _ = N.length
    rw [List.length_append, List.length_map, List.length_replicate]
    omega

theorem fn_of {CX : CXT} {P : Program} {w : World} {K : PySem.W.Frag} {mg : Str → Option Value} {base : Heap} {k : Nat} {f : Addr} {name qual : Str} {params : Arguments} {body : List Stmt} {scope : Scope} {dV kV doc pm cdv ct oc : Value} {an od : Option Addr}
    {osl : Array (Option Value)} {N ps : List Str} {sp : Sp} (lk : K.lookup f = some ⟨oc, od, .func (PySem.W.fnOf name qual params body scope dV kV doc pm an cdv ct), osl⟩) (hcd : PySem.W.codeIn K cdv qual = true) (S : FnScope N ps scope)
    (len : ∀ vs H Q E, sp vs H Q E → vs.length = ps.length)
    (hbody : ∀ (A : Around) (outer : List Env) (s : Shared) (H : Hp) (vs : List V) (Q : VK) (E : XK), Room k (A.deeper (envOfC qual scope s.heap.objs.size f cdv)) → sp vs H Q E →
      ∃ t, PSs (cxOf CX P w K mg base N qual scope f cdv A outer s H E) body t ∧ t { nx := fun _ H' => Q .non H', rt := Q } (start N vs) H) :
    FnOk P w K mg base CX (k + 1) f (PySem.W.fnOf name qual params body scope dV kV doc pm an cdv ct) ps sp := by
  refine ⟨len, fun A outer s H args us vs Q E hr e0 hb r hsp => ?_⟩
  have hl := len _ _ _ _ hsp
  have KX : K.In s.heap := e0.mod.kin.keeps fun b o e => (e0.bs b o e).1
  have lim : s.heap.NoLimit := e0.mod.nolimit.keeps fun b o e => (e0.bs b o e).1
  have hkind : ∀ y ∈ ps.zip us, scope.names.lookup y.1 = some .local ∨ (scope.names.lookup y.1 = some .cell ∧ ((cellsFrom (s.heap.objs.size + 1) scope.names []).lookup y.1).isSome = true) := fun ⟨n, v⟩ hy => by
    rcases S.par n (List.of_mem_zip hy).1 with q | q
    · exact .inl q
    · exact .inr ⟨q, PySem.W.cellsFrom_some _ _ _ (.inl q)⟩
  refine codeAny_call_function hr.depth (KX _ _ lk) rfl S.co S.gen rfl (PySem.W.codeRec_of KX hcd) (hb _ _ _ _ ?_)
  refine wpAny_newFunctionEnv_cells S.kind hkind fun env he s1 x => ?_
  subst he
  refine ⟨lim.keeps x.toInCall.keep, codeAny_func ?_⟩
  obtain ⟨t, ht, hq⟩ := hbody A outer s H vs Q E (hr.deeper _) hsp
  have I : Inv (cxOf CX P w K mg base N qual scope f cdv A outer s H E) [] (start N vs) H s1 := inv_start S hr.hd e0 hl r x
  refine wpAny_mono (ht [] s1 (start N vs) H _ I hq) (fun fl s' hs => ?_) fun e s' hs => hs
  have fin : ∀ {σ' : St} {H' : Hp} {v : V} {u : Value}, Inv (cxOf CX P w K mg base N qual scope f cdv A outer s H E) [] σ' H' s' → RelV v u → Q v H' → CE outer P w H s Q u s' :=
    fun {σ' H' v u} J rv q => ⟨v, H', J.os, J.bare, J.base, J.hok, rv, q⟩
  cases fl with
  | ret u =>
    obtain ⟨v, σ', H', J, rv, q⟩ := hs
    exact fin J rv q
  | next =>
    obtain ⟨σ', H', J, q⟩ := hs
    exact fin (v := V.non) (u := Value.none) J rfl q
  | brk =>
    obtain ⟨_, _, _, q⟩ := hs
    exact False.elim q
  | cont =>
    obtain ⟨_, _, _, q⟩ := hs
    exact False.elim q
end L2

namespace L2
open PySem PySem.Spec PyProof.Rows
section
variable {X : Cx} {x : Str} {p pos : Pos} {e : Expr} {es : List Expr} {t : TA} {id T : String} {r : List V → Hp → VK → Prop}

def tCB (r : List V → Hp → VK → Prop) (t : TA) : TE := fun σ H Q => t σ H fun vs H1 => r vs H1 Q
theorem pe_callB (hc : CallR X (.builtin id) r) (hg : Gl X x) (hm : X.mg x = none) (hv : bootBuiltins x = some (.builtin id)) (ha : PA X (e :: es) t) (hn : x ≠ "__name__" := by decide) (hdb : (x == ("__debug__" : Str)) = false := by decide)
    (he : starEach (e :: es) X.env = (false, eval e X.env) :: starEach es X.env := by rfl) (hpl : (backTo pos (starEach es X.env)).any (·.1) = false := by rfl) : PE X (.Call (.Name x p) (e :: es) [] pos) (tCB r t) := by
  intro pins s σ H Q I h
  refine wpAny_Call_Name_kw (ld_blt I hg hm hv ?_ hn hdb)
  exact PyProof.Rows.callWith_builtin1 (thn (ha pos pins s σ H _ I h) fun us s1 ⟨vs, H1, I1, r1, q1⟩ => hc pins s1 σ H1 vs us Q I1 r1 q1) he hpl
theorem pe_callTy (hc : CallR X (.type T) r) (hg : Gl X x) (hm : X.mg x = none) (hv : bootBuiltins x = some (.type T)) (ha : PA X (e :: es) t) (hn : x ≠ "__name__" := by decide) (hdb : (x == ("__debug__" : Str)) = false := by decide)
    (he : starEach (e :: es) X.env = (false, eval e X.env) :: starEach es X.env := by rfl) (hpl : (backTo pos (starEach es X.env)).any (·.1) = false := by rfl) : PE X (.Call (.Name x p) (e :: es) [] pos) (tCB r t) := by
  intro pins s σ H Q I h
  refine wpAny_Call_Name_kw (ld_blt I hg hm hv ?_ hn hdb)
  exact PyProof.Rows.callWith_type1 (thn (ha pos pins s σ H _ I h) fun us s1 ⟨vs, H1, I1, r1, q1⟩ => hc pins s1 σ H1 vs us Q I1 r1 q1) he hpl
end
end L2

namespace HT
open PySem PyProof.Rows

def lexLt : List Int → List Int → Bool
  | [], [] => false
  | [], _ :: _ => true
  | _ :: _, [] => false
  | x :: xs, y :: ys => if x = y then lexLt xs ys else decide (x < y)
theorem lexLt_cons (x y : Int) (xs ys : List Int) : lexLt (x :: xs) (y :: ys) = if x = y then lexLt xs ys else decide (x < y) := rfl
theorem lexLt_nil_nil : lexLt [] [] = false := rfl
theorem lexLt_nil_cons (y : Int) (ys : List Int) : lexLt [] (y :: ys) = true := rfl
theorem lexLt_cons_nil (x : Int) (xs : List Int) : lexLt (x :: xs) [] = false := rfl

theorem eqAt_int (A : Around) (s : Shared) (a : Int) (t : Tok) (c : Int) (u : Tok) : ∃ e, SeqAt.EqAt A s (.int a t) (.int c u) e ∧ (e = true ↔ a = c) :=
  ⟨(a == c), SeqAt.EqAt.int_int a t c u, by simp⟩
theorem rcLt_int (A : Around) (s : Shared) (a : Int) (t : Tok) (c : Int) (u : Tok) (prog : Program) (w : World) (E : Value → Shared → Prop) (Q : Value → Shared → Prop) (h : Q (.bool (decide (a < c))) s) :
    wpAny (model prog w) A (richCompare .Lt (.int a t) (.int c u)) Q E s :=
  (PyProof.Rows.lt_int h : wpAny (model prog w) A (compareOp .Lt (.int a t) (.int c u)) Q E s)

section
open PySem.SeqAt
open PySem.AutoSeq1 (wpAny_loadPart')
open PySem.MeetsSeq PySem.MeetsSeq2 PySem.MeetsSeq3

theorem tuple_lt_ints (l b : Addr) (items items2 : Array Value) (n n2 : Nat) (dd dd2 : Option Addr) (sl sl2 : Array (Option Value)) (ns ms : List Int) (hi : IntsAre items.toList ns) (hj : IntsAre items2.toList ms) :
    Meets (Builtin.«tuple.__lt__» ⟨[.ref l, .ref b], []⟩)
      (fun _ R s => s.heap.get? l = some { cls := .type "tuple", dict := dd, data := .seq items n, slots := sl } ∧ s.heap.get? b = some { cls := .type "tuple", dict := dd2, data := .seq items2 n2, slots := sl2 } ∧
        R (.ok (.ret (.bool (lexLt ns ms)))) s) :=
  .of_wp fun prog w A R s h => by
    obtain ⟨hp, g, d, tk, os⟩ := s; obtain ⟨hl, hb, h⟩ := h
    have f2 := AutoSeq1.sub_tuple_tuple
    have z1 : items.size = ns.length := by rw [← hi.length]; simp
    have z2 : items2.size = ms.length := by rw [← hj.length]; simp
    wp_walk using wpAny_loadPart' hl, wpAny_loadPart' hb, wpAny_forIn_list _ (fun rest b s' => b.1 = none ∧ s' = ⟨hp, g, d, tk, os⟩ ∧ ∃ (vs ws : List Value) (ns' ms' : List Int), rest = vs.zip ws ∧
      IntsAre vs ns' ∧ IntsAre ws ms' ∧ ns'.length + items2.size = ms'.length + items.size ∧ R (.ok (.ret (.bool (lexLt ns' ms')))) ⟨hp, g, d, tk, os⟩) _
    case turn =>
      rintro ⟨y, x⟩ rest b s' ⟨hb', rfl, vs, ws, ns', ms', hz, hvi, hwi, hlen, hR⟩
      cases hvi with
      | nil => rw [List.zip_nil_left] at hz; cases hz
      | cons a t hvi' =>
        cases hwi with
        | nil => rw [List.zip_nil_right] at hz; cases hz
        | cons c u hwi' =>
          rw [List.zip_cons_cons] at hz
          injection hz with hyx hrest
          injection hyx with hy hx
          subst hy hx
          rw [lexLt_cons] at hR
          simp only [List.length_cons] at hlen
          obtain ⟨e, he, hiff⟩ := eqAt_int A.in1 ⟨hp, g, d, tk, os⟩ a t c u
          refine wpAny_bind (he prog w _ _ ?_)
          cases e with
          | true =>
            rw [if_pos (hiff.mp rfl)] at hR
            wp_walk
            exact ⟨rfl, rfl, _, _, _, _, hrest, hvi', hwi', by omega, hR⟩
          | false =>
            rw [if_neg (fun q => absurd (hiff.mpr q) Bool.false_ne_true)] at hR
            have hri := rcLt_int A.in1 ⟨hp, g, d, tk, os⟩ a t c u prog w
            wp_walk using hri
            exact ⟨_, rfl, by simpa using hR⟩
    case fin =>
      rintro ⟨b1, b2⟩ s' ⟨hb', rfl, vs, ws, ns', ms', hz, hvi, hwi, hlen, hR⟩
      simp only at hb'
      subst hb'
      have hv : lexLt ns' ms' = decide (items.size < items2.size) := by
        cases hvi with
        | nil =>
          cases hwi with
          | nil =>
            simp only [List.length_nil] at hlen
            rw [lexLt_nil_nil]
            exact (decide_eq_false (by omega)).symm
          | cons c u hw =>
            simp only [List.length_nil, List.length_cons] at hlen
            rw [lexLt_nil_cons]
            exact (decide_eq_true (by omega)).symm
        | cons a t hv =>
          cases hwi with
          | nil =>
            simp only [List.length_nil, List.length_cons] at hlen
            rw [lexLt_cons_nil]
            exact (decide_eq_false (by omega)).symm
          | cons c u hw =>
            rw [List.zip_cons_cons] at hz
            cases hz
      rw [hv] at hR
      wp_walk
      exact ⟨_, rfl, by simpa [Builtin.Tuple.tupleCompareSizes] using hR⟩
    case h =>
      exact ⟨rfl, rfl, items.toList, items2.toList, ns, ms, rfl, hi, hj, by omega, h⟩
end

section
variable {prog : Program} {w : World} {A : Around} {E : Value → Shared → Prop} {s : Shared}

theorem lt_tupInts {l b : Addr} {items items2 : Array Value} {ns ms : List Int} {Q : Value → Shared → Prop} (hl : IsTup s.heap l items) (hb : IsTup s.heap b items2) (hi : IntsAre items.toList ns) (hj : IntsAre items2.toList ms)
    (hu : A.units < cLine) (h : Q (.bool (lexLt ns ms)) s) : wpAny (model prog w) A (compareOp .Lt (.ref l) (.ref b)) Q E s := by
  obtain ⟨⟨cls, dd, data, sl⟩, ho, hc, n, hd⟩ := id hl
  obtain ⟨⟨cls2, dd2, data2, sl2⟩, ho2, hc2, n2, hd2⟩ := id hb
  simp only at hc hd hc2 hd2
  subst hc hd hc2 hd2
  exact richCompare_meets_room (op := .Lt) ⟨_, ho, rfl⟩ ⟨_, ho2, rfl⟩ PySem.F.slot_tuple_lt PySem.F.entry_tuple_lt (PySem.F.args_tuple_lt_2 _ _) (tuple_lt_ints l b items items2 n n2 dd dd2 sl sl2 ns ms hi hj)
    ⟨ho, ho2, show Value.bool (lexLt ns ms) ≠ Value.notImplemented ∧ Q (.bool (lexLt ns ms)) s from ⟨(fun x => nomatch x), h⟩⟩ hu

def sIx (n d : Nat) : Option Int → Nat
  | none => d
  | some v => if v < 0 then (v + (n : Int)).toNat else min v.toNat n
theorem sIx_nat (n d k : Nat) : sIx n d (some (k : Int)) = min k n := by
  show (if (k : Int) < 0 then ((k : Int) + (n : Int)).toNat else min (k : Int).toNat n) = min k n
  rw [if_neg (by omega), Int.toNat_natCast]
end
end HT

namespace L2
open PySem PySem.Spec PyProof.Rows

abbrev TO := St → Hp → (Option Int → Hp → Prop) → Prop
def PO (X : Cx) (e : Option Expr) (t : TO) : Prop :=
  ∀ (pins : List (Addr × Obj)) (s : Shared) (σ : St) (H : Hp) (Q : Option Int → Hp → Prop), Inv X pins σ H s → t σ H Q →
    wpAny (model X.prog X.w) X.A (evalPart e X.env) (fun u s' => ∃ o H', Inv X pins σ H' s' ∧ IsPart u o ∧ Q o H') X.xe s
def tNoPart : TO := fun _ H Q => Q none H
def tPart (t : TE) : TO := fun σ H Q => t σ H fun x H1 => ∃ i, x = .int i ∧ Q (some i) H1

theorem intsAre_of {ns : List Int} : ∀ {us : List Value}, Vals (ns.map V.int) us → IntsAre us ns := by
  induction ns with
  | nil => intro us r; rw [List.map_nil] at r; cases r; exact .nil
  | cons n ns ih =>
    intro us r
    rw [List.map_cons] at r
    cases r with
    | cons r1 r2 =>
      obtain ⟨t, e⟩ := r1
      subst e
      exact .cons n t (ih r2)

section
variable {X : Cx} {e : Expr} {te : TE} {lo hi : Option Expr} {tl th : TO} {pos p2 : Pos}

theorem po_none : PO X none tNoPart := by
  intro pins s σ H Q I h
  rw [evalPart_none]
  exact wpAny_pure ⟨none, H, I, .none, h⟩
theorem po_some (h : PE X e te) : PO X (some e) (tPart te) := by
  intro pins s σ H Q I hw
  rw [evalPart_some]
  refine thn (h pins s σ H _ I hw) fun u s1 ⟨x, H1, I1, r1, q1⟩ => ?_
  obtain ⟨i, rfl, q⟩ := q1
  obtain ⟨t, rfl⟩ := r1
  exact ⟨some i, H1, I1, .int i t, q⟩

def SlR (X : Cx) (r : V → Option Int → Option Int → Hp → VK → Prop) : Prop :=
  ∀ (pins : List (Addr × Obj)) (s : Shared) (σ : St) (H : Hp) (x : V) (v vl vu : Value) (lo hi : Option Int) (sl : Addr) (Q : VK), Inv X pins σ H s → RelV x v → s.heap.IsSliceOf sl vl vu .none → IsPart vl lo → IsPart vu hi → r x lo hi H Q →
    ∃ T id, typeLookup (.type T) "__getitem__" = pure (some (.builtin id)) ∧ s.TypeIs v T ∧ wpAny (model X.prog X.w) X.A (getItem v (.ref sl)) (EP X pins σ Q) X.xe s
def tSl (r : V → Option Int → Option Int → Hp → VK → Prop) (te : TE) (tl th : TO) : TE := fun σ H Q => te σ H fun x H1 => tl σ H1 fun l H2 => th σ H2 fun u H3 => r x l u H3 Q
theorem pe_slice {r : V → Option Int → Option Int → Hp → VK → Prop} (hr : SlR X r) (he : PE X e te) (hl : PO X lo tl) (hu : PO X hi th) : PE X (.Subscript e (.Slice lo hi none p2) pos) (tSl r te tl th) := by
  intro pins s σ H Q I h
  refine Subscript_ (thn (he pins s σ H _ I h) fun v s1 ⟨x, H1, I1, r1, q1⟩ => ?_)
  refine wpAny_Slice (thn (hl pins s1 σ H1 _ I1 q1) fun vl s2 ⟨l, H2, I2, pl, q2⟩ => thn (hu pins s2 σ H2 _ I2 q2) fun vu s3 ⟨u, H3, I3, pu, q3⟩ => ?_)
  rw [evalPart_none]
  refine wpAny_pure ?_
  have I4 : Inv X pins σ H3 { s3 with heap := s3.heap.push { cls := .type "slice", data := .fields #[vl, vu, .none] } } := I3.kept (t' := s3.toks) fun b ob q => Heap.get?_push_of_some _ q
  obtain ⟨T, id, hT, ht, hg⟩ := hr pins { s3 with heap := s3.heap.push { cls := .type "slice", data := .fields #[vl, vu, .none] } } σ H3 x v vl vu l u s3.heap.objs.size Q I4 r1 (Heap.IsSliceOf.new ..) pl pu q3
  show wpAny (model X.prog X.w) X.A (subscriptTail e (.Slice lo hi none p2) v (.ref s3.heap.objs.size)) (EP X pins σ Q) X.xe { s3 with heap := s3.heap.push { cls := .type "slice", data := .fields #[vl, vu, .none] } }
  exact tail_any (ops := [.ref s3.heap.objs.size, v]) ht hT hg (by with_unfolding_all rfl)

def cutV (xs : List V) (lo hi : Option Int) : List V := (xs.drop (HT.sIx xs.length 0 lo)).take (HT.sIx xs.length xs.length hi - HT.sIx xs.length 0 lo)
theorem cutV_length (xs : List V) (lo hi : Option Int) : (cutV xs lo hi).length ≤ xs.length := by
  unfold cutV
  rw [List.length_take, List.length_drop]
  omega
end
end L2

namespace L2
open PySem PySem.Spec PyProof.Rows

def ixN (n : Nat) (i : Int) : Option Nat := if 0 ≤ i then (if i < n then some i.toNat else none) else if -(n : Int) ≤ i then some (i + n).toNat else none
def atI {α : Type} (xs : List α) (i : Int) : Option α := (ixN xs.length i).bind fun j => xs[j]?
theorem ixN_seq {n : Nat} {i : Int} {j : Nat} (h : ixN n i = some j) : seqIndex? i n = some j ∧ j < n ∧ -(n : Int) ≤ i ∧ i < n := by
  unfold ixN at h
  by_cases h0 : 0 ≤ i
  · rw [if_pos h0] at h
    by_cases h1 : i < n
    · rw [if_pos h1] at h
      have e : i.toNat = j := Option.some.inj h
      exact ⟨by rw [seqIndex_of h0 h1, e], by omega, by omega, h1⟩
    · rw [if_neg h1] at h; cases h
  · rw [if_neg h0] at h
    by_cases h1 : -(n : Int) ≤ i
    · rw [if_pos h1] at h
      have e : (i + n).toNat = j := Option.some.inj h
      exact ⟨by rw [seqIndex_neg (by omega) h1, e], by omega, h1, by omega⟩
    · rw [if_neg h1] at h; cases h
theorem atI_get {α : Type} {xs : List α} {i : Int} {v : α} (h : atI xs i = some v) : ∃ j, seqIndex? i xs.length = some j ∧ xs[j]? = some v ∧ j < xs.length ∧ -(xs.length : Int) ≤ i ∧ i < xs.length := by
  unfold atI at h
  cases e : ixN xs.length i with
  | none => rw [e] at h; cases h
  | some j =>
    rw [e] at h
    obtain ⟨h1, h2, h3, h4⟩ := ixN_seq e
    exact ⟨j, h1, h, h2, h3, h4⟩
theorem atI_nat {α : Type} {xs : List α} {j : Nat} {v : α} (h : xs[j]? = some v) : atI xs (j : Int) = some v := by
  have hj : j < xs.length := (List.getElem?_eq_some_iff.mp h).1
  have e : ixN xs.length (j : Int) = some j := by
    unfold ixN
    rw [if_pos (by omega), if_pos (by omega)]; simp
  unfold atI; rw [e]; exact h
theorem atI_last {α : Type} (xs : List α) (v : α) : atI (xs ++ [v]) (-1) = some v := by
  have hl : (xs ++ [v]).length = xs.length + 1 := by simp
  have e : ixN (xs ++ [v]).length (-1) = some xs.length := by
    unfold ixN
    rw [hl, if_neg (by decide), if_pos (by omega)]
    congr 1
    omega
  unfold atI
  rw [e]
  show (xs ++ [v])[xs.length]? = some v
  simp

def PlainIx (b : Expr) : Prop := ∀ o i, subscripted b false o i = operate [o, i] (getItem o i)
def IxR (X : Cx) (r : R2) : Prop :=
  ∀ (value slice : Expr) (pins : List (Addr × Obj)) (s : Shared) (σ : St) (H : Hp) (x y : V) (v u : Value) (Q : VK), Inv X pins σ H s → RelV x v → RelV y u → r x y H Q →
    subscripted slice false v u = operate [v, u] (getItem v u) → wpAny (model X.prog X.w) X.A (subscriptTail value slice v u) (EP X pins σ Q) X.xe s
def MtR (X : Cx) (id : String) (r : V → List V → Hp → VK → Prop) : Prop :=
  ∀ (pins : List (Addr × Obj)) (s : Shared) (σ : St) (H : Hp) (x : V) (xs : List V) (v : Value) (us : List Value) (Q : VK), Inv X pins σ H s → RelV x v → Vals xs us → r x xs H Q →
    wpAny (model X.prog X.w) X.A (call (.builtin id) (v :: us)) (EP X pins σ Q) X.xe s
section
variable {X : Cx} {a b : Expr} {ta tb : TE} {pos : Pos}
theorem pe_ix {r : R2} (hr : IxR X r) (ha : PE X a ta) (hb : PE X b tb) (hs : PlainIx b) : PE X (.Subscript a b pos) (tOp r ta tb) := by
  intro pins s σ H Q I h
  exact Subscript_ (binT ha hb I h fun v u s2 x y H2 I2 rx ry q => hr a b pins s2 σ H2 x y v u Q I2 rx ry q (hs _ _))

def rIxL (K : PySem.W.Frag) : R2 := fun x y H Q => ∃ p xs i v, x = .ref p ∧ y = .int i ∧ SqL K H p xs ∧ atI xs i = some v ∧ Q v H
def rIxT (K : PySem.W.Frag) : R2 := fun x y H Q => ∃ p xs i v, x = .ref p ∧ y = .int i ∧ SqT K H p xs ∧ atI xs i = some v ∧ Q v H
theorem ix_list : IxR X (rIxL X.K) := by
  intro value slice pins s σ H x y v u Q I rx ry h hs
  obtain ⟨p, xs, i, z, rfl, rfl, hq, he, q⟩ := h
  cases rx
  obtain ⟨t, rfl⟩ := ry
  obtain ⟨its, r, pl, hz⟩ := I.list hq
  obtain ⟨j, h1, h2, h3, h4, h5⟩ := atI_get he
  obtain ⟨w, ew, rw'⟩ := r.get h2
  have hl := r.length
  have hn := line63
  have fin : EP X pins σ Q w s := ⟨z, H, I, rw', q⟩
  by_cases h0 : 0 ≤ i
  · have hj : i.toNat = j := by
      rw [seqIndex_of h0 h5] at h1
      exact Option.some.inj h1
    exact item_listR pl.isList h0 (by omega) (by rw [hj]; simpa using ew) fin hs
  · have hj : (i + (its.toArray.size : Int)).toNat = j := by
      rw [seqIndex_neg (by omega) h4] at h1
      rw [List.size_toArray, ← hl]
      exact Option.some.inj h1
    exact subscriptTail_builtinR (x := w) pl.isList.typeIs slot_list_getitem.lookup
      (wpAny_getItem_list_neg (Q := fun r s' => r = w ∧ EP X pins σ Q r s') pl.isList (by omega) (by rw [List.size_toArray] <;> omega) (by omega) (by rw [hj]; simpa using ew) ⟨rfl, fin⟩) hs
theorem ix_tup : IxR X (rIxT X.K) := by
  intro value slice pins s σ H x y v u Q I rx ry h hs
  obtain ⟨p, xs, i, z, rfl, rfl, hq, he, q⟩ := h
  cases rx
  obtain ⟨t, rfl⟩ := ry
  obtain ⟨its, r, pl, hz⟩ := I.tuple hq
  obtain ⟨j, h1, h2, h3, h4, h5⟩ := atI_get he
  obtain ⟨w, ew, rw'⟩ := r.get h2
  have hl := r.length
  have hn := line63
  have fin : EP X pins σ Q w s := ⟨z, H, I, rw', q⟩
  exact subscriptTail_builtinR (x := w) pl.typeIs slot_tuple_getitem.lookup
    (getItem_tuple (j := j) (Q := fun r s' => r = w ∧ EP X pins σ Q r s') pl (by omega) (by omega) (by rw [List.size_toArray, ← hl]; exact h1) (by simpa using ew) ⟨rfl, fin⟩) hs
theorem mapSeq_set (its : List Value) (n j : Nat) (u : Value) : Obj.mapSeq (·.setIfInBounds j u) { cls := .type "list", data := .seq its.toArray n } = { cls := .type "list", data := .seq (its.set j u).toArray n } := by
  simp [Obj.mapSeq]
theorem Inv.lst {pins : List (Addr × Obj)} {σ : St} {H : Hp} {s : Shared} {p : Addr} {xs : List V} (I : Inv X pins σ H s) (h : H p = some (.lst xs)) :
    ∃ (its : List Value) (n : Nat), Vals xs its ∧ s.heap.get? p = some { cls := .type "list", data := .seq its.toArray n } ∧ xs.length ≤ sizeLine := by
  obtain ⟨z, its, n, r, e⟩ := I.hok p _ h
  exact ⟨its, n, r, e, z⟩
theorem Inv.lstUpd {pins : List (Addr × Obj)} {σ : St} {H : Hp} {s : Shared} {p : Addr} {xs ys : List V} {its its' : List Value} {n n' : Nat} {f : Obj → Obj} (I : Inv X pins σ H s) (h : H p = some (.lst xs))
    (ho : s.heap.get? p = some { cls := .type "list", data := .seq its.toArray n }) (hf : f { cls := .type "list", data := .seq its.toArray n } = { cls := .type "list", data := .seq its'.toArray n' }) (r : Vals ys its') (hz : ys.length ≤ sizeLine) (t : Nat) :
    Inv X pins σ (upd H p (.lst ys)) { s with heap := s.heap.update p f, toks := t } := by
  have e : (s.heap.update p f).get? p = some { cls := .type "list", data := .seq its'.toArray n' } := by
    rw [Heap.get?_update_self f ho (by rw [hf] <;> rfl), hf]
  refine I.write (x := p) (e := p) (by rw [h]; trivial) (.inl rfl) (fun b u hb q => (Heap.get?_update_other _ _ (Ne.symm hb)).trans q) ⟨_, e⟩ ?_
  exact ⟨hz, its', n', r, e⟩
def rSetL : V → V → V → Hp → (Hp → Prop) → Prop := fun o i v H Q => ∃ p xs k j, o = .ref p ∧ i = .int k ∧ H p = some (.lst xs) ∧ ixN xs.length k = some j ∧ Q (upd H p (.lst (xs.set j v)))
theorem set_list : PSet X rSetL := by
  intro pins s σ H o i v ov iv u Q I ro ri rv h
  obtain ⟨p, xs, k, j, rfl, rfl, hp, hj, q⟩ := h
  cases ro
  obtain ⟨t, rfl⟩ := ri
  obtain ⟨its, n, r, ho, hz⟩ := I.lst hp
  obtain ⟨h1, h2, h3, h4⟩ := ixN_seq hj
  have hl := r.length
  have hn := line63
  have I' : Inv X pins σ (upd H p (.lst (xs.set j v))) { s with heap := s.heap.update p (Obj.mapSeq (·.setIfInBounds j u)) } :=
    I.lstUpd hp ho (mapSeq_set its n j u) (r.set rv j) (by rw [List.length_set]; exact hz) s.toks
  by_cases h0 : 0 ≤ k
  · have hk : k.toNat = j := by
      rw [seqIndex_of h0 h4] at h1
      exact Option.some.inj h1
    exact PySem.W.ki_setAt ho h0 (by omega) (by rw [List.size_toArray, ← hl]; exact h4) (by rw [hk]; exact ⟨_, I', q⟩)
  · have hk : (k + (its.toArray.size : Int)).toNat = j := by
      rw [seqIndex_neg (by omega) h3] at h1
      rw [List.size_toArray, ← hl]
      exact Option.some.inj h1
    exact PySem.W.ki_setBack ho (by omega) (by rw [List.size_toArray, ← hl]; exact h3) (by omega) (by rw [hk]; exact ⟨_, I', q⟩)

theorem slice_bounds (lo hi : Option Int) (n : Nat) : (sliceBounds lo hi none n).1 = ((HT.sIx n 0 lo : Nat) : Int) ∧ (sliceBounds lo hi none n).2.1 = ((HT.sIx n n hi : Nat) : Int) ∧ (sliceBounds lo hi none n).2.2 = 1 := by
  refine ⟨?_, ?_, rfl⟩
  · cases lo with
    | none => simp [sliceBounds, HT.sIx]
    | some i =>
      simp only [sliceBounds, HT.sIx, Option.getD_none, show (1 : Int) > 0 by decide, if_true]
      by_cases h : i < 0
      · simp only [h, if_true] <;> omega
      · simp only [h, if_false] <;> omega
  · cases hi with
    | none => simp [sliceBounds, HT.sIx]
    | some i =>
      simp only [sliceBounds, HT.sIx, Option.getD_none, show (1 : Int) > 0 by decide, if_true]
      by_cases h : i < 0
      · simp only [h, if_true] <;> omega
      · simp only [h, if_false] <;> omega
theorem slicePick_cut (its : List Value) (lo hi : Option Int) : slicePick its.toArray lo hi none = ((its.drop (HT.sIx its.length 0 lo)).take (HT.sIx its.length its.length hi - HT.sIx its.length 0 lo)).toArray := by
  obtain ⟨h1, h2, h3⟩ := slice_bounds lo hi its.toArray.size
  unfold slicePick
  rw [h1, h2, h3]
  simp only [sliceRange_one, pick_run, List.size_toArray] <;> rfl
def rSlL (K : PySem.W.Frag) : V → Option Int → Option Int → Hp → VK → Prop := fun x lo hi H Q => ∃ a xs, x = .ref a ∧ SqL K H a xs ∧ ∀ p, H p = none → Q (.ref p) (upd H p (.lst (cutV xs lo hi)))
theorem sl_list : SlR X (rSlL X.K) := by
  intro pins s σ H x v vl vu lo hi sl Q I rx hs pl pu h
  obtain ⟨a, xs, rfl, hx, q⟩ := h
  cases rx
  obtain ⟨its, r, ht, hz⟩ := I.list hx
  have hlen := r.length
  refine ⟨"list", _, slot_list_getitem.lookup, ht.isList.typeIs, ?_⟩
  refine wpAny_getItem_list_slice ht.isList hs pl pu .none (by simp) ?_ (by rw [List.size_toArray] <;> omega)
  rw [slicePick_cut, ← hlen]
  refine ⟨.ref s.heap.objs.size, _, I.laid (t' := s.toks) (o := .lst (cutV xs lo hi)) (fun b ob q => Heap.get?_push_of_some _ q) (Nat.le_refl _) ?_, rfl, q _ (I.hok.fresh (Nat.le_refl _))⟩
  exact ⟨Nat.le_trans (cutV_length xs lo hi) hz, _, 0, (r.drop (HT.sIx xs.length 0 lo)).take (HT.sIx xs.length xs.length hi - HT.sIx xs.length 0 lo), Heap.get?_push_size _ rfl⟩

theorem call_len_seq : CallR X (.builtin "len") (fun xs H Q => ∃ p ys, xs = [.ref p] ∧ (SqL X.K H p ys ∨ SqT X.K H p ys) ∧ Q (.int ys.length) H) := by
  intro pins s σ H xs us Q I r h
  obtain ⟨p, ys, rfl, hq, q⟩ := h
  obtain ⟨u, rfl, rx⟩ := vals1 r
  cases rx
  have hn := line63
  rcases hq with hq | hq
  · obtain ⟨its, r', pl, hz⟩ := I.list hq
    have hlen := r'.length
    exact Calls.call_len_list pl.isList (by simp only [List.size_toArray] <;> omega) ⟨.int ys.length, H, I.tok _, ⟨s.toks + 1, by rw [List.size_toArray, hlen]⟩, q⟩
  · obtain ⟨its, r', pl, hz⟩ := I.tuple hq
    have hlen := r'.length
    exact len_tuple pl (by simp only [List.size_toArray] <;> omega) ⟨.int ys.length, H, I.tok _, ⟨s.toks + 1, by rw [List.size_toArray, hlen]⟩, q⟩
theorem call_list_of : CallR X (.type "list") (fun xs H Q => ∃ p ys, xs = [.ref p] ∧ (SqL X.K H p ys ∨ SqT X.K H p ys) ∧ ∀ l, H l = none → Q (.ref l) (upd H l (.lst ys))) := by
  intro pins s σ H xs us Q I r h
  obtain ⟨p, ys, rfl, hq, q⟩ := h
  obtain ⟨u, rfl, rx⟩ := vals1 r
  cases rx
  have fin : ∀ (its : List Value), Vals ys its → ys.length ≤ sizeLine → ∀ (h' : Heap) (c' : Nat), (∀ b o', s.heap.get? b = some o' → h'.get? b = some o') →
      h'.get? s.heap.objs.size = some { cls := .type "list", dict := none, data := .seq its.toArray c', slots := #[] } → EP X pins σ Q (.ref s.heap.objs.size) { s with heap := h' } := fun its r' hz h' c' kp e =>
    ⟨.ref s.heap.objs.size, _, I.laid (t' := s.toks) kp (Nat.le_refl _) (show ObjOk X.prog X.w _ h' _ (.lst ys) from ⟨hz, its, c', r', e⟩), rfl, q _ (I.hok.fresh (Nat.le_refl _))⟩
  rcases hq with hq | hq
  · obtain ⟨its, r', pl, hz⟩ := I.list hq
    have hlen := r'.length
    obtain ⟨o, ho, hc, n, hd⟩ := pl.isList
    exact call_list_seq p (.inl rfl) ho hc hd (fun h' c' kp e => fin its r' hz h' c' kp e) (by simp only [List.size_toArray] <;> omega)
  · obtain ⟨its, r', pl, hz⟩ := I.tuple hq
    have hlen := r'.length
    obtain ⟨o, ho, hc, n, hd⟩ := pl
    exact call_list_seq p (.inr rfl) ho hc hd (fun h' c' kp e => fin its r' hz h' c' kp e) (by simp only [List.size_toArray] <;> omega)
theorem call_tuple_of : CallR X (.type "tuple") (fun xs H Q => ∃ p ys, xs = [.ref p] ∧ ((SqL X.K H p ys ∧ ∀ l, H l = none → Q (.ref l) (upd H l (.tup ys))) ∨ (SqT X.K H p ys ∧ Q (.ref p) H))) := by
  intro pins s σ H xs us Q I r h
  obtain ⟨p, ys, rfl, h⟩ := h
  obtain ⟨u, rfl, rx⟩ := vals1 r
  cases rx
  rcases h with ⟨hq, q⟩ | ⟨hq, q⟩
  · obtain ⟨its, r', pl, hz⟩ := I.list hq
    have hlen := r'.length
    refine call_tuple_list pl.isList (fun h' kp => ?_) (by simp only [List.size_toArray] <;> omega)
    have I1 : Inv X pins σ H { s with heap := h' } := I.kept (t' := s.toks) kp
    have I2 : Inv X pins σ (upd H h'.objs.size (.tup ys)) { s with heap := h'.push { cls := .type "tuple", data := .seq its.toArray } } :=
      I1.laid (t' := s.toks) (fun b o e => Heap.get?_push_of_some _ e) (Nat.le_refl _) (show ObjOk X.prog X.w _ _ _ (.tup ys) from ⟨hz, its, r', IsTup.new _ _⟩)
    exact ⟨.ref h'.objs.size, _, I2, rfl, q _ (I1.hok.fresh (Nat.le_refl _))⟩
  · obtain ⟨its, r', pl, hz⟩ := I.tuple hq
    exact call_tuple_same pl ⟨.ref p, H, I, rfl, q⟩

def tyV (K : PySem.W.Frag) (T : String) (x : V) (H : Hp) : Prop := match x with
  | .str _ => T = "str"
  | .int _ => T = "int"
  | .ref p => (T = "list" ∧ ∃ xs, SqL K H p xs) ∨ (T = "tuple" ∧ ∃ o, K.lookup p = some o ∧ o.cls = .type "tuple" ∧ o.dict = none) ∨
      (T = "dict" ∧ ((∃ kvs, H p = some (.dK kvs)) ∨ ∃ kvs, H p = some (.dT kvs))) ∨ (T = "set" ∧ ∃ S n, H p = some (.set S n))
  | _ => False
theorem tyV_is {pins : List (Addr × Obj)} {σ : St} {H : Hp} {s : Shared} {T : String} {x : V} {v : Value} (I : Inv X pins σ H s) (r : RelV x v) (ty : tyV X.K T x H) :
    s.TypeIs v T ∧ ∀ a, v = .ref a → ∃ ob, s.heap.get? a = some ob ∧ ob.dict = none := by
  cases x with
  | str z =>
    obtain ⟨t, rfl⟩ := r
    cases (show T = "str" from ty)
    exact ⟨typeIs_str s z t, fun _ e => nomatch e⟩
  | int i =>
    obtain ⟨t, rfl⟩ := r
    cases (show T = "int" from ty)
    exact ⟨typeIs_int s i t, fun _ e => nomatch e⟩
  | ref p =>
    cases r
    rcases ty with ⟨rfl, xs, hq⟩ | ⟨rfl, o, hk, hc, hd⟩ | ⟨rfl, hk⟩ | ⟨rfl, S, n, hk⟩
    · obtain ⟨its, _, pl, _⟩ := I.list hq
      refine ⟨pl.isList.typeIs, fun a e => ?_⟩
      cases e
      obtain ⟨o, n, e, c, hd, _⟩ := pl
      exact ⟨o, e, hd⟩
    · refine ⟨⟨o, I.kIn p o hk, hc⟩, fun a e => ?_⟩
      cases e
      exact ⟨o, I.kIn _ o hk, hd⟩
    · have z : ∃ o, s.heap.get? p = some o ∧ o.ExactDict := by
        rcases hk with ⟨kvs, hk⟩ | ⟨kvs, hk⟩
        · obtain ⟨_, _, _, _, o, _, _, e, ex, _⟩ := I.hok p _ hk
          exact ⟨o, e, ex⟩
        · obtain ⟨_, _, _, _, o, _, _, e, ex, _⟩ := I.hok p _ hk
          exact ⟨o, e, ex⟩
      obtain ⟨o, e, ex⟩ := z
      refine ⟨⟨o, e, ex.1⟩, fun a e2 => ?_⟩
      cases e2
      exact ⟨o, e, ex.2.1⟩
    · obtain ⟨o, _, _, _, e, ex, _⟩ := I.hok p _ hk
      refine ⟨⟨o, e, ex.1⟩, fun a e2 => ?_⟩
      cases e2
      exact ⟨o, e, ex.2.1⟩
  | _ => exact False.elim ty
def tBM (K : PySem.W.Frag) (T : String) (r : V → List V → Hp → VK → Prop) (to : TE) (t : TA) : TE := fun σ H Q => to σ H fun x H1 => tyV K T x H1 ∧ t σ H1 fun xs H2 => r x xs H2 Q
variable {o e : Expr} {es : List Expr} {to : TE} {t : TA} {name : Str} {apos cpos : Pos} {T id : String} {r : V → List V → Hp → VK → Prop}
theorem pe_bm (pa : PlainAttrs T) (slot : Slot T name id) (hty : typeOf (.builtin id) = pure (.type "method_descriptor")) (hm : MtR X id r) (ho : PE X o to) (ha : PA X (e :: es) t)
    (hbase : attributeBase o name X.env (eval o X.env) = eval o X.env := by rfl)
    (hfew : ((backTo cpos (starEach (e :: es) X.env)).all (fun x => !x.1) && (backToKw cpos (keywordEach [] X.env)).all (fun x => x.1.isSome)
      && decide ((e :: es).length + ([] : List Keyword).length + (if ([] : List Keyword).isEmpty then 0 else 1) < 30)) = true := by rfl)
    (hline : (apos.endLine == cpos.line) = true := by rfl) (hs : starEach (e :: es) X.env = (false, eval e X.env) :: starEach es X.env := by rfl) (hplain : (backTo cpos (starEach es X.env)).any (·.1) = false := by rfl) :
    PE X (.Call (.Attribute o name apos) (e :: es) [] cpos) (tBM X.K T r to t) := by
  intro pins s σ H Q I h
  refine wpAny_Call_method_late hbase hfew hline rfl (thn (ho pins s σ H _ I h) fun v s1 ⟨x, H1, I1, r1, ty, q1⟩ => ?_)
  obtain ⟨h1, h2⟩ := tyV_is I1 r1 ty
  refine ⟨T, id, pa, slot, hty, h1, h2, ?_⟩
  have hA := ha cpos pins s1 σ H1 _ I1 q1
  rw [hs] at hA ⊢
  refine Calls.callWith_builtin (by show (false || (backTo cpos (starEach es X.env)).any (·.1)) = false; rw [hplain] <;> rfl) (Calls.evalArgs_plain ?_)
  exact thn hA fun us s2 ⟨vs, H2, I2, r2, q2⟩ => hm pins s2 σ H2 x vs v us Q I2 r1 r2 q2
end
end L2

namespace L2
open PySem PySem.Spec PyProof.Rows

def MtM (X : Cx) (id : String) (r : V → List V → Hp → VK → Prop) : Prop :=
  ∀ (pins : List (Addr × Obj)) (s : Shared) (σ : St) (H : Hp) (x : V) (xs : List V) (v : Value) (us : List Value) (Q : VK), Inv X pins σ H s → RelV x v → Vals xs us → r x xs H Q →
    wpAny (model X.prog X.w) X.A (call (.builtin id) (v :: us)) (EP X pins σ Q) X.xe s

theorem Vals.one : ∀ {x : V} {us : List Value}, Vals [x] us → ∃ u, us = [u] ∧ RelV x u
  | _, _, .cons r .nil => ⟨_, rfl, r⟩
theorem Vals.two : ∀ {x y : V} {us : List Value}, Vals [x, y] us → ∃ u v, us = [u, v] ∧ RelV x u ∧ RelV y v
  | _, _, _, .cons r (.cons q .nil) => ⟨_, _, rfl, r, q⟩
theorem Vals.zero : ∀ {us : List Value}, Vals [] us → us = []
  | _, .nil => rfl
section
variable {X : Cx} {pins : List (Addr × Obj)} {σ : St} {H : Hp} {s : Shared} {l b : Addr} {xs ys zs : List V}

theorem Inv.lset {its its' : List Value} {n : Nat} {f : Array Value → Array Value} {t' : Nat} (I : Inv X pins σ H s) (hH : H l = some (.lst xs))
    (e : s.heap.get? l = some { cls := .type "list", data := .seq its.toArray n }) (hf : f its.toArray = its'.toArray) (hv : Vals ys its') (hz : ys.length ≤ sizeLine) :
    Inv X pins σ (upd H l (.lst ys)) { s with heap := s.heap.update l (Obj.mapSeq f), toks := t' } := by
  have q := PySem.IsL.update e f
  rw [hf] at q
  refine I.write (x := l) (e := l) (by rw [hH]; exact trivial) (.inl rfl) (fun b' u hb hu => (Heap.get?_update_other s.heap (Obj.mapSeq f) (Ne.symm hb)).trans hu) ⟨_, q⟩ ?_
  exact ⟨hz, its', _, hv, q⟩
theorem Inv.lnew {its : List Value} {t' : Nat} (I : Inv X pins σ H s) (hv : Vals ys its) (hz : ys.length ≤ sizeLine) :
    Inv X pins σ (upd H s.heap.objs.size (.lst ys)) { s with heap := s.heap.push { cls := .type "list", data := .seq its.toArray }, toks := t' } :=
  I.laid (fun _ _ q => Heap.get?_push_of_some _ q) (Nat.le_refl _) ⟨hz, its, 0, hv, Heap.get?_push_size _ rfl⟩
theorem Inv.fresh (I : Inv X pins σ H s) : H s.heap.objs.size = none := I.hok.fresh (Nat.le_refl _)
theorem Inv.lstM (I : Inv X pins σ H s) (hH : H l = some (.lst xs)) : xs.length ≤ sizeLine ∧ ∃ (its : List Value) (n : Nat), Vals xs its ∧ xs.length = its.length ∧ s.heap.get? l = some { cls := .type "list", data := .seq its.toArray n } := by
  obtain ⟨z, its, n, r, e⟩ := I.hok l _ hH
  exact ⟨z, its, n, r, r.length, e⟩

theorem notLongL {n : Nat} (h : n ≤ sizeLine) : Builtin.List.listTooLong n = false := by
  unfold Builtin.List.listTooLong
  exact decide_eq_false (by omega)
end

section
variable {X : Cx}

def rAppend : V → List V → Hp → VK → Prop := fun x vs H Q => ∃ l xs y, x = .ref l ∧ vs = [y] ∧ H l = some (.lst xs) ∧ xs.length < sizeLine ∧ Q .non (upd H l (.lst (xs ++ [y])))
theorem mt_append : MtM X "list.append" rAppend := by
  intro pins s σ H x vs v us Q I rx rv h
  obtain ⟨l, xs, y, rfl, rfl, hH, hz, q⟩ := h
  cases rx
  obtain ⟨u, rfl, ru⟩ := rv.one
  obtain ⟨z, its, n, r, hl, e⟩ := I.lstM hH
  refine call_meets F.slot_list_append ⟨_, e, rfl⟩ F.entry_list_append (F.args_list_append_2 _ _) (PySem.list_append l its.toArray n u (by rw [List.size_toArray]; omega)) ⟨e, ?_⟩
  refine ⟨.non, _, I.lset (its' := its ++ [u]) hH e (by simp) (r.append (.cons ru .nil)) ?_, rfl, q⟩
  rw [List.length_append, List.length_singleton]
  omega

def rExtend : V → List V → Hp → VK → Prop := fun x vs H Q => ∃ l b xs zs, x = .ref l ∧ vs = [.ref b] ∧ H l = some (.lst xs) ∧ H b = some (.lst zs) ∧ xs.length + zs.length ≤ sizeLine ∧ Q .non (upd H l (.lst (xs ++ zs)))
theorem mt_extend : MtM X "list.extend" rExtend := by
  intro pins s σ H x vs v us Q I rx rv h
  obtain ⟨l, b, xs, zs, rfl, rfl, hH, hB, hz, q⟩ := h
  cases rx
  obtain ⟨u, rfl, ru⟩ := rv.one
  cases ru
  obtain ⟨z, its, n, r, hl, e⟩ := I.lstM hH
  obtain ⟨z2, its2, n2, r2, hl2, e2⟩ := I.lstM hB
  have hsz : its.toArray.size + its2.toArray.size ≤ sizeLine := by rw [List.size_toArray, List.size_toArray]; omega
  have hlong : ¬ (!its.toArray.isEmpty && Builtin.List.listTooLong (its.toArray.size + its2.toArray.size)) = true := by
    rw [notLongL hsz, Bool.and_false]
    exact Bool.false_ne_true
  refine call_meets F.slot_list_extend ⟨_, e, rfl⟩ F.entry_list_extend (F.args_list_extend_2 _ _)
    (AutoSeq1.list_extend_list_list_0 l its.toArray n b its2.toArray n2 hlong (by rw [List.size_toArray]; omega) (by omega)) ⟨e, e2, ?_⟩
  refine ⟨.non, _, I.lset (its' := its ++ its2) hH e (by simp) (r.append r2) ?_, rfl, q⟩
  rw [List.length_append]
  omega

def rCat : R2 := fun x y H Q => ∃ l b xs zs, x = .ref l ∧ y = .ref b ∧ H l = some (.lst xs) ∧ H b = some (.lst zs) ∧ xs.length + zs.length ≤ sizeLine ∧ ∀ p, H p = none → Q (.ref p) (upd H p (.lst (xs ++ zs)))
theorem op_cat : OpR X (binaryOp .Add) rCat := by
  intro pins s σ H x y v u Q I rx ry h
  obtain ⟨l, b, xs, zs, rfl, rfl, hH, hB, hz, q⟩ := h
  cases rx
  cases ry
  obtain ⟨z, its, n, r, hl, e⟩ := I.lstM hH
  obtain ⟨z2, its2, n2, r2, hl2, e2⟩ := I.lstM hB
  refine PySem.P.add_list e e2 ?_ (by rw [List.size_toArray, List.size_toArray]; omega)
  have ea : its.toArray ++ its2.toArray = (its ++ its2).toArray := by simp
  rw [ea]
  exact ⟨.ref _, _, I.lnew (t' := s.toks) (r.append r2) (by rw [List.length_append]; omega), rfl, q _ I.fresh⟩
end

section
variable {prog : Program} {w : World} {A : Around} {E : Value → Shared → Prop} {s : Shared}
set_option maxRecDepth 100000 in
end

section
variable {X : Cx}
end
end L2

namespace Att
open PySem PySem.W PySem.Calls PyProof.Rows

theorem ints_of_wellAll {P : Params} {h : Heap} : ∀ (ns : List Int) (vs : List Value), WellAll P h vs (ns.map WData.int) → IntsAre vs ns := by
  intro ns
  induction ns with
  | nil =>
    intro vs w
    rw [List.map_nil] at w
    cases w
    exact .nil
  | cons n ns ih =>
    intro vs w
    rw [List.map_cons] at w
    cases w with
    | cons a b =>
      cases a
      exact .cons _ _ (ih _ b)

theorem script_of {l : OpenLaw} {n : Nat} (hn : l.most = some n) {P : Params} {h : Heap} {args : List WData} {vals : List Value}
    (hpre : l.row.toRowW.claim.pre args = true) (hwl : WellAll P h vals args) :
    ∃ a vs ns, vals = [Value.ref a] ∧ args = [WData.list (ns.map WData.int)] ∧ h.get? a = some { cls := .type "list", data := .seq vs.toArray } ∧ IntsAre vs ns ∧ ns.length ≤ n := by
  have hsh : WShape.hasAll [] args [.list .int] = true := (pre_splitW hpre).1
  have hc : l.pre.holds [] { args := args } = true := (pre_splitW hpre).2
  obtain ⟨d, r, rfl, h1, h2⟩ := hasAllW_cons hsh
  obtain rfl := hasAllW_nil h2
  obtain ⟨xs, rfl, h3⟩ := hasW_list h1
  obtain ⟨ns, rfl⟩ := items_int h3
  have hlen : ns.length ≤ n := by
    unfold OpenLaw.pre at hc
    have h4 : (WTm.not (.lt (.lit (.int (n : Int))) (.len (.arg 0)))).holds [] { args := [.list (ns.map .int)] } = true := by
      have h4 := (holds_andW hc).1
      rw [hn] at h4
      exact h4
    have h5 := condW_of h4 (w_not (w_lt w_lit (w_len_list (w_arg rfl))))
    rw [List.length_map] at h5
    refine Nat.le_of_not_lt fun q => ?_
    have q' : (n : Int) < ((ns.length : Nat) : Int) := by omega
    first
      | (rw [decide_eq_true q'] at h5; exact absurd h5 (by decide))
      | (simp at h5; omega)
  cases hwl with
  | cons w1 w2 =>
    cases w2
    cases w1 with
    | list ho hall => exact ⟨_, _, ns, rfl, rfl, ho, ints_of_wellAll ns _ hall, hlen⟩

theorem post_true (l : OpenLaw) (args : List WData) : l.row.toRowW.claim.post args (.bool true) args = true :=
  postW_of (r := l.row.toRowW) (X := (true == true))
    (show WShape.has [] (.bool true) .bool = true by first | rfl | decide | simp [WShape.has, WShape.arms, WShape.armsAll])
    (show (WTm.eq .res (.lit (.bool true))).value [] { args := args, res := some (.bool true), after := args } = some (.bool (true == true)) from w_eq_bool (w_res rfl) w_lit) rfl

theorem attach_call {l : OpenLaw} {n : Nat} {q : Program} {loose : List Str} {XP : (Str → Option Value) → Heap → Prop} {YP : World → Heap → Prop} {d : DefRec}
    (hn : l.most = some n) (hdf : d.params.defaults = [])
    (call : ∀ (w : World) (s₀ s₁ : Shared) (mg mb : Str → Option Value) (fa : Addr) (o : Obj) (pm cd doc : Value) (a : Addr) (vs : List Value) (ns : List Int),
      Ground q loose [] XP w s₀ mg mb s₁.heap → YP w s₁.heap →
      s₁.heap.get? fa = some o → o.data = .func (docDef d.name d.params d.body d.scope pm cd doc) → s₁.heap.CodeRec cd d.name → mg d.name = some (.ref fa) →
      s₁.heap.get? a = some { cls := .type "list", data := .seq vs.toArray } → IntsAre vs ns → ns.length ≤ n → s₁.gens = #[] →
      codeAny (model l.prog w) callerA (.call (.ref fa) ⟨[.ref a], []⟩) (fun r s' => r = .ok (.ret (.bool true)) ∧ OldK s₁.heap s'.heap ∧ s'.os = s₁.os ∧ AllBare s'.gens) s₁) :
    WalkO q loose XP YP l.row.toRowW d [] (fun f vs => PySem.call f vs) := by
  intro w s₀ s₁ mg mb G Y fa o pm cd doc dV kV ho hd hcd hD hmg hg args vals as hpre hlay hrd hwl hlo
  obtain rfl : dV = .none := Dflts.none hD hdf
  obtain rfl : kV = .none := Dflts.noKw hD
  obtain ⟨a, vs, ns, rfl, rfl, hobj, hints, hlen⟩ := script_of hn hpre hwl
  refine enter_call (codeAny_mono (call w s₀ s₁ mg mb fa o pm cd doc a vs ns G Y ho (fd_plain hd) hcd hmg hobj hints hlen hg) fun r s' hq => ?_)
  obtain ⟨rfl, h2, h3, h4⟩ := hq
  exact ⟨.inl ⟨.bool true, .bool true, [], rfl, fun _ => rfl, .bool true, post_true l _, fun _ => ⟨List.Pairwise.nil, fun _ hm => (nomatch hm)⟩⟩, h2, h3, h4⟩

section
variable {prog : Program} {w : World} {A : Around} {E : Value → Shared → Prop} {s : Shared} {K : Frag}

end
end Att

namespace L2
open PySem PySem.Spec PyProof.Rows

theorem vals_ints : ∀ {vs : List Value} {ns : List Int}, IntsAre vs ns → Vals (ns.map V.int) vs
  | _, _, .nil => .nil
  | _, _, .cons n t h => .cons ⟨t, rfl⟩ (vals_ints h)

def Only (H : Hp) : Prop := ∀ b, H b = none ∨ ∃ o xs, H b = some (.frz o (.lst xs))

theorem law_call {P : Program} {w : World} {K : PySem.W.Frag} {mg mb : Str → Option Value} {CX : CXT} {k : Nat} {fa a : Addr} {fd : FuncData} {x : Str} {sp : Sp} {s₁ : Shared} {vs : List Value} {ns : List Int}
    (KX : K.In s₁.heap) (hns : s₁.heap.Ns mainGlobals mg) (hb : s₁.heap.Ns builtinsNs mb) (hbb : ∀ x : Str, x ≠ "__name__" → mb x = bootBuiltins x) (hlim : s₁.heap.NoLimit) (hg : s₁.gens = #[])
    (ha : s₁.heap.get? a = some { cls := .type "list", data := .seq vs.toArray }) (hi : IntsAre vs ns) (hl : ns.length ≤ sizeLine) (hr : Room k callerA)
    (F : ∀ base : Heap, K.In base → base.Ns mainGlobals mg → FnOk P w K mg base CX k fa fd [x] sp) (hbind : ∀ (s : Shared) (u : Value), BindsTo s fd ⟨[u], []⟩ [(x, u)])
    (hsp : ∀ H : Hp, Only H → SqL K H a (ns.map V.int) → sp [.ref a] H (fun v _ => v = .bl true) fun _ _ _ => False)
    (hCX : ∀ H e s', CX [] H s₁ (fun _ _ _ => False) e s' → False) :
    codeAny (model P w) callerA (.call (.ref fa) ⟨[.ref a], []⟩) (fun r s' => r = .ok (.ret (.bool true)) ∧ OldK s₁.heap s'.heap ∧ s'.os = s₁.os ∧ AllBare s'.gens) s₁ := by
  have rv := vals_ints hi
  have lenV := hi.length
  have core : ∀ H : Hp, Only H → SqL K H a (ns.map V.int) → HOk P w H s₁.heap → (∀ b, H b ≠ none → b = a) → (H a ≠ none → K.lookup a = none) →
      codeAny (model P w) callerA (.call (.ref fa) ⟨[.ref a], []⟩) (fun r s' => r = .ok (.ret (.bool true)) ∧ OldK s₁.heap s'.heap ∧ s'.os = s₁.os ∧ AllBare s'.gens) s₁ := by
    intro H hO hS hok hA hK
    have base_of : ∀ {b : Addr} {o : Obj}, s₁.heap.get? b = some o → H b = none → (hidT s₁.heap H).get? b = some o := fun e n => hidT_get e n
    have noA : ∀ {b : Addr} {o : Obj} {es : Array DictEntry} {ep : Nat}, s₁.heap.get? b = some o → o.data = .dict es ep → H b = none := fun {b o es ep} e d => by
      cases q : H b with
      | none => rfl
      | some u =>
        have e' : b = a := hA b (by rw [q]; simp)
        subst e'
        rw [ha] at e; cases e
        have d' : Data.seq vs.toArray _ = Data.dict es ep := d
        cases d'
    have nsK : ∀ {b : Addr} {m : Str → Option Value}, s₁.heap.Ns b m → (hidT s₁.heap H).Ns b m := fun {b m} ⟨o, es, ep, e, d, r⟩ => ⟨o, es, ep, base_of e (noA e d), d, r⟩
    have hKb : K.In (hidT s₁.heap H) := fun b o e => base_of (KX b o e) (by
      cases q : H b with
      | none => rfl
      | some u =>
        have e' : b = a := hA b (by rw [q]; simp)
        subst e'
        rw [hK (by rw [q]; simp)] at e; cases e)
    have hM : Mod K mg (hidT s₁.heap H) := ⟨hKb, nsK hns, ⟨mb, nsK hb, hbb⟩, let ⟨mc, h1, h2⟩ := hlim; ⟨mc, nsK h1, h2⟩⟩
    have e0 : Env0 P w K mg (hidT s₁.heap H) callerA [] s₁ H := ⟨rfl, hM, fun b o e => of_hidT e, Nat.le_of_eq (hidT_size _ _), trivial, fun b hb => absurd (show b ∈ ([] : List Addr) from hb) (by simp), hok, .of_eq hg⟩
    refine codeAny_mono ((F _ hKb (nsK hns)).run callerA [] s₁ H ⟨[.ref a], []⟩ [.ref a] [.ref a] _ _ hr e0 (hbind s₁ (.ref a)) (.cons rfl .nil) (hsp H hO hS)) fun r s' h => ?_
    cases r with
    | error e => exact (hCX H e s' h).elim
    | ok fl =>
      cases fl with
      | next => exact False.elim h
      | brk => exact False.elim h
      | cont => exact False.elim h
      | ret u =>
        obtain ⟨v, H', os, bare, un, hok', r', q⟩ := h
        have q' : v = .bl true := q
        subst q'
        obtain rfl : u = Value.bool true := r'
        refine ⟨rfl, OldK.of_keep fun b o e => ?_, os, bare⟩
        cases q : H b with
        | none => exact un.keep b o e q (by intro z; exact absurd (show b ∈ ([] : List Addr) from z) (by simp)) (by simp)
        | some u =>
          rcases hO b with z | ⟨ob, xs, z⟩
          · rw [q] at z; cases z
          · have z2 := un.frzs b ob _ z
            obtain ⟨e1, _⟩ := hok b _ z
            obtain ⟨e2, _⟩ := hok' b _ z2
            rw [e] at e1; cases e1
            exact e2
  cases hk : K.lookup a with
  | some o =>
    have e := KX a o hk
    rw [ha] at e
    cases e
    refine core (fun _ => none) (fun _ => .inl rfl) (.inr ⟨_, vs.toArray, _, hk, rfl, rfl, rfl, by rw [List.size_toArray, lenV]; exact hl, by simpa using rv⟩) (fun b u z => by have z' : (none : Option HO) = some u := z; cases z') (fun b z => absurd rfl z) fun z => absurd rfl z
  | none =>
    refine core (fun b => if b = a then some (.frz { cls := .type "list", data := .seq vs.toArray } (.lst (ns.map V.int))) else none) (fun b => ?_) (.inl (.inr ⟨{ cls := .type "list", data := .seq vs.toArray }, if_pos rfl⟩)) (fun b u z => ?_) (fun b z => ?_) fun _ => hk
    · by_cases hb : b = a
      · exact .inr ⟨_, _, if_pos hb⟩
      · exact .inl (if_neg hb)
    · by_cases hb : b = a
      · have z' := (if_pos hb).symm.trans z
        cases z'
        subst hb
        exact ⟨ha, by rw [List.length_map]; exact hl, vs, _, rv, ha⟩
      · have z' := (if_neg hb).symm.trans z
        cases z'
    · by_cases hb : b = a
      · exact hb
      · exact absurd (if_neg hb) z
end L2

namespace L2
open PySem PySem.Spec PyProof.Rows

theorem walk_of {l : PySem.W.OpenLaw} {n k : Nat} {q : Program} {loose : List Str} {XP : (Str → Option Value) → Heap → Prop} {YP : World → Heap → Prop} {d : DefRec} {K : Params → PySem.W.Frag} {CX : World → CXT} {sp : World → Sp} {x : Str}
    (hn : l.most = some n) (hn2 : n ≤ sizeLine) (hdf : d.params.defaults = []) (hr : Room k callerA)
    (hY : ∀ (w : World) (h : Heap), YP w h → (K w.params).In h)
    (F : ∀ (w : World) (mg : Str → Option Value) (fa : Addr) (h : Heap), (K w.params).In h → h.Ns mainGlobals mg → mg d.name = some (.ref fa) →
      ∃ fd : FuncData, (∀ (s : Shared) (u : Value), BindsTo s fd ⟨[u], []⟩ [(x, u)]) ∧
        ∀ base : Heap, (K w.params).In base → base.Ns mainGlobals mg → FnOk l.prog w (K w.params) mg base (CX w) k fa fd [x] (sp w))
    (hsp : ∀ (w : World) (H : Hp) (a : Addr) (ns : List Int), ns.length ≤ n → Only H → SqL (K w.params) H a (ns.map V.int) → sp w [.ref a] H (fun v _ => v = .bl true) fun _ _ _ => False)
    (hCX : ∀ (w : World) (H : Hp) (s : Shared) (e : Value) (s' : Shared), CX w [] H s (fun _ _ _ => False) e s' → False) :
    PySem.W.WalkO q loose XP YP l.row.toRowW d [] (fun f vs => PySem.call f vs) := by
  refine Att.attach_call hn hdf fun w s₀ s₁ mg mb fa o pm cd doc a vs ns G Y ho hd hcd hmg hobj hints hlen hg => ?_
  have KX := hY w _ Y
  obtain ⟨fd, hb, hF⟩ := F w mg fa _ KX G.T.g hmg
  exact law_call KX G.T.g G.T.b G.T.builtins G.T.nolimit hg hobj hints (Nat.le_trans hlen hn2) hr hF hb (fun H hO hS => hsp w H a ns hlen hO hS) fun H e s' => hCX w H s₁ e s'
end L2

namespace L2
open PySem PySem.Spec PyProof.Rows


abbrev CX0 : CXT := fun _ _ _ _ _ _ => False
abbrev E0 : XK := fun _ _ _ => False
theorem pass0 {X : Cx} : Passes CX0 X E0 := fun _ _ _ _ _ _ _ h => h.elim

structure Fun (K : PySem.W.Frag) (x qual : Str) (st : Stmt) (f : Addr) (fd : FuncData) : Prop where
  ex : ∃ (oc : Value) (od : Option Addr) (kV doc pm : Value) (an : Option Addr) (cdv ct : Value) (osl : Array (Option Value)),
    fd = PySem.W.fnOf x qual (defArgs st) (defBody st) (defScope st) .none kV doc pm an cdv ct ∧ K.lookup f = some ⟨oc, od, .func fd, osl⟩ ∧ PySem.W.codeIn K cdv qual = true
  kp : PySem.W.keepIn K (.ref f) = true
section
variable {P : Program} {w : World} {K : PySem.W.Frag} {mg : Str → Option Value} {base : Heap}
theorem Fun.ok {x qual : Str} {st : Stmt} {f : Addr} {fd : FuncData} {N ps : List Str} {k : Nat} {sp : Sp} (F : Fun K x qual st f fd) (S : FnScope N ps (defScope st)) (len : ∀ vs H Q E, sp vs H Q E → vs.length = ps.length)
    (hbody : ∀ (cdv : Value) (A : Around) (outer : List Env) (s : Shared) (H : Hp) (vs : List V) (Q : VK) (E : XK), Room k (A.deeper (envOfC qual (defScope st) s.heap.objs.size f cdv)) → sp vs H Q E →
      ∃ t, PSs (cxOf CX0 P w K mg base N qual (defScope st) f cdv A outer s H E).nox (defBody st) t ∧ t { nx := fun _ H' => Q .non H', rt := Q } (start N vs) H) : FnOk P w K mg base CX0 (k + 1) f fd ps sp := by
  obtain ⟨oc, od, kV, doc, pm, an, cdv, ct, osl, rfl, lk, hcd⟩ := F.ex
  refine fn_of lk hcd S len fun A outer s H vs Q E hr hsp => ?_
  obtain ⟨t, h, q⟩ := hbody cdv A outer s H vs Q E hr hsp
  exact ⟨t, h.nox, q⟩
theorem Fun.binds {x qual : Str} {st : Stmt} {f : Addr} {fd : FuncData} {ps : List Str} (F : Fun K x qual st f fd)
    (h : ∀ (kV doc pm : Value) (an : Option Addr) (cdv ct : Value) (us : List Value), us.length = ps.length → bindArgs (PySem.W.fnOf x qual (defArgs st) (defBody st) (defScope st) .none kV doc pm an cdv ct) ⟨us, []⟩ = pure (ps.zip us)) : Binds K fd ps [] := by
  obtain ⟨oc, od, kV, doc, pm, an, cdv, ct, osl, rfl, lk, hcd⟩ := F.ex
  exact .all (h kV doc pm an cdv ct)
theorem fun_mk {x qual : Str} {st : Stmt} {f : Addr} {oc : Value} {od an : Option Addr} {osl : Array (Option Value)} {kV doc pm cdv ct : Value} (l : K.lookup f = some ⟨oc, od, .func (PySem.W.fnOf x qual (defArgs st) (defBody st) (defScope st) .none kV doc pm an cdv ct), osl⟩)
    (c : PySem.W.codeIn K cdv qual = true) (k : PySem.W.keepIn K (.ref f) = true) : Fun K x qual st f (PySem.W.fnOf x qual (defArgs st) (defBody st) (defScope st) .none kV doc pm an cdv ct) := ⟨⟨oc, od, kV, doc, pm, an, cdv, ct, osl, rfl, l, c⟩, k⟩
end
theorem small1000 {n : Nat} (h : n ≤ 1000) : n < sizeLine := Nat.lt_of_le_of_lt h (by decide)

section
variable {X : Cx}
theorem pv (i : Nat) {x : Str} {pos : Pos} (hN : X.N[i]? = some x := by rfl) (hv : Vis X.env.scope x := by first | exact Or.inl rfl | exact Or.inr (Or.inl rfl) | exact Or.inr (Or.inr rfl)) (hd : (x == ("__debug__" : Str)) = false := by decide)
    (hcd : (x == ("__classdict__" : Str)) = false := by decide) : PE X (.Name x pos) (tVar i) := pe_var hN hv hd hcd
end

theorem iteF {A B : Prop} (h : B) : if false = true then A else B := by
  rw [if_neg Bool.false_ne_true]
  exact h
theorem iteT {A B : Prop} (h : A) : if true = true then A else B := by
  rw [if_pos rfl]
  exact h
def Same (H H' : Hp) : Prop := ∀ b o, H b = some o → H' b = some o
theorem Same.refl (H : Hp) : Same H H := fun _ _ h => h
theorem Same.trans {H H1 H2 : Hp} (a : Same H H1) (b : Same H1 H2) : Same H H2 := fun c o h => b c o (a c o h)
theorem Same.free {H H' : Hp} (e : Same H H') {l : Addr} (h : H' l = Option.none) : H l = Option.none := by
  cases q : H l with
  | none => rfl
  | some o =>
    rw [e l o q] at h
    cases h
theorem Same.seq {K : PySem.W.Frag} {H H' : Hp} {a : Addr} {xs : List V} (e : Same H H') (h : SqL K H a xs) : SqL K H' a xs := by
  rcases h with (h | ⟨o, h⟩) | h
  · exact .inl (.inl (e _ _ h))
  · exact .inl (.inr ⟨o, e _ _ h⟩)
  · exact .inr h

end L2

namespace Sea
def gcdL (ns : List Int) : Nat := ns.foldl (fun g n => Nat.gcd g n.natAbs) 0
theorem gcdL_snoc (ns : List Int) (n : Int) : gcdL (ns ++ [n]) = Nat.gcd (gcdL ns) n.natAbs := by
  unfold gcdL
  rw [List.foldl_append]
  rfl
theorem gcdF_dvd : ∀ (ns : List Int) (g : Nat), ns.foldl (fun g n => Nat.gcd g n.natAbs) g ∣ g ∧ ∀ n ∈ ns, ns.foldl (fun g n => Nat.gcd g n.natAbs) g ∣ n.natAbs
  | [], g => ⟨Nat.dvd_refl g, fun _ h => nomatch h⟩
  | x :: r, g => by
    obtain ⟨h1, h2⟩ := gcdF_dvd r (Nat.gcd g x.natAbs)
    refine ⟨Nat.dvd_trans h1 (Nat.gcd_dvd_left _ _), fun n hn => ?_⟩
    rcases List.mem_cons.mp hn with e | e
    · rw [e]
      exact Nat.dvd_trans h1 (Nat.gcd_dvd_right _ _)
    · exact h2 n e
theorem gcdL_dvd {ns : List Int} {n : Int} (h : n ∈ ns) : gcdL ns ∣ n.natAbs := (gcdF_dvd ns 0).2 n h
theorem gcdL_dvdI {ns : List Int} {n : Int} (h : n ∈ ns) : (gcdL ns : Int) ∣ n := Int.ofNat_dvd_left.mpr (gcdL_dvd h)
theorem dvd_gcdF {d : Nat} : ∀ (ns : List Int) (g : Nat), d ∣ g → (∀ n ∈ ns, d ∣ n.natAbs) → d ∣ ns.foldl (fun g n => Nat.gcd g n.natAbs) g
  | [], _, h, _ => h
  | x :: r, g, h, hr => dvd_gcdF r _ (Nat.dvd_gcd h (hr x List.mem_cons_self)) fun n hn => hr n (List.mem_cons_of_mem _ hn)
theorem dvd_gcdL {d : Nat} {ns : List Int} (h : ∀ n ∈ ns, d ∣ n.natAbs) : d ∣ gcdL ns := dvd_gcdF ns 0 (Nat.dvd_zero d) h
theorem gcdL_pos {ns : List Int} {n : Int} (h : n ∈ ns) (h0 : n ≠ 0) : 0 < gcdL ns := by
  rcases Nat.eq_zero_or_pos (gcdL ns) with e | e
  · have q := gcdL_dvd h
    rw [e, Nat.zero_dvd] at q
    omega
  · exact e
theorem gcdL_le {ns : List Int} {n : Int} (h : n ∈ ns) (h0 : n ≠ 0) : (gcdL ns : Int) ≤ n.natAbs := by
  have q := Nat.le_of_dvd (by omega) (gcdL_dvd h)
  omega
def lowL (ns : List Int) : List Int := ns.map fun n => n / (gcdL ns : Int)
theorem lowL_mul {ns : List Int} {n : Int} (h : n ∈ ns) : n / (gcdL ns : Int) * (gcdL ns : Int) = n := Int.ediv_mul_cancel (gcdL_dvdI h)
theorem gcdL_lowL {ns : List Int} (h : 0 < gcdL ns) : gcdL (lowL ns) = 1 := by
  have key : gcdL ns * gcdL (lowL ns) ∣ gcdL ns := by
    refine dvd_gcdL fun n hn => ?_
    have h1 : gcdL (lowL ns) ∣ (n / (gcdL ns : Int)).natAbs := gcdL_dvd (List.mem_map.mpr ⟨n, hn, rfl⟩)
    obtain ⟨c, hc⟩ := h1
    have h2 := congrArg Int.natAbs (lowL_mul hn)
    rw [Int.natAbs_mul, Int.natAbs_natCast, hc] at h2
    rw [← h2]
    exact ⟨c, by rw [Nat.mul_comm, Nat.mul_assoc]⟩
  obtain ⟨c, hc⟩ := key
  have h3 : gcdL ns * (gcdL (lowL ns) * c) = gcdL ns * 1 := by
    rw [← Nat.mul_assoc, ← hc, Nat.mul_one]
  have h4 := Nat.eq_of_mul_eq_mul_left h h3
  exact Nat.dvd_one.mp ⟨c, h4.symm⟩
theorem gcdL_two (x y : Int) : gcdL [x, y] = Nat.gcd x.natAbs y.natAbs := by
  show Nat.gcd (Nat.gcd 0 x.natAbs) y.natAbs = _
  rw [Nat.gcd_zero_left]
theorem gcdL_three (x y z : Int) : gcdL [x, y, z] = Nat.gcd (Nat.gcd x.natAbs y.natAbs) z.natAbs := by
  show Nat.gcd (Nat.gcd (Nat.gcd 0 x.natAbs) y.natAbs) z.natAbs = _
  rw [Nat.gcd_zero_left]
theorem gcdL_neg (ns : List Int) : gcdL (ns.map fun n => -n) = gcdL ns := by
  have key : ∀ (l : List Int) (g : Nat), (l.map fun n => -n).foldl (fun g n => Nat.gcd g n.natAbs) g = l.foldl (fun g n => Nat.gcd g n.natAbs) g := by
    intro l
    induction l with
    | nil => intro g; rfl
    | cons x r ih =>
      intro g
      show (r.map fun n => -n).foldl _ (Nat.gcd g (-x).natAbs) = r.foldl _ (Nat.gcd g x.natAbs)
      rw [ih, Int.natAbs_neg]
  exact key ns 0
theorem gcd_step {a b : Int} (ha : 0 ≤ a) (hb : 0 < b) : Nat.gcd b.toNat (a % b).toNat = Nat.gcd a.toNat b.toNat := by
  obtain ⟨m, rfl⟩ := Int.eq_ofNat_of_zero_le ha
  obtain ⟨n, rfl⟩ := Int.eq_ofNat_of_zero_le (Int.le_of_lt hb)
  have e : ((m : Int) % (n : Int)).toNat = m % n := by
    rw [← Int.natCast_emod]
    rfl
  show Nat.gcd n ((m : Int) % (n : Int)).toNat = Nat.gcd m n
  rw [e, Nat.gcd_comm m n, Nat.gcd_rec n m, Nat.gcd_comm]
theorem abs_if (i : Int) : (if i < 0 then -i else i) = (i.natAbs : Int) := by
  split <;> omega
end Sea
namespace Sea
structure PartOf (t b x y : Int) : Prop where
  pos : 1 ≤ y
  low : Nat.gcd x.natAbs y.natAbs = 1
  eq : x * b = y * t
  xle : x.natAbs ≤ t.natAbs
  yle : y.natAbs ≤ b.natAbs
theorem ediv_le_abs (n : Int) {g : Int} (hg : 0 < g) (h : g ∣ n) : (n / g).natAbs ≤ n.natAbs := by
  obtain ⟨c, hc⟩ := h
  subst hc
  rw [Int.mul_ediv_cancel_left c (by omega), Int.natAbs_mul]
  exact Nat.le_mul_of_pos_left _ (by omega)
theorem partOf_low (t : Int) {b : Int} (hb : b ≠ 0) : ∃ x y : Int, (lowL (if b < 0 then [t, b].map (fun n => -n) else [t, b])) = [x, y] ∧ PartOf t b x y := by
  have key : ∀ (t b : Int), 0 < b → ∃ x y : Int, lowL [t, b] = [x, y] ∧ PartOf t b x y := fun t b hb => by
    have gp : 0 < gcdL [t, b] := gcdL_pos (n := b) (by simp) (by omega)
    have e1 := lowL_mul (ns := [t, b]) (n := t) (by simp)
    have e2 := lowL_mul (ns := [t, b]) (n := b) (by simp)
    have gI : (0 : Int) < (gcdL [t, b] : Int) := by omega
    refine ⟨t / (gcdL [t, b] : Int), b / (gcdL [t, b] : Int), rfl, ?_, ?_, ?_, ediv_le_abs t gI (gcdL_dvdI (by simp)), ediv_le_abs b gI (gcdL_dvdI (by simp))⟩
    · exact Int.ediv_pos_of_pos_of_dvd hb (Int.le_of_lt gI) (gcdL_dvdI (by simp))
    · have h3 := gcdL_lowL gp
      rw [← gcdL_two]
      exact h3
    · generalize (gcdL [t, b] : Int) = g at e1 e2
      calc t / g * b = t / g * (b / g * g) := by rw [e2]
        _ = b / g * (t / g * g) := by rw [← Int.mul_assoc, ← Int.mul_assoc, Int.mul_comm (t / g)]
        _ = b / g * t := by rw [e1]
  by_cases h : b < 0
  · rw [if_pos h]
    obtain ⟨x, y, e, p⟩ := key (-t) (-b) (by omega)
    refine ⟨x, y, e, p.pos, p.low, ?_, by have := p.xle; omega, by have := p.yle; omega⟩
    have q := p.eq
    rw [Int.mul_neg, Int.mul_neg] at q
    omega
  · rw [if_neg h]
    exact key t b (by omega)
end Sea
namespace Sea
theorem natAbs_mul_le (a b : Int) {m n : Nat} (ha : a.natAbs ≤ m) (hb : b.natAbs ≤ n) : (a * b).natAbs ≤ m * n := by
  rw [Int.natAbs_mul]
  exact Nat.mul_le_mul ha hb
theorem big_ok {b : Int} (h : b.natAbs ≤ 10 ^ 40) : b.natAbs < 10 ^ 500 := Nat.lt_of_le_of_lt h (by decide +kernel)
end Sea
namespace Sea
theorem dir_low {X Y : Int} (h : X ≠ 0 ∨ Y ≠ 0) : ∃ x y : Int, lowL [X, Y] = [x, y] ∧ 0 < gcdL [X, Y] ∧ (gcdL [X, Y] ≤ X.natAbs ∨ gcdL [X, Y] ≤ Y.natAbs) ∧ Nat.gcd x.natAbs y.natAbs = 1 ∧ x * Y - y * X = 0 ∧ 0 < x * X + y * Y ∧ x.natAbs ≤ X.natAbs ∧ y.natAbs ≤ Y.natAbs := by
  have gp : 0 < gcdL [X, Y] := by
    rcases h with h | h
    · exact gcdL_pos (n := X) (by simp) h
    · exact gcdL_pos (n := Y) (by simp) h
  have gI : (0 : Int) < (gcdL [X, Y] : Int) := by omega
  have e1 := lowL_mul (ns := [X, Y]) (n := X) (by simp)
  have e2 := lowL_mul (ns := [X, Y]) (n := Y) (by simp)
  refine ⟨X / (gcdL [X, Y] : Int), Y / (gcdL [X, Y] : Int), rfl, gp, ?_, ?_, ?_, ?_, ediv_le_abs X gI (gcdL_dvdI (by simp)), ediv_le_abs Y gI (gcdL_dvdI (by simp))⟩
  · rcases h with h | h
    · exact .inl (Nat.le_of_dvd (by omega) (gcdL_dvd (by simp)))
    · exact .inr (Nat.le_of_dvd (by omega) (gcdL_dvd (by simp)))
  · rw [← gcdL_two]
    exact gcdL_lowL gp
  · generalize (gcdL [X, Y] : Int) = g at e1 e2
    generalize X / g = x at e1
    generalize Y / g = y at e2
    rw [← e1, ← e2, ← Int.mul_assoc, ← Int.mul_assoc, Int.mul_comm x y]
    omega
  · generalize (gcdL [X, Y] : Int) = g at e1 e2 gI
    have f1 : 0 ≤ X / g * X := by
      have : X / g * X = X / g * (X / g) * g := by rw [Int.mul_assoc, e1]
      rw [this]
      exact Int.mul_nonneg (by rw [← Int.natAbs_mul_self]; exact Int.natCast_nonneg _) (Int.le_of_lt gI)
    have f2 : 0 ≤ Y / g * Y := by
      have : Y / g * Y = Y / g * (Y / g) * g := by rw [Int.mul_assoc, e2]
      rw [this]
      exact Int.mul_nonneg (by rw [← Int.natAbs_mul_self]; exact Int.natCast_nonneg _) (Int.le_of_lt gI)
    rcases h with h | h
    · have : X / g * X ≠ 0 := Int.mul_ne_zero (fun z => h (by rw [← e1, z, Int.zero_mul])) h
      omega
    · have : Y / g * Y ≠ 0 := Int.mul_ne_zero (fun z => h (by rw [← e2, z, Int.zero_mul])) h
      omega
end Sea
namespace Sea
end Sea
namespace Sea
def upL (X Y W : Int) : List Int := if W < 0 then [-X, -Y, -W] else [X, Y, W]
theorem upL_neg {X Y W : Int} (h : W ≠ 0) : upL (-X) (-Y) (-W) = upL X Y W := by
  unfold upL
  by_cases c : W < 0
  · rw [if_pos c, if_neg (by omega)]
  · rw [if_neg c, if_pos (by omega), Int.neg_neg, Int.neg_neg, Int.neg_neg]
structure SpotOf (X Y W x y w : Int) : Prop where
  pos : 1 ≤ w
  low : Nat.gcd (Nat.gcd x.natAbs y.natAbs) w.natAbs = 1
  ex : x * W = X * w
  ey : y * W = Y * w
  xle : x.natAbs ≤ X.natAbs
  yle : y.natAbs ≤ Y.natAbs
  wle : w.natAbs ≤ W.natAbs
theorem spot_key {X Y W : Int} (h : 0 < W) : ∃ x y w : Int, lowL [X, Y, W] = [x, y, w] ∧ SpotOf X Y W x y w := by
  have gp : 0 < gcdL [X, Y, W] := gcdL_pos (n := W) (by simp) (by omega)
  have gI : (0 : Int) < (gcdL [X, Y, W] : Int) := by omega
  have e1 := lowL_mul (ns := [X, Y, W]) (n := X) (by simp)
  have e2 := lowL_mul (ns := [X, Y, W]) (n := Y) (by simp)
  have e3 := lowL_mul (ns := [X, Y, W]) (n := W) (by simp)
  have lo := gcdL_lowL gp
  refine ⟨X / (gcdL [X, Y, W] : Int), Y / (gcdL [X, Y, W] : Int), W / (gcdL [X, Y, W] : Int), rfl, Int.ediv_pos_of_pos_of_dvd h (Int.le_of_lt gI) (gcdL_dvdI (by simp)), ?_, ?_, ?_, ediv_le_abs X gI (gcdL_dvdI (by simp)), ediv_le_abs Y gI (gcdL_dvdI (by simp)), ediv_le_abs W gI (gcdL_dvdI (by simp))⟩
  · rw [← gcdL_three]
    exact lo
  · generalize (gcdL [X, Y, W] : Int) = g at e1 e3
    generalize X / g = x at e1
    generalize W / g = w at e3
    rw [← e1, ← e3, Int.mul_assoc, Int.mul_comm g w]
  · generalize (gcdL [X, Y, W] : Int) = g at e2 e3
    generalize Y / g = y at e2
    generalize W / g = w at e3
    rw [← e2, ← e3, Int.mul_assoc, Int.mul_comm g w]
theorem spot_low {X Y W : Int} (h : W ≠ 0) : ∃ x y w : Int, lowL (upL X Y W) = [x, y, w] ∧ SpotOf X Y W x y w := by
  unfold upL
  by_cases c : W < 0
  · rw [if_pos c]
    obtain ⟨x, y, w, e, p⟩ := spot_key (X := -X) (Y := -Y) (W := -W) (by omega)
    refine ⟨x, y, w, e, p.pos, p.low, ?_, ?_, by have := p.xle; omega, by have := p.yle; omega, by have := p.wle; omega⟩
    · have q := p.ex
      rw [Int.mul_neg, Int.neg_mul] at q
      omega
    · have q := p.ey
      rw [Int.mul_neg, Int.neg_mul] at q
      omega
  · rw [if_neg c]
    exact spot_key (by omega)
theorem cross_on {A B C X Y W x y w : Int} (h : W ≠ 0) (p : SpotOf X Y W x y w) (e : A * X + B * Y = C * W) : A * x + B * y = C * w := by
  refine Int.eq_of_mul_eq_mul_right h ?_
  have e1 : (A * x + B * y) * W = A * (x * W) + B * (y * W) := by rw [Int.add_mul, Int.mul_assoc, Int.mul_assoc]
  have e2 : A * (X * w) + B * (Y * w) = (A * X + B * Y) * w := by rw [Int.add_mul, Int.mul_assoc, Int.mul_assoc]
  rw [e1, p.ex, p.ey, e2, e, Int.mul_assoc, Int.mul_comm W w, ← Int.mul_assoc]
theorem cross_one (A1 B1 C1 A2 B2 C2 : Int) : A1 * (C1 * B2 - B1 * C2) + B1 * (A1 * C2 - C1 * A2) = C1 * (A1 * B2 - B1 * A2) := by
  simp only [Int.mul_sub, Int.mul_comm, Int.mul_left_comm]
  omega
theorem cross_two (A1 B1 C1 A2 B2 C2 : Int) : A2 * (C1 * B2 - B1 * C2) + B2 * (A1 * C2 - C1 * A2) = C2 * (A1 * B2 - B1 * A2) := by
  simp only [Int.mul_sub, Int.mul_comm, Int.mul_left_comm]
  omega
end Sea
namespace Sea
theorem gcd3 (D0 D1 D2 : Int) : (Nat.gcd ((Nat.gcd D0.natAbs D1.natAbs : Nat) : Int).natAbs D2.natAbs : Nat) = gcdL [D0, D1, D2] := by
  rw [gcdL_three, Int.natAbs_natCast]
end Sea

namespace Sea
theorem sq_pos {a b : Int} (h : a ≠ 0 ∨ b ≠ 0) : 1 ≤ a * a + b * b := by
  have s1 : 0 ≤ a * a := by rw [← Int.natAbs_mul_self]; exact Int.natCast_nonneg _
  have s2 : 0 ≤ b * b := by rw [← Int.natAbs_mul_self]; exact Int.natCast_nonneg _
  rcases h with h | h
  · have : a * a ≠ 0 := Int.mul_ne_zero h h
    omega
  · have : b * b ≠ 0 := Int.mul_ne_zero h h
    omega
end Sea
namespace Sea
end Sea

namespace Sea
abbrev SpT := Nat × Int × Int × Int
end Sea

namespace L2
open PySem PySem.Spec PyProof.Rows

structure CC where
  C : Addr
  s : Shared
  H : Hp
  fp : List Addr

def closL (env : Env) : List (Str × NameKind) → List (Str × Addr) → List (Str × Addr)
  | [], cs => cs
  | (n, k) :: r, cs => closL env r (if (k == NameKind.free) = true then (n, (env.cells.lookup n).getD 0) :: cs else cs)
theorem clos_eq {scope : Scope} {env : Env} (h : ∀ x ∈ scope.names, x.2 = .free → ∃ c, env.cells.lookup x.1 = some c) : closureFor scope env = pure (closL env scope.names []) := by
  simp only [closureFor]
  have key : ∀ (names : List (Str × NameKind)) (cs : List (Str × Addr)), (∀ x ∈ names, x.2 = .free → ∃ c, env.cells.lookup x.1 = some c) →
    (forIn names cs (fun (x : Str × NameKind) (r : List (Str × Addr)) => match x with | (name, kind) => if (kind == NameKind.free) = true then (do let a ← cellOf env name; pure (ForInStep.yield ((name, a) :: r))) else pure (ForInStep.yield r)) : Sem (List (Str × Addr))) = pure (closL env names cs) := by
    intro names
    induction names with
    | nil => intro cs _; rfl
    | cons x r ih =>
      intro cs hx
      obtain ⟨n, k⟩ := x
      rw [List.forIn_cons]
      have hr := ih (if (k == NameKind.free) = true then (n, (env.cells.lookup n).getD 0) :: cs else cs) fun y hy => hx y (List.mem_cons_of_mem _ hy)
      by_cases hk : (k == NameKind.free) = true
      · obtain ⟨c, hc⟩ := hx (n, k) List.mem_cons_self (by simpa using hk)
        have e : cellOf env n = pure c := by unfold cellOf; rw [hc]
        rw [if_pos hk] at hr
        have hc' : env.cells.lookup n = some c := hc
        rw [hc'] at hr
        show (((if (k == NameKind.free) = true then (do let a ← cellOf env n; pure (ForInStep.yield ((n, a) :: cs))) else pure (ForInStep.yield cs)) : Sem _) >>= _) = _
        rw [if_pos hk, e]
        refine Eq.trans ?_ (hr.trans ?_)
        · rfl
        · rw [closL, if_pos hk, hc']
      · rw [if_neg hk] at hr
        show (((if (k == NameKind.free) = true then (do let a ← cellOf env n; pure (ForInStep.yield ((n, a) :: cs))) else pure (ForInStep.yield cs)) : Sem _) >>= _) = _
        rw [if_neg hk]
        refine Eq.trans ?_ (hr.trans ?_)
        · rfl
        · rw [closL, if_neg hk]
  exact congrArg (fun (z : Sem (List (Str × Addr))) => z >>= fun cs => pure cs) (key scope.names [] h)
theorem closL_sound {env : Env} : ∀ (names : List (Str × NameKind)) (cs : List (Str × Addr)), (∀ x ∈ names, x.2 = .free → ∃ c, env.cells.lookup x.1 = some c) →
    (∀ x c, cs.lookup x = some c → env.cells.lookup x = some c) → ∀ x c, (closL env names cs).lookup x = some c → env.cells.lookup x = some c
  | [], _, _, hc => hc
  | (n, k) :: r, cs, h, hc => by
    refine closL_sound r _ (fun y hy => h y (List.mem_cons_of_mem _ hy)) fun x c => ?_
    by_cases hk : (k == NameKind.free) = true
    · rw [if_pos hk]
      obtain ⟨d, hd⟩ := h (n, k) List.mem_cons_self (by simpa using hk)
      have hd' : env.cells.lookup n = some d := hd
      intro e
      rw [List.lookup_cons] at e
      cases hx : x == n with
      | true =>
        rw [hx, hd'] at e
        have ex : x = n := by simpa using hx
        rw [ex, hd']
        exact e
      | false =>
        rw [hx] at e
        exact hc x c e
    · rw [if_neg hk]
      exact hc x c
theorem closL_has {env : Env} : ∀ (names : List (Str × NameKind)) (cs : List (Str × Addr)) (x : Str), ((x, NameKind.free) ∈ names ∨ ∃ c, cs.lookup x = some c) → ∃ c, (closL env names cs).lookup x = some c
  | [], _, _, h => h.elim (fun z => nomatch z) id
  | (n, k) :: r, cs, x, h => by
    refine closL_has r _ x ?_
    by_cases hk : (k == NameKind.free) = true
    · rw [if_pos hk]
      cases hx : x == n with
      | true => exact .inr ⟨_, by rw [List.lookup_cons, hx]⟩
      | false =>
        rcases h with h | ⟨c, h⟩
        · rcases List.mem_cons.mp h with e | e
          · injection e with e1 _
            subst e1
            simp at hx
          · exact .inl e
        · exact .inr ⟨c, by rw [List.lookup_cons, hx]; exact h⟩
    · rw [if_neg hk]
      rcases h with h | h
      · rcases List.mem_cons.mp h with e | e
        · injection e with _ e2
          subst e2
          exact absurd rfl hk
        · exact .inl e
      · exact .inr h
theorem relabel_free {env : Env} : ∀ {names : List (Str × NameKind)} {x : Str}, names.lookup x = some .free →
    (names.map fun (n, k) => if (k == NameKind.free && env.scope.kind == .function && env.kindOf n == some .cell) then (n, NameKind.cell) else (n, k)).lookup x = some .cell ∨
    (names.map fun (n, k) => if (k == NameKind.free && env.scope.kind == .function && env.kindOf n == some .cell) then (n, NameKind.cell) else (n, k)).lookup x = some .free
  | [], _, h => by simp at h
  | (n, k) :: r, x, h => by
    have ih := @relabel_free env r x
    show List.lookup x ((if (k == NameKind.free && env.scope.kind == .function && env.kindOf n == some .cell) = true then (n, NameKind.cell) else (n, k)) :: _) = _ ∨ List.lookup x ((if (k == NameKind.free && env.scope.kind == .function && env.kindOf n == some .cell) = true then (n, NameKind.cell) else (n, k)) :: _) = _
    by_cases hc : (k == NameKind.free && env.scope.kind == .function && env.kindOf n == some .cell) = true
    · rw [if_pos hc]
      cases hx : x == n with
      | true => exact .inl (by rw [List.lookup_cons, hx])
      | false =>
        rw [List.lookup_cons, hx] at h
        rw [List.lookup_cons, hx]
        exact ih h
    · rw [if_neg hc]
      cases hx : x == n with
      | true =>
        rw [List.lookup_cons, hx] at h
        exact .inr (by rw [List.lookup_cons, hx]; exact h)
      | false =>
        rw [List.lookup_cons, hx] at h
        rw [List.lookup_cons, hx]
        exact ih h
theorem relabel_back {env : Env} : ∀ {names : List (Str × NameKind)} {x : Str} {j : NameKind}, (∀ y ∈ names, y.2 ≠ .cell) → (j = .cell ∨ j = .free) →
    (names.map fun (n, k) => if (k == NameKind.free && env.scope.kind == .function && env.kindOf n == some .cell) then (n, NameKind.cell) else (n, k)).lookup x = some j → (x, NameKind.free) ∈ names
  | [], _, _, _, _, h => by simp at h
  | (n, k) :: r, x, j, hn, hj, h => by
    have ih := @relabel_back env r x j (fun y hy => hn y (List.mem_cons_of_mem _ hy)) hj
    have hk0 : k ≠ .cell := hn (n, k) List.mem_cons_self
    replace h : List.lookup x ((if (k == NameKind.free && env.scope.kind == .function && env.kindOf n == some .cell) = true then (n, NameKind.cell) else (n, k)) :: (r.map fun (n, k) => if (k == NameKind.free && env.scope.kind == .function && env.kindOf n == some .cell) then (n, NameKind.cell) else (n, k))) = some j := h
    by_cases hc : (k == NameKind.free && env.scope.kind == .function && env.kindOf n == some .cell) = true
    · rw [if_pos hc] at h
      have hf : k = .free := by
        simp only [Bool.and_eq_true] at hc
        simpa using hc.1.1
      cases hx : x == n with
      | true =>
        have ex : x = n := by simpa using hx
        subst ex
        rw [← hf]
        exact List.mem_cons_self
      | false =>
        rw [List.lookup_cons, hx] at h
        exact List.mem_cons_of_mem _ (ih h)
    · rw [if_neg hc] at h
      cases hx : x == n with
      | true =>
        rw [List.lookup_cons, hx] at h
        have ex : x = n := by simpa using hx
        have ek : k = j := Option.some.inj h
        subst ex
        rcases hj with hj | hj
        · exact absurd (ek.trans hj) hk0
        · rw [← hj, ← ek]
          exact List.mem_cons_self
      | false =>
        rw [List.lookup_cons, hx] at h
        exact List.mem_cons_of_mem _ (ih h)

def cxComp (X : Cx) (N : List Str) (scope : Scope) (c : CC) : Cx where
  prog := X.prog
  w := X.w
  K := X.K
  mg := X.mg
  base := X.base
  A := X.A
  N := N
  s₀ := c.s
  H₀ := c.H
  env := compEnvC scope (closL X.env scope.names []) c.C X.env
  outer := X.stack
  stack := X.stack
  ex := c.fp
  fn := fun _ => false
  calm := X.calm
  pn := []
  xe := fun _ _ => False

def CapsOk (X : Cx) (scope : Scope) : List (Str × Nat) → Prop
  | [] => True
  | p :: r => (X.N[p.2]? = some p.1 ∧ scope.names.lookup p.1 = some .free ∧ (X.env.kindOf p.1 = some .cell ∨ X.env.kindOf p.1 = some .free)) ∧ CapsOk X scope r
theorem CapsOk.mem {X : Cx} {scope : Scope} : ∀ {caps : List (Str × Nat)}, CapsOk X scope caps → ∀ p ∈ caps, X.N[p.2]? = some p.1 ∧ scope.names.lookup p.1 = some .free ∧ (X.env.kindOf p.1 = some .cell ∨ X.env.kindOf p.1 = some .free)
  | [], _, _, h => nomatch h
  | q :: r, h, p, hp => by
    rcases List.mem_cons.mp hp with e | e
    · rw [e]; exact h.1
    · exact CapsOk.mem h.2 p e
structure CompScope (X : Cx) (caps : List (Str × Nat)) (scope : Scope) : Prop where
  kind : scope.kind = .function
  nocell : ∀ y ∈ scope.names, y.2 ≠ .cell
  loc : ∀ y ∈ scope.names, y.2 = .local → scope.names.lookup y.1 = some .local
  clos : (scope.names.all fun x => !(x.2 == .free) || (X.env.cells.lookup x.1).isSome) = true
  cap : CapsOk X scope caps
theorem CompScope.cells {X : Cx} {caps : List (Str × Nat)} {scope : Scope} (S : CompScope X caps scope) : ∀ x ∈ scope.names, x.2 = .free → ∃ c, X.env.cells.lookup x.1 = some c := fun x hx hf => by
  have h := List.all_eq_true.mp S.clos x hx
  rw [hf] at h
  simp only [Bool.or_eq_true] at h
  rcases h with h | h
  · exact absurd h (by decide)
  · exact Option.isSome_iff_exists.mp h

def capSt (caps : List (Str × Nat)) (nt : Nat) (σ : St) : St := List.replicate nt none ++ caps.map fun p => (σ[p.2]?).join

def PIfs (Y : Cx) (ifs : List Expr) (t : TT) : Prop :=
  ∀ (pins : List (Addr × Obj)) (s : Shared) (σ : St) (H : Hp) (Q : Bool → Hp → Prop), Inv Y pins σ H s → t σ H Q →
    wpAny (model Y.prog Y.w) Y.A (forIn ifs true fun c r => if r = true then do let ok ← isTrue c Y.env (eval c Y.env); pure (ForInStep.yield ok) else pure (ForInStep.yield r)) (TP Y pins σ Q) Y.xe s
def tYes : TT := fun _ H Q => Q true H
theorem pifs_nil {Y : Cx} : PIfs Y [] tYes := fun _ _ _ H _ I h => wpAny_tests_nil ⟨H, I, h⟩
theorem pifs_one {Y : Cx} {c : Expr} {t : TT} (h : PT Y c t) : PIfs Y [c] t := fun pins s σ H Q I q => wpAny_tests_one (h pins s σ H Q I q)

def CompW (J : It) (D : Addr) (g : TG) (tt : TT) (te : TE) (σ0 : St) (H1 : Hp) (Q : VK) : Prop :=
  ∃ W : Nat → Nat → St → List V → Hp → Prop, (∃ m, W 0 m σ0 [] (upd H1 D (.lst []))) ∧ ∀ i m σ ys H, W i m σ ys H → H D = some (.lst ys) ∧
    ((J.stop i H ∧ Q (.ref D) H) ∨ (J.go i H ∧ ∃ N : St → List V → Hp → Prop, (∀ σ' zs H', N σ' zs H' → ∃ m', m' < m ∧ W (i + 1) m' σ' zs H') ∧ ∀ x H', J.yld i H x H' → g x σ H' fun σ2 H2 => tt σ2 H2 fun b H3 =>
      if b = true then te σ2 H3 fun y H4 => H4 D = some (.lst ys) ∧ ys.length < sizeLine ∧ N σ2 (ys ++ [y]) (upd H4 D (.lst (ys ++ [y]))) else N σ2 ys H3))
def tComp (nt : Nat) (caps : List (Str × Nat)) (wi : TI) (g : CC → TG) (tt : CC → TT) (te : CC → TE) : TE := fun σ H Q =>
  wi σ H fun J H1 => ∀ (c : CC) (D : Addr), H1 D = none → CompW J D (g c) (tt c) (te c) (capSt caps nt σ) H1 Q

theorem thnF {α : Type} {t : Sem α} {Q Q' : α → Shared → Prop} {M : Model} {A : Around} {E : Value → Shared → Prop} {s : Shared} (h : wpAny M A t Q (fun _ _ => False) s) (hQ : ∀ a s, Q a s → Q' a s) : wpAny M A t Q' E s := wpAny_mono h hQ fun _ _ x => x.elim
theorem Un.same {fs ex : List Addr} {H H' : Hp} {h h1 h2 : Heap} {C : Addr} (u : Un fs ex H H' h h1) (sb : Heap.SameBut C h1 h2) (hC : h.get? C = none) : Un fs ex H H' h h2 := by
  have ne : ∀ b o, h.get? b = some o → b ≠ C := fun b o e z => by rw [z, hC] at e; cases e
  refine ⟨fun b o e n hb hx => (sb.2 b (ne b o e)).trans (u.keep b o e n hb hx), fun b o e n hb hx => ?_, u.free, fun b o e hx => ?_, u.tups, u.frzs, u.tbls⟩
  · obtain ⟨sl, q⟩ := u.slot b o e n hb hx
    exact ⟨sl, (sb.2 b (ne b o e)).trans q⟩
  · obtain ⟨o', q⟩ := u.there b o e hx
    exact ⟨o', (sb.2 b (ne b o e)).trans q⟩
theorem HOk.same {P : Program} {w : World} {H : Hp} {h h' : Heap} {C : Addr} (k : HOk P w H h) (sb : Heap.SameBut C h h') (hC : H C = none) : HOk P w H h' := fun b o e => by
  refine (k b o e).stay (fun c v hc q => (sb.2 c ?_).trans q) (fun _ q => q) fun _ _ q => q
  rintro rfl
  rcases hc with z | z
  · rw [z, e] at hC; cases hC
  · rw [hC] at z; cases z

section
variable {X : Cx} {T : List Str} {caps : List (Str × Nat)} {scope : Scope} {elt target iter : Expr} {ifs : List Expr} {pos : Pos} {wi : TI} {g : CC → TG} {tt : CC → TT} {te : CC → TE}

theorem comp_start {pins : List (Addr × Obj)} {σ : St} {H2 : Hp} {s2 : Shared} {fp : List Addr} {C D : Addr} {h1 : Heap} {tk : Nat} {m : Str → Option Value} (S : CompScope X caps scope) (I2 : Inv X pins σ H2 s2) (f2 : ∀ b ∈ fp, FpOk X pins H2 b)
    (hfp : ∀ b ∈ fp, b < s2.heap.objs.size) (hD : s2.heap.objs.size ≤ D) (hC : s2.heap.objs.size ≤ C) (hDC : C ≠ D) (old : ∀ b o, s2.heap.get? b = some o → h1.get? b = some o)
    (acc : ∃ n, h1.get? D = some { cls := .type "list", data := .seq ([] : List Value).toArray n }) (hn : h1.Ns C m) :
    Inv (cxComp X (T ++ caps.map (·.1)) scope ⟨C, s2, H2, fp⟩) [] (capSt caps T.length σ) (upd H2 D (.lst [])) { s2 with heap := h1, toks := tk } := by
  have cs := closL_sound (env := X.env) scope.names [] S.cells (fun _ _ z => by cases z)
  have cellOld : ∀ x c, X.env.cells.lookup x = some c → c < s2.heap.objs.size := fun x c e => by
    obtain ⟨v, q⟩ := I2.cell x c e
    exact q.lt
  have stkNo : ∀ b ∈ fp, b ∉ frs X.stack := fun b hb z => by
    rcases List.mem_cons.mp (I2.stkSub b z) with e | e
    · exact (f2 b hb).2.1 e
    · exact (f2 b hb).2.2.1 e
  have fr : H2 D = none := I2.hok.fresh hD
  refine ⟨⟨I2.ok.mod, S.kind, I2.ok.glob, I2.ok.blt, hC, fun x y c e1 e2 => I2.ok.inj x y c (cs x c e1) (cs y c e2), fun x hx => ?_, fun _ _ z => absurd (show false = true from z) Bool.false_ne_true, I2.ok.hd, I2.ok.frames, .inl rfl, fun b hb => ⟨?_, fun x c e => (f2 b hb).2.2.2.2.1 x c (cs x c e)⟩,
    fun b o e => I2.bs b o e, Nat.le_trans I2.ok.bsz I2.sz, fun b o e hb => ?_, stkNo, I2.stack, I2.stkFree⟩, rfl, I2.bare, ?_, ⟨m, hn, fun i x v e1 e2 e3 => ?_⟩, fun x c e => ?_, ?_, fun x c e => ?_, fun p hp => absurd (show p ∈ ([] : List (Addr × Obj)) from hp) (by simp), ?_, ?_⟩
  · have hx' : (x, NameKind.free) ∈ scope.names := by
      rcases hx with z | z
      · exact relabel_back S.nocell (.inl rfl) z
      · exact relabel_back S.nocell (.inr rfl) z
    exact closL_has scope.names [] x (.inl hx')
  · exact Nat.ne_of_lt (Nat.lt_of_lt_of_le (hfp b hb) hC)
  · rcases (f2 b hb).2.2.2.1 with z | z
    · exact I2.ok.noex b o e z
    · exact absurd (Nat.lt_of_lt_of_le (Heap.lt_size (show X.base.get? b = some o from e)) (Nat.le_trans I2.ok.bsz z)) (Nat.lt_irrefl _)
  · exact Un.laid old hD fr
  · have hlt : ¬ i < T.length := fun hi => by
      unfold capSt at e2
      rw [List.getElem?_append_left (by simpa using hi), List.getElem?_replicate, if_pos hi] at e2
      cases e2
    have hge : T.length ≤ i := Nat.le_of_not_lt hlt
    have e1' : (T ++ caps.map (·.1))[i]? = some x := e1
    rw [List.getElem?_append_right hge, List.getElem?_map] at e1'
    unfold capSt at e2
    rw [List.getElem?_append_right (by simpa using hge), List.length_replicate, List.getElem?_map] at e2
    cases hp : caps[i - T.length]? with
    | none => rw [hp] at e1'; cases e1'
    | some p =>
      rw [hp] at e1' e2
      have ex : p.1 = x := Option.some.inj e1'
      have ev : (σ[p.2]?).join = some v := Option.some.inj e2
      obtain ⟨hN, hf, hk⟩ := S.cap.mem p (List.mem_of_getElem? hp)
      have ev' : σ[p.2]? = some (some v) := by
        cases hq : σ[p.2]? with
        | none => rw [hq] at ev; cases ev
        | some o =>
          rw [hq] at ev
          exact congrArg some ev
      obtain ⟨m2, _, hl2⟩ := I2.loc
      obtain ⟨u, ru, l⟩ := hl2 p.2 p.1 v hN ev' (hk.elim (fun z => .inr (.inl z)) fun z => .inr (.inr z))
      refine ⟨u, ru, .inr ⟨?_, ?_⟩⟩
      · rw [← ex]
        exact relabel_free (env := X.env) hf
      · rcases l with ⟨kl, _⟩ | ⟨_, c, ec, hcell⟩
        · rcases hk with z | z <;> (rw [kl] at z; cases z)
        · obtain ⟨d, hd⟩ := closL_has (env := X.env) scope.names [] p.1 (.inl (PySem.mem_of_lookup hf))
          have hd' := cs p.1 d hd
          rw [ec] at hd'
          cases hd'
          obtain ⟨o, ho, hod⟩ := hcell
          exact ⟨c, by rw [← ex]; exact hd, o, old c o ho, hod⟩
  · obtain ⟨v, o, ho, hd⟩ := I2.cell x c (cs x c e)
    exact ⟨v, o, old c o ho, hd⟩
  · show upd H2 D (.lst []) C = none
    rw [upd_ne hDC]
    exact I2.hok.fresh hC
  · show upd H2 D (.lst []) c = none
    rw [upd_ne (Nat.ne_of_lt (Nat.lt_of_lt_of_le (cellOld x c (cs x c e)) hD))]
    exact I2.freeC x c (cs x c e)
  · obtain ⟨n, e⟩ := acc
    exact I2.hok.laid old hD ⟨Nat.zero_le _, [], n, .nil, e⟩
  · show (capSt caps T.length σ).length = (T ++ caps.map (·.1)).length
    unfold capSt
    rw [List.length_append, List.length_append, List.length_map, List.length_map, List.length_replicate]

theorem pe_comp (S : CompScope X caps scope) (hc : X.calm = true) (hi : PI X target iter wi) (hg : ∀ c, PG (cxComp X (T ++ caps.map (·.1)) scope c) target (g c)) (ht : ∀ c, PIfs (cxComp X (T ++ caps.map (·.1)) scope c) ifs (tt c)) (he : ∀ c, PE (cxComp X (T ++ caps.map (·.1)) scope c) elt (te c))
    (hs : ∀ x, foldedSetIterable iter X.env x = pure x := by intro _; rfl) : PE X (.ListComp elt [⟨target, iter, ifs, 0⟩] scope pos) (tComp T.length caps wi g tt te) := by
  intro pins s σ H Q I h
  rw [eval_ListComp]
  refine wpAny_comprehension_free (use := none) rfl hs (clos_eq S.cells) S.kind S.loc (thn (hi pins s σ H _ I h) fun v s1 h1 => thn h1 fun itv s2 h2 => ?_)
  obtain ⟨it, fp, tn, J, H2, e, I2, TT, st2, f2, q2⟩ := h2
  subst e
  refine wpAny_newObj_type (wpAny_newFunctionEnv S.nocell (by intro y hy; simp at hy) (fun h1 hn hsb => ?_) S.kind)
  dsimp only at hn hsb ⊢
  generalize hg2 : s2.heap.push { cls := .type "list", dict := none, data := .seq ([] : List Value).toArray } = G at hn hsb ⊢
  have hCv : G.objs.size = s2.heap.objs.size + 1 := by rw [← hg2, Heap.size_push]
  have hDC : G.objs.size ≠ s2.heap.objs.size := by rw [hCv]; exact Nat.succ_ne_self _
  have hCle : s2.heap.objs.size ≤ G.objs.size := by rw [hCv]; exact Nat.le_succ _
  have old : ∀ b o, s2.heap.get? b = some o → h1.get? b = some o := fun b o e => hsb.extBut b o (Nat.ne_of_lt (Nat.lt_of_lt_of_le (Heap.lt_size e) hCle)) (Heap.get?_push_of_some _ (hg2 ▸ Heap.get?_push_of_some _ e))
  have hacc : ∃ n, h1.get? s2.heap.objs.size = some { cls := .type "list", data := .seq ([] : List Value).toArray n } := ⟨_, hsb.extBut _ _ (Ne.symm hDC) (Heap.get?_push_of_some _ (hg2 ▸ Heap.get?_push_size _ rfl))⟩
  have hfp : ∀ b ∈ fp, b < s2.heap.objs.size := fun b hb => by
    obtain ⟨o, e, _⟩ := TT.obj _ _ st2 b hb
    exact Heap.lt_size e
  have cs := closL_sound (env := X.env) scope.names [] S.cells (fun _ _ z => by cases z)
  have I0 := comp_start (T := T) (tk := s2.toks + ([] : List (Str × Value)).length) S I2 f2 hfp (Nat.le_refl _) hCle hDC old hacc hn
  have st0 : tn 0 h1 := TT.keep _ _ _ st2 fun b _ o e => old b o e
  obtain ⟨W, ⟨m0, w0⟩, turn⟩ := q2 ⟨G.objs.size, s2, H2, fp⟩ s2.heap.objs.size (I2.hok.fresh (Nat.le_refl _))
  have fr0 : ∀ b ∈ fp, upd H2 s2.heap.objs.size (.lst []) b = none := fun b hb => by
    rw [upd_ne (Nat.ne_of_lt (hfp b hb))]
    exact (f2 b hb).1
  have stat : ∀ {H' : Hp}, (∀ b ∈ fp, H' b = none) → ∀ b ∈ fp, FpOk (cxComp X (T ++ caps.map (·.1)) scope ⟨G.objs.size, s2, H2, fp⟩) [] H' b := fun {H'} hn' b hb =>
    ⟨hn' b hb, Nat.ne_of_lt (Nat.lt_of_lt_of_le (hfp b hb) hCle), I0.ok.exfs b hb, .inl hb, fun x c e => (f2 b hb).2.2.2.2.1 x c (cs x c e), fun p hp => absurd (show p ∈ ([] : List (Addr × Obj)) from hp) (by simp)⟩
  have loop : codeAny (model X.prog X.w) X.A (.compLoop (.ListComp elt [⟨target, iter, ifs, 0⟩] scope pos) 0 (.ref it) (.ref s2.heap.objs.size) (compEnvC scope (closL X.env scope.names []) G.objs.size X.env))
      (compPost (model X.prog X.w) X.A X.xe none (EP X pins σ Q) (.ref s2.heap.objs.size) G.objs.size) { s2 with heap := h1, toks := s2.toks + ([] : List (Str × Value)).length } := by
    refine codeAny_loop rfl (fun n s' => ∃ i σ' ys H', Inv (cxComp X (T ++ caps.map (·.1)) scope ⟨G.objs.size, s2, H2, fp⟩) [] σ' H' s' ∧ tn i s'.heap ∧ (∀ b ∈ fp, H' b = none) ∧ W i n σ' ys H') (fun n s3 hI => ?_) m0 ⟨0, _, [], _, I0, st0, fr0, w0⟩
    obtain ⟨i, σ3, ys, H3, I3, st3, fr3, w3⟩ := hI
    show wpAny _ X.A ((compTurn (.ListComp elt [⟨target, iter, ifs, 0⟩] scope pos) 0 (.ref it) (.ref s2.heap.objs.size) (compEnvC scope (closL X.env scope.names []) G.objs.size X.env)).onRaise (fun x => do noteFrame x (compEnvC scope (closL X.env scope.names []) G.objs.size X.env); theTreesLotGoes x)) _ _ s3
    refine wpAny_noted ?_
    rw [compTurn_list]
    refine wpAny_bind (wpAny_standAt (wpAny_bind ?_))
    obtain ⟨hD3, turn3⟩ := turn i n σ3 ys H3 w3
    rcases turn3 with ⟨stop, qn⟩ | ⟨go, N, hN, step⟩
    · refine thnF (TT.done (cxComp X (T ++ caps.map (·.1)) scope ⟨G.objs.size, s2, H2, fp⟩) rfl rfl rfl hc i [] s3 σ3 H3 _ I3 (stat fr3) st3 stop) fun r s4 ⟨hr, I4⟩ => ?_
      subst hr
      refine wpAny_pure ?_
      show ∃ m, s4.heap.Ns G.objs.size m ∧ ∀ h', Heap.SameBut G.objs.size s4.heap h' → EP X pins σ Q (.ref s2.heap.objs.size) { s4 with heap := h' }
      obtain ⟨m4, hn4, _⟩ := I4.loc
      refine ⟨m4, hn4, fun h' sb => ⟨.ref s2.heap.objs.size, H3, ?_, rfl, qn⟩⟩
      refine I2.call' (s' := { s4 with heap := h' }) (ch := fp) I4.os (Un.same I4.base sb (Heap.get?_none_of_le hCle)) (HOk.same I4.hok sb I4.free) I4.bare fun b hb => ?_
      obtain ⟨_, f1, _, f3, f4, f5⟩ := f2 b hb
      exact ⟨f3, f1, f4, f5⟩
    · refine thnF (TT.item (cxComp X (T ++ caps.map (·.1)) scope ⟨G.objs.size, s2, H2, fp⟩) rfl rfl rfl hc i [] s3 σ3 H3 _ I3 (stat fr3) st3 go) fun r s4 ⟨u, hr, h4⟩ => ?_
      subst hr
      refine wpAny_bind (thnF h4 fun _ s5 ⟨x, H5, I5, r5, y5, st5, fr5⟩ => ?_)
      have I5' := I5.pinned (stat fr5) (TT.obj _ _ st5)
      refine wpAny_bind (thnF (hg _ _ s5 σ3 H5 x u _ I5' r5 (step x H5 y5)) fun _ s6 ⟨σ6, H6, I6, q6⟩ => ?_)
      have again : ∀ {s7 : Shared} {σ7 : St} {zs : List V} {H7 : Hp}, Inv (cxComp X (T ++ caps.map (·.1)) scope ⟨G.objs.size, s2, H2, fp⟩) ([] ++ pinsAt fp s5.heap) σ7 H7 s7 → N σ7 zs H7 →
          ∃ m, m < n ∧ ∃ i σ' ys H', Inv (cxComp X (T ++ caps.map (·.1)) scope ⟨G.objs.size, s2, H2, fp⟩) [] σ' H' s7 ∧ tn i s7.heap ∧ (∀ b ∈ fp, H' b = none) ∧ W i m σ' ys H' := fun {s7 σ7 zs H7} I7 n7 => by
        obtain ⟨m', hm, w7⟩ := hN σ7 zs H7 n7
        refine ⟨m', hm, i + 1, σ7, zs, H7, I7.unpinned, TT.keep _ _ _ st5 fun b hb o e => (I7.pin (b, o) (List.mem_append_right _ (List.mem_append_right _ (mem_pinsAt hb e)))).1, fun b hb => ?_, w7⟩
        obtain ⟨o, e, d⟩ := TT.obj _ _ st5 b hb
        exact (I7.pin (b, o) (List.mem_append_right _ (List.mem_append_right _ (mem_pinsAt hb e)))).2.1
      refine wpAny_bind (thnF (ht _ _ s6 σ6 H6 _ I6 q6) fun ok s7 ⟨H7, I7, q7⟩ => ?_)
      cases ok with
      | false => exact wpAny_pure ⟨rfl, again I7 q7⟩
      | true =>
        refine wpAny_bind (wpAny_bind (thnF (he _ _ s7 σ6 H7 _ I7 q7) fun y s8 ⟨yv, H8, I8, r8, hD8, hl8, q8⟩ => ?_))
        refine wpAny_bind (thnF (mt_append _ s8 σ6 H8 (.ref s2.heap.objs.size) [yv] (.ref s2.heap.objs.size) [y] (fun _ H9 => N σ6 (ys ++ [yv]) H9) I8 rfl (.cons r8 .nil) ⟨_, ys, yv, rfl, rfl, hD8, hl8, q8⟩) fun _ s9 ⟨_, H9, I9, _, q9⟩ => ?_)
        exact wpAny_pure (wpAny_pure ⟨rfl, again I9 q9⟩)
  exact codeAny_compStart_list loop (TT.self _ 0 _ _ _ st0 loop)
end
end L2

namespace L2
open PySem PySem.Spec PyProof.Rows

theorem bt_len : bootBuiltins "len" = some (.builtin "len") := by decide +kernel
theorem bt_abs : bootBuiltins "abs" = some (.builtin "abs") := by decide +kernel
theorem bt_all : bootBuiltins "all" = some (.builtin "all") := by decide +kernel
theorem bt_min : bootBuiltins "min" = some (.builtin "min") := by decide +kernel
theorem bt_isinstance : bootBuiltins "isinstance" = some (.builtin "isinstance") := by decide +kernel
theorem bt_int : bootBuiltins "int" = some (.type "int") := by decide +kernel
theorem bt_bool : bootBuiltins "bool" = some (.type "bool") := by decide +kernel
theorem bt_str : bootBuiltins "str" = some (.type "str") := by decide +kernel
theorem bt_list : bootBuiltins "list" = some (.type "list") := by decide +kernel
theorem bt_tuple : bootBuiltins "tuple" = some (.type "tuple") := by decide +kernel
theorem bt_zip : bootBuiltins "zip" = some (.type "zip") := by decide +kernel

def Has (P : Program) (w : World) (K : PySem.W.Frag) (mg : Str → Option Value) (base : Heap) (x : Str) (n : Nat) (ps : List Str) (sp : Sp) : Prop :=
  ∃ (f : Addr) (fd : FuncData), FnOk P w K mg base CX0 n f fd ps sp ∧ Binds K fd ps [] ∧ PySem.W.keepIn K (.ref f) = true ∧ mg x = some (.ref f)
section
variable {X : Cx} {x : Str} {p pos : Pos} {e : Expr} {es : List Expr} {t : TA} {n : Nat} {ps : List Str} {sp : Sp}
theorem pe_callH (h : Has X.prog X.w X.K X.mg X.base x n ps sp) (hr : Room n X.A) (hg : Gl X x) (ha : PA X (e :: es) t) (hdb : (x == ("__debug__" : Str)) = false := by decide)
    (he : starEach (e :: es) X.env = (false, eval e X.env) :: starEach es X.env := by rfl) (hpl : (backTo pos (starEach es X.env)).any (·.1) = false := by rfl) : PE X (.Call (.Name x p) (e :: es) [] pos) (tCall sp [] E0 t) := by
  obtain ⟨f, fd, F, b, k, m⟩ := h
  exact pe_call F hr hg m k b .nil pass0 ha hdb he hpl
end

section
variable {X : Cx}
def CDivP (i j : Int) : Prop := 0 < j ∧ j.natAbs < 2 ^ 4096
theorem op_fdivP : OpR X (binaryOp .FloorDiv) (rI CDivP fun i j => .int (i / j)) := opI fun i j _ _ _ _ _ hc q => by
  have h1 : (0 : Int) < j := hc.1
  have h3 : j.natAbs.log2 < 9000 := Nat.lt_trans ((Nat.log2_lt (by omega)).mpr hc.2) (by decide)
  exact floordiv_int (by omega) (by rw [Int.fdiv_eq_ediv_of_nonneg i (by omega)]; exact q) (.inl (PyProof.noPylong_of_log2 h3))
theorem CDivP.of {i j : Int} (h : 0 < j) (h2 : j < 10 ^ 600) : CDivP i j := by
  refine ⟨h, ?_⟩
  have e : (10 : Nat) ^ 600 < 2 ^ 4096 := by decide +kernel
  omega
theorem call_isinst : CallR X (.builtin "isinstance") (fun xs H Q => ∃ x T t b, xs = [x, .ty T] ∧ TyOf X.K H x t ∧ PySem.W.kitOne X.K t (.type T) = some b ∧ Q (.bl b) H) := by
  intro pins s σ H xs us Q I r h
  obtain ⟨x, T, t, b, rfl, ty, e, q⟩ := h
  obtain ⟨u, v, rfl, ru, rv⟩ := Vals.two r
  cases rv
  exact isinst_ok I ru ty e fun tk => ⟨.bl b, H, I.tok tk, rfl, q⟩

def Sq (K : PySem.W.Frag) (H : Hp) (p : Addr) (xs : List V) : Prop := SqL K H p xs ∨ SqT K H p xs
inductive RIx (K : PySem.W.Frag) (x y : V) (H : Hp) (Q : VK) : Prop where
  | mk (p : Addr) (xs : List V) (i : Int) (v : V) (ex : x = .ref p) (ey : y = .int i) (sq : Sq K H p xs) (at' : atI xs i = some v) (q : Q v H)
def rIxA (K : PySem.W.Frag) : R2 := fun x y H Q => RIx K x y H Q
theorem ix_any : IxR X (rIxA X.K) := by
  intro value slice pins s σ H x y v u Q I rx ry q hs
  obtain ⟨p, xs, i, z, e1, e2, hq, ha, q⟩ := q
  rcases hq with hq | hq
  · exact ix_list value slice pins s σ H x y v u Q I rx ry ⟨p, xs, i, z, e1, e2, hq, ha, q⟩ hs
  · exact ix_tup value slice pins s σ H x y v u Q I rx ry ⟨p, xs, i, z, e1, e2, hq, ha, q⟩ hs
def iSeq (K : PySem.W.Frag) (tl : TE) : TI := fun σ H R => tl σ H fun x H1 => ∃ a, x = .ref a ∧ (((∃ xs, SqL K H1 a xs) ∧ R (Itl K a) H1) ∨ ((∃ xs, SqT K H1 a xs) ∧ R (Itt K a) H1))
theorem pi_seq {tg l : Expr} {tl : TE} (hl : PE X l tl) : PI X tg l (iSeq X.K tl) := by
  intro pins s σ H R I h
  refine thn (hl pins s σ H _ I h) fun v s1 ⟨x, H1, I1, r1, q1⟩ => ?_
  obtain ⟨a, e, q⟩ := q1
  subst e
  cases r1
  have own : ∀ b, b ∈ [s1.heap.objs.size] → FpOk X pins H1 b := fun b hb => by
    rw [List.mem_singleton] at hb
    subst hb
    exact I1.fpOk (Nat.le_refl _) (I1.hok.fresh (Nat.le_refl _))
  rcases q with ⟨⟨xs, hq⟩, q⟩ | ⟨⟨xs, hq⟩, q⟩
  · obtain ⟨its, rv, p, hz⟩ := I1.list hq
    exact wpAny_pyIter_list p.isList ⟨s1.heap.objs.size, [s1.heap.objs.size], _, _, H1, rfl, I1.kept (t' := s1.toks) fun b o e => Heap.get?_push_of_some _ e, turn_list a _, ⟨_, Heap.get?_push_size _ rfl, rfl, rfl⟩, own, q⟩
  · obtain ⟨its, rv, p, hz⟩ := I1.tuple hq
    exact wpAny_pyIter_tuple (show s1.heap.IsTuple a its.toArray from p) ⟨s1.heap.objs.size, [s1.heap.objs.size], _, _, H1, rfl, I1.kept (t' := s1.toks) fun b o e => Heap.get?_push_of_some _ e, turn_tuple a _, ⟨_, Heap.get?_push_size _ rfl, rfl, rfl⟩, own, q⟩
end

section
variable {K : PySem.W.Frag} {a D : Addr} {xs : List V} {g : TG} {tt : TT} {te : TE} {σ0 : St} {H1 : Hp} {Q : VK}
theorem comp_list (Pv : Nat → St → List V → Hp → Prop) (h0 : Pv 0 σ0 [] (upd H1 D (.lst []))) (hl : ∀ i σ ys H, i ≤ xs.length → Pv i σ ys H → SqL K H a xs ∧ H D = some (.lst ys))
    (hs : ∀ i x σ ys H, xs[i]? = some x → Pv i σ ys H → g x σ H fun σ2 H2 => tt σ2 H2 fun b H3 =>
      if b = true then te σ2 H3 fun y H4 => H4 D = some (.lst ys) ∧ ys.length < sizeLine ∧ Pv (i + 1) σ2 (ys ++ [y]) (upd H4 D (.lst (ys ++ [y]))) else Pv (i + 1) σ2 ys H3)
    (hd : ∀ σ ys H, Pv xs.length σ ys H → Q (.ref D) H) : CompW (Itl K a) D g tt te σ0 H1 Q := by
  refine ⟨fun i m σ ys H => m = xs.length - i ∧ i ≤ xs.length ∧ Pv i σ ys H, ⟨xs.length, by simp, Nat.zero_le _, h0⟩, ?_⟩
  rintro i m σ ys H ⟨rfl, hi, p⟩
  obtain ⟨q, qd⟩ := hl i σ ys H hi p
  refine ⟨qd, ?_⟩
  by_cases hlt : i < xs.length
  · refine .inr ⟨⟨xs, xs[i], q, by simp [hlt]⟩, Pv (i + 1), fun σ' zs H' z => ⟨xs.length - (i + 1), by omega, rfl, hlt, z⟩, fun x H' y => ?_⟩
    obtain ⟨e, y⟩ := y
    subst e
    exact hs i x σ ys _ (y xs q) p
  · have e : i = xs.length := by omega
    subst e
    exact .inl ⟨⟨xs, q, Nat.le_refl _⟩, hd σ ys H p⟩
theorem comp_tup (Pv : Nat → St → List V → Hp → Prop) (h0 : Pv 0 σ0 [] (upd H1 D (.lst []))) (hl : ∀ i σ ys H, i ≤ xs.length → Pv i σ ys H → SqT K H a xs ∧ H D = some (.lst ys))
    (hs : ∀ i x σ ys H, xs[i]? = some x → Pv i σ ys H → g x σ H fun σ2 H2 => tt σ2 H2 fun b H3 =>
      if b = true then te σ2 H3 fun y H4 => H4 D = some (.lst ys) ∧ ys.length < sizeLine ∧ Pv (i + 1) σ2 (ys ++ [y]) (upd H4 D (.lst (ys ++ [y]))) else Pv (i + 1) σ2 ys H3)
    (hd : ∀ σ ys H, Pv xs.length σ ys H → Q (.ref D) H) : CompW (Itt K a) D g tt te σ0 H1 Q := by
  refine ⟨fun i m σ ys H => m = xs.length - i ∧ i ≤ xs.length ∧ Pv i σ ys H, ⟨xs.length, by simp, Nat.zero_le _, h0⟩, ?_⟩
  rintro i m σ ys H ⟨rfl, hi, p⟩
  obtain ⟨q, qd⟩ := hl i σ ys H hi p
  refine ⟨qd, ?_⟩
  by_cases hlt : i < xs.length
  · refine .inr ⟨⟨xs, xs[i], q, by simp [hlt]⟩, Pv (i + 1), fun σ' zs H' z => ⟨xs.length - (i + 1), by omega, rfl, hlt, z⟩, fun x H' y => ?_⟩
    obtain ⟨e, y⟩ := y
    subst e
    exact hs i x σ ys _ (y xs q) p
  · have e : i = xs.length := by omega
    subst e
    exact .inl ⟨⟨xs, q, Nat.le_refl _⟩, hd σ ys H p⟩
theorem comp_range {lo : Int} {n : Nat} (Pv : Nat → St → List V → Hp → Prop) (h0 : Pv 0 σ0 [] (upd H1 D (.lst []))) (hl : ∀ i σ ys H, i ≤ n → Pv i σ ys H → H D = some (.lst ys))
    (hs : ∀ i σ ys H, i < n → Pv i σ ys H → g (.int (lo + i)) σ H fun σ2 H2 => tt σ2 H2 fun b H3 =>
      if b = true then te σ2 H3 fun y H4 => H4 D = some (.lst ys) ∧ ys.length < sizeLine ∧ Pv (i + 1) σ2 (ys ++ [y]) (upd H4 D (.lst (ys ++ [y]))) else Pv (i + 1) σ2 ys H3)
    (hd : ∀ σ ys H, Pv n σ ys H → Q (.ref D) H) : CompW (Itr lo n) D g tt te σ0 H1 Q := by
  refine ⟨fun i m σ ys H => m = n - i ∧ i ≤ n ∧ Pv i σ ys H, ⟨n, by simp, Nat.zero_le _, h0⟩, ?_⟩
  rintro i m σ ys H ⟨rfl, hi, p⟩
  have qd := hl i σ ys H hi p
  refine ⟨qd, ?_⟩
  by_cases hlt : i < n
  · refine .inr ⟨hlt, Pv (i + 1), fun σ' zs H' z => ⟨n - (i + 1), by omega, rfl, hlt, z⟩, fun x H' y => ?_⟩
    obtain ⟨e, y⟩ := y
    subst e y
    exact hs i σ ys _ hlt p
  · have e : i = n := by omega
    subst e
    exact .inl ⟨Nat.le_refl _, hd σ ys H p⟩
end
section
variable {K : PySem.W.Frag} {a D : Addr} {xs : List V} {g : TG} {te : TE} {σ0 : St} {H1 : Hp} {Q : VK}
theorem comp_list0 (Pv : Nat → St → List V → Hp → Prop) (h0 : Pv 0 σ0 [] (upd H1 D (.lst []))) (hl : ∀ i σ ys H, i ≤ xs.length → Pv i σ ys H → SqL K H a xs ∧ H D = some (.lst ys))
    (hs : ∀ i x σ ys H, xs[i]? = some x → Pv i σ ys H → g x σ H fun σ2 H2 => te σ2 H2 fun y H4 => H4 D = some (.lst ys) ∧ ys.length < sizeLine ∧ Pv (i + 1) σ2 (ys ++ [y]) (upd H4 D (.lst (ys ++ [y]))))
    (hd : ∀ σ ys H, Pv xs.length σ ys H → Q (.ref D) H) : CompW (Itl K a) D g tYes te σ0 H1 Q := comp_list Pv h0 hl (fun i x σ ys H e p => hs i x σ ys H e p) hd
theorem comp_tup0 (Pv : Nat → St → List V → Hp → Prop) (h0 : Pv 0 σ0 [] (upd H1 D (.lst []))) (hl : ∀ i σ ys H, i ≤ xs.length → Pv i σ ys H → SqT K H a xs ∧ H D = some (.lst ys))
    (hs : ∀ i x σ ys H, xs[i]? = some x → Pv i σ ys H → g x σ H fun σ2 H2 => te σ2 H2 fun y H4 => H4 D = some (.lst ys) ∧ ys.length < sizeLine ∧ Pv (i + 1) σ2 (ys ++ [y]) (upd H4 D (.lst (ys ++ [y]))))
    (hd : ∀ σ ys H, Pv xs.length σ ys H → Q (.ref D) H) : CompW (Itt K a) D g tYes te σ0 H1 Q := comp_tup Pv h0 hl (fun i x σ ys H e p => hs i x σ ys H e p) hd
end
end L2

namespace L2
open PySem PySem.Spec PyProof.Rows
theorem all_range : ∀ bs : List Bool, (List.range bs.length).all (fun i => (bs[i]?).getD true) = bs.all id := by
  intro bs
  rw [Bool.eq_iff_iff, List.all_eq_true, List.all_eq_true]
  constructor
  · intro h b hb
    obtain ⟨i, hi, e⟩ := List.getElem_of_mem hb
    have q := h i (List.mem_range.mpr hi)
    rw [List.getElem?_eq_getElem hi, e] at q
    exact q
  · intro h i hi
    have hi' := List.mem_range.mp hi
    rw [List.getElem?_eq_getElem hi']
    exact h _ (List.getElem_mem hi')
theorem bools_at {bs : List Bool} {its : List Value} (r : Vals (bs.map V.bl) its) {i : Nat} {v : Value} (h : its[i]? = some v) : v = .bool ((bs[i]?).getD true) := by
  have hl := r.length
  rw [List.length_map] at hl
  have hi : i < its.length := (List.getElem?_eq_some_iff.mp h).1
  have hb : i < bs.length := by omega
  obtain ⟨u, hu, ru⟩ := r.get (i := i) (x := .bl bs[i]) (by rw [List.getElem?_map, List.getElem?_eq_getElem hb]; rfl)
  rw [hu] at h
  cases h
  rw [List.getElem?_eq_getElem hb]
  exact ru
section
variable {X : Cx}
theorem call_allB (hc : X.calm = true) : CallR X (.builtin "all") (fun xs H Q => ∃ (p : Addr) (bs : List Bool), xs = [.ref p] ∧ SqL X.K H p (bs.map V.bl) ∧ Q (.bl (bs.all id)) H) := by
  intro pins s σ H xs us Q I r h
  obtain ⟨p, bs, rfl, hq, q⟩ := h
  obtain ⟨u, rfl, ru⟩ := Vals.one r
  cases ru
  obtain ⟨its, rv, pl, hz⟩ := I.list hq
  have plt : p < s.heap.objs.size := by
    obtain ⟨_, e, _⟩ := pl.isList
    exact Heap.lt_size e
  refine call_all_walk (wpAny_pyIter_list pl.isList ?_)
  refine ⟨s.heap.objs.size, _, _, _, _, _, fun i => (bs[i]?).getD true, rfl, Walks.list (A := X.A.in1) (show X.A.in1.handled = none from I.ok.hd hc) _ p (Nat.ne_of_lt plt) its.toArray, ⟨⟨_, Heap.get?_push_size _ rfl, rfl, rfl⟩, Heap.IsList.push pl.isList _⟩, fun i v s Q E hP hQ => ?_, fun h' tk k => ?_⟩
  · have e := bools_at rv (by simpa using hP)
    subst e
    exact wpAny_truthy_bool hQ
  · have e : (List.range its.toArray.size).all (fun i => (bs[i]?).getD true) = bs.all id := by
      have hl := rv.length
      rw [List.length_map] at hl
      rw [List.size_toArray, ← hl]
      exact all_range bs
    rw [e]
    exact ⟨.bl (bs.all id), H, I.kept (t' := tk) fun b o z => k b o (fun w => by rw [List.mem_singleton] at w; exact Nat.lt_irrefl _ (w ▸ Heap.lt_size z)) (Heap.get?_push_of_some _ z), rfl, q⟩
end
end L2

namespace L2
open PySem PySem.Spec PyProof.Rows

def SI (b : Bool) (h : Heap) (i l : Addr) (k : Nat) : Prop := match b with | true => h.IsListIter i l k | false => h.IsTupleIter i l k
def SS (b : Bool) (h : Heap) (l : Addr) (its : Array Value) : Prop := match b with | true => h.IsList l its | false => h.IsTuple l its
def itCls (b : Bool) : String := match b with | true => "list_iterator" | false => "tuple_iterator"
theorem SI.obj {b : Bool} {h : Heap} {i l : Addr} {k : Nat} (x : SI b h i l k) : ∃ o, h.get? i = some o ∧ o.cls = .type (itCls b) ∧ o.data = .fields #[.ref l, .int k 0] := by
  cases b <;> exact x
theorem SI.of {b : Bool} {h : Heap} {i l : Addr} {k : Nat} (x : ∃ o, h.get? i = some o ∧ o.cls = .type (itCls b) ∧ o.data = .fields #[.ref l, .int k 0]) : SI b h i l k := by
  cases b <;> exact x
theorem SI.at {b : Bool} {h h' : Heap} {i l : Addr} {k : Nat} (x : SI b h i l k) (e : ∀ o, h.get? i = some o → h'.get? i = some o) : SI b h' i l k := by
  obtain ⟨o, ho, r⟩ := x.obj
  exact SI.of ⟨o, e o ho, r⟩
theorem SS.at {b : Bool} {h h' : Heap} {l : Addr} {its : Array Value} (x : SS b h l its) (e : ∀ o, h.get? l = some o → h'.get? l = some o) : SS b h' l its := by
  cases b <;> (obtain ⟨o, ho, r⟩ := x; exact ⟨o, e o ho, r⟩)
theorem SS.obj {b : Bool} {h : Heap} {l : Addr} {its : Array Value} (x : SS b h l its) : ∃ o, h.get? l = some o ∧ o.cls = .type (match b with | true => "list" | false => "tuple") := by
  cases b <;> (obtain ⟨o, ho, hc, _⟩ := x; exact ⟨o, ho, hc⟩)
section
variable {prog : Program} {w : World} {A : Around} {E : Value → Shared → Prop} {s : Shared}
theorem nxT_item {i l : Addr} {k : Nat} {its : Array Value} {y : Value} {Q : Value → Shared → Prop} (zi : s.heap.IsTupleIter i l k) (zl : s.heap.IsTuple l its) (zy : its[k]? = some y)
    (zq : ∀ h', h'.IsTupleIter i l (k + 1) → Heap.SameBut i s.heap h' → Q y { s with heap := h' }) : wpAny (model prog w) A (Builtin.SmallTypes.nextOf (.ref i)) Q E s := by
  obtain ⟨ob, zo, zc, zd⟩ := id zi
  obtain ⟨ot, zot, _, nt, zdt⟩ := zl
  unfold Builtin.SmallTypes.nextOf
  refine wpAny_bind (wpAny_callSpecial?_slot (name := Str.ofString "__next__") zi.typeIs F.slot_tuple_iterator_next (wpAny_call_entry F.slot_tuple_iterator_next zi.typeIs F.entry_tuple_iterator_next ?_ (F.args_tuple_iterator_next_1 _)))
  show wpAny _ _ (field (.ref i) 0 >>= _) _ _ s
  refine wpAny_bind (wpAny_field zo zd (x := .ref l) rfl ?_)
  show wpAny _ _ (if (Value.ref l == Value.none) = true then _ else _) _ _ s; rw [if_neg (show ¬ ((Value.ref l == Value.none) = true) from Bool.false_ne_true)]
  show wpAny _ _ (field (.ref i) 1 >>= _) _ _ s
  refine wpAny_bind (wpAny_field zo zd (x := .int k 0) rfl ?_)
  show wpAny _ _ (seqItems? (.ref l) >>= _) _ _ s; refine wpAny_bind (wpAny_seqItems zot zdt ?_)
  simp only [Int.toNat_natCast, zy]
  refine wpAny_bind (wpAny_setField zo zd (by simp) (wpAny_pure ⟨y, rfl, wpAny_pure (zq _ ?_ (Heap.SameBut.update ..))⟩))
  exact ⟨_, Heap.get?_update_self _ zo (Obj.isFreed_of_fields (Obj.data_mapFields zd _)), (Obj.cls_mapFields ..).trans zc, by rw [Obj.data_mapFields zd]; simp [rawInt]⟩
theorem nxT_end {i l : Addr} {k : Nat} {its : Array Value} {Q : Value → Shared → Prop} (hh : A.handled = none) (zi : s.heap.IsTupleIter i l k) (zl : s.heap.IsTuple l its) (zy : its[k]? = none)
    (zE : ∀ h' e, Heap.ExtBut i s.heap h' → (∃ o, h'.get? e = some o ∧ o.cls = .type "StopIteration") → E (.ref e) { s with heap := h' }) : wpAny (model prog w) A (Builtin.SmallTypes.nextOf (.ref i)) Q E s := by
  obtain ⟨ob, zo, zc, zd⟩ := id zi
  obtain ⟨ot, zot, _, nt, zdt⟩ := zl
  unfold Builtin.SmallTypes.nextOf
  refine wpAny_bind (wpAny_callSpecial?_slot (name := Str.ofString "__next__") zi.typeIs F.slot_tuple_iterator_next (wpAny_call_entry F.slot_tuple_iterator_next zi.typeIs F.entry_tuple_iterator_next ?_ (F.args_tuple_iterator_next_1 _)))
  show wpAny _ _ (field (.ref i) 0 >>= _) _ _ s
  refine wpAny_bind (wpAny_field zo zd (x := .ref l) rfl ?_)
  show wpAny _ _ (if (Value.ref l == Value.none) = true then _ else _) _ _ s; rw [if_neg (show ¬ ((Value.ref l == Value.none) = true) from Bool.false_ne_true)]
  show wpAny _ _ (field (.ref i) 1 >>= _) _ _ s
  refine wpAny_bind (wpAny_field zo zd (x := .int k 0) rfl ?_)
  show wpAny _ _ (seqItems? (.ref l) >>= _) _ _ s; refine wpAny_bind (wpAny_seqItems zot zdt ?_)
  simp only [Int.toNat_natCast, zy]
  refine wpAny_bind (wpAny_rule (wpAny_bind (wpAny_setField zo zd (by simp) ?_)))
  show wpAny _ _ (newExc (.type "StopIteration") [] >>= _) _ _ _; refine wpAny_bind ?_; simp only [newExc, newTuple]
  refine wpAny_bind (wpAny_newObj_type ?_ (by size_fits)); refine wpAny_bind (m := firstArgMember _ _) (wpAny_of_eq (a := Value.none) (by first | rfl | (simp only [firstArgMember]; rfl)) ?_)
  refine wpAny_newObj_type ?_ (by size_fits); simp only [raiseNew]; refine wpAny_bind (wpAny_handled ?_)
  first | rw [show A.in1.handled = none from hh] | rw [hh]
  refine wpAny_bind (wpAny_pure (wpAny_throw ?_)); exact zE _ _ (((Heap.SameBut.update ..).extBut.push _).push _) ⟨_, Heap.get?_push_size _ rfl, rfl⟩
theorem nx_item {b : Bool} {i l : Addr} {k : Nat} {its : Array Value} {y : Value} {Q : Value → Shared → Prop} (zi : SI b s.heap i l k) (zl : SS b s.heap l its) (zy : its[k]? = some y)
    (zq : ∀ h', SI b h' i l (k + 1) → Heap.SameBut i s.heap h' → Q y { s with heap := h' }) : wpAny (model prog w) A (Builtin.SmallTypes.nextOf (.ref i)) Q E s := by
  cases b
  · exact nxT_item zi zl zy zq
  · exact wpAny_nextOf_list_item zi zl zy zq
theorem nx_end {b : Bool} {i l : Addr} {k : Nat} {its : Array Value} {Q : Value → Shared → Prop} (hh : A.handled = none) (zi : SI b s.heap i l k) (zl : SS b s.heap l its) (zy : its[k]? = none)
    (zE : ∀ h' e, Heap.ExtBut i s.heap h' → (∃ o, h'.get? e = some o ∧ o.cls = .type "StopIteration") → E (.ref e) { s with heap := h' }) : wpAny (model prog w) A (Builtin.SmallTypes.nextOf (.ref i)) Q E s := by
  cases b
  · exact nxT_end hh zi zl zy zE
  · exact wpAny_nextOf_list_end hh zi zl zy zE
theorem it_new {b : Bool} {l : Addr} {its : Array Value} {Q : Value → Shared → Prop} (zl : SS b s.heap l its) (h : Q (.ref s.heap.objs.size) { s with heap := s.heap.push { cls := .type (itCls b), data := .fields #[.ref l, .int 0 0] } }) :
    wpAny (model prog w) A (pyIter (.ref l)) Q E s := by
  cases b
  · exact wpAny_pyIter_tuple zl h
  · exact wpAny_pyIter_list zl h

theorem zipS_item {b1 b2 : Bool} {z TI TO i1 i2 l1 l2 : Addr} {k : Nat} {xs ys : Array Value} {x y a b : Value} {Q : Value → Shared → Prop} (D : ZipApart z TI TO i1 i2 l1 l2)
    (hz : IsZip s.heap z TI TO .none) (hI : IsPair s.heap TI (.ref i1) (.ref i2)) (hO : IsPair s.heap TO a b) (h1 : SI b1 s.heap i1 l1 k) (h2 : SI b2 s.heap i2 l2 k) (g1 : SS b1 s.heap l1 xs) (g2 : SS b2 s.heap l2 ys)
    (hx : xs[k]? = some x) (hy : ys[k]? = some y)
    (hQ : ∀ h', IsZip h' z TI TO (rawInt s.heap.objs.size) → IsPair h' TO x y → SI b1 h' i1 l1 (k + 1) → SI b2 h' i2 l2 (k + 1) → IsPair h' s.heap.objs.size x y →
      (∀ c o, c ≠ z → c ≠ TO → c ≠ i1 → c ≠ i2 → s.heap.get? c = some o → h'.get? c = some o) → Q (.ref s.heap.objs.size) { s with heap := h' }) :
    wpAny (model prog w) A (Builtin.«zip.__next__» ⟨[.ref z], []⟩) (fun fin s' => ∃ v, fin = .done (.ret v) ∧ Q v s') E s := by
  show wpAny _ _ (field (.ref z) 2 >>= _) _ _ _; refine wpAny_bind (wpAny_field hz rfl (x := .bool false) rfl ?_)
  show wpAny _ _ (field (.ref z) 3 >>= _) _ _ _; refine wpAny_bind (wpAny_field hz rfl (x := .ref TI) rfl ?_)
  refine wpAny_bind (wpAny_seqItems hI rfl ?_)
  show wpAny _ _ (Builtin.SmallTypes.ownedTupleIsFree (.ref z) >>= _) _ _ _; refine wpAny_bind ?_; unfold Builtin.SmallTypes.ownedTupleIsFree
  refine wpAny_bind (wpAny_field hz rfl (x := .none) rfl (wpAny_pure ?_)); simp only [if_true]
  refine wpAny_bind (wpAny_rule ?_); refine wpAny_bind (wpAny_field hz rfl (x := .ref TO) rfl ?_)
  refine wpAny_bind (wpAny_setField_rec hz (by simp) fun k1 z1 s1 => ?_); replace z1 : IsZip k1 z TI TO .ellipsis := z1
  refine wpAny_bind ?_; simp only [List.zipIdx_cons, List.zipIdx_nil, List.forIn_cons, List.forIn_nil]
  refine wpAny_bind (wpAny_bind (wpAny_onRaise ?_)); show wpAny _ _ (Builtin.SmallTypes.nextOf (.ref i1) >>= _) _ _ _
  refine wpAny_bind (nx_item (h1.at fun o e => s1.extBut _ o D.i1z e) (g1.at fun o e => s1.extBut _ o D.l1z e) hx fun k2 q2 s2 => wpAny_pure ?_)
  have o2 : IsPair k2 TO a b := s2.extBut _ _ D.TOi1 (s1.extBut _ _ D.TOz hO)
  refine wpAny_bind (wpAny_seqItems o2 rfl ?_)
  refine wpAny_bind (wpAny_updateSeq_pair o2 fun k3 o3 s3 => ?_); replace o3 : IsPair k3 TO x b := o3
  refine wpAny_bind (wpAny_letGo (wpAny_pure ?_)); refine wpAny_bind (wpAny_bind (wpAny_onRaise ?_)); show wpAny _ _ (Builtin.SmallTypes.nextOf (.ref i2) >>= _) _ _ _
  refine wpAny_bind (nx_item (h2.at fun o e => s3.extBut _ o D.TOi2.symm (s2.extBut _ o D.i12.symm (s1.extBut _ o D.i2z e))) (g2.at fun o e => s3.extBut _ o D.l2TO (s2.extBut _ o D.l2i1 (s1.extBut _ o D.l2z e))) hy fun k4 q4 s4 => wpAny_pure ?_)
  have o4 : IsPair k4 TO x b := s4.extBut _ _ D.TOi2 o3
  refine wpAny_bind (wpAny_seqItems o4 rfl ?_)
  refine wpAny_bind (wpAny_updateSeq_pair o4 fun k5 o5 s5 => ?_); replace o5 : IsPair k5 TO x y := o5
  refine wpAny_bind (wpAny_letGo (wpAny_pure (wpAny_pure ?_)))
  refine wpAny_bind (wpAny_seqItems o5 rfl ?_); refine wpAny_bind (wpAny_newTuple ?_)
  have hsz : k5.objs.size = s.heap.objs.size := by rw [s5.1, s4.1, s3.1, s2.1, s1.1]
  have z5 : IsZip k5 z TI TO .ellipsis := s5.extBut _ _ D.TOz.symm (s4.extBut _ _ D.i2z.symm (s3.extBut _ _ D.TOz.symm (s2.extBut _ _ D.i1z.symm z1)))
  have kp : ∀ c o, c ≠ z → c ≠ TO → c ≠ i1 → c ≠ i2 → s.heap.get? c = some o → k5.get? c = some o := fun c o c1 c2 c3 c4 e => s5.extBut _ _ c2 (s4.extBut _ _ c4 (s3.extBut _ _ c2 (s2.extBut _ _ c3 (s1.extBut _ _ c1 e))))
  have a5 : SI b1 k5 i1 l1 (k + 1) := q2.at fun o e => s5.extBut _ o D.TOi1.symm (s4.extBut _ o D.i12 (s3.extBut _ o D.TOi1.symm e))
  have b5 : SI b2 k5 i2 l2 (k + 1) := q4.at fun o e => s5.extBut _ o D.TOi2.symm e
  have zlt : z < k5.objs.size := Heap.lt_size z5
  show wpAny _ _ (Builtin.SmallTypes.ownedTupleHandOut (.ref z) (.ref k5.objs.size) >>= _) _ _ _; refine wpAny_bind ?_; unfold Builtin.SmallTypes.ownedTupleHandOut
  have z6 : IsZip (k5.push { cls := .type "tuple", data := .seq #[x, y] }) z TI TO .ellipsis := Heap.get?_push_of_some _ z5
  refine wpAny_bind (wpAny_setField_rec z6 (by simp) fun k7 z7 s7 => ?_); replace z7 : IsZip k7 z TI TO (rawInt k5.objs.size) := z7
  refine wpAny_setField_rec z7 (by simp) fun k8 z8 s8 => ?_; replace z8 : IsZip k8 z TI TO (rawInt k5.objs.size) := z8
  have up : ∀ c o, c ≠ z → k5.get? c = some o → k8.get? c = some o := fun c o c1 e => s8.extBut _ _ c1 (s7.extBut _ _ c1 (Heap.get?_push_of_some _ e))
  have t8 : IsPair k8 k5.objs.size x y := s8.extBut _ _ (Nat.ne_of_gt zlt) (s7.extBut _ _ (Nat.ne_of_gt zlt) (Heap.get?_push_size _ rfl))
  rw [hsz] at z8 t8
  refine wpAny_pure ⟨_, rfl, ?_⟩; show Q (.ref k5.objs.size) _
  rw [hsz]
  exact hQ k8 z8 (up _ _ D.TOz o5) (a5.at fun o e => up _ o D.i1z e) (b5.at fun o e => up _ o D.i2z e) t8 fun c o c1 c2 c3 c4 e => up c o c1 (kp c o c1 c2 c3 c4 e)
theorem zipS_end {b1 b2 : Bool} {z TI TO i1 i2 l1 l2 : Addr} {k : Nat} {xs ys : Array Value} {a b : Value} {Q : Fin → Shared → Prop} (hh : A.handled = none) (D : ZipApart z TI TO i1 i2 l1 l2)
    (hz : IsZip s.heap z TI TO .none) (hI : IsPair s.heap TI (.ref i1) (.ref i2)) (hO : IsPair s.heap TO a b) (h1 : SI b1 s.heap i1 l1 k) (h2 : SI b2 s.heap i2 l2 k) (g1 : SS b1 s.heap l1 xs) (g2 : SS b2 s.heap l2 ys)
    (hend : xs[k]? = none ∨ ys[k]? = none)
    (hE : ∀ h' e, (∀ c o, c ≠ z → c ≠ TO → c ≠ i1 → c ≠ i2 → s.heap.get? c = some o → h'.get? c = some o) → (∃ o, h'.get? e = some o ∧ o.cls = .type "StopIteration") → E (.ref e) { s with heap := h' }) :
    wpAny (model prog w) A (Builtin.«zip.__next__» ⟨[.ref z], []⟩) Q E s := by
  show wpAny _ _ (field (.ref z) 2 >>= _) _ _ _; refine wpAny_bind (wpAny_field hz rfl (x := .bool false) rfl ?_)
  show wpAny _ _ (field (.ref z) 3 >>= _) _ _ _; refine wpAny_bind (wpAny_field hz rfl (x := .ref TI) rfl ?_)
  refine wpAny_bind (wpAny_seqItems hI rfl ?_)
  show wpAny _ _ (Builtin.SmallTypes.ownedTupleIsFree (.ref z) >>= _) _ _ _; refine wpAny_bind ?_; unfold Builtin.SmallTypes.ownedTupleIsFree
  refine wpAny_bind (wpAny_field hz rfl (x := .none) rfl (wpAny_pure ?_)); simp only [if_true]
  refine wpAny_bind (wpAny_rule ?_); refine wpAny_bind (wpAny_field hz rfl (x := .ref TO) rfl ?_)
  refine wpAny_bind (wpAny_setField_rec hz (by simp) fun k1 z1 s1 => ?_); replace z1 : IsZip k1 z TI TO .ellipsis := z1
  refine wpAny_bind ?_; simp only [List.zipIdx_cons, List.zipIdx_nil, List.forIn_cons, List.forIn_nil]
  refine wpAny_bind (wpAny_bind (wpAny_onRaise ?_)); show wpAny _ _ (Builtin.SmallTypes.nextOf (.ref i1) >>= _) _ _ _
  cases hx : xs[k]? with
  | none =>
    refine wpAny_bind (nx_end hh (h1.at fun o e => s1.extBut _ o D.i1z e) (g1.at fun o e => s1.extBut _ o D.l1z e) hx fun k2 e s2 he => ?_)
    obtain ⟨oe, hoe, hce⟩ := he
    have z2 : IsZip k2 z TI TO .ellipsis := s2 _ _ D.i1z.symm z1
    have nez : e ≠ z := fun x => by subst x; rw [z2] at hoe; cases hoe; simp at hce
    refine wpAny_setField_rec z2 (by simp) fun k3 _ s3 => hE k3 e (fun c o c1 _ c3 _ x => s3.extBut _ _ c1 (s2 _ _ c3 (s1.extBut _ _ c1 x))) ⟨oe, s3.extBut _ _ nez hoe, hce⟩
  | some x =>
    have hy : ys[k]? = none := by
      rcases hend with h | h
      · rw [hx] at h; cases h
      · exact h
    refine wpAny_bind (nx_item (h1.at fun o e => s1.extBut _ o D.i1z e) (g1.at fun o e => s1.extBut _ o D.l1z e) hx fun k2 q2 s2 => wpAny_pure ?_)
    have o2 : IsPair k2 TO a b := s2.extBut _ _ D.TOi1 (s1.extBut _ _ D.TOz hO)
    refine wpAny_bind (wpAny_seqItems o2 rfl ?_); refine wpAny_bind (wpAny_updateSeq_pair o2 fun k3 o3 s3 => ?_)
    refine wpAny_bind (wpAny_letGo (wpAny_pure ?_)); refine wpAny_bind (wpAny_bind (wpAny_onRaise ?_)); show wpAny _ _ (Builtin.SmallTypes.nextOf (.ref i2) >>= _) _ _ _
    refine wpAny_bind (nx_end hh (h2.at fun o e => s3.extBut _ o D.TOi2.symm (s2.extBut _ o D.i12.symm (s1.extBut _ o D.i2z e))) (g2.at fun o e => s3.extBut _ o D.l2TO (s2.extBut _ o D.l2i1 (s1.extBut _ o D.l2z e))) hy fun k4 e s4 he => ?_)
    obtain ⟨oe, hoe, hce⟩ := he
    have z4 : IsZip k4 z TI TO .ellipsis := s4 _ _ D.i2z.symm (s3.extBut _ _ D.TOz.symm (s2.extBut _ _ D.i1z.symm z1))
    have nez : e ≠ z := fun x => by subst x; rw [z4] at hoe; cases hoe; simp at hce
    refine wpAny_setField_rec z4 (by simp) fun k5 _ s5 => hE k5 e (fun c o c1 c2 c3 c4 x => s5.extBut _ _ c1 (s4 _ _ c4 (s3.extBut _ _ c2 (s2.extBut _ _ c3 (s1.extBut _ _ c1 x))))) ⟨oe, s5.extBut _ _ nez hoe, hce⟩
def zipHp (b1 b2 : Bool) (l1 l2 : Addr) (h : Heap) : Heap :=
  ((((h.push { cls := .type (itCls b1), data := .fields #[.ref l1, .int 0 0] }).push { cls := .type (itCls b2), data := .fields #[.ref l2, .int 0 0] }).push { cls := .type "tuple", data := .seq #[.ref h.objs.size, .ref (h.objs.size + 1)] }).push { cls := .type "tuple", data := .seq #[.none, .none] }).push { cls := .type "zip", data := .fields #[.none, .bool false, .bool false, .ref (h.objs.size + 2), .ref (h.objs.size + 3)] }
theorem zipS_new (b1 b2 : Bool) (l1 l2 : Addr) (xs ys : Array Value) :
    Meets (Builtin.«zip.__new__» ⟨[.type "zip", .ref l1, .ref l2], []⟩) (fun _ R s => SS b1 s.heap l1 xs ∧ SS b2 s.heap l2 ys ∧
      R (.ok (.ret (.ref (s.heap.objs.size + 4)))) { s with heap := zipHp b1 b2 l1 l2 s.heap }) :=
  .of_wp fun prog w A R s h => by
    obtain ⟨hp, g, d, tk, os⟩ := s
    obtain ⟨hl1, hl2, h⟩ := h
    have hsub := sub_zip
    have hL1 : SS b1 (Shared.heap ⟨hp, g, d, tk, os⟩) l1 xs := hl1
    have hL2 : SS b2 (Shared.heap ⟨hp.push { cls := .type (itCls b1), data := .fields #[.ref l1, .int 0 0] }, g, d, tk, os⟩) l2 ys := SS.at hl2 fun o e => Heap.get?_push_of_some _ e
    wp_walk using it_new hL1, it_new hL2
    refine ⟨_, rfl, ?_⟩
    simp only [zipHp, Heap.size_push] at h ⊢
    exact h
theorem call_zipS {b1 b2 : Bool} {l1 l2 : Addr} {xs ys : Array Value} {Q : Value → Shared → Prop} (hl1 : SS b1 s.heap l1 xs) (hl2 : SS b2 s.heap l2 ys)
    (h : ∀ h', IsZip h' (s.heap.objs.size + 4) (s.heap.objs.size + 2) (s.heap.objs.size + 3) .none → IsPair h' (s.heap.objs.size + 2) (.ref s.heap.objs.size) (.ref (s.heap.objs.size + 1)) → IsPair h' (s.heap.objs.size + 3) .none .none →
      SI b1 h' s.heap.objs.size l1 0 → SI b2 h' (s.heap.objs.size + 1) l2 0 → (∀ c o, s.heap.get? c = some o → h'.get? c = some o) → Q (.ref (s.heap.objs.size + 4)) { s with heap := h' }) :
    wpAny (model prog w) A (call (.type "zip") [.ref l1, .ref l2]) Q E s := by
  refine callType_new F.called_zip (by decide) (F.typeCall_zip_2 _ _) (F.newCall_zip_2 _ _) (fun obj => F.args_object_init_3 obj _ _) F.entry_zip_new (zipS_new b1 b2 l1 l2 xs ys) ⟨hl1, hl2, ?_⟩
  unfold zipHp
  generalize e1 : s.heap.push { cls := .type (itCls b1), data := .fields #[.ref l1, .int 0 0] } = k1
  have n1 : k1.objs.size = s.heap.objs.size + 1 := by rw [← e1, Heap.size_push]
  generalize e2 : k1.push { cls := .type (itCls b2), data := .fields #[.ref l2, .int 0 0] } = k2
  have n2 : k2.objs.size = s.heap.objs.size + 2 := by rw [← e2, Heap.size_push, n1]
  generalize e3 : k2.push { cls := .type "tuple", data := .seq #[.ref s.heap.objs.size, .ref (s.heap.objs.size + 1)] } = k3
  have n3 : k3.objs.size = s.heap.objs.size + 3 := by rw [← e3, Heap.size_push, n2]
  generalize e4 : k3.push { cls := .type "tuple", data := .seq #[.none, .none] } = k4
  have n4 : k4.objs.size = s.heap.objs.size + 4 := by rw [← e4, Heap.size_push, n3]
  generalize e5 : k4.push { cls := .type "zip", data := .fields #[.none, .bool false, .bool false, .ref (s.heap.objs.size + 2), .ref (s.heap.objs.size + 3)] } = k5
  have u5 : ∀ c o, k4.get? c = some o → k5.get? c = some o := fun c o q => e5 ▸ Heap.get?_push_of_some _ q
  have u4 : ∀ c o, k3.get? c = some o → k5.get? c = some o := fun c o q => u5 c o (e4 ▸ Heap.get?_push_of_some _ q)
  have u3 : ∀ c o, k2.get? c = some o → k5.get? c = some o := fun c o q => u4 c o (e3 ▸ Heap.get?_push_of_some _ q)
  have u2 : ∀ c o, k1.get? c = some o → k5.get? c = some o := fun c o q => u3 c o (e2 ▸ Heap.get?_push_of_some _ q)
  have u1 : ∀ c o, s.heap.get? c = some o → k5.get? c = some o := fun c o q => u2 c o (e1 ▸ Heap.get?_push_of_some _ q)
  have g5 : IsZip k5 (s.heap.objs.size + 4) (s.heap.objs.size + 2) (s.heap.objs.size + 3) .none := by
    rw [← n4, ← e5]
    exact Heap.get?_push_size _ rfl
  have g4 : IsPair k5 (s.heap.objs.size + 3) .none .none := by
    rw [← n3]
    exact u5 _ _ (by rw [← e4]; exact Heap.get?_push_size _ rfl)
  have g3 : IsPair k5 (s.heap.objs.size + 2) (.ref s.heap.objs.size) (.ref (s.heap.objs.size + 1)) := by
    have q := u4 k2.objs.size _ (by rw [← e3]; exact Heap.get?_push_size _ rfl)
    rw [n2] at q
    exact q
  have g2 : SI b2 k5 (s.heap.objs.size + 1) l2 0 := by
    rw [← n1]
    exact SI.of ⟨_, u3 _ _ (by rw [← e2]; exact Heap.get?_push_size _ rfl), rfl, rfl⟩
  have g1 : SI b1 k5 s.heap.objs.size l1 0 := SI.of ⟨_, u2 _ _ (by rw [← e1]; exact Heap.get?_push_size _ rfl), rfl, rfl⟩
  exact ⟨⟨_, g5, rfl⟩, h k5 g5 g3 g4 g1 g2 u1⟩
end
end L2

namespace L2
open PySem PySem.Spec PyProof.Rows
def SqB (b : Bool) (K : PySem.W.Frag) (H : Hp) (l : Addr) (xs : List V) : Prop := match b with | true => SqL K H l xs | false => SqT K H l xs
theorem Inv.sqB {X : Cx} {pins : List (Addr × Obj)} {σ : St} {H : Hp} {s : Shared} {b : Bool} {l : Addr} {xs : List V} (I : Inv X pins σ H s) (h : SqB b X.K H l xs) : ∃ its : List Value, Vals xs its ∧ SS b s.heap l its.toArray ∧ xs.length ≤ sizeLine := by
  cases b with
  | true =>
    obtain ⟨its, r, p, z⟩ := I.list h
    exact ⟨its, r, p.isList, z⟩
  | false =>
    obtain ⟨its, r, p, z⟩ := I.tuple h
    exact ⟨its, r, p, z⟩
theorem Inv.sqB_inj {X : Cx} {pins : List (Addr × Obj)} {σ : St} {H : Hp} {s : Shared} {b : Bool} {l : Addr} {xs ys : List V} (I : Inv X pins σ H s) (h : SqB b X.K H l xs) (h' : SqB b X.K H l ys) : xs = ys := by
  cases b with
  | true => exact I.list_inj h h'
  | false => exact I.tuple_inj h h'
def Itz (K : PySem.W.Frag) (b1 b2 : Bool) (l1 l2 : Addr) : It :=
  ⟨fun k H => ∃ xs ys x y, SqB b1 K H l1 xs ∧ SqB b2 K H l2 ys ∧ xs[k]? = some x ∧ ys[k]? = some y,
   fun k H v H' => ∃ T x y, v = .ref T ∧ H T = none ∧ H' = upd H T (.tup [x, y]) ∧ (∀ xs, SqB b1 K H l1 xs → xs[k]? = some x) ∧ (∀ ys, SqB b2 K H l2 ys → ys[k]? = some y),
   fun k H => ∃ xs ys, SqB b1 K H l1 xs ∧ SqB b2 K H l2 ys ∧ (xs.length ≤ k ∨ ys.length ≤ k)⟩
theorem turn_zip {P : Program} {w : World} {K : PySem.W.Frag} {elts : List Expr} {kt : Nat} {pt : Pos} {b1 b2 : Bool} {z TI TO i1 i2 l1 l2 : Addr} (D : ZipApart z TI TO i1 i2 l1 l2) :
    Turn P w K (.Tuple elts kt pt) (Itz K b1 b2 l1 l2) [z, TI, TO, i1, i2] z (fun k h => IsZip h z TI TO .none ∧ IsPair h TI (.ref i1) (.ref i2) ∧ (∃ a b, IsPair h TO a b) ∧ SI b1 h i1 l1 k ∧ SI b2 h i2 l2 k) where
  mem := by simp
  obj := fun k h st b hb => by
    obtain ⟨hz, hI, ⟨a', b', hO⟩, h1, h2⟩ := st
    obtain ⟨o1, g1, _, d1⟩ := h1.obj
    obtain ⟨o2, g2, _, d2⟩ := h2.obj
    simp only [List.mem_cons, List.not_mem_nil, or_false] at hb
    rcases hb with rfl | rfl | rfl | rfl | rfl
    · exact ⟨_, hz, fun v e => by cases e⟩
    · exact ⟨_, hI, fun v e => by cases e⟩
    · exact ⟨_, hO, fun v e => by cases e⟩
    · exact ⟨_, g1, fun v e => by rw [d1] at e; cases e⟩
    · exact ⟨_, g2, fun v e => by rw [d2] at e; cases e⟩
  keep := fun k h h' st kp => by
    obtain ⟨hz, hI, ⟨a', b', hO⟩, h1, h2⟩ := st
    exact ⟨kp z (by simp) _ hz, kp TI (by simp) _ hI, ⟨a', b', kp TO (by simp) _ hO⟩, h1.at fun o e => kp i1 (by simp) o e, h2.at fun o e => kp i2 (by simp) o e⟩
  item := by
    intro X hP hw hK hc k pins s σ H E I hf st hg
    subst hP hw hK
    obtain ⟨hz, hI, ⟨a', b', hO⟩, h1, h2⟩ := st
    obtain ⟨xs, ys, x, y, q1, q2, hx, hy⟩ := hg
    obtain ⟨its1, r1, p1, _⟩ := I.sqB q1
    obtain ⟨its2, r2, p2, _⟩ := I.sqB q2
    obtain ⟨u1, e1, v1⟩ := r1.get hx
    obtain ⟨u2, e2, v2⟩ := r2.get hy
    have hT : s.TypeIs (.ref z) "zip" := ⟨_, hz, rfl⟩
    have fresh : H s.heap.objs.size = none := I.hok.fresh (Nat.le_refl _)
    unfold pyNext
    refine wpAny_bind (wpAny_attempt (wpAny_callSpecial?_slot (name := Str.ofString "__next__") hT F.slot_zip_next (wpAny_call_entry F.slot_zip_next hT F.entry_zip_next (zipS_item D hz hI hO h1 h2 p1 p2 (by simpa using e1) (by simpa using e2) fun h' z1 o1 j1 j2 t1 kp => wpAny_pure ?_) (F.args_zip_next_1 _))))
    refine ⟨_, rfl, wpAny_letOwnedTupleGo_zip z1 fun h2' z2 sb => ?_⟩
    have kp2 : ∀ c o, c ∉ [z, TO, i1, i2] → s.heap.get? c = some o → h2'.get? c = some o := fun c o hc e => by
      simp only [List.mem_cons, List.not_mem_nil, or_false, not_or] at hc
      exact sb.extBut c o hc.1 (kp c o hc.1 hc.2.1 hc.2.2.1 hc.2.2.2 e)
    have nH : ∀ c ∈ [z, TO, i1, i2], c ∈ [z, TI, TO, i1, i2] := fun c hc => by
      simp only [List.mem_cons, List.not_mem_nil, or_false] at hc ⊢
      rcases hc with e | e | e | e <;> simp [e]
    have neT : ∀ b o, s.heap.get? b = some o → b ≠ s.heap.objs.size := fun b o e => Nat.ne_of_lt (Heap.lt_size e)
    have neH : ∀ b o, H b = some o → b ∉ [z, TO, i1, i2] := fun b o e hb => by
      rw [(hf b (nH b hb)).1] at e
      cases e
    have upn : ∀ b o, H b = some o → upd H s.heap.objs.size (.tup [x, y]) b = some o := fun b o e => by
      rw [upd_ne (ne_of_none e fresh)]
      exact e
    refine ⟨.ref s.heap.objs.size, upd H s.heap.objs.size (.tup [x, y]), ?_, rfl, ⟨_, x, y, rfl, fresh, rfl, fun zs hz' => by rw [I.sqB_inj hz' q1]; exact hx, fun zs hz' => by rw [I.sqB_inj hz' q2]; exact hy⟩, ?_, fun b hb => ?_⟩
    · refine Inv.step (s := s) (h' := h2') (g' := s.gens) (d' := s.drawn) (t' := s.toks) (ch := [z, TO, i1, i2]) I (fun b hb => ?_) (fun b o _ _ hc e _ => kp2 b o hc e) (fun b o _ _ hc e _ => ⟨o.slots, kp2 b o hc e⟩) (fun b o _ e n => ?_) (fun b o hc e => ⟨o, kp2 b o hc e⟩)
        (fun b zs e => upn b _ e) (fun b o zs e => upn b _ e) (fun b ps e => ⟨#[], by rw [upn b _ e]; simp⟩) (fun m hm => ?_) (fun b o e => ?_) I.bare
      · obtain ⟨_, f1, _, f3, f4, f5⟩ := hf b (nH b hb)
        exact ⟨f3, f1, f4, f5⟩
      · rw [upd_ne (neT b o e)]
        exact n
      · obtain ⟨o, es, ep, ho, r⟩ := hm
        refine ⟨o, es, ep, kp2 _ o (fun hb => ?_) ho, r⟩
        exact (hf _ (nH _ hb)).2.1 rfl
      · by_cases hb : b = s.heap.objs.size
        · subst hb
          rw [upd_same] at e
          cases e
          exact ⟨by show 2 ≤ sizeLine; decide, [u1, u2], .cons v1 (.cons v2 .nil), _, sb.extBut _ _ (Nat.ne_of_gt (Heap.lt_size hz)) t1, rfl, _, rfl⟩
        · rw [upd_ne hb] at e
          refine (I.hok b o e).stay (fun c u hc q => kp2 c u ?_ q) (fun c q => upn c _ q) fun c zs q => upn c _ q
          rcases hc with hc | hc
          · rw [hc]; exact neH b o e
          · exact neH c _ hc
    · exact ⟨z2, sb.extBut _ _ D.TIz (kp _ _ D.TIz D.TITO D.TIi1 D.TIi2 hI), ⟨_, _, sb.extBut _ _ D.TOz o1⟩, j1.at fun o e => sb.extBut _ o D.i1z e, j2.at fun o e => sb.extBut _ o D.i2z e⟩
    · obtain ⟨o, e, _⟩ : ∃ o, s.heap.get? b = some o ∧ True := by
        obtain ⟨o1, g1, _⟩ := h1.obj
        obtain ⟨o2, g2, _⟩ := h2.obj
        simp only [List.mem_cons, List.not_mem_nil, or_false] at hb
        rcases hb with rfl | rfl | rfl | rfl | rfl
        · exact ⟨_, hz, trivial⟩
        · exact ⟨_, hI, trivial⟩
        · exact ⟨_, hO, trivial⟩
        · exact ⟨_, g1, trivial⟩
        · exact ⟨_, g2, trivial⟩
      rw [upd_ne (neT b o e)]
      exact (hf b hb).1
  done := by
    intro X hP hw hK hc k pins s σ H E I hf st hg
    subst hP hw hK
    obtain ⟨hz, hI, ⟨a', b', hO⟩, h1, h2⟩ := st
    obtain ⟨xs, ys, q1, q2, hend⟩ := hg
    obtain ⟨its1, r1, p1, _⟩ := I.sqB q1
    obtain ⟨its2, r2, p2, _⟩ := I.sqB q2
    have hT : s.TypeIs (.ref z) "zip" := ⟨_, hz, rfl⟩
    have hend' : its1.toArray[k]? = none ∨ its2.toArray[k]? = none := by
      have l1' := r1.length
      have l2' := r2.length
      rcases hend with h | h
      · exact .inl (Array.getElem?_eq_none (by rw [List.size_toArray]; omega))
      · exact .inr (Array.getElem?_eq_none (by rw [List.size_toArray]; omega))
    have nH : ∀ c ∈ [z, TO, i1, i2], c ∈ [z, TI, TO, i1, i2] := fun c hc => by
      simp only [List.mem_cons, List.not_mem_nil, or_false] at hc ⊢
      rcases hc with e | e | e | e <;> simp [e]
    have neH : ∀ b o, H b = some o → b ∉ [z, TO, i1, i2] := fun b o e hb => by
      rw [(hf b (nH b hb)).1] at e
      cases e
    unfold pyNext
    refine wpAny_bind (wpAny_attempt (wpAny_callSpecial?_slot (name := Str.ofString "__next__") hT F.slot_zip_next (wpAny_call_entry F.slot_zip_next hT F.entry_zip_next (zipS_end (I.ok.hd hc) D hz hI hO h1 h2 p1 p2 hend' fun h' e kp he => ?_) (F.args_zip_next_1 _))))
    obtain ⟨oe, hoe, hce⟩ := he
    refine wpAny_bind (wpAny_isInstance (T := "StopIteration") (b := true) ⟨oe, hoe, hce⟩ isSubtype_stop (wpAny_pure ⟨rfl, ?_⟩))
    have kp2 : ∀ c o, c ∉ [z, TO, i1, i2] → s.heap.get? c = some o → h'.get? c = some o := fun c o hc e => by
      simp only [List.mem_cons, List.not_mem_nil, or_false, not_or] at hc
      exact kp c o hc.1 hc.2.1 hc.2.2.1 hc.2.2.2 e
    refine I.step (g' := s.gens) (d' := s.drawn) (t' := s.toks) (ch := [z, TO, i1, i2]) (fun b hb => ?_) (fun b o _ _ hc e _ => kp2 b o hc e) (fun b o _ _ hc e _ => ⟨o.slots, kp2 b o hc e⟩) (fun b o _ e n => n) (fun b o hc e => ⟨o, kp2 b o hc e⟩)
      (fun b zs e => e) (fun b o zs e => e) (fun b ps e => ⟨#[], by rw [e]; simp⟩) (fun m hm => ?_) (fun b o e => ?_) I.bare
    · obtain ⟨_, f1, _, f3, f4, f5⟩ := hf b (nH b hb)
      exact ⟨f3, f1, f4, f5⟩
    · obtain ⟨o, es, ep, ho, r⟩ := hm
      refine ⟨o, es, ep, kp2 _ o (fun hb => ?_) ho, r⟩
      exact (hf _ (nH _ hb)).2.1 rfl
    · refine (I.hok b o e).stay (fun c u hc q => kp2 c u ?_ q) (fun c q => q) fun c zs q => q
      rcases hc with hc | hc
      · rw [hc]; exact neH b o e
      · exact neH c _ hc
  self := fun _ _ _ _ _ st h => wpAny_pyIter_zip st.1 h
section
variable {X : Cx}
def iZip (K : PySem.W.Frag) (ta : TA) : TI := fun σ H R => ta σ H fun vs H1 => ∃ (b1 b2 : Bool) (l1 l2 : Addr) (xs ys : List V), vs = [.ref l1, .ref l2] ∧ SqB b1 K H1 l1 xs ∧ SqB b2 K H1 l2 ys ∧ R (Itz K b1 b2 l1 l2) H1
theorem pi_zip {elts : List Expr} {kt : Nat} {pt : Pos} {a b : Expr} {ta : TA} {p pos : Pos} (hg : Gl X "zip") (hm : X.mg "zip" = none) (ha : PA X [a, b] ta) (hs : starEach [a, b] X.env = [(false, eval a X.env), (false, eval b X.env)] := by rfl) (hs2 : starEach [b] X.env = [(false, eval b X.env)] := by rfl) :
    PI X (.Tuple elts kt pt) (.Call (.Name "zip" p) [a, b] [] pos) (iZip X.K ta) := by
  intro pins s σ H R I h
  refine Call_ (ld_blt I hg hm bt_zip (PyProof.Rows.callWith_type1 (thn (ha pos pins s σ H _ I h) fun us s1 ⟨vs, H1, I1, r1, q1⟩ => ?_) (by rw [hs, hs2]) (by rw [hs2]; rfl)))
  obtain ⟨b1, b2, l1, l2, xs, ys, e, g1, g2, q⟩ := q1
  subst e
  obtain ⟨u1, u2, rfl, v1, v2⟩ := Vals.two r1
  cases v1
  cases v2
  obtain ⟨its1, _, p1, _⟩ := I1.sqB g1
  obtain ⟨its2, _, p2, _⟩ := I1.sqB g2
  have a1 : l1 < s1.heap.objs.size := by
    obtain ⟨o, e, _⟩ := p1.obj
    exact Heap.lt_size e
  have a2 : l2 < s1.heap.objs.size := by
    obtain ⟨o, e, _⟩ := p2.obj
    exact Heap.lt_size e
  refine call_zipS p1 p2 fun h' hz hI hO j1 j2 kp => ?_
  refine wpAny_pyIter_zip hz ?_
  refine ⟨_, _, _, _, H1, rfl, I1.kept (t' := s1.toks) kp, turn_zip (zipApart_new a1 a2), ⟨hz, hI, ⟨_, _, hO⟩, j1, j2⟩, fun b hb => ?_, q⟩
  have hge : s1.heap.objs.size ≤ b := by
    simp only [List.mem_cons, List.not_mem_nil, or_false] at hb
    rcases hb with rfl | rfl | rfl | rfl | rfl <;> omega
  exact I1.fpOk hge (I1.hok.fresh hge)
end
section
variable {K : PySem.W.Frag} {b1 b2 : Bool} {l1 l2 D : Addr} {xs ys : List V} {g : TG} {tt : TT} {te : TE} {σ0 : St} {H1 : Hp} {Q : VK}
theorem comp_zip (Pv : Nat → St → List V → Hp → Prop) (h0 : Pv 0 σ0 [] (upd H1 D (.lst []))) (hl : ∀ i σ zs H, Pv i σ zs H → SqB b1 K H l1 xs ∧ SqB b2 K H l2 ys ∧ H D = some (.lst zs))
    (hs : ∀ i x y T σ zs H, xs[i]? = some x → ys[i]? = some y → H T = none → Pv i σ zs H → g (.ref T) σ (upd H T (.tup [x, y])) fun σ2 H2 => tt σ2 H2 fun b H3 =>
      if b = true then te σ2 H3 fun z H4 => H4 D = some (.lst zs) ∧ zs.length < sizeLine ∧ Pv (i + 1) σ2 (zs ++ [z]) (upd H4 D (.lst (zs ++ [z]))) else Pv (i + 1) σ2 zs H3)
    (hd : ∀ σ zs H, Pv (min xs.length ys.length) σ zs H → Q (.ref D) H) : CompW (Itz K b1 b2 l1 l2) D g tt te σ0 H1 Q := by
  refine ⟨fun i m σ zs H => m = min xs.length ys.length - i ∧ i ≤ min xs.length ys.length ∧ Pv i σ zs H, ⟨_, rfl, Nat.zero_le _, h0⟩, ?_⟩
  rintro i m σ zs H ⟨rfl, hi, p⟩
  obtain ⟨q1, q2, qd⟩ := hl i σ zs H p
  refine ⟨qd, ?_⟩
  by_cases hlt : i < min xs.length ys.length
  · have c1 : i < xs.length := by omega
    have c2 : i < ys.length := by omega
    refine .inr ⟨⟨xs, ys, xs[i], ys[i], q1, q2, by simp [c1], by simp [c2]⟩, Pv (i + 1), fun σ' zs' H' z => ⟨min xs.length ys.length - (i + 1), by omega, rfl, hlt, z⟩, fun v H' y => ?_⟩
    obtain ⟨T, x, y, rfl, hT, rfl, y1, y2⟩ := y
    exact hs i x y T σ zs H (y1 xs q1) (y2 ys q2) hT p
  · have e : i = min xs.length ys.length := by omega
    subst e
    exact .inl ⟨⟨xs, ys, q1, q2, by omega⟩, hd σ zs H p⟩
theorem comp_zip0 (Pv : Nat → St → List V → Hp → Prop) (h0 : Pv 0 σ0 [] (upd H1 D (.lst []))) (hl : ∀ i σ zs H, Pv i σ zs H → SqB b1 K H l1 xs ∧ SqB b2 K H l2 ys ∧ H D = some (.lst zs))
    (hs : ∀ i x y T σ zs H, xs[i]? = some x → ys[i]? = some y → H T = none → Pv i σ zs H → g (.ref T) σ (upd H T (.tup [x, y])) fun σ2 H2 => te σ2 H2 fun z H4 => H4 D = some (.lst zs) ∧ zs.length < sizeLine ∧ Pv (i + 1) σ2 (zs ++ [z]) (upd H4 D (.lst (zs ++ [z]))))
    (hd : ∀ σ zs H, Pv (min xs.length ys.length) σ zs H → Q (.ref D) H) : CompW (Itz K b1 b2 l1 l2) D g tYes te σ0 H1 Q := comp_zip Pv h0 hl (fun i x y T σ zs H e1 e2 e3 p => hs i x y T σ zs H e1 e2 e3 p) hd
end
end L2

namespace L2
open PySem PySem.Spec PyProof.Rows
theorem ifD {p A B : Prop} [Decidable p] (h1 : p → A) (h2 : ¬ p → B) : if decide p = true then A else B := by
  by_cases h : p
  · rw [if_pos (decide_eq_true h)]; exact h1 h
  · rw [if_neg (by rw [decide_eq_false h]; exact Bool.false_ne_true)]; exact h2 h
theorem ifN {p A B : Prop} [Decidable p] (h1 : ¬ p → A) (h2 : p → B) : if (!decide p) = true then A else B := by
  by_cases h : p
  · rw [if_neg (by rw [decide_eq_true h]; exact Bool.false_ne_true)]; exact h2 h
  · rw [if_pos (by rw [decide_eq_false h]; rfl)]; exact h1 h
theorem ifE {x y : Int} {A B : Prop} (h1 : x = y → A) (h2 : x ≠ y → B) : if decide (V.int x = V.int y) = true then A else B :=
  ifD (fun h => h1 (V.int.inj h)) fun h => h2 fun e => h (congrArg V.int e)
theorem ifNe {x y : Int} {A B : Prop} (h1 : x ≠ y → A) (h2 : x = y → B) : if (!decide (V.int x = V.int y)) = true then A else B :=
  ifN (fun h => h1 fun e => h (congrArg V.int e)) fun h => h2 (V.int.inj h)
theorem decI {x y : Int} (h : x = y) : decide (V.int x = V.int y) = true := decide_eq_true (congrArg V.int h)
theorem same_new {H : Hp} {p : Addr} (h : H p = none) (o : HO) : Same H (upd H p o) := fun b u q => by rw [upd_ne (ne_of_none q h)]; exact q
theorem Sq.same {K : PySem.W.Frag} {H H' : Hp} {a : Addr} {xs : List V} (h : Sq K H a xs) (e : Same H H') : Sq K H' a xs := by
  rcases h with h | h
  · exact .inl (e.seq h)
  · refine .inr ?_
    rcases h with h | h
    · rcases h with h | ⟨o, h⟩
      · exact .inl (.inl (e _ _ h))
      · exact .inl (.inr ⟨o, e _ _ h⟩)
    · exact .inr h
theorem mapInt_get {ns : List Int} {i : Nat} {x : V} (h : (ns.map V.int)[i]? = some x) : ∃ n, ns[i]? = some n ∧ x = .int n := by
  rw [List.getElem?_map] at h
  cases e : ns[i]? with
  | none => rw [e] at h; cases h
  | some n => rw [e] at h; exact ⟨n, rfl, (Option.some.inj h).symm⟩
theorem take_snoc {α : Type} {l : List α} {i : Nat} {x : α} (h : l[i]? = some x) : l.take (i + 1) = l.take i ++ [x] := by
  rw [List.take_succ, h]; rfl
theorem small {n : Nat} (h : n ≤ 1000) : n ≤ sizeLine := Nat.le_of_lt (small1000 h)
end L2
namespace L2
open PySem PySem.Spec PyProof.Rows
theorem SqT.same {K : PySem.W.Frag} {H H' : Hp} {a : Addr} {xs : List V} (h : SqT K H a xs) (e : Same H H') : SqT K H' a xs := by
  rcases h with h | h
  · rcases h with h | ⟨o, h⟩
    · exact .inl (.inl (e _ _ h))
    · exact .inl (.inr ⟨o, e _ _ h⟩)
  · exact .inr h
end L2
namespace L2
open PySem PySem.Spec PyProof.Rows
def MonoT (t : TT) : Prop := ∀ (σ : St) (H : Hp) (Q Q' : Bool → Hp → Prop), (∀ b H1, Q b H1 → Q' b H1) → t σ H Q → t σ H Q'
def MonoE (t : TE) : Prop := ∀ (σ : St) (H : Hp) (Q Q' : VK), (∀ b H1, Q b H1 → Q' b H1) → t σ H Q → t σ H Q'
def MonoA (t : TA) : Prop := ∀ (σ : St) (H : Hp) (Q Q' : List V → Hp → Prop), (∀ b H1, Q b H1 → Q' b H1) → t σ H Q → t σ H Q'
def MonoR (r : R2) : Prop := ∀ (x y : V) (H : Hp) (Q Q' : VK), (∀ b H1, Q b H1 → Q' b H1) → r x y H Q → r x y H Q'
def MonoC (r : List V → Hp → VK → Prop) : Prop := ∀ (xs : List V) (H : Hp) (Q Q' : VK), (∀ b H1, Q b H1 → Q' b H1) → r xs H Q → r xs H Q'
theorem mo_var {i : Nat} : MonoE (tVar i) := fun _ _ _ _ hq ⟨v, e, z⟩ => ⟨v, e, hq _ _ z⟩
theorem mo_c {v : V} : MonoE (tC v) := fun _ _ _ _ hq z => hq _ _ z
theorem mo_op {r : R2} {ta tb : TE} (hr : MonoR r) (ha : MonoE ta) (hb : MonoE tb) : MonoE (tOp r ta tb) := fun σ _ _ _ hq z => ha σ _ _ _ (fun _ _ z => hb σ _ _ _ (fun _ _ z => hr _ _ _ _ _ hq z) z) z
theorem mo_i0 {g : Int → Int → V} : MonoR (rI0 g) := fun _ _ _ _ _ hq ⟨i, j, e1, e2, z⟩ => ⟨i, j, e1, e2, hq _ _ z⟩
theorem mo_test {t : TE} (h : MonoE t) : MonoT (tTest t) := fun σ _ _ _ hq z => h σ _ _ _ (fun _ _ ⟨k, e, z⟩ => ⟨k, e, hq _ _ z⟩) z
theorem mo_and {t u : TT} (h : MonoT t) (h' : MonoT u) : MonoT (tAnd t u) := fun σ _ _ _ hq z => h σ _ _ _ (fun b _ z => by
  cases b with
  | true => exact h' σ _ _ _ hq z
  | false => exact hq _ _ z) z
theorem mo_nil : MonoA tNil := fun _ _ _ _ hq z => hq _ _ z
theorem mo_cons {te : TE} {ta : TA} (h : MonoE te) (h' : MonoA ta) : MonoA (tCons te ta) := fun σ _ _ _ hq z => h σ _ _ _ (fun _ _ z => h' σ _ _ _ (fun _ _ z => hq _ _ z) z) z
theorem mo_cb {r : List V → Hp → VK → Prop} {t : TA} (hr : MonoC r) (h : MonoA t) : MonoE (tCB r t) := fun σ _ _ _ hq z => h σ _ _ _ (fun _ _ z => hr _ _ _ _ hq z) z
theorem mo_len {K : PySem.W.Frag} : MonoC (fun xs H Q => ∃ p ys, xs = [.ref p] ∧ (SqL K H p ys ∨ SqT K H p ys) ∧ Q (.int ys.length) H) := fun _ _ _ _ hq ⟨p, ys, e, s, z⟩ => ⟨p, ys, e, s, hq _ _ z⟩
theorem cutV_ints (ns : List Int) (lo hi : Option Int) : cutV (ns.map V.int) lo hi = ((ns.drop (HT.sIx ns.length 0 lo)).take (HT.sIx ns.length ns.length hi - HT.sIx ns.length 0 lo)).map V.int := by
  unfold cutV
  rw [List.length_map, List.map_take, List.map_drop]
end L2
namespace L2
open PySem PySem.Spec PyProof.Rows
end L2

namespace L2
open PySem PySem.Spec PyProof.Rows
section
variable {X : Cx}
end
end L2
namespace L2
open PySem
theorem row_at {rows : List Int} {P : Int → Prop} (bd : ∀ x ∈ rows, P x) {k : Int} (k0 : 0 ≤ k) (k1 : k < rows.length) : ∃ v : Int, atI (rows.map V.int) k = some (.int v) ∧ P v := by
  have hk : k.toNat < rows.length := by omega
  refine ⟨rows[k.toNat], ?_, bd _ (List.getElem_mem hk)⟩
  have q : atI (rows.map V.int) ((k.toNat : Nat) : Int) = some (.int rows[k.toNat]) := atI_nat (by rw [List.getElem?_map, List.getElem?_eq_getElem hk] <;> rfl)
  rw [show ((k.toNat : Nat) : Int) = k from by omega] at q
  exact q
end L2
namespace L2
end L2

namespace L2
open PySem PySem.Spec PyProof.Rows
section
variable {X : Cx} {T : List Str} {caps : List (Str × Nat)} {scope : Scope} {elt target iter : Expr} {ifs : List Expr} {pos cpos : Pos} {wi : TI} {g : CC → TG} {tt : CC → TT} {te : CC → TE}
end
end L2

namespace L2
open PySem PySem.Spec PyProof.Rows
theorem bt_enumerate : bootBuiltins "enumerate" = some (.type "enumerate") := by decide +kernel
def Ite (K : PySem.W.Frag) (l : Addr) : It :=
  ⟨fun k H => ∃ xs x, SqL K H l xs ∧ xs[k]? = some x,
   fun k H v H' => ∃ T x, v = .ref T ∧ H T = none ∧ H' = upd H T (.tup [.int k, x]) ∧ ∀ xs, SqL K H l xs → xs[k]? = some x,
   fun k H => ∃ xs, SqL K H l xs ∧ xs.length ≤ k⟩
theorem turn_enum {P : Program} {w : World} {K : PySem.W.Frag} {elts : List Expr} {kt : Nat} {pt : Pos} {e it l : Addr} (hne : e ≠ it) :
    Turn P w K (.Tuple elts kt pt) (Ite K l) [e, it] e (fun k h => (∃ old, IsEnum h e it k old) ∧ h.IsListIter it l k) where
  mem := by simp
  obj := fun k h st b hb => by
    obtain ⟨⟨old, he⟩, h1⟩ := st
    obtain ⟨o1, g1, _, d1⟩ := h1
    simp only [List.mem_cons, List.not_mem_nil, or_false] at hb
    rcases hb with rfl | rfl
    · exact ⟨_, he, fun v z => by cases z⟩
    · exact ⟨_, g1, fun v z => by rw [d1] at z; cases z⟩
  keep := fun k h h' st kp => by
    obtain ⟨⟨old, he⟩, h1⟩ := st
    exact ⟨⟨old, kp e (by simp) _ he⟩, h1.at fun o z => kp it (by simp) o z⟩
  item := by
    intro X hP hw hK hc k pins s σ H E I hf st hg
    subst hP hw hK
    obtain ⟨⟨old, he⟩, h1⟩ := st
    obtain ⟨xs, x, q1, hx⟩ := hg
    obtain ⟨its, r1, p1, _⟩ := I.list q1
    obtain ⟨u1, e1, v1⟩ := r1.get hx
    have fresh : H s.heap.objs.size = none := I.hok.fresh (Nat.le_refl _)
    refine wpAny_pyNext_enum_item he h1 p1.isList (by simpa using e1) hne fun h' z1 j1 t1 _ kp => ?_
    refine ⟨_, rfl, wpAny_letOwnedTupleGo_enum z1 fun h2' z2 sb => ?_⟩
    have kp2 : ∀ c o, c ∉ [e, it] → s.heap.get? c = some o → h2'.get? c = some o := fun c o hc q => by
      simp only [List.mem_cons, List.not_mem_nil, or_false, not_or] at hc
      exact sb.extBut c o hc.1 (kp c o hc.1 hc.2 q)
    have neT : ∀ b o, s.heap.get? b = some o → b ≠ s.heap.objs.size := fun b o q => Nat.ne_of_lt (Heap.lt_size q)
    have neH : ∀ b o, H b = some o → b ∉ [e, it] := fun b o q hb => by
      rw [(hf b hb).1] at q
      cases q
    have upn : ∀ b o, H b = some o → upd H s.heap.objs.size (.tup [.int k, x]) b = some o := fun b o q => by
      rw [upd_ne (ne_of_none q fresh)]
      exact q
    refine ⟨.ref s.heap.objs.size, upd H s.heap.objs.size (.tup [.int k, x]), ?_, rfl, ⟨_, x, rfl, fresh, rfl, fun zs hz' => by rw [I.list_inj hz' q1]; exact hx⟩, ?_, fun b hb => ?_⟩
    · refine Inv.step (s := s) (h' := h2') (g' := s.gens) (d' := s.drawn) (t' := s.toks + 1) (ch := [e, it]) I (fun b hb => ?_) (fun b o _ _ hc q _ => kp2 b o hc q) (fun b o _ _ hc q _ => ⟨o.slots, kp2 b o hc q⟩) (fun b o _ q n => ?_) (fun b o hc q => ⟨o, kp2 b o hc q⟩)
        (fun b zs q => upn b _ q) (fun b o zs q => upn b _ q) (fun b ps q => ⟨#[], by rw [upn b _ q]; simp⟩) (fun m hm => ?_) (fun b o q => ?_) I.bare
      · obtain ⟨_, f1, _, f3, f4, f5⟩ := hf b hb
        exact ⟨f3, f1, f4, f5⟩
      · rw [upd_ne (neT b o q)]
        exact n
      · obtain ⟨o, es, ep, ho, r⟩ := hm
        refine ⟨o, es, ep, kp2 _ o (fun hb => ?_) ho, r⟩
        exact (hf _ hb).2.1 rfl
      · by_cases hb : b = s.heap.objs.size
        · subst hb
          rw [upd_same] at q
          cases q
          exact ⟨by show 2 ≤ sizeLine; decide, [_, u1], .cons ⟨_, rfl⟩ (.cons v1 .nil), _, sb.extBut _ _ (Nat.ne_of_gt (Heap.lt_size he)) t1, rfl, _, rfl⟩
        · rw [upd_ne hb] at q
          refine (I.hok b o q).stay (fun c u hc z => kp2 c u ?_ z) (fun c z => upn c _ z) fun c zs z => upn c _ z
          rcases hc with hc | hc
          · rw [hc]; exact neH b o q
          · exact neH c _ hc
    · exact ⟨⟨_, z2⟩, j1.at fun o z => sb.extBut _ o (Ne.symm hne) z⟩
    · obtain ⟨o, q, _⟩ : ∃ o, s.heap.get? b = some o ∧ True := by
        obtain ⟨o1, g1, _⟩ := h1
        simp only [List.mem_cons, List.not_mem_nil, or_false] at hb
        rcases hb with rfl | rfl
        · exact ⟨_, he, trivial⟩
        · exact ⟨_, g1, trivial⟩
      rw [upd_ne (neT b o q)]
      exact (hf b hb).1
  done := by
    intro X hP hw hK hc k pins s σ H E I hf st hg
    subst hP hw hK
    obtain ⟨⟨old, he⟩, h1⟩ := st
    obtain ⟨xs, q1, hend⟩ := hg
    obtain ⟨its, r1, p1, _⟩ := I.list q1
    have l1' := r1.length
    refine wpAny_pyNext_enum_end (I.ok.hd hc) he h1 p1.isList (Array.getElem?_eq_none (by rw [List.size_toArray]; omega)) fun h' eb => ⟨rfl, ?_⟩
    obtain ⟨f0, f1, f2, f3, f4, f5⟩ := hf it (by simp)
    exact I.turned (t' := s.toks) (fun b o hb q => eb b o hb q) f0 f1 f3 f4 f5
  self := fun _ _ _ _ _ st h => by
    obtain ⟨⟨old, he⟩, _⟩ := st
    exact wpAny_pyIter_enum he h
section
variable {X : Cx}
def iEnum (K : PySem.W.Frag) (ta : TA) : TI := fun σ H R => ta σ H fun vs H1 => ∃ (l : Addr) (xs : List V), vs = [.ref l] ∧ H1 l = some (.lst xs) ∧ R (Ite K l) H1
theorem pi_enum {elts : List Expr} {kt : Nat} {pt : Pos} {a : Expr} {ta : TA} {p pos : Pos} (hg : Gl X "enumerate") (hm : X.mg "enumerate" = none) (ha : PA X [a] ta) (hs : starEach [a] X.env = [(false, eval a X.env)] := by rfl) :
    PI X (.Tuple elts kt pt) (.Call (.Name "enumerate" p) [a] [] pos) (iEnum X.K ta) := by
  intro pins s σ H R I h
  refine Call_ (ld_blt I hg hm bt_enumerate (PyProof.Rows.callWith_type1 (thn (ha pos pins s σ H _ I h) fun us s1 ⟨vs, H1, I1, r1, q1⟩ => ?_) hs rfl))
  obtain ⟨l, xs, e, hl, q⟩ := q1
  subst e
  obtain ⟨u1, rfl, v1⟩ := Vals.one r1
  cases v1
  obtain ⟨_, its, n, _, _, eo⟩ := I1.lstM hl
  refine call_enumerate_1 eo fun h' he hi _ kp => ?_
  refine wpAny_pyIter_enum he ?_
  refine ⟨_, _, _, _, H1, rfl, I1.kept (t' := s1.toks) kp, turn_enum (Nat.succ_ne_self _), ⟨⟨_, he⟩, hi⟩, fun b hb => ?_, q⟩
  have hge : s1.heap.objs.size ≤ b := by
    simp only [List.mem_cons, List.not_mem_nil, or_false] at hb
    rcases hb with rfl | rfl <;> omega
  exact I1.fpOk hge (I1.hok.fresh hge)
end
section
variable {K : PySem.W.Frag} {l D : Addr} {xs : List V} {g : TG} {tt : TT} {te : TE} {σ0 : St} {H1 : Hp} {Q : VK}
theorem comp_enum (Pv : Nat → St → List V → Hp → Prop) (h0 : Pv 0 σ0 [] (upd H1 D (.lst []))) (hl : ∀ i σ zs H, Pv i σ zs H → SqL K H l xs ∧ H D = some (.lst zs))
    (hs : ∀ i x T σ zs H, xs[i]? = some x → H T = none → Pv i σ zs H → g (.ref T) σ (upd H T (.tup [.int i, x])) fun σ2 H2 => tt σ2 H2 fun b H3 =>
      if b = true then te σ2 H3 fun z H4 => H4 D = some (.lst zs) ∧ zs.length < sizeLine ∧ Pv (i + 1) σ2 (zs ++ [z]) (upd H4 D (.lst (zs ++ [z]))) else Pv (i + 1) σ2 zs H3)
    (hd : ∀ σ zs H, Pv xs.length σ zs H → Q (.ref D) H) : CompW (Ite K l) D g tt te σ0 H1 Q := by
  refine ⟨fun i m σ zs H => m = xs.length - i ∧ i ≤ xs.length ∧ Pv i σ zs H, ⟨_, rfl, Nat.zero_le _, h0⟩, ?_⟩
  rintro i m σ zs H ⟨rfl, hi, p⟩
  obtain ⟨q1, qd⟩ := hl i σ zs H p
  refine ⟨qd, ?_⟩
  by_cases hlt : i < xs.length
  · refine .inr ⟨⟨xs, xs[i], q1, by simp [hlt]⟩, Pv (i + 1), fun σ' zs' H' z => ⟨xs.length - (i + 1), by omega, rfl, hlt, z⟩, fun v H' y => ?_⟩
    obtain ⟨T, x, rfl, hT, rfl, y1⟩ := y
    exact hs i x T σ zs H (y1 xs q1) hT p
  · have e : i = xs.length := by omega
    subst e
    exact .inl ⟨⟨xs, q1, Nat.le_refl _⟩, hd σ zs H p⟩
theorem for_enum {tb : TS} {E : Ends} {σ : St} {H : Hp} (Pv : Nat → St → Hp → Prop) (h0 : Pv 0 σ H) (hl : ∀ i σ H, Pv i σ H → SqL K H l xs)
    (hs : ∀ i x T σ H, xs[i]? = some x → H T = none → Pv i σ H → g (.ref T) σ (upd H T (.tup [.int i, x])) fun σ2 H2 => tb { E with nx := Pv (i + 1), ct := Pv (i + 1), bk := E.nx } σ2 H2) (hd : ∀ σ H, Pv xs.length σ H → E.nx σ H) :
    ∃ W : Nat → Nat → St → Hp → Prop, (∃ m, W 0 m σ H) ∧ ∀ i m σ H, W i m σ H →
      ((Ite K l).stop i H ∧ E.nx σ H) ∨ ((Ite K l).go i H ∧ ∃ N : St → Hp → Prop, (∀ σ' H', N σ' H' → ∃ m', m' < m ∧ W (i + 1) m' σ' H') ∧ ∀ x H', (Ite K l).yld i H x H' → g x σ H' fun σ2 H2 => tb { E with nx := N, ct := N, bk := E.nx } σ2 H2) := by
  refine ⟨fun i m σ H => m = xs.length - i ∧ i ≤ xs.length ∧ Pv i σ H, ⟨_, rfl, Nat.zero_le _, h0⟩, ?_⟩
  rintro i m σ H ⟨rfl, hi, p⟩
  have q1 := hl i σ H p
  by_cases hlt : i < xs.length
  · refine .inr ⟨⟨xs, xs[i], q1, by simp [hlt]⟩, Pv (i + 1), fun σ' H' z => ⟨xs.length - (i + 1), by omega, rfl, hlt, z⟩, fun v H' y => ?_⟩
    obtain ⟨T, x, rfl, hT, rfl, y1⟩ := y
    exact hs i x T σ H (y1 xs q1) hT p
  · have e : i = xs.length := by omega
    subst e
    exact .inl ⟨⟨xs, q1, Nat.le_refl _⟩, hd σ H p⟩
end
end L2

namespace L2
open PySem PySem.Spec PyProof.Rows
section
variable {X : Cx} {e : Expr} {te : TE} {lo hi : Option Expr} {st : Expr} {tl th ts : TO} {pos p2 : Pos}
end
theorem refs_of : ∀ {rs : List Addr} {us : List Value}, Vals (rs.map V.ref) us → us = rs.map Value.ref
  | [], _, r => by cases r; rfl
  | a :: rs, _, r => by
    cases r with
    | cons r1 r2 =>
      cases r1
      rw [refs_of r2]
      rfl
section
variable {X : Cx}
theorem range_all_tt (n : Nat) : (List.range n).all (fun _ => true) = true := List.all_eq_true.mpr fun _ _ => rfl
end
theorem Same.putNew {H H4 : Hp} {D : Addr} {o : HO} (s : Same H H4) (h : H D = none) : Same H (upd H4 D o) := fun b u q => by
  rw [upd_ne (ne_of_none q h)]
  exact s _ _ q
end L2
namespace L2
open PySem PySem.Spec PyProof.Rows
theorem mapInt_inj : ∀ {xs ys : List Int}, xs.map V.int = ys.map V.int → xs = ys
  | [], [], _ => rfl
  | [], _ :: _, h => nomatch h
  | _ :: _, [], h => nomatch h
  | x :: xs, y :: ys, h => by
    rw [List.map_cons, List.map_cons] at h
    injection h with h1 h2
    rw [V.int.inj h1, mapInt_inj h2]
section
variable {X : Cx}
end
end L2

namespace PySem.W
open PySem PySem.Calls PyProof.Rows
section
variable {O : KeyOrd} (key : Nat → O.α)
structure PIn (n : Nat) (p : Array Nat) : Prop where
  perm : p.Perm (List.toArray (List.range n))
variable {key} {n : Nat}
end
end PySem.W

namespace PySem.W
open PySem PySem.Calls PyProof.Rows
section
variable {prog : Program} {w : World} {A : Around} {E : Value → Shared → Prop} {s : Shared}
def midHeap (h : Heap) (a : Addr) (vs : List Value) : Heap := ((h.update a (Obj.mapSeq fun _ => #[])).push (seqObj "tuple" vs.toArray 0)).push (seqObj "list" #[] 0)
theorem midHeap_old {h : Heap} {a b : Addr} {vs : List Value} (hb : b ≠ a) {o : Obj} (e : h.get? b = some o) : (midHeap h a vs).get? b = some o := by
  unfold midHeap
  refine Heap.get?_push_of_some _ (Heap.get?_push_of_some _ ?_)
  rw [Heap.get?_update_ne _ _ _ _ hb]
  exact e
def preHeap (h : Heap) (vs : List Value) : Heap := ((h.push (seqObj "list" #[] 0)).update h.objs.size (Obj.mapSeq (· ++ vs.toArray))).push (seqObj "list" vs.toArray 0)
theorem preHeap_old {h : Heap} {b : Addr} {vs : List Value} {o : Obj} (e : h.get? b = some o) : (preHeap h vs).get? b = some o := by
  have hlt : b < h.objs.size := Heap.lt_size e
  unfold preHeap
  refine Heap.get?_push_of_some _ ?_
  rw [Heap.get?_update_ne _ _ _ _ (Nat.ne_of_lt hlt), Heap.get?_push_ne _ _ _ (Nat.ne_of_lt hlt)]
  exact e
end
end PySem.W

namespace L2
open PySem PySem.Spec PyProof.Rows PySem.W
theorem lexLt_irr : ∀ a : List Int, HT.lexLt a a = false
  | [] => rfl
  | x :: xs => by rw [HT.lexLt_cons, if_pos rfl]; exact lexLt_irr xs
theorem lexLt_tr : ∀ a b c : List Int, HT.lexLt a b = true → HT.lexLt b c = true → HT.lexLt a c = true
  | [], [], _, h, _ => nomatch h
  | [], _ :: _, [], _, h => nomatch h
  | [], _ :: _, _ :: _, _, _ => rfl
  | _ :: _, [], _, h, _ => nomatch h
  | _ :: _, _ :: _, [], _, h => nomatch h
  | x :: xs, y :: ys, z :: zs, h1, h2 => by
    rw [HT.lexLt_cons] at h1 h2 ⊢
    by_cases e1 : x = y
    · rw [if_pos e1] at h1
      by_cases e2 : y = z
      · rw [if_pos e2] at h2
        rw [if_pos (e1.trans e2)]
        exact lexLt_tr xs ys zs h1 h2
      · rw [if_neg e2] at h2
        rw [if_neg (by omega), e1]
        exact h2
    · rw [if_neg e1] at h1
      have g1 := of_decide_eq_true h1
      by_cases e2 : y = z
      · rw [if_neg (by omega), ← e2]
        exact h1
      · rw [if_neg e2] at h2
        have g2 := of_decide_eq_true h2
        rw [if_neg (by omega)]
        exact decide_eq_true (by omega)
theorem lexLt_or : ∀ a b c : List Int, HT.lexLt a c = true → HT.lexLt a b = true ∨ HT.lexLt b c = true
  | [], _, [], h => nomatch h
  | [], [], _ :: _, _ => .inr rfl
  | [], _ :: _, _ :: _, _ => .inl rfl
  | _ :: _, _, [], h => nomatch h
  | _ :: _, [], _ :: _, _ => .inr rfl
  | x :: xs, y :: ys, z :: zs, h => by
    rw [HT.lexLt_cons] at h ⊢
    rw [HT.lexLt_cons]
    by_cases e1 : x = y
    · by_cases e2 : y = z
      · rw [if_pos (e1.trans e2)] at h
        rw [if_pos e1, if_pos e2]
        exact lexLt_or xs ys zs h
      · rw [if_neg (by omega)] at h
        right
        rw [if_neg e2, ← e1]
        exact h
    · by_cases e2 : y = z
      · rw [if_neg (by omega)] at h
        left
        rw [if_neg e1, e2]
        exact h
      · rw [if_neg e1, if_neg e2]
        by_cases g : x < y
        · exact .inl (decide_eq_true g)
        · right
          by_cases e3 : x = z
          · exact decide_eq_true (by omega)
          · rw [if_neg e3] at h
            have := of_decide_eq_true h
            exact decide_eq_true (by omega)
theorem lexLt_tot : ∀ a b : List Int, HT.lexLt a b = false → HT.lexLt b a = false → a = b
  | [], [], _, _ => rfl
  | [], _ :: _, h, _ => nomatch h
  | _ :: _, [], _, h => nomatch h
  | x :: xs, y :: ys, h1, h2 => by
    rw [HT.lexLt_cons] at h1 h2
    by_cases e : x = y
    · rw [if_pos e] at h1
      rw [if_pos e.symm] at h2
      rw [e, lexLt_tot xs ys h1 h2]
    · rw [if_neg e] at h1
      rw [if_neg (fun z => e z.symm)] at h2
      have g1 := of_decide_eq_false h1
      have g2 := of_decide_eq_false h2
      omega
def TupN (h : Heap) (v : Value) (ns : List Int) : Prop := ∃ (a : Addr) (o : Obj) (n : Nat) (its : List Value), v = .ref a ∧ h.get? a = some o ∧ o.cls = .type "tuple" ∧ o.data = .seq its.toArray n ∧ Vals (ns.map V.int) its
theorem TupN.keep {h h' : Heap} {v : Value} {t : List Int} (e : TupN h v t) (k : ∀ b o, h.get? b = some o → h'.get? b = some o) : TupN h' v t := by
  obtain ⟨a, o, n, its, e1, e2, e3⟩ := e
  exact ⟨a, o, n, its, e1, k _ _ e2, e3⟩
section
variable {prog : Program} {w : World} {A : Around} {E : Value → Shared → Prop} {s : Shared}
end
theorem vals_refs : ∀ rs : List Addr, Vals (rs.map V.ref) (rs.map Value.ref)
  | [] => .nil
  | _ :: rs => .cons rfl (vals_refs rs)
section
variable {X : Cx}
theorem bt_sorted : bootBuiltins "sorted" = some (.builtin "sorted") := by decide +kernel
end
end L2
namespace L2
open PySem PySem.Spec PyProof.Rows
section
variable {X : Cx}
end
end L2

namespace Sea
open PySem L2
theorem rise_eq : ∀ {xs ys : List (List Int)}, xs.Perm ys → xs.Pairwise (fun a b => HT.lexLt b a = false) → ys.Pairwise (fun a b => HT.lexLt b a = false) → xs = ys
  | [], ys, h, _, _ => (List.nil_perm.mp h).symm
  | x :: xs, [], h, _, _ => absurd (List.perm_nil.mp h) (by simp)
  | x :: xs, y :: ys, h, hx, hy => by
    obtain ⟨hx1, hx2⟩ := List.pairwise_cons.mp hx
    obtain ⟨hy1, hy2⟩ := List.pairwise_cons.mp hy
    have e : x = y := by
      have m1 : x ∈ y :: ys := h.mem_iff.mp (List.mem_cons_self ..)
      have m2 : y ∈ x :: xs := h.mem_iff.mpr (List.mem_cons_self ..)
      rcases List.mem_cons.mp m1 with e | m1
      · exact e
      · rcases List.mem_cons.mp m2 with e | m2
        · exact e.symm
        · exact lexLt_tot _ _ (hy1 x m1) (hx1 y m2)
    subst e
    rw [rise_eq (List.perm_cons x |>.mp h) hx2 hy2]
end Sea

namespace L2
open PySem PySem.Spec PyProof.Rows
section
variable {κ : Type} [DecidableEq κ]
def valV (kvs : List (κ × V)) (k : κ) : Option V := (kvs.find? fun kv => decide (kv.1 = k)).map (·.2)
def putK (kvs : List (κ × V)) (k : κ) (v : V) : List (κ × V) :=
  if (kvs.any fun kv => decide (kv.1 = k)) = true then kvs.map (fun kv => if kv.1 = k then (kv.1, v) else kv) else kvs ++ [(k, v)]
theorem valV_pos {p : κ × V} {r : List (κ × V)} {k : κ} (e : p.1 = k) : valV (p :: r) k = some p.2 := by simp [valV, List.find?_cons, e]
theorem valV_neg {p : κ × V} {r : List (κ × V)} {k : κ} (e : ¬ p.1 = k) : valV (p :: r) k = valV r k := by simp [valV, List.find?_cons, e]
theorem valV_any (k : κ) : ∀ kvs : List (κ × V), (kvs.any fun kv => decide (kv.1 = k)) = (valV kvs k).isSome
  | [] => rfl
  | p :: r => by
    rw [List.any_cons]
    by_cases e : p.1 = k
    · simp only [valV_pos e, decide_eq_true e, Bool.true_or, Option.isSome_some]
    · rw [valV_neg e, decide_eq_false e, Bool.false_or]; exact valV_any k r
theorem valV_map (k j : κ) (y : V) : ∀ kvs : List (κ × V), valV (kvs.map fun kv => if kv.1 = k then (kv.1, y) else kv) j = (valV kvs j).map fun x => if j = k then y else x
  | [] => rfl
  | p :: r => by
    have ih := valV_map k j y r
    rw [List.map_cons]
    by_cases h : p.1 = k
    · rw [if_pos h]
      by_cases e : p.1 = j
      · rw [valV_pos (p := (p.1, y)) e, valV_pos e, Option.map_some, if_pos (e.symm.trans h)]
      · rw [valV_neg (p := (p.1, y)) e, valV_neg e, ih]
    · rw [if_neg h]
      by_cases e : p.1 = j
      · rw [valV_pos (p := p) e, valV_pos e, Option.map_some, if_neg (fun z => h (e.trans z))]
      · rw [valV_neg (p := p) e, valV_neg e, ih]
theorem valV_snoc (k j : κ) (y : V) : ∀ kvs : List (κ × V), valV kvs k = none → valV (kvs ++ [(k, y)]) j = if j = k then some y else valV kvs j
  | [], _ => by
    by_cases e : k = j
    · rw [if_pos e.symm]; exact valV_pos (p := (k, y)) e
    · rw [if_neg (fun z => e z.symm)]; exact valV_neg (p := (k, y)) e
  | p :: r, hn => by
    rw [List.cons_append]
    have hk : ¬ p.1 = k := fun z => by rw [valV_pos z] at hn; cases hn
    rw [valV_neg hk] at hn
    have ih := valV_snoc k j y r hn
    by_cases e : p.1 = j
    · rw [valV_pos e, valV_pos e, if_neg (fun z => hk (e.trans z))]
    · rw [valV_neg e, valV_neg e, ih]
theorem valV_put (kvs : List (κ × V)) (k j : κ) (y : V) : valV (putK kvs k y) j = if j = k then some y else valV kvs j := by
  unfold putK
  by_cases a : (kvs.any fun kv => decide (kv.1 = k)) = true
  · rw [if_pos a, valV_map]
    rw [valV_any] at a
    by_cases e : j = k
    · obtain ⟨x, hx⟩ := Option.isSome_iff_exists.mp a
      rw [if_pos e, e, hx, Option.map_some, if_pos rfl]
    · rw [if_neg e]
      cases valV kvs j with
      | none => rfl
      | some x => rw [Option.map_some, if_neg e]
  · rw [if_neg a]
    refine valV_snoc k j y kvs ?_
    rw [valV_any] at a
    cases q : valV kvs k with
    | none => rfl
    | some x => rw [q] at a; exact (a rfl).elim
theorem length_putK (kvs : List (κ × V)) (k : κ) (v : V) : (putK kvs k v).length ≤ kvs.length + 1 := by
  unfold putK
  split
  · rw [List.length_map]; omega
  · rw [List.length_append, List.length_cons, List.length_nil]; omega
theorem RelO.isSome_eq {o : Option V} {u : Option Value} (r : RelO o u) : o.isSome = u.isSome := by
  cases o with
  | none => cases u with
    | none => rfl
    | some _ => exact (show False from r).elim
  | some _ => cases u with
    | none => exact (show False from r).elim
    | some _ => rfl
theorem KV.val {kvs : List (κ × V)} {vs : List (κ × Value)} (r : KV kvs vs) (k : κ) : RelO (valV kvs k) (valueAt vs k) := by
  unfold KV at r
  induction r with
  | nil => exact True.intro
  | @cons p q ps qs h t ih =>
    obtain ⟨h1, h2⟩ := h
    by_cases e : p.1 = k
    · have e' : q.1 = k := h1.symm.trans e
      have b : valueAt (q :: qs) k = some q.2 := by simp [valueAt, List.find?_cons, e']
      rw [valV_pos e, b]; exact h2
    · have e' : ¬ q.1 = k := fun z => e (h1.trans z)
      have b : valueAt (q :: qs) k = valueAt qs k := by simp [valueAt, List.find?_cons, e']
      rw [valV_neg e, b]; exact ih
theorem KV.any {kvs : List (κ × V)} {vs : List (κ × Value)} (r : KV kvs vs) (k : κ) : (kvs.any fun kv => decide (kv.1 = k)) = vs.any fun kv => decide (kv.1 = k) := by
  unfold KV at r
  induction r with
  | nil => rfl
  | cons h t ih => rw [List.any_cons, List.any_cons, ih, h.1]
theorem KV.repl {kvs : List (κ × V)} {vs : List (κ × Value)} (r : KV kvs vs) (k : κ) {y : V} {u : Value} (ry : RelV y u) :
    KV (kvs.map fun kv => if kv.1 = k then (kv.1, y) else kv) (vs.map fun kv => if kv.1 = k then (kv.1, u) else kv) := by
  unfold KV at r ⊢
  induction r with
  | nil => exact .nil
  | @cons p q ps qs h t ih =>
    rw [List.map_cons, List.map_cons]
    refine .cons ?_ ih
    obtain ⟨h1, h2⟩ := h
    by_cases e : p.1 = k
    · rw [if_pos e, if_pos (h1.symm.trans e)]; exact ⟨h1, ry⟩
    · rw [if_neg e, if_neg (fun z => e (h1.trans z))]; exact ⟨h1, h2⟩
theorem KV.put {kvs : List (κ × V)} {vs : List (κ × Value)} (r : KV kvs vs) (k : κ) {y : V} {u : Value} (ry : RelV y u) : KV (putK kvs k y) (stored vs k u) := by
  unfold putK stored
  rw [r.any k]
  by_cases e : (vs.any fun kv => decide (kv.1 = k)) = true
  · rw [if_pos e, if_pos e]; exact r.repl k ry
  · rw [if_neg e, if_neg e]; exact Paired.snoc r ⟨rfl, ry⟩
theorem KV.length {kvs : List (κ × V)} {vs : List (κ × Value)} (r : KV kvs vs) : kvs.length = vs.length := Paired.length r
end


theorem kV_is {P : Program} {w : World} {k : Key} {u : Value} (r : RelV (kV k) u) : (mixKind P w).is k u = true := by
  cases k with
  | inl i => obtain ⟨t, e⟩ := (show ∃ t, u = Value.int i t from r); subst e; exact mixKind_int P w i t
  | inr x => obtain ⟨t, e⟩ := (show ∃ t, u = Value.str x t from r); subst e; exact mixKind_str P w x t
theorem items_are {P : Program} {w : World} : ∀ {ks : List Key} {us : List Value}, Vals (ks.map kV) us → ItemsAre (mixKind P w) ks us
  | [], _, r => by rw [List.map_nil] at r; cases r; exact .nil
  | k :: ks, _, r => by
    rw [List.map_cons] at r
    cases r with
    | cons h t => exact .cons (kV_is h) (items_are t)

abbrev KT (H : Hp) : List (List Key × V) → List (List Key × Addr × Value) → Prop := Paired fun p q => p.1 = q.1 ∧ H q.2.1 = some (.tup (p.1.map kV)) ∧ RelV p.2 q.2.2
theorem KT.val {H : Hp} {kvs : List (List Key × V)} {xs : List (List Key × Addr × Value)} (r : KT H kvs xs) (k : List Key) : RelO (valV kvs k) ((atKey xs k).map (·.2)) := by
  induction r with
  | nil => exact True.intro
  | @cons p q ps qs h t ih =>
    obtain ⟨h1, _, h2⟩ := h
    by_cases e : p.1 = k
    · have e' : q.1 = k := h1.symm.trans e
      have b : atKey (q :: qs) k = some q.2 := by simp [atKey, List.find?_cons, e']
      rw [valV_pos e, b]; exact h2
    · have e' : ¬ q.1 = k := fun z => e (h1.trans z)
      have b : atKey (q :: qs) k = atKey qs k := by simp [atKey, List.find?_cons, e']
      rw [valV_neg e, b]; exact ih
theorem KT.repl {H : Hp} {kvs : List (List Key × V)} {xs : List (List Key × Addr × Value)} (r : KT H kvs xs) (k : List Key) {y : V} {u : Value} (ry : RelV y u) :
    KT H (kvs.map fun kv => if kv.1 = k then (kv.1, y) else kv) (xs.map (putAt k u)) := by
  induction r with
  | nil => exact .nil
  | @cons p q ps qs h t ih =>
    rw [List.map_cons, List.map_cons]
    refine .cons ?_ ih
    obtain ⟨h1, h2, h3⟩ := h
    unfold putAt
    by_cases e : p.1 = k
    · rw [if_pos e, if_pos (h1.symm.trans e)]; exact ⟨h1, h2, ry⟩
    · rw [if_neg e, if_neg (fun z => e (h1.trans z))]; exact ⟨h1, h2, h3⟩
theorem KT.put {H : Hp} {kvs : List (List Key × V)} {xs : List (List Key × Addr × Value)} (r : KT H kvs xs) (k : List Key) {b : Addr} {y : V} {u : Value} (hb : H b = some (.tup (k.map kV))) (ry : RelV y u) :
    KT H (putK kvs k y) (storedH xs k b u) := by
  have e : (kvs.any fun kv => decide (kv.1 = k)) = (atKey xs k).isSome := by
    rw [valV_any, (r.val k).isSome_eq, Option.isSome_map]
  unfold putK storedH
  rw [e]
  by_cases q : (atKey xs k).isSome = true
  · rw [if_pos q, if_pos q]; exact r.repl k ry
  · rw [if_neg q, if_neg q]; exact Paired.snoc r ⟨rfl, hb, ry⟩
theorem KT.keeps {H H' : Hp} {kvs : List (List Key × V)} {xs : List (List Key × Addr × Value)} (r : KT H kvs xs) (ht : ∀ b ys, H b = some (.tup ys) → H' b = some (.tup ys)) : KT H' kvs xs :=
  Paired.mapP r fun _ _ z => ⟨z.1, ht _ _ z.2.1, z.2.2⟩

section
variable {P : Program} {w : World} {H : Hp} {h : Heap} {a : Addr}
theorem rd_of {u : HO} (ok : HOk P w H h) (e : Rd H a u) : ObjOk P w H h a u := e.ok ok
theorem dk_rd {kvs : List (Key × V)} (ok : HOk P w H h) (e : Rd H a (.dK kvs)) : kvs.length ≤ sizeLine ∧ (a == sysModules) = false ∧ ∃ vs, KV kvs vs ∧ h.DictOf (mixKind P w) a vs :=
  show ObjOk P w H h a (.dK kvs) from rd_of ok e
theorem dk_of {kvs : List (Key × V)} (ok : HOk P w H h) (e : H a = some (.dK kvs)) : kvs.length ≤ sizeLine ∧ (a == sysModules) = false ∧ ∃ vs, KV kvs vs ∧ h.DictOf (mixKind P w) a vs := dk_rd ok (.inl e)
theorem key_of {ks : List Key} (ok : HOk P w H h) (e : H a = some (.tup (ks.map kV))) : (tupleKind (mixKind P w)).is h ks a := by
  obtain ⟨_, its, r, o, h1, h2, n, h3⟩ := (show ObjOk P w H h a (.tup (ks.map kV)) from ok a _ e)
  exact ⟨o, its.toArray, n, h1, h2, h3, by simpa using items_are r⟩
theorem dt_rd {kvs : List (List Key × V)} (ok : HOk P w H h) (e : Rd H a (.dT kvs)) : kvs.length ≤ sizeLine ∧ (a == sysModules) = false ∧
    ∃ xs, KT H kvs xs ∧ h.DictOfH (tupleKind (mixKind P w)) a xs := by
  obtain ⟨z, y, xs, r, o, es, ep, h1, h2, h3, h4, h5⟩ := (show ObjOk P w H h a (.dT kvs) from rd_of ok e)
  refine ⟨z, y, xs, r, o, es, ep, h1, h2, h3, h4, fun x hx => ?_, h5⟩
  have all : ∀ {l : List (List Key × V)} {m : List (List Key × Addr × Value)}, KT H l m → ∀ x ∈ m, (tupleKind (mixKind P w)).is h x.1 x.2.1 := by
    intro l m q
    induction q with
    | nil => intro x hx; exact nomatch hx
    | @cons p q ps qs hq t ih =>
      intro x hx
      rcases List.mem_cons.mp hx with e | hx
      · subst e
        exact key_of ok (by rw [← hq.1]; exact hq.2.1)
      · exact ih x hx
  exact all r x hx
theorem dt_of {kvs : List (List Key × V)} (ok : HOk P w H h) (e : H a = some (.dT kvs)) : kvs.length ≤ sizeLine ∧ (a == sysModules) = false ∧
    ∃ xs, KT H kvs xs ∧ h.DictOfH (tupleKind (mixKind P w)) a xs := dt_rd ok (.inl e)
end

def DGet (H : Hp) (a : Addr) (y : V) (r : Option V) : Prop :=
  (∃ kvs k, Rd H a (.dK kvs) ∧ y = kV k ∧ r = valV kvs k) ∨ ∃ kvs k b, Rd H a (.dT kvs) ∧ y = .ref b ∧ H b = some (.tup (k.map kV)) ∧ r = valV kvs k
def DPut (H : Hp) (a : Addr) (y v : V) (H' : Hp) : Prop :=
  (∃ kvs k, H a = some (.dK kvs) ∧ y = kV k ∧ kvs.length < sizeLine ∧ H' = upd H a (.dK (putK kvs k v))) ∨
  ∃ kvs k b, H a = some (.dT kvs) ∧ y = .ref b ∧ H b = some (.tup (k.map kV)) ∧ kvs.length < sizeLine ∧ H' = upd H a (.dT (putK kvs k v))
theorem DGet.t {H : Hp} {a b : Addr} {kvs : List (List Key × V)} {k : List Key} (e : H a = some (.dT kvs)) (eb : H b = some (.tup (k.map kV))) : DGet H a (.ref b) (valV kvs k) := .inr ⟨kvs, k, b, .inl e, rfl, eb, rfl⟩
theorem DPut.t {H : Hp} {a b : Addr} {kvs : List (List Key × V)} {k : List Key} {v : V} (e : H a = some (.dT kvs)) (eb : H b = some (.tup (k.map kV))) (hl : kvs.length < sizeLine) :
    DPut H a (.ref b) v (upd H a (.dT (putK kvs k v))) := .inr ⟨kvs, k, b, e, rfl, eb, hl, rfl⟩


section
variable {X : Cx} {pins : List (Addr × Obj)} {σ : St} {H : Hp} {s : Shared} {a : Addr} {y v : V} {u r : Value} {o : Option V} {A : Around} {E : Value → Shared → Prop}

theorem Inv.big (I : Inv X pins σ H s) : sysModules < s.heap.objs.size := by
  have h : mainGlobals < s.heap.objs.size := (I.mod.glob.keeps I.bk).lt
  exact Nat.lt_trans (by decide) h

theorem d_getItem {Q : Value → Shared → Prop} (hu : A.units + 1 < cLine) (I : Inv X pins σ H s) (g : DGet H a y (some v)) (ry : RelV y u) (h : ∀ w' s', Inv X pins σ H s' → RelV v w' → Q w' s') :
    wpAny (model X.prog X.w) A (getItem (.ref a) u) Q E s := by
  rcases g with ⟨kvs, k, e, ey, l⟩ | ⟨kvs, k, b, e, ey, eb, l⟩
  · subst ey
    obtain ⟨z, hd, vs, rel, dd⟩ := dk_rd I.hok e
    obtain ⟨w', hw, rw'⟩ := RelO.some_of (v := v) (o := valueAt vs k) (by rw [l]; exact rel.val k)
    exact wpAny_getItem_of (kV_is ry) dd.mapOf hw (h w' _ (I.tok _) rw')
  · subst ey
    cases (show u = Value.ref b from ry)
    obtain ⟨z, hd, xs, rel, dd⟩ := dt_rd I.hok e
    obtain ⟨w', hw, rw'⟩ := RelO.some_of (v := v) (o := (atKey xs k).map (·.2)) (by rw [l]; exact rel.val k)
    obtain ⟨p, hp, hp2⟩ := Option.map_eq_some_iff.mp hw
    refine wpAny_getItem_heap (tupleKind_room_in1 hu) (key_of I.hok eb) dd hp ?_
    rw [hp2]
    exact h w' _ (I.tok _) rw'
theorem d_write {h' : Heap} {t' : Nat} {ob : HO} (I : Inv X pins σ H s) (mu : Mut (H a)) (hs : Heap.SameBut a s.heap h') (he : ∃ q, h'.get? a = some q) (new : ObjOk X.prog X.w (upd H a ob) h' a ob) :
    Inv X pins σ (upd H a ob) { s with heap := h', toks := t' } :=
  I.write (x := a) (e := a) mu (.inl rfl) (fun b q hb z => (hs.2 b hb).trans z) he new
theorem dk_new {P : Program} {w : World} {H' : Hp} {h' : Heap} {kvs : List (Key × V)} {vs : List (Key × Value)} (z : kvs.length ≤ sizeLine) (hd : (a == sysModules) = false) (rel : KV kvs vs) (dd : h'.DictOf (mixKind P w) a vs) :
    ObjOk P w H' h' a (.dK kvs) := ⟨z, hd, vs, rel, dd⟩
theorem d_setItem {H' : Hp} {Q : Unit → Shared → Prop} (hu : A.units + 1 < cLine) (I : Inv X pins σ H s) (g : DPut H a y v H') (ry : RelV y u) (rv : RelV v r) (h : ∀ s', Inv X pins σ H' s' → Q () s') :
    wpAny (model X.prog X.w) A (setItem (.ref a) u r) Q E s := by
  rcases g with ⟨kvs, k, e, ey, l, eH⟩ | ⟨kvs, k, b, e, ey, eb, l, eH⟩
  · subst ey eH
    obtain ⟨z, hd, vs, rel, dd⟩ := dk_of I.hok e
    have hz : vs.length ≤ sizeLine := by rw [← rel.length]; exact z
    have hl : (putK kvs k v).length ≤ sizeLine := by have := length_putK kvs k v; omega
    refine wpAny_setItem_pairs (hsz := hz) (kV_is ry) dd fun h' dd' hs => h _ ?_
    have he : ∃ q, h'.get? a = some q := let ⟨q, _, _, hq, _⟩ := dd'; ⟨q, hq⟩
    exact d_write I (by rw [e]; exact True.intro) hs he (dk_new hl hd (rel.put k rv) dd')
  · subst ey eH
    cases (show u = Value.ref b from ry)
    obtain ⟨z, hd, xs, rel, dd⟩ := dt_of I.hok e
    have hz : xs.length ≤ sizeLine := by rw [← Paired.length rel]; exact z
    have hl : (putK kvs k v).length ≤ sizeLine := by have := length_putK kvs k v; omega
    refine wpAny_setItem_heap (hsz := hz) (tupleKind_room_in1 hu) (key_of I.hok eb) dd fun h' dd' hs => h _ ?_
    obtain ⟨q, es, ep, hq, h2, h3, h4, _, h5⟩ := dd'
    refine d_write I (by rw [e]; exact True.intro) hs ⟨q, hq⟩ ⟨hl, hd, _, (rel.put k eb rv).keeps fun c ys ec => ?_, q, es, ep, hq, h2, h3, h4, h5⟩
    rw [upd_ne (ne_of ec e (fun z => nomatch z))]
    exact ec
end

section
variable {X : Cx} {pins : List (Addr × Obj)} {σ : St} {H : Hp} {s : Shared} {a : Addr} {kvs : List (Key × V)} {k : Key} {u : Value} {A : Around} {E : Value → Shared → Prop}
end


def NoSl (i : Expr) : Prop := ∀ ov iv, subscripted i false ov iv = operate [ov, iv] (getItem ov iv)
theorem subD_of {prog : Program} {w : World} {A : Around} {E : Value → Shared → Prop} {s : Shared} {env : Env} {value slice : Expr} {pos : Pos} {T id : String} {Q : Value → Shared → Prop}
    (hl : typeLookup (.type T) "__getitem__" = pure (some (.builtin id))) (hs : NoSl slice)
    (h : wpAny (model prog w) A (eval value env) (fun o s₁ => wpAny (model prog w) A (eval slice env) (fun i s₂ => s₂.TypeIs o T ∧ wpAny (model prog w) A (getItem o i) Q E s₂) E s₁) E s) :
    wpAny (model prog w) A (eval (.Subscript value slice pos) env) Q E s := by
  refine Subscript_ (wpAny_mono h (fun o s₁ h₁ => wpAny_mono h₁ (fun i s₂ h₂ => ?_) fun _ _ x => x) fun _ _ x => x)
  obtain ⟨hT, h₂⟩ := h₂
  unfold subscriptTail
  refine wpAny_bind ?_
  rw [getitemInPython_of_ne hT.not_modules]
  refine wpAny_bind (wpAny_specialOf hT hl ?_)
  have fin : wpAny (model prog w) A (subscripted slice false o i) (fun r s₃ => wpAny (model prog w) A (letTemporaryGo value o r >>= fun _ => pure r) Q E s₃) E s₂ := by
    rw [hs o i]
    exact wpAny_operating (wpAny_mono h₂ (fun r s₃ h₃ => wpAny_bind (wpAny_letTemporaryGo (wpAny_pure h₃))) fun _ _ x => x)
  first
    | exact wpAny_pure (wpAny_bind fin)
    | exact wpAny_bind (wpAny_pure (wpAny_bind fin))
    | exact wpAny_bind fin

theorem dict_typeIs {X : Cx} {pins : List (Addr × Obj)} {σ : St} {H : Hp} {s : Shared} {a : Addr} {y : V} {o : Option V} (I : Inv X pins σ H s) (g : DGet H a y o) : s.TypeIs (.ref a) "dict" := by
  rcases g with ⟨kvs, k, e, _, _⟩ | ⟨kvs, k, b, e, _, _, _⟩
  · obtain ⟨_, _, vs, _, dd⟩ := dk_rd I.hok e
    exact dd.typeIs
  · obtain ⟨_, _, xs, _, dd⟩ := dt_rd I.hok e
    exact dd.typeIs
def tDGet (td ty : TE) : TE := fun σ H Q => td σ H fun x H1 => ty σ H1 fun y H2 => ∃ a v, x = .ref a ∧ DGet H2 a y (some v) ∧ Q v H2
def sDPut (td ty tv : TE) : TS := fun D σ H => tv σ H fun v H1 => td σ H1 fun x H2 => ty σ H2 fun y H3 => ∃ a H4, x = .ref a ∧ DPut H3 a y v H4 ∧ D.nx σ H4
section
variable {X : Cx} {o i e value : Expr} {pos pos' tpos : Pos} {td ty tv : TE}
theorem pe_dget (hu : X.A.units + 1 < cLine) (ho : PE X o td) (hi : PE X i ty) (hs : NoSl i) : PE X (.Subscript o i pos) (tDGet td ty) := by
  intro pins s σ H Q I h
  refine subD_of PySem.F.slot_dict_getitem.lookup hs (thn (ho pins s σ H _ I h) fun u s1 ⟨x, H1, I1, rx, q1⟩ => thn (hi pins s1 σ H1 _ I1 q1) fun iv s2 ⟨y, H2, I2, ry, a, v, ex, g, q2⟩ => ?_)
  subst ex
  obtain rfl : u = Value.ref a := rx
  exact ⟨dict_typeIs I2 g, d_getItem hu I2 g ry fun w' s3 I3 rw' => ⟨v, H2, I3, rw', q2⟩⟩
theorem ps_dput (hu : X.A.units + 1 < cLine) (ho : PE X o td) (hi : PE X i ty) (hv : PE X value tv) (hs : swapsWith value (some (.Subscript o i pos')) pos.line X.env = pure false) :
    PS X (.Assign [.Subscript o i pos'] value pos) (sDPut td ty tv) := by
  intro pins s σ H D I h
  refine wpAny_Assign_Subscript (thn (hv pins s σ H _ I h) fun r s1 ⟨v, H1, I1, rv, q1⟩ => thn (ho pins s1 σ H1 _ I1 q1) fun u s2 ⟨x, H2, I2, rx, q2⟩ => thn (hi pins s2 σ H2 _ I2 q2) fun iv s3 ⟨y, H3, I3, ry, a, H4, ex, g, q3⟩ => ?_) hs
  subst ex
  obtain rfl : u = Value.ref a := rx
  exact d_setItem hu I3 g ry rv fun s4 I4 => ⟨σ, H4, I4, q3⟩
end


theorem dt_empty {P : Program} {w : World} {H : Hp} (h : Heap) (hb : sysModules < h.objs.size) : ObjOk P w H (h.push { cls := .type "dict", data := .dict #[] }) h.objs.size (.dT []) :=
  ⟨Nat.zero_le _, beq_eq_false_iff_ne.mpr (Ne.symm (Nat.ne_of_lt hb)), [], .nil, _, #[], 0, Heap.get?_push_size _ rfl, ⟨rfl, rfl, rfl⟩, rfl, rfl, List.nodup_nil⟩
def tDNewT : TE := fun _ H Q => ∀ p, H p = none → Q (.ref p) (upd H p (.dT []))
section
variable {X : Cx} {pos : Pos}
theorem pe_dnewT : PE X (.Dict [] [] pos) tDNewT := fun pins s σ H Q I h =>
  wpAny_Dict_empty ⟨.ref s.heap.objs.size, _, I.laid (a := s.heap.objs.size) (o := .dT []) (t' := s.toks) (fun _ _ q => Heap.get?_push_of_some _ q) (Nat.le_refl _) (dt_empty s.heap I.big), rfl, h _ (I.hok.fresh (Nat.le_refl _))⟩
end

end L2

namespace L2
open PySem PySem.Spec PyProof.Rows
def RawD (h : Heap) (a : Addr) (rows : Array DictEntry) (age : Nat) : Prop := ∃ ob, h.get? a = some ob ∧ ob.ExactDict ∧ ob.data = .dict rows age
theorem RawD.at {h h' : Heap} {a : Addr} {rows : Array DictEntry} {age : Nat} (x : RawD h a rows age) (e : ∀ ob, h.get? a = some ob → h'.get? a = some ob) : RawD h' a rows age := let ⟨ob, g, r⟩ := x; ⟨ob, e _ g, r⟩
theorem RawD.typeIs {z : Shared} {a : Addr} {rows : Array DictEntry} {age : Nat} (x : RawD z.heap a rows age) : z.TypeIs (.ref a) "dict" := let ⟨ob, g, c, _⟩ := x; ⟨ob, g, c.1⟩
section
variable {prog : Program} {w : World} {A : Around} {E : Value → Shared → Prop} {z : Shared} {it a : Addr} {rows : Array DictEntry} {age k : Nat}
theorem raw_iter {R : Value → Shared → Prop} (hs : (a == sysModules) = false) (x : RawD z.heap a rows age) (hR : R (.ref z.heap.objs.size) { z with heap := z.heap.push { cls := .type "dict_keyiterator", data := .fields #[.ref a, .int 0 0, .int rows.size 0, .int age 0] } }) :
    wpAny (model prog w) A (pyIter (.ref a)) R E z := by
  have ty := x.typeIs
  obtain ⟨ob, g, _, dat⟩ := x
  refine wpAny_pyIter_slot ty F.slot_dict_iter (wpAny_call_entry F.slot_dict_iter ty F.entry_dict_iter ?walk (F.args_dict_iter_1 _))
  case walk =>
    unfold Builtin.«dict.__iter__» Builtin.Dict.dictSlotNone
    refine wpAny_bind (wpAny_bind (wpAny_notOrdered_dict ty (show wpAny _ _ (pure (Value.ref a)) _ _ z from wpAny_pure ?_)))
    show wpAny _ _ (Builtin.Dict.showsAll a >>= _) _ _ z
    unfold Builtin.Dict.showsAll
    rw [if_neg (by rw [hs]; decide)]
    refine wpAny_bind (wpAny_pure (wpAny_bind (wpAny_dictEntries g dat (wpAny_bind (wpAny_dictEpoch g dat ?_)))))
    refine wpAny_bind (wpAny_newObj_type (wpAny_pure ⟨_, rfl, "dict_keyiterator", _, ⟨_, Heap.get?_push_size _ rfl, rfl⟩, F.slot_dict_keyiterator_next.lookup, ?_⟩))
    simpa [rawInt] using hR
theorem raw_next {R : Option Value → Shared → Prop} (ki : z.heap.IsKeyIter it a k rows.size age) (x : RawD z.heap a rows age) (hk : k < rows.size)
    (hR : ∀ h', h'.IsKeyIter it a (k + 1) rows.size age → Heap.SameBut it z.heap h' → R (some rows[k].key) { z with heap := h' }) : wpAny (model prog w) A (pyNext (.ref it)) R E z := by
  have ty := ki.typeIs
  obtain ⟨oi, gi, ci, di⟩ := id ki
  obtain ⟨ob, g, _, dat⟩ := x
  unfold pyNext
  refine wpAny_bind (wpAny_attempt (wpAny_callSpecial?_slot (name := Str.ofString "__next__") ty F.slot_dict_keyiterator_next (wpAny_call_entry F.slot_dict_keyiterator_next ty F.entry_dict_keyiterator_next ?walk (F.args_dict_keyiterator_next_1 _))))
  case walk =>
    refine wpAny_bind (wpAny_pure (wpAny_bind (wpAny_bind ?_)))
    first | refine wpAny_bind (wpAny_typeNameOfWhole_keyiter ty (wpAny_pure (wpAny_bind (wpAny_fieldsOf gi di ?_)))) | refine wpAny_bind (wpAny_typeNameOf_keyiter ty (wpAny_pure (wpAny_bind (wpAny_fieldsOf gi di ?_))))
    simp only [show Builtin.Dict_items.ownsTuple "dict_keyiterator" = false by decide, Bool.false_eq_true, if_false]
    show wpAny _ _ (if (Value.ref a == Value.none) = true then _ else _) _ _ z
    rw [if_neg (show ¬ ((Value.ref a == Value.none) = true) from Bool.false_ne_true)]
    refine wpAny_bind (wpAny_pure (wpAny_bind (wpAny_dictEntries g dat ?_)))
    rw [if_neg (by simp)]
    refine wpAny_bind (wpAny_pure (wpAny_bind (wpAny_dictEpoch g dat ?_)))
    rw [if_neg (by simp)]
    refine wpAny_pure ?_
    simp only [show ¬ ((k : Int) < 0) from by omega, if_false, Int.toNat_natCast, Array.getElem?_eq_getElem hk]
    refine wpAny_bind ?_
    first | refine wpAny_bind (wpAny_typeNameOfWhole_keyiter ty (wpAny_pure (wpAny_bind (wpAny_isOneOf_keyiter ty ?_)))) | refine wpAny_bind (wpAny_typeNameOf_keyiter ty (wpAny_pure (wpAny_bind (wpAny_isOneOf_keyiter ty ?_))))
    show wpAny _ _ (setField (.ref it) 1 (rawInt ((k : Int) + 1)) >>= _) _ _ z
    refine wpAny_bind (wpAny_setField gi di (by simp) ?_)
    have ki' : (z.heap.update it (Obj.mapFields (·.setIfInBounds 1 (rawInt ((k : Int) + 1))))).IsKeyIter it a (k + 1) rows.size age :=
      ⟨_, Heap.get?_update_self _ gi (Obj.isFreed_of_fields (Obj.data_mapFields di _)), (Obj.cls_mapFields ..).trans ci, by rw [Obj.data_mapFields di]; simp [rawInt]⟩
    refine wpAny_bind (wpAny_holding (wpAny_bind (wpAny_isOneOf_keyiter (s := { z with heap := z.heap.update it (Obj.mapFields (·.setIfInBounds 1 (rawInt ((k : Int) + 1)))) }) ki'.typeIs ?_)))
    show wpAny _ _ (pure rows[k].key) _ _ _
    exact wpAny_pure (wpAny_pure ⟨_, rfl, wpAny_pure (hR _ ki' (Heap.SameBut.update ..))⟩)
theorem raw_end {R : Option Value → Shared → Prop} (hh : A.handled = none) (ki : z.heap.IsKeyIter it a k rows.size age) (x : RawD z.heap a rows age) (hk : rows.size ≤ k)
    (hR : ∀ h', Heap.ExtBut it z.heap h' → R none { z with heap := h' }) : wpAny (model prog w) A (pyNext (.ref it)) R E z := by
  have ty := ki.typeIs
  obtain ⟨oi, gi, ci, di⟩ := id ki
  obtain ⟨ob, g, _, dat⟩ := x
  unfold pyNext
  refine wpAny_bind (wpAny_attempt (wpAny_callSpecial?_slot (name := Str.ofString "__next__") ty F.slot_dict_keyiterator_next (wpAny_call_entry F.slot_dict_keyiterator_next ty F.entry_dict_keyiterator_next ?walk (F.args_dict_keyiterator_next_1 _))))
  case walk =>
    refine wpAny_bind (wpAny_pure (wpAny_bind (wpAny_bind ?_)))
    first | refine wpAny_bind (wpAny_typeNameOfWhole_keyiter ty (wpAny_pure (wpAny_bind (wpAny_fieldsOf gi di ?_)))) | refine wpAny_bind (wpAny_typeNameOf_keyiter ty (wpAny_pure (wpAny_bind (wpAny_fieldsOf gi di ?_))))
    simp only [show Builtin.Dict_items.ownsTuple "dict_keyiterator" = false by decide, Bool.false_eq_true, if_false]
    show wpAny _ _ (if (Value.ref a == Value.none) = true then _ else _) _ _ z
    rw [if_neg (show ¬ ((Value.ref a == Value.none) = true) from Bool.false_ne_true)]
    refine wpAny_bind (wpAny_pure (wpAny_bind (wpAny_dictEntries g dat ?_)))
    rw [if_neg (by simp)]
    refine wpAny_bind (wpAny_pure (wpAny_bind (wpAny_dictEpoch g dat ?_)))
    rw [if_neg (by simp)]
    refine wpAny_pure ?_
    simp only [show ¬ ((k : Int) < 0) from by omega, if_false, Int.toNat_natCast, Array.getElem?_eq_none hk]
    refine wpAny_bind ?_
    first | refine wpAny_bind (wpAny_typeNameOfWhole_keyiter ty (wpAny_pure ?_)) | refine wpAny_bind (wpAny_typeNameOf_keyiter ty (wpAny_pure ?_))
    show wpAny _ _ (setField (.ref it) 0 .none >>= _) _ _ z
    refine wpAny_bind (wpAny_setField gi di (by simp) (show wpAny _ _ (newExc (.type "StopIteration") [] >>= _) _ _ _ from wpAny_bind ?_))
    simp only [newExc, newTuple]
    refine wpAny_bind (wpAny_newObj_type (wpAny_bind (m := firstArgMember _ _) (wpAny_of_eq (a := Value.none) (by first | rfl | (simp only [firstArgMember]; rfl)) (wpAny_newObj_type ?_ (by size_fits)))) (by size_fits))
    simp only [raiseNew]
    refine wpAny_bind (wpAny_handled ?_)
    rw [show A.in1.handled = none from hh]
    refine wpAny_bind (wpAny_pure (wpAny_throw ?_))
    refine wpAny_bind (wpAny_isInstance (T := "StopIteration") (b := true) ⟨_, Heap.get?_push_size _ rfl, rfl⟩ isSubtype_stop ?_)
    exact wpAny_pure (hR _ (((Heap.SameBut.update ..).extBut.push _).push _))
theorem raw_walks (hh : A.handled = none) (hne : a ≠ it) : Walks prog w A it [it, a] [it] rows.size (fun i v => ∃ h : i < rows.size, v = rows[i].key) (fun i h => h.IsKeyIter it a i rows.size age ∧ RawD h a rows age) where
  sub := fun b hb => by simp at hb; simp [hb]
  frame := fun _ _ _ st hk => ⟨st.1.at fun o e => hk it (by simp) o e, st.2.at fun o e => hk a (by simp) o e⟩
  item := fun i s Q E hi st hQ => raw_next st.1 st.2 hi fun h' ki' hs' =>
    hQ _ h' s.toks ⟨hi, rfl⟩ ⟨ki', st.2.at fun o e => hs'.extBut a o hne e⟩ fun b o hb e => hs'.extBut b o (fun h => hb (by simp [h])) e
  done := fun s Q E st hQ => raw_end hh st.1 st.2 (Nat.le_refl _) fun h' he' => hQ h' s.toks fun b o hb e => he' b o (fun h => hb (by simp [h])) e
  self := fun _ _ _ _ st hQ => wpAny_pyIter_keyiter st.1 hQ
theorem raw_src (hs : (a == sysModules) = false) : PySem.W.KdlSrc prog w "dict" a a rows.size (fun i v => ∃ h : i < rows.size, v = rows[i].key) (fun h => RawD h a rows age) where
  type := fun _ x => x.typeIs
  there := fun _ x => let ⟨_, g, _⟩ := x; ⟨Heap.lt_size g, Heap.lt_size g⟩
  keep := fun _ _ x hk => x.at fun o e => hk a (.inl rfl) o e
  notList := by decide
  notTuple := by decide
  hint := fun _ _ _ _ x hq => PySem.W.kdl_hint_dict x.typeIs hq
  iter := fun _ s hh x => ⟨_, _, (fun _ _ hq => raw_iter hs x hq), raw_walks hh (let ⟨_, g, _⟩ := x; Nat.ne_of_lt (Heap.lt_size g)), ⟨⟨_, Heap.get?_push_size _ rfl, rfl, rfl⟩, x.at fun o e => Heap.get?_push_of_some _ e⟩⟩
end
section
variable {X : Cx}
theorem call_list_dT (hc : X.calm = true) : CallR X (.type "list") (fun xs H Q => ∃ (d : Addr) (kvs : List (List Key × V)), xs = [.ref d] ∧ H d = some (.dT kvs) ∧
    ∀ (p : Addr) (ts : List (Addr × List Key)), H p = none → ts.map (·.2) = kvs.map (·.1) → (∀ t ∈ ts, H t.1 = some (.tup (t.2.map kV))) → Q (.ref p) (upd H p (.lst ((ts.map (·.1)).map V.ref)))) := by
  intro pins s σ H xs us Q I r h
  obtain ⟨d, kvs, rfl, hd, q⟩ := h
  obtain ⟨u, rfl, ru⟩ := Vals.one r
  cases ru
  obtain ⟨hz, hsm, ys, rel, ob, es, age, g, ex, dat, hes, hjunk⟩ := dt_of I.hok hd
  have hsz : es.size = ys.length := size_of_entries hes
  have hlen : kvs.length = ys.length := Paired.length rel
  refine PySem.W.kdl_call (raw_src (rows := es) (age := age) hsm) (show X.A.handled = none from I.ok.hd hc) ⟨ob, g, ex, dat⟩ (by rw [hsz, ← hlen]; exact hz) fun h' tk acc c keep at' its => ?_
  have eqs : acc.toList = ((ys.map fun y => (y.2.1, y.1)).map (·.1)).map Value.ref := by
    refine List.ext_getElem? fun j => ?_
    by_cases hj : j < ys.length
    · have ja : j < acc.size := by rw [its.1, hsz]; exact hj
      obtain ⟨hj', e⟩ := its.2 j acc[j] (by simp [ja])
      have ek := entry_at hes j
      rw [Array.getElem?_eq_getElem hj', List.getElem?_eq_getElem hj, Option.map_some] at ek
      have ev : es[j].key = Value.ref ys[j].2.1 := by rw [Option.some.inj ek]; rfl
      rw [Array.getElem?_toList, Array.getElem?_eq_getElem ja, e, ev, List.getElem?_map, List.getElem?_map, List.getElem?_map, List.getElem?_eq_getElem hj]
      rfl
    · rw [List.getElem?_eq_none (by rw [Array.length_toList, its.1, hsz]; omega), List.getElem?_eq_none (by simp; omega)]
  have props : (ys.map fun y => (y.2.1, y.1)).map (·.2) = kvs.map (·.1) ∧ ∀ t ∈ ys.map (fun y => (y.2.1, y.1)), H t.1 = some (.tup (t.2.map kV)) := by
    clear hes hsz hlen q eqs hd hz hjunk
    induction rel with
    | nil => exact ⟨rfl, fun t ht => nomatch ht⟩
    | @cons p y ps zs hp t ih =>
      refine ⟨by rw [List.map_cons, List.map_cons, List.map_cons, ih.1, hp.1], fun t' ht' => ?_⟩
      rcases List.mem_cons.mp ht' with e | ht'
      · subst e
        show H y.2.1 = some (.tup (y.1.map kV))
        rw [← hp.1]
        exact hp.2.1
      · exact ih.2 t' ht'
  have fr : H s.heap.objs.size = none := I.hok.fresh (Nat.le_refl _)
  refine ⟨.ref s.heap.objs.size, _, I.laid (t' := tk) (a := s.heap.objs.size) (o := .lst (((ys.map fun y => (y.2.1, y.1)).map (·.1)).map V.ref)) keep (Nat.le_refl _) ?_, rfl, q _ _ fr props.1 props.2⟩
  refine ⟨by rw [List.length_map, List.length_map, List.length_map, ← hlen]; exact hz, _, c, vals_refs _, ?_⟩
  rw [← eqs, Array.toArray_toList]
  exact at'
end
end L2

namespace Sea
open PySem L2
abbrev Sd := Addr × Int × Int × Int
abbrev sdRefs (ss : List Sd) : List V := (ss.map (·.1)).map V.ref
def SdOk (H : Hp) (ss : List Sd) : Prop := ∀ t ∈ ss, H t.1 = some (.tup [.int t.2.1, .int t.2.2.1, .int t.2.2.2]) ∧ (t.2.1 ≠ 0 ∨ t.2.2.1 ≠ 0) ∧ t.2.1.natAbs ≤ 10 ^ 9 ∧ t.2.2.1.natAbs ≤ 10 ^ 9 ∧ t.2.2.2.natAbs ≤ 10 ^ 13
theorem SdOk.same {H H' : Hp} {ss : List Sd} (h : SdOk H ss) (s : Same H H') : SdOk H' ss := fun t ht => ⟨s _ _ (h t ht).1, (h t ht).2⟩
theorem sdRefs_length (ss : List Sd) : (sdRefs ss).length = ss.length := by simp [sdRefs]
theorem sdRefs_get {ss : List Sd} {i : Nat} {v : V} (h : (sdRefs ss)[i]? = some v) : ∃ t, ss[i]? = some t ∧ v = .ref t.1 ∧ i < ss.length := by
  rw [List.getElem?_map, List.getElem?_map] at h
  cases e : ss[i]? with
  | none => rw [e] at h; cases h
  | some t => rw [e] at h; exact ⟨t, rfl, (Option.some.inj h).symm, (List.getElem?_eq_some_iff.mp e).1⟩
theorem sdRefs_at {ss : List Sd} {i : Nat} {k : Int} (e : k = i) (h : i < ss.length) : ∃ t, t ∈ ss ∧ ss[i]? = some t ∧ atI (sdRefs ss) k = some (.ref t.1) := by
  refine ⟨ss[i], List.getElem_mem h, List.getElem?_eq_getElem h, ?_⟩
  rw [e]
  exact atI_nat (by rw [List.getElem?_map, List.getElem?_map, List.getElem?_eq_getElem h] <;> rfl)
def wayB (ss : List Sd) (x y : Int) : Bool := ss.all fun t => decide (t.2.1 * x + t.2.2.1 * y ≤ 0)
def WK (ss : List Sd) (n : Nat) (k : List Int) : Prop := ∃ j t, j < n ∧ ss[j]? = some t ∧ ((k = lowL [-t.2.2.1, t.2.1] ∧ wayB ss (-t.2.2.1) t.2.1 = true) ∨ (k = lowL [t.2.2.1, -t.2.1] ∧ wayB ss t.2.2.1 (-t.2.1) = true))
theorem wayB_mul {ss : List Sd} {x y g : Int} (hg : 0 < g) : wayB ss (x * g) (y * g) = wayB ss x y := by
  unfold wayB
  congr 1
  funext t
  refine decide_eq_decide.mpr ?_
  have e : t.2.1 * (x * g) + t.2.2.1 * (y * g) = (t.2.1 * x + t.2.2.1 * y) * g := by rw [Int.add_mul, Int.mul_assoc, Int.mul_assoc]
  rw [e]
  constructor
  · intro h
    by_cases c : t.2.1 * x + t.2.2.1 * y ≤ 0
    · exact c
    · have := Int.mul_pos (show 0 < t.2.1 * x + t.2.2.1 * y by omega) hg
      omega
  · intro h
    have := Int.mul_nonneg (show 0 ≤ -(t.2.1 * x + t.2.2.1 * y) by omega) (Int.le_of_lt hg)
    rw [Int.neg_mul] at this
    omega
theorem way_low {ss : List Sd} {x y : Int} (gp : 0 < gcdL [x, y]) : wayB ss (x / (gcdL [x, y] : Int)) (y / (gcdL [x, y] : Int)) = wayB ss x y := by
  have gI : (0 : Int) < (gcdL [x, y] : Int) := by omega
  have e1 := lowL_mul (ns := [x, y]) (n := x) (by simp)
  have e2 := lowL_mul (ns := [x, y]) (n := y) (by simp)
  have z := wayB_mul (ss := ss) (x := x / (gcdL [x, y] : Int)) (y := y / (gcdL [x, y] : Int)) gI
  rw [e1, e2] at z
  exact z.symm
def keyI (ns : List Int) : List Key := ns.map Sum.inl
theorem keyI_kV (ns : List Int) : (keyI ns).map kV = ns.map V.int := by
  unfold keyI
  rw [List.map_map]
  rfl
theorem keyI_inj {a b : List Int} (h : keyI a = keyI b) : a = b := by
  have z := congrArg (List.map kV) h
  rw [keyI_kV, keyI_kV] at z
  exact mapInt_inj z
structure TabK (kvs : List (List Key × V)) (ks : List (List Int)) : Prop where
  keys : kvs.map (·.1) = ks.map keyI
  nodup : ks.Nodup
theorem TabK.nil : TabK [] [] := ⟨rfl, List.nodup_nil⟩
theorem TabK.put {kvs : List (List Key × V)} {ks : List (List Int)} (h : TabK kvs ks) (k : List Int) (v : V) : ∃ ks', TabK (putK kvs (keyI k) v) ks' ∧ (∀ x, x ∈ ks' ↔ x ∈ ks ∨ x = k) ∧ ks'.length ≤ ks.length + 1 := by
  have hm : ∀ kv ∈ kvs, ∃ x ∈ ks, kv.1 = keyI x := fun kv hkv => by
    have z : kv.1 ∈ ks.map keyI := by rw [← h.keys]; exact List.mem_map_of_mem hkv
    obtain ⟨x, hx, e⟩ := List.mem_map.mp z
    exact ⟨x, hx, e.symm⟩
  unfold putK
  by_cases c : (kvs.any fun kv => decide (kv.1 = keyI k)) = true
  · rw [if_pos c]
    obtain ⟨kv, hkv, e⟩ := List.any_eq_true.mp c
    obtain ⟨x, hx, ex⟩ := hm kv hkv
    have exk : x = k := keyI_inj (ex.symm.trans (of_decide_eq_true e))
    refine ⟨ks, ⟨?_, h.nodup⟩, fun y => ⟨.inl, fun z => z.elim id fun z => by rw [z, ← exk]; exact hx⟩, Nat.le_succ _⟩
    rw [List.map_map, ← h.keys]
    refine List.map_congr_left fun a _ => ?_
    show (if a.1 = keyI k then (a.1, v) else a).1 = a.1
    split <;> rfl
  · rw [if_neg c]
    have nk : k ∉ ks := fun hk => c (by
      have z : keyI k ∈ kvs.map (·.1) := by rw [h.keys]; exact List.mem_map_of_mem hk
      obtain ⟨kv, hkv, e⟩ := List.mem_map.mp z
      exact List.any_eq_true.mpr ⟨kv, hkv, decide_eq_true e⟩)
    refine ⟨ks ++ [k], ⟨by rw [List.map_append, List.map_append, h.keys]; rfl, ?_⟩, fun y => by rw [List.mem_append, List.mem_singleton], by rw [List.length_append]; exact Nat.le_refl _⟩
    rw [List.nodup_append]
    refine ⟨h.nodup, by simp, fun a ha b hb => ?_⟩
    rw [List.mem_singleton] at hb
    intro e
    exact nk (hb ▸ e ▸ ha)
theorem TabK.len {kvs : List (List Key × V)} {ks : List (List Int)} (h : TabK kvs ks) : kvs.length = ks.length := by
  have z := congrArg List.length h.keys
  rwa [List.length_map, List.length_map] at z
theorem TabK.refs {H : Hp} {kvs : List (List Key × V)} {ks : List (List Int)} {ts : List (Addr × List Key)} (h : TabK kvs ks) (e : ts.map (·.2) = kvs.map (·.1)) (ht : ∀ t ∈ ts, H t.1 = some (.tup (t.2.map kV))) :
    ∃ us : List (Addr × List Int), us.map (·.1) = ts.map (·.1) ∧ us.map (·.2) = ks ∧ ∀ u ∈ us, H u.1 = some (.tup (u.2.map V.int)) := by
  rw [h.keys] at e
  clear h
  induction ts generalizing ks with
  | nil =>
    cases ks with
    | nil => exact ⟨[], rfl, rfl, fun u hu => nomatch hu⟩
    | cons k ks => exact absurd e (by simp)
  | cons t ts ih =>
    cases ks with
    | nil => exact absurd e (by simp)
    | cons k ks =>
      rw [List.map_cons, List.map_cons] at e
      injection e with e1 e2
      obtain ⟨us, h1, h2, h3⟩ := ih e2 fun t' ht' => ht t' (List.mem_cons_of_mem _ ht')
      refine ⟨(t.1, k) :: us, by rw [List.map_cons, List.map_cons, h1], by rw [List.map_cons, h2], fun u hu => ?_⟩
      rcases List.mem_cons.mp hu with rfl | hu
      · have z := ht t (List.mem_cons_self ..)
        rw [e1, keyI_kV] at z
        exact z
      · exact h3 u hu
structure WaysAt (H : Hp) (l : Addr) (ss : List Sd) (us : List (Addr × List Int)) : Prop where
  at' : H l = some (.lst ((us.map (·.1)).map V.ref))
  all : ∀ u ∈ us, H u.1 = some (.tup (u.2.map V.int))
  rises : (us.map (·.2)).Pairwise (fun a b => HT.lexLt b a = false)
  nodup : (us.map (·.2)).Nodup
  mem : ∀ k, k ∈ us.map (·.2) ↔ WK ss ss.length k
  few : us.length ≤ 80
structure SdSt (H0 : Hp) (D : Addr) (ss : List Sd) (H : Hp) : Prop where
  same : Same H0 H
  new : H0 D = none
  at' : H D = some (.lst (sdRefs ss))
  all : SdOk H ss
end Sea

namespace Sea
open PySem L2
theorem cm_l {i j : Int} (h : i.natAbs ≤ 10 ^ 18) : CMul i j := .inl ⟨by omega, by omega⟩
abbrev P3 := Int × Int × Int
abbrev spRefs (qs : List (Addr × P3)) : List V := (qs.map (·.1)).map V.ref
def SpsOk (H : Hp) (qs : List (Addr × P3)) : Prop := ∀ t ∈ qs, H t.1 = some (.tup [.int t.2.1, .int t.2.2.1, .int t.2.2.2]) ∧ 0 < t.2.2.2 ∧ Nat.gcd (Nat.gcd t.2.1.natAbs t.2.2.1.natAbs) t.2.2.2.natAbs = 1
theorem SpsOk.same {H H' : Hp} {qs : List (Addr × P3)} (h : SpsOk H qs) (s : Same H H') : SpsOk H' qs := fun t ht => ⟨s _ _ (h t ht).1, (h t ht).2⟩
def sv (t p : P3) : Int := t.1 * p.1 + t.2.1 * p.2.1 - t.2.2 * p.2.2
def tn (e s : P3) : Int := e.1 * s.2.1 - e.2.1 * s.1
def dl (e p q : P3) : Int := e.1 * (p.2.1 * q.2.2 - q.2.1 * p.2.2) - e.2.1 * (p.1 * q.2.2 - q.1 * p.2.2)
theorem key_id (a b u v X Y : Int) : (a * a + b * b) * (u * X + v * Y) = (a * Y - b * X) * (a * v - b * u) + (a * X + b * Y) * (a * u + b * v) := by
  simp only [Int.mul_sub, Int.sub_mul, Int.mul_add, Int.add_mul, Int.mul_comm, Int.mul_left_comm]
  omega
theorem sv_diff (s p q : P3) : sv s p * q.2.2 - sv s q * p.2.2 = s.1 * (p.1 * q.2.2 - q.1 * p.2.2) + s.2.1 * (p.2.1 * q.2.2 - q.2.1 * p.2.2) := by
  unfold sv
  simp only [Int.mul_sub, Int.sub_mul, Int.add_mul, Int.mul_add, Int.mul_comm, Int.mul_left_comm]
  omega
theorem key_sv {e p q : P3} (hp : sv e p = 0) (hq : sv e q = 0) (s : P3) : (e.1 * e.1 + e.2.1 * e.2.1) * (sv s p * q.2.2 - sv s q * p.2.2) = dl e p q * tn e s := by
  have z := sv_diff e p q
  rw [hp, hq, Int.zero_mul, Int.zero_mul, Int.sub_self] at z
  rw [sv_diff s p q, key_id, ← z, Int.zero_mul, Int.add_zero]
  rfl
theorem sq_hand {x y h : Int} (hh : h * h = 1) : (x * h) * (y * h) = x * y := by
  have e : (x * h) * (y * h) = x * y * (h * h) := by simp only [Int.mul_comm, Int.mul_left_comm]
  rw [e, hh, Int.mul_one]
theorem sv_on {e p q : P3} {h : Int} (hh : h * h = 1) (hN : 0 < e.1 * e.1 + e.2.1 * e.2.1) (hp : sv e p = 0) (hq : sv e q = 0) (pw : 0 < p.2.2) (qw : 0 < q.2.2) (s : P3) (hs : (dl e p q * h) * (tn e s * h) ≤ 0) (hv : sv s q ≤ 0) : sv s p ≤ 0 := by
  have k := key_sv hp hq s
  rw [← sq_hand (x := dl e p q) (y := tn e s) hh] at k
  rw [← k] at hs
  have h1 : sv s p * q.2.2 - sv s q * p.2.2 ≤ 0 := by
    by_cases c : sv s p * q.2.2 - sv s q * p.2.2 ≤ 0
    · exact c
    · have := Int.mul_pos hN (show 0 < sv s p * q.2.2 - sv s q * p.2.2 by omega)
      omega
  have h2 : sv s q * p.2.2 ≤ 0 := by
    have := Int.mul_nonneg (show 0 ≤ -sv s q by omega) (Int.le_of_lt pw)
    rw [Int.neg_mul] at this
    omega
  by_cases c : sv s p ≤ 0
  · exact c
  · have := Int.mul_pos (show 0 < sv s p by omega) qw
    omega
theorem dl_ge {e p q s : P3} {h : Int} (hh : h * h = 1) (hN : 0 < e.1 * e.1 + e.2.1 * e.2.1) (hp : sv e p = 0) (hq : sv e q = 0) (pw : 0 < p.2.2) (h0 : sv s p = 0) (hv : sv s q ≤ 0) (ht : 0 < tn e s * h) : 0 ≤ dl e p q * h := by
  have k := key_sv hp hq s
  rw [h0, Int.zero_mul, ← sq_hand (x := dl e p q) (y := tn e s) hh] at k
  have h2 : 0 ≤ -sv s q * p.2.2 := Int.mul_nonneg (by omega) (Int.le_of_lt pw)
  rw [Int.neg_mul] at h2
  have h3 := Int.mul_nonneg (Int.le_of_lt hN) (show 0 ≤ 0 - sv s q * p.2.2 by omega)
  rw [k] at h3
  by_cases c : 0 ≤ dl e p q * h
  · exact c
  · have := Int.mul_pos (show 0 < -(dl e p q * h) by omega) ht
    rw [Int.neg_mul] at this
    omega
theorem dl_le {e p q s : P3} {h : Int} (hh : h * h = 1) (hN : 0 < e.1 * e.1 + e.2.1 * e.2.1) (hp : sv e p = 0) (hq : sv e q = 0) (pw : 0 < p.2.2) (h0 : sv s p = 0) (hv : 0 < sv s q) (ht : 0 < tn e s * h) : dl e p q * h ≤ 0 := by
  have k := key_sv hp hq s
  rw [h0, Int.zero_mul, ← sq_hand (x := dl e p q) (y := tn e s) hh] at k
  have h2 := Int.mul_pos hv pw
  have h3 := Int.mul_nonneg (Int.le_of_lt hN) (show 0 ≤ sv s q * p.2.2 by omega)
  have h4 : (e.1 * e.1 + e.2.1 * e.2.1) * (0 - sv s q * p.2.2) = -((e.1 * e.1 + e.2.1 * e.2.1) * (sv s q * p.2.2)) := by rw [Int.zero_sub, Int.mul_neg]
  rw [h4] at k
  by_cases c : dl e p q * h ≤ 0
  · exact c
  · have := Int.mul_pos (show 0 < dl e p q * h by omega) ht
    omega
def pt3 (l : List Int) : P3 := match l with
  | [x, y, w] => (x, y, w)
  | _ => (0, 0, 1)
def crL (e s : P3) : List Int := lowL (upL (e.2.2 * s.2.1 - e.2.1 * s.2.2) (e.1 * s.2.2 - e.2.2 * s.1) (e.1 * s.2.1 - e.2.1 * s.1))
def ftL (t : P3) : List Int := lowL (upL (t.1 * t.2.2) (t.2.1 * t.2.2) (t.1 * t.1 + t.2.1 * t.2.1))
structure IsSpot (l : List Int) (p : P3) : Prop where
  list : l = [p.1, p.2.1, p.2.2]
  pos : 0 < p.2.2
  low : Nat.gcd (Nat.gcd p.1.natAbs p.2.1.natAbs) p.2.2.natAbs = 1
theorem cr_ok {e s : P3} (h : tn e s ≠ 0) : IsSpot (crL e s) (pt3 (crL e s)) ∧ sv e (pt3 (crL e s)) = 0 ∧ sv s (pt3 (crL e s)) = 0 := by
  obtain ⟨x, y, w, el, sp⟩ := spot_low (X := e.2.2 * s.2.1 - e.2.1 * s.2.2) (Y := e.1 * s.2.2 - e.2.2 * s.1) (W := e.1 * s.2.1 - e.2.1 * s.1) h
  have e1 : crL e s = [x, y, w] := el
  rw [e1]
  refine ⟨⟨rfl, by have := sp.pos; show 0 < w; omega, sp.low⟩, ?_, ?_⟩
  · have z := cross_on (A := e.1) (B := e.2.1) (C := e.2.2) h sp (cross_one e.1 e.2.1 e.2.2 s.1 s.2.1 s.2.2)
    show e.1 * x + e.2.1 * y - e.2.2 * w = 0
    omega
  · have z := cross_on (A := s.1) (B := s.2.1) (C := s.2.2) h sp (cross_two e.1 e.2.1 e.2.2 s.1 s.2.1 s.2.2)
    show s.1 * x + s.2.1 * y - s.2.2 * w = 0
    omega
theorem nn_pos {t : P3} (h : t.1 ≠ 0 ∨ t.2.1 ≠ 0) : 0 < t.1 * t.1 + t.2.1 * t.2.1 := sq_pos h
theorem ft_ok {t : P3} (h : t.1 ≠ 0 ∨ t.2.1 ≠ 0) : IsSpot (ftL t) (pt3 (ftL t)) ∧ sv t (pt3 (ftL t)) = 0 := by
  have hw := nn_pos h
  obtain ⟨x, y, w, el, sp⟩ := spot_low (X := t.1 * t.2.2) (Y := t.2.1 * t.2.2) (W := t.1 * t.1 + t.2.1 * t.2.1) (by omega)
  have e1 : ftL t = [x, y, w] := el
  rw [e1]
  refine ⟨⟨rfl, by have := sp.pos; show 0 < w; omega, sp.low⟩, ?_⟩
  have z := cross_on (A := t.1) (B := t.2.1) (C := t.2.2) (show t.1 * t.1 + t.2.1 * t.2.1 ≠ 0 by omega) sp (by simp only [Int.mul_add, Int.mul_comm, Int.mul_left_comm])
  show t.1 * x + t.2.1 * y - t.2.2 * w = 0
  omega
def inW (ss : List Sd) (p : P3) : Prop := ∀ t ∈ ss, sv t.2 p ≤ 0
def EndOk (ss : List Sd) (e : P3) (h : Int) : Option Nat → Prop
  | none => ∀ t ∈ ss, tn e t.2 * h ≤ 0
  | some j => ∃ t, ss[j]? = some t ∧ 0 < tn e t.2 * h ∧ ∀ u ∈ ss, 0 < tn e u.2 * h → sv u.2 (pt3 (crL e t.2)) ≤ 0
theorem ne_hand {x h : Int} (h0 : 0 < x * h) : x ≠ 0 := fun z => by rw [z, Int.zero_mul] at h0; exact absurd h0 (by decide)
theorem end_in {ss : List Sd} {e z : P3} {h : Int} {j : Nat} {t : Sd} (hh : h * h = 1) (hN : 0 < e.1 * e.1 + e.2.1 * e.2.1) (hz : sv e z = 0) (zw : 0 < z.2.2) (wz : inW ss z) (gt : ss[j]? = some t) (h0 : 0 < tn e t.2 * h) (ha : ∀ u ∈ ss, 0 < tn e u.2 * h → sv u.2 (pt3 (crL e t.2)) ≤ 0) : inW ss (pt3 (crL e t.2)) := fun u hu => by
  obtain ⟨sp, c1, c2⟩ := cr_ok (ne_hand h0)
  by_cases hp : 0 < tn e u.2 * h
  · exact ha u hu hp
  · have d0 := dl_ge hh hN c1 hz sp.pos c2 (wz t (List.mem_of_getElem? gt)) h0
    refine sv_on hh hN c1 hz sp.pos zw u.2 ?_ (wz u hu)
    have := Int.mul_nonneg d0 (show 0 ≤ -(tn e u.2 * h) by omega)
    rw [Int.mul_neg] at this
    omega
theorem beside_in {ss : List Sd} {e z p : P3} (hN : 0 < e.1 * e.1 + e.2.1 * e.2.1) (hz : sv e z = 0) (zw : 0 < z.2.2) (wz : inW ss z) (hp : sv e p = 0) (pw : 0 < p.2.2) (n1 : EndOk ss e 1 none) (n2 : EndOk ss e (-1) none) : inW ss p := fun u hu => by
  have e1 := n1 u hu
  have e2 := n2 u hu
  rw [Int.mul_one] at e1
  have e0 : tn e u.2 = 0 := by
    rw [Int.mul_neg, Int.mul_one] at e2
    omega
  refine sv_on (h := 1) (by decide) hN hp hz pw zw u.2 ?_ (wz u hu)
  rw [e0, Int.zero_mul, Int.mul_zero]
  exact Int.le_refl _
theorem sv_comb (t p z : P3) (b a : Int) : sv t (b * p.1 + a * z.1, b * p.2.1 + a * z.2.1, b * p.2.2 + a * z.2.2) = b * sv t p + a * sv t z := by
  unfold sv
  simp only [Int.mul_sub, Int.mul_add, Int.mul_comm, Int.mul_left_comm]
  omega
theorem between {ss : List Sd} {e p z : P3} (wp : inW ss p) (wz : inW ss z) (pw : 0 < p.2.2) (zw : 0 < z.2.2) (hp : 0 < sv e p) (hz : sv e z ≤ 0) : ∃ m : P3, sv e m = 0 ∧ 0 < m.2.2 ∧ inW ss m := by
  refine ⟨(-sv e z * p.1 + sv e p * z.1, -sv e z * p.2.1 + sv e p * z.2.1, -sv e z * p.2.2 + sv e p * z.2.2), ?_, ?_, fun t ht => ?_⟩
  · rw [sv_comb, Int.neg_mul, Int.mul_comm (sv e p)]
    omega
  · have h1 := Int.mul_nonneg (show 0 ≤ -sv e z by omega) (Int.le_of_lt pw)
    have h2 := Int.mul_pos hp zw
    show 0 < -sv e z * p.2.2 + sv e p * z.2.2
    omega
  · rw [sv_comb]
    have h1 := Int.mul_nonneg (show 0 ≤ -sv e z by omega) (show 0 ≤ -sv t.2 p by have := wp t ht; omega)
    have h2 := Int.mul_nonneg (Int.le_of_lt hp) (show 0 ≤ -sv t.2 z by have := wz t ht; omega)
    rw [Int.mul_neg] at h1 h2
    omega
end Sea

namespace L2
open PySem PySem.Spec PyProof.Rows
section
variable {X : Cx} {pos : Pos}
def tPar3 (i j k : Nat) (ta : TA) : TS := fun D σ H => ta σ H fun vs H1 => ∃ u v w, vs = [u, v, w] ∧ D.nx (((σ.set i (some u)).set j (some v)).set k (some w)) H1
theorem ps_par3 {i j k : Nat} {x y z : Str} {a b c : Expr} {ta : TA} {px py pz pt : Pos} {kt k2 pt2} (hc : X.calm = true) (hN : X.N.Nodup) (hi : X.N[i]? = some x) (hj : X.N[j]? = some y) (hk : X.N[k]? = some z) (hij : i ≠ j) (hik : i ≠ k) (hjk : j ≠ k)
    (hx : X.env.scope.names.lookup x = some .local) (hy : X.env.scope.names.lookup y = some .local) (hz : X.env.scope.names.lookup z = some .local) (ha : PA X [a, b, c] ta)
    (hw : swappedStores [.Tuple [.Name x px, .Name y py, .Name z pz] kt pt] (.Tuple [a, b, c] k2 pt2) X.env = pure (some [x, y, z]))
    (hs : swapsWithSole [.Tuple [.Name x px, .Name y py, .Name z pz] kt pt] (.Tuple [a, b, c] k2 pt2) pos.line X.env = pure false := by rfl) :
    PS X (.Assign [.Tuple [.Name x px, .Name y py, .Name z pz] kt pt] (.Tuple [a, b, c] k2 pt2) pos) (tPar3 i j k ta) := by
  intro pins s σ H D I h
  rw [exec_Assign_arm]
  refine wpAny_bind (wpAny_standAt ?_)
  rw [hs]
  refine wpAny_bind (wpAny_pure ?_)
  rw [if_neg (by decide)]
  refine wpAny_bind (Tuple_ (thn (ha _ pins s σ H _ I h) fun us s1 ⟨vs, H1, I1, r1, q1⟩ => ?_))
  obtain ⟨u, v, t, e1, q1⟩ := q1
  subst e1
  obtain ⟨u1, u2, u3, rfl, ru, rv, rt⟩ : ∃ u1 u2 u3, us = [u1, u2, u3] ∧ RelV u u1 ∧ RelV v u2 ∧ RelV t u3 := by
    cases r1 with
    | cons p q =>
      cases q with
      | cons p' q' =>
        cases q' with
        | cons p'' q'' =>
          cases q''
          exact ⟨_, _, _, rfl, p, p', p''⟩
  refine wpAny_newObj_type ?_ (by show 3 ≤ sizeLine; decide)
  have I2 : Inv X pins σ H1 { s1 with heap := s1.heap.push { cls := .type "tuple", data := .seq [u1, u2, u3].toArray } } := I1.kept (t' := s1.toks) fun b o e => Heap.get?_push_of_some _ e
  rw [hw]
  refine wpAny_bind (wpAny_pure ?_)
  show wpAny (model X.prog X.w) X.A (do rule "assign.swapped-stores"; let items ← unpackItems (.ref s1.heap.objs.size) 3 none; assignInOrder [fun v => bindName X.env z v, fun v => bindName X.env y v, fun v => bindName X.env x v] items.reverse; pure Flow.next) _ _ _
  refine wpAny_bind (wpAny_rule (wpAny_bind (unpackItems_tuple (items := #[u1, u2, u3]) (I.ok.hd hc) (IsTup.new s1.heap _) fun h' hx' => ?_)))
  have I3 := I2.kept (h' := h') (t' := s1.toks) fun b o e => hx' b o (Nat.ne_of_lt (Heap.lt_size e)) e
  show wpAny _ _ (assignInOrder [fun v => bindName X.env z v, fun v => bindName X.env y v, fun v => bindName X.env x v] [u3, u2, u1] >>= fun _ => pure Flow.next) _ _ _
  refine wpAny_bind (assignInOrder_cons (wpAny_bindName (store_ok I3 hN hk (.inl hz) rt (fun s2 I4 => ?_) (.inr hz))))
  refine assignInOrder_cons (wpAny_bindName (store_ok I4 hN hj (.inl hy) rv (fun s3 I5 => ?_) (.inr hy)))
  refine assignInOrder_cons (wpAny_bindName (store_ok I5 hN hi (.inl hx) ru (fun s4 I6 => assignInOrder_nil (wpAny_pure ?_)) (.inr hx)))
  rw [List.set_comm (some t) (some v) (Ne.symm hjk), List.set_comm (some t) (some u) (Ne.symm hik), List.set_comm (some v) (some u) (Ne.symm hij)] at I6
  exact ⟨_, H1, I6, q1⟩
end
end L2
namespace Sea
open PySem L2
theorem sd_from (ss : List Sd) (n : Nat) : cutV (sdRefs ss) (some (n : Int)) none = sdRefs (ss.drop n) := by
  unfold cutV
  rw [HT.sIx_nat (sdRefs ss).length 0 n, show HT.sIx (sdRefs ss).length (sdRefs ss).length none = (sdRefs ss).length from rfl, List.take_of_length_le (by rw [List.length_drop] <;> omega)]
  rw [sdRefs_length]
  simp only [sdRefs, ← List.map_drop]
  congr 2
  by_cases h : n ≤ ss.length
  · rw [Nat.min_eq_left h]
  · rw [Nat.min_eq_right (by omega), List.drop_length, List.drop_eq_nil_of_le (by omega)]
theorem sdRefs_map (ss : List Sd) : sdRefs ss = ss.map fun t => V.ref t.1 := by simp [sdRefs]
theorem cr_swap {e s : P3} (h : tn e s ≠ 0) : crL e s = crL s e := by
  unfold crL
  have e1 : s.2.2 * e.2.1 - s.2.1 * e.2.2 = -(e.2.2 * s.2.1 - e.2.1 * s.2.2) := by rw [Int.mul_comm s.2.2, Int.mul_comm s.2.1]; omega
  have e2 : s.1 * e.2.2 - s.2.2 * e.1 = -(e.1 * s.2.2 - e.2.2 * s.1) := by rw [Int.mul_comm s.1, Int.mul_comm s.2.2]; omega
  have e3 : s.1 * e.2.1 - s.2.1 * e.1 = -(e.1 * s.2.1 - e.2.1 * s.1) := by rw [Int.mul_comm s.1, Int.mul_comm s.2.1]; omega
  rw [e1, e2, e3, upL_neg (show e.1 * s.2.1 - e.2.1 * s.1 ≠ 0 from h)]
end Sea

namespace Sea
open PySem L2
def Cor (ss : List Sd) (P : P3) : Prop := ∃ t ∈ ss, ∃ u ∈ ss, tn t.2 u.2 ≠ 0 ∧ P = pt3 (crL t.2 u.2) ∧ inW ss P
theorem cr_small {e s : P3} (h : tn e s ≠ 0) (b1 : e.1.natAbs ≤ 10 ^ 9) (b2 : e.2.1.natAbs ≤ 10 ^ 9) (b3 : e.2.2.natAbs ≤ 10 ^ 13) (c1 : s.1.natAbs ≤ 10 ^ 9) (c2 : s.2.1.natAbs ≤ 10 ^ 9) (c3 : s.2.2.natAbs ≤ 10 ^ 13) :
    (pt3 (crL e s)).1.natAbs ≤ 10 ^ 40 ∧ (pt3 (crL e s)).2.1.natAbs ≤ 10 ^ 40 ∧ (pt3 (crL e s)).2.2.natAbs ≤ 10 ^ 40 := by
  obtain ⟨x, y, w, el, sp⟩ := spot_low (X := e.2.2 * s.2.1 - e.2.1 * s.2.2) (Y := e.1 * s.2.2 - e.2.2 * s.1) (W := e.1 * s.2.1 - e.2.1 * s.1) h
  have e1 : crL e s = [x, y, w] := el
  rw [e1]
  have z1 := natAbs_mul_le e.2.2 s.2.1 b3 c2
  have z2 := natAbs_mul_le e.2.1 s.2.2 b2 c3
  have z3 := natAbs_mul_le e.1 s.2.2 b1 c3
  have z4 := natAbs_mul_le e.2.2 s.1 b3 c1
  have z5 := natAbs_mul_le e.1 s.2.1 b1 c2
  have z6 := natAbs_mul_le e.2.1 s.1 b2 c1
  have x1 := sp.xle
  have x2 := sp.yle
  have x3 := sp.wle
  refine ⟨?_, ?_, ?_⟩
  · show x.natAbs ≤ 10 ^ 40
    omega
  · show y.natAbs ≤ 10 ^ 40
    omega
  · show w.natAbs ≤ 10 ^ 40
    omega
end Sea

namespace Sea
open PySem L2
structure Stuck (ss : List Sd) (j : Nat) (e : Sd) (P : P3) : Prop where
  at' : ss[j]? = some e
  pos : 0 < P.2.2
  ahead : inW (ss.take j) P
  out : 0 < sv e.2 P
  no : ∀ z : P3, sv e.2 z = 0 → 0 < z.2.2 → ¬ inW (ss.take j) z
def Cand (ss : List Sd) (P : P3) : Prop := P = (0, 0, 1) ∨ (∃ t ∈ ss, P = pt3 (ftL t.2)) ∨ ∃ t ∈ ss, ∃ u ∈ ss, tn t.2 u.2 ≠ 0 ∧ P = pt3 (crL t.2 u.2)
theorem exists_end {e : P3} {h : Int} (hh : h * h = 1) (hN : 0 < e.1 * e.1 + e.2.1 * e.2.1) : ∀ ss : List Sd, (∀ t ∈ ss, tn e t.2 * h ≤ 0) ∨ ∃ t ∈ ss, 0 < tn e t.2 * h ∧ ∀ u ∈ ss, 0 < tn e u.2 * h → sv u.2 (pt3 (crL e t.2)) ≤ 0
  | [] => .inl fun _ h => nomatch h
  | s :: ss => by
    by_cases hs : 0 < tn e s.2 * h
    · obtain ⟨sp1, r1, r2⟩ := cr_ok (ne_hand hs)
      rcases exists_end hh hN ss with n | ⟨t, mt, ht, a⟩
      · refine .inr ⟨s, List.mem_cons_self .., hs, fun u hu hp => ?_⟩
        rcases List.mem_cons.mp hu with rfl | hu
        · exact Int.le_of_eq r2
        · have := n u hu
          omega
      · obtain ⟨sp0, q1, q2⟩ := cr_ok (ne_hand ht)
        by_cases hin : sv s.2 (pt3 (crL e t.2)) ≤ 0
        · refine .inr ⟨t, List.mem_cons_of_mem _ mt, ht, fun u hu hp => ?_⟩
          rcases List.mem_cons.mp hu with rfl | hu
          · exact hin
          · exact a u hu hp
        · have d1 := dl_le hh hN r1 q1 sp1.pos r2 (show 0 < sv s.2 (pt3 (crL e t.2)) by omega) hs
          refine .inr ⟨s, List.mem_cons_self .., hs, fun u hu hp => ?_⟩
          rcases List.mem_cons.mp hu with rfl | hu
          · exact Int.le_of_eq r2
          · refine sv_on hh hN r1 q1 sp1.pos sp0.pos u.2 ?_ (a u hu hp)
            have := Int.mul_nonneg (show 0 ≤ -(dl e (pt3 (crL e s.2)) (pt3 (crL e t.2)) * h) by omega) (Int.le_of_lt hp)
            rw [Int.neg_mul] at this
            omega
    · rcases exists_end hh hN ss with n | ⟨t, mt, ht, a⟩
      · refine .inl fun u hu => ?_
        rcases List.mem_cons.mp hu with rfl | hu
        · omega
        · exact n u hu
      · refine .inr ⟨t, List.mem_cons_of_mem _ mt, ht, fun u hu hp => ?_⟩
        rcases List.mem_cons.mp hu with rfl | hu
        · exact absurd hp hs
        · exact a u hu hp
theorem on_edge_cand {ss : List Sd} {e : P3} (he : e.1 ≠ 0 ∨ e.2.1 ≠ 0) {m : P3} (hm : sv e m = 0) (mw : 0 < m.2.2) (wm : inW ss m) : ∃ P : P3, 0 < P.2.2 ∧ inW ss P ∧ sv e P = 0 ∧ (P = pt3 (ftL e) ∨ ∃ t ∈ ss, tn e t.2 ≠ 0 ∧ P = pt3 (crL e t.2)) := by
  have hN := nn_pos he
  obtain ⟨sf, f1⟩ := ft_ok he
  have one : ∀ h : Int, h * h = 1 → (∀ t ∈ ss, tn e t.2 * h ≤ 0) ∨ ∃ P : P3, 0 < P.2.2 ∧ inW ss P ∧ sv e P = 0 ∧ (P = pt3 (ftL e) ∨ ∃ t ∈ ss, tn e t.2 ≠ 0 ∧ P = pt3 (crL e t.2)) := fun h hh => by
    rcases exists_end hh hN ss with n | ⟨t, mt, ht, a⟩
    · exact .inl n
    · obtain ⟨sp, c1, c2⟩ := cr_ok (ne_hand ht)
      obtain ⟨j, gj⟩ := List.getElem?_of_mem mt
      exact .inr ⟨pt3 (crL e t.2), sp.pos, end_in hh hN hm mw wm gj ht a, c1, .inr ⟨t, mt, ne_hand ht, rfl⟩⟩
  rcases one 1 (by decide) with n1 | r
  · rcases one (-1) (by decide) with n2 | r
    · exact ⟨pt3 (ftL e), sf.pos, beside_in hN hm mw wm f1 sf.pos n1 n2, f1, .inl rfl⟩
    · exact r
  · exact r
theorem Cand.cons {ss : List Sd} {P : P3} (s : Sd) (h : Cand ss P) : Cand (s :: ss) P := by
  rcases h with h | ⟨t, ht, h⟩ | ⟨t, ht, u, hu, h⟩
  · exact .inl h
  · exact .inr (.inl ⟨t, List.mem_cons_of_mem _ ht, h⟩)
  · exact .inr (.inr ⟨t, List.mem_cons_of_mem _ ht, u, List.mem_cons_of_mem _ hu, h⟩)
theorem cand_of : ∀ {ss : List Sd}, (∀ t ∈ ss, t.2.1 ≠ 0 ∨ t.2.2.1 ≠ 0) → ∀ z : P3, 0 < z.2.2 → inW ss z → ∃ P : P3, Cand ss P ∧ 0 < P.2.2 ∧ inW ss P
  | [], _, _, _, _ => ⟨(0, 0, 1), .inl rfl, by decide, fun _ h => nomatch h⟩
  | s :: ss, hn, z, zw, wz => by
    obtain ⟨P, cP, pw, wP⟩ := cand_of (fun t ht => hn t (List.mem_cons_of_mem _ ht)) z zw fun t ht => wz t (List.mem_cons_of_mem _ ht)
    by_cases hin : sv s.2 P ≤ 0
    · refine ⟨P, cP.cons s, pw, fun t ht => ?_⟩
      rcases List.mem_cons.mp ht with rfl | ht
      · exact hin
      · exact wP t ht
    · obtain ⟨m, m1, m2, m3⟩ := between wP (fun t ht => wz t (List.mem_cons_of_mem _ ht)) pw zw (show 0 < sv s.2 P by omega) (wz s (List.mem_cons_self ..))
      obtain ⟨R, rw', wR, oR, cR⟩ := on_edge_cand (hn s (List.mem_cons_self ..)) m1 m2 m3
      refine ⟨R, ?_, rw', fun t ht => ?_⟩
      · rcases cR with h | ⟨t, ht, h1, h2⟩
        · exact .inr (.inl ⟨s, List.mem_cons_self .., h⟩)
        · exact .inr (.inr ⟨s, List.mem_cons_self .., t, List.mem_cons_of_mem _ ht, h1, h2⟩)
      · rcases List.mem_cons.mp ht with rfl | ht
        · exact Int.le_of_eq oR
        · exact wR t ht
end Sea

namespace L2
open PySem PySem.Spec PyProof.Rows PySem.W
section
variable {X : Cx}
end
end L2

namespace L2
open PySem PySem.Spec PyProof.Rows

def ownCell (scope : Scope) (x : Str) : Bool := scope.names.any fun y => y.1 == x && y.2 == .cell
structure OwnScope (X : Cx) (caps : List (Str × Nat)) (scope : Scope) : Prop where
  kind : scope.kind = .function
  dis : (scope.names.all fun x => !(x.2 == .free) || !ownCell scope x.1) = true
  loc : ∀ y ∈ scope.names, y.2 = .local → scope.names.lookup y.1 = some .local
  clos : (scope.names.all fun x => !(x.2 == .free) || (X.env.cells.lookup x.1).isSome) = true
  cap : CapsOk X scope caps
section
variable {X : Cx} {T : List Str} {caps : List (Str × Nat)} {scope : Scope} {elt target iter : Expr} {ifs : List Expr} {pos cpos : Pos} {wi : TI} {g : CC → TG} {tt : CC → TT} {te : CC → TE}

def rEqE (K : PySem.W.Frag) : R2 := fun x y H Q => ∃ (a b : Addr) (rs : List Addr), x = .ref a ∧ y = .ref b ∧ SqL K H a (rs.map V.ref) ∧ SqL K H b [] ∧ Q (.bl rs.isEmpty) H
theorem op_eqE (hu : X.A.units < cLine) : OpR X (compareOp .Eq) (rEqE X.K) := by
  intro pins s σ H x y v u Q I rx ry h
  obtain ⟨a, b, rs, rfl, rfl, h1, h2, q⟩ := h
  cases rx
  cases ry
  obtain ⟨us, r1, p1, _⟩ := I.list h1
  obtain ⟨ws, r2, p2, _⟩ := I.list h2
  have e1 := refs_of r1
  have e2 := Vals.zero r2
  subst e1 e2
  cases rs with
  | nil =>
    refine SeqAt.RcAt.lists (e := fun _ => true) p1.isList p2.isList rfl hu (fun j g _ => absurd g (by simp)) X.prog X.w _ _ ?_
    exact ⟨.bl true, H, I, rfl, q⟩
  | cons r rs =>
    refine SeqAt.RcAt.lists_lengths p1.isList p2.isList (by simp) hu X.prog X.w _ _ ?_
    exact ⟨.bl false, H, I, rfl, q⟩
end
end L2

namespace L2
open PySem PySem.Spec PyProof.Rows
section
variable {prog : Program} {w : World} {A : Around} {E : Value → Shared → Prop}
end
section
variable {X : Cx} {pos : Pos}
end
end L2

namespace PyProof.Rows
open PySem
abbrev gallop' : Bool → Keyed → Array Keyed → Nat → Nat → Nat → StateT SortSt Sem (Option Nat) := sortPriv% PySem.Builtin.gallop
abbrev mergeLo' : Array Keyed → Array Keyed → StateT SortSt Sem (Array Keyed) := sortPriv% PySem.Builtin.mergeLo
abbrev mergeHi' : Array Keyed → Array Keyed → StateT SortSt Sem (Array Keyed) := sortPriv% PySem.Builtin.mergeHi
def Keep (st st' : SortSt) : Prop := kindOf st' = kindOf st ∧ arrOf st' = arrOf st ∧ pendingOf st' = pendingOf st ∧ failedOf st' = failedOf st
theorem Keep.refl (st : SortSt) : Keep st st := ⟨rfl, rfl, rfl, rfl⟩
theorem Keep.trans {a b c : SortSt} (h : Keep a b) (k : Keep b c) : Keep a c := ⟨k.1.trans h.1, k.2.1.trans h.2.1, k.2.2.1.trans h.2.2.1, k.2.2.2.trans h.2.2.2⟩
section
variable {prog : Program} {w : World} {A : Around} {E : Value → Shared → Prop} {s : Shared} {st : SortSt} {κ : SortKind} {ys : List Keyed}
theorem wpS_liftA {α : Type} {m : Sem α} {Q : α → SortSt → Prop} (h : wpAny (model prog w) A m (fun a s' => s' = s ∧ Q a st) E s) : wpS (model prog w) A E s (liftM m : StateT SortSt Sem α) Q st := by
  unfold wpS
  show wpAny (model prog w) A ((StateT.lift m : StateT SortSt Sem α).run st) _ E s
  rw [StateT.run_lift]
  exact wpAny_bind (wpAny_mono h (fun a s' h' => wpAny_pure h') fun _ _ e => e)
theorem wpS_elemA {arr : Array Keyed} {i : Nat} (hi : i < arr.size) {Q : Keyed → SortSt → Prop} (h : Q arr[i] st) : wpS (model prog w) A E s (elem' arr i) Q st := by
  rw [elem'_eq, Array.getElem?_eq_getElem hi]
  exact wpS_pure h
theorem wpS_ite {α : Type} {c : Prop} [Decidable c] {m m' : StateT SortSt Sem α} {Q : α → SortSt → Prop} (h1 : c → wpS (model prog w) A E s m Q st) (h2 : ¬ c → wpS (model prog w) A E s m' Q st) : wpS (model prog w) A E s (if c then m else m') Q st := by
  split
  · exact h1 (by assumption)
  · exact h2 (by assumption)
theorem wpS_iteB {α : Type} {x y : Nat} {m m' : StateT SortSt Sem α} {Q : α → SortSt → Prop} (h1 : x = y → wpS (model prog w) A E s m Q st) (h2 : x ≠ y → wpS (model prog w) A E s m' Q st) : wpS (model prog w) A E s (if (x == y) = true then m else m') Q st := by
  refine wpS_ite (fun e => h1 (by simpa using e)) fun e => h2 (by simpa using e)
end
structure Took (x y out : Array Keyed) (ia ib : Nat) : Prop where
  pm : out.toList.Perm (x.toList.take ia ++ y.toList.take ib)
  la : ia ≤ x.size
  lb : ib ≤ y.size
section
variable {x y out : Array Keyed} {ia ib : Nat}
theorem take_more {z : Array Keyed} {i k : Nat} (h : i + k ≤ z.size) : z.toList.take (i + k) = z.toList.take i ++ (z.extract i (i + k)).toList := by
  rw [Array.toList_extract, List.extract_eq_take_drop, Nat.add_sub_cancel_left, List.take_add]
theorem take_one {z : Array Keyed} {i : Nat} (h : i < z.size) : z.toList.take (i + 1) = z.toList.take i ++ [z[i]] := by
  rw [List.take_add_one, List.getElem?_eq_getElem (by rw [Array.length_toList]; exact h)]
  rfl
theorem Took.b (t : Took x y out ia ib) (h : ib < y.size) : Took x y (out.push y[ib]) ia (ib + 1) := by
  refine ⟨?_, t.la, h⟩
  rw [Array.toList_push, take_one h, ← List.append_assoc]
  exact t.pm.append_right _
theorem Took.a (t : Took x y out ia ib) (h : ia < x.size) : Took x y (out.push x[ia]) (ia + 1) ib := by
  refine ⟨?_, h, t.lb⟩
  rw [Array.toList_push, take_one h]
  refine (t.pm.append_right _).trans ?_
  rw [List.append_assoc, List.append_assoc]
  exact List.Perm.append_left _ List.perm_append_comm
theorem Took.as (t : Took x y out ia ib) {k : Nat} (h : ia + k ≤ x.size) : Took x y (out ++ x.extract ia (ia + k)) (ia + k) ib := by
  refine ⟨?_, h, t.lb⟩
  rw [Array.toList_append, take_more h]
  refine (t.pm.append_right _).trans ?_
  rw [List.append_assoc, List.append_assoc]
  exact List.Perm.append_left _ List.perm_append_comm
theorem Took.bs (t : Took x y out ia ib) {k : Nat} (h : ib + k ≤ y.size) : Took x y (out ++ y.extract ib (ib + k)) ia (ib + k) := by
  refine ⟨?_, t.la, h⟩
  rw [Array.toList_append, take_more h, ← List.append_assoc]
  exact t.pm.append_right _
theorem ext_end (z : Array Keyed) (i : Nat) : (z.extract i z.size).toList = z.toList.drop i := by
  rw [Array.toList_extract, List.extract_eq_take_drop, List.take_of_length_le (by rw [List.length_drop, Array.length_toList]; exact Nat.le_refl _)]
theorem Took.done (t : Took x y out ia ib) : (out ++ x.extract ia x.size ++ y.extract ib y.size).toList.Perm (x.toList ++ y.toList) := by
  rw [Array.toList_append, Array.toList_append, ext_end, ext_end]
  have h : (x.toList ++ y.toList) = (x.toList.take ia ++ x.toList.drop ia) ++ (y.toList.take ib ++ y.toList.drop ib) := by rw [List.take_append_drop, List.take_append_drop]
  rw [h]
  refine ((t.pm.append_right _).append_right _).trans ?_
  simp only [List.append_assoc]
  refine List.Perm.append_left _ ?_
  rw [← List.append_assoc, ← List.append_assoc]
  exact List.perm_append_comm.append_right _
theorem Took.last (t : Took x y out ia ib) : (out ++ y.extract ib y.size ++ x.extract ia x.size).toList.Perm (x.toList ++ y.toList) := by
  refine List.Perm.trans ?_ t.done
  rw [Array.toList_append, Array.toList_append, Array.toList_append, Array.toList_append, List.append_assoc, List.append_assoc]
  exact List.Perm.append_left _ List.perm_append_comm
end
section
variable {prog : Program} {w : World} {A : Around} {E : Value → Shared → Prop} {s : Shared} {st : SortSt} {κ : SortKind} {ys : List Keyed}
end
structure Left (x y out : Array Keyed) (na nb : Nat) : Prop where
  pm : out.toList.Perm (x.toList.drop na ++ y.toList.drop nb)
  la : na ≤ x.size
  lb : nb ≤ y.size
section
variable {x y out : Array Keyed} {na nb : Nat}
theorem drop_one {z : Array Keyed} {i : Nat} (h : 0 < i) (h2 : i ≤ z.size) : z.toList.drop (i - 1) = z[i - 1]'(by omega) :: z.toList.drop i := by
  have e : i - 1 < z.toList.length := by rw [Array.length_toList]; omega
  rw [List.drop_eq_getElem_cons e, show i - 1 + 1 = i by omega]
  rfl
theorem drop_more {z : Array Keyed} {i k : Nat} (h : k ≤ i) : z.toList.drop k = (z.extract k i).toList ++ z.toList.drop i := by
  rw [Array.toList_extract, List.extract_eq_take_drop]
  have e := List.take_append_drop (i - k) (z.toList.drop k)
  rw [List.drop_drop, show k + (i - k) = i by omega] at e
  exact e.symm
theorem Left.a (t : Left x y out na nb) (h : 0 < na) : Left x y (out.push (x[na - 1]'(by have := t.la; omega))) (na - 1) nb := by
  have := t.la
  refine ⟨?_, by omega, t.lb⟩
  rw [Array.toList_push, drop_one h t.la]
  refine (t.pm.append_right _).trans ?_
  rw [List.cons_append]
  exact (List.perm_append_singleton _ _)
theorem Left.b (t : Left x y out na nb) (h : 0 < nb) : Left x y (out.push (y[nb - 1]'(by have := t.lb; omega))) na (nb - 1) := by
  have := t.lb
  refine ⟨?_, t.la, by omega⟩
  rw [Array.toList_push, drop_one h t.lb]
  refine (t.pm.append_right _).trans ?_
  rw [List.append_assoc]
  exact List.Perm.append_left _ (List.perm_append_singleton _ _)
theorem Left.as (t : Left x y out na nb) {k : Nat} (h : k ≤ na) : Left x y (out ++ (x.extract k na).reverse) k nb := by
  have := t.la
  refine ⟨?_, by omega, t.lb⟩
  rw [Array.toList_append, Array.toList_reverse, drop_more h]
  refine ((t.pm.append_right _).trans (List.Perm.append_left _ (List.reverse_perm _))).trans ?_
  refine List.perm_append_comm.trans ?_
  rw [List.append_assoc]
theorem Left.bs (t : Left x y out na nb) {k : Nat} (h : k ≤ nb) : Left x y (out ++ (y.extract k nb).reverse) na k := by
  have := t.lb
  refine ⟨?_, t.la, by omega⟩
  rw [Array.toList_append, Array.toList_reverse, drop_more h]
  refine ((t.pm.append_right _).trans (List.Perm.append_left _ (List.reverse_perm _))).trans ?_
  rw [List.append_assoc]
  exact List.Perm.append_left _ List.perm_append_comm
theorem ext_start (z : Array Keyed) (i : Nat) : (z.extract 0 i).toList = z.toList.take i := by
  rw [Array.toList_extract, List.extract_eq_take_drop, Nat.sub_zero, List.drop_zero]
theorem Left.done (t : Left x y out na nb) : (x.extract 0 na ++ y.extract 0 nb ++ out.reverse).toList.Perm (x.toList ++ y.toList) := by
  rw [Array.toList_append, Array.toList_append, Array.toList_reverse, ext_start, ext_start]
  have h : (x.toList ++ y.toList) = (x.toList.take na ++ x.toList.drop na) ++ (y.toList.take nb ++ y.toList.drop nb) := by rw [List.take_append_drop, List.take_append_drop]
  rw [h]
  refine (List.Perm.append_left _ ((List.reverse_perm _).trans t.pm)).trans ?_
  simp only [List.append_assoc]
  refine List.Perm.append_left _ ?_
  rw [← List.append_assoc, ← List.append_assoc]
  exact List.perm_append_comm.append_right _
theorem Left.first (t : Left x y out na nb) : (y.extract 0 nb ++ x.extract 0 na ++ out.reverse).toList.Perm (x.toList ++ y.toList) := by
  refine List.Perm.trans ?_ t.done
  rw [Array.toList_append, Array.toList_append, Array.toList_append, Array.toList_append]
  exact List.perm_append_comm.append_right _
end
section
variable {prog : Program} {w : World} {A : Around} {E : Value → Shared → Prop} {s : Shared} {st : SortSt} {κ : SortKind} {ys : List Keyed}
end
end PyProof.Rows

namespace PyProof.Rows
open PySem
structure PBase (κ : SortKind) (ys : List Keyed) (st : SortSt) : Prop where
  perm : (arrOf st).toList.Perm ys
  kind : kindOf st = κ
  failed : failedOf st = none
section
variable {prog : Program} {w : World} {A : Around} {E : Value → Shared → Prop} {s : Shared} {st st' : SortSt} {κ : SortKind} {ys : List Keyed}
theorem PBase.size (h : PBase κ ys st) : (arrOf st).size = ys.length := by rw [← Array.length_toList]; exact h.perm.length_eq
theorem PBase.mem (h : PBase κ ys st) {i : Nat} (hi : i < (arrOf st).size) : (arrOf st)[i] ∈ ys := h.perm.mem_iff.mp (by rw [← Array.getElem_toList]; exact List.getElem_mem _)
theorem PBase.set (h : PBase κ ys st) {xs : Array Keyed} (hp : xs.Perm (arrOf st)) : PBase κ ys (setArr st xs) := ⟨(Array.perm_iff_toList_perm.mp hp).trans h.perm, h.kind, h.failed⟩
theorem PBase.keep (h : PBase κ ys st) (k : Keep st st') : PBase κ ys st' := ⟨by rw [k.2.1]; exact h.perm, k.1.trans h.kind, k.2.2.2.trans h.failed⟩
theorem wpS_share {α : Type} {code : StateT SortSt Sem α} {P : SortSt → Prop} {Q : α → SortSt → Prop} {m : StateT SortSt Sem α} (use : (∀ st2, P st2 → wpS (model prog w) A E s code Q st2) → wpS (model prog w) A E s m Q st) (H : ∀ st2, P st2 → wpS (model prog w) A E s code Q st2) : wpS (model prog w) A E s m Q st := use H
theorem wpS_shareN {α : Type} {code : Nat → StateT SortSt Sem α} {P : Nat → SortSt → Prop} {Q : α → SortSt → Prop} {m : StateT SortSt Sem α} (use : (∀ n st2, P n st2 → wpS (model prog w) A E s (code n) Q st2) → wpS (model prog w) A E s m Q st) (H : ∀ n st2, P n st2 → wpS (model prog w) A E s (code n) Q st2) : wpS (model prog w) A E s m Q st := use H
theorem wpS_set {st2 : SortSt} {Q : PUnit → SortSt → Prop} (h : Q ⟨⟩ st2) : wpS (model prog w) A E s (set st2 : StateT SortSt Sem PUnit) Q st := by
  unfold wpS; rw [StateT.run_set]; exact wpAny_pure ⟨rfl, h⟩
end
theorem put_all : ∀ (m : List Keyed) (k o : Nat) (z : Array Keyed), o + k + m.length ≤ z.size → ((m.zipIdx k).foldl (fun a (p : Keyed × Nat) => a.setIfInBounds (o + p.2) p.1) z).toList = z.toList.take (o + k) ++ m ++ z.toList.drop (o + k + m.length)
  | [], k, o, z, _ => by simp
  | x :: m, k, o, z, h => by
    have h : o + k + (m.length + 1) ≤ z.size := h
    rw [List.zipIdx_cons, List.foldl_cons, put_all m (k + 1) o _ (by rw [Array.size_setIfInBounds]; omega), Array.toList_setIfInBounds]
    have hl : o + k < z.toList.length := by rw [Array.length_toList]; omega
    rw [List.take_set, List.drop_set_of_lt (by omega)]
    rw [show o + (k + 1) = (o + k) + 1 by omega, List.take_add_one, List.getElem?_eq_getElem hl, show o + k + 1 + m.length = o + k + (m.length + 1) by omega]
    have hk : (z.toList.take (o + k)).length = o + k := by rw [List.length_take]; omega
    show ((z.toList.take (o + k)) ++ [z.toList[o + k]]).set (o + k) x ++ m ++ _ = _
    rw [List.set_append_right _ _ (by omega), hk, Nat.sub_self]
    simp
section
variable {prog : Program} {w : World} {A : Around} {E : Value → Shared → Prop} {s : Shared} {st st' : SortSt} {κ : SortKind} {ys : List Keyed}
end
end PyProof.Rows

namespace PySem.W
open PySem PySem.Calls PyProof.Rows
section
variable {prog : Program} {w : World} {A : Around} {E : Value → Shared → Prop} {s : Shared}
end
end PySem.W
namespace L2
open PySem PySem.Spec PyProof.Rows PySem.W
section
variable {prog : Program} {w : World} {A : Around} {E : Value → Shared → Prop} {s : Shared}
theorem mapM_each {M : Model} {β : Type} {f : Value → Sem β} {R : β → Prop} : ∀ {vs : List Value} {Q : List β → Shared → Prop}, (∀ v ∈ vs, ∀ Q : β → Shared → Prop, (∀ b, R b → Q b s) → wpAny M A (f v) Q E s) → (∀ bs, (∀ b ∈ bs, R b) → Q bs s) → wpAny M A (vs.mapM f) Q E s
  | [], Q, _, h => by rw [List.mapM_nil]; exact wpAny_pure (h [] fun b hb => nomatch hb)
  | v :: vs, Q, hf, h => by
    rw [List.mapM_cons]
    refine wpAny_bind (hf v (.head _) _ fun b rb => wpAny_bind (mapM_each (R := R) (fun u hu => hf u (.tail _ hu)) fun bs hbs => wpAny_pure (h _ fun c hc => ?_)))
    rcases List.mem_cons.mp hc with rfl | hc
    · exact rb
    · exact hbs c hc
def HasTy (h : Heap) (v : Value) : Prop := (∃ i t, v = .int i t) ∨ ∃ a o, v = .ref a ∧ h.get? a = some o
theorem ty_each {M : Model} {v : Value} (hv : HasTy s.heap v) {Q : Value → Shared → Prop} (h : ∀ b, Q b s) : wpAny M A (typeOf v) Q E s := by
  rcases hv with ⟨i, t, rfl⟩ | ⟨a, o, rfl, ho⟩
  · exact wpAny_pure (h _)
  · exact Looks.here (show Looks M s.heap (typeOf (.ref a)) o.cls from (Looks.ld ho).andThen .now) (h _)
theorem one_type {M : Model} {vs : List Value} (hv : ∀ v ∈ vs, HasTy s.heap v) {Q : Option Value → Shared → Prop} (h : ∀ b, Q b s) : wpAny M A (oneTypeOnly' vs.toArray) Q E s := by
  rw [oneTypeOnly'_eq, List.mapM_toArray, map_eq_pure_bind]
  refine wpAny_bind (wpAny_bind (mapM_each (R := fun _ => True) (fun v hm Q' hq => ty_each (hv v hm) fun b => hq b trivial) fun bs _ => wpAny_pure ?_))
  split
  · exact wpAny_pure (h _)
  · exact wpAny_pure (h _)
theorem kind_any {M : Model} {vs : List Value} (hT : ∀ v ∈ vs, ∃ ns, TupN s.heap v ns) {Q : SortKind → Shared → Prop} (h : ∀ κ, Q κ s) : wpAny M A (keyKind' vs.toArray) Q E s := by
  have ht : ∀ v ∈ vs, HasTy s.heap v := fun v hv => by
    obtain ⟨ns, a, o, n, its, e, ho, _⟩ := hT v hv
    exact .inr ⟨a, o, e, ho⟩
  rw [kat_kind_eq, List.mapM_toArray, map_eq_pure_bind]
  refine wpAny_bind (wpAny_bind (mapM_each (R := fun b => ∀ v, b = some v → HasTy s.heap v) (fun v hm Q' hq => ?_) fun bs hbs => wpAny_pure ?_))
  · obtain ⟨ns, a, o, n, its, rfl, ho, hc, hd, r⟩ := hT v hm
    rw [kas_first_eq]
    refine wpAny_bind (Looks.here (show Looks M s.heap (typeOf (.ref a)) o.cls from (Looks.ld ho).andThen .now) ?_)
    rw [hc, if_neg (by first | decide | simp)]
    refine wpAny_bind (listItems_at ho hd (wpAny_pure (hq _ fun v e => ?_)))
    cases ns with
    | nil =>
      cases r
      cases e
    | cons k ks =>
      cases r with
      | cons p q =>
        obtain ⟨t, rfl⟩ := p
        rw [List.getElem?_toArray, List.getElem?_cons_zero] at e
        cases e
        exact .inl ⟨_, _, rfl⟩
  · split
    · refine wpAny_bind (wpAny_rule ?_)
      have e : bs.toArray.filterMap id = (bs.filterMap id).toArray := by simp
      rw [e]
      refine wpAny_bind (one_type (fun v hv => ?_) fun b => wpAny_pure (h _))
      obtain ⟨b, hb, e⟩ := List.mem_filterMap.mp hv
      exact hbs b hb v e
    · split
      · exact wpAny_pure (h _)
      · exact wpAny_bind (one_type ht fun b => wpAny_pure (h _))
end
theorem perm_map_inv {α β : Type} {f : α → β} {out m : List β} (h : out.Perm m) : ∀ {l : List α}, l.map f = m → ∃ l' : List α, l'.Perm l ∧ l'.map f = out := by
  induction h with
  | nil => exact fun {l} e => ⟨l, .refl _, e⟩
  | cons x _ ih =>
    intro l e
    cases l with
    | nil => cases e
    | cons a l =>
      obtain ⟨l', p, e'⟩ := ih (List.cons.inj e).2
      exact ⟨a :: l', p.cons _, by rw [List.map_cons, e', (List.cons.inj e).1]⟩
  | swap x y t =>
    intro l e
    match l, e with
    | a :: b :: l, e =>
      obtain ⟨e1, e2⟩ := List.cons.inj e
      obtain ⟨e3, e4⟩ := List.cons.inj e2
      exact ⟨b :: a :: l, .swap .., by rw [List.map_cons, List.map_cons, e1, e3, e4]⟩
  | trans _ _ ih1 ih2 =>
    intro l e
    obtain ⟨l2, p2, e2⟩ := ih2 e
    obtain ⟨l1, p1, e1⟩ := ih1 e2
    exact ⟨l1, p1.trans p2, e1⟩
section
variable {X : Cx}
end
end L2

namespace L2
open PySem PySem.Spec PyProof.Rows
def hideH (H : Hp) (d : Addr) : Hp := fun b => if b = d then none else H b
theorem hide_self {H : Hp} {d : Addr} : hideH H d d = none := if_pos rfl
theorem hide_ne {H : Hp} {d b : Addr} (h : b ≠ d) : hideH H d b = H b := if_neg h
theorem hide_of {H : Hp} {d b : Addr} {o : HO} (h : hideH H d b = some o) : b ≠ d ∧ H b = some o := by
  by_cases e : b = d
  · rw [e, hide_self] at h; cases h
  · exact ⟨e, by rw [← h, hide_ne e]⟩
theorem hide_none {H : Hp} {d b : Addr} (h : H b = none) : hideH H d b = none := by
  by_cases e : b = d
  · rw [e, hide_self]
  · rw [hide_ne e, h]
theorem hide_keep {H : Hp} {d b : Addr} {o ob : HO} (hd : H d = some ob) (h : H b = some o) (n : ob ≠ o) : hideH H d b = some o := by
  rw [hide_ne fun e => n ?_]
  · exact h
  · rw [e, hd] at h
    exact Option.some.inj h
theorem hide_back {H : Hp} {d D : Addr} {o v : HO} (hd : H d = some o) (n : D ≠ d) : upd (upd (hideH H d) D v) d o = upd H D v := by
  funext b
  by_cases e : b = d
  · rw [e, upd_same, upd_ne (Ne.symm n), hd]
  · rw [upd_ne e]
    by_cases e2 : b = D
    · rw [e2, upd_same, upd_same]
    · rw [upd_ne e2, upd_ne e2, hide_ne e]
section
variable {X : Cx} {pins : List (Addr × Obj)} {σ : St} {H H3 : Hp} {s s3 : Shared} {d : Addr} {kvs : List (List Key × V)}
theorem Inv.hide (I : Inv X pins σ H s) (hd : H d = some (.dT kvs)) : Inv X pins σ (hideH H d) s where
  ok := I.ok
  os := I.os
  bare := I.bare
  base := ⟨I.base.keep, I.base.slot, fun b o e n hx => hide_none (I.base.free b o e n hx), I.base.there, fun b xs e => hide_keep hd (I.base.tups b xs e) (fun z => nomatch z), fun b o u e => hide_keep hd (I.base.frzs b o u e) (fun z => nomatch z),
    fun b ps e => let ⟨more, q⟩ := I.base.tbls b ps e; ⟨more, hide_keep hd q (fun z => nomatch z)⟩⟩
  loc := I.loc
  cell := I.cell
  free := hide_none I.free
  freeC := fun x c e => hide_none (I.freeC x c e)
  pin := fun p hp => let ⟨h1, h2, h3⟩ := I.pin p hp; ⟨h1, hide_none h2, h3⟩
  hok := fun b o e => by
    obtain ⟨_, e'⟩ := hide_of e
    exact (I.hok b o e').stay (fun c u _ q => q) (fun c q => hide_keep hd q (fun z => nomatch z)) fun c xs q => hide_keep hd q (fun z => nomatch z)
  len := I.len
theorem Inv.back (I : Inv X pins σ H s) (hd : H d = some (.dT kvs)) (J : Inv X pins σ H3 s3) (hH : H3 d = none) (same : ∀ o, s.heap.get? d = some o → s3.heap.get? d = some o) (tp : ∀ b xs, H b = some (.tup xs) → H3 b = some (.tup xs)) : Inv X pins σ (upd H3 d (.dT kvs)) s3 := by
  have ne : ∀ {b : Addr}, H b = none → b ≠ d := fun {b} n e => by rw [e, hd] at n; cases n
  have nk : ∀ {b : Addr} {o : HO}, H3 b = some o → upd H3 d (.dT kvs) b = some o := fun {b o} e => by
    rw [upd_ne fun z => by rw [z, hH] at e; cases e]
    exact e
  refine ⟨J.ok, J.os, J.bare, ⟨J.base.keep, J.base.slot, fun b o e n hx => ?_, J.base.there, fun b xs e => nk (J.base.tups b xs e), fun b o u e => nk (J.base.frzs b o u e), fun b ps e => let ⟨more, q⟩ := J.base.tbls b ps e; ⟨more, nk q⟩⟩, J.loc, J.cell, ?_, fun x c e => ?_, fun p hp => ?_, fun b o e => ?_, J.len⟩
  · rw [upd_ne (ne (I.base.free b o e n hx))]
    exact J.base.free b o e n hx
  · rw [upd_ne (ne I.free)]
    exact J.free
  · rw [upd_ne (ne (I.freeC x c e))]
    exact J.freeC x c e
  · obtain ⟨h1, h2, h3⟩ := J.pin p hp
    exact ⟨h1, by rw [upd_ne (ne (I.pin p hp).2.1)]; exact h2, h3⟩
  · by_cases eb : b = d
    · subst eb
      rw [upd_same] at e
      cases e
      obtain ⟨z, y, xs, r, o, es, ep, h1, h2⟩ := (show ObjOk X.prog X.w H s.heap b (.dT kvs) from I.hok b _ hd)
      exact ⟨z, y, xs, KT.keeps r (fun c ys q => nk (tp c ys q)), o, es, ep, same _ h1, h2⟩
    · rw [upd_ne eb] at e
      exact (J.hok b o e).stay (fun c u _ q => q) (fun c q => nk q) fun c xs q => nk q
def Itk (ts : List (Addr × List Key)) : It := ⟨fun k _ => k < ts.length, fun k H v H' => H' = H ∧ ∃ t, ts[k]? = some t ∧ v = .ref t.1, fun k _ => ts.length ≤ k⟩
def tCompD (nt : Nat) (caps : List (Str × Nat)) (tl : TE) (g : CC → TG) (tt : CC → TT) (te : CC → TE) : TE := fun σ H Q => tl σ H fun x H1 => ∃ (d : Addr) (kvs : List (List Key × V)), x = .ref d ∧ H1 d = some (.dT kvs) ∧
  ∀ (ts : List (Addr × List Key)), ts.map (·.2) = kvs.map (·.1) → (∀ t ∈ ts, H1 t.1 = some (.tup (t.2.map kV))) → ∀ (c : CC) (D : Addr), H1 D = none →
    CompW (Itk ts) D (g c) (tt c) (te c) (capSt caps nt σ) (hideH H1 d) (fun v H' => H' d = none → Q v (upd H' d (.dT kvs)))
variable {T : List Str} {caps : List (Str × Nat)} {scope : Scope} {elt target iter : Expr} {ifs : List Expr} {pos : Pos} {tl : TE} {g : CC → TG} {tt : CC → TT} {te : CC → TE}
theorem pe_compD (S : CompScope X caps scope) (hc : X.calm = true) (hl : PE X iter tl) (hg : ∀ c, PG (cxComp X (T ++ caps.map (·.1)) scope c) target (g c)) (ht : ∀ c, PIfs (cxComp X (T ++ caps.map (·.1)) scope c) ifs (tt c)) (he : ∀ c, PE (cxComp X (T ++ caps.map (·.1)) scope c) elt (te c))
    (hs : ∀ x, foldedSetIterable iter X.env x = pure x := by intro _; rfl) : PE X (.ListComp elt [⟨target, iter, ifs, 0⟩] scope pos) (tCompD T.length caps tl g tt te) := by
  intro pins s σ H Q I h
  rw [eval_ListComp]
  refine wpAny_comprehension_free (use := none) rfl hs (clos_eq S.cells) S.kind S.loc (thn (hl pins s σ H _ I h) fun v s1 ⟨x, H1, I1, r1, q1⟩ => ?_)
  obtain ⟨d, kvs, e, hd, q⟩ := q1
  subst e
  cases r1
  obtain ⟨hz, hsm, ys, rel, ob, es, age, gd, ex, dat, hes, hjunk⟩ := dt_of I1.hok hd
  have hsz : es.size = ys.length := size_of_entries hes
  have props : (ys.map fun y => (y.2.1, y.1)).map (·.2) = kvs.map (·.1) ∧ ∀ t ∈ ys.map (fun y => (y.2.1, y.1)), H1 t.1 = some (.tup (t.2.map kV)) := by
    clear hes hsz q hd hz hjunk
    induction rel with
    | nil => exact ⟨rfl, fun t ht => nomatch ht⟩
    | @cons p y ps zs hp t ih =>
      refine ⟨by rw [List.map_cons, List.map_cons, List.map_cons, ih.1, hp.1], fun t' ht' => ?_⟩
      rcases List.mem_cons.mp ht' with e | ht'
      · subst e
        show H1 y.2.1 = some (.tup (y.1.map kV))
        rw [← hp.1]
        exact hp.2.1
      · exact ih.2 t' ht'
  have keyAt : ∀ (k : Nat) (hk : k < es.size), ∃ t, (ys.map fun y => (y.2.1, y.1))[k]? = some t ∧ es[k].key = Value.ref t.1 := fun k hk => by
    have ek := entry_at hes k
    have hk' : k < ys.length := by omega
    rw [Array.getElem?_eq_getElem hk, List.getElem?_eq_getElem hk', Option.map_some] at ek
    refine ⟨_, by rw [List.getElem?_map, List.getElem?_eq_getElem hk']; rfl, ?_⟩
    rw [Option.some.inj ek]
    rfl
  have q := q _ props.1 props.2
  have tlen : (ys.map fun y => (y.2.1, y.1)).length = es.size := by rw [List.length_map, hsz]
  generalize (ys.map fun y => (y.2.1, y.1)) = ts at props keyAt q tlen
  have raw1 : RawD s1.heap d es age := ⟨ob, gd, ex, dat⟩
  refine raw_iter hsm raw1 ?_
  have I2 : Inv X pins σ (hideH H1 d) { s1 with heap := s1.heap.push { cls := .type "dict_keyiterator", data := .fields #[.ref d, .int 0 0, .int es.size 0, .int age 0] } } := (I1.hide hd).kept (t' := s1.toks) fun b o e => Heap.get?_push_of_some _ e
  have ki0 : ({ s1 with heap := s1.heap.push { cls := .type "dict_keyiterator", data := .fields #[.ref d, .int 0 0, .int es.size 0, .int age 0] } } : Shared).heap.IsKeyIter s1.heap.objs.size d 0 es.size age := ⟨_, Heap.get?_push_size _ rfl, rfl, rfl⟩
  have gd2 : ({ s1 with heap := s1.heap.push { cls := .type "dict_keyiterator", data := .fields #[.ref d, .int 0 0, .int es.size 0, .int age 0] } } : Shared).heap.get? d = some ob := Heap.get?_push_of_some _ gd
  have f2 : ∀ b ∈ [s1.heap.objs.size], FpOk X pins (hideH H1 d) b := fun b hb => by
    rw [List.mem_singleton] at hb
    subst hb
    exact I1.fpOk (Nat.le_refl _) (hide_none (I1.hok.fresh (Nat.le_refl _)))
  have ndf : d ∉ frs X.stack := fun z => by
    have := I1.stkFree d z
    rw [hd] at this
    cases this
  have dlt : d < s1.heap.objs.size := Heap.lt_size gd
  have fr1 : ∀ b, s1.heap.objs.size ≤ b → H1 b = none := fun b hb => I1.hok.fresh hb
  have q2 : ∀ c : CC, ∀ D : Addr, H1 D = none → CompW (Itk ts) D (g c) (tt c) (te c) (capSt caps T.length σ) (hideH H1 d) (fun v H' => H' d = none → Q v (upd H' d (.dT kvs))) := q
  have hsize : ({ s1 with heap := s1.heap.push { cls := .type "dict_keyiterator", data := .fields #[.ref d, .int 0 0, .int es.size 0, .int age 0] } } : Shared).heap.objs.size = s1.heap.objs.size + 1 := by rw [Heap.size_push]
  generalize ({ s1 with heap := s1.heap.push { cls := .type "dict_keyiterator", data := .fields #[.ref d, .int 0 0, .int es.size 0, .int age 0] } } : Shared) = s2 at I2 hsize ki0 gd2 ⊢
  have itlt : s1.heap.objs.size < s2.heap.objs.size := by rw [hsize]; exact Nat.lt_succ_self _
  generalize s1.heap.objs.size = it at ki0 itlt f2 dlt ⊢
  refine wpAny_newObj_type (wpAny_newFunctionEnv S.nocell (by intro y hy; simp at hy) (fun h1 hn hsb => ?_) S.kind)
  dsimp only at hn hsb ⊢
  generalize hg2 : s2.heap.push { cls := .type "list", dict := none, data := .seq ([] : List Value).toArray } = G at hn hsb ⊢
  have hCv : G.objs.size = s2.heap.objs.size + 1 := by rw [← hg2, Heap.size_push]
  have hDC : G.objs.size ≠ s2.heap.objs.size := by rw [hCv]; exact Nat.succ_ne_self _
  have hCle : s2.heap.objs.size ≤ G.objs.size := by rw [hCv]; exact Nat.le_succ _
  have old : ∀ b o, s2.heap.get? b = some o → h1.get? b = some o := fun b o e => hsb.extBut b o (Nat.ne_of_lt (Nat.lt_of_lt_of_le (Heap.lt_size e) hCle)) (Heap.get?_push_of_some _ (hg2 ▸ Heap.get?_push_of_some _ e))
  have hacc : ∃ n, h1.get? s2.heap.objs.size = some { cls := .type "list", data := .seq ([] : List Value).toArray n } := ⟨_, hsb.extBut _ _ (Ne.symm hDC) (Heap.get?_push_of_some _ (hg2 ▸ Heap.get?_push_size _ rfl))⟩
  have hfp : ∀ b ∈ [it], b < s2.heap.objs.size := fun b hb => by
    rw [List.mem_singleton] at hb
    subst hb
    exact itlt
  have cs := closL_sound (env := X.env) scope.names [] S.cells (fun _ _ z => by cases z)
  have I0 := comp_start (T := T) (tk := s2.toks + ([] : List (Str × Value)).length) S I2 f2 hfp (Nat.le_refl _) hCle hDC old hacc hn
  have st0 : h1.IsKeyIter it d 0 es.size age := ki0.at fun o e => old _ o e
  have fresh2 : hideH H1 d s2.heap.objs.size = none := I2.hok.fresh (Nat.le_refl _)
  have dlt2 : d < s2.heap.objs.size := Heap.lt_size gd2
  obtain ⟨W, ⟨m0, w0⟩, turn⟩ := q2 ⟨G.objs.size, s2, hideH H1 d, [it]⟩ s2.heap.objs.size (by rw [← hide_ne (H := H1) (Nat.ne_of_gt dlt2)]; exact fresh2)
  have fr0 : ∀ b ∈ [it], upd (hideH H1 d) s2.heap.objs.size (.lst []) b = none := fun b hb => by
    rw [upd_ne (Nat.ne_of_lt (hfp b hb))]
    exact (f2 b hb).1
  have stat : ∀ {H' : Hp}, (∀ b ∈ [it], H' b = none) → ∀ b ∈ [it], FpOk (cxComp X (T ++ caps.map (·.1)) scope ⟨G.objs.size, s2, hideH H1 d, [it]⟩) [] H' b := fun {H'} hn' b hb =>
    ⟨hn' b hb, Nat.ne_of_lt (Nat.lt_of_lt_of_le (hfp b hb) hCle), I0.ok.exfs b hb, .inl hb, fun x c e => (f2 b hb).2.2.2.2.1 x c (cs x c e), fun p hp => absurd (show p ∈ ([] : List (Addr × Obj)) from hp) (by simp)⟩
  have ndit : d ∉ [it] := fun z => by rw [List.mem_singleton] at z; exact absurd dlt (by rw [z]; exact Nat.lt_irrefl _)
  have rawAt : ∀ {pl : List (Addr × Obj)} {σ' : St} {H' : Hp} {s' : Shared}, Inv (cxComp X (T ++ caps.map (·.1)) scope ⟨G.objs.size, s2, hideH H1 d, [it]⟩) pl σ' H' s' → s'.heap.get? d = some ob ∧ H' d = none := fun {pl σ' H' s'} I' =>
    ⟨I'.base.keep d ob gd2 hide_self ndf ndit, I'.base.free d ob gd2 hide_self ndit⟩
  have objAt : ∀ {h' : Heap} {k : Nat}, h'.IsKeyIter it d k es.size age → ∀ b ∈ [it], ∃ o, h'.get? b = some o ∧ ∀ v, o.data ≠ .cell v := fun {h' k} ki b hb => by
    rw [List.mem_singleton] at hb
    subst hb
    obtain ⟨o, e, _, d2⟩ := ki
    exact ⟨o, e, fun v z => by rw [d2] at z; cases z⟩
  have loop : codeAny (model X.prog X.w) X.A (.compLoop (.ListComp elt [⟨target, iter, ifs, 0⟩] scope pos) 0 (.ref it) (.ref s2.heap.objs.size) (compEnvC scope (closL X.env scope.names []) G.objs.size X.env))
      (compPost (model X.prog X.w) X.A X.xe none (EP X pins σ Q) (.ref s2.heap.objs.size) G.objs.size) { s2 with heap := h1, toks := s2.toks + ([] : List (Str × Value)).length } := by
    refine codeAny_loop rfl (fun n s' => ∃ i σ' ys H', Inv (cxComp X (T ++ caps.map (·.1)) scope ⟨G.objs.size, s2, hideH H1 d, [it]⟩) [] σ' H' s' ∧ s'.heap.IsKeyIter it d i es.size age ∧ (∀ b ∈ [it], H' b = none) ∧ W i n σ' ys H') (fun n s3 hI => ?_) m0 ⟨0, _, [], _, I0, st0, fr0, w0⟩
    obtain ⟨i, σ3, ys, H3, I3, st3, fr3, w3⟩ := hI
    show wpAny _ X.A ((compTurn (.ListComp elt [⟨target, iter, ifs, 0⟩] scope pos) 0 (.ref it) (.ref s2.heap.objs.size) (compEnvC scope (closL X.env scope.names []) G.objs.size X.env)).onRaise (fun x => do noteFrame x (compEnvC scope (closL X.env scope.names []) G.objs.size X.env); theTreesLotGoes x)) _ _ s3
    refine wpAny_noted ?_
    rw [compTurn_list]
    refine wpAny_bind (wpAny_standAt (wpAny_bind ?_))
    obtain ⟨hD3, turn3⟩ := turn i n σ3 ys H3 w3
    obtain ⟨gd3, hd3⟩ := rawAt I3
    have raw3 : RawD s3.heap d es age := ⟨ob, gd3, ex, dat⟩
    obtain ⟨f0, f1, f2', f3, f4, f5⟩ := stat fr3 it (.head _)
    rcases turn3 with ⟨stop, qn⟩ | ⟨go, N, hN, step⟩
    · have stop : ts.length ≤ i := stop
      refine raw_end (I3.ok.hd hc) st3 raw3 (by omega) fun h' eb => ?_
      have I4 := I3.turned (t' := s3.toks) (fun b o hb q => eb b o hb q) f0 f1 f3 f4 f5
      refine wpAny_pure ?_
      show ∃ m, h'.Ns G.objs.size m ∧ ∀ h'', Heap.SameBut G.objs.size h' h'' → EP X pins σ Q (.ref s2.heap.objs.size) { s3 with heap := h'' }
      obtain ⟨m4, hn4, _⟩ := I4.loc
      refine ⟨m4, hn4, fun h'' sb => ⟨.ref s2.heap.objs.size, upd H3 d (.dT kvs), ?_, rfl, qn hd3⟩⟩
      have J : Inv X pins σ H3 { s3 with heap := h'' } := by
        refine I2.call' (s' := { s3 with heap := h'' }) (ch := [it]) I4.os (Un.same I4.base sb (Heap.get?_none_of_le hCle)) (HOk.same I4.hok sb I4.free) I4.bare fun b hb => ?_
        obtain ⟨_, f1, _, f3, f4, f5⟩ := f2 b hb
        exact ⟨f3, f1, f4, f5⟩
      refine I1.back hd J hd3 (fun o e => ?_) fun b xs e => ?_
      · rw [gd] at e
        cases e
        exact (sb.2 d (Nat.ne_of_lt (Nat.lt_of_lt_of_le dlt2 hCle))).trans (eb d ob (fun z => ndit (by rw [z]; exact .head _)) gd3)
      · exact I3.base.tups b xs (hide_keep hd e (fun z => nomatch z))
    · have go : i < ts.length := go
      have hi' : i < es.size := by omega
      obtain ⟨t, gt, ek⟩ := keyAt i hi'
      refine raw_next st3 raw3 hi' fun h' ki' hs' => ?_
      have I4 := I3.turned (t' := s3.toks) (fun b o hb q => hs'.extBut b o hb q) f0 f1 f3 f4 f5
      have go' : ∀ {Q' : Unit → Shared → Prop} {E' : Value → Shared → Prop} {u : Value}, Q' () { s3 with heap := h' } → wpAny (model X.prog X.w) X.A (letOwnedTupleGo target (.ref it) u) Q' E' { s3 with heap := h' } := fun {Q' E' u} hq => by
        obtain ⟨o, e, c, d2⟩ := ki'
        exact go_of e c d2 (by decide) hq
      refine wpAny_bind (go' ?_)
      have I5' := I4.pinned (stat fr3) (objAt ki')
      rw [ek]
      refine wpAny_bind (thnF (hg _ _ _ σ3 H3 (.ref t.1) _ _ I5' rfl (step (.ref t.1) H3 ⟨rfl, t, gt, rfl⟩)) fun _ s6 ⟨σ6, H6, I6, q6⟩ => ?_)
      have again : ∀ {s7 : Shared} {σ7 : St} {zs : List V} {H7 : Hp}, Inv (cxComp X (T ++ caps.map (·.1)) scope ⟨G.objs.size, s2, hideH H1 d, [it]⟩) ([] ++ pinsAt [it] h') σ7 H7 s7 → N σ7 zs H7 →
          ∃ m, m < n ∧ ∃ i σ' ys H', Inv (cxComp X (T ++ caps.map (·.1)) scope ⟨G.objs.size, s2, hideH H1 d, [it]⟩) [] σ' H' s7 ∧ s7.heap.IsKeyIter it d i es.size age ∧ (∀ b ∈ [it], H' b = none) ∧ W i m σ' ys H' := fun {s7 σ7 zs H7} I7 n7 => by
        obtain ⟨m', hm, w7⟩ := hN σ7 zs H7 n7
        refine ⟨m', hm, i + 1, σ7, zs, H7, I7.unpinned, ki'.at fun o e => (I7.pin (it, o) (List.mem_append_right _ (List.mem_append_right _ (mem_pinsAt (.head _) e)))).1, fun b hb => ?_, w7⟩
        obtain ⟨o, e, d⟩ := objAt ki' b hb
        exact (I7.pin (b, o) (List.mem_append_right _ (List.mem_append_right _ (mem_pinsAt hb e)))).2.1
      refine wpAny_bind (thnF (ht _ _ s6 σ6 H6 _ I6 q6) fun ok s7 ⟨H7, I7, q7⟩ => ?_)
      cases ok with
      | false => exact wpAny_pure ⟨rfl, again I7 q7⟩
      | true =>
        refine wpAny_bind (wpAny_bind (thnF (he _ _ s7 σ6 H7 _ I7 q7) fun y s8 ⟨yv, H8, I8, r8, hD8, hl8, q8⟩ => ?_))
        refine wpAny_bind (thnF (mt_append _ s8 σ6 H8 (.ref s2.heap.objs.size) [yv] (.ref s2.heap.objs.size) [y] (fun _ H9 => N σ6 (ys ++ [yv]) H9) I8 rfl (.cons r8 .nil) ⟨_, ys, yv, rfl, rfl, hD8, hl8, q8⟩) fun _ s9 ⟨_, H9, I9, _, q9⟩ => ?_)
        exact wpAny_pure (wpAny_pure ⟨rfl, again I9 q9⟩)
  exact codeAny_compStart_list loop (wpAny_pyIter_keyiter st0 loop)
end
end L2

namespace L2
open PySem PySem.Spec PyProof.Rows
inductive Deep (K : PySem.W.Frag) (H : Hp) : Nat → V → V → Bool → Prop where
  | same (n : Nat) (a : Addr) : Deep K H n (.ref a) (.ref a) true
  | int (n : Nat) (i j : Int) : Deep K H n (.int i) (.int j) (i == j)
  | lst {n : Nat} {a b : Addr} {xs ys : List V} {e : Nat → Bool} (ne : a ≠ b) (ha : SqL K H a xs) (hb : SqL K H b ys) (hl : xs.length = ys.length) (he : ∀ (j : Nat) (h1 : j < xs.length) (h2 : j < ys.length), Deep K H n xs[j] ys[j] (e j)) : Deep K H (n + 1) (.ref a) (.ref b) ((List.range xs.length).all e)
  | lstN {n : Nat} {a b : Addr} {xs ys : List V} (ne : a ≠ b) (ha : SqL K H a xs) (hb : SqL K H b ys) (hl : xs.length ≠ ys.length) : Deep K H (n + 1) (.ref a) (.ref b) false
  | tup {n : Nat} {a b : Addr} {xs ys : List V} {e : Nat → Bool} (ne : a ≠ b) (ha : SqT K H a xs) (hb : SqT K H b ys) (he : ∀ (j : Nat) (h1 : j < xs.length) (h2 : j < ys.length), Deep K H n xs[j] ys[j] (e j)) : Deep K H (n + 1) (.ref a) (.ref b) ((List.range (min xs.length ys.length)).all e && xs.length == ys.length)
section
variable {X : Cx} {pins : List (Addr × Obj)} {σ : St} {H : Hp} {s : Shared}
theorem call_minL (hc : X.calm = true) : CallR X (.builtin "min") (fun xs H Q => ∃ (p : Addr) (ns : List Int), xs = [.ref p] ∧ SqL X.K H p (ns.map V.int) ∧ ns ≠ [] ∧ ∀ M : Int, M ∈ ns → (∀ a ∈ ns, M ≤ a) → Q (.int M) H) := by
  intro pins s σ H xs us Q I r h
  obtain ⟨p, ns, rfl, hq, hne, q⟩ := h
  obtain ⟨u, rfl, r1⟩ := vals1 r
  cases r1
  obtain ⟨its, rv, pl, hz⟩ := I.list hq
  have hi : IntsAre its.toArray.toList ns := intsAre_of rv
  obtain ⟨ys, e⟩ := hi.allInts.items
  have hns : ns = ys.toList.map (·.1) := by rw [← hi.numsOf, ← nums_intItems, ← e]
  have hsz : 0 < ys.size := by
    have h3 : 0 < ns.length := List.length_pos_iff.mpr hne
    rw [hns, List.length_map, Array.length_toList] at h3
    exact h3
  have hL : s.heap.IsList p (intItems ys) := by rw [← e]; exact pl.isList
  refine min_intList (I.ok.hd hc) hL hsz fun v h' tk hv hk => ?_
  obtain ⟨t, rfl⟩ := intItems_at hv
  obtain ⟨h1, h2⟩ := argBest_lt (numAt ys) (ys.size - 1)
  refine ⟨.int _, H, I.kept (t' := tk) hk, ⟨t, rfl⟩, q _ ?_ fun a ha => ?_⟩
  · rw [hns, numAt_eq]; exact getD_mem (by rw [List.length_map, Array.length_toList]; omega)
  · rw [hns] at ha
    obtain ⟨j, hj, rfl⟩ := mem_getD ha
    rw [List.length_map, Array.length_toList] at hj
    rw [← numAt_eq]; exact h2 j (by omega)
end
end L2

namespace HT
open PySem PySem.Spec
section
open PySem.SeqAt
open PySem.AutoSeq1 (wpAny_loadPart')
open PySem.MeetsSeq PySem.MeetsSeq2 PySem.MeetsSeq3
end
end HT
namespace L2
open PySem PySem.Spec PyProof.Rows PySem.W
def LisN (h : Heap) (v : Value) (ns : List Int) : Prop := ∃ (a : Addr) (o : Obj) (n : Nat) (its : List Value), v = .ref a ∧ h.get? a = some o ∧ o.cls = .type "list" ∧ o.data = .seq its.toArray n ∧ Vals (ns.map V.int) its
theorem LisN.keep {h h' : Heap} {v : Value} {t : List Int} (e : LisN h v t) (k : ∀ b o, h.get? b = some o → h'.get? b = some o) : LisN h' v t := by
  obtain ⟨a, o, n, its, e1, e2, e3⟩ := e
  exact ⟨a, o, n, its, e1, k _ _ e2, e3⟩
section
variable {prog : Program} {w : World} {A : Around} {E : Value → Shared → Prop} {s : Shared}
theorem kind_lists {M : Model} {vs : List Value} (hT : ∀ v ∈ vs, ∃ ns, LisN s.heap v ns) {Q : SortKind → Shared → Prop} (h : ∀ κ, Q κ s) : wpAny M A (keyKind' vs.toArray) Q E s := by
  have ht : ∀ v ∈ vs, HasTy s.heap v := fun v hv => by
    obtain ⟨ns, a, o, n, its, e, ho, _⟩ := hT v hv
    exact .inr ⟨a, o, e, ho⟩
  rw [kat_kind_eq, List.mapM_toArray, map_eq_pure_bind]
  refine wpAny_bind (wpAny_bind (mapM_each (R := fun b => b = none) (fun v hm Q' hq => ?_) fun bs hbs => wpAny_pure ?_))
  · obtain ⟨ns, a, o, n, its, rfl, ho, hc, hd, r⟩ := hT v hm
    rw [kas_first_eq]
    refine wpAny_bind (Looks.here (show Looks M s.heap (typeOf (.ref a)) o.cls from (Looks.ld ho).andThen .now) ?_)
    rw [hc, if_pos (by first | decide | simp)]
    exact wpAny_pure (hq _ rfl)
  · split
    · refine wpAny_bind (wpAny_rule ?_)
      have e : bs.toArray.filterMap id = (bs.filterMap id).toArray := by simp
      rw [e]
      refine wpAny_bind (one_type (fun v hv => ?_) fun b => wpAny_pure (h _))
      obtain ⟨b, hb, e⟩ := List.mem_filterMap.mp hv
      rw [hbs b hb] at e
      cases e
    · split
      · exact wpAny_pure (h _)
      · exact wpAny_bind (one_type ht fun b => wpAny_pure (h _))
end
section
variable {X : Cx}
end
end L2

namespace L2
open PySem PySem.Spec PyProof.Rows
section
variable {X : Cx}
end
end L2

namespace PyProof.Rows
open PySem
def rk (r : Keyed → Int) (xs : Array Keyed) (i : Nat) : Int := (xs[i]?.map r).getD 0
section
variable {r : Keyed → Int} {xs zs : Array Keyed} {i j : Nat}
theorem rk_of (h : i < xs.size) : rk r xs i = r xs[i] := by unfold rk; rw [Array.getElem?_eq_getElem h]; rfl
theorem rk_congr (h : xs[i]? = zs[j]?) : rk r xs i = rk r zs j := by unfold rk; rw [h]
theorem rk_push (v : Keyed) : rk r (xs.push v) i = if i < xs.size then rk r xs i else if i = xs.size then r v else 0 := by
  unfold rk
  rw [Array.getElem?_push]
  by_cases h : i = xs.size
  · subst h
    simp
  · rw [if_neg h, if_neg h]
    by_cases h2 : i < xs.size
    · rw [if_pos h2]
    · rw [if_neg h2, Array.getElem?_eq_none (by omega)]
      rfl
theorem rk_append : rk r (xs ++ zs) i = if i < xs.size then rk r xs i else rk r zs (i - xs.size) := by
  unfold rk
  rw [Array.getElem?_append]
  split <;> rfl
theorem rk_extract {p q : Nat} : rk r (xs.extract p q) i = if i < min q xs.size - p then rk r xs (p + i) else 0 := by
  unfold rk
  rw [Array.getElem?_extract]
  split <;> rfl
theorem rk_reverse : rk r xs.reverse i = if i < xs.size then rk r xs (xs.size - 1 - i) else 0 := by
  unfold rk
  by_cases h : i < xs.size
  · rw [if_pos h, Array.getElem?_reverse h]
  · rw [if_neg h, Array.getElem?_eq_none (by rw [Array.size_reverse]; omega)]
    rfl
end
def Asc (r : Keyed → Int) (xs : Array Keyed) (lo hi : Nat) : Prop := ∀ i j, lo ≤ i → i ≤ j → j < hi → rk r xs i ≤ rk r xs j
def AsksR (prog : Program) (w : World) (A : Around) (s : Shared) (κ : SortKind) (ys : List Keyed) (r : Keyed → Int) : Prop :=
  ∀ x y : Keyed, x ∈ ys → y ∈ ys → ∀ Q : Bool → Shared → Prop, Q (decide (r x < r y)) s → wpAny (model prog w) A (keyLt' κ x.1 y.1) Q (fun _ _ => False) s
section
variable {prog : Program} {w : World} {A : Around} {E : Value → Shared → Prop} {s : Shared} {st : SortSt} {κ : SortKind} {ys : List Keyed} {r : Keyed → Int}
theorem wpS_ltR (ha : AsksR prog w A s κ ys r) (hk : kindOf st = κ) {x y : Keyed} (hx : x ∈ ys) (hy : y ∈ ys) {Q : Option Bool → SortSt → Prop} (h : Q (some (decide (r x < r y))) st) : wpS (model prog w) A E s (lt' x y) Q st := by
  rw [lt'_eq]
  refine wpS_bind (wpS_get ?_)
  rw [hk]
  refine wpS_bind (wpS_liftA (wpAny_attempt (wpAny_mono (ha x y hx hy (fun b s' => s' = s ∧ b = decide (r x < r y)) ⟨rfl, rfl⟩) (fun b s' e => ?_) fun _ _ e => e.elim)))
  obtain ⟨e1, rfl⟩ := e
  exact ⟨e1, wpS_pure h⟩
theorem wpS_gallopB {left : Bool} {key : Keyed} {arr : Array Keyed} {base n hint : Nat} (B : Nat → Bool)
    (bey : ∀ (i : Nat), i < n → ∀ {Q' : Option Bool → SortSt → Prop}, Q' (some (B i)) st → wpS (model prog w) A E s (do
      let x ← elem' arr (base + i)
      if left = true then lt' x key else do
        let r ← lt' key x
        pure (Option.map (fun x => !x) r)) Q' st)
    (mono : ∀ i j, i ≤ j → j < n → B j = true → B i = true) (hh : hint < n)
    {Q : Option Nat → SortSt → Prop} (h : ∀ k, k ≤ n → (∀ i, i < k → B i = true) → (∀ i, k ≤ i → i < n → B i = false) → Q (some k) st) : wpS (model prog w) A E s (gallop' left key arr base n hint) Q st := by
  have monoF : ∀ i j, i ≤ j → j < n → B i = false → B j = false := fun i j h1 h2 h3 => by
    cases e : B j with
    | false => rfl
    | true => rw [mono i j h1 h2 e] at h3; cases h3
  have fin : ∀ lo0 hi0, lo0 ≤ hi0 → hi0 ≤ n → (∀ i, i < lo0 → B i = true) → (∀ i, hi0 ≤ i → i < n → B i = false) → True := fun _ _ _ _ _ _ => trivial
  refine wpS_bind (bey hint hh ?_)
  dsimp only
  cases eB : B hint with
  | true =>
    simp only [if_true]
    refine wpS_bind (wpS_mono (wpS_forRange (I := fun x c st' => st' = st ∧ ∃ l o, c = (none, l, o) ∧ l < o ∧ hint + l < n ∧ B (hint + l) = true ∧ x + 1 ≤ o) (Q := fun c st' => st' = st ∧ ∃ l o, c = (none, l, o) ∧ l < o ∧ hint + l < n ∧ B (hint + l) = true ∧ (n - hint ≤ o ∨ (hint + o < n ∧ B (hint + o) = false))) ?_ ?_ ⟨rfl, _, _, rfl, by omega, by omega, eB, by omega⟩) ?_)
    · rintro i c st' _ hi ⟨rfl, l, o, rfl, h1, h2, h3, h4⟩
      dsimp only
      split
      · exact wpS_pure ⟨rfl, _, _, rfl, h1, h2, h3, .inl (by omega)⟩
      · refine wpS_bind (bey (hint + o) (by omega) ?_)
        cases e : B (hint + o) with
        | true => exact wpS_pure ⟨rfl, _, _, rfl, by omega, by omega, e, by omega⟩
        | false => exact wpS_pure ⟨rfl, _, _, rfl, h1, h2, h3, .inr ⟨by omega, e⟩⟩
    · rintro c st' ⟨rfl, l, o, rfl, h1, h2, h3, h4⟩
      exact ⟨rfl, _, _, rfl, h1, h2, h3, .inl (by omega)⟩
    · rintro c st' ⟨rfl, l, o, rfl, h1, h2, h3, h4⟩
      dsimp only
      refine wpS_bind (wpS_mono (wpS_forRange (I := fun x c st'' => st'' = st' ∧ ∃ lo hi, c = (none, lo, hi) ∧ lo ≤ hi ∧ hi ≤ n ∧ hi - lo ≤ n - x ∧ (∀ i, i < lo → B i = true) ∧ (∀ i, hi ≤ i → i < n → B i = false)) (Q := fun c st'' => st'' = st' ∧ ∃ lo hi, c = (none, lo, hi) ∧ lo = hi ∧ hi ≤ n ∧ (∀ i, i < lo → B i = true) ∧ (∀ i, hi ≤ i → i < n → B i = false)) ?_ ?_ ⟨rfl, _, _, rfl, by omega, by omega, by omega, fun i hi => mono i (hint + l) (by omega) h2 h3, fun i hi1 hi2 => ?_⟩) ?_)
      · rintro i c st'' _ hi ⟨rfl, lo, hi', rfl, g1, g2, g3, g4, g5⟩
        dsimp only
        split
        · exact wpS_pure ⟨rfl, _, _, rfl, by omega, g2, g4, g5⟩
        · refine wpS_bind (bey _ (by omega) ?_)
          cases e : B (lo + (hi' - lo) / 2) with
          | true => exact wpS_pure ⟨rfl, _, _, rfl, by omega, by omega, by omega, fun i hi => mono i _ (by omega) (by omega) e, g5⟩
          | false => exact wpS_pure ⟨rfl, _, _, rfl, by omega, by omega, by omega, g4, fun i h1 h2 => monoF _ i (by omega) h2 e⟩
      · rintro c st'' ⟨rfl, lo, hi', rfl, g1, g2, g3, g4, g5⟩
        exact ⟨rfl, _, _, rfl, by omega, g2, g4, g5⟩
      · rcases h4 with h4 | ⟨h4, h5⟩
        · omega
        · exact monoF _ i (by omega) hi2 h5
      · rintro c st'' ⟨rfl, lo, hi', rfl, rfl, g2, g4, g5⟩
        exact wpS_pure (h _ g2 g4 g5)
  | false =>
    simp only [Bool.false_eq_true, if_false]
    refine wpS_bind (wpS_mono (wpS_forRange (I := fun x c st' => st' = st ∧ ∃ l o, c = (none, l, o) ∧ l < o ∧ l ≤ hint ∧ B (hint - l) = false ∧ x + 1 ≤ o) (Q := fun c st' => st' = st ∧ ∃ l o, c = (none, l, o) ∧ l < o ∧ l ≤ hint ∧ B (hint - l) = false ∧ (hint + 1 ≤ o ∨ (o ≤ hint ∧ B (hint - o) = true))) ?_ ?_ ⟨rfl, _, _, rfl, by omega, by omega, eB, by omega⟩) ?_)
    · rintro i c st' _ hi ⟨rfl, l, o, rfl, h1, h2, h3, h4⟩
      dsimp only
      split
      · exact wpS_pure ⟨rfl, _, _, rfl, h1, h2, h3, .inl (by omega)⟩
      · refine wpS_bind (bey (hint - o) (by omega) ?_)
        cases e : B (hint - o) with
        | true => exact wpS_pure ⟨rfl, _, _, rfl, h1, h2, h3, .inr ⟨by omega, e⟩⟩
        | false => exact wpS_pure ⟨rfl, _, _, rfl, by omega, by omega, e, by omega⟩
    · rintro c st' ⟨rfl, l, o, rfl, h1, h2, h3, h4⟩
      exact ⟨rfl, _, _, rfl, h1, h2, h3, .inl (by omega)⟩
    · rintro c st' ⟨rfl, l, o, rfl, h1, h2, h3, h4⟩
      dsimp only
      refine wpS_bind (wpS_mono (wpS_forRange (I := fun x c st'' => st'' = st' ∧ ∃ lo hi, c = (none, lo, hi) ∧ lo ≤ hi ∧ hi ≤ n ∧ hi - lo ≤ n - x ∧ (∀ i, i < lo → B i = true) ∧ (∀ i, hi ≤ i → i < n → B i = false)) (Q := fun c st'' => st'' = st' ∧ ∃ lo hi, c = (none, lo, hi) ∧ lo = hi ∧ hi ≤ n ∧ (∀ i, i < lo → B i = true) ∧ (∀ i, hi ≤ i → i < n → B i = false)) ?_ ?_ ⟨rfl, _, _, rfl, by omega, by omega, by omega, fun i hi => ?_, fun i hi1 hi2 => monoF (hint - l) i (by omega) hi2 h3⟩) ?_)
      · rintro i c st'' _ hi ⟨rfl, lo, hi', rfl, g1, g2, g3, g4, g5⟩
        dsimp only
        split
        · exact wpS_pure ⟨rfl, _, _, rfl, by omega, g2, g4, g5⟩
        · refine wpS_bind (bey _ (by omega) ?_)
          cases e : B (lo + (hi' - lo) / 2) with
          | true => exact wpS_pure ⟨rfl, _, _, rfl, by omega, by omega, by omega, fun i hi => mono i _ (by omega) (by omega) e, g5⟩
          | false => exact wpS_pure ⟨rfl, _, _, rfl, by omega, by omega, by omega, g4, fun i h1 h2 => monoF _ i (by omega) h2 e⟩
      · rintro c st'' ⟨rfl, lo, hi', rfl, g1, g2, g3, g4, g5⟩
        exact ⟨rfl, _, _, rfl, by omega, g2, g4, g5⟩
      · rcases h4 with h4 | ⟨h4, h5⟩
        · omega
        · exact mono i (hint - o) (by omega) (by omega) h5
      · rintro c st'' ⟨rfl, lo, hi', rfl, rfl, g2, g4, g5⟩
        exact wpS_pure (h _ g2 g4 g5)
theorem wpS_gallopF (ha : AsksR prog w A s κ ys r) (hk : kindOf st = κ) {z arr : Array Keyed} {p base n hint : Nat} {hp : p < z.size} (hkey : z[p] ∈ ys) (harr : ∀ i, i < n → ∃ h : base + i < arr.size, arr[base + i] ∈ ys) (hs : Asc r arr base (base + n)) (hh : hint < n)
    {Q : Option Nat → SortSt → Prop} (h : ∀ k, k ≤ n → (∀ j, base ≤ j → j < base + k → rk r arr j ≤ rk r z p) → (∀ j, base + k ≤ j → j < base + n → rk r z p < rk r arr j) → Q (some k) st) : wpS (model prog w) A E s (gallop' false z[p] arr base n hint) Q st := by
  refine wpS_gallopB (fun i => !decide (r z[p] < rk r arr (base + i))) (fun i hi {Q'} q => ?_) (fun i j hij hj hB => ?_) hh fun k k1 k2 k3 => ?_
  · obtain ⟨h1, h2⟩ := harr i hi
    refine wpS_bind (wpS_elemA h1 ?_)
    refine wpS_bind (wpS_ltR ha hk hkey h2 (wpS_pure ?_))
    rw [rk_of h1] at q
    exact q
  · have := hs (base + i) (base + j) (by omega) (by omega) (by omega)
    simp only [Bool.not_eq_true', decide_eq_false_iff_not] at hB ⊢
    omega
  · rw [rk_of hp] at h
    refine h k k1 (fun j h1 h2 => ?_) (fun j h1 h2 => ?_)
    · have z := k2 (j - base) (by omega)
      simp only [Bool.not_eq_true', decide_eq_false_iff_not] at z
      rw [show base + (j - base) = j by omega] at z
      omega
    · have z := k3 (j - base) (by omega) (by omega)
      simp only [Bool.not_eq_false', decide_eq_true_eq] at z
      rw [show base + (j - base) = j by omega] at z
      omega
theorem wpS_gallopT (ha : AsksR prog w A s κ ys r) (hk : kindOf st = κ) {z arr : Array Keyed} {p base n hint : Nat} {hp : p < z.size} (hkey : z[p] ∈ ys) (harr : ∀ i, i < n → ∃ h : base + i < arr.size, arr[base + i] ∈ ys) (hs : Asc r arr base (base + n)) (hh : hint < n)
    {Q : Option Nat → SortSt → Prop} (h : ∀ k, k ≤ n → (∀ j, base ≤ j → j < base + k → rk r arr j < rk r z p) → (∀ j, base + k ≤ j → j < base + n → rk r z p ≤ rk r arr j) → Q (some k) st) : wpS (model prog w) A E s (gallop' true z[p] arr base n hint) Q st := by
  refine wpS_gallopB (fun i => decide (rk r arr (base + i) < r z[p])) (fun i hi {Q'} q => ?_) (fun i j hij hj hB => ?_) hh fun k k1 k2 k3 => ?_
  · obtain ⟨h1, h2⟩ := harr i hi
    refine wpS_bind (wpS_elemA h1 ?_)
    rw [rk_of h1] at q
    exact wpS_ltR ha hk h2 hkey q
  · have := hs (base + i) (base + j) (by omega) (by omega) (by omega)
    simp only [decide_eq_true_eq] at hB ⊢
    omega
  · rw [rk_of hp] at h
    refine h k k1 (fun j h1 h2 => ?_) (fun j h1 h2 => ?_)
    · have z := k2 (j - base) (by omega)
      simp only [decide_eq_true_eq] at z
      rw [show base + (j - base) = j by omega] at z
      omega
    · have z := k3 (j - base) (by omega) (by omega)
      simp only [decide_eq_false_iff_not] at z
      rw [show base + (j - base) = j by omega] at z
      omega
end
structure TookR (r : Keyed → Int) (x y out : Array Keyed) (ia ib : Nat) : Prop extends Took x y out ia ib where
  srt : ∀ i j, i ≤ j → j < out.size → rk r out i ≤ rk r out j
  oa : ∀ i j, i < out.size → ia ≤ j → j < x.size → rk r out i ≤ rk r x j
  ob : ∀ i j, i < out.size → ib ≤ j → j < y.size → rk r out i ≤ rk r y j
section
variable {r : Keyed → Int} {xs zs : Array Keyed} {v : Keyed}
theorem rk_push_l (i : Nat) (h : i < xs.size) : rk r (xs.push v) i = rk r xs i := by rw [rk_push, if_pos h]
theorem rk_push_r (i : Nat) (h : i = xs.size) : rk r (xs.push v) i = r v := by rw [rk_push, if_neg (by omega), if_pos h]
theorem rk_app_l (i : Nat) (h : i < xs.size) : rk r (xs ++ zs) i = rk r xs i := by rw [rk_append, if_pos h]
theorem rk_app_r (i : Nat) (h : xs.size ≤ i) : rk r (xs ++ zs) i = rk r zs (i - xs.size) := by rw [rk_append, if_neg (by omega)]
theorem rk_ext {p q : Nat} (i : Nat) (hq : q ≤ xs.size) (h : i < q - p) : rk r (xs.extract p q) i = rk r xs (p + i) := by rw [rk_extract, if_pos (by omega)]
theorem rk_rev (i : Nat) (h : i < xs.size) : rk r xs.reverse i = rk r xs (xs.size - 1 - i) := by rw [rk_reverse, if_pos h]
end
section
variable {r : Keyed → Int} {x y out : Array Keyed} {ia ib : Nat}
theorem TookR.b (t : TookR r x y out ia ib) (sx : Asc r x 0 x.size) (sy : Asc r y 0 y.size) (h : ib < y.size) (o : ia < x.size → rk r y ib ≤ rk r x ia) : TookR r x y (out.push y[ib]) ia (ib + 1) := by
  refine ⟨t.toTook.b h, fun i j hij hj => ?_, fun i j hi hj hj2 => ?_, fun i j hi hj hj2 => ?_⟩
  · rw [Array.size_push] at hj
    by_cases c : j < out.size
    · rw [rk_push_l i (by omega), rk_push_l j c]
      exact t.srt i j hij c
    · rw [rk_push_r j (by omega), ← rk_of (r := r) h]
      by_cases c2 : i < out.size
      · rw [rk_push_l i c2]
        exact t.ob i ib c2 (Nat.le_refl _) h
      · rw [rk_push_r i (by omega), ← rk_of (r := r) h]
        exact Int.le_refl _
  · rw [Array.size_push] at hi
    by_cases c2 : i < out.size
    · rw [rk_push_l i c2]
      exact t.oa i j c2 hj hj2
    · rw [rk_push_r i (by omega), ← rk_of (r := r) h]
      exact Int.le_trans (o (by omega)) (sx ia j (Nat.zero_le _) hj hj2)
  · rw [Array.size_push] at hi
    by_cases c2 : i < out.size
    · rw [rk_push_l i c2]
      exact t.ob i j c2 (by omega) hj2
    · rw [rk_push_r i (by omega), ← rk_of (r := r) h]
      exact sy ib j (Nat.zero_le _) (by omega) hj2
theorem TookR.a (t : TookR r x y out ia ib) (sx : Asc r x 0 x.size) (sy : Asc r y 0 y.size) (h : ia < x.size) (o : ib < y.size → rk r x ia ≤ rk r y ib) : TookR r x y (out.push x[ia]) (ia + 1) ib := by
  refine ⟨t.toTook.a h, fun i j hij hj => ?_, fun i j hi hj hj2 => ?_, fun i j hi hj hj2 => ?_⟩
  · rw [Array.size_push] at hj
    by_cases c : j < out.size
    · rw [rk_push_l i (by omega), rk_push_l j c]
      exact t.srt i j hij c
    · rw [rk_push_r j (by omega), ← rk_of (r := r) h]
      by_cases c2 : i < out.size
      · rw [rk_push_l i c2]
        exact t.oa i ia c2 (Nat.le_refl _) h
      · rw [rk_push_r i (by omega), ← rk_of (r := r) h]
        exact Int.le_refl _
  · rw [Array.size_push] at hi
    by_cases c2 : i < out.size
    · rw [rk_push_l i c2]
      exact t.oa i j c2 (by omega) hj2
    · rw [rk_push_r i (by omega), ← rk_of (r := r) h]
      exact sx ia j (Nat.zero_le _) (by omega) hj2
  · rw [Array.size_push] at hi
    by_cases c2 : i < out.size
    · rw [rk_push_l i c2]
      exact t.ob i j c2 hj hj2
    · rw [rk_push_r i (by omega), ← rk_of (r := r) h]
      exact Int.le_trans (o (by omega)) (sy ib j (Nat.zero_le _) hj hj2)
theorem TookR.as (t : TookR r x y out ia ib) (sx : Asc r x 0 x.size) (sy : Asc r y 0 y.size) {k : Nat} (h : ia + k ≤ x.size) (o : ∀ j, ia ≤ j → j < ia + k → rk r x j ≤ rk r y ib) : TookR r x y (out ++ x.extract ia (ia + k)) (ia + k) ib := by
  have es : (x.extract ia (ia + k)).size = k := by rw [Array.size_extract]; omega
  refine ⟨t.toTook.as h, fun i j hij hj => ?_, fun i j hi hj hj2 => ?_, fun i j hi hj hj2 => ?_⟩
  · rw [Array.size_append, es] at hj
    by_cases c : j < out.size
    · rw [rk_app_l i (by omega), rk_app_l j c]
      exact t.srt i j hij c
    · rw [rk_app_r j (by omega), rk_ext _ h (by omega)]
      by_cases c2 : i < out.size
      · rw [rk_app_l i c2]
        exact t.oa i _ c2 (by omega) (by omega)
      · rw [rk_app_r i (by omega), rk_ext _ h (by omega)]
        exact sx _ _ (Nat.zero_le _) (by omega) (by omega)
  · rw [Array.size_append, es] at hi
    by_cases c2 : i < out.size
    · rw [rk_app_l i c2]
      exact t.oa i j c2 (by omega) hj2
    · rw [rk_app_r i (by omega), rk_ext _ h (by omega)]
      exact sx _ _ (Nat.zero_le _) (by omega) hj2
  · rw [Array.size_append, es] at hi
    by_cases c2 : i < out.size
    · rw [rk_app_l i c2]
      exact t.ob i j c2 hj hj2
    · rw [rk_app_r i (by omega), rk_ext _ h (by omega)]
      exact Int.le_trans (o _ (by omega) (by omega)) (sy ib j (Nat.zero_le _) hj hj2)
theorem TookR.bs (t : TookR r x y out ia ib) (sx : Asc r x 0 x.size) (sy : Asc r y 0 y.size) {k : Nat} (h : ib + k ≤ y.size) (o : ∀ j, ib ≤ j → j < ib + k → rk r y j ≤ rk r x ia) : TookR r x y (out ++ y.extract ib (ib + k)) ia (ib + k) := by
  have es : (y.extract ib (ib + k)).size = k := by rw [Array.size_extract]; omega
  refine ⟨t.toTook.bs h, fun i j hij hj => ?_, fun i j hi hj hj2 => ?_, fun i j hi hj hj2 => ?_⟩
  · rw [Array.size_append, es] at hj
    by_cases c : j < out.size
    · rw [rk_app_l i (by omega), rk_app_l j c]
      exact t.srt i j hij c
    · rw [rk_app_r j (by omega), rk_ext _ h (by omega)]
      by_cases c2 : i < out.size
      · rw [rk_app_l i c2]
        exact t.ob i _ c2 (by omega) (by omega)
      · rw [rk_app_r i (by omega), rk_ext _ h (by omega)]
        exact sy _ _ (Nat.zero_le _) (by omega) (by omega)
  · rw [Array.size_append, es] at hi
    by_cases c2 : i < out.size
    · rw [rk_app_l i c2]
      exact t.oa i j c2 hj hj2
    · rw [rk_app_r i (by omega), rk_ext _ h (by omega)]
      exact Int.le_trans (o _ (by omega) (by omega)) (sx ia j (Nat.zero_le _) hj hj2)
  · rw [Array.size_append, es] at hi
    by_cases c2 : i < out.size
    · rw [rk_app_l i c2]
      exact t.ob i j c2 (by omega) hj2
    · rw [rk_app_r i (by omega), rk_ext _ h (by omega)]
      exact sy _ _ (Nat.zero_le _) (by omega) hj2
def Laid (r : Keyed → Int) (x y z : Array Keyed) : Prop := z.toList.Perm (x.toList ++ y.toList) ∧ ∀ i j, i ≤ j → j < z.size → rk r z i ≤ rk r z j
theorem asc3 {o p q : Array Keyed} (h1 : ∀ i j, i ≤ j → j < o.size → rk r o i ≤ rk r o j) (h2 : ∀ i j, i ≤ j → j < p.size → rk r p i ≤ rk r p j) (h3 : ∀ i j, i ≤ j → j < q.size → rk r q i ≤ rk r q j)
    (h12 : ∀ i j, i < o.size → j < p.size → rk r o i ≤ rk r p j) (h13 : ∀ i j, i < o.size → j < q.size → rk r o i ≤ rk r q j) (h23 : ∀ i j, i < p.size → j < q.size → rk r p i ≤ rk r q j) : ∀ i j, i ≤ j → j < (o ++ p ++ q).size → rk r (o ++ p ++ q) i ≤ rk r (o ++ p ++ q) j := by
  intro i j hij hj
  rw [Array.size_append, Array.size_append] at hj
  have e : (o ++ p).size = o.size + p.size := Array.size_append
  by_cases c1 : i < o.size
  · rw [rk_app_l i (by omega), rk_app_l i c1]
    by_cases d1 : j < o.size
    · rw [rk_app_l j (by omega), rk_app_l j d1]
      exact h1 i j hij d1
    · by_cases d2 : j < o.size + p.size
      · rw [rk_app_l j (by omega), rk_app_r j (by omega)]
        exact h12 _ _ c1 (by omega)
      · rw [rk_app_r j (by omega)]
        exact h13 _ _ c1 (by omega)
  · by_cases c2 : i < o.size + p.size
    · rw [rk_app_l i (by omega), rk_app_r i (by omega)]
      by_cases d2 : j < o.size + p.size
      · rw [rk_app_l j (by omega), rk_app_r j (by omega)]
        exact h2 _ _ (by omega) (by omega)
      · rw [rk_app_r j (by omega)]
        exact h23 _ _ (by omega) (by omega)
    · rw [rk_app_r i (by omega), rk_app_r j (by omega)]
      exact h3 _ _ (by omega) (by omega)
theorem asc_ext {p q : Nat} (sx : Asc r x 0 x.size) (hq : q ≤ x.size) : ∀ i j, i ≤ j → j < (x.extract p q).size → rk r (x.extract p q) i ≤ rk r (x.extract p q) j := by
  intro i j hij hj
  rw [Array.size_extract] at hj
  rw [rk_ext i hq (by omega), rk_ext j hq (by omega)]
  exact sx _ _ (Nat.zero_le _) (by omega) (by omega)
theorem TookR.done (t : TookR r x y out ia ib) (sx : Asc r x 0 x.size) (sy : Asc r y 0 y.size) (e : ia = x.size ∨ ib = y.size) : Laid r x y (out ++ x.extract ia x.size ++ y.extract ib y.size) := by
  have la := t.la
  have lb := t.lb
  refine ⟨t.toTook.done, asc3 t.srt (asc_ext sx (Nat.le_refl _)) (asc_ext sy (Nat.le_refl _)) (fun i j hi hj => ?_) (fun i j hi hj => ?_) fun i j hi hj => ?_⟩
  · rw [Array.size_extract] at hj
    rw [rk_ext j (Nat.le_refl _) (by omega)]
    exact t.oa _ _ hi (by omega) (by omega)
  · rw [Array.size_extract] at hj
    rw [rk_ext j (Nat.le_refl _) (by omega)]
    exact t.ob _ _ hi (by omega) (by omega)
  · rw [Array.size_extract] at hi hj
    omega
theorem TookR.last (t : TookR r x y out ia ib) (sx : Asc r x 0 x.size) (sy : Asc r y 0 y.size) (e : ia + 1 = x.size) (p2 : ∀ j, j < y.size → rk r y j ≤ rk r x (x.size - 1)) : Laid r x y (out ++ y.extract ib y.size ++ x.extract ia x.size) := by
  have la := t.la
  have lb := t.lb
  refine ⟨t.toTook.last, asc3 t.srt (asc_ext sy (Nat.le_refl _)) (asc_ext sx (Nat.le_refl _)) (fun i j hi hj => ?_) (fun i j hi hj => ?_) fun i j hi hj => ?_⟩
  · rw [Array.size_extract] at hj
    rw [rk_ext j (Nat.le_refl _) (by omega)]
    exact t.ob _ _ hi (by omega) (by omega)
  · rw [Array.size_extract] at hj
    rw [rk_ext j (Nat.le_refl _) (by omega)]
    exact t.oa _ _ hi (by omega) (by omega)
  · rw [Array.size_extract] at hi hj
    rw [rk_ext j (Nat.le_refl _) (by omega), rk_ext i (Nat.le_refl _) (by omega), show ia + j = x.size - 1 by omega]
    exact p2 _ (by omega)
end
section
variable {prog : Program} {w : World} {A : Around} {E : Value → Shared → Prop} {s : Shared} {st : SortSt}
theorem wpS_shareM {α : Type} {G : Prop} {code : Nat → StateT SortSt Sem α} {P : Nat → SortSt → Prop} {Q : α → SortSt → Prop} (use : (∀ n st2, P n st2 → wpS (model prog w) A E s (code n) Q st2) → G) (H : ∀ n st2, P n st2 → wpS (model prog w) A E s (code n) Q st2) : G := use H
theorem wpS_share2 {α : Type} {G : Prop} {code : Array Keyed → Nat → StateT SortSt Sem α} {P : Array Keyed → Nat → Prop} {Q : α → SortSt → Prop} (use : (∀ o n, P o n → wpS (model prog w) A E s (code o n) Q st) → G) (H : ∀ o n, P o n → wpS (model prog w) A E s (code o n) Q st) : G := use H
end
section
variable {prog : Program} {w : World} {A : Around} {E : Value → Shared → Prop} {s : Shared} {st : SortSt} {κ : SortKind} {ys : List Keyed} {r : Keyed → Int}
theorem wpS_mergeLoR (ha : AsksR prog w A s κ ys r) (hk : kindOf st = κ) {a b : Array Keyed} (hae : ∀ u ∈ a.toList, u ∈ ys) (hbe : ∀ u ∈ b.toList, u ∈ ys) (ha0 : 0 < a.size) (hb0 : 0 < b.size) (sa : Asc r a 0 a.size) (sb : Asc r b 0 b.size) (p1 : rk r b 0 ≤ rk r a 0) (p2 : ∀ j, j < b.size → rk r b j ≤ rk r a (a.size - 1)) {Q : Array Keyed → SortSt → Prop}
    (h : ∀ out st', Keep st st' → Laid r a b out → Q out st') : wpS (model prog w) A E s (mergeLo' a b) Q st := by
  have am : ∀ i, (hi : i < a.size) → a[i] ∈ ys := fun i hi => hae _ (by rw [← Array.getElem_toList]; exact List.getElem_mem _)
  have bm : ∀ i, (hi : i < b.size) → b[i] ∈ ys := fun i hi => hbe _ (by rw [← Array.getElem_toList]; exact List.getElem_mem _)
  refine wpS_bind (wpS_liftA (wpAny_rule ⟨rfl, ?_⟩))
  refine wpS_bind (wpS_elemA hb0 ?_)
  dsimp only
  have t0 : TookR r a b #[b[0]] 0 1 := by
    have t1 : Took a b #[] 0 0 := ⟨by simp, Nat.zero_le _, Nat.zero_le _⟩
    have t2 : TookR r a b #[] 0 0 := ⟨t1, fun i j _ hj => absurd hj (Nat.not_lt_zero _), fun i j hi => absurd hi (Nat.not_lt_zero _), fun i j hi => absurd hi (Nat.not_lt_zero _)⟩
    exact t2.b sa sb hb0 fun _ => p1
  by_cases nb1 : (1 == b.size) = true
  · rw [if_pos nb1]
    exact wpS_pure (h _ _ (Keep.refl _) (t0.done sa sb (.inr (by simpa using nb1))))
  rw [if_neg nb1]
  by_cases na1 : (0 + 1 == a.size) = true
  · rw [if_pos na1]
    exact wpS_pure (h _ _ (Keep.refl _) (t0.last sa sb (by simpa using na1) p2))
  rw [if_neg na1]
  have nb1 : 1 < b.size := by simp at nb1; omega
  have na1 : 1 < a.size := by simp at na1; omega
  refine wpS_bind (wpS_get ?_)
  refine wpS_bind (wpS_mono (wpS_forRange (I := fun i c st' => Keep st st' ∧ ∃ out ia ib mg, c = (none, out, ia, ib, mg) ∧ TookR r a b out ia ib ∧ ia + 1 < a.size ∧ ib < b.size ∧ i + 1 ≤ ia + ib)
    (Q := fun c st' => Keep st st' ∧ ∃ z out ia ib mg, c = (some z, out, ia, ib, mg) ∧ Laid r a b z) ?_ ?_ ⟨Keep.refl _, _, _, _, _, rfl, t0, na1, nb1, Nat.le_refl _⟩) ?_)
  · rintro i c st1 _ hi ⟨kp, out, ia, ib, mg, rfl, tk, la, lb, pr⟩
    refine wpS_bind (wpS_mono (wpS_forRange (I := fun j c st' => Keep st st' ∧ ∃ out' ia' ib' ac bc, c = (none, out', ia', ib', ac, bc) ∧ TookR r a b out' ia' ib' ∧ ia' + 1 < a.size ∧ ib' < b.size ∧ i + 1 + j ≤ ia' + ib')
      (Q := fun c st' => Keep st st' ∧ ∃ z' out' ia' ib' ac bc, c = (z', out', ia', ib', ac, bc) ∧ ((∃ z, z' = some z ∧ Laid r a b z) ∨ (z' = none ∧ TookR r a b out' ia' ib' ∧ ia' + 1 < a.size ∧ ib' < b.size ∧ i + 2 ≤ ia' + ib'))) ?_ ?_ ⟨kp, _, _, _, _, _, rfl, tk, la, lb, by omega⟩) ?_)
    · rintro j c st2 _ hj ⟨kp2, out, ia, ib, ac, bc, rfl, tk, la, lb, pr⟩
      have la0 : ia < a.size := by omega
      refine wpS_bind (wpS_elemA lb (wpS_bind (wpS_elemA la0 (wpS_bind (wpS_ltR ha (kp2.1.trans hk) (bm ib lb) (am ia la0) ?_)))))
      rw [← rk_of (r := r) lb, ← rk_of (r := r) la0]
      by_cases win : rk r b ib < rk r a ia
      · rw [decide_eq_true win]
        refine wpS_bind (wpS_elemA lb ?_)
        have tk' := tk.b sa sb lb fun _ => Int.le_of_lt win
        by_cases e1 : (ib + 1 == b.size) = true
        · refine Eq.mpr (congrArg (fun m => wpS _ _ _ _ m _ _) (if_pos e1)) ?_
          exact wpS_pure ⟨kp2, _, _, _, _, _, _, rfl, .inl ⟨_, rfl, tk'.done sa sb (.inr (by simpa using e1))⟩⟩
        · refine Eq.mpr (congrArg (fun m => wpS _ _ _ _ m _ _) (if_neg e1)) ?_
          have lb' : ib + 1 < b.size := by simp at e1; omega
          by_cases e2 : bc + 1 ≥ mg
          · refine Eq.mpr (congrArg (fun m => wpS _ _ _ _ m _ _) (if_pos e2)) ?_
            exact wpS_pure ⟨kp2, none, _, ia, ib + 1, 0, bc + 1, rfl, .inr ⟨rfl, tk', la, lb', by omega⟩⟩
          · refine Eq.mpr (congrArg (fun m => wpS _ _ _ _ m _ _) (if_neg e2)) ?_
            exact wpS_pure ⟨kp2, _, ia, ib + 1, 0, bc + 1, rfl, tk', la, lb', by omega⟩
      · rw [decide_eq_false win]
        refine wpS_bind (wpS_elemA la0 ?_)
        have tk' := tk.a sa sb la0 fun _ => Int.not_lt.mp win
        by_cases e1 : (ia + 1 + 1 == a.size) = true
        · refine Eq.mpr (congrArg (fun m => wpS _ _ _ _ m _ _) (if_pos e1)) ?_
          exact wpS_pure ⟨kp2, _, _, _, _, _, _, rfl, .inl ⟨_, rfl, tk'.last sa sb (by simpa using e1) p2⟩⟩
        · refine Eq.mpr (congrArg (fun m => wpS _ _ _ _ m _ _) (if_neg e1)) ?_
          have la' : ia + 1 + 1 < a.size := by simp at e1; omega
          by_cases e2 : ac + 1 ≥ mg
          · refine Eq.mpr (congrArg (fun m => wpS _ _ _ _ m _ _) (if_pos e2)) ?_
            exact wpS_pure ⟨kp2, none, _, ia + 1, ib, ac + 1, 0, rfl, .inr ⟨rfl, tk', la', lb, by omega⟩⟩
          · refine Eq.mpr (congrArg (fun m => wpS _ _ _ _ m _ _) (if_neg e2)) ?_
            exact wpS_pure ⟨kp2, _, ia + 1, ib, ac + 1, 0, rfl, tk', la', lb, by omega⟩
    · rintro c st2 ⟨_, out, ia, ib, ac, bc, rfl, _, h1, h2, h3⟩
      exfalso
      have : a.size + b.size ≤ max 0 (a.size + b.size) := Nat.le_max_right _ _
      omega
    · rintro c st2 ⟨kp2, z', out, ia, ib, ac, bc, rfl, hr⟩
      rcases hr with ⟨z, rfl, pm⟩ | ⟨rfl, tk, la, lb, pr⟩
      · exact wpS_pure ⟨kp2, _, _, _, _, _, rfl, pm⟩
      · refine wpS_bind (wpS_liftA (wpAny_rule ⟨rfl, ?_⟩))
        refine wpS_bind (wpS_mono (wpS_forRange (I := fun _ c st' => Keep st st' ∧ ∃ out' ia' ib' mg' ac' bc', c = (none, out', ia', ib', mg', ac', bc') ∧ TookR r a b out' ia' ib' ∧ ia' + 1 < a.size ∧ ib' < b.size ∧ i + 2 ≤ ia' + ib') (Q := fun c st' => Keep st st' ∧ ∃ z' out' ia' ib' mg' ac' bc', c = (z', out', ia', ib', mg', ac', bc') ∧ ((∃ z, z' = some z ∧ Laid r a b z) ∨ (z' = none ∧ TookR r a b out' ia' ib' ∧ ia' + 1 < a.size ∧ ib' < b.size ∧ i + 2 ≤ ia' + ib'))) ?_ ?_ ⟨kp2, _, _, _, _, _, _, rfl, tk, la, lb, pr⟩) ?_)
        · rintro j c st3 _ hj ⟨kp3, out, ia, ib, mg, ac, bc, rfl, tk, la, lb, pr⟩
          dsimp only
          revert mg
          apply wpS_shareM (prog := prog) (w := w) (A := A) (E := E) (s := s) (P := fun _ st' => Keep st st')
          case use =>
            intro H mg
            refine wpS_ite (fun e => ?_) (fun e => ?_)
            rotate_left
            · exact H mg _ kp3
            · exact H _ _ kp3
          clear kp3 st3
          intro mg st4 kp4
          refine wpS_bind (wpS_modify ?_)
          refine wpS_bind (wpS_elemA lb ?_)
          refine wpS_bind (wpS_gallopF ha ?g0 ?g1 ?g2 ?g5 ?g3 (fun k1 hk1 f1 f2 => ?_))
          case g0 => exact kp4.1.trans hk
          case g1 => exact bm _ lb
          case g2 => exact (fun i hi => ⟨by omega, am _ (by omega)⟩)
          case g3 => omega
          case g5 => exact fun i j h1 h2 h3 => sa i j (Nat.zero_le _) h2 (by omega)
          dsimp only
          revert out ia
          apply wpS_share2 (prog := prog) (w := w) (A := A) (E := E) (s := s) (P := fun out' ia' => TookR r a b out' ia' ib ∧ ia' + 1 < a.size ∧ rk r b ib ≤ rk r a ia' ∧ i + 2 ≤ ia' + ib)
          case use =>
            intro H out ia tk la pr hk1 f1 f2
            refine wpS_ite (fun e => ?_) (fun e => ?_)
            rotate_left
            · exact H out ia ⟨tk, la, Int.le_of_lt (f2 _ (by omega) (by omega)), pr⟩
            · have tk' := tk.as sa sb (k := k1) (by omega) f1
              refine wpS_iteB (fun e2 => ?_) (fun e2 => ?_)
              · exact wpS_pure ⟨kp4.trans ⟨rfl, rfl, rfl, rfl⟩, _, _, _, _, _, _, _, rfl, .inl ⟨_, rfl, tk'.last sa sb e2 p2⟩⟩
              refine wpS_iteB (fun e3 => ?_) (fun e3 => ?_)
              · exact wpS_pure ⟨kp4.trans ⟨rfl, rfl, rfl, rfl⟩, _, _, _, _, _, _, _, rfl, .inl ⟨_, rfl, tk'.done sa sb (.inl e3)⟩⟩
              exact H _ _ ⟨tk', by omega, Int.le_of_lt (f2 _ (by omega) (by omega)), by omega⟩
          rintro out ia' ⟨tk, la, o5, q5⟩
          refine wpS_bind (wpS_elemA lb ?_)
          have tk6 := tk.b sa sb lb fun _ => o5
          refine wpS_iteB (fun e => ?_) (fun e => ?_)
          · exact wpS_pure ⟨kp4.trans ⟨rfl, rfl, rfl, rfl⟩, _, _, _, _, _, _, _, rfl, .inl ⟨_, rfl, tk6.done sa sb (.inr e)⟩⟩
          have la0 : ia' < a.size := by omega
          refine wpS_bind (wpS_elemA la0 ?_)
          refine wpS_bind (wpS_gallopT ha ?g0 ?g1 ?g2 ?g5 ?g3 (fun k2 hk2 f3 f4 => ?_))
          case g0 => exact kp4.1.trans hk
          case g1 => exact am _ la0
          case g2 => exact (fun i hi => ⟨by omega, bm _ (by omega)⟩)
          case g3 => omega
          case g5 => exact fun i j h1 h2 h3 => sb i j (Nat.zero_le _) h2 (by omega)
          dsimp only
          generalize out.push b[ib] = out2 at tk6 ⊢
          clear tk o5
          have lb6 : ib + 1 < b.size := by omega
          have q6 : i + 3 ≤ ia' + (ib + 1) := by omega
          clear lb e q5
          generalize ib + 1 = ib2 at *
          revert out2 ib2
          apply wpS_share2 (prog := prog) (w := w) (A := A) (E := E) (s := s) (P := fun out' ib' => TookR r a b out' ia' ib' ∧ ib' < b.size ∧ rk r a ia' ≤ rk r b ib' ∧ i + 3 ≤ ia' + ib')
          case use =>
            intro H
            rintro out2 ib2
            intros
            rename_i hk2 f3 f4 tk6 lb6 q6
            refine wpS_ite (fun e => ?_) (fun e => ?_)
            rotate_left
            · exact H out2 ib2 ⟨tk6, lb6, f4 _ (by omega) (by omega), q6⟩
            · have tk' := tk6.bs sa sb (k := k2) (by omega) (fun j h1 h2 => Int.le_of_lt (f3 j h1 h2))
              refine wpS_iteB (fun e2 => ?_) (fun e2 => ?_)
              · exact wpS_pure ⟨kp4.trans ⟨rfl, rfl, rfl, rfl⟩, _, _, _, _, _, _, _, rfl, .inl ⟨_, rfl, tk'.done sa sb (.inr e2)⟩⟩
              exact H _ _ ⟨tk', by omega, f4 _ (by omega) (by omega), by omega⟩
          rintro out ib' ⟨tk, lb7, o7, q7⟩
          refine wpS_bind (wpS_elemA la0 ?_)
          have tk8 := tk.a sa sb la0 fun _ => o7
          refine wpS_iteB (fun e => ?_) (fun e => ?_)
          · exact wpS_pure ⟨kp4.trans ⟨rfl, rfl, rfl, rfl⟩, _, _, _, _, _, _, _, rfl, .inl ⟨_, rfl, tk8.last sa sb e p2⟩⟩
          refine wpS_ite (fun e => ?_) (fun e => ?_)
          · exact wpS_pure ⟨kp4.trans ⟨rfl, rfl, rfl, rfl⟩, _, _, _, _, _, _, _, rfl, .inr ⟨rfl, tk8, by omega, lb7, by omega⟩⟩
          · exact wpS_pure ⟨kp4.trans ⟨rfl, rfl, rfl, rfl⟩, _, _, _, _, _, _, rfl, tk8, by omega, lb7, by omega⟩
        · rintro c st3 ⟨kp3, out, ia, ib, mg, ac, bc, rfl, tk, la, lb, pr⟩
          exact ⟨kp3, _, _, _, _, _, _, _, rfl, .inr ⟨rfl, tk, la, lb, pr⟩⟩
        · rintro c st3 ⟨kp3, z', out, ia, ib, mg, ac, bc, rfl, hr⟩
          rcases hr with ⟨z, rfl, pm⟩ | ⟨rfl, tk, la, lb, pr⟩
          · exact wpS_pure ⟨kp3, _, _, _, _, _, rfl, pm⟩
          · refine wpS_bind (wpS_modify ?_)
            exact wpS_pure ⟨kp3.trans ⟨rfl, rfl, rfl, rfl⟩, _, _, _, _, rfl, tk, la, lb, by omega⟩
  · rintro c st' ⟨_, out, ia, ib, mg, rfl, _, h1, h2, h3⟩
    exfalso
    have : a.size + b.size ≤ max 0 (a.size + b.size) := Nat.le_max_right _ _
    omega
  · rintro c st' ⟨kp, z, out, ia, ib, mg, rfl, pm⟩
    exact wpS_pure (h _ _ kp pm)
end
structure LeftR (r : Keyed → Int) (x y out : Array Keyed) (na nb : Nat) : Prop extends Left x y out na nb where
  srt : ∀ i j, i ≤ j → j < out.size → rk r out j ≤ rk r out i
  oa : ∀ i j, i < out.size → j < na → rk r x j ≤ rk r out i
  ob : ∀ i j, i < out.size → j < nb → rk r y j ≤ rk r out i
section
variable {r : Keyed → Int} {x y out : Array Keyed} {na nb : Nat}
theorem LeftR.a (t : LeftR r x y out na nb) (sx : Asc r x 0 x.size) (sy : Asc r y 0 y.size) (h : 0 < na) (o : 0 < nb → rk r y (nb - 1) ≤ rk r x (na - 1)) : LeftR r x y (out.push (x[na - 1]'(by have := t.la; omega))) (na - 1) nb := by
  have la := t.la
  have lb := t.lb
  have hx : na - 1 < x.size := by omega
  refine ⟨t.toLeft.a h, fun i j hij hj => ?_, fun i j hi hj => ?_, fun i j hi hj => ?_⟩
  · rw [Array.size_push] at hj
    by_cases c : j < out.size
    · rw [rk_push_l i (by omega), rk_push_l j c]
      exact t.srt i j hij c
    · rw [rk_push_r j (by omega), ← rk_of (r := r) hx]
      by_cases c2 : i < out.size
      · rw [rk_push_l i c2]
        exact t.oa i _ c2 (by omega)
      · rw [rk_push_r i (by omega), ← rk_of (r := r) hx]
        exact Int.le_refl _
  · rw [Array.size_push] at hi
    by_cases c2 : i < out.size
    · rw [rk_push_l i c2]
      exact t.oa i j c2 (by omega)
    · rw [rk_push_r i (by omega), ← rk_of (r := r) hx]
      exact sx _ _ (Nat.zero_le _) (by omega) hx
  · rw [Array.size_push] at hi
    by_cases c2 : i < out.size
    · rw [rk_push_l i c2]
      exact t.ob i j c2 hj
    · rw [rk_push_r i (by omega), ← rk_of (r := r) hx]
      exact Int.le_trans (sy j (nb - 1) (Nat.zero_le _) (by omega) (by omega)) (o (by omega))
theorem LeftR.b (t : LeftR r x y out na nb) (sx : Asc r x 0 x.size) (sy : Asc r y 0 y.size) (h : 0 < nb) (o : 0 < na → rk r x (na - 1) ≤ rk r y (nb - 1)) : LeftR r x y (out.push (y[nb - 1]'(by have := t.lb; omega))) na (nb - 1) := by
  have la := t.la
  have lb := t.lb
  have hx : nb - 1 < y.size := by omega
  refine ⟨t.toLeft.b h, fun i j hij hj => ?_, fun i j hi hj => ?_, fun i j hi hj => ?_⟩
  · rw [Array.size_push] at hj
    by_cases c : j < out.size
    · rw [rk_push_l i (by omega), rk_push_l j c]
      exact t.srt i j hij c
    · rw [rk_push_r j (by omega), ← rk_of (r := r) hx]
      by_cases c2 : i < out.size
      · rw [rk_push_l i c2]
        exact t.ob i _ c2 (by omega)
      · rw [rk_push_r i (by omega), ← rk_of (r := r) hx]
        exact Int.le_refl _
  · rw [Array.size_push] at hi
    by_cases c2 : i < out.size
    · rw [rk_push_l i c2]
      exact t.oa i j c2 hj
    · rw [rk_push_r i (by omega), ← rk_of (r := r) hx]
      exact Int.le_trans (sx j (na - 1) (Nat.zero_le _) (by omega) (by omega)) (o (by omega))
  · rw [Array.size_push] at hi
    by_cases c2 : i < out.size
    · rw [rk_push_l i c2]
      exact t.ob i j c2 (by omega)
    · rw [rk_push_r i (by omega), ← rk_of (r := r) hx]
      exact sy _ _ (Nat.zero_le _) (by omega) hx
theorem LeftR.as (t : LeftR r x y out na nb) (sx : Asc r x 0 x.size) (sy : Asc r y 0 y.size) {k : Nat} (h : k ≤ na) (o : ∀ j, k ≤ j → j < na → rk r y (nb - 1) ≤ rk r x j) : LeftR r x y (out ++ (x.extract k na).reverse) k nb := by
  have la := t.la
  have lb := t.lb
  have es : (x.extract k na).size = na - k := by rw [Array.size_extract]; omega
  have er : (x.extract k na).reverse.size = na - k := by rw [Array.size_reverse, es]
  have at' : ∀ i, out.size ≤ i → i < out.size + (na - k) → rk r (out ++ (x.extract k na).reverse) i = rk r x (na - 1 - (i - out.size)) := fun i h1 h2 => by
    rw [rk_app_r i h1, rk_rev _ (by omega), rk_ext _ la (by omega), es]
    congr 1
    omega
  refine ⟨t.toLeft.as h, fun i j hij hj => ?_, fun i j hi hj => ?_, fun i j hi hj => ?_⟩
  · rw [Array.size_append, er] at hj
    by_cases c : j < out.size
    · rw [rk_app_l i (by omega), rk_app_l j c]
      exact t.srt i j hij c
    · rw [at' j (by omega) hj]
      by_cases c2 : i < out.size
      · rw [rk_app_l i c2]
        exact t.oa i _ c2 (by omega)
      · rw [at' i (by omega) (by omega)]
        exact sx _ _ (Nat.zero_le _) (by omega) (by omega)
  · rw [Array.size_append, er] at hi
    by_cases c2 : i < out.size
    · rw [rk_app_l i c2]
      exact t.oa i j c2 (by omega)
    · rw [at' i (by omega) hi]
      exact sx _ _ (Nat.zero_le _) (by omega) (by omega)
  · rw [Array.size_append, er] at hi
    by_cases c2 : i < out.size
    · rw [rk_app_l i c2]
      exact t.ob i j c2 hj
    · rw [at' i (by omega) hi]
      exact Int.le_trans (sy j (nb - 1) (Nat.zero_le _) (by omega) (by omega)) (o _ (by omega) (by omega))
theorem LeftR.bs (t : LeftR r x y out na nb) (sx : Asc r x 0 x.size) (sy : Asc r y 0 y.size) {k : Nat} (h : k ≤ nb) (o : ∀ j, k ≤ j → j < nb → rk r x (na - 1) ≤ rk r y j) : LeftR r x y (out ++ (y.extract k nb).reverse) na k := by
  have la := t.la
  have lb := t.lb
  have es : (y.extract k nb).size = nb - k := by rw [Array.size_extract]; omega
  have er : (y.extract k nb).reverse.size = nb - k := by rw [Array.size_reverse, es]
  have at' : ∀ i, out.size ≤ i → i < out.size + (nb - k) → rk r (out ++ (y.extract k nb).reverse) i = rk r y (nb - 1 - (i - out.size)) := fun i h1 h2 => by
    rw [rk_app_r i h1, rk_rev _ (by omega), rk_ext _ lb (by omega), es]
    congr 1
    omega
  refine ⟨t.toLeft.bs h, fun i j hij hj => ?_, fun i j hi hj => ?_, fun i j hi hj => ?_⟩
  · rw [Array.size_append, er] at hj
    by_cases c : j < out.size
    · rw [rk_app_l i (by omega), rk_app_l j c]
      exact t.srt i j hij c
    · rw [at' j (by omega) hj]
      by_cases c2 : i < out.size
      · rw [rk_app_l i c2]
        exact t.ob i _ c2 (by omega)
      · rw [at' i (by omega) (by omega)]
        exact sy _ _ (Nat.zero_le _) (by omega) (by omega)
  · rw [Array.size_append, er] at hi
    by_cases c2 : i < out.size
    · rw [rk_app_l i c2]
      exact t.oa i j c2 hj
    · rw [at' i (by omega) hi]
      exact Int.le_trans (sx j (na - 1) (Nat.zero_le _) (by omega) (by omega)) (o _ (by omega) (by omega))
  · rw [Array.size_append, er] at hi
    by_cases c2 : i < out.size
    · rw [rk_app_l i c2]
      exact t.ob i j c2 (by omega)
    · rw [at' i (by omega) hi]
      exact sy _ _ (Nat.zero_le _) (by omega) (by omega)
theorem asc_rev (h : ∀ i j, i ≤ j → j < out.size → rk r out j ≤ rk r out i) : ∀ i j, i ≤ j → j < out.reverse.size → rk r out.reverse i ≤ rk r out.reverse j := by
  intro i j hij hj
  rw [Array.size_reverse] at hj
  rw [rk_rev i (by omega), rk_rev j hj]
  exact h _ _ (by omega) (by omega)
theorem LeftR.done (t : LeftR r x y out na nb) (sx : Asc r x 0 x.size) (sy : Asc r y 0 y.size) (e : na = 0 ∨ nb = 0) : Laid r x y (x.extract 0 na ++ y.extract 0 nb ++ out.reverse) := by
  have la := t.la
  have lb := t.lb
  refine ⟨t.toLeft.done, asc3 (asc_ext sx la) (asc_ext sy lb) (asc_rev t.srt) (fun i j hi hj => ?_) (fun i j hi hj => ?_) fun i j hi hj => ?_⟩
  · rw [Array.size_extract] at hi hj
    omega
  · rw [Array.size_extract] at hi
    rw [Array.size_reverse] at hj
    rw [rk_ext i la (by omega), rk_rev j hj]
    exact t.oa _ _ (by omega) (by omega)
  · rw [Array.size_extract] at hi
    rw [Array.size_reverse] at hj
    rw [rk_ext i lb (by omega), rk_rev j hj]
    exact t.ob _ _ (by omega) (by omega)
theorem LeftR.first (t : LeftR r x y out na nb) (sx : Asc r x 0 x.size) (sy : Asc r y 0 y.size) (e : nb = 1) (p1 : rk r y 0 ≤ rk r x 0) : Laid r x y (y.extract 0 nb ++ x.extract 0 na ++ out.reverse) := by
  have la := t.la
  have lb := t.lb
  refine ⟨t.toLeft.first, asc3 (asc_ext sy lb) (asc_ext sx la) (asc_rev t.srt) (fun i j hi hj => ?_) (fun i j hi hj => ?_) fun i j hi hj => ?_⟩
  · rw [Array.size_extract] at hi hj
    rw [rk_ext i lb (by omega), rk_ext j la (by omega), show 0 + i = 0 by omega]
    exact Int.le_trans p1 (sx _ _ (Nat.le_refl _) (by omega) (by omega))
  · rw [Array.size_extract] at hi
    rw [Array.size_reverse] at hj
    rw [rk_ext i lb (by omega), rk_rev j hj]
    exact t.ob _ _ (by omega) (by omega)
  · rw [Array.size_extract] at hi
    rw [Array.size_reverse] at hj
    rw [rk_ext i la (by omega), rk_rev j hj]
    exact t.oa _ _ (by omega) (by omega)
end
section
variable {prog : Program} {w : World} {A : Around} {E : Value → Shared → Prop} {s : Shared} {st : SortSt} {κ : SortKind} {ys : List Keyed} {r : Keyed → Int}
theorem wpS_mergeHiR (ha : AsksR prog w A s κ ys r) (hk : kindOf st = κ) {a b : Array Keyed} (hae : ∀ u ∈ a.toList, u ∈ ys) (hbe : ∀ u ∈ b.toList, u ∈ ys) (ha0 : 0 < a.size) (hb0 : 0 < b.size) (sa : Asc r a 0 a.size) (sb : Asc r b 0 b.size) (p1 : rk r b 0 ≤ rk r a 0) (p2 : ∀ j, j < b.size → rk r b j ≤ rk r a (a.size - 1)) {Q : Array Keyed → SortSt → Prop}
    (h : ∀ out st', Keep st st' → Laid r a b out → Q out st') : wpS (model prog w) A E s (mergeHi' a b) Q st := by
  have am : ∀ i, (hi : i < a.size) → a[i] ∈ ys := fun i hi => hae _ (by rw [← Array.getElem_toList]; exact List.getElem_mem _)
  have bm : ∀ i, (hi : i < b.size) → b[i] ∈ ys := fun i hi => hbe _ (by rw [← Array.getElem_toList]; exact List.getElem_mem _)
  refine wpS_bind (wpS_liftA (wpAny_rule ⟨rfl, ?_⟩))
  refine wpS_bind (wpS_elemA (show a.size - 1 < a.size by omega) ?_)
  have t0 : LeftR r a b #[a[a.size - 1]'(by omega)] (a.size - 1) b.size := by
    have t1 : Left a b #[] a.size b.size := by
      refine ⟨?_, Nat.le_refl _, Nat.le_refl _⟩
      rw [List.drop_of_length_le (by rw [Array.length_toList]; exact Nat.le_refl _), List.drop_of_length_le (by rw [Array.length_toList]; exact Nat.le_refl _)]
      exact List.Perm.refl _
    have t2 : LeftR r a b #[] a.size b.size := ⟨t1, fun i j _ hj => absurd hj (Nat.not_lt_zero _), fun i j hi => absurd hi (Nat.not_lt_zero _), fun i j hi => absurd hi (Nat.not_lt_zero _)⟩
    exact t2.a sa sb ha0 fun _ => p2 _ (by omega)
  refine wpS_iteB (fun e => ?_) (fun e1 => ?_)
  · exact wpS_pure (h _ _ (Keep.refl _) (t0.done sa sb (.inl e)))
  refine wpS_iteB (fun e => ?_) (fun e2 => ?_)
  · exact wpS_pure (h _ _ (Keep.refl _) (t0.first sa sb e p1))
  refine wpS_bind (wpS_get ?_)
  refine wpS_bind (wpS_mono (wpS_forRange (I := fun i c st' => Keep st st' ∧ ∃ out na nb mg, c = (none, na, nb, out, mg) ∧ LeftR r a b out na nb ∧ 0 < na ∧ 1 < nb ∧ i + 1 ≤ (a.size - na) + (b.size - nb))
    (Q := fun c st' => Keep st st' ∧ ∃ z out na nb mg, c = (some z, na, nb, out, mg) ∧ Laid r a b z) ?_ ?_ ⟨Keep.refl _, _, _, _, _, rfl, t0, by omega, by omega, by omega⟩) ?_)
  · rintro i c st1 _ hi ⟨kp, out, na, nb, mg, rfl, tk, la, lb, pr⟩
    refine wpS_bind (wpS_mono (wpS_forRange (I := fun j c st' => Keep st st' ∧ ∃ out' na' nb' ac bc, c = (none, na', nb', out', ac, bc) ∧ LeftR r a b out' na' nb' ∧ 0 < na' ∧ 1 < nb' ∧ i + 1 + j ≤ (a.size - na') + (b.size - nb'))
      (Q := fun c st' => Keep st st' ∧ ∃ z' out' na' nb' ac bc, c = (z', na', nb', out', ac, bc) ∧ ((∃ z, z' = some z ∧ Laid r a b z) ∨ (z' = none ∧ LeftR r a b out' na' nb' ∧ 0 < na' ∧ 1 < nb' ∧ i + 2 ≤ (a.size - na') + (b.size - nb')))) ?_ ?_ ⟨kp, _, _, _, _, _, rfl, tk, la, lb, by omega⟩) ?_)
    · rintro j c st2 _ hj ⟨kp2, out, na, nb, ac, bc, rfl, tk, la, lb, pr⟩
      have l1 := tk.la
      have l2 := tk.lb
      have xa : na - 1 < a.size := by omega
      have xb : nb - 1 < b.size := by omega
      refine wpS_bind (wpS_elemA xb (wpS_bind (wpS_elemA xa (wpS_bind (wpS_ltR ha (kp2.1.trans hk) (bm _ xb) (am _ xa) ?_)))))
      rw [← rk_of (r := r) xb, ← rk_of (r := r) xa]
      by_cases win : rk r b (nb - 1) < rk r a (na - 1)
      · rw [decide_eq_true win]
        refine wpS_bind (wpS_elemA xa ?_)
        have tk' := tk.a sa sb la fun _ => Int.le_of_lt win
        refine wpS_iteB (fun e => ?_) (fun e => ?_)
        · exact wpS_pure ⟨kp2, _, _, _, _, _, _, rfl, .inl ⟨_, rfl, tk'.done sa sb (.inl e)⟩⟩
        · dsimp only at e
          refine wpS_ite (fun e2 => ?_) (fun e2 => ?_)
          · exact wpS_pure ⟨kp2, none, _, na - 1, nb, ac + 1, 0, rfl, .inr ⟨rfl, tk', by omega, lb, by omega⟩⟩
          · exact wpS_pure ⟨kp2, _, na - 1, nb, ac + 1, 0, rfl, tk', by omega, lb, by omega⟩
      · rw [decide_eq_false win]
        refine wpS_bind (wpS_elemA xb ?_)
        have tk' := tk.b sa sb (show 0 < nb by omega) fun _ => Int.not_lt.mp win
        refine wpS_iteB (fun e => ?_) (fun e => ?_)
        · exact wpS_pure ⟨kp2, _, _, _, _, _, _, rfl, .inl ⟨_, rfl, tk'.first sa sb e p1⟩⟩
        · dsimp only at e
          refine wpS_ite (fun e2 => ?_) (fun e2 => ?_)
          · exact wpS_pure ⟨kp2, none, _, na, nb - 1, 0, bc + 1, rfl, .inr ⟨rfl, tk', la, by omega, by omega⟩⟩
          · exact wpS_pure ⟨kp2, _, na, nb - 1, 0, bc + 1, rfl, tk', la, by omega, by omega⟩
    · rintro c st2 ⟨_, out, na, nb, ac, bc, rfl, tk, h1, h2, h3⟩
      exfalso
      have : a.size + b.size ≤ max 0 (a.size + b.size) := Nat.le_max_right _ _
      omega
    · rintro c st2 ⟨kp2, z', out, na, nb, ac, bc, rfl, hr⟩
      rcases hr with ⟨z, rfl, pm⟩ | ⟨rfl, tk, la, lb, pr⟩
      · exact wpS_pure ⟨kp2, _, _, _, _, _, rfl, pm⟩
      · refine wpS_bind (wpS_liftA (wpAny_rule ⟨rfl, ?_⟩))
        refine wpS_bind (wpS_mono (wpS_forRange (I := fun _ c st' => Keep st st' ∧ ∃ out' na' nb' mg' ac' bc', c = (none, na', nb', out', mg', ac', bc') ∧ LeftR r a b out' na' nb' ∧ 0 < na' ∧ 1 < nb' ∧ i + 2 ≤ (a.size - na') + (b.size - nb')) (Q := fun c st' => Keep st st' ∧ ∃ z' out' na' nb' mg' ac' bc', c = (z', na', nb', out', mg', ac', bc') ∧ ((∃ z, z' = some z ∧ Laid r a b z) ∨ (z' = none ∧ LeftR r a b out' na' nb' ∧ 0 < na' ∧ 1 < nb' ∧ i + 2 ≤ (a.size - na') + (b.size - nb')))) ?_ ?_ ⟨kp2, _, _, _, _, _, _, rfl, tk, la, lb, pr⟩) ?_)
        · rintro j c st3 _ hj ⟨kp3, out, na, nb, mg, ac, bc, rfl, tk, la, lb, pr⟩
          dsimp only
          revert mg
          apply wpS_shareM (prog := prog) (w := w) (A := A) (E := E) (s := s) (P := fun _ st' => Keep st st')
          case use =>
            intro H mg
            refine wpS_ite (fun e => ?_) (fun e => ?_)
            rotate_left
            · exact H mg _ kp3
            · exact H _ _ kp3
          clear kp3 st3
          intro mg st4 kp4
          have l2 := tk.lb
          have xb : nb - 1 < b.size := by omega
          refine wpS_bind (wpS_modify ?_)
          refine wpS_bind (wpS_elemA xb ?_)
          have l1 := tk.la
          refine wpS_bind (wpS_gallopF ha ?g0 ?g1 ?g2 ?g5 ?g3 (fun k1 hk1 f1 f2 => ?_))
          case g0 => exact kp4.1.trans hk
          case g1 => exact bm _ xb
          case g2 => exact (fun i hi => ⟨by omega, am _ (by omega)⟩)
          case g3 => omega
          case g5 => exact fun i j h1 h2 h3 => sa i j (Nat.zero_le _) h2 (by omega)
          dsimp only
          have f1 : ∀ j, j < k1 → rk r a j ≤ rk r b (nb - 1) := fun j h => f1 j (Nat.zero_le _) (by omega)
          have f2 : ∀ j, k1 ≤ j → j < na → rk r b (nb - 1) < rk r a j := fun j h h2 => f2 j (by omega) (by omega)
          generalize hac : na - k1 = acn
          revert out na
          apply wpS_share2 (prog := prog) (w := w) (A := A) (E := E) (s := s) (P := fun out' na' => LeftR r a b out' na' nb ∧ 0 < na' ∧ rk r a (na' - 1) ≤ rk r b (nb - 1) ∧ i + 2 ≤ (a.size - na') + (b.size - nb))
          case use =>
            intro H out na
            intros
            rename_i tk la pr l1 hk1 _ f2 hac
            refine wpS_ite (fun e => ?_) (fun e => ?_)
            rotate_left
            · exact H out na ⟨tk, la, f1 _ (by omega), pr⟩
            · have tk' := tk.as sa sb (k := k1) (by omega) (fun j h1 h2 => Int.le_of_lt (f2 j h1 h2))
              refine wpS_iteB (fun e2 => ?_) (fun e2 => ?_)
              · exact wpS_pure ⟨kp4.trans ⟨rfl, rfl, rfl, rfl⟩, _, _, _, _, _, _, _, rfl, .inl ⟨_, rfl, tk'.done sa sb (.inl e2)⟩⟩
              exact H _ _ ⟨tk', by omega, f1 _ (by omega), by omega⟩
          clear f1
          rintro out na ⟨tk, la, o5, q5⟩
          refine wpS_bind (wpS_elemA xb ?_)
          have tk6 := tk.b sa sb (show 0 < nb by omega) fun _ => o5
          refine wpS_iteB (fun e => ?_) (fun e => ?_)
          · exact wpS_pure ⟨kp4.trans ⟨rfl, rfl, rfl, rfl⟩, _, _, _, _, _, _, _, rfl, .inl ⟨_, rfl, tk6.first sa sb e p1⟩⟩
          have l1 := tk.la
          have xa : na - 1 < a.size := by omega
          refine wpS_bind (wpS_elemA xa ?_)
          refine wpS_bind (wpS_gallopT ha ?g0 ?g1 ?g2 ?g5 ?g3 (fun k2 hk2 f3 f4 => ?_))
          case g0 => exact kp4.1.trans hk
          case g1 => exact am _ xa
          case g2 => exact (fun i hi => ⟨by omega, bm _ (by omega)⟩)
          case g3 => omega
          case g5 => exact fun i j h1 h2 h3 => sb i j (Nat.zero_le _) h2 (by omega)
          dsimp only
          generalize out.push b[nb - 1] = out2 at tk6 ⊢
          clear tk o5
          have lb6 : 1 < nb - 1 := by omega
          have q6 : i + 3 ≤ (a.size - na) + (b.size - (nb - 1)) := by omega
          have f3 : ∀ j, j < k2 → rk r b j < rk r a (na - 1) := fun j h => f3 j (Nat.zero_le _) (by omega)
          have f4 : ∀ j, k2 ≤ j → j < nb - 1 → rk r a (na - 1) ≤ rk r b j := fun j h h2 => f4 j (by omega) (by omega)
          have hk2 : k2 ≤ nb - 1 := hk2
          have l6 := tk6.lb
          generalize hbc : nb - 1 - k2 = bcn
          clear lb e q5
          clear xb
          generalize nb - 1 = nb2 at *
          revert out2 nb2
          apply wpS_share2 (prog := prog) (w := w) (A := A) (E := E) (s := s) (P := fun out' nb' => LeftR r a b out' na nb' ∧ 1 < nb' ∧ rk r b (nb' - 1) ≤ rk r a (na - 1) ∧ i + 3 ≤ (a.size - na) + (b.size - nb'))
          case use =>
            intro H
            rintro out2 nb2
            intros
            rename_i _ _ hk2' _ tk6 lb6 q6 f4 hk2 l6 hbc
            refine wpS_ite (fun e => ?_) (fun e => ?_)
            rotate_left
            · exact H out2 nb2 ⟨tk6, lb6, Int.le_of_lt (f3 _ (by omega)), q6⟩
            · have tk' := tk6.bs sa sb (k := k2) (by omega) f4
              refine wpS_iteB (fun e2 => ?_) (fun e2 => ?_)
              · exact wpS_pure ⟨kp4.trans ⟨rfl, rfl, rfl, rfl⟩, _, _, _, _, _, _, _, rfl, .inl ⟨_, rfl, tk'.first sa sb e2 p1⟩⟩
              refine wpS_iteB (fun e3 => ?_) (fun e3 => ?_)
              · exact wpS_pure ⟨kp4.trans ⟨rfl, rfl, rfl, rfl⟩, _, _, _, _, _, _, _, rfl, .inl ⟨_, rfl, tk'.done sa sb (.inr e3)⟩⟩
              exact H _ _ ⟨tk', by omega, Int.le_of_lt (f3 _ (by omega)), by omega⟩
          rintro out nb' ⟨tk, lb7, o7, q7⟩
          refine wpS_bind (wpS_elemA xa ?_)
          have tk8 := tk.a sa sb la fun _ => o7
          refine wpS_iteB (fun e => ?_) (fun e => ?_)
          · exact wpS_pure ⟨kp4.trans ⟨rfl, rfl, rfl, rfl⟩, _, _, _, _, _, _, _, rfl, .inl ⟨_, rfl, tk8.done sa sb (.inl e)⟩⟩
          refine wpS_ite (fun e => ?_) (fun e => ?_)
          · exact wpS_pure ⟨kp4.trans ⟨rfl, rfl, rfl, rfl⟩, _, _, _, _, _, _, _, rfl, .inr ⟨rfl, tk8, by omega, lb7, by omega⟩⟩
          · exact wpS_pure ⟨kp4.trans ⟨rfl, rfl, rfl, rfl⟩, _, _, _, _, _, _, rfl, tk8, by omega, lb7, by omega⟩
        · rintro c st3 ⟨kp3, out, na, nb, mg, ac, bc, rfl, tk, la, lb, pr⟩
          exact ⟨kp3, _, _, _, _, _, _, _, rfl, .inr ⟨rfl, tk, la, lb, pr⟩⟩
        · rintro c st3 ⟨kp3, z', out, na, nb, mg, ac, bc, rfl, hr⟩
          rcases hr with ⟨z, rfl, pm⟩ | ⟨rfl, tk, la, lb, pr⟩
          · exact wpS_pure ⟨kp3, _, _, _, _, _, rfl, pm⟩
          · refine wpS_bind (wpS_modify ?_)
            exact wpS_pure ⟨kp3.trans ⟨rfl, rfl, rfl, rfl⟩, _, _, _, _, rfl, tk, la, lb, by omega⟩
  · rintro c st' ⟨_, out, na, nb, mg, rfl, tk, h1, h2, h3⟩
    exfalso
    have : a.size + b.size ≤ max 0 (a.size + b.size) := Nat.le_max_right _ _
    omega
  · rintro c st' ⟨kp, z, out, na, nb, mg, rfl, pm⟩
    exact wpS_pure (h _ _ kp pm)
end
end PyProof.Rows

namespace PyProof.Rows
open PySem
section
variable {r : Keyed → Int} {xs : Array Keyed} {lo hi : Nat}
theorem Asc.snoc (h : Asc r xs lo hi) (hl : lo < hi) (o : rk r xs (hi - 1) ≤ rk r xs hi) : Asc r xs lo (hi + 1) := by
  intro i j h1 h2 h3
  by_cases c : j < hi
  · exact h i j h1 h2 c
  · have e : j = hi := by omega
    subst e
    by_cases c2 : i = j
    · subst c2
      exact Int.le_refl _
    · exact Int.le_trans (h i (j - 1) h1 (by omega) (by omega)) o
theorem Asc.one : Asc r xs lo (lo + 1) := fun i j h1 h2 h3 => by
  rw [show i = j by omega]
  exact Int.le_refl _
theorem Asc.congr {zs : Array Keyed} (h : Asc r xs lo hi) (e : ∀ j, lo ≤ j → j < hi → zs[j]? = xs[j]?) : Asc r zs lo hi := fun i j h1 h2 h3 => by
  rw [rk_congr (e i h1 (by omega)), rk_congr (e j (by omega) h3)]
  exact h i j h1 h2 h3
def Dsc (r : Keyed → Int) (xs : Array Keyed) (lo hi : Nat) : Prop := ∀ i j, lo ≤ i → i ≤ j → j < hi → rk r xs j ≤ rk r xs i
theorem Dsc.snoc (h : Dsc r xs lo hi) (hl : lo < hi) (o : rk r xs hi ≤ rk r xs (hi - 1)) : Dsc r xs lo (hi + 1) := by
  intro i j h1 h2 h3
  by_cases c : j < hi
  · exact h i j h1 h2 c
  · have e : j = hi := by omega
    subst e
    by_cases c2 : i = j
    · subst c2
      exact Int.le_refl _
    · exact Int.le_trans o (h i (j - 1) h1 (by omega) (by omega))
theorem Dsc.ranks {zs : Array Keyed} (h : Dsc r xs lo hi) (e : ∀ j, rk r zs j = rk r xs j) : Dsc r zs lo hi := fun i j h1 h2 h3 => by
  rw [e i, e j]
  exact h i j h1 h2 h3
theorem rk_mirror {i j : Nat} (hj : j ≤ xs.size) (k : Nat) : rk r (mirror xs i j ((j - i) / 2)) k = if i ≤ k ∧ k < j then rk r xs (i + j - 1 - k) else rk r xs k := by
  have e := getElem?_mirror_all (i := i) hj k
  by_cases h1 : i ≤ k ∧ k < j
  · rw [if_pos h1] at e ⊢; exact rk_congr e
  · rw [if_neg h1] at e ⊢; exact rk_congr e
theorem rk_mirror_equal {i j : Nat} (hj : j ≤ xs.size) (heq : ∀ k, i ≤ k → k < j → rk r xs k = rk r xs (j - 1)) (k : Nat) : rk r (mirror xs i j ((j - i) / 2)) k = rk r xs k := by
  rw [rk_mirror hj]
  split
  · rw [heq _ (by omega) (by omega), heq k (by omega) (by omega)]
  · rfl
theorem Dsc.turn (h : Dsc r xs lo hi) (hs : hi ≤ xs.size) : Asc r (mirror xs lo hi ((hi - lo) / 2)) lo hi := fun i j h1 h2 h3 => by
  rw [rk_mirror hs, rk_mirror hs, if_pos ⟨h1, by omega⟩, if_pos ⟨by omega, h3⟩]
  exact h _ _ (by omega) (by omega) (by omega)
theorem rk_bubble {src d : Nat} (hs : src < xs.size) (hd : d ≤ src) (k : Nat) : rk r (bubble xs src d) k = if k = src - d then rk r xs src else if src - d < k ∧ k ≤ src then rk r xs (k - 1) else rk r xs k := by
  have e := getElem?_bubble hs d hd k
  by_cases h1 : k = src - d
  · rw [if_pos h1] at e ⊢; exact rk_congr e
  · rw [if_neg h1] at e ⊢
    by_cases h2 : src - d < k ∧ k ≤ src
    · rw [if_pos h2] at e ⊢; exact rk_congr e
    · rw [if_neg h2] at e ⊢; exact rk_congr e
end
section
variable {prog : Program} {w : World} {A : Around} {E : Value → Shared → Prop} {s : Shared} {st st' : SortSt} {κ : SortKind} {ys : List Keyed} {r : Keyed → Int}
theorem wpS_ltAtR (ha : AsksR prog w A s κ ys r) (hB : PBase κ ys st) {i j : Nat} (hi : i < ys.length) (hj : j < ys.length) {Q : Option Bool → SortSt → Prop} (h : Q (some (decide (rk r (arrOf st) i < rk r (arrOf st) j))) st) : wpS (model prog w) A E s (ltAt' i j) Q st := by
  rw [ltAt'_eq]
  have z := hB.size
  have hi' : i < (arrOf st).size := by omega
  have hj' : j < (arrOf st).size := by omega
  refine wpS_bind (wpS_get ?_)
  refine wpS_bind (wpS_elemA hi' ?_)
  refine wpS_bind (wpS_elemA hj' ?_)
  rw [rk_of hi', rk_of hj'] at h
  exact wpS_ltR ha hB.kind (hB.mem _) (hB.mem _) h
structure StayR (κ : SortKind) (ys : List Keyed) (lo : Nat) (st st' : SortSt) : Prop where
  base : PBase κ ys st'
  pend : pendingOf st' = pendingOf st
  fix : ∀ j, j < lo → (arrOf st')[j]? = (arrOf st)[j]?
theorem StayR.rev {lo : Nat} (h : StayR κ ys lo st st') {i j : Nat} (hi : lo ≤ i) (hj : j ≤ ys.length) : StayR κ ys lo st (setArr st' (mirror (arrOf st') i j ((j - i) / 2))) := by
  refine ⟨h.base.set (mirror_perm _ _ _ _), h.pend, fun k hk => ?_⟩
  show (mirror (arrOf st') i j ((j - i) / 2))[k]? = _
  rw [getElem?_mirror_all (by rw [h.base.size]; exact hj), if_neg (by omega)]
  exact h.fix k hk
theorem wpS_countRunR (ha : AsksR prog w A s κ ys r) (hB : PBase κ ys st) {lo nrem : Nat} (h1 : 1 ≤ nrem) (hn : lo + nrem ≤ ys.length) {Q : Option Nat → SortSt → Prop}
    (h : ∀ m st', StayR κ ys lo st st' → 1 ≤ m → m ≤ nrem → Asc r (arrOf st') lo (lo + m) → Q (some m) st') : wpS (model prog w) A E s (countRun' lo nrem) Q st := by
  rw [countRun'_eq]
  refine wpS_bind (wpS_mono (wpS_forRange (I := fun x c st' => st' = st ∧ c = (none, x) ∧ Asc r (arrOf st) lo (lo + x)) (Q := fun c st' => st' = st ∧ ∃ n, c = (none, n) ∧ 1 ≤ n ∧ n ≤ nrem ∧ Asc r (arrOf st) lo (lo + n) ∧ (n < nrem → rk r (arrOf st) (lo + n) < rk r (arrOf st) (lo + n - 1))) ?_ ?_ ⟨rfl, rfl, Asc.one⟩) ?_)
  · rintro x c st' hx1 hx2 ⟨rfl, rfl, as⟩
    refine wpS_bind (wpS_ltAtR ha hB (by dsimp only; omega) (by dsimp only; omega) ?_)
    by_cases c : rk r (arrOf st') (lo + x) < rk r (arrOf st') (lo + x - 1)
    · rw [decide_eq_true c]
      exact wpS_pure ⟨rfl, x, rfl, hx1, by omega, as, fun _ => c⟩
    · rw [decide_eq_false c]
      exact wpS_pure ⟨rfl, rfl, as.snoc (by omega) (Int.not_lt.mp c)⟩
  · rintro c st' ⟨rfl, rfl, as⟩
    have e : max 1 nrem = nrem := by omega
    rw [e] at as ⊢
    exact ⟨rfl, _, rfl, by omega, by omega, as, fun z => absurd z (by omega)⟩
  rintro c st1 ⟨rfl, n, rfl, n1, n2, as, fall⟩
  dsimp only
  have s0 : StayR κ ys lo st1 st1 := ⟨hB, rfl, fun _ _ => rfl⟩
  have z1 := hB.size
  refine wpS_iteB (fun e => wpS_pure (h _ _ s0 n1 n2 as)) (fun e1 => ?_)
  have fall := fall (by omega)
  apply wpS_share (prog := prog) (w := w) (A := A) (E := E) (s := s) (P := fun st2 => StayR κ ys lo st1 st2 ∧ Dsc r (arrOf st2) lo (lo + (n + 1))) (Q := Q)
  case use =>
    intro H
    refine wpS_ite (fun e2 => ?_) (fun e2 => ?_)
    · refine wpS_bind (wpS_ltAtR ha hB (by omega) (by omega) ?_)
      by_cases c : rk r (arrOf st1) lo < rk r (arrOf st1) (lo + n - 1)
      · rw [decide_eq_true c]
        exact wpS_pure (h _ _ s0 n1 n2 as)
      · rw [decide_eq_false c]
        have eq : ∀ k, lo ≤ k → k < lo + n → rk r (arrOf st1) k = rk r (arrOf st1) (lo + n - 1) := fun k k1 k2 => by
          have y1 := as lo k (Nat.le_refl _) k1 k2
          have y2 := as k (lo + n - 1) k1 (by omega) (by omega)
          omega
        have rks := rk_mirror_equal (r := r) (xs := arrOf st1) (i := lo) (j := lo + n) (by omega) eq
        have ds : Dsc r (arrOf st1) lo (lo + n) := fun i j i1 i2 i3 => by
          rw [eq i i1 (by omega), eq j (by omega) i3]
          exact Int.le_refl _
        refine wpS_bind (wpS_reverse (H _ ⟨s0.rev (Nat.le_refl _) (by omega), ?_⟩))
        exact Dsc.ranks (ds.snoc (by omega) (Int.le_of_lt fall)) rks
    · have e : n = 1 := by omega
      subst e
      refine H _ ⟨s0, ?_⟩
      have ds : Dsc r (arrOf st1) lo (lo + 1) := fun i j i1 i2 i3 => by
        rw [show i = j by omega]
        exact Int.le_refl _
      exact ds.snoc (by omega) (Int.le_of_lt fall)
  intro st2 ⟨S, ds⟩
  refine wpS_bind (wpS_liftA (wpAny_rule ⟨rfl, ?_⟩))
  refine wpS_bind (wpS_mono (wpS_forRange (I := fun x c st' => StayR κ ys lo st1 st' ∧ ∃ q, c = (none, x, q) ∧ Dsc r (arrOf st') lo (lo + x) ∧ q + 1 ≤ x ∧ ∀ j, lo + x - (q + 1) ≤ j → j < lo + x → rk r (arrOf st') j = rk r (arrOf st') (lo + x - 1)) (Q := fun c st' => StayR κ ys lo st1 st' ∧ ∃ m q, c = (none, m, q) ∧ 1 ≤ m ∧ m ≤ nrem ∧ Dsc r (arrOf st') lo (lo + m) ∧ q + 1 ≤ m ∧ ∀ j, lo + m - (q + 1) ≤ j → j < lo + m → rk r (arrOf st') j = rk r (arrOf st') (lo + m - 1)) ?_ ?_ ⟨S, _, rfl, ds, by omega, fun j j1 j2 => by rw [show j = lo + (n + 1) - 1 by omega]⟩) ?_)
  · rintro x c st3 hx1 hx2 ⟨S3, q, rfl, ds, hq, eq⟩
    have z3 := S3.base.size
    dsimp only
    refine wpS_bind (wpS_ltAtR ha S3.base (by omega) (by omega) ?_)
    by_cases c : rk r (arrOf st3) (lo + x) < rk r (arrOf st3) (lo + x - 1)
    · rw [decide_eq_true c]
      refine wpS_ite (fun _ => ?_) (fun e => absurd rfl e)
      have ds2 := ds.snoc (by omega) (Int.le_of_lt c)
      refine wpS_ite (fun e => ?_) (fun e => ?_)
      · have rks := rk_mirror_equal (r := r) (xs := arrOf st3) (i := lo + x - (q + 1)) (j := lo + x) (by omega) eq
        exact wpS_bind (wpS_reverse (wpS_pure ⟨S3.rev (by omega) (by omega), _, rfl, Dsc.ranks ds2 rks, by omega, fun j j1 j2 => by rw [show j = lo + (x + 1) - 1 by omega]⟩))
      · exact wpS_pure ⟨S3, _, rfl, ds2, by omega, fun j j1 j2 => by rw [show j = lo + (x + 1) - 1 by omega]⟩
    · rw [decide_eq_false c]
      refine wpS_bind (wpS_ltAtR ha S3.base (by omega) (by omega) ?_)
      by_cases c2 : rk r (arrOf st3) (lo + x - 1) < rk r (arrOf st3) (lo + x)
      · rw [decide_eq_true c2]
        exact wpS_pure ⟨S3, _, _, rfl, by omega, by omega, ds, hq, eq⟩
      · rw [decide_eq_false c2]
        have e0 : rk r (arrOf st3) (lo + x) = rk r (arrOf st3) (lo + x - 1) := by omega
        refine wpS_pure ⟨S3, _, rfl, ds.snoc (by omega) (by omega), by omega, fun j j1 j2 => ?_⟩
        rw [show lo + (x + 1) - 1 = lo + x by omega, e0]
        by_cases cj : j = lo + x
        · rw [cj, e0]
        · exact eq j (by omega) (by omega)
  · rintro c st3 ⟨S3, q, rfl, ds, hq, eq⟩
    have e : max (n + 1) nrem = nrem := by omega
    rw [e] at ds hq eq ⊢
    exact ⟨S3, _, _, rfl, by omega, by omega, ds, hq, eq⟩
  rintro c st3 ⟨S3, m, q, rfl, m1, m2, ds3, hq, eq⟩
  have z3 := S3.base.size
  dsimp only
  apply wpS_share (prog := prog) (w := w) (A := A) (E := E) (s := s) (P := fun st4 => StayR κ ys lo st1 st4 ∧ Dsc r (arrOf st4) lo (lo + m)) (Q := Q)
  case use =>
    intro H
    refine wpS_ite (fun e2 => ?_) (fun e2 => ?_)
    · have rks := rk_mirror_equal (r := r) (xs := arrOf st3) (i := lo + m - (q + 1)) (j := lo + m) (by omega) eq
      exact wpS_bind (wpS_reverse (H _ ⟨S3.rev (by omega) (by omega), Dsc.ranks ds3 rks⟩))
    · exact H _ ⟨S3, ds3⟩
  intro st4 ⟨S4, ds4⟩
  have z4 := S4.base.size
  refine wpS_bind (wpS_reverse ?_)
  have S5 := S4.rev (i := lo) (j := lo + m) (Nat.le_refl _) (by omega)
  have as5 : Asc r (arrOf (setArr st4 (mirror (arrOf st4) lo (lo + m) ((lo + m - lo) / 2)))) lo (lo + m) := ds4.turn (by omega)
  refine wpS_bind (wpS_mono (wpS_forRange (I := fun x c st' => StayR κ ys lo st1 st' ∧ c = (none, x) ∧ Asc r (arrOf st') lo (lo + x)) (Q := fun c st' => StayR κ ys lo st1 st' ∧ ∃ n, c = (none, n) ∧ 1 ≤ n ∧ n ≤ nrem ∧ Asc r (arrOf st') lo (lo + n)) ?_ ?_ ⟨S5, rfl, as5⟩) ?_)
  · rintro x c st' hx1 hx2 ⟨S6, rfl, as⟩
    refine wpS_bind (wpS_ltAtR ha S6.base (by dsimp only; omega) (by dsimp only; omega) ?_)
    by_cases c : rk r (arrOf st') (lo + x) < rk r (arrOf st') (lo + x - 1)
    · rw [decide_eq_true c]
      exact wpS_pure ⟨S6, x, rfl, by omega, by omega, as⟩
    · rw [decide_eq_false c]
      exact wpS_pure ⟨S6, rfl, as.snoc (by omega) (Int.not_lt.mp c)⟩
  · rintro c st' ⟨S6, rfl, as⟩
    have e : max m nrem = nrem := by omega
    rw [e] at as ⊢
    exact ⟨S6, _, rfl, by omega, by omega, as⟩
  rintro c st6 ⟨S6, k, rfl, r1, r2, as⟩
  exact wpS_pure (h _ _ S6 r1 r2 as)
theorem wpS_binarySortR (ha : AsksR prog w A s κ ys r) (hB : PBase κ ys st) {lo n ok : Nat} (hn : lo + n ≤ ys.length) (h1 : 1 ≤ ok) (h2 : ok ≤ n) (hs : Asc r (arrOf st) lo (lo + ok)) {Q : Bool → SortSt → Prop}
    (h : ∀ st', StayR κ ys lo st st' → Asc r (arrOf st') lo (lo + n) → Q true st') : wpS (model prog w) A E s (binarySort' lo n ok) Q st := by
  rw [binarySort'_eq]
  have eo : max ok 1 = ok := by omega
  rw [eo]
  refine wpS_bind (wpS_mono (wpS_forRange (I := fun k c st' => c = (none, ()) ∧ StayR κ ys lo st st' ∧ Asc r (arrOf st') lo (lo + k)) (Q := fun c st' => c = (none, ()) ∧ StayR κ ys lo st st' ∧ Asc r (arrOf st') lo (lo + n)) ?_ (fun _ _ h => by rw [show max ok n = n by omega] at h; exact h) ⟨rfl, ⟨hB, rfl, fun _ _ => rfl⟩, hs⟩) ?_)
  · rintro k c st1 hk1 hk2 ⟨rfl, S, as⟩
    have z1 := S.base.size
    refine wpS_bind (wpS_mono (wpS_forRange (I := fun x c st' => st' = st1 ∧ ∃ l q, c = (none, l, q) ∧ l ≤ q ∧ q ≤ k ∧ q - l ≤ k - x ∧ (∀ j, j < l → rk r (arrOf st1) (lo + j) ≤ rk r (arrOf st1) (lo + k)) ∧ (∀ j, q ≤ j → j < k → rk r (arrOf st1) (lo + k) < rk r (arrOf st1) (lo + j))) (Q := fun c st' => st' = st1 ∧ ∃ l q, c = (none, l, q) ∧ l = q ∧ q ≤ k ∧ (∀ j, j < l → rk r (arrOf st1) (lo + j) ≤ rk r (arrOf st1) (lo + k)) ∧ (∀ j, q ≤ j → j < k → rk r (arrOf st1) (lo + k) < rk r (arrOf st1) (lo + j))) ?_ ?_ ⟨rfl, _, _, rfl, Nat.zero_le _, Nat.le_refl _, by omega, fun j h => absurd h (Nat.not_lt_zero _), fun j h1 h2 => absurd h2 (by omega)⟩) ?_)
    · rintro x c st2 _ hx ⟨rfl, l, q, rfl, g1, g2, g3, g4, g5⟩
      dsimp only
      refine wpS_ite (fun e => wpS_pure ⟨rfl, _, _, rfl, by omega, g2, g4, g5⟩) (fun e => ?_)
      refine wpS_bind (wpS_ltAtR ha S.base (by omega) (by omega) ?_)
      by_cases c : rk r (arrOf st2) (lo + k) < rk r (arrOf st2) (lo + (l + q) / 2)
      · rw [decide_eq_true c]
        refine wpS_pure ⟨rfl, _, _, rfl, by omega, by omega, by omega, g4, fun j j1 j2 => ?_⟩
        exact Int.lt_of_lt_of_le c (as _ _ (by omega) (by omega) (by omega))
      · rw [decide_eq_false c]
        refine wpS_pure ⟨rfl, _, _, rfl, by omega, by omega, by omega, fun j j1 => ?_, g5⟩
        exact Int.le_trans (as _ _ (by omega) (by omega) (by omega)) (Int.not_lt.mp c)
    · rintro c st2 ⟨rfl, l, q, rfl, g1, g2, g3, g4, g5⟩
      exact ⟨rfl, _, _, rfl, by omega, g2, g4, g5⟩
    · rintro c st2 ⟨rfl, l, q, rfl, rfl, g2, g4, g5⟩
      show wpS _ _ _ _ (do moveDown' (lo + k) (lo + l); pure (ForInStep.yield (none, ()))) _ _
      rw [moveDown'_eq]
      refine wpS_bind (wpS_modify (wpS_pure ⟨rfl, ⟨S.base.set (bubble_perm _ _ _), S.pend, fun j hj => ?_⟩, ?_⟩))
      · show (bubble (arrOf st2) (lo + k) (lo + k - (lo + l)))[j]? = _
        rw [getElem?_bubble (by omega) _ (by omega), if_neg (by omega), if_neg (by omega)]
        exact S.fix j hj
      · show Asc r (bubble (arrOf st2) (lo + k) (lo + k - (lo + l))) lo (lo + (k + 1))
        intro i j i1 i2 i3
        have ri := rk_bubble (r := r) (xs := arrOf st2) (src := lo + k) (d := lo + k - (lo + l)) (by omega) (by omega) i
        have rj := rk_bubble (r := r) (xs := arrOf st2) (src := lo + k) (d := lo + k - (lo + l)) (by omega) (by omega) j
        rw [ri, rj]
        have e0 : lo + k - (lo + k - (lo + l)) = lo + l := by omega
        rw [e0]
        have lef : ∀ u, lo ≤ u → u < lo + l → rk r (arrOf st2) u ≤ rk r (arrOf st2) (lo + k) := fun u u1 u2 => by
          have z := g4 (u - lo) (by omega)
          rwa [show lo + (u - lo) = u by omega] at z
        have rig : ∀ u, lo + l ≤ u → u < lo + k → rk r (arrOf st2) (lo + k) ≤ rk r (arrOf st2) u := fun u u1 u2 => by
          have z := g5 (u - lo) (by omega) (by omega)
          rw [show lo + (u - lo) = u by omega] at z
          exact Int.le_of_lt z
        by_cases a1 : i = lo + l
        · rw [if_pos a1]
          by_cases b1 : j = lo + l
          · rw [if_pos b1]; exact Int.le_refl _
          · rw [if_neg b1, if_pos ⟨by omega, by omega⟩]
            exact rig _ (by omega) (by omega)
        · rw [if_neg a1]
          by_cases a2 : lo + l < i ∧ i ≤ lo + k
          · rw [if_pos a2, if_neg (show ¬ j = lo + l by omega), if_pos ⟨by omega, by omega⟩]
            exact as _ _ (by omega) (by omega) (by omega)
          · rw [if_neg a2]
            by_cases b1 : j = lo + l
            · rw [if_pos b1]
              exact lef _ i1 (by omega)
            · rw [if_neg b1]
              by_cases b2 : lo + l < j ∧ j ≤ lo + k
              · rw [if_pos b2]
                exact as _ _ i1 (by omega) (by omega)
              · rw [if_neg b2]
                exact as _ _ i1 i2 (by omega)
  · rintro c st1 ⟨rfl, S, as⟩
    exact wpS_pure (h _ S as)
theorem mem_ext {xs : Array Keyed} {p q : Nat} {u : Keyed} (h : u ∈ (xs.extract p q).toList) : ∃ j, p ≤ j ∧ j < q ∧ j < xs.size ∧ rk r xs j = r u := by
  rw [Array.mem_toList_iff] at h
  obtain ⟨i, hi, rfl⟩ := Array.getElem_of_mem h
  have hi' := hi
  rw [Array.size_extract] at hi'
  refine ⟨p + i, by omega, by omega, by omega, ?_⟩
  rw [rk_of (by omega), Array.getElem_extract]
theorem wpS_mergeAtR (ha : AsksR prog w A s κ ys r) (hB : PBase κ ys st) {i : Nat} {pre post : List (Nat × Nat × Nat)} {sa na pa sb nb pb : Nat} (hp : (pendingOf st).toList = pre ++ (sa, na, pa) :: (sb, nb, pb) :: post) (hi : pre.length = i)
    (h1 : 0 < na) (h2 : 0 < nb) (h3 : sa + na = sb) (h4 : sb + nb ≤ ys.length) (s1 : Asc r (arrOf st) sa sb) (s2 : Asc r (arrOf st) sb (sb + nb)) {Q : Bool → SortSt → Prop}
    (h : ∀ st', PBase κ ys st' → (pendingOf st').toList = pre ++ (sa, na + nb, pa) :: post → Asc r (arrOf st') sa (sb + nb) → (∀ j, j < sa ∨ sb + nb ≤ j → (arrOf st')[j]? = (arrOf st)[j]?) → Q true st') : wpS (model prog w) A E s (mergeAt' i) Q st := by
  have e1 : (pendingOf st)[i]? = some (sa, na, pa) := by rw [← Array.getElem?_toList, hp, ← hi, List.getElem?_append_right (Nat.le_refl _), Nat.sub_self]; rfl
  have e2 : (pendingOf st)[i + 1]? = some (sb, nb, pb) := by rw [← Array.getElem?_toList, hp, ← hi, List.getElem?_append_right (Nat.le_succ _), Nat.succ_sub (Nat.le_refl _), Nat.sub_self]; rfl
  have z := hB.size
  refine wpS_bind (wpS_get ?_)
  rw [e1, e2]
  refine wpS_bind (wpS_set ?_)
  have ep : (((pendingOf st).setIfInBounds i (sa, na + nb, pa)).eraseIdxIfInBounds (i + 1)).toList = pre ++ (sa, na + nb, pa) :: post := by
    rw [Array.toList_eraseIdxIfInBounds, Array.toList_setIfInBounds, hp, ← hi, List.set_append_right _ _ (Nat.le_refl _), Nat.sub_self, List.eraseIdx_append_of_length_le (Nat.le_succ _), Nat.succ_sub (Nat.le_refl _), Nat.sub_self]
    rfl
  have B1 : PBase κ ys (setPending st (((pendingOf st).setIfInBounds i (sa, na + nb, pa)).eraseIdxIfInBounds (i + 1))) := ⟨hB.perm, hB.kind, hB.failed⟩
  have P1 : (pendingOf (setPending st (((pendingOf st).setIfInBounds i (sa, na + nb, pa)).eraseIdxIfInBounds (i + 1)))).toList = pre ++ (sa, na + nb, pa) :: post := ep
  have A1 : arrOf (setPending st (((pendingOf st).setIfInBounds i (sa, na + nb, pa)).eraseIdxIfInBounds (i + 1))) = arrOf st := rfl
  revert B1 P1 A1
  show _ → _ → _ → wpS _ _ _ _ _ _ (setPending st (((pendingOf st).setIfInBounds i (sa, na + nb, pa)).eraseIdxIfInBounds (i + 1)))
  generalize setPending st (((pendingOf st).setIfInBounds i (sa, na + nb, pa)).eraseIdxIfInBounds (i + 1)) = st1
  intro B1 P1 A1
  have xb : sb < (arrOf st).size := by omega
  refine wpS_bind (wpS_elemA xb ?_)
  refine wpS_bind (wpS_gallopF (arr := arrOf st) (base := sa) (n := na) ha B1.kind (hB.mem xb) (fun i hi => ⟨by omega, hB.mem _⟩) (by rw [h3]; exact s1) h1 fun k hk f1 f2 => ?_)
  dsimp only
  refine wpS_iteB (fun e => ?_) (fun e => ?_)
  · refine wpS_pure (h _ B1 P1 ?_ (fun j _ => by rw [A1]))
    rw [A1]
    intro u v u1 u2 u3
    by_cases c1 : v < sb
    · exact s1 u v u1 u2 c1
    · by_cases c2 : u < sb
      · exact Int.le_trans (f1 u u1 (by omega)) (s2 sb v (Nat.le_refl _) (by omega) u3)
      · exact s2 u v (by omega) u2 u3
  have el : sa + k + (na - k) - 1 = sb - 1 := by omega
  rw [el]
  have xa : sb - 1 < (arrOf st).size := by omega
  refine wpS_bind (wpS_elemA xa ?_)
  refine wpS_bind (wpS_gallopT (arr := arrOf st) (base := sb) (n := nb) ha B1.kind (hB.mem xa) (fun i hi => ⟨by omega, hB.mem _⟩) s2 (show nb - 1 < nb by omega) fun m hm f3 f4 => ?_)
  dsimp only
  refine wpS_iteB (fun e => ?_) (fun e => ?_)
  · refine wpS_pure (h _ B1 P1 ?_ (fun j _ => by rw [A1]))
    rw [A1]
    intro u v u1 u2 u3
    by_cases c1 : v < sb
    · exact s1 u v u1 u2 c1
    · by_cases c2 : u < sb
      · exact Int.le_trans (s1 u (sb - 1) u1 (by omega) (by omega)) (f4 v (by omega) u3)
      · exact s2 u v (by omega) u2 u3
  have xm : ∀ {p q : Nat}, ∀ u ∈ ((arrOf st).extract p q).toList, u ∈ ys := fun {p q} u hu => by
    rw [Array.toList_extract, List.extract_eq_take_drop] at hu
    exact hB.perm.mem_iff.mp (List.mem_of_mem_drop (List.mem_of_mem_take hu))
  have fin : ∀ (out : Array Keyed) st2, Keep st1 st2 → Laid r ((arrOf st).extract (sa + k) sb) ((arrOf st).extract sb (sb + m)) out → wpS (model prog w) A E s (do
      modify fun s => setArr s (out.toList.zipIdx.foldl (fun a (p : Keyed × Nat) => a.setIfInBounds (sa + k + p.2) p.1) (arrOf s))
      return (failedOf (← get)).isNone) Q st2 := fun out st2 kp ⟨pm, rise⟩ => by
    have el : out.toList.length = (na - k) + m := by
      rw [pm.length_eq, List.length_append, Array.length_toList, Array.length_toList, Array.size_extract, Array.size_extract]
      omega
    have A2 : arrOf st2 = arrOf st := kp.2.1.trans A1
    have B2 := B1.keep kp
    refine wpS_bind (wpS_modify (wpS_bind (wpS_get ?_)))
    have ef : failedOf st2 = none := B2.failed
    rw [show (failedOf (setArr st2 (out.toList.zipIdx.foldl (fun a (p : Keyed × Nat) => a.setIfInBounds (sa + k + p.2) p.1) (arrOf st2)))).isNone = true from by rw [show failedOf (setArr st2 _) = failedOf st2 from rfl, ef]; rfl]
    have put := put_all out.toList 0 (sa + k) (arrOf st) (by omega)
    have get : ∀ j, (out.toList.zipIdx.foldl (fun a (p : Keyed × Nat) => a.setIfInBounds (sa + k + p.2) p.1) (arrOf st))[j]? = if j < sa + k then (arrOf st)[j]? else if j < sb + m then out[j - (sa + k)]? else (arrOf st)[j]? := fun j => by
      rw [← Array.getElem?_toList, put]
      have lt : ((arrOf st).toList.take (sa + k + 0)).length = sa + k := by rw [List.length_take, Array.length_toList]; omega
      by_cases c1 : j < sa + k
      · rw [if_pos c1, List.append_assoc, List.getElem?_append_left (by omega), List.getElem?_take_of_lt (by omega), Array.getElem?_toList]
      · rw [if_neg c1, List.append_assoc, List.getElem?_append_right (by omega), lt]
        by_cases c2 : j < sb + m
        · rw [if_pos c2, List.getElem?_append_left (by omega), Array.getElem?_toList]
        · rw [if_neg c2, List.getElem?_append_right (by omega), List.getElem?_drop, Array.getElem?_toList]
          congr 1
          omega
    have os : out.size = (na - k) + m := by rw [← Array.length_toList]; exact el
    have ofr : ∀ t, t < out.size → ∃ j, sa + k ≤ j ∧ j < sb + m ∧ rk r (arrOf st) j = rk r out t := fun t ht => by
      have hm : out[t] ∈ out.toList := by rw [← Array.getElem_toList]; exact List.getElem_mem _
      rw [rk_of ht]
      rcases List.mem_append.mp (pm.mem_iff.mp hm) with y | y
      · obtain ⟨j, j1, j2, _, j4⟩ := mem_ext (r := r) y
        exact ⟨j, j1, by omega, j4⟩
      · obtain ⟨j, j1, j2, _, j4⟩ := mem_ext (r := r) y
        exact ⟨j, by omega, j2, j4⟩
    have low : ∀ j, sa + k ≤ j → j < sb + m → rk r (arrOf st) sb ≤ rk r (arrOf st) j := fun j j1 j2 => by
      by_cases c : j < sb
      · exact Int.le_of_lt (f2 j j1 (by omega))
      · exact s2 sb j (Nat.le_refl _) (by omega) (by omega)
    have high : ∀ j, sa + k ≤ j → j < sb + m → rk r (arrOf st) j ≤ rk r (arrOf st) (sb - 1) := fun j j1 j2 => by
      by_cases c : j < sb
      · exact s1 j (sb - 1) (by omega) (by omega) (by omega)
      · exact Int.le_of_lt (f3 j (by omega) j2)
    refine wpS_pure (h _ ⟨?_, B2.kind, B2.failed⟩ ?_ ?_ ?_)
    · show (out.toList.zipIdx.foldl (fun a (p : Keyed × Nat) => a.setIfInBounds (sa + k + p.2) p.1) (arrOf st2)).toList.Perm ys
      rw [A2, put]
      refine List.Perm.trans ?_ hB.perm
      have e5 : ((arrOf st).extract (sa + k) sb).toList ++ ((arrOf st).extract sb (sb + m)).toList ++ (arrOf st).toList.drop (sb + m) = (arrOf st).toList.drop (sa + k) := by
        rw [List.append_assoc, ← drop_more (by omega), ← drop_more (by omega)]
      refine List.Perm.trans ?_ (List.Perm.of_eq (List.take_append_drop (sa + k) (arrOf st).toList))
      rw [← e5, List.append_assoc, show sa + k + 0 + out.toList.length = sb + m by omega]
      exact List.Perm.append_left _ (pm.append_right _)
    · rw [show pendingOf (setArr st2 _) = pendingOf st2 from rfl, kp.2.2.1]
      exact P1
    · show Asc r (out.toList.zipIdx.foldl (fun a (p : Keyed × Nat) => a.setIfInBounds (sa + k + p.2) p.1) (arrOf st2)) sa (sb + nb)
      rw [A2]
      generalize out.toList.zipIdx.foldl (fun a (p : Keyed × Nat) => a.setIfInBounds (sa + k + p.2) p.1) (arrOf st) = zs at get
      have g1 : ∀ j, j < sa + k → rk r zs j = rk r (arrOf st) j := fun j c => rk_congr (by rw [get, if_pos c])
      have g2 : ∀ j, sa + k ≤ j → j < sb + m → rk r zs j = rk r out (j - (sa + k)) := fun j c1 c2 => rk_congr (by rw [get, if_neg (by omega), if_pos c2])
      have g3 : ∀ j, sb + m ≤ j → rk r zs j = rk r (arrOf st) j := fun j c => rk_congr (by rw [get, if_neg (by omega), if_neg (by omega)])
      intro u v u1 u2 u3
      by_cases c1 : u < sa + k
      · rw [g1 u c1]
        by_cases d1 : v < sa + k
        · rw [g1 v d1]
          exact s1 u v u1 u2 (by omega)
        · by_cases d2 : v < sb + m
          · rw [g2 v (by omega) d2]
            obtain ⟨j, j1, j2, j3⟩ := ofr (v - (sa + k)) (by omega)
            rw [← j3]
            exact Int.le_trans (f1 u u1 c1) (low j j1 j2)
          · rw [g3 v (by omega)]
            exact Int.le_trans (f1 u u1 c1) (s2 sb v (Nat.le_refl _) (by omega) u3)
      · by_cases c2 : u < sb + m
        · rw [g2 u (by omega) c2]
          by_cases d2 : v < sb + m
          · rw [g2 v (by omega) d2]
            exact rise _ _ (by omega) (by omega)
          · rw [g3 v (by omega)]
            obtain ⟨j, j1, j2, j3⟩ := ofr (u - (sa + k)) (by omega)
            rw [← j3]
            exact Int.le_trans (high j j1 j2) (f4 v (by omega) u3)
        · rw [g3 u (by omega), g3 v (by omega)]
          exact s2 u v (by omega) u2 u3
    · intro j hj
      show (out.toList.zipIdx.foldl (fun a (p : Keyed × Nat) => a.setIfInBounds (sa + k + p.2) p.1) (arrOf st2))[j]? = _
      rw [A2, get]
      rcases hj with hj | hj
      · rw [if_pos (by omega)]
      · rw [if_neg (by omega), if_neg (by omega)]
  have sX : ∀ {p q : Nat}, q ≤ (arrOf st).size → Asc r (arrOf st) p q → Asc r ((arrOf st).extract p q) 0 ((arrOf st).extract p q).size := fun {p q} hq as i j i1 i2 i3 => by
    rw [Array.size_extract] at i3
    rw [rk_ext i hq (by omega), rk_ext j hq (by omega)]
    exact as _ _ (by omega) (by omega) (by omega)
  have as1 := sX (p := sa + k) (q := sb) (by omega) (fun i j i1 i2 i3 => s1 i j (by omega) i2 i3)
  have as2 := sX (p := sb) (q := sb + m) (by omega) (fun i j i1 i2 i3 => s2 i j i1 i2 (by omega))
  have ex : ((arrOf st).extract (sa + k) sb).size = sb - (sa + k) := by rw [Array.size_extract]; omega
  have ey : ((arrOf st).extract sb (sb + m)).size = m := by rw [Array.size_extract]; omega
  have p1 : rk r ((arrOf st).extract sb (sb + m)) 0 ≤ rk r ((arrOf st).extract (sa + k) sb) 0 := by
    rw [rk_ext 0 (by omega) (by omega), rk_ext 0 (by omega) (by omega)]
    exact Int.le_of_lt (f2 _ (by omega) (by omega))
  have p2 : ∀ j, j < ((arrOf st).extract sb (sb + m)).size → rk r ((arrOf st).extract sb (sb + m)) j ≤ rk r ((arrOf st).extract (sa + k) sb) (((arrOf st).extract (sa + k) sb).size - 1) := fun j hj => by
    rw [ey] at hj
    rw [ex, rk_ext j (by omega) (by omega), rk_ext _ (by omega) (by omega), show sa + k + (sb - (sa + k) - 1) = sb - 1 by omega]
    exact Int.le_of_lt (f3 _ (by omega) (by omega))
  refine wpS_ite (fun e2 => wpS_bind (wpS_mergeLoR ha B1.kind xm xm ?_ ?_ as1 as2 p1 p2 fun out st2 kp pm => fin _ _ kp pm)) (fun e2 => wpS_bind (wpS_mergeHiR ha B1.kind xm xm ?_ ?_ as1 as2 p1 p2 fun out st2 kp pm => fin _ _ kp pm))
  all_goals omega
end
end PyProof.Rows

namespace PyProof.Rows
open PySem
def SegsR (r : Keyed → Int) (xs : Array Keyed) : Nat → List (Nat × Nat × Nat) → Nat → Prop
  | a, [], b => a = b
  | a, (x, n, _) :: l, b => x = a ∧ 0 < n ∧ Asc r xs a (a + n) ∧ SegsR r xs (a + n) l b
section
variable {r : Keyed → Int} {xs zs : Array Keyed}
theorem SegsR.le : ∀ {a : Nat} {l : List (Nat × Nat × Nat)} {b : Nat}, SegsR r xs a l b → a + l.length ≤ b
  | _, [], _, h => Nat.le_of_eq h
  | a, (x, n, p) :: l, b, h => by
    have z := h.2.2.2.le
    have := h.2.1
    rw [List.length_cons]
    omega
theorem SegsR.split : ∀ {l l' : List (Nat × Nat × Nat)} {a b : Nat}, SegsR r xs a (l ++ l') b ↔ ∃ c, SegsR r xs a l c ∧ SegsR r xs c l' b
  | [], l', a, b => ⟨fun h => ⟨a, rfl, h⟩, fun ⟨c, e, h⟩ => by cases e; exact h⟩
  | (x, n, p) :: l, l', a, b => ⟨fun ⟨h1, h2, h3, h4⟩ => by obtain ⟨c, c1, c2⟩ := SegsR.split.mp h4; exact ⟨c, ⟨h1, h2, h3, c1⟩, c2⟩, fun ⟨c, ⟨h1, h2, h3, h4⟩, h5⟩ => ⟨h1, h2, h3, SegsR.split.mpr ⟨c, h4, h5⟩⟩⟩
theorem SegsR.congr : ∀ {l : List (Nat × Nat × Nat)} {a b : Nat}, SegsR r xs a l b → (∀ j, a ≤ j → j < b → zs[j]? = xs[j]?) → SegsR r zs a l b
  | [], _, _, h, _ => h
  | (x, n, p) :: l, a, b, h, e => by
    have z := h.2.2.2.le
    exact ⟨h.1, h.2.1, h.2.2.1.congr fun j j1 j2 => e j j1 (by omega), h.2.2.2.congr fun j j1 j2 => e j (by omega) j2⟩
theorem SegsR.power : ∀ {p : List (Nat × Nat × Nat)} {a b : Nat}, SegsR r xs a p b → ∀ (i pw : Nat), SegsR r xs a (p.modify i fun x => (x.1, x.2.1, pw)) b
  | [], _, _, h, i, pw => by cases i <;> exact h
  | (x, n, q) :: p, a, b, h, 0, pw => h
  | (x, n, q) :: p, a, b, h, i + 1, pw => ⟨h.1, h.2.1, h.2.2.1, h.2.2.2.power i pw⟩
end
section
variable {prog : Program} {w : World} {A : Around} {E : Value → Shared → Prop} {s : Shared} {st st' : SortSt} {κ : SortKind} {ys : List Keyed} {r : Keyed → Int}
theorem wpS_mergeSegsR2 (ha : AsksR prog w A s κ ys r) (hB : PBase κ ys st) {i b : Nat} (hp : SegsR r (arrOf st) 0 (pendingOf st).toList b) (hb : b ≤ ys.length) (hi : i + 1 < (pendingOf st).size) {Q : Bool → SortSt → Prop}
    (h : ∀ st', PBase κ ys st' → SegsR r (arrOf st') 0 (pendingOf st').toList b → (pendingOf st').size + 1 = (pendingOf st).size → (∀ j, b ≤ j → (arrOf st')[j]? = (arrOf st)[j]?) → Q true st') : wpS (model prog w) A E s (mergeAt' i) Q st := by
  generalize ep : (pendingOf st).toList = p at hp
  have hi' : i + 1 < p.length := by rw [← ep, Array.length_toList]; exact hi
  have e : p = p.take i ++ (p[i] :: p[i + 1] :: p.drop (i + 2)) := by
    rw [← List.drop_eq_getElem_cons, ← List.drop_eq_getElem_cons, List.take_append_drop]
  rcases e1 : p[i] with ⟨sa, na, pa⟩
  rcases e2 : p[i + 1] with ⟨sb, nb, pb⟩
  rw [e1, e2] at e
  have lp : (p.take i).length = i := by rw [List.length_take]; omega
  rw [e] at hp
  obtain ⟨c, h1, h2, h3, a1, h4, h5, a2, h6⟩ := SegsR.split.mp hp
  subst h2 h4
  have z6 := h6.le
  have ln : (p.take i ++ (sa, na, pa) :: (sa + na, nb, pb) :: p.drop (i + 2)).length = (pendingOf st).size := by rw [← e, ← ep, Array.length_toList]
  generalize p.take i = pre at *
  generalize p.drop (i + 2) = post at *
  refine wpS_mergeAtR ha hB (ep.trans e) lp h3 h5 rfl (by omega) a1 a2 fun st' B' P' as' fx => h st' B' ?_ ?_ fun j hj => fx j (.inr (by omega))
  · rw [P']
    refine SegsR.split.mpr ⟨_, h1.congr fun j j1 j2 => fx j (.inl j2), rfl, by omega, ?_, ?_⟩
    · rw [show sa + (na + nb) = sa + na + nb by omega]
      exact as'
    · rw [show sa + (na + nb) = sa + na + nb by omega]
      exact h6.congr fun j j1 j2 => fx j (.inr j1)
  · rw [← ln, ← Array.length_toList, P', List.length_append, List.length_append, List.length_cons, List.length_cons, List.length_cons]
    omega
theorem wpS_mergeSegsR (ha : AsksR prog w A s κ ys r) (hB : PBase κ ys st) {i b : Nat} (hp : SegsR r (arrOf st) 0 (pendingOf st).toList b) (hb : b ≤ ys.length) (hi : i + 1 < (pendingOf st).size) {Q : Bool → SortSt → Prop}
    (h : ∀ st', PBase κ ys st' → SegsR r (arrOf st') 0 (pendingOf st').toList b → (pendingOf st').size + 1 = (pendingOf st).size → Q true st') : wpS (model prog w) A E s (mergeAt' i) Q st := wpS_mergeSegsR2 ha hB hp hb hi fun st' h1 h2 h3 _ => h st' h1 h2 h3
theorem wpS_sortRunsR (ha : AsksR prog w A s κ ys r) (hB : PBase κ ys st) (hp : pendingOf st = #[]) {Q : Unit → SortSt → Prop} (h : ∀ st', PBase κ ys st' → Asc r (arrOf st') 0 ys.length → Q () st') : wpS (model prog w) A E s sortRuns' Q st := by
  rw [sortRuns'_eq]
  refine wpS_bind (wpS_get ?_)
  dsimp only
  rw [hB.size]
  generalize minRun' ys.length ys.length 0 = mr
  refine wpS_bind (wpS_mono (wpS_forRange (I := fun x c st' => PBase κ ys st' ∧ ∃ lo, c = (none, lo) ∧ SegsR r (arrOf st') 0 (pendingOf st').toList lo ∧ lo ≤ ys.length ∧ x ≤ lo) (Q := fun c st' => PBase κ ys st' ∧ ∃ lo, c = (none, lo) ∧ SegsR r (arrOf st') 0 (pendingOf st').toList ys.length) ?_ ?_ ⟨hB, 0, rfl, by rw [hp]; rfl, Nat.zero_le _, Nat.le_refl _⟩) ?_)
  · rintro x c st1 _ hx ⟨B1, lo, rfl, S1, l1, l2⟩
    dsimp only
    refine wpS_ite (fun e => wpS_pure ⟨B1, _, rfl, ?_⟩) (fun e => ?_)
    · rwa [show ys.length = lo by omega]
    apply wpS_shareN (prog := prog) (w := w) (A := A) (E := E) (s := s) (P := fun n st3 => PBase κ ys st3 ∧ SegsR r (arrOf st3) 0 (pendingOf st3).toList lo ∧ 1 ≤ n ∧ lo + n ≤ ys.length ∧ Asc r (arrOf st3) lo (lo + n))
    case use =>
      intro H
      refine wpS_bind (wpS_countRunR ha B1 (by omega) (by omega) fun n st2 S m1 m2 as => ?_)
      have B2 := S.base
      have S2 : SegsR r (arrOf st2) 0 (pendingOf st2).toList lo := by rw [S.pend]; exact S1.congr fun j _ j2 => S.fix j j2
      clear S
      dsimp only
      refine wpS_ite (fun e2 => ?_) (fun e2 => ?_)
      rotate_left
      · exact H n _ ⟨B2, S2, m1, by omega, as⟩
      · refine wpS_bind (wpS_liftA (wpAny_rule ⟨rfl, ?_⟩))
        refine wpS_bind (wpS_binarySortR ha B2 (by omega) m1 (by omega) as fun st3 S3 as3 => ?_)
        refine wpS_ite (fun e => nomatch e) (fun _ => ?_)
        exact H _ _ ⟨S3.base, by rw [S3.pend]; exact S2.congr fun j _ j2 => S3.fix j j2, by omega, by omega, as3⟩
    intro n st3 ⟨B3, S3, k1, k2, as3⟩
    refine wpS_bind (wpS_get ?_)
    apply wpS_share (prog := prog) (w := w) (A := A) (E := E) (s := s) (P := fun st4 => PBase κ ys st4 ∧ SegsR r (arrOf st4) 0 ((pendingOf st4).toList ++ [(lo, n, 0)]) (lo + n))
    case use =>
      intro H
      have S3' : SegsR r (arrOf st3) 0 ((pendingOf st3).toList ++ [(lo, n, 0)]) (lo + n) := SegsR.split.mpr ⟨_, S3, rfl, by omega, as3, rfl⟩
      cases eb : (pendingOf st3).back? with
      | none => exact H _ ⟨B3, S3'⟩
      | some t =>
        obtain ⟨s1, n1, t1⟩ := t
        dsimp only
        refine wpS_bind (wpS_mono (wpS_forRange (I := fun _ c st' => c = (none, ()) ∧ PBase κ ys st' ∧ SegsR r (arrOf st') 0 (pendingOf st').toList lo ∧ Asc r (arrOf st') lo (lo + n)) (Q := fun c st' => c = (none, ()) ∧ PBase κ ys st' ∧ SegsR r (arrOf st') 0 (pendingOf st').toList lo ∧ Asc r (arrOf st') lo (lo + n)) ?_ (fun _ _ h => h) ⟨rfl, B3, S3, as3⟩) ?_)
        · rintro x c st4 _ hx ⟨rfl, B4, S4, as4⟩
          refine wpS_bind (wpS_get ?_)
          by_cases hz : (pendingOf st4).size > 1
          · rw [if_pos hz, Array.getElem?_eq_getElem (show (pendingOf st4).size - 2 < (pendingOf st4).size by omega)]
            rcases (pendingOf st4)[(pendingOf st4).size - 2] with ⟨u1, u2, u3⟩
            refine wpS_ite (fun e => wpS_pure ⟨rfl, B4, S4, as4⟩) (fun e => ?_)
            refine wpS_bind (wpS_mergeSegsR2 ha B4 S4 l1 (by omega) fun st5 B5 S5 _ fx => ?_)
            exact wpS_pure ⟨rfl, B5, S5, as4.congr fun j j1 _ => fx j j1⟩
          · rw [if_neg hz]
            exact wpS_pure ⟨rfl, B4, S4, as4⟩
        · rintro c st4 ⟨rfl, B4, S4, as4⟩
          refine wpS_bind (wpS_modify (H _ ⟨⟨B4.perm, B4.kind, B4.failed⟩, ?_⟩))
          refine SegsR.split.mpr ⟨lo, ?_, rfl, by omega, as4, rfl⟩
          show SegsR r (arrOf st4) 0 ((pendingOf st4).modify ((pendingOf st4).size - 1) _).toList lo
          rw [Array.toList_modify]
          exact S4.power _ _
    intro st4 ⟨B4, S4⟩
    refine wpS_bind (wpS_modify (wpS_pure ⟨⟨B4.perm, B4.kind, B4.failed⟩, _, rfl, ?_, k2, by omega⟩))
    show SegsR r (arrOf st4) 0 ((pendingOf st4).push (lo, n, 0)).toList (lo + n)
    rw [Array.toList_push]
    exact S4
  · rintro c st1 ⟨B1, lo, rfl, S1, l1, l2⟩
    refine ⟨B1, _, rfl, ?_⟩
    rwa [show ys.length = lo by omega]
  · rintro c st1 ⟨B1, lo, rfl, S1⟩
    have z1 := S1.le
    rw [Array.length_toList] at z1
    refine wpS_bind (wpS_mono (wpS_forRange (I := fun x c st' => c = (none, ()) ∧ PBase κ ys st' ∧ SegsR r (arrOf st') 0 (pendingOf st').toList ys.length ∧ (pendingOf st').size ≤ max 1 (ys.length - x)) (Q := fun c st' => c = (none, ()) ∧ PBase κ ys st' ∧ SegsR r (arrOf st') 0 (pendingOf st').toList ys.length ∧ (pendingOf st').size ≤ 1) ?_ ?_ ⟨rfl, B1, S1, by omega⟩) ?_)
    · rintro x c st2 _ hx ⟨rfl, B2, S2, n2⟩
      refine wpS_bind (wpS_get ?_)
      refine wpS_ite (fun e => wpS_pure ⟨rfl, B2, S2, e⟩) (fun e => ?_)
      refine wpS_bind (wpS_mergeSegsR ha B2 S2 (Nat.le_refl _) ?_ fun st3 B3 S3 n3 => ?_)
      · (repeat' split) <;> omega
      · exact wpS_pure ⟨rfl, B3, S3, by omega⟩
    · rintro c st2 ⟨rfl, B2, S2, n2⟩
      exact ⟨rfl, B2, S2, by omega⟩
    · rintro c st2 ⟨rfl, B2, S2, n2⟩
      refine wpS_pure (h _ B2 ?_)
      generalize ep : (pendingOf st2).toList = p at S2
      have lp : p.length ≤ 1 := by rw [← ep, Array.length_toList]; exact n2
      match p, S2, lp with
      | [], S, _ =>
        have e : 0 = ys.length := S
        intro i j _ _ hj
        omega
      | [(x, n, q)], S, _ =>
        have e : 0 + n = ys.length := S.2.2.2
        rw [← e]
        exact S.2.2.1
      | _ :: _ :: _, _, l => exact absurd l (by simp)
end
end PyProof.Rows

namespace HT
open PySem PySem.Spec PyProof.Rows
section
open PySem.SeqAt
open PySem.AutoSeq1 (wpAny_loadPart')
open PySem.MeetsSeq PySem.MeetsSeq2 PySem.MeetsSeq3
theorem intsAt {vs : List Value} {ns : List Int} (h : IntsAre vs ns) {i : Nat} (h1 : i < vs.length) (h2 : i < ns.length) : ∃ t, vs[i] = Value.int ns[i] t := by
  induction h generalizing i with
  | nil => exact absurd h1 (Nat.not_lt_zero _)
  | cons => 
    rename_i ih
    cases i with
    | zero => exact ⟨_, rfl⟩
    | succ i => exact ih (Nat.lt_of_succ_lt_succ h1) (Nat.lt_of_succ_lt_succ h2)
theorem lt_loopI (l b : Addr) (items items2 : Array Value) (n n2 : Nat) (dd dd2 : Option Addr) (sl sl2 : Array (Option Value)) (ns ms : List Int) (hi : IntsAre items.toList ns) (hj : IntsAre items2.toList ms) (k : Nat) :
    ∀ i : Nat, items.size - i = k → i ≤ items.size → i ≤ items2.size → Meets (Builtin.«list.__eq__.loop» ⟨[.ref l, .ref b, rawInt i, rawInt 0], []⟩)
      (fun A R s => s.heap.get? l = some { cls := .type "list", dict := dd, data := .seq items n, slots := sl } ∧ s.heap.get? b = some { cls := .type "list", dict := dd2, data := .seq items2 n2, slots := sl2 } ∧
        R (.ok (.ret (.bool (lexLt (ns.drop i) (ms.drop i))))) s) := by
  have z1 : items.size = ns.length := by rw [← hi.length]; simp
  have z2 : items2.size = ms.length := by rw [← hj.length]; simp
  induction k with
  | zero =>
    intro i hk hi1 hi2 prog w A R s h
    obtain ⟨hp, g, d, tk, os⟩ := s; obtain ⟨hl, hb, h⟩ := h
    wp_walk using wpAny_loadPart' hl, wpAny_loadPart' hb
    have hi1 : items[((i : Nat) : Int).toNat]? = none := by simp; omega
    rw [hi1]
    wp_walk using wpAny_loadPart' hl, wpAny_loadPart' hb
    have e : lexLt (ns.drop i) (ms.drop i) = decide (items.size < items2.size) := by
      rw [List.drop_of_length_le (show ns.length ≤ i by omega)]
      by_cases c : i < ms.length
      · rw [List.drop_eq_getElem_cons c, lexLt_nil_cons, decide_eq_true (by omega)]
      · rw [List.drop_of_length_le (by omega), lexLt_nil_nil, decide_eq_false (by omega)]
    rw [e] at h
    exact h
  | succ k ih =>
    intro i hk hi1 hi2 prog w A R s h
    obtain ⟨hp, g, d, tk, os⟩ := s; obtain ⟨hl, hb, h⟩ := h
    wp_walk using wpAny_loadPart' hl, wpAny_loadPart' hb
    have hlt : i < items.size := by omega
    have hi1 : items[((i : Nat) : Int).toNat]? = some items[i] := by simp [hlt]
    have hc : ((i : Int) + 1) = ((i + 1 : Nat) : Int) := by push_cast; rfl
    have hn : i < ns.length := by omega
    rw [hi1]
    rw [List.drop_eq_getElem_cons hn] at h
    by_cases hlt2 : i < items2.size
    · have hm : i < ms.length := by omega
      have hi2 : items2[((i : Nat) : Int).toNat]? = some items2[i] := by simp [hlt2]
      rw [hi2]
      rw [List.drop_eq_getElem_cons hm, lexLt_cons] at h
      obtain ⟨t, ea⟩ := intsAt hi (i := i) (by rw [Array.length_toList]; exact hlt) hn
      obtain ⟨u, ec⟩ := intsAt hj (i := i) (by rw [Array.length_toList]; exact hlt2) hm
      rw [Array.getElem_toList] at ea ec
      obtain ⟨e, he, hiff⟩ := eqAt_int A.in1 ⟨hp, g, d, tk, os⟩ ns[i] t ms[i] u
      dsimp only
      rw [ea, ec]
      refine wpAny_bind (he prog w _ _ ?_)
      cases e with
      | true =>
        rw [if_pos (hiff.mp rfl)] at h
        wp_walk
        rw [hc]
        exact ⟨plainId_quiet plain_eq_loop _, codeAny_builtin entry_eq_loop (by
          rw [Around.under_plainId plain_eq_loop _]
          exact ih (i + 1) (by omega) (by omega) (by omega) prog w A R _ ⟨hl, hb, h⟩)⟩
      | false =>
        rw [if_neg (fun z => nomatch (hiff.mpr z))] at h
        have hri := rcLt_int A.in1 ⟨hp, g, d, tk, os⟩ ns[i] t ms[i] u prog w
        wp_walk using wpAny_loadPart' hl, wpAny_loadPart' hb
        rw [hi1, hi2, ea, ec]
        wp_walk using hri
        exact h
    · have hi2 : items2[((i : Nat) : Int).toNat]? = none := by simp; omega
      rw [hi2]
      wp_walk using wpAny_loadPart' hl, wpAny_loadPart' hb
      rw [List.drop_of_length_le (show ms.length ≤ i by omega), lexLt_cons_nil] at h
      have e : decide (items.size < items2.size) = false := decide_eq_false (by omega)
      rw [← e] at h
      exact h
theorem list_lt_ints (l b : Addr) (items items2 : Array Value) (n n2 : Nat) (dd dd2 : Option Addr) (sl sl2 : Array (Option Value)) (ns ms : List Int) (hi : IntsAre items.toList ns) (hj : IntsAre items2.toList ms) :
    Meets (Builtin.«list.__lt__» ⟨[.ref l, .ref b], []⟩)
      (fun _ R s => s.heap.get? l = some { cls := .type "list", dict := dd, data := .seq items n, slots := sl } ∧ s.heap.get? b = some { cls := .type "list", dict := dd2, data := .seq items2 n2, slots := sl2 } ∧
        R (.ok (.ret (.bool (lexLt ns ms)))) s) := by
  intro prog w A R s h
  obtain ⟨hp, g, d, tk, os⟩ := s; obtain ⟨hl, hb, h⟩ := h
  have f3 := AutoSeq1.sub_list_list
  wp_walk using wpAny_loadPart' hl, wpAny_loadPart' hb
  exact ⟨plainId_quiet plain_eq_loop _, codeAny_builtin entry_eq_loop (by
    rw [Around.under_plainId plain_eq_loop _]
    exact lt_loopI l b items items2 n n2 dd dd2 sl sl2 ns ms hi hj _ 0 rfl (Nat.zero_le _) (Nat.zero_le _) prog w A R _ ⟨hl, hb, h⟩)⟩
end
end HT
namespace PySem.W
open PySem PySem.Calls PyProof.Rows
section
variable {prog : Program} {w : World} {A : Around} {E : Value → Shared → Prop} {s : Shared}
theorem tsort_listR {a : Addr} {vs : List Value} {n : Nat} {P : PySem.Fin → Shared → Prop} {ρ : Value → Int} (ho : s.heap.get? a = some (seqObj "list" vs.toArray n)) (hz : vs.length ≤ sizeLine)
    (hk : 2 ≤ vs.length → ∀ Q : SortKind → Shared → Prop, (∀ κ, Q κ { s with heap := midHeap s.heap a vs }) → wpAny (model prog w) A (keyKind' vs.toArray) Q E { s with heap := midHeap s.heap a vs })
    (ask : 2 ≤ vs.length → ∀ κ, AsksR prog w A { s with heap := midHeap s.heap a vs } κ (vs.zip vs) fun x => ρ x.2)
    (h : ∀ out : List Value, out.Perm vs → out.Pairwise (fun u v => ρ u ≤ ρ v) → P (.done (.ret .none)) { s with heap := sortedHeap s.heap a vs out.toArray }) :
    wpAny (model prog w) A (Builtin.«list.sort» ⟨[.ref a], []⟩) P E s := by
  have ha : a < s.heap.objs.size := Heap.lt_size ho
  obtain ⟨e1, ho1⟩ : ∃ e1, (s.heap.update a (Obj.mapSeq fun _ => (#[] : Array Value))).get? a = some (seqObj "list" #[] e1) := ⟨_, get?_update_seq ho fun _ => #[]⟩
  have ho3 : (midHeap s.heap a vs).get? a = some (seqObj "list" #[] e1) := Heap.get?_push_of_some _ (Heap.get?_push_of_some _ ho1)
  rw [list_sort_plain]
  refine wpAny_bind (listItems_at ho rfl ?_)
  refine wpAny_bind (listUpdate_at ho rfl ?_ (by rw [List.size_toArray]; exact hz) (Nat.zero_le _))
  refine wpAny_bind (seqEpoch_at ho1 rfl ?_)
  refine wpAny_bind (wpAny_newTuple ?_ (by show vs.length ≤ _; exact hz))
  refine wpAny_bind (wpAny_newList ?_ (Nat.zero_le _))
  refine wpAny_holding ?_
  show wpAny (model prog w) A _ P E { s with heap := midHeap s.heap a vs }
  dsimp only
  have hout : (vs.toArray.zip vs.toArray).map (·.2) = vs.toArray := by
    apply Array.toList_inj.mp
    rw [Array.toList_map, Array.toList_zip]
    exact List.map_snd_zip (Nat.le_refl _)
  by_cases h2 : vs.toArray.size < 2
  · rw [if_pos h2, if_pos h2]
    rw [List.size_toArray] at h2
    refine wpAny_bind (wpAny_pure ?_)
    rw [StateT.run_pure]
    refine wpAny_bind (wpAny_pure ?_)
    dsimp only
    refine wpAny_bind (seqEpoch_at ho3 rfl ?_)
    refine wpAny_bind (listUpdate_at ho3 rfl ?_ (Nat.zero_le _) (Nat.le_succ_of_le (Nat.le_trans (Nat.le_of_eq ((congrArg Array.size hout).trans List.size_toArray)) hz)))
    simp only [bne_self_eq_false, Bool.false_eq_true, if_false]
    refine wpAny_pure ?_
    have hq := h vs (List.Perm.refl _) (by
      match vs, h2 with
      | [], _ => exact .nil
      | [x], _ => exact List.pairwise_singleton ..
      | _ :: _ :: _, h => exact absurd h (by simp))
    rw [← hout] at hq
    exact hq
  · rw [if_neg h2, if_neg h2]
    rw [List.size_toArray] at h2
    have h2' : 2 ≤ vs.length := by omega
    refine wpAny_bind (hk h2' _ fun κ => ?_)
    refine wpAny_bind (wpAny_mono (wpS_sortRunsR (E := E) (κ := κ) (ys := vs.zip vs) (r := fun x => ρ x.2) (Q := fun _ st' => PBase κ (vs.zip vs) st' ∧ Asc (fun x => ρ x.2) (arrOf st') 0 (vs.zip vs).length) (ask h2' κ) ⟨by rw [show arrOf _ = vs.toArray.zip vs.toArray from rfl, Array.toList_zip], rfl, rfl⟩ rfl fun st' b as => ⟨b, as⟩) ?_ fun _ _ e => e)
    rintro ⟨⟨⟩, st'⟩ s' ⟨rfl, b, as⟩
    dsimp only
    have pm : ((arrOf st').map (·.2)).toList.Perm vs := by
      rw [Array.toList_map]
      refine (b.perm.map _).trans (List.Perm.of_eq ?_)
      exact List.map_snd_zip (Nat.le_refl _)
    have hsz : ((arrOf st').map (·.2)).size ≤ sizeLine := by
      rw [← Array.length_toList, pm.length_eq]
      exact hz
    have pw : ((arrOf st').map (·.2)).toList.Pairwise (fun u v => ρ u ≤ ρ v) := by
      rw [List.pairwise_iff_getElem]
      intro i j hi hj hij
      rw [Array.length_toList, Array.size_map] at hi hj
      have z := as i j (Nat.zero_le _) (Nat.le_of_lt hij) (by rw [← b.size]; exact hj)
      rw [rk_of hi, rk_of hj] at z
      rw [Array.getElem_toList, Array.getElem_toList, Array.getElem_map, Array.getElem_map]
      exact z
    refine wpAny_bind (seqEpoch_at ho3 rfl ?_)
    refine wpAny_bind (listUpdate_at ho3 rfl ?_ (Nat.zero_le _) (Nat.le_succ_of_le hsz))
    rw [b.failed]
    simp only [bne_self_eq_false, Bool.false_eq_true, if_false]
    have hq := h _ pm pw
    rw [Array.toArray_toList] at hq
    exact wpAny_pure hq
theorem tsortedR {l : Addr} {vs : List Value} {Q : Value → Shared → Prop} {ρ : Value → Int} (hl : s.heap.IsList l vs.toArray) (hz : vs.length ≤ sizeLine)
    (hk : 2 ≤ vs.length → ∀ s' : Shared, (∀ b o, s.heap.get? b = some o → s'.heap.get? b = some o) → ∀ (E' : Value → Shared → Prop) (Q : SortKind → Shared → Prop), (∀ κ, Q κ s') → wpAny (model prog w) A.in1.in1 (keyKind' vs.toArray) Q E' s')
    (ask : 2 ≤ vs.length → ∀ s' : Shared, (∀ b o, s.heap.get? b = some o → s'.heap.get? b = some o) → ∀ κ, AsksR prog w A.in1.in1 s' κ (vs.zip vs) fun x => ρ x.2)
    (h : ∀ out : List Value, out.Perm vs → out.Pairwise (fun u v => ρ u ≤ ρ v) → Q (.ref (s.heap.objs.size + 1)) { s with heap := sortedAll s.heap vs out.toArray }) :
    wpAny (model prog w) A (call (.builtin "sorted") [.ref l]) Q E s := by
  refine Calls.call_function_entry kind_sorted plain_sorted entry_sorted (args_sorted1 _) ?_
  unfold Builtin.«sorted»
  refine wpAny_bind (m := checkCount "sorted" 1 1 _) (wpAny_pure ?_)
  refine wpAny_bind (collect_list hl ?_ hz)
  refine wpAny_bind (wpAny_newList ?_ hz)
  have hsz : ((s.heap.push (seqObj "list" #[] 0)).update s.heap.objs.size (Obj.mapSeq (· ++ vs.toArray))).objs.size = s.heap.objs.size + 1 := by
    rw [Heap.size_update, size_push']
  have hoL : (preHeap s.heap vs).get? (s.heap.objs.size + 1) = some (seqObj "list" vs.toArray 0) := by
    unfold preHeap
    rw [← hsz]; exact Heap.get?_push_size _ rfl
  have keep : ∀ b o, s.heap.get? b = some o → (midHeap (preHeap s.heap vs) (s.heap.objs.size + 1) vs).get? b = some o := fun b o e => by
    have hlt : b < s.heap.objs.size := Heap.lt_size e
    exact midHeap_old (Nat.ne_of_lt (Nat.lt_succ_of_lt hlt)) (preHeap_old e)
  show wpAny _ _ _ _ _ { s with heap := preHeap s.heap vs }
  rw [hsz]
  refine wpAny_bind (wpAny_holding (wpAny_call_entry slot_list_sort ⟨_, hoL, rfl⟩ entry_list_sort ?body (args_list_sort _)))
  case body =>
    exact tsort_listR (s := { s with heap := preHeap s.heap vs }) hoL hz (fun h2 Q' hq => hk h2 _ keep _ Q' hq) (fun h2 => ask h2 _ keep) fun out hg hp => ⟨_, rfl, wpAny_pure ⟨_, rfl, h out hg hp⟩⟩
end
end PySem.W
namespace L2
open PySem PySem.Spec PyProof.Rows PySem.W
def rankL (all : List (List Int)) (a : List Int) : Int := ((all.filter fun b => HT.lexLt b a).length : Int)
theorem filter_le {α : Type} {p q : α → Bool} : ∀ {l : List α}, (∀ x ∈ l, p x = true → q x = true) → (l.filter p).length ≤ (l.filter q).length
  | [], _ => Nat.le_refl _
  | x :: l, h => by
    have ih := filter_le (l := l) fun y hy => h y (.tail _ hy)
    rw [List.filter_cons, List.filter_cons]
    by_cases c : p x = true
    · rw [if_pos c, if_pos (h x (.head _) c), List.length_cons, List.length_cons]
      omega
    · rw [if_neg c]
      split
      · rw [List.length_cons]; omega
      · exact ih
theorem filter_lt {α : Type} {p q : α → Bool} : ∀ {l : List α} {z : α}, (∀ x ∈ l, p x = true → q x = true) → z ∈ l → p z = false → q z = true → (l.filter p).length < (l.filter q).length
  | x :: l, z, h, hz, h1, h2 => by
    rw [List.filter_cons, List.filter_cons]
    rcases List.mem_cons.mp hz with rfl | hz
    · rw [if_neg (by rw [h1]; decide), if_pos h2, List.length_cons]
      have := filter_le (l := l) fun y hy => h y (.tail _ hy)
      omega
    · have ih := filter_lt (l := l) (fun y hy => h y (.tail _ hy)) hz h1 h2
      by_cases c : p x = true
      · rw [if_pos c, if_pos (h x (.head _) c), List.length_cons, List.length_cons]
        omega
      · rw [if_neg c]
        split
        · rw [List.length_cons]; omega
        · exact ih
theorem rank_lt {all : List (List Int)} {a b : List Int} (ha : a ∈ all) : decide (rankL all a < rankL all b) = HT.lexLt a b := by
  unfold rankL
  cases e : HT.lexLt a b with
  | true =>
    refine decide_eq_true (Int.ofNat_lt.mpr (filter_lt (z := a) (fun x _ hx => lexLt_tr x a b hx e) ha (lexLt_irr a) e))
  | false =>
    refine decide_eq_false (Int.not_lt.mpr (Int.ofNat_le.mpr (filter_le fun x _ hx => ?_)))
    rcases lexLt_or x a b hx with h | h
    · exact h
    · rw [e] at h; cases h
theorem rank_le {all : List (List Int)} {a b : List Int} (hb : b ∈ all) (h : rankL all a ≤ rankL all b) : HT.lexLt b a = false := by
  have z := rank_lt (b := a) hb
  rw [decide_eq_false (Int.not_lt.mpr h)] at z
  exact z.symm
def numsV (xs : List V) : List Int := xs.map fun | V.int i => i | _ => 0
theorem numsV_ints : ∀ ns : List Int, numsV (ns.map V.int) = ns
  | [] => rfl
  | x :: ns => by
    show x :: numsV (ns.map V.int) = _
    rw [numsV_ints ns]
def rowOf (H : Hp) : Value → List Int
  | .ref a => match H a with
    | some (.lst xs) => numsV xs
    | some (.tup xs) => numsV xs
    | _ => []
  | _ => []
theorem rowOf_lst {H : Hp} {a : Addr} {ns : List Int} (h : H a = some (.lst (ns.map V.int))) : rowOf H (.ref a) = ns := by
  show (match H a with | some (.lst xs) => numsV xs | some (.tup xs) => numsV xs | _ => []) = _
  rw [h]
  exact numsV_ints ns
theorem rowOf_tup {H : Hp} {a : Addr} {ns : List Int} (h : H a = some (.tup (ns.map V.int))) : rowOf H (.ref a) = ns := by
  show (match H a with | some (.lst xs) => numsV xs | some (.tup xs) => numsV xs | _ => []) = _
  rw [h]
  exact numsV_ints ns
section
variable {prog : Program} {w : World} {A : Around} {E : Value → Shared → Prop} {s : Shared}
theorem lex_intsF {C : Bool → Shared → Prop} {b fin : Bool} : ∀ {ns ms : List Int} {us ws : List Value} (_ : Vals (ns.map V.int) us) (_ : Vals (ms.map V.int) ws) (i : Nat) (_ : fin = decide (ns.length < ms.length)) (_ : C (HT.lexLt ns ms) s), KatLex prog w A b fin C (us.zip ws) i s
  | [], [], _, _, r1, r2, i, hf, h => by
    cases r1
    cases r2
    rw [hf]
    exact kat_nil h
  | [], _ :: _, _, _, r1, _, i, hf, h => by
    cases r1
    rw [hf]
    refine kat_nil ?_
    exact h
  | _ :: _, [], _, _, r1, r2, i, hf, h => by
    cases r2
    rw [hf, List.zip_nil_right]
    exact kat_nil h
  | x :: xs, y :: ys, _, _, r1, r2, i, hf, h => by
    cases r1 with
    | cons p1 q1 =>
      cases r2 with
      | cons p2 q2 =>
        obtain ⟨t, rfl⟩ := p1
        obtain ⟨t', rfl⟩ := p2
        rw [List.zip_cons_cons]
        refine kat_cons (wpAny_eqBool_int ?_)
        rw [HT.lexLt_cons] at h
        by_cases e : x = y
        · rw [if_pos e] at h
          rw [show (x == y) = true from by simpa using e]
          refine kat_yes (lex_intsF q1 q2 (i + 1) ?_ h)
          rw [hf, List.length_cons, List.length_cons]
          exact decide_eq_decide.mpr ⟨fun z => by omega, fun z => by omega⟩
        · rw [if_neg e] at h
          rw [show (x == y) = false from by simpa using e]
          refine kat_no ?_
          cases (b && i == 0) with
          | true => exact oneLt_int h
          | false => exact kat_one _ _ (wpAny_lt_int h)
theorem asksR_lists {vs : List Value} {ρ : Value → Int} (hu : A.units < cLine) (hT : ∀ v ∈ vs, ∃ ns, LisN s.heap v ns) (hρ : ∀ u ∈ vs, ∀ v ∈ vs, ∀ ns ms, LisN s.heap u ns → LisN s.heap v ms → decide (ρ u < ρ v) = HT.lexLt ns ms) (κ : SortKind) : AsksR prog w A s κ (vs.zip vs) fun x => ρ x.2 := fun x y hx hy Q h => by
  have mx := mem_zip_self hx
  have my := mem_zip_self hy
  obtain ⟨ns, l1⟩ := hT _ mx.2
  obtain ⟨ms, l2⟩ := hT _ my.2
  have h : Q (HT.lexLt ns ms) s := by
    rw [← hρ x.2 (by rw [← mx.1]; exact mx.2) y.2 (by rw [← my.1]; exact my.2) ns ms (by rw [← mx.1]; exact l1) (by rw [← my.1]; exact l2)]
    exact h
  obtain ⟨a, o, n, us, e1, ho, hc, hd, r1⟩ := l1
  obtain ⟨b, o', n', ws, e2, ho', hc', hd', r2⟩ := l2
  rw [e1, e2]
  have i1 : IntsAre us.toArray.toList ns := intsAre_of r1
  have i2 : IntsAre ws.toArray.toList ms := intsAre_of r2
  rcases κ with _ | _ | bb
  · show wpAny (model prog w) A (oneLt' false (.ref a) (.ref b)) Q _ s
    obtain ⟨cls, dd, data, sl⟩ := o
    obtain ⟨cls2, dd2, data2, sl2⟩ := o'
    simp only at hc hd hc' hd'
    subst hc hd hc' hd'
    exact kat_one _ _ (richCompare_meets_room (op := .Lt) ⟨_, ho, rfl⟩ ⟨_, ho', rfl⟩ PySem.F.slot_list_lt PySem.F.entry_list_lt (PySem.F.args_list_lt_2 _ _) (HT.list_lt_ints a b us.toArray ws.toArray n n' dd dd2 sl sl2 ns ms i1 i2)
      ⟨ho, ho', ⟨(fun z => nomatch z), by first | exact h | exact ⟨_, rfl, h⟩⟩⟩ hu)
  · show wpAny (model prog w) A (oneLt' true (.ref a) (.ref b)) Q _ s
    rw [oneLt'_eq]
    simp only [if_true]
    refine wpAny_bind (wpAny_cRoomFor hu ?_)
    obtain ⟨cls, dd, data, sl⟩ := o
    obtain ⟨cls2, dd2, data2, sl2⟩ := o'
    simp only at hc hd hc' hd'
    subst hc hd hc' hd'
    refine wpAny_bind (wpAny_callSpecialIfBound?_slot ⟨_, ho, rfl⟩ PySem.F.slot_list_lt (call_meets PySem.F.slot_list_lt ⟨_, ho, rfl⟩ PySem.F.entry_list_lt (PySem.F.args_list_lt_2 _ _) (HT.list_lt_ints a b us.toArray ws.toArray n n' dd dd2 sl sl2 ns ms i1 i2) ⟨ho, ho', ?_⟩))
    exact wpAny_truthy_bool h
  · have l1 := r1.length
    have l2 := r2.length
    rw [List.length_map] at l1 l2
    exact kat_lt ho hd ho' hd' (lex_intsF r1 r2 0 (by rw [List.size_toArray, List.size_toArray, ← l1, ← l2]) h)
theorem asksR_tups {vs : List Value} {ρ : Value → Int} (hu : A.units < cLine) (hT : ∀ v ∈ vs, ∃ ns, TupN s.heap v ns) (hρ : ∀ u ∈ vs, ∀ v ∈ vs, ∀ ns ms, TupN s.heap u ns → TupN s.heap v ms → decide (ρ u < ρ v) = HT.lexLt ns ms) (κ : SortKind) : AsksR prog w A s κ (vs.zip vs) fun x => ρ x.2 := fun x y hx hy Q h => by
  have mx := mem_zip_self hx
  have my := mem_zip_self hy
  obtain ⟨ns, l1⟩ := hT _ mx.2
  obtain ⟨ms, l2⟩ := hT _ my.2
  have h : Q (HT.lexLt ns ms) s := by
    rw [← hρ x.2 (by rw [← mx.1]; exact mx.2) y.2 (by rw [← my.1]; exact my.2) ns ms (by rw [← mx.1]; exact l1) (by rw [← my.1]; exact l2)]
    exact h
  obtain ⟨a, o, n, us, e1, ho, hc, hd, r1⟩ := l1
  obtain ⟨b, o', n', ws, e2, ho', hc', hd', r2⟩ := l2
  rw [e1, e2]
  have i1 : IntsAre us.toArray.toList ns := intsAre_of r1
  have i2 : IntsAre ws.toArray.toList ms := intsAre_of r2
  rcases κ with _ | _ | bb
  · show wpAny (model prog w) A (oneLt' false (.ref a) (.ref b)) Q _ s
    exact kat_one _ _ (HT.lt_tupInts ⟨o, ho, hc, n, hd⟩ ⟨o', ho', hc', n', hd'⟩ i1 i2 hu (by first | exact h | exact ⟨_, rfl, h⟩))
  · show wpAny (model prog w) A (oneLt' true (.ref a) (.ref b)) Q _ s
    rw [oneLt'_eq]
    simp only [if_true]
    refine wpAny_bind (wpAny_cRoomFor hu ?_)
    obtain ⟨cls, dd, data, sl⟩ := o
    obtain ⟨cls2, dd2, data2, sl2⟩ := o'
    simp only at hc hd hc' hd'
    subst hc hd hc' hd'
    refine wpAny_bind (wpAny_callSpecialIfBound?_slot ⟨_, ho, rfl⟩ PySem.F.slot_tuple_lt (call_meets PySem.F.slot_tuple_lt ⟨_, ho, rfl⟩ PySem.F.entry_tuple_lt (PySem.F.args_tuple_lt_2 _ _) (HT.tuple_lt_ints a b us.toArray ws.toArray n n' dd dd2 sl sl2 ns ms i1 i2) ⟨ho, ho', ?_⟩))
    exact wpAny_truthy_bool h
  · have l1 := r1.length
    have l2 := r2.length
    rw [List.length_map] at l1 l2
    exact kat_lt ho hd ho' hd' (lex_intsF r1 r2 0 (by rw [List.size_toArray, List.size_toArray, ← l1, ← l2]) h)
end
theorem valsInj : ∀ {ns ms : List Int} {us : List Value}, Vals (ns.map V.int) us → Vals (ms.map V.int) us → ns = ms
  | [], [], _, _, _ => rfl
  | [], _ :: _, _, r1, r2 => by cases r1; cases r2
  | _ :: _, [], _, r1, r2 => by cases r2; cases r1
  | x :: xs, y :: ys, _, r1, r2 => by
    cases r1 with
    | cons p1 q1 =>
      cases r2 with
      | cons p2 q2 =>
        obtain ⟨t, rfl⟩ := p1
        obtain ⟨t', e⟩ := p2
        cases e
        rw [valsInj q1 q2]
theorem LisN.inj {h : Heap} {v : Value} {ns ms : List Int} (a : LisN h v ns) (b : LisN h v ms) : ns = ms := by
  obtain ⟨p, o, n, its, rfl, e1, _, d1, r1⟩ := a
  obtain ⟨q, o', n', its', e, e2, _, d2, r2⟩ := b
  cases e
  rw [e1] at e2
  cases e2
  rw [d1] at d2
  injection d2 with d3 d4
  have e : its = its' := by injection d3
  subst e
  exact valsInj r1 r2
theorem TupN.inj {h : Heap} {v : Value} {ns ms : List Int} (a : TupN h v ns) (b : TupN h v ms) : ns = ms := by
  obtain ⟨p, o, n, its, rfl, e1, _, d1, r1⟩ := a
  obtain ⟨q, o', n', its', e, e2, _, d2, r2⟩ := b
  cases e
  rw [e1] at e2
  cases e2
  rw [d1] at d2
  injection d2 with d3 d4
  have e : its = its' := by injection d3
  subst e
  exact valsInj r1 r2
section
variable {X : Cx}
theorem call_sortedQR (hu : X.A.units + 2 < cLine) : CallR X (.builtin "sorted") (fun xs H Q => ∃ (l : Addr) (ts : List (Addr × List Int)), xs = [.ref l] ∧ SqL X.K H l ((ts.map (·.1)).map V.ref) ∧ (∀ t ∈ ts, H t.1 = some (.lst (t.2.map V.int))) ∧
    ∀ (p : Addr) (us : List (Addr × List Int)), H p = none → us.Perm ts → us.Pairwise (fun a b => HT.lexLt b.2 a.2 = false) → Q (.ref p) (upd H p (.lst ((us.map (·.1)).map V.ref)))) := by
  intro pins s σ H xs us Q I r h
  obtain ⟨l, ts, rfl, hq, hts, q⟩ := h
  obtain ⟨u, rfl, ru⟩ := Vals.one r
  cases ru
  obtain ⟨its, rv, pl, hz⟩ := I.list hq
  have ei := refs_of rv
  subst ei
  have hL : ∀ t ∈ ts, LisN s.heap (.ref t.1) t.2 := fun t ht => by
    obtain ⟨_, its, n, r1, _, eo⟩ := I.lstM (hts t ht)
    exact ⟨_, _, n, its, rfl, eo, rfl, rfl, r1⟩
  have hM : ∀ v ∈ (ts.map (·.1)).map Value.ref, ∃ t ∈ ts, v = .ref t.1 := fun v hv => by
    obtain ⟨a, ha, rfl⟩ := List.mem_map.mp hv
    obtain ⟨t, ht, rfl⟩ := List.mem_map.mp ha
    exact ⟨t, ht, rfl⟩
  have hT : ∀ v ∈ (ts.map (·.1)).map Value.ref, ∃ ns, LisN s.heap v ns := fun v hv => by
    obtain ⟨t, ht, rfl⟩ := hM v hv
    exact ⟨_, hL t ht⟩
  refine tsortedR (ρ := fun v => rankL (ts.map (·.2)) (rowOf H v)) pl.isList ?_ (fun _ s' kp E' Q' hq => kind_lists (fun v hv => let ⟨ns, e⟩ := hT v hv; ⟨ns, e.keep kp⟩) hq) (fun _ s' kp κ => asksR_lists (ρ := fun v => rankL (ts.map (·.2)) (rowOf H v)) hu (fun v hv => let ⟨ns, e⟩ := hT v hv; ⟨ns, e.keep kp⟩) (fun u hu v hv ns ms l1 l2 => ?_) κ) fun out pm pw => ?_
  · rw [List.length_map]; rw [List.length_map] at hz; exact hz
  · obtain ⟨t, ht, rfl⟩ := hM u hu
    obtain ⟨t', ht', rfl⟩ := hM v hv
    rw [l1.inj ((hL t ht).keep kp), l2.inj ((hL t' ht').keep kp)]
    rw [rowOf_lst (hts t ht), rowOf_lst (hts t' ht')]
    exact rank_lt (List.mem_map_of_mem ht)
  · rw [List.map_map] at pm
    obtain ⟨us, pu, rfl⟩ := perm_map_inv pm rfl
    have e0 : us.map (Value.ref ∘ fun x : Addr × List Int => x.1) = (us.map (·.1)).map Value.ref := by rw [List.map_map]
    rw [e0]
    obtain ⟨e, at'⟩ := sortedAll_at s.heap ((ts.map (·.1)).map Value.ref) ((us.map (·.1)).map Value.ref).toArray
    have fr : H (s.heap.objs.size + 1) = none := I.hok.fresh (Nat.le_succ _)
    have pw2 : us.Pairwise (fun a b => HT.lexLt b.2 a.2 = false) := by
      rw [List.pairwise_map] at pw
      refine pw.imp_of_mem fun {a b} ha hb z => ?_
      have ha' := pu.mem_iff.mp ha
      have hb' := pu.mem_iff.mp hb
      have z : rankL (ts.map (·.2)) (rowOf H (.ref a.1)) ≤ rankL (ts.map (·.2)) (rowOf H (.ref b.1)) := z
      rw [rowOf_lst (hts a ha'), rowOf_lst (hts b hb')] at z
      exact rank_le (List.mem_map_of_mem hb') z
    refine ⟨.ref (s.heap.objs.size + 1), _, I.laid (t' := s.toks) (a := s.heap.objs.size + 1) (o := .lst ((us.map (·.1)).map V.ref)) (fun b ob q => sortedAll_old q) (Nat.le_succ _) ?_, rfl, q _ _ fr pu pw2⟩
    refine ⟨?_, _, e, vals_refs _, at'⟩
    rw [List.length_map, List.length_map, pu.length_eq]
    simpa using hz
theorem call_sortedPR (hu : X.A.units + 2 < cLine) : CallR X (.builtin "sorted") (fun xs H Q => ∃ (l : Addr) (ts : List (Addr × List Int)), xs = [.ref l] ∧ SqL X.K H l ((ts.map (·.1)).map V.ref) ∧ (∀ t ∈ ts, H t.1 = some (.tup (t.2.map V.int))) ∧
    ∀ (p : Addr) (us : List (Addr × List Int)), H p = none → us.Perm ts → us.Pairwise (fun a b => HT.lexLt b.2 a.2 = false) → Q (.ref p) (upd H p (.lst ((us.map (·.1)).map V.ref)))) := by
  intro pins s σ H xs us Q I r h
  obtain ⟨l, ts, rfl, hq, hts, q⟩ := h
  obtain ⟨u, rfl, ru⟩ := Vals.one r
  cases ru
  obtain ⟨its, rv, pl, hz⟩ := I.list hq
  have ei := refs_of rv
  subst ei
  have hL : ∀ t ∈ ts, TupN s.heap (.ref t.1) t.2 := fun t ht => by
    obtain ⟨its, r1, ⟨o, e, c, n, d⟩, _⟩ := I.tuple (SqT.of (hts t ht))
    exact ⟨_, o, n, its, rfl, e, c, d, r1⟩
  have hM : ∀ v ∈ (ts.map (·.1)).map Value.ref, ∃ t ∈ ts, v = .ref t.1 := fun v hv => by
    obtain ⟨a, ha, rfl⟩ := List.mem_map.mp hv
    obtain ⟨t, ht, rfl⟩ := List.mem_map.mp ha
    exact ⟨t, ht, rfl⟩
  have hT : ∀ v ∈ (ts.map (·.1)).map Value.ref, ∃ ns, TupN s.heap v ns := fun v hv => by
    obtain ⟨t, ht, rfl⟩ := hM v hv
    exact ⟨_, hL t ht⟩
  refine tsortedR (ρ := fun v => rankL (ts.map (·.2)) (rowOf H v)) pl.isList ?_ (fun _ s' kp E' Q' hq => kind_any (fun v hv => let ⟨ns, e⟩ := hT v hv; ⟨ns, e.keep kp⟩) hq) (fun _ s' kp κ => asksR_tups (ρ := fun v => rankL (ts.map (·.2)) (rowOf H v)) hu (fun v hv => let ⟨ns, e⟩ := hT v hv; ⟨ns, e.keep kp⟩) (fun u hu v hv ns ms l1 l2 => ?_) κ) fun out pm pw => ?_
  · rw [List.length_map]; rw [List.length_map] at hz; exact hz
  · obtain ⟨t, ht, rfl⟩ := hM u hu
    obtain ⟨t', ht', rfl⟩ := hM v hv
    rw [l1.inj ((hL t ht).keep kp), l2.inj ((hL t' ht').keep kp)]
    rw [rowOf_tup (hts t ht), rowOf_tup (hts t' ht')]
    exact rank_lt (List.mem_map_of_mem ht)
  · rw [List.map_map] at pm
    obtain ⟨us, pu, rfl⟩ := perm_map_inv pm rfl
    have e0 : us.map (Value.ref ∘ fun x : Addr × List Int => x.1) = (us.map (·.1)).map Value.ref := by rw [List.map_map]
    rw [e0]
    obtain ⟨e, at'⟩ := sortedAll_at s.heap ((ts.map (·.1)).map Value.ref) ((us.map (·.1)).map Value.ref).toArray
    have fr : H (s.heap.objs.size + 1) = none := I.hok.fresh (Nat.le_succ _)
    have pw2 : us.Pairwise (fun a b => HT.lexLt b.2 a.2 = false) := by
      rw [List.pairwise_map] at pw
      refine pw.imp_of_mem fun {a b} ha hb z => ?_
      have ha' := pu.mem_iff.mp ha
      have hb' := pu.mem_iff.mp hb
      have z : rankL (ts.map (·.2)) (rowOf H (.ref a.1)) ≤ rankL (ts.map (·.2)) (rowOf H (.ref b.1)) := z
      rw [rowOf_tup (hts a ha'), rowOf_tup (hts b hb')] at z
      exact rank_le (List.mem_map_of_mem hb') z
    refine ⟨.ref (s.heap.objs.size + 1), _, I.laid (t' := s.toks) (a := s.heap.objs.size + 1) (o := .lst ((us.map (·.1)).map V.ref)) (fun b ob q => sortedAll_old q) (Nat.le_succ _) ?_, rfl, q _ _ fr pu pw2⟩
    refine ⟨?_, _, e, vals_refs _, at'⟩
    rw [List.length_map, List.length_map, pu.length_eq]
    simpa using hz
end
end L2

-- LAW
namespace Sea
open PySem L2
structure Zs (mg : Str → Option Value) : Prop where
  abs : mg "abs" = none
  all : mg "all" = none
  bool : mg "bool" = none
  enumerate : mg "enumerate" = none
  int : mg "int" = none
  isinstance : mg "isinstance" = none
  len : mg "len" = none
  list : mg "list" = none
  min : mg "min" = none
  range : mg "range" = none
  sorted : mg "sorted" = none
  str : mg "str" = none
  tuple : mg "tuple" = none
  zip : mg "zip" = none
theorem sc_p_common_factor : FnScope ["numbers", "shared", "number", "rest", "smaller"] ["numbers"] (defScope s_p_common_factor) := ⟨rfl, rfl, rfl, by decide +kernel, rfl, by decide +kernel, by decide +kernel⟩
theorem sc_p_lowest : FnScope ["numbers", "shared"] ["numbers"] (defScope s_p_lowest) := ⟨rfl, rfl, rfl, by decide +kernel, rfl, by decide +kernel, by decide +kernel⟩
theorem sc_p_upright : FnScope ["numbers"] ["numbers"] (defScope s_p_upright) := ⟨rfl, rfl, rfl, by decide +kernel, rfl, by decide +kernel, by decide +kernel⟩
theorem sc_p_spot : FnScope ["x", "y", "w"] ["x", "y", "w"] (defScope s_p_spot) := ⟨rfl, rfl, rfl, by decide +kernel, rfl, by decide +kernel, by decide +kernel⟩
theorem sc_p_turn : FnScope ["one", "other"] ["one", "other"] (defScope s_p_turn) := ⟨rfl, rfl, rfl, by decide +kernel, rfl, by decide +kernel, by decide +kernel⟩
theorem sc_p_along : FnScope ["one", "other"] ["one", "other"] (defScope s_p_along) := ⟨rfl, rfl, rfl, by decide +kernel, rfl, by decide +kernel, by decide +kernel⟩
theorem sc_p_beyond : FnScope ["side", "spot"] ["side", "spot"] (defScope s_p_beyond) := ⟨rfl, rfl, rfl, by decide +kernel, rfl, by decide +kernel, by decide +kernel⟩
theorem sc_p_holds : FnScope ["side", "spot"] ["side", "spot"] (defScope s_p_holds) := ⟨rfl, rfl, rfl, by decide +kernel, rfl, by decide +kernel, by decide +kernel⟩
theorem sc_p_crossing : FnScope ["one", "other", "w", "x", "y"] ["one", "other"] (defScope s_p_crossing) := ⟨rfl, rfl, rfl, by decide +kernel, rfl, by decide +kernel, by decide +kernel⟩
theorem sc_p_in_water : FnScope ["sides", "place", "side"] ["sides", "place"] (defScope s_p_in_water) := ⟨rfl, rfl, rfl, by decide +kernel, rfl, by decide +kernel, by decide +kernel⟩
theorem sc_p_foot : FnScope ["side"] ["side"] (defScope s_p_foot) := ⟨rfl, rfl, rfl, by decide +kernel, rfl, by decide +kernel, by decide +kernel⟩
theorem sc_p_doubted : FnScope ["groups", "place"] ["groups", "place"] (defScope s_p_doubted) := ⟨rfl, rfl, rfl, by decide +kernel, rfl, by decide +kernel, by decide +kernel⟩
theorem sc_p_places_to_try : FnScope ["groups", "sides", "group", "places", "number", "other", "place"] ["groups"] (defScope s_p_places_to_try) := ⟨rfl, rfl, rfl, by decide +kernel, rfl, by decide +kernel, by decide +kernel⟩
theorem sc_p_least_doubts : FnScope ["groups", "shown", "place", "least", "told", "choice"] ["groups"] (defScope s_p_least_doubts) := ⟨rfl, rfl, rfl, by decide +kernel, rfl, by decide +kernel, by decide +kernel⟩
theorem sc_p_choices : FnScope ["groups"] ["groups"] (defScope s_p_choices) := ⟨rfl, rfl, rfl, by decide +kernel, rfl, by decide +kernel, by decide +kernel⟩
theorem sc_L_power : FnScope ["_law_number"] ["_law_number"] (defScope s_L_power) := ⟨rfl, rfl, rfl, by decide +kernel, rfl, by decide +kernel, by decide +kernel⟩
theorem sc_L_draws : FnScope ["_law_script", "_law_many", "_law_rows", "_law_mix", "_law_cell", "_law_rest"] ["_law_script", "_law_many"] (defScope s_L_draws) := ⟨rfl, rfl, rfl, by decide +kernel, rfl, by decide +kernel, by decide +kernel⟩
theorem sc_L_way : FnScope ["_law_one", "_law_two", "_law_wide", "_law_x", "_law_y"] ["_law_one", "_law_two", "_law_wide"] (defScope s_L_way) := ⟨rfl, rfl, rfl, by decide +kernel, rfl, by decide +kernel, by decide +kernel⟩
theorem sc_L_side : FnScope ["_law_d", "_law_a", "_law_b", "_law_c"] ["_law_d"] (defScope s_L_side) := ⟨rfl, rfl, rfl, by decide +kernel, rfl, by decide +kernel, by decide +kernel⟩
theorem sc_L_turned : FnScope ["_law_one", "_law_other"] ["_law_one", "_law_other"] (defScope s_L_turned) := ⟨rfl, rfl, rfl, by decide +kernel, rfl, by decide +kernel, by decide +kernel⟩
theorem sc_L_left_pair : FnScope ["_law_d", "_law_wide", "_law_one", "_law_other"] ["_law_d", "_law_wide"] (defScope s_L_left_pair) := ⟨rfl, rfl, rfl, by decide +kernel, rfl, by decide +kernel, by decide +kernel⟩
theorem sc_L_groups : FnScope ["_law_some", "_law_many", "_law_found", "_law_k", "_law_d", "_law_one", "_law_other", "_law_x", "_law_y"] ["_law_some", "_law_many"] (defScope s_L_groups) := ⟨rfl, rfl, rfl, by decide +kernel, rfl, by decide +kernel, by decide +kernel⟩
theorem sc_L_low : FnScope ["_law_one", "_law_other"] ["_law_one", "_law_other"] (defScope s_L_low) := ⟨rfl, rfl, rfl, by decide +kernel, rfl, by decide +kernel, by decide +kernel⟩
theorem sc_L_spot_of : FnScope ["_law_x", "_law_y", "_law_w", "_law_by"] ["_law_x", "_law_y", "_law_w"] (defScope s_L_spot_of) := ⟨rfl, rfl, rfl, by decide +kernel, rfl, by decide +kernel, by decide +kernel⟩
theorem sc_L_meet : FnScope ["_law_one", "_law_other", "_law_by"] ["_law_one", "_law_other"] (defScope s_L_meet) := ⟨rfl, rfl, rfl, by decide +kernel, rfl, by decide +kernel, by decide +kernel⟩
theorem sc_L_has : FnScope ["_law_sides", "_law_place", "_law_x", "_law_y", "_law_w"] ["_law_sides", "_law_place"] (defScope s_L_has) := ⟨rfl, rfl, rfl, by decide +kernel, rfl, by decide +kernel, by decide +kernel⟩
theorem sc_L_corners_of : FnScope ["_law_sides", "_law_found", "_law_at", "_law_one", "_law_other", "_law_place"] ["_law_sides"] (defScope s_L_corners_of) := ⟨rfl, rfl, rfl, by decide +kernel, rfl, by decide +kernel, by decide +kernel⟩
theorem sc_L_feet : FnScope ["_law_sides"] ["_law_sides"] (defScope s_L_feet) := ⟨rfl, rfl, rfl, by decide +kernel, rfl, by decide +kernel, by decide +kernel⟩
theorem sc_L_any_place : FnScope ["_law_sides", "_law_place"] ["_law_sides"] (defScope s_L_any_place) := ⟨rfl, rfl, rfl, by decide +kernel, rfl, by decide +kernel, by decide +kernel⟩
theorem sc_L_same : FnScope ["_law_told", "_law_due"] ["_law_told", "_law_due"] (defScope s_L_same) := ⟨rfl, rfl, rfl, by decide +kernel, rfl, by decide +kernel, by decide +kernel⟩
theorem sc_law : FnScope ["_law_script", "_law_some", "_law_groups_here", "_law_many", "_law_size", "_law_group", "_law_best", "_law_number", "_law_left", "_law_gone", "_law_sides", "_law_at"] ["_law_script"] (defScope s_law) := ⟨rfl, rfl, rfl, by decide +kernel, rfl, by decide +kernel, by decide +kernel⟩
section
variable {P : Program} {w : World} {K : PySem.W.Frag} {mg : Str → Option Value} {base : Heap} {f : Addr} {fd : FuncData}
def sp_p_common_factor (K : PySem.W.Frag) : Sp := fun vs H Q _ => ∃ (a : Addr) (ns : List Int), vs = [.ref a] ∧ Sq K H a (ns.map V.int) ∧ Q (.int (gcdL ns)) H
theorem ok_p_common_factor (F : Fun K "common_factor" "common_factor" s_p_common_factor f fd) (Z : Zs mg) : FnOk P w K mg base CX0 1 f fd ["numbers"] (sp_p_common_factor K) := by
  refine F.ok sc_p_common_factor (fun vs H Q E h => ?_) (fun cdv A outer s H vs Q E hr h => ?_)
  · obtain ⟨a, ns, rfl, _⟩ := h
    rfl
  obtain ⟨a, ns, rfl, hS, q⟩ := h
  refine ⟨_, (pss_cons (ps_set (i := 1) sc_p_common_factor.nd rfl (Or.inl rfl) pe_int)
      (pss_cons (ps_for PassesOwn.never rfl (pi_seq (pv 0)) (pg_name (i := 2) sc_p_common_factor.nd rfl (Or.inl rfl)) (pss_cons (ps_set (i := 3) sc_p_common_factor.nd rfl (Or.inl rfl) (pe_callB call_abs rfl Z.abs bt_abs (pa_cons (pv 2) pa_nil)))
      (pss_one (ps_while PassesOwn.never (pt_cmpR op_ne (pv 3) pe_int (nomark _)) (pss_cons (ps_set (i := 4) sc_p_common_factor.nd rfl (Or.inl rfl) (pe_op op_mod (pv 1) (pv 3)))
      (pss_cons (ps_set (i := 1) sc_p_common_factor.nd rfl (Or.inl rfl) (pv 3))
      (pss_one (ps_set (i := 3) sc_p_common_factor.nd rfl (Or.inl rfl) (pv 4)))))))))
      (pss_one (ps_ret (pv 1))))), ?_⟩
  have mono : ∀ (σ : St) (H : Hp) (Q Q' : Bool → Hp → Prop), (∀ b H1, Q b H1 → Q' b H1) → tTest (tOp rNe (tVar 3) (tC (.int 0))) σ H Q → tTest (tOp rNe (tVar 3) (tC (.int 0))) σ H Q' := fun σ H Q Q' hq z => by
    obtain ⟨v, hv, hs, k, hk, z⟩ := z
    exact ⟨v, hv, hs, k, hk, hq _ _ z⟩
  rcases hS with hS | hS
  · refine ⟨_, rfl, a, rfl, .inl ⟨⟨_, hS⟩, for_list (K := K) (a := a) (xs := ns.map V.int) (fun i σ H' => H' = H ∧ ∃ (u v z : Option V), σ = [some (.ref a), some (.int (gcdL (ns.take i))), u, v, z]) ⟨rfl, none, none, none, rfl⟩ (fun i σ H' _ ⟨e, _⟩ => by rw [e]; exact hS) ?_ ?_⟩⟩
    · rintro i x σ H' hi ⟨rfl, u, v, z, rfl⟩
      obtain ⟨n, hn, rfl⟩ := mapInt_get hi
      refine ⟨_, rfl, n, rfl, ?_⟩
      refine while_by (fun σ H1 => H1 = H' ∧ ∃ (g r : Int) (y : Option V), σ = [some (.ref a), some (.int g), some (.int n), some (.int r), y] ∧ 0 ≤ g ∧ 0 ≤ r ∧ Nat.gcd g.toNat r.toNat = gcdL (ns.take (i + 1)))
        (fun σ _ => match σ with | [_, _, _, some (.int r), _] => r.toNat | _ => 0) ⟨rfl, _, _, _, rfl, Int.natCast_nonneg _, by split <;> omega, ?_⟩ ?_ mono
      · rw [take_snoc hn, gcdL_snoc, abs_if]; rfl
      · rintro σ H1 ⟨rfl, g, r, y, rfl, h1, h2, h3⟩
        refine ⟨_, rfl, rfl, _, rfl, ?_⟩
        refine ifNe (fun hr0 => ?_) (fun hr0 => ?_)
        · refine ⟨_, rfl, _, rfl, _, _, rfl, rfl, (by show (0 : Int) < r; omega), _, rfl, _, rfl, ⟨rfl, _, _, _, rfl, h2, Int.emod_nonneg g hr0, ?_⟩, ?_⟩
          · rw [gcd_step h1 (by omega)]; exact h3
          · have h4 := Int.emod_lt_of_pos g (show 0 < r by omega)
            show (g % r).toNat < r.toNat
            omega
        · subst hr0
          have h5 : g = ((gcdL (ns.take (i + 1)) : Nat) : Int) := by
            rw [← h3]
            show g = ((Nat.gcd g.toNat 0 : Nat) : Int)
            rw [Nat.gcd_zero_right]
            omega
          exact ⟨rfl, some (.int n), some (.int 0), y, by rw [h5]⟩
    · rintro σ H' ⟨rfl, u, v, z, rfl⟩
      refine ⟨_, rfl, ?_⟩
      rw [List.length_map, List.take_length]
      exact q
  · refine ⟨_, rfl, a, rfl, .inr ⟨⟨_, hS⟩, for_tup (K := K) (a := a) (xs := ns.map V.int) (fun i σ H' => H' = H ∧ ∃ (u v z : Option V), σ = [some (.ref a), some (.int (gcdL (ns.take i))), u, v, z]) ⟨rfl, none, none, none, rfl⟩ (fun i σ H' _ ⟨e, _⟩ => by rw [e]; exact hS) ?_ ?_⟩⟩
    · rintro i x σ H' hi ⟨rfl, u, v, z, rfl⟩
      obtain ⟨n, hn, rfl⟩ := mapInt_get hi
      refine ⟨_, rfl, n, rfl, ?_⟩
      refine while_by (fun σ H1 => H1 = H' ∧ ∃ (g r : Int) (y : Option V), σ = [some (.ref a), some (.int g), some (.int n), some (.int r), y] ∧ 0 ≤ g ∧ 0 ≤ r ∧ Nat.gcd g.toNat r.toNat = gcdL (ns.take (i + 1)))
        (fun σ _ => match σ with | [_, _, _, some (.int r), _] => r.toNat | _ => 0) ⟨rfl, _, _, _, rfl, Int.natCast_nonneg _, by split <;> omega, ?_⟩ ?_ mono
      · rw [take_snoc hn, gcdL_snoc, abs_if]; rfl
      · rintro σ H1 ⟨rfl, g, r, y, rfl, h1, h2, h3⟩
        refine ⟨_, rfl, rfl, _, rfl, ?_⟩
        refine ifNe (fun hr0 => ?_) (fun hr0 => ?_)
        · refine ⟨_, rfl, _, rfl, _, _, rfl, rfl, (by show (0 : Int) < r; omega), _, rfl, _, rfl, ⟨rfl, _, _, _, rfl, h2, Int.emod_nonneg g hr0, ?_⟩, ?_⟩
          · rw [gcd_step h1 (by omega)]; exact h3
          · have h4 := Int.emod_lt_of_pos g (show 0 < r by omega)
            show (g % r).toNat < r.toNat
            omega
        · subst hr0
          have h5 : g = ((gcdL (ns.take (i + 1)) : Nat) : Int) := by
            rw [← h3]
            show g = ((Nat.gcd g.toNat 0 : Nat) : Int)
            rw [Nat.gcd_zero_right]
            omega
          exact ⟨rfl, some (.int n), some (.int 0), y, by rw [h5]⟩
    · rintro σ H' ⟨rfl, u, v, z, rfl⟩
      refine ⟨_, rfl, ?_⟩
      rw [List.length_map, List.take_length]
      exact q
def sp_p_lowest (K : PySem.W.Frag) : Sp := fun vs H Q _ => ∃ (a : Addr) (ns : List Int), vs = [.ref a] ∧ Sq K H a (ns.map V.int) ∧ ns.length ≤ 1000 ∧ 0 < gcdL ns ∧ (gcdL ns : Int) < 10 ^ 600 ∧
  ∀ (p : Addr) (H' : Hp), Same H H' → H p = none → H' p = some (.tup ((lowL ns).map V.int)) → Q (.ref p) H'
theorem ok_p_lowest (F : Fun K "lowest" "lowest" s_p_lowest f fd) (Z : Zs mg) (h_p_common_factor : Has P w K mg base "common_factor" 1 ["numbers"] (sp_p_common_factor K)) : FnOk P w K mg base CX0 2 f fd ["numbers"] (sp_p_lowest K) := by
  refine F.ok sc_p_lowest (fun vs H Q E h => ?_) (fun cdv A outer s H vs Q E hr h => ?_)
  · obtain ⟨a, ns, rfl, _⟩ := h
    rfl
  obtain ⟨a, ns, rfl, hS, hl, hg, hg2, q⟩ := h
  refine ⟨_, (pss_cons (ps_set (i := 1) sc_p_lowest.nd rfl (Or.inr rfl) (pe_callH h_p_common_factor (hr.mono (by decide)) rfl (pa_cons (pv 0) pa_nil)))
      (pss_one (ps_ret (pe_callTy call_tuple_of rfl Z.tuple bt_tuple (pa_cons (pe_comp (T := ["number"]) (caps := [("shared", 1)]) ⟨rfl, by decide +kernel, by decide +kernel, rfl, ⟨⟨rfl, rfl, Or.inl rfl⟩, True.intro⟩⟩ rfl (pi_seq (pv 0)) (fun _ => (pg_name (i := 0) (show (["number", "shared"] : List Str).Nodup by decide +kernel) rfl (Or.inl rfl))) (fun _ => pifs_nil) (fun _ => (pe_op op_fdivP (pv 0) (pv 1)))) pa_nil))))), ?_⟩
  refine ⟨_, rfl, a, ns, rfl, hS, ?_⟩
  have fin : ∀ (D : Addr) (H' : Hp), H D = none → Same H H' → H' D = some (.lst ((lowL ns).map V.int)) → ∀ l, H' l = none → Q (.ref l) (upd H' l (.tup ((lowL ns).map V.int))) := fun D H' hD hs e l hl =>
    q l _ (hs.trans (same_new hl _)) (hs.free hl) upd_same
  have len : ∀ i, ((ns.take i).map fun n => V.int (n / (gcdL ns : Int))).length < sizeLine := fun i => small1000 (by rw [List.length_map, List.length_take]; omega)
  rcases hS with hS | hS
  · refine ⟨_, rfl, a, rfl, .inl ⟨⟨_, hS⟩, fun c D hD => comp_list0 (K := K) (a := a) (xs := ns.map V.int) (fun i σ ys H' => H' = upd H D (.lst ys) ∧ ys = (ns.take i).map (fun n => V.int (n / (gcdL ns : Int))) ∧ ∃ u, σ = [u, some (.int (gcdL ns))])
      ⟨rfl, rfl, none, rfl⟩ (fun i σ ys H' _ ⟨e, _⟩ => by rw [e]; exact ⟨(same_new hD _).seq hS, upd_same⟩) ?_ ?_⟩⟩
    · rintro i x σ ys H' hi ⟨rfl, rfl, u, rfl⟩
      obtain ⟨n, hn, rfl⟩ := mapInt_get hi
      refine ⟨_, rfl, _, rfl, _, _, rfl, rfl, CDivP.of (by omega) hg2, upd_same, len i, ?_⟩
      refine ⟨upd_upd, ?_, _, rfl⟩
      rw [take_snoc hn, List.map_append]
      rfl
    · rintro σ ys H' ⟨rfl, rfl, u, rfl⟩
      rw [List.length_map, List.take_length]
      have e : (ns.map fun n => V.int (n / (gcdL ns : Int))) = (lowL ns).map V.int := by unfold lowL; rw [List.map_map]; rfl
      rw [e]
      exact ⟨D, _, rfl, .inl ⟨SqL.of upd_same, fin D _ hD (same_new hD _) upd_same⟩⟩
  · refine ⟨_, rfl, a, rfl, .inr ⟨⟨_, hS⟩, fun c D hD => comp_tup0 (K := K) (a := a) (xs := ns.map V.int) (fun i σ ys H' => H' = upd H D (.lst ys) ∧ ys = (ns.take i).map (fun n => V.int (n / (gcdL ns : Int))) ∧ ∃ u, σ = [u, some (.int (gcdL ns))])
      ⟨rfl, rfl, none, rfl⟩ (fun i σ ys H' _ ⟨e, _⟩ => by rw [e]; exact ⟨SqT.same hS (same_new hD _), upd_same⟩) ?_ ?_⟩⟩
    · rintro i x σ ys H' hi ⟨rfl, rfl, u, rfl⟩
      obtain ⟨n, hn, rfl⟩ := mapInt_get hi
      refine ⟨_, rfl, _, rfl, _, _, rfl, rfl, CDivP.of (by omega) hg2, upd_same, len i, ?_⟩
      refine ⟨upd_upd, ?_, _, rfl⟩
      rw [take_snoc hn, List.map_append]
      rfl
    · rintro σ ys H' ⟨rfl, rfl, u, rfl⟩
      rw [List.length_map, List.take_length]
      have e : (ns.map fun n => V.int (n / (gcdL ns : Int))) = (lowL ns).map V.int := by unfold lowL; rw [List.map_map]; rfl
      rw [e]
      exact ⟨D, _, rfl, .inl ⟨SqL.of upd_same, fin D _ hD (same_new hD _) upd_same⟩⟩
def sp_p_upright (K : PySem.W.Frag) : Sp := fun vs H Q _ => ∃ (a : Addr) (ns : List Int) (l : Int), vs = [.ref a] ∧ Sq K H a (ns.map V.int) ∧ ns.length ≤ 1000 ∧ atI (ns.map V.int) (-1) = some (.int l) ∧ l ∈ ns ∧ l ≠ 0 ∧ l.natAbs < 10 ^ 500 ∧
  ∀ (p : Addr) (H' : Hp), Same H H' → H p = none → H' p = some (.tup ((lowL (if l < 0 then ns.map (fun n => -n) else ns)).map V.int)) → Q (.ref p) H'
theorem ok_p_upright (F : Fun K "upright" "upright" s_p_upright f fd) (Z : Zs mg) (h_p_lowest : Has P w K mg base "lowest" 2 ["numbers"] (sp_p_lowest K)) : FnOk P w K mg base CX0 3 f fd ["numbers"] (sp_p_upright K) := by
  refine F.ok sc_p_upright (fun vs H Q E h => ?_) (fun cdv A outer s H vs Q E hr h => ?_)
  · obtain ⟨a, ns, l, rfl, _⟩ := h
    rfl
  obtain ⟨a, ns, l, rfl, hS, hl, hat, hm, h0, hb, q⟩ := h
  refine ⟨_, (pss_cons (ps_if (pt_cmpR op_lt (pe_ix ix_any (pv 0) (pe_un un_neg pe_int) (fun _ _ => rfl)) pe_int (nomark _)) (pss_one (ps_ret (pe_callH h_p_lowest (hr.mono (by decide)) rfl (pa_cons (pe_comp (T := ["number"]) (caps := []) ⟨rfl, by decide +kernel, by decide +kernel, rfl, True.intro⟩ rfl (pi_seq (pv 0)) (fun _ => (pg_name (i := 0) (show (["number"] : List Str).Nodup by decide +kernel) rfl (Or.inl rfl))) (fun _ => pifs_nil) (fun _ => (pe_un un_neg (pv 0)))) pa_nil)))) pss_nil)
      (pss_one (ps_ret (pe_callH h_p_lowest (hr.mono (by decide)) rfl (pa_cons (pv 0) pa_nil))))), ?_⟩
  refine ⟨_, rfl, _, rfl, a, _, _, _, rfl, rfl, hS, hat, _, _, rfl, rfl, _, rfl, ?_⟩
  have gp : 0 < gcdL ns := gcdL_pos hm h0
  have gb : (gcdL ns : Int) < 10 ^ 600 := by
    have h1 := gcdL_le hm h0
    have h2 : (10 : Nat) ^ 500 < 10 ^ 600 := by decide +kernel
    have h3 : ((10 : Int) ^ 600) = ((10 ^ 600 : Nat) : Int) := by rw [Int.natCast_pow]; rfl
    rw [h3]
    omega
  refine ifD (fun hneg => ?_) (fun hneg => ?_)
  · have len : ∀ i, ((ns.take i).map fun n => V.int (-n)).length < sizeLine := fun i => small1000 (by rw [List.length_map, List.length_take]; omega)
    have fin : ∀ (D : Addr) (H' : Hp), H D = none → Same H H' → H' D = some (.lst ((ns.map fun n => -n).map V.int)) → sp_p_lowest K [.ref D] H' Q E0 := fun D H' hD hs e => by
      refine ⟨D, ns.map fun n => -n, rfl, .inl (SqL.of e), by rw [List.length_map]; exact hl, by rw [gcdL_neg]; exact gp, by rw [gcdL_neg]; exact gb, fun p H2 s2 hp e2 => ?_⟩
      exact q p H2 (hs.trans s2) (hs.free hp) (by rw [if_pos hneg]; exact e2)
    rcases hS with hS | hS
    · refine ⟨_, rfl, a, rfl, .inl ⟨⟨_, hS⟩, fun c D hD => comp_list0 (K := K) (a := a) (xs := ns.map V.int) (fun i σ ys H' => H' = upd H D (.lst ys) ∧ ys = (ns.take i).map (fun n => V.int (-n)) ∧ ∃ u, σ = [u])
        ⟨rfl, rfl, none, rfl⟩ (fun i σ ys H' _ ⟨e, _⟩ => by rw [e]; exact ⟨(same_new hD _).seq hS, upd_same⟩) ?_ ?_⟩⟩
      · rintro i x σ ys H' hi ⟨rfl, rfl, u, rfl⟩
        obtain ⟨n, hn, rfl⟩ := mapInt_get hi
        refine ⟨_, rfl, _, rfl, upd_same, len i, ?_⟩
        refine ⟨upd_upd, ?_, _, rfl⟩
        rw [take_snoc hn, List.map_append]
        rfl
      · rintro σ ys H' ⟨rfl, rfl, u, rfl⟩
        rw [List.length_map, List.take_length]
        have e : (ns.map fun n => V.int (-n)) = (ns.map fun n => -n).map V.int := by rw [List.map_map]; rfl
        rw [e]
        exact fin D _ hD (same_new hD _) upd_same
    · refine ⟨_, rfl, a, rfl, .inr ⟨⟨_, hS⟩, fun c D hD => comp_tup0 (K := K) (a := a) (xs := ns.map V.int) (fun i σ ys H' => H' = upd H D (.lst ys) ∧ ys = (ns.take i).map (fun n => V.int (-n)) ∧ ∃ u, σ = [u])
        ⟨rfl, rfl, none, rfl⟩ (fun i σ ys H' _ ⟨e, _⟩ => by rw [e]; exact ⟨SqT.same hS (same_new hD _), upd_same⟩) ?_ ?_⟩⟩
      · rintro i x σ ys H' hi ⟨rfl, rfl, u, rfl⟩
        obtain ⟨n, hn, rfl⟩ := mapInt_get hi
        refine ⟨_, rfl, _, rfl, upd_same, len i, ?_⟩
        refine ⟨upd_upd, ?_, _, rfl⟩
        rw [take_snoc hn, List.map_append]
        rfl
      · rintro σ ys H' ⟨rfl, rfl, u, rfl⟩
        rw [List.length_map, List.take_length]
        have e : (ns.map fun n => V.int (-n)) = (ns.map fun n => -n).map V.int := by rw [List.map_map]; rfl
        rw [e]
        exact fin D _ hD (same_new hD _) upd_same
  · refine ⟨_, rfl, a, ns, rfl, hS, hl, gp, gb, fun p H2 s2 hp e2 => ?_⟩
    exact q p H2 s2 hp (by rw [if_neg hneg]; exact e2)
def sp_p_spot (K : PySem.W.Frag) : Sp := fun vs H Q _ => ∃ (X Y W : Int), vs = [.int X, .int Y, .int W] ∧ W ≠ 0 ∧ W.natAbs < 10 ^ 500 ∧ ∀ (p : Addr) (H' : Hp), Same H H' → H p = none → H' p = some (.tup ((lowL (upL X Y W)).map V.int)) → Q (.ref p) H'
theorem ok_p_spot (F : Fun K "spot" "spot" s_p_spot f fd) (Z : Zs mg) (h_p_upright : Has P w K mg base "upright" 3 ["numbers"] (sp_p_upright K)) : FnOk P w K mg base CX0 4 f fd ["x", "y", "w"] (sp_p_spot K) := by
  refine F.ok sc_p_spot (fun vs H Q E h => ?_) (fun cdv A outer s H vs Q E hr h => ?_)
  · obtain ⟨X, Y, W, rfl, _⟩ := h
    rfl
  obtain ⟨X, Y, W, rfl, hw, hw2, q⟩ := h
  refine ⟨_, (pss_one (ps_ret (pe_callH h_p_upright (hr.mono (by decide)) rfl (pa_cons (pe_tup (pa_cons (pv 0) (pa_cons (pv 1) (pa_cons (pv 2) pa_nil)))) pa_nil)))), ?_⟩
  refine ⟨_, rfl, _, rfl, _, rfl, (by show 3 ≤ sizeLine; decide), fun p hp => ⟨p, [X, Y, W], W, rfl, .inr (SqT.of upd_same), by show 3 ≤ 1000; decide, rfl, by simp, hw, hw2, fun r H2 s2 hr2 e2 => ?_⟩⟩
  exact q r H2 ((same_new hp _).trans s2) ((same_new hp _).free hr2) e2
def spTurn (K : PySem.W.Frag) : Sp := fun vs H Q _ => ∃ (a b : Addr) (us ws : List V) (x1 y1 x2 y2 : Int), vs = [.ref a, .ref b] ∧ Sq K H a us ∧ Sq K H b ws ∧ atI us 0 = some (.int x1) ∧ atI us 1 = some (.int y1) ∧ atI ws 0 = some (.int x2) ∧ atI ws 1 = some (.int y2) ∧
  x1.natAbs ≤ 10 ^ 18 ∧ y1.natAbs ≤ 10 ^ 18 ∧ Q (.int (x1 * y2 - y1 * x2)) H
def sp_p_turn (K : PySem.W.Frag) : Sp := spTurn K
theorem ok_p_turn (F : Fun K "turn" "turn" s_p_turn f fd) (Z : Zs mg)  : FnOk P w K mg base CX0 1 f fd ["one", "other"] (sp_p_turn K) := by
  refine F.ok sc_p_turn (fun vs H Q E h => ?_) (fun cdv A outer s H vs Q E hr h => ?_)
  · obtain ⟨a, b, us, ws, x1, y1, x2, y2, rfl, _⟩ := h
    rfl
  obtain ⟨a, b, us, ws, x1, y1, x2, y2, rfl, ha, hb, u0, u1, w0, w1, m1, m2, q⟩ := h
  refine ⟨_, (pss_one (ps_ret (pe_op op_sub (pe_op op_mul (pe_ix ix_any (pv 0) pe_int (fun _ _ => rfl)) (pe_ix ix_any (pv 1) pe_int (fun _ _ => rfl))) (pe_op op_mul (pe_ix ix_any (pv 0) pe_int (fun _ _ => rfl)) (pe_ix ix_any (pv 1) pe_int (fun _ _ => rfl)))))), ?_⟩
  exact ⟨_, rfl, a, _, _, .int x1, rfl, rfl, ha, u0, _, rfl, b, _, _, .int y2, rfl, rfl, hb, w1, _, _, rfl, rfl, cm_l (by omega),
    _, rfl, a, _, _, .int y1, rfl, rfl, ha, u1, _, rfl, b, _, _, .int x2, rfl, rfl, hb, w0, _, _, rfl, rfl, cm_l (by omega), _, _, rfl, rfl, q⟩
def sp_p_along (K : PySem.W.Frag) : Sp := fun vs H Q _ => ∃ (a b : Addr) (us ws : List V) (x1 y1 x2 y2 : Int), vs = [.ref a, .ref b] ∧ Sq K H a us ∧ Sq K H b ws ∧ atI us 0 = some (.int x1) ∧ atI us 1 = some (.int y1) ∧ atI ws 0 = some (.int x2) ∧ atI ws 1 = some (.int y2) ∧
  x1.natAbs ≤ 10 ^ 18 ∧ y1.natAbs ≤ 10 ^ 18 ∧ Q (.int (x1 * x2 + y1 * y2)) H
theorem ok_p_along (F : Fun K "along" "along" s_p_along f fd) (Z : Zs mg)  : FnOk P w K mg base CX0 1 f fd ["one", "other"] (sp_p_along K) := by
  refine F.ok sc_p_along (fun vs H Q E h => ?_) (fun cdv A outer s H vs Q E hr h => ?_)
  · obtain ⟨a, b, us, ws, x1, y1, x2, y2, rfl, _⟩ := h
    rfl
  obtain ⟨a, b, us, ws, x1, y1, x2, y2, rfl, ha, hb, u0, u1, w0, w1, m1, m2, q⟩ := h
  refine ⟨_, (pss_one (ps_ret (pe_op op_add (pe_op op_mul (pe_ix ix_any (pv 0) pe_int (fun _ _ => rfl)) (pe_ix ix_any (pv 1) pe_int (fun _ _ => rfl))) (pe_op op_mul (pe_ix ix_any (pv 0) pe_int (fun _ _ => rfl)) (pe_ix ix_any (pv 1) pe_int (fun _ _ => rfl)))))), ?_⟩
  exact ⟨_, rfl, a, _, _, .int x1, rfl, rfl, ha, u0, _, rfl, b, _, _, .int x2, rfl, rfl, hb, w0, _, _, rfl, rfl, cm_l (by omega),
    _, rfl, a, _, _, .int y1, rfl, rfl, ha, u1, _, rfl, b, _, _, .int y2, rfl, rfl, hb, w1, _, _, rfl, rfl, cm_l (by omega), _, _, rfl, rfl, q⟩
def spSide (K : PySem.W.Frag) (R : Int → Int → Int → Int → Int → Int → Hp → VK → Prop) : Sp := fun vs H Q _ => ∃ (a b : Addr) (A B C x y z : Int), vs = [.ref a, .ref b] ∧ Sq K H a [.int A, .int B, .int C] ∧ Sq K H b [.int x, .int y, .int z] ∧ A.natAbs ≤ 10 ^ 18 ∧ B.natAbs ≤ 10 ^ 18 ∧ C.natAbs ≤ 10 ^ 18 ∧ R A B C x y z H Q
def sp_p_beyond (K : PySem.W.Frag) : Sp := spSide K fun A B C x y z H Q => Q (.int (A * x + B * y - C * z)) H
theorem ok_p_beyond (F : Fun K "beyond" "beyond" s_p_beyond f fd) (Z : Zs mg)  : FnOk P w K mg base CX0 1 f fd ["side", "spot"] (sp_p_beyond K) := by
  refine F.ok sc_p_beyond (fun vs H Q E h => ?_) (fun cdv A outer s H vs Q E hr h => ?_)
  · obtain ⟨a, b, A, B, C, x, y, z, rfl, _⟩ := h
    rfl
  obtain ⟨a, b, A', B, C, x, y, z, rfl, ha, hb, m1, m2, m3, q⟩ := h
  refine ⟨_, (pss_one (ps_ret (pe_op op_sub (pe_op op_add (pe_op op_mul (pe_ix ix_any (pv 0) pe_int (fun _ _ => rfl)) (pe_ix ix_any (pv 1) pe_int (fun _ _ => rfl))) (pe_op op_mul (pe_ix ix_any (pv 0) pe_int (fun _ _ => rfl)) (pe_ix ix_any (pv 1) pe_int (fun _ _ => rfl)))) (pe_op op_mul (pe_ix ix_any (pv 0) pe_int (fun _ _ => rfl)) (pe_ix ix_any (pv 1) pe_int (fun _ _ => rfl)))))), ?_⟩
  exact ⟨_, rfl, a, _, _, .int A', rfl, rfl, ha, rfl, _, rfl, b, _, _, .int x, rfl, rfl, hb, rfl, _, _, rfl, rfl, cm_l (by omega), _, rfl, a, _, _, .int B, rfl, rfl, ha, rfl, _, rfl, b, _, _, .int y, rfl, rfl, hb, rfl, _, _, rfl, rfl, cm_l (by omega), _, _, rfl, rfl, _, rfl, a, _, _, .int C, rfl, rfl, ha, rfl, _, rfl, b, _, _, .int z, rfl, rfl, hb, rfl, _, _, rfl, rfl, cm_l (by omega), _, _, rfl, rfl, q⟩
def sp_p_holds (K : PySem.W.Frag) : Sp := spSide K fun A B C x y z H Q => Q (.bl (decide (A * x + B * y - C * z ≤ 0))) H
theorem ok_p_holds (F : Fun K "holds" "holds" s_p_holds f fd) (Z : Zs mg) (h_p_beyond : Has P w K mg base "beyond" 1 ["side", "spot"] (sp_p_beyond K)) : FnOk P w K mg base CX0 2 f fd ["side", "spot"] (sp_p_holds K) := by
  refine F.ok sc_p_holds (fun vs H Q E h => ?_) (fun cdv A outer s H vs Q E hr h => ?_)
  · obtain ⟨a, b, A, B, C, x, y, z, rfl, _⟩ := h
    rfl
  obtain ⟨a, b, A', B, C, x, y, z, rfl, ha, hb, m1, m2, m3, q⟩ := h
  refine ⟨_, (pss_one (ps_ret (pe_cmpR op_le (pe_callH h_p_beyond (hr.mono (by decide)) rfl (pa_cons (pv 0) (pa_cons (pv 1) pa_nil))) pe_int (nomark _)))), ?_⟩
  exact ⟨_, rfl, _, rfl, a, b, A', B, C, x, y, z, rfl, ha, hb, m1, m2, m3, _, _, rfl, rfl, q⟩
def sp_p_crossing (K : PySem.W.Frag) : Sp := fun vs H Q _ => ∃ (a b : Addr) (A1 B1 C1 A2 B2 C2 : Int), vs = [.ref a, .ref b] ∧ Sq K H a [.int A1, .int B1, .int C1] ∧ Sq K H b [.int A2, .int B2, .int C2] ∧
  A1.natAbs ≤ 10 ^ 18 ∧ B1.natAbs ≤ 10 ^ 18 ∧ C1.natAbs ≤ 10 ^ 18 ∧ A2.natAbs ≤ 10 ^ 18 ∧ B2.natAbs ≤ 10 ^ 18 ∧
  (A1 * B2 - B1 * A2 = 0 → Q .non H) ∧ (A1 * B2 - B1 * A2 ≠ 0 → ∀ (p : Addr) (H' : Hp), Same H H' → H p = none → H' p = some (.tup ((lowL (upL (C1 * B2 - B1 * C2) (A1 * C2 - C1 * A2) (A1 * B2 - B1 * A2))).map V.int)) → Q (.ref p) H')
theorem ok_p_crossing (F : Fun K "crossing" "crossing" s_p_crossing f fd) (Z : Zs mg) (h_p_upright : Has P w K mg base "upright" 3 ["numbers"] (sp_p_upright K)) (h_p_turn : Has P w K mg base "turn" 1 ["one", "other"] (sp_p_turn K)) : FnOk P w K mg base CX0 4 f fd ["one", "other"] (sp_p_crossing K) := by
  refine F.ok sc_p_crossing (fun vs H Q E h => ?_) (fun cdv A outer s H vs Q E hr h => ?_)
  · obtain ⟨a, b, A1, B1, C1, A2, B2, C2, rfl, _⟩ := h
    rfl
  obtain ⟨a, b, A1, B1, C1, A2, B2, C2, rfl, ha, hb, m1, m2, m3, m4, m5, q0, q⟩ := h
  refine ⟨_, (pss_cons (ps_set (i := 2) sc_p_crossing.nd rfl (Or.inl rfl) (pe_callH h_p_turn (hr.mono (by decide)) rfl (pa_cons (pv 0) (pa_cons (pv 1) pa_nil))))
      (pss_cons (ps_if (pt_cmpR op_eq (pv 2) pe_int (nomark _)) (pss_one (ps_ret pe_non)) pss_nil)
      (pss_cons (ps_set (i := 3) sc_p_crossing.nd rfl (Or.inl rfl) (pe_op op_sub (pe_op op_mul (pe_ix ix_any (pv 0) pe_int (fun _ _ => rfl)) (pe_ix ix_any (pv 1) pe_int (fun _ _ => rfl))) (pe_op op_mul (pe_ix ix_any (pv 0) pe_int (fun _ _ => rfl)) (pe_ix ix_any (pv 1) pe_int (fun _ _ => rfl)))))
      (pss_cons (ps_set (i := 4) sc_p_crossing.nd rfl (Or.inl rfl) (pe_op op_sub (pe_op op_mul (pe_ix ix_any (pv 0) pe_int (fun _ _ => rfl)) (pe_ix ix_any (pv 1) pe_int (fun _ _ => rfl))) (pe_op op_mul (pe_ix ix_any (pv 0) pe_int (fun _ _ => rfl)) (pe_ix ix_any (pv 1) pe_int (fun _ _ => rfl)))))
      (pss_one (ps_ret (pe_callH h_p_upright (hr.mono (by decide)) rfl (pa_cons (pe_tup (pa_cons (pv 3) (pa_cons (pv 4) (pa_cons (pv 2) pa_nil)))) pa_nil)))))))), ?_⟩
  refine ⟨_, rfl, _, rfl, a, b, _, _, A1, B1, A2, B2, rfl, ha, hb, rfl, rfl, rfl, rfl, m1, m2, ?_⟩
  refine ⟨_, rfl, rfl, _, rfl, ?_⟩
  refine ifE (fun hw => q0 hw) (fun hw => ?_)
  have z1 := natAbs_mul_le A1 B2 m1 m5
  have z2 := natAbs_mul_le B1 A2 m2 m4
  have z0 : (10 : Nat) ^ 18 * 10 ^ 18 = 10 ^ 36 := by decide
  have z3 : (10 : Nat) ^ 36 + 10 ^ 36 ≤ 10 ^ 40 := by decide
  refine ⟨_, rfl, a, _, _, .int C1, rfl, rfl, ha, rfl, _, rfl, b, _, _, .int B2, rfl, rfl, hb, rfl, _, _, rfl, rfl, cm_l (by omega), _, rfl, a, _, _, .int B1, rfl, rfl, ha, rfl, _, rfl, b, _, _, .int C2, rfl, rfl, hb, rfl, _, _, rfl, rfl, cm_l (by omega), _, _, rfl, rfl, ?_⟩
  refine ⟨_, rfl, a, _, _, .int A1, rfl, rfl, ha, rfl, _, rfl, b, _, _, .int C2, rfl, rfl, hb, rfl, _, _, rfl, rfl, cm_l (by omega), _, rfl, a, _, _, .int C1, rfl, rfl, ha, rfl, _, rfl, b, _, _, .int A2, rfl, rfl, hb, rfl, _, _, rfl, rfl, cm_l (by omega), _, _, rfl, rfl, ?_⟩
  refine ⟨_, rfl, _, rfl, _, rfl, (by show 3 ≤ sizeLine; decide), fun p hp => ⟨p, [C1 * B2 - B1 * C2, A1 * C2 - C1 * A2, A1 * B2 - B1 * A2], A1 * B2 - B1 * A2, rfl, .inr (SqT.of upd_same), by show 3 ≤ 1000; decide, rfl, by simp, hw, big_ok (by omega), fun r H2 s2 hr2 e2 => ?_⟩⟩
  exact q hw r H2 ((same_new hp _).trans s2) ((same_new hp _).free hr2) e2
def inWB (ss : List Sd) (p : P3) : Bool := ss.all fun t => decide (sv t.2 p ≤ 0)
theorem inWB_iff {ss : List Sd} {p : P3} : inWB ss p = true ↔ inW ss p := by
  unfold inWB inW
  rw [List.all_eq_true]
  exact ⟨fun h t ht => of_decide_eq_true (h t ht), fun h t ht => decide_eq_true (h t ht)⟩
def sp_p_in_water (K : PySem.W.Frag) : Sp := fun vs H Q _ => ∃ (l p : Addr) (ss : List Sd) (P : P3), vs = [.ref l, .ref p] ∧ SqL K H l (sdRefs ss) ∧ SdOk H ss ∧ Sq K H p [.int P.1, .int P.2.1, .int P.2.2] ∧ Q (.bl (inWB ss P)) H
theorem ok_p_in_water (F : Fun K "in_water" "in_water" s_p_in_water f fd) (Z : Zs mg) (h_p_holds : Has P w K mg base "holds" 2 ["side", "spot"] (sp_p_holds K)) : FnOk P w K mg base CX0 3 f fd ["sides", "place"] (sp_p_in_water K) := by
  refine F.ok sc_p_in_water (fun vs H Q E h => ?_) (fun cdv A outer s H vs Q E hr h => ?_)
  · obtain ⟨l, p, ss, P, rfl, _⟩ := h
    rfl
  obtain ⟨l, p, ss, P, rfl, hl, ok, hp, q⟩ := h
  refine ⟨_, (pss_cons (ps_for PassesOwn.never rfl (pi_seq (pv 0)) (pg_name (i := 2) sc_p_in_water.nd rfl (Or.inl rfl)) (pss_one (ps_if (pt_not (pt_val (pe_callH h_p_holds (hr.mono (by decide)) rfl (pa_cons (pv 2) (pa_cons (pv 1) pa_nil))))) (pss_one (ps_ret pe_bl)) pss_nil)))
      (pss_one (ps_ret pe_bl))), ?_⟩
  refine ⟨_, rfl, l, rfl, .inl ⟨⟨_, hl⟩, for_list (K := K) (a := l) (xs := sdRefs ss) (fun i σ H' => H = H' ∧ (∀ j t, j < i → ss[j]? = some t → sv t.2 P ≤ 0) ∧ ∃ u2 : Option V, σ = [some (.ref l), some (.ref p), u2])
    ⟨rfl, fun j t hj => absurd hj (Nat.not_lt_zero _), none, rfl⟩ (fun i σ H' _ ⟨e, _⟩ => by rw [← e]; exact hl) ?_ ?_⟩⟩
  · rintro i v σ H' hi ⟨rfl, hall, u2, rfl⟩
    obtain ⟨t, gt, rfl, hil⟩ := sdRefs_get hi
    obtain ⟨et, _, b1, b2, b3⟩ := ok t (List.mem_of_getElem? gt)
    refine ⟨_, rfl, _, rfl, t.1, p, t.2.1, t.2.2.1, t.2.2.2, P.1, P.2.1, P.2.2, rfl, .inr (SqT.of et), hp, by omega, by omega, by omega, _, rfl, ?_⟩
    refine ifN (fun hpos => ?_) (fun hneg => ?_)
    · have e : inWB ss P = false := by
        unfold inWB
        rw [Bool.eq_false_iff]
        intro z
        exact hpos (of_decide_eq_true (List.all_eq_true.mp z t (List.mem_of_getElem? gt)))
      rw [e] at q
      exact q
    · refine ⟨rfl, fun j t' hj ht' => ?_, _, rfl⟩
      by_cases e : j = i
      · rw [e, gt] at ht'
        cases ht'
        exact hneg
      · exact hall j t' (by omega) ht'
  · rintro σ H' ⟨rfl, hall, u2, rfl⟩
    have e : inWB ss P = true := inWB_iff.mpr fun t ht => by
      obtain ⟨j, hj, ej⟩ := List.getElem_of_mem ht
      exact hall j t (by rw [sdRefs_length]; exact hj) (by rw [List.getElem?_eq_getElem hj, ej])
    rw [e] at q
    exact q
def sp_p_foot (K : PySem.W.Frag) : Sp := fun vs H Q _ => ∃ (a : Addr) (t : P3), vs = [.ref a] ∧ Sq K H a [.int t.1, .int t.2.1, .int t.2.2] ∧ (t.1 ≠ 0 ∨ t.2.1 ≠ 0) ∧ t.1.natAbs ≤ 10 ^ 9 ∧ t.2.1.natAbs ≤ 10 ^ 9 ∧
  ∀ (p : Addr) (H' : Hp), Same H H' → H p = none → H' p = some (.tup ((ftL t).map V.int)) → Q (.ref p) H'
theorem ok_p_foot (F : Fun K "foot" "foot" s_p_foot f fd) (Z : Zs mg) (h_p_spot : Has P w K mg base "spot" 4 ["x", "y", "w"] (sp_p_spot K)) (h_p_along : Has P w K mg base "along" 1 ["one", "other"] (sp_p_along K)) : FnOk P w K mg base CX0 5 f fd ["side"] (sp_p_foot K) := by
  refine F.ok sc_p_foot (fun vs H Q E h => ?_) (fun cdv A outer s H vs Q E hr h => ?_)
  · obtain ⟨a, t, rfl, _⟩ := h
    rfl
  obtain ⟨a, t, rfl, ha, hn, b1, b2, q⟩ := h
  refine ⟨_, (pss_one (ps_ret (pe_callH h_p_spot (hr.mono (by decide)) rfl (pa_cons (pe_op op_mul (pe_ix ix_any (pv 0) pe_int (fun _ _ => rfl)) (pe_ix ix_any (pv 0) pe_int (fun _ _ => rfl))) (pa_cons (pe_op op_mul (pe_ix ix_any (pv 0) pe_int (fun _ _ => rfl)) (pe_ix ix_any (pv 0) pe_int (fun _ _ => rfl))) (pa_cons (pe_callH h_p_along (hr.mono (by decide)) rfl (pa_cons (pv 0) (pa_cons (pv 0) pa_nil))) pa_nil)))))), ?_⟩
  have pos := nn_pos hn
  have z1 := natAbs_mul_le t.1 t.1 b1 b1
  have z2 := natAbs_mul_le t.2.1 t.2.1 b2 b2
  refine ⟨_, rfl, a, _, _, .int t.1, rfl, rfl, ha, rfl, _, rfl, a, _, _, .int t.2.2, rfl, rfl, ha, rfl, _, _, rfl, rfl, cm_l (by omega),
    _, rfl, a, _, _, .int t.2.1, rfl, rfl, ha, rfl, _, rfl, a, _, _, .int t.2.2, rfl, rfl, ha, rfl, _, _, rfl, rfl, cm_l (by omega),
    _, rfl, _, rfl, a, a, _, _, t.1, t.2.1, t.1, t.2.1, rfl, ha, ha, rfl, rfl, rfl, rfl, by omega, by omega,
    t.1 * t.2.2, t.2.1 * t.2.2, t.1 * t.1 + t.2.1 * t.2.1, rfl, by omega, Nat.lt_of_le_of_lt (show (t.1 * t.1 + t.2.1 * t.2.1).natAbs ≤ 10 ^ 40 by omega) (by decide +kernel), fun p H' s' hp ep => q p H' s' hp ep⟩
def dbN (ss : List (List Sd)) (P : P3) (n : Nat) : List Int := ((List.range n).filter fun i => !(inWB (ss.getD i []) P)).map fun i => ((i : Nat) : Int)
theorem dbN_succ (ss : List (List Sd)) (P : P3) (n : Nat) : dbN ss P (n + 1) = dbN ss P n ++ (if inWB (ss.getD n []) P then [] else [(n : Int)]) := by
  unfold dbN
  rw [List.range_succ, List.filter_append, List.map_append]
  congr 1
  rw [List.filter_cons]
  cases inWB (ss.getD n []) P <;> rfl
theorem dbN_len (ss : List (List Sd)) (P : P3) (n : Nat) : (dbN ss P n).length ≤ n := by
  unfold dbN
  rw [List.length_map]
  have z := List.length_filter_le (fun i => !(inWB (ss.getD i []) P)) (List.range n)
  rwa [List.length_range] at z
def db (ss : List (List Sd)) (P : P3) : List Int := dbN ss P ss.length
abbrev Grp := Addr × List Sd
def grefs (gs : List Grp) : List V := gs.map fun g => V.ref g.1
theorem grefs_length (gs : List Grp) : (grefs gs).length = gs.length := by unfold grefs; rw [List.length_map]
def GrL (H : Hp) (gs : List Grp) : Prop := ∀ g ∈ gs, H g.1 = some (.lst (sdRefs g.2)) ∧ SdOk H g.2
theorem GrL.same {H H' : Hp} {gs : List Grp} (h : GrL H gs) (s : Same H H') : GrL H' gs := fun g hg => ⟨s _ _ (h g hg).1, (h g hg).2.same s⟩
theorem grefs_at {gs : List Grp} {i : Nat} {k : Int} (hi : i < gs.length) (hk : k = i) : ∃ g, gs[i]? = some g ∧ g ∈ gs ∧ atI (grefs gs) k = some (.ref g.1) ∧ (gs.map (·.2)).getD i [] = g.2 := by
  subst hk
  refine ⟨gs[i], List.getElem?_eq_getElem hi, List.getElem_mem hi, ?_, by simp [hi]⟩
  exact atI_nat (by unfold grefs; rw [List.getElem?_map, List.getElem?_eq_getElem hi]; rfl)
structure Rws (H0 : Hp) (D : Addr) (rs : List (Addr × List Int)) (H : Hp) : Prop where
  same : Same H0 H
  new : H0 D = none
  at' : H D = some (.lst ((rs.map (·.1)).map V.ref))
  rows : ∀ t ∈ rs, H t.1 = some (.lst (t.2.map V.int)) ∧ H0 t.1 = none ∧ t.1 ≠ D
theorem Rws.app {H0 H H2 : Hp} {D p : Addr} {rs : List (Addr × List Int)} {k : List Int} (h : Rws H0 D rs H) (s2 : Same H H2) (hp : H p = none) (ep : H2 p = some (.lst (k.map V.int))) :
    Rws H0 D (rs ++ [(p, k)]) (upd H2 D (.lst ((rs.map (·.1)).map V.ref ++ [.ref p]))) := by
  have npD : p ≠ D := fun z => by rw [z, h.at'] at hp; cases hp
  refine ⟨(h.same.trans s2).putNew h.new, h.new, by rw [upd_same]; simp, fun u hu => ?_⟩
  rcases List.mem_append.mp hu with hu | hu
  · obtain ⟨g1, g2, g3⟩ := h.rows u hu
    exact ⟨by rw [upd_ne g3]; exact s2 _ _ g1, g2, g3⟩
  · rw [List.mem_singleton] at hu
    subst hu
    exact ⟨by show upd H2 D _ p = _; rw [upd_ne npD]; exact ep, h.same.free hp, npD⟩
def sp_p_doubted (K : PySem.W.Frag) : Sp := fun vs H Q _ => ∃ (l p : Addr) (gs : List Grp) (P : P3), vs = [.ref l, .ref p] ∧ SqL K H l (grefs gs) ∧ GrL H gs ∧ gs.length ≤ 100 ∧ Sq K H p [.int P.1, .int P.2.1, .int P.2.2] ∧
  ∀ (D : Addr), H D = none → Q (.ref D) (upd H D (.lst ((db (gs.map (·.2)) P).map V.int)))
theorem ok_p_doubted (F : Fun K "doubted" "doubted" s_p_doubted f fd) (Z : Zs mg) (h_p_in_water : Has P w K mg base "in_water" 3 ["sides", "place"] (sp_p_in_water K)) : FnOk P w K mg base CX0 4 f fd ["groups", "place"] (sp_p_doubted K) := by
  refine F.ok sc_p_doubted (fun vs H Q E h => ?_) (fun cdv A outer s H vs Q E hr h => ?_)
  · obtain ⟨l, p, gs, P, rfl, _⟩ := h
    rfl
  obtain ⟨l, p, gs, P, rfl, hl, ok, hn, hp, q⟩ := h
  refine ⟨_, (pss_one (ps_ret (pe_comp (T := ["number"]) (caps := [("groups", 0), ("place", 1)]) ⟨rfl, by decide +kernel, by decide +kernel, rfl, ⟨⟨rfl, rfl, Or.inl rfl⟩, ⟨rfl, rfl, Or.inl rfl⟩, True.intro⟩⟩ rfl (pi_range1 rfl Z.range (pa_cons (pe_callB call_len_seq rfl Z.len bt_len (pa_cons (pv 0) pa_nil)) pa_nil)) (fun _ => (pg_name (i := 0) (show (["number", "groups", "place"] : List Str).Nodup by decide +kernel) rfl (Or.inl rfl))) (fun _ => (pifs_one (pt_not (pt_val (pe_callH h_p_in_water (hr.mono (by decide)) rfl (pa_cons (pe_ix ix_any (pv 1) (pv 0) (fun _ _ => rfl)) (pa_cons (pv 2) pa_nil))))))) (fun _ => (pv 0))))), ?_⟩
  refine ⟨_, rfl, l, grefs gs, rfl, .inl hl, _, rfl, by rw [grefs_length]; omega, by rw [grefs_length]; omega, fun cc D hD => comp_range (lo := 0) (n := (grefs gs).length) (fun i σ ys H' => H' = upd H D (.lst ys) ∧ ys = (dbN (gs.map (·.2)) P i).map V.int ∧ ∃ u : Option V, σ = [u, some (.ref l), some (.ref p)])
    ⟨rfl, rfl, none, rfl⟩ (fun i σ ys H' _ ⟨e, _⟩ => by rw [e]; exact upd_same) ?_ ?_⟩
  · rintro i σ ys H' hi ⟨rfl, rfl, u, rfl⟩
    rw [grefs_length] at hi
    obtain ⟨g, _, mg', at', eg⟩ := grefs_at hi (k := 0 + (i : Int)) (by omega)
    obtain ⟨e1, e2⟩ := ok g mg'
    have sD := same_new hD (.lst ((dbN (gs.map (·.2)) P i).map V.int))
    refine ⟨_, rfl, _, rfl, l, _, _, _, rfl, rfl, .inl (sD.seq hl), at', _, rfl, g.1, p, g.2, P, rfl, SqL.of (sD _ _ e1), e2.same sD, ?_, _, rfl, ?_⟩
    · exact hp.same sD
    rw [← eg]
    have nx := dbN_succ (gs.map (·.2)) P i
    have nl := dbN_len (gs.map (·.2)) P i
    cases hw : inWB ((gs.map (·.2)).getD i []) P with
    | true =>
      rw [hw] at nx
      refine iteF ⟨rfl, ?_, _, rfl⟩
      rw [nx]
      simp
    | false =>
      rw [hw] at nx
      refine iteT ⟨_, rfl, upd_same, small1000 (by rw [List.length_map]; omega), upd_upd, ?_, _, rfl⟩
      rw [nx, List.map_append]
      show _ ++ [V.int (0 + (i : Int))] = _ ++ [V.int (i : Int)]
      rw [Int.zero_add]
  · rintro σ ys H' ⟨rfl, rfl, u, rfl⟩
    rw [grefs_length, show gs.length = (gs.map (·.2)).length by rw [List.length_map]]
    exact q D hD
theorem big9000 {n : Nat} (h : n ≤ 9000) : n < sizeLine := Nat.lt_of_le_of_lt h (by decide)
def Tried (ss : List Sd) (P : P3) : Prop := P = (0, 0, 1) ∨ (∃ t ∈ ss, P = pt3 (ftL t.2)) ∨ ∃ t ∈ ss, ∃ u ∈ ss, tn t.2 u.2 ≠ 0 ∧ P = pt3 (crL t.2 u.2)
def sidesOf (gs : List Grp) : List Sd := gs.flatMap (·.2)
theorem sd_uptoT (ss : List Sd) (n : Nat) : cutV (sdRefs ss) none (some (n : Int)) = sdRefs (ss.take n) := by
  unfold cutV
  rw [show HT.sIx (sdRefs ss).length 0 none = 0 from rfl, HT.sIx_nat (sdRefs ss).length (sdRefs ss).length n, List.drop_zero, Nat.sub_zero]
  rw [sdRefs_length]
  unfold sdRefs
  rw [← List.map_take, ← List.map_take]
  by_cases h : n ≤ ss.length
  · rw [Nat.min_eq_left h]
  · rw [Nat.min_eq_right (by omega), List.take_of_length_le (Nat.le_refl _), List.take_of_length_le (by omega)]
structure Tr (ss : List Sd) (nf i j : Nat) (ps : List P3) : Prop where
  each : ∀ P ∈ ps, Tried ss P
  zero : ((0, 0, 1) : P3) ∈ ps
  feet : ∀ (a : Nat) (t : Sd), a < nf → ss[a]? = some t → pt3 (ftL t.2) ∈ ps
  meet : ∀ (a b : Nat) (t u : Sd), b < a → (a < i ∨ (a = i ∧ b < j)) → ss[a]? = some t → ss[b]? = some u → tn t.2 u.2 ≠ 0 → pt3 (crL t.2 u.2) ∈ ps
theorem Tr.all {ss : List Sd} {ps : List P3} (h : Tr ss ss.length ss.length 0 ps) (P : P3) : P ∈ ps ↔ Tried ss P := by
  refine ⟨h.each P, fun z => ?_⟩
  rcases z with rfl | ⟨t, ht, rfl⟩ | ⟨t, ht, u, hu, hn, rfl⟩
  · exact h.zero
  · obtain ⟨a, ha, ea⟩ := List.getElem_of_mem ht
    exact h.feet a t ha (by rw [List.getElem?_eq_getElem ha, ea])
  · obtain ⟨a, ha, ea⟩ := List.getElem_of_mem ht
    obtain ⟨b, hb, eb⟩ := List.getElem_of_mem hu
    have ga : ss[a]? = some t := by rw [List.getElem?_eq_getElem ha, ea]
    have gb : ss[b]? = some u := by rw [List.getElem?_eq_getElem hb, eb]
    by_cases h1 : b < a
    · exact h.meet a b t u h1 (.inl ha) ga gb hn
    · by_cases e : a = b
      · subst e
        rw [ga] at gb
        cases gb
        exact absurd (by unfold tn; rw [Int.mul_comm]; omega) hn
      · have hut : tn u.2 t.2 ≠ 0 := fun z => hn (by unfold tn at z ⊢; rw [Int.mul_comm u.2.1, Int.mul_comm u.2.2.1] at z; omega)
        rw [cr_swap hn]
        exact h.meet b a u t (by omega) (.inl hb) gb ga hut
theorem Tr.foot {ss : List Sd} {i : Nat} {ps : List P3} {t : Sd} (h : Tr ss i i 0 ps) (gt : ss[i]? = some t) : Tr ss (i + 1) i 0 (ps ++ [pt3 (ftL t.2)]) := by
  refine ⟨fun P hP => ?_, List.mem_append_left _ h.zero, fun a u ha gu => ?_, fun a b x y hab hc gx gy hn => List.mem_append_left _ (h.meet a b x y hab hc gx gy hn)⟩
  · rcases List.mem_append.mp hP with z | z
    · exact h.each P z
    · rw [List.mem_singleton] at z
      exact .inr (.inl ⟨t, List.mem_of_getElem? gt, z⟩)
  · by_cases e : a = i
    · rw [e, gt] at gu
      cases gu
      exact List.mem_append_right _ (.head _)
    · exact List.mem_append_left _ (h.feet a u (by omega) gu)
theorem Tr.more {ss : List Sd} {i j : Nat} {ps ps' : List P3} {t u : Sd} (h : Tr ss (i + 1) i j ps) (gt : ss[i]? = some t) (gu : ss[j]? = some u) (sub : ∀ P ∈ ps, P ∈ ps') (new : ∀ P ∈ ps', P ∈ ps ∨ (tn t.2 u.2 ≠ 0 ∧ P = pt3 (crL t.2 u.2))) (has : tn t.2 u.2 ≠ 0 → pt3 (crL t.2 u.2) ∈ ps') : Tr ss (i + 1) i (j + 1) ps' := by
  refine ⟨fun P hP => ?_, sub _ h.zero, fun a x ha gx => sub _ (h.feet a x ha gx), fun a b x y hab hc gx gy hn => ?_⟩
  · rcases new P hP with z | ⟨z1, z2⟩
    · exact h.each P z
    · exact .inr (.inr ⟨t, List.mem_of_getElem? gt, u, List.mem_of_getElem? gu, z1, z2⟩)
  · by_cases e : a = i ∧ b = j
    · obtain ⟨rfl, rfl⟩ := e
      rw [gt] at gx
      rw [gu] at gy
      cases gx
      cases gy
      exact has hn
    · exact sub _ (h.meet a b x y hab (by omega) gx gy hn)
theorem Tr.next {ss : List Sd} {i : Nat} {ps : List P3} (h : Tr ss (i + 1) i i ps) : Tr ss (i + 1) (i + 1) 0 ps := ⟨h.each, h.zero, h.feet, fun a b t u hab hc gt gu hn => h.meet a b t u hab (by omega) gt gu hn⟩
structure PlT (H0 : Hp) (D : Addr) (qs : List SpT) (H : Hp) : Prop where
  same : Same H0 H
  new : H0 D = none
  at' : H D = some (.lst (spRefs qs))
  ok : SpsOk H qs
theorem PlT.app {H0 H H2 : Hp} {D p : Addr} {qs : List SpT} {l : List Int} {x : P3} (h : PlT H0 D qs H) (s2 : Same H H2) (hp : H p = none) (ep : H2 p = some (.tup (l.map V.int))) (sp : IsSpot l x) :
    PlT H0 D (qs ++ [(p, x)]) (upd H2 D (.lst (spRefs qs ++ [.ref p]))) := by
  have npD : p ≠ D := fun z => by rw [z, h.at'] at hp; cases hp
  refine ⟨(h.same.trans s2).putNew h.new, h.new, by rw [upd_same]; simp [spRefs], fun u hu => ?_⟩
  rcases List.mem_append.mp hu with hu | hu
  · obtain ⟨g1, g2⟩ := h.ok u hu
    exact ⟨by rw [upd_ne (ne_of (s2 _ _ g1) (s2 _ _ h.at') (by intro z; cases z))]; exact s2 _ _ g1, g2⟩
  · rw [List.mem_singleton] at hu
    subst hu
    refine ⟨?_, sp.pos, sp.low⟩
    show upd H2 D _ p = _
    rw [upd_ne npD, ep, sp.list]
    rfl
def sp_p_places_to_try (K : PySem.W.Frag) : Sp := fun vs H Q _ => ∃ (l : Addr) (gs : List Grp), vs = [.ref l] ∧ SqL K H l (grefs gs) ∧ GrL H gs ∧ gs.length ≤ 24 ∧ (∀ g ∈ gs, g.2.length ≤ 2) ∧
  ∀ (D : Addr) (qs : List SpT) (H' : Hp), Same H H' → H D = none → H' D = some (.lst (spRefs qs)) → SpsOk H' qs → (∀ P, P ∈ qs.map (·.2) ↔ Tried (sidesOf gs) P) → qs.length ≤ 9000 → Q (.ref D) H'
theorem ok_p_places_to_try (F : Fun K "places_to_try" "places_to_try" s_p_places_to_try f fd) (Z : Zs mg) (h_p_crossing : Has P w K mg base "crossing" 4 ["one", "other"] (sp_p_crossing K)) (h_p_foot : Has P w K mg base "foot" 5 ["side"] (sp_p_foot K)) (h_p_spot : Has P w K mg base "spot" 4 ["x", "y", "w"] (sp_p_spot K)) : FnOk P w K mg base CX0 6 f fd ["groups"] (sp_p_places_to_try K) := by
  refine F.ok sc_p_places_to_try (fun vs H Q E h => ?_) (fun cdv A outer s H vs Q E hr h => ?_)
  · obtain ⟨l, gs, rfl, _⟩ := h
    rfl
  obtain ⟨l, gs, rfl, hl, ok, hn, h2, q⟩ := h
  refine ⟨_, (pss_cons (ps_set (i := 1) sc_p_places_to_try.nd rfl (Or.inl rfl) (pe_lst pa_nil))
      (pss_cons (ps_for PassesOwn.never rfl (pi_seq (pv 0)) (pg_name (i := 2) sc_p_places_to_try.nd rfl (Or.inl rfl)) (pss_one (ps_expr (pe_bm PySem.F.plainAttrs_list PySem.F.slot_list_extend PySem.F.type_list_extend mt_extend (pv 1) (pa_cons (pv 2) pa_nil)))))
      (pss_cons (ps_set (i := 3) sc_p_places_to_try.nd rfl (Or.inl rfl) (pe_lst (pa_cons (pe_callH h_p_spot (hr.mono (by decide)) rfl (pa_cons pe_int (pa_cons pe_int (pa_cons pe_int pa_nil)))) pa_nil)))
      (pss_cons (ps_for PassesOwn.never rfl (pi_range1 rfl Z.range (pa_cons (pe_callB call_len_seq rfl Z.len bt_len (pa_cons (pv 1) pa_nil)) pa_nil)) (pg_name (i := 4) sc_p_places_to_try.nd rfl (Or.inl rfl)) (pss_cons (ps_expr (pe_bm PySem.F.plainAttrs_list PySem.F.slot_list_append PySem.F.type_list_append mt_append (pv 3) (pa_cons (pe_callH h_p_foot (hr.mono (by decide)) rfl (pa_cons (pe_ix ix_any (pv 1) (pv 4) (fun _ _ => rfl)) pa_nil)) pa_nil)))
      (pss_one (ps_for PassesOwn.never rfl (pi_list (pe_slice sl_list (pv 1) po_none (po_some (pv 4)))) (pg_name (i := 5) sc_p_places_to_try.nd rfl (Or.inl rfl)) (pss_cons (ps_set (i := 6) sc_p_places_to_try.nd rfl (Or.inl rfl) (pe_callH h_p_crossing (hr.mono (by decide)) rfl (pa_cons (pe_ix ix_any (pv 1) (pv 4) (fun _ _ => rfl)) (pa_cons (pv 5) pa_nil))))
      (pss_one (ps_if (pt_cmpR op_notN (pv 6) pe_non (nomark _)) (pss_one (ps_expr (pe_bm PySem.F.plainAttrs_list PySem.F.slot_list_append PySem.F.type_list_append mt_append (pv 3) (pa_cons (pv 6) pa_nil)))) pss_nil)))))))
      (pss_one (ps_ret (pv 3))))))), ?_⟩
  have len : ∀ k, k ≤ gs.length → (sidesOf (gs.take k)).length ≤ 2 * k := fun k => by
    induction k with
    | zero => intro _; simp [sidesOf]
    | succ k ih =>
      intro hk
      have hk' : k < gs.length := by omega
      have z := ih (by omega)
      have g2 := h2 gs[k] (List.getElem_mem hk')
      have e : sidesOf (gs.take (k + 1)) = sidesOf (gs.take k) ++ gs[k].2 := by
        unfold sidesOf
        rw [List.take_succ_eq_append_getElem hk', List.flatMap_append]
        simp
      rw [e, List.length_append]
      omega
  have okS : ∀ {H' : Hp}, GrL H' gs → SdOk H' (sidesOf gs) := fun {H'} o t ht => by
    obtain ⟨g, hg, htg⟩ := List.mem_flatMap.mp ht
    exact (o g hg).2 t htg
  refine ⟨Nat.zero_le _, fun d hd => ?_⟩
  have sd : ∀ v, Same H (upd H d v) := fun v => same_new hd v
  refine ⟨_, rfl, l, rfl, .inl ⟨⟨_, (sd _).seq hl⟩, for_list (K := K) (a := l) (xs := grefs gs) (fun i σ H' => H' = upd H d (.lst (sdRefs (sidesOf (gs.take i)))) ∧ ∃ u2 : Option V, σ = [some (.ref l), some (.ref d), u2, none, none, none, none])
    ⟨rfl, none, rfl⟩ (fun i σ H' _ ⟨e, _⟩ => by rw [e]; exact (sd _).seq hl) ?_ ?_⟩⟩
  · rintro i v σ H' hi ⟨rfl, u2, rfl⟩
    unfold grefs at hi
    rw [List.getElem?_map] at hi
    cases gx : gs[i]? with
    | none => rw [gx] at hi; cases hi
    | some g =>
      rw [gx] at hi
      cases hi
      have hil : i < gs.length := (List.getElem?_eq_some_iff.mp gx).1
      have eg := (ok g (List.mem_of_getElem? gx)).1
      have lz := len i (by omega)
      have g2 := h2 g (List.mem_of_getElem? gx)
      refine ⟨_, rfl, .inl ⟨rfl, _, SqL.of upd_same⟩, _, rfl, d, g.1, _, _, rfl, rfl, upd_same, sd _ _ _ eg, ?_, ?_⟩
      · rw [sdRefs_length, sdRefs_length]
        exact small (by omega)
      · refine ⟨?_, _, rfl⟩
        rw [upd_upd]
        congr 2
        unfold sidesOf
        rw [List.take_succ_eq_append_getElem hil, List.flatMap_append, (List.getElem?_eq_some_iff.mp gx).2]
        simp [sdRefs]
  · rintro σ H' ⟨rfl, u2, rfl⟩
    rw [grefs_length, List.take_length]
    have lz := len gs.length (Nat.le_refl _)
    rw [List.take_length] at lz
    have ss0 : SdOk (upd H d (.lst (sdRefs (sidesOf gs)))) (sidesOf gs) := okS (ok.same (sd _))
    have s0 := sd (.lst (sdRefs (sidesOf gs)))
    have ed : upd H d (.lst (sdRefs (sidesOf gs))) d = some (.lst (sdRefs (sidesOf gs))) := upd_same
    generalize upd H d (.lst (sdRefs (sidesOf gs))) = H1 at ss0 s0 ed ⊢
    clear len okS sd
    generalize hss : sidesOf gs = ss at ss0 ed lz q
    refine ⟨0, 0, 1, rfl, by decide, by decide +kernel, fun p H2 s2 hp ep => ?_⟩
    have e0 : lowL (upL 0 0 1) = [0, 0, 1] := by decide +kernel
    rw [e0] at ep
    refine ⟨by show 1 ≤ sizeLine; decide, fun D hD => ?_⟩
    have P0 : PlT H2 D [(p, 0, 0, 1)] (upd H2 D (.lst [.ref p])) := by
      refine ⟨same_new hD _, hD, upd_same, fun u hu => ?_⟩
      rw [List.mem_singleton] at hu
      subst hu
      exact ⟨same_new hD _ _ _ ep, by show (0 : Int) < 1; decide, by show Nat.gcd (Nat.gcd 0 0) 1 = 1; decide⟩
    have T0 : Tr ss 0 0 0 ([((p, 0, 0, 1) : SpT)].map (·.2)) := ⟨fun P hP => by rw [List.mem_singleton.mp hP]; exact .inl rfl, .head _, fun a t h => absurd h (Nat.not_lt_zero _), fun a b t u h1 h2 => absurd h2 (by omega)⟩
    have hs12 : Same H1 H2 := s2
    have ed2 := s2 _ _ ed
    have ok2 := ss0.same s2
    refine ⟨_, rfl, d, sdRefs ss, rfl, .inl ((same_new hD _).seq (SqL.of ed2)), _, rfl, by rw [sdRefs_length]; omega, by rw [sdRefs_length]; omega, for_range (lo := 0) (n := (sdRefs ss).length) (fun i σ H' => ∃ qs : List SpT, PlT H2 D qs H' ∧ Tr ss i i 0 (qs.map (·.2)) ∧ qs.length ≤ 1 + i * 49 ∧ ∃ u4 u5 u6 : Option V, σ = [some (.ref l), some (.ref d), u2, some (.ref D), u4, u5, u6])
      ⟨_, P0, T0, by show 1 ≤ 1 + 0 * 49; omega, none, none, none, rfl⟩ ?_ ?_⟩
    · rintro i σ H' hi ⟨qs, Pq, tr, hq, u4, u5, u6, rfl⟩
      rw [sdRefs_length] at hi
      obtain ⟨t, mt, gt, at'⟩ := sdRefs_at (ss := ss) (i := i) (k := 0 + (i : Int)) (by omega) hi
      have okH := ok2.same Pq.same
      obtain ⟨et, nt, b1, b2, b3⟩ := okH t mt
      have hq1 : i * 49 ≤ 48 * 49 := Nat.mul_le_mul_right _ (by omega)
      refine ⟨_, rfl, .inl ⟨rfl, _, SqL.of Pq.at'⟩, _, rfl, _, rfl, d, _, _, _, rfl, rfl, .inl (SqL.of (Pq.same _ _ ed2)), at', t.1, t.2, rfl, .inr (SqT.of et), nt, b1, b2, fun p3 H3 s3 hp3 ep3 => ?_⟩
      refine ⟨D, _, _, rfl, rfl, s3 _ _ Pq.at', big9000 (by simp only [spRefs, List.length_map]; omega), ?_⟩
      have P1 := Pq.app s3 hp3 ep3 (ft_ok nt).1
      have T1 := tr.foot gt
      generalize upd H3 D (.lst (spRefs qs ++ [.ref p3])) = H4 at P1 ⊢
      refine ⟨_, rfl, _, rfl, _, rfl, d, _, rfl, SqL.of (P1.same _ _ ed2), fun c hc => ?_⟩
      rw [Int.zero_add, sd_uptoT]
      rw [Int.zero_add] at at'
      have sc : Same H4 (upd H4 c (.lst (sdRefs (ss.take i)))) := same_new hc _
      have ec : upd H4 c (.lst (sdRefs (ss.take i))) c = some (.lst (sdRefs (ss.take i))) := upd_same
      have P2 : PlT H2 D (qs ++ [(p3, pt3 (ftL t.2))]) (upd H4 c (.lst (sdRefs (ss.take i)))) := ⟨P1.same.trans sc, P1.new, sc _ _ P1.at', P1.ok.same sc⟩
      have ncD : c ≠ D := fun z => by rw [z, P1.at'] at hc; cases hc
      generalize upd H4 c (.lst (sdRefs (ss.take i))) = H5 at P2 ec ⊢
      clear P1 sc hc
      refine ⟨c, rfl, ⟨_, SqL.of ec⟩, for_list (K := K) (a := c) (xs := sdRefs (ss.take i)) (fun j σ H' => H' c = some (.lst (sdRefs (ss.take i))) ∧ (∃ qs : List SpT, PlT H2 D qs H' ∧ Tr ss (i + 1) i j (qs.map (·.2)) ∧ qs.length ≤ 2 + i * 49 + j) ∧ ∃ u5 u6 : Option V, σ = [some (.ref l), some (.ref d), u2, some (.ref D), some (.int i), u5, u6])
        ⟨ec, ⟨_, P2, by rw [List.map_append]; exact T1, by rw [List.length_append, List.length_singleton]; omega⟩, _, _, rfl⟩ (fun j σ H' _ ⟨e, _⟩ => SqL.of e) ?_ ?_⟩
      · rintro j v σ H6 hj ⟨ec6, ⟨qs, Pq, tr, hq⟩, u5, u6, rfl⟩
        obtain ⟨u, gu0, rfl, hjl⟩ := sdRefs_get hj
        rw [List.length_take] at hjl
        have gu : ss[j]? = some u := by rw [List.getElem?_take_of_lt (by omega)] at gu0; exact gu0
        have okH := ok2.same Pq.same
        obtain ⟨et, nt, b1, b2, b3⟩ := okH t mt
        obtain ⟨eu, nu, c1, c2, c3⟩ := okH u (List.mem_of_getElem? gu)
        refine ⟨_, rfl, _, rfl, d, _, _, _, rfl, rfl, .inl (SqL.of (Pq.same _ _ ed2)), at', _, rfl, t.1, u.1, t.2.1, t.2.2.1, t.2.2.2, u.2.1, u.2.2.1, u.2.2.2, rfl, .inr (SqT.of et), .inr (SqT.of eu), by omega, by omega, by omega, by omega, by omega, fun h0 => ?_, fun h0 p7 H7 s7 hp7 ep7 => ?_⟩
        · refine ⟨_, rfl, rfl, _, rfl, ?_⟩
          refine iteF ?_
          exact ⟨ec6, ⟨qs, Pq, tr.more gt gu (fun P h => h) (fun P h => .inl h) fun z => absurd h0 z, by omega⟩, _, _, rfl⟩
        · refine ⟨_, rfl, rfl, _, rfl, ?_⟩
          refine iteT ?_
          have P7 := Pq.app (l := crL t.2 u.2) s7 hp7 ep7 (cr_ok h0).1
          refine ⟨_, rfl, .inl ⟨rfl, _, SqL.of (s7 _ _ Pq.at')⟩, _, rfl, D, _, _, rfl, rfl, s7 _ _ Pq.at', big9000 (by simp only [spRefs, List.length_map]; omega), ?_⟩
          refine ⟨by rw [upd_ne ncD]; exact s7 _ _ ec6, ⟨_, P7, ?_, by rw [List.length_append, List.length_singleton]; omega⟩, _, _, rfl⟩
          rw [List.map_append]
          exact tr.more gt gu (fun P h => List.mem_append_left _ h) (fun P h => (List.mem_append.mp h).imp id fun z => ⟨h0, List.mem_singleton.mp z⟩) fun _ => List.mem_append_right _ (.head _)
      · rintro σ H6 ⟨ec6, ⟨qs, Pq, tr, hq⟩, u5, u6, rfl⟩
        rw [sdRefs_length, List.length_take, Nat.min_eq_left (by omega)] at tr hq
        exact ⟨qs, Pq, tr.next, by omega, _, _, _, rfl⟩
    · rintro σ H' ⟨qs, Pq, tr, hq, u4, u5, u6, rfl⟩
      rw [sdRefs_length] at tr hq
      refine ⟨_, rfl, q D qs H' ((s0.trans s2).trans Pq.same) ((s0.trans s2).free Pq.new) Pq.at' Pq.ok (fun P => tr.all P) ?_⟩
      have : ss.length * 49 ≤ 48 * 49 := Nat.mul_le_mul_right _ (by omega)
      omega
theorem map_keyI_inj : ∀ {a b : List (List Int)}, a.map keyI = b.map keyI → a = b
  | [], [], _ => rfl
  | [], _ :: _, h => nomatch h
  | _ :: _, [], h => nomatch h
  | x :: a, y :: b, h => by
    rw [List.map_cons, List.map_cons] at h
    injection h with h1 h2
    rw [keyI_inj h1, map_keyI_inj h2]
theorem TabK.put_or {kvs : List (List Key × V)} {ks ks' : List (List Int)} {k : List Int} {v : V} (h : TabK kvs ks) (h' : TabK (putK kvs (keyI k) v) ks') : ks' = ks ∨ ks' = ks ++ [k] := by
  have e := h'.keys
  unfold putK at e
  split at e
  · left
    refine map_keyI_inj ?_
    rw [← e, ← h.keys, List.map_map]
    refine List.map_congr_left fun a _ => ?_
    show (if a.1 = keyI k then (a.1, v) else a).1 = a.1
    split <;> rfl
  · right
    refine map_keyI_inj ?_
    rw [← e, List.map_append, List.map_append, h.keys]
    rfl
structure Shows (H : Hp) (gs : List Grp) (kvs : List (List Key × V)) (ks : List (List Int)) : Prop where
  tab : TabK kvs ks
  spot : ∀ k ∈ ks, ∃ sp : SpT, valV kvs (keyI k) = some (.ref sp.1) ∧ SpsOk H [sp] ∧ k = db (gs.map (·.2)) sp.2 ∧ Tried (sidesOf gs) sp.2
structure Least (gs : List Grp) (ks : List (List Int)) : Prop where
  ne : ks ≠ []
  least : ∀ k ∈ ks, ∀ P, Tried (sidesOf gs) P → k.length ≤ (db (gs.map (·.2)) P).length
  all : ∀ P, Tried (sidesOf gs) P → (∀ k ∈ ks, (db (gs.map (·.2)) P).length ≤ k.length) → db (gs.map (·.2)) P ∈ ks
theorem Shows.put {H H' : Hp} {gs : List Grp} {kvs : List (List Key × V)} {ks : List (List Int)} (sh : Shows H gs kvs ks) {x : SpT} (hx : SpsOk H' [x]) (tr : Tried (sidesOf gs) x.2) (keep : ∀ b xs, H b = some (.tup xs) → H' b = some (.tup xs)) :
    ∃ ks', Shows H' gs (putK kvs (keyI (db (gs.map (·.2)) x.2)) (.ref x.1)) ks' ∧ (∀ k, k ∈ ks' ↔ k ∈ ks ∨ k = db (gs.map (·.2)) x.2) ∧ ks'.length ≤ ks.length + 1 := by
  obtain ⟨ks', t1, t2, t3⟩ := sh.tab.put (db (gs.map (·.2)) x.2) (.ref x.1)
  refine ⟨ks', ⟨t1, fun k hk => ?_⟩, t2, t3⟩
  by_cases e : k = db (gs.map (·.2)) x.2
  · exact ⟨x, by rw [valV_put, if_pos (by rw [e])], hx, e, tr⟩
  · obtain ⟨sp, v1, v2, v3, v4⟩ := sh.spot k (((t2 k).mp hk).resolve_right e)
    refine ⟨sp, by rw [valV_put, if_neg (fun z => e (keyI_inj z))]; exact v1, fun u hu => ?_, v3, v4⟩
    exact ⟨keep _ _ (v2 u hu).1, (v2 u hu).2⟩
theorem comp_keys0 {ts : List (Addr × List Key)} {D : Addr} {g : TG} {te : TE} {σ0 : St} {H1 : Hp} {Q : VK} (Pv : Nat → St → List V → Hp → Prop) (h0 : Pv 0 σ0 [] (upd H1 D (.lst []))) (hl : ∀ i σ ys H, Pv i σ ys H → H D = some (.lst ys))
    (hs : ∀ i t σ ys H, ts[i]? = some t → Pv i σ ys H → g (.ref t.1) σ H fun σ2 H2 => te σ2 H2 fun y H4 => H4 D = some (.lst ys) ∧ ys.length < sizeLine ∧ Pv (i + 1) σ2 (ys ++ [y]) (upd H4 D (.lst (ys ++ [y]))))
    (hd : ∀ σ ys H, Pv ts.length σ ys H → Q (.ref D) H) : CompW (Itk ts) D g tYes te σ0 H1 Q := by
  refine ⟨fun i m σ ys H => m = ts.length - i ∧ i ≤ ts.length ∧ Pv i σ ys H, ⟨_, rfl, Nat.zero_le _, h0⟩, ?_⟩
  rintro i m σ ys H ⟨rfl, hi, p⟩
  refine ⟨hl i σ ys H p, ?_⟩
  by_cases hlt : i < ts.length
  · refine .inr ⟨hlt, Pv (i + 1), fun σ' zs H' z => ⟨ts.length - (i + 1), by omega, rfl, hlt, z⟩, fun x H' y => ?_⟩
    obtain ⟨rfl, t, gt, rfl⟩ := y
    exact hs i t σ ys _ gt p
  · have e : i = ts.length := by omega
    subst e
    exact .inl ⟨Nat.le_refl _, hd σ ys H p⟩
def sp_p_least_doubts (K : PySem.W.Frag) : Sp := fun vs H Q _ => ∃ (l : Addr) (gs : List Grp), vs = [.ref l] ∧ SqL K H l (grefs gs) ∧ GrL H gs ∧ gs.length ≤ 24 ∧ (∀ g ∈ gs, g.2.length ≤ 2) ∧
  ∀ (D : Addr) (kvs : List (List Key × V)) (ks : List (List Int)) (H' : Hp), Same H H' → H D = none → H' D = some (.dT kvs) → Shows H' gs kvs ks → Least gs ks → ks.Pairwise (fun a b => HT.lexLt b a = false) → ks.length ≤ 9000 → Q (.ref D) H'
theorem ok_p_least_doubts (F : Fun K "least_doubts" "least_doubts" s_p_least_doubts f fd) (Z : Zs mg) (h_p_places_to_try : Has P w K mg base "places_to_try" 6 ["groups"] (sp_p_places_to_try K)) (h_p_doubted : Has P w K mg base "doubted" 4 ["groups", "place"] (sp_p_doubted K)) : FnOk P w K mg base CX0 7 f fd ["groups"] (sp_p_least_doubts K) := by
  refine F.ok sc_p_least_doubts (fun vs H Q E h => ?_) (fun cdv A outer s H vs Q E hr h => ?_)
  · obtain ⟨l, gs, rfl, _⟩ := h
    rfl
  obtain ⟨l, gs, rfl, hl, ok, hn, h2, q⟩ := h
  have hu1 := Nat.lt_of_le_of_lt (Nat.add_le_add_left (show 1 ≤ 64 by decide) _) hr.units
  have hu2 := Nat.lt_of_le_of_lt (Nat.add_le_add_left (show 2 ≤ 64 by decide) _) hr.units
  refine ⟨_, (pss_cons (ps_set (i := 1) sc_p_least_doubts.nd rfl (Or.inl rfl) pe_dnewT)
      (pss_cons (ps_for PassesOwn.never rfl (pi_seq (pe_callH h_p_places_to_try (hr.mono (by decide)) rfl (pa_cons (pv 0) pa_nil))) (pg_name (i := 2) sc_p_least_doubts.nd rfl (Or.inl rfl)) (pss_one (ps_dput hu1 (pv 1) (pe_callTy call_tuple_of rfl Z.tuple bt_tuple (pa_cons (pe_callH h_p_doubted (hr.mono (by decide)) rfl (pa_cons (pv 0) (pa_cons (pv 2) pa_nil))) pa_nil)) (pv 2) rfl)))
      (pss_cons (ps_set (i := 3) sc_p_least_doubts.nd rfl (Or.inl rfl) (pe_callB (call_minL rfl) rfl Z.min bt_min (pa_cons (pe_compD (T := ["choice"]) (caps := []) ⟨rfl, by decide +kernel, by decide +kernel, rfl, True.intro⟩ rfl (pv 1) (fun _ => (pg_name (i := 0) (show (["choice"] : List Str).Nodup by decide +kernel) rfl (Or.inl rfl))) (fun _ => pifs_nil) (fun _ => (pe_callB call_len_seq rfl Z.len bt_len (pa_cons (pv 0) pa_nil)))) pa_nil)))
      (pss_cons (ps_set (i := 4) sc_p_least_doubts.nd rfl (Or.inl rfl) pe_dnewT)
      (pss_cons (ps_for PassesOwn.never rfl (pi_seq (pe_callB (call_sortedPR hu2) rfl Z.sorted bt_sorted (pa_cons (pe_callTy (call_list_dT rfl) rfl Z.list bt_list (pa_cons (pv 1) pa_nil)) pa_nil))) (pg_name (i := 5) sc_p_least_doubts.nd rfl (Or.inl rfl)) (pss_one (ps_if (pt_cmpR op_eq (pe_callB call_len_seq rfl Z.len bt_len (pa_cons (pv 5) pa_nil)) (pv 3) (nomark _)) (pss_one (ps_dput hu1 (pv 4) (pv 5) (pe_dget hu1 (pv 1) (pv 5) (fun _ _ => rfl)) rfl)) pss_nil)))
      (pss_one (ps_ret (pv 4)))))))), ?_⟩
  refine fun d hd => ?_
  have s0 := same_new hd (.dT [])
  refine ⟨_, rfl, l, gs, rfl, s0.seq hl, ok.same s0, hn, h2, fun p1 qs H1 s1 hp1 ep1 okq mem hq => ?_⟩
  have ed1 := s1 _ _ (show upd H d (.dT []) d = some (.dT []) from upd_same)
  refine ⟨p1, rfl, .inl ⟨⟨_, SqL.of ep1⟩, for_list (K := K) (a := p1) (xs := spRefs qs) (fun i σ H' => (∀ b o, H1 b = some o → b ≠ d → H' b = some o) ∧ (∃ kvs ks, H' d = some (.dT kvs) ∧ Shows H' gs kvs ks ∧ ks.length ≤ i ∧ ∀ j x, j < i → qs[j]? = some x → db (gs.map (·.2)) x.2 ∈ ks) ∧ ∃ u2 u3 u4 u5 : Option V, σ = [some (.ref l), some (.ref d), u2, u3, u4, u5])
    ⟨fun b o e _ => e, ⟨[], [], ed1, ⟨.nil, fun k hk => nomatch hk⟩, Nat.le_refl _, fun j x h => absurd h (Nat.not_lt_zero _)⟩, none, none, none, none, rfl⟩ (fun i σ H' _ ⟨e, _⟩ => SqL.of (e _ _ ep1 ?_)) ?_ ?_⟩⟩
  · exact ne_of ep1 ed1 (by intro z; cases z)
  · rintro i v σ H2 hi ⟨kp, ⟨kvs, ks, eD, sh, hk, done⟩, u2, u3, u4, u5, rfl⟩
    rw [List.getElem?_map, List.getElem?_map] at hi
    cases gx : qs[i]? with
    | none => rw [gx] at hi; cases hi
    | some x =>
      rw [gx] at hi
      cases hi
      have hx := okq x (List.mem_of_getElem? gx)
      have nxd : x.1 ≠ d := ne_of hx.1 ed1 (by intro z; cases z)
      have ex2 := kp _ _ hx.1 nxd
      have ld : ∀ {b : Addr} {o : HO}, H b = some o → b ≠ d := fun {b o} e z => by rw [z, hd] at e; cases e
      have h12 : ∀ {b : Addr} {o : HO}, H b = some o → H2 b = some o := fun {b o} e => kp _ _ (s1 _ _ (s0 _ _ e)) (ld e)
      have s02 : Same H H2 := fun b o e => h12 e
      refine ⟨_, rfl, _, rfl, _, rfl, _, rfl, l, x.1, gs, x.2, rfl, s02.seq hl, ok.same s02, by omega, .inr (SqT.of ex2), fun D hD => ?_⟩
      have sD := same_new hD (.lst ((db (gs.map (·.2)) x.2).map V.int))
      refine ⟨D, _, rfl, .inl ⟨SqL.of upd_same, fun t ht => ?_⟩⟩
      have st := same_new ht (.tup ((db (gs.map (·.2)) x.2).map V.int))
      have eD4 := st _ _ (sD _ _ eD)
      have kl := sh.tab.len
      have s24 := sD.trans st
      have et : upd (upd H2 D (.lst ((db (gs.map (·.2)) x.2).map V.int))) t (.tup ((db (gs.map (·.2)) x.2).map V.int)) t = some (.tup ((db (gs.map (·.2)) x.2).map V.int)) := upd_same
      generalize upd (upd H2 D (.lst ((db (gs.map (·.2)) x.2).map V.int))) t (.tup ((db (gs.map (·.2)) x.2).map V.int)) = H4 at s24 eD4 et ⊢
      have hi2 : i < qs.length := (List.getElem?_eq_some_iff.mp gx).1
      refine ⟨d, _, rfl, DPut.t (k := keyI (db (gs.map (·.2)) x.2)) eD4 (by rw [keyI_kV]; exact et) (by rw [kl]; exact big9000 (by omega)), ?_⟩
      have keepT : ∀ (b : Addr) (xs : List V), H2 b = some (.tup xs) → upd H4 d (.dT (putK kvs (keyI (db (gs.map (·.2)) x.2)) (.ref x.1))) b = some (.tup xs) := fun b xs e => by
        rw [upd_ne (ne_of (s24 _ _ e) eD4 (by intro z; cases z))]
        exact s24 _ _ e
      obtain ⟨ks', sh', mem', len'⟩ := sh.put (H' := upd H4 d (.dT (putK kvs (keyI (db (gs.map (·.2)) x.2)) (.ref x.1)))) (x := x) (fun u hu => by rw [List.mem_singleton] at hu; subst hu; exact ⟨keepT _ _ ex2, hx.2⟩) ((mem x.2).mp (List.mem_map_of_mem (List.mem_of_getElem? gx))) keepT
      refine ⟨fun b o e n => by rw [upd_ne n]; exact s24 _ _ (kp b o e n), ⟨_, ks', upd_same, sh', by omega, fun j y hj gy => ?_⟩, _, _, _, _, rfl⟩
      by_cases e : j = i
      · rw [e, gx] at gy
        cases gy
        exact (mem' _).mpr (.inr rfl)
      · exact (mem' _).mpr (.inl (done j y (by omega) gy))
  · rintro σ H2 ⟨kp, ⟨kvs, ks, eD, sh, hk, done⟩, u2, u3, u4, u5, rfl⟩
    have lq : (spRefs qs).length = qs.length := by simp
    rw [lq] at hk done
    have ld : ∀ {b : Addr} {o : HO}, H b = some o → b ≠ d := fun {b o} e z => by rw [z, hd] at e; cases e
    have s02 : Same H H2 := fun b o e => kp _ _ (s1 _ _ (s0 _ _ e)) (ld e)
    have all : ∀ P, Tried (sidesOf gs) P → db (gs.map (·.2)) P ∈ ks := fun P hP => by
      obtain ⟨x, hx, e⟩ := List.mem_map.mp ((mem P).mpr hP)
      obtain ⟨j, hj, ej⟩ := List.getElem_of_mem hx
      rw [← e]
      exact done j x hj (by rw [List.getElem?_eq_getElem hj, ej])
    clear kp done okq mem
    refine ⟨_, rfl, d, kvs, rfl, eD, fun ts ets hts cc D hD => comp_keys0 (fun i σ ys H' => H' = upd (hideH H2 d) D (.lst ys) ∧ ys = ((ts.take i).map fun t => V.int (t.2.length : Int)) ∧ ∃ u : Option V, σ = [u])
      ⟨rfl, rfl, none, rfl⟩ (fun i σ ys H' ⟨e, _⟩ => by rw [e]; exact upd_same) ?_ ?_⟩
    · rintro i t σ ys H' gt ⟨rfl, rfl, u, rfl⟩
      have ht := hts t (List.mem_of_getElem? gt)
      have htd : t.1 ≠ d := ne_of ht eD (by intro z; cases z)
      have htD : t.1 ≠ D := fun z => by rw [z, hD] at ht; cases ht
      have til : i < ts.length := (List.getElem?_eq_some_iff.mp gt).1
      have tl : ts.length = kvs.length := by have z := congrArg List.length ets; rwa [List.length_map, List.length_map] at z
      have kl := sh.tab.len
      refine ⟨_, rfl, t.1, _, rfl, .inr (SqT.of (by rw [upd_ne htD, hide_ne htd]; exact ht)), upd_same, big9000 (by rw [List.length_map, List.length_take]; omega), upd_upd, ?_, _, rfl⟩
      rw [take_snoc gt, List.map_append, List.length_map]
      rfl
    · rintro σ ys H' ⟨rfl, rfl, u, rfl⟩
      refine fun _ => ?_
      have nDd : D ≠ d := fun z => by rw [z, eD] at hD; cases hD
      rw [hide_back eD nDd, List.take_length]
      have lens : (ts.map fun t => (t.2.length : Int)) = ks.map fun k => (k.length : Int) := by
        have z := congrArg (List.map fun t : List Key => (t.length : Int)) (ets.trans sh.tab.keys)
        rw [List.map_map, List.map_map] at z
        refine z.trans (List.map_congr_left fun k _ => ?_)
        show ((keyI k).length : Int) = _
        unfold keyI
        rw [List.length_map]
      have kne : ks ≠ [] := fun z => by have := all (0, 0, 1) (.inl rfl); rw [z] at this; cases this
      refine ⟨D, ts.map (fun t => (t.2.length : Int)), rfl, SqL.of (by rw [upd_same, List.map_map]; rfl), by rw [lens]; exact fun z => kne (List.map_eq_nil_iff.mp z), fun M m1 m2 => ?_⟩
      rw [lens] at m1 m2
      obtain ⟨k0, mk0, ek0⟩ := List.mem_map.mp m1
      have m3 : ∀ k ∈ ks, M ≤ (k.length : Int) := fun k hk => m2 _ (List.mem_map_of_mem (f := fun k : List Int => (k.length : Int)) hk)
      have s3 := same_new hD (.lst (ts.map fun t => V.int (t.2.length : Int)))
      generalize upd H2 D (.lst (ts.map fun t => V.int (t.2.length : Int))) = H3 at s3 ⊢
      clear lens m1 m2 ets hts
      refine fun d2 hd2 => ?_
      have s4 := same_new hd2 (.dT [])
      have ed4 := (s3.trans s4) _ _ eD
      have e24 : upd H3 d2 (.dT []) d2 = some (.dT []) := upd_same
      have ndd : d ≠ d2 := fun z => by rw [← z] at hd2; rw [s3 _ _ eD] at hd2; cases hd2
      have s24 := s3.trans s4
      have hd20 : H2 d2 = none := s3.free hd2
      generalize upd H3 d2 (.dT []) = H4 at s24 ed4 e24 ⊢
      clear s3 s4
      refine ⟨_, rfl, d, kvs, rfl, ed4, fun p5 ts5 hp5 ets5 hts5 => ?_⟩
      obtain ⟨us, w1, w2, w3⟩ := sh.tab.refs ets5 hts5
      have s5 := same_new hp5 (.lst ((ts5.map (·.1)).map V.ref))
      have ep5 : upd H4 p5 (.lst ((ts5.map (·.1)).map V.ref)) p5 = some (.lst ((us.map (·.1)).map V.ref)) := by rw [upd_same, w1]
      generalize upd H4 p5 (.lst ((ts5.map (·.1)).map V.ref)) = H5 at s5 ep5 ⊢
      refine ⟨p5, us, rfl, SqL.of ep5, fun t ht => s5 _ _ (w3 t ht), fun p6 us6 hp6 pm pw => ?_⟩
      have s6 := same_new hp6 (.lst ((us6.map (·.1)).map V.ref))
      have ep6 : upd H5 p6 (.lst ((us6.map (·.1)).map V.ref)) p6 = some (.lst ((us6.map (·.1)).map V.ref)) := upd_same
      generalize upd H5 p6 (.lst ((us6.map (·.1)).map V.ref)) = H6 at s6 ep6 ⊢
      have s46 := s5.trans s6
      have eu6 : ∀ u ∈ us6, H6 u.1 = some (.tup (u.2.map V.int)) := fun u hu => s46 _ _ (w3 u (pm.mem_iff.mp hu))
      have mu6 : ∀ k, k ∈ ks ↔ ∃ u ∈ us6, u.2 = k := fun k => by
        rw [← w2, List.mem_map]
        exact ⟨fun ⟨u, h1, h2⟩ => ⟨u, pm.mem_iff.mpr h1, h2⟩, fun ⟨u, h1, h2⟩ => ⟨u, pm.mem_iff.mp h1, h2⟩⟩
      have lu : us6.length ≤ 9000 := by
        have z := congrArg List.length w2
        rw [List.length_map] at z
        rw [pm.length_eq, z]
        omega
      have e26 := s46 _ _ e24
      have ed6 := s46 _ _ ed4
      have s26 := s24.trans s46
      clear w1 w2 w3 pm ep5 s5 s6 hp5 hp6 ets5 hts5
      refine ⟨p6, rfl, .inl ⟨⟨_, SqL.of ep6⟩, for_list (K := K) (a := p6) (xs := (us6.map (·.1)).map V.ref) (fun i σ H' => (∀ b o, H6 b = some o → b ≠ d2 → H' b = some o) ∧ (∃ kvs2 ks2, H' d2 = some (.dT kvs2) ∧ Shows H' gs kvs2 ks2 ∧ ks2.length ≤ i ∧ ks2.Sublist ((us6.take i).map (·.2)) ∧ ∀ k, k ∈ ks2 ↔ ∃ j u, j < i ∧ us6[j]? = some u ∧ u.2 = k ∧ (k.length : Int) = M) ∧ ∃ u5 : Option V, σ = [some (.ref l), some (.ref d), u2, some (.int M), some (.ref d2), u5])
        ⟨fun b o e _ => e, ⟨[], [], e26, ⟨.nil, (fun k hk => nomatch hk)⟩, Nat.le_refl _, List.nil_sublist _, fun k => ⟨(fun h => nomatch h), fun ⟨j, u, h, _⟩ => absurd h (Nat.not_lt_zero _)⟩⟩, _, rfl⟩ (fun i σ H' _ ⟨e, _⟩ => SqL.of (e _ _ ep6 (ne_of ep6 e26 (by intro z; cases z)))) ?_ ?_⟩⟩
      · rintro i v σ H7 hi ⟨kp, ⟨kvs2, ks2, eD7, sh2, hk2, sub2, mem2⟩, u5, rfl⟩
        rw [List.getElem?_map, List.getElem?_map] at hi
        cases gx : us6[i]? with
        | none => rw [gx] at hi; cases hi
        | some x =>
          rw [gx] at hi
          cases hi
          have hx := eu6 x (List.mem_of_getElem? gx)
          have ex7 := kp _ _ hx (ne_of hx e26 (by intro z; cases z))
          have ed7 := kp _ _ ed6 ndd
          have hi2 : i < us6.length := (List.getElem?_eq_some_iff.mp gx).1
          have xk : x.2 ∈ ks := (mu6 x.2).mpr ⟨x, List.mem_of_getElem? gx, rfl⟩
          refine ⟨_, rfl, x.1, _, rfl, .inr (SqT.of ex7), _, rfl, rfl, _, rfl, ?_⟩
          rw [List.length_map]
          refine ifE (fun he => ?_) (fun he => ?_)
          · obtain ⟨sp, v1, v2, v3, v4⟩ := sh.spot x.2 xk
            have hsp := v2 sp (.head _)
            have esp6 := s26 _ _ hsp.1
            have esp7 := kp _ _ esp6 (ne_of esp6 e26 (by intro z; cases z))
            have kl := sh2.tab.len
            refine ⟨_, rfl, _, rfl, d, .ref sp.1, rfl, by rw [← v1]; exact DGet.t (k := keyI x.2) ed7 (by rw [keyI_kV]; exact ex7), ?_⟩
            refine ⟨_, rfl, _, rfl, d2, _, rfl, DPut.t (k := keyI x.2) eD7 (by rw [keyI_kV]; exact ex7) (by rw [kl]; exact big9000 (by omega)), ?_⟩
            have keepT : ∀ (b : Addr) (xs : List V), H7 b = some (.tup xs) → upd H7 d2 (.dT (putK kvs2 (keyI x.2) (.ref sp.1))) b = some (.tup xs) := fun b xs e => by
              rw [upd_ne (ne_of e eD7 (by intro z; cases z))]
              exact e
            obtain ⟨ks', sh', mem', len'⟩ := sh2.put (H' := upd H7 d2 (.dT (putK kvs2 (keyI x.2) (.ref sp.1)))) (x := sp) (fun u hu => by rw [List.mem_singleton] at hu; subst hu; exact ⟨keepT _ _ esp7, hsp.2⟩) v4 keepT
            rw [← v3] at sh' mem'
            refine ⟨fun b o e n => by rw [upd_ne n]; exact kp b o e n, ⟨_, ks', upd_same, sh', by omega, ?_, fun k => ?_⟩, _, rfl⟩
            · rw [take_snoc gx, List.map_append]
              rcases TabK.put_or sh2.tab sh'.tab with e | e
              · rw [e]; exact sub2.trans (List.sublist_append_left _ _)
              · rw [e]; exact List.Sublist.append sub2 (List.Sublist.refl _)
            rw [mem' k, mem2 k]
            refine ⟨fun z => ?_, fun ⟨j, u, h1, h2, h3, h4⟩ => ?_⟩
            · rcases z with ⟨j, u, h1, h2⟩ | z
              · exact ⟨j, u, by omega, h2⟩
              · exact ⟨i, x, Nat.lt_succ_self _, gx, z.symm, by rw [z]; exact he⟩
            · by_cases e : j = i
              · rw [e, gx] at h2
                cases h2
                exact .inr h3.symm
              · exact .inl ⟨j, u, by omega, h2, h3, h4⟩
          · refine ⟨kp, ⟨kvs2, ks2, eD7, sh2, by omega, by rw [take_snoc gx, List.map_append]; exact sub2.trans (List.sublist_append_left _ _), fun k => ?_⟩, _, rfl⟩
            rw [mem2 k]
            refine ⟨fun ⟨j, u, h1, h2⟩ => ⟨j, u, by omega, h2⟩, fun ⟨j, u, h1, h2, h3, h4⟩ => ?_⟩
            by_cases e : j = i
            · rw [e, gx] at h2
              cases h2
              rw [h3] at he
              exact absurd h4 he
            · exact ⟨j, u, by omega, h2, h3, h4⟩
      · rintro σ H7 ⟨kp, ⟨kvs2, ks2, eD7, sh2, hk2, sub2, mem2⟩, u5, rfl⟩
        refine ⟨_, rfl, ?_⟩
        have n02 : H d2 = none := s02.free hd20
        have same7 : Same H H7 := fun b o e => kp _ _ (s26 _ _ (s02 _ _ e)) fun z => by rw [z, n02] at e; cases e
        have lu6 : ((us6.map (·.1)).map V.ref).length = us6.length := by simp
        rw [lu6] at mem2
        have in2 : ∀ k, k ∈ ks2 ↔ k ∈ ks ∧ (k.length : Int) = M := fun k => by
          rw [mem2, mu6]
          refine ⟨fun ⟨j, u, h1, h2, h3, h4⟩ => ⟨⟨u, List.mem_of_getElem? h2, h3⟩, h4⟩, fun ⟨⟨u, h1, h2⟩, h3⟩ => ?_⟩
          obtain ⟨j, hj, ej⟩ := List.getElem_of_mem h1
          exact ⟨j, u, hj, by rw [List.getElem?_eq_getElem hj, ej], h2, h3⟩
        refine q d2 kvs2 ks2 H7 same7 n02 eD7 sh2 ⟨fun z => ?_, fun k hk P hP => ?_, fun P hP hall => ?_⟩ ?_ ?_
        · have := (in2 k0).mpr ⟨mk0, ek0⟩
          rw [z] at this
          cases this
        · have z1 := ((in2 k).mp hk).2
          have z2 := m3 _ (all P hP)
          omega
        · refine (in2 _).mpr ⟨all P hP, ?_⟩
          have z1 := hall k0 ((in2 k0).mpr ⟨mk0, ek0⟩)
          have z2 := m3 _ (all P hP)
          omega
        · rw [lu6, List.take_length] at sub2
          refine List.Pairwise.sublist sub2 ?_
          rw [List.pairwise_map]
          exact pw
        · rw [lu6] at hk2
          exact Nat.le_trans hk2 lu
def sp_p_choices (K : PySem.W.Frag) : Sp := fun vs H Q _ => ∃ (l : Addr) (gs : List Grp), vs = [.ref l] ∧ SqL K H l (grefs gs) ∧ GrL H gs ∧ gs.length ≤ 24 ∧ (∀ g ∈ gs, g.2.length ≤ 2) ∧
  ∀ (D : Addr) (fs : List (Addr × List Int)) (H' : Hp), Same H H' → H D = none → H' D = some (.lst ((fs.map (·.1)).map V.ref)) → (∀ t ∈ fs, H' t.1 = some (.lst (t.2.map V.int)) ∧ H t.1 = none ∧ t.1 ≠ D) → (∀ k ∈ fs.map (·.2), ∃ P, Tried (sidesOf gs) P ∧ k = db (gs.map (·.2)) P) → Least gs (fs.map (·.2)) → (fs.map (·.2)).Nodup → (fs.map (·.2)).Pairwise (fun a b => HT.lexLt b a = false) → fs.length ≤ 9000 → Q (.ref D) H'
theorem ok_p_choices (F : Fun K "choices" "choices" s_p_choices f fd) (Z : Zs mg) (h_p_least_doubts : Has P w K mg base "least_doubts" 7 ["groups"] (sp_p_least_doubts K)) : FnOk P w K mg base CX0 8 f fd ["groups"] (sp_p_choices K) := by
  refine F.ok sc_p_choices (fun vs H Q E h => ?_) (fun cdv A outer s H vs Q E hr h => ?_)
  · obtain ⟨l, gs, rfl, _⟩ := h
    rfl
  obtain ⟨l, gs, rfl, hl, ok, hn, h2, q⟩ := h
  refine ⟨_, (pss_one (ps_ret (pe_compD (T := ["choice"]) (caps := []) ⟨rfl, by decide +kernel, by decide +kernel, rfl, True.intro⟩ rfl (pe_callH h_p_least_doubts (hr.mono (by decide)) rfl (pa_cons (pv 0) pa_nil)) (fun _ => (pg_name (i := 0) (show (["choice"] : List Str).Nodup by decide +kernel) rfl (Or.inl rfl))) (fun _ => pifs_nil) (fun _ => (pe_callTy call_list_of rfl Z.list bt_list (pa_cons (pv 0) pa_nil)))))), ?_⟩
  refine ⟨_, rfl, l, gs, rfl, hl, ok, hn, h2, fun d kvs ks H1 s1 hd ed sh le pw lk => ?_⟩
  refine ⟨d, kvs, rfl, ed, fun ts ets hts cc D hD => ?_⟩
  obtain ⟨us, w1, w2, w3⟩ := sh.tab.refs ets hts
  have lt : ts.length = us.length := by have z := congrArg List.length w1; rw [List.length_map, List.length_map] at z; exact z.symm
  have lu : us.length = ks.length := by have z := congrArg List.length w2; rwa [List.length_map] at z
  have nDd : D ≠ d := fun z => by rw [z, ed] at hD; cases hD
  have hD' : hideH H1 d D = none := hide_none hD
  refine comp_keys0 (fun i σ ys H' => (∃ rs : List (Addr × List Int), ys = (rs.map (·.1)).map V.ref ∧ Rws (hideH H1 d) D rs H' ∧ rs.map (·.2) = ks.take i) ∧ ∃ u : Option V, σ = [u])
    ⟨⟨[], rfl, ⟨same_new hD' _, hD', upd_same, (fun t ht => nomatch ht)⟩, rfl⟩, none, rfl⟩ (fun i σ ys H' ⟨⟨rs, e, R, _⟩, _⟩ => by rw [e]; exact R.at') ?_ ?_
  · rintro i t σ ys H' gt ⟨⟨rs, rfl, R, em⟩, u, rfl⟩
    have hi : i < ts.length := (List.getElem?_eq_some_iff.mp gt).1
    have gu : us[i]? = some us[i] := List.getElem?_eq_getElem (by omega)
    have e1 : us[i].1 = t.1 := by
      have z := congrArg (fun l : List Addr => l[i]?) w1
      simp only [List.getElem?_map, gu, gt, Option.map_some] at z
      exact Option.some.inj z
    have ek : ks[i]? = some us[i].2 := by rw [← w2, List.getElem?_map, gu]; rfl
    have et := w3 us[i] (List.getElem_mem _)
    rw [e1] at et
    have ntd : t.1 ≠ d := ne_of et ed (by intro z; cases z)
    have et' := R.same _ _ ((hide_ne ntd).trans et)
    have lr : rs.length = i := by have z := congrArg List.length em; rw [List.length_map, List.length_take] at z; omega
    refine ⟨_, rfl, t.1, _, rfl, .inr (SqT.of et'), fun c hc => ?_⟩
    have sc := same_new hc (.lst (us[i].2.map V.int))
    refine ⟨sc _ _ R.at', big9000 (by simp only [List.length_map]; omega), ⟨_, by simp, R.app sc hc upd_same, ?_⟩, _, rfl⟩
    rw [List.map_append, em, take_snoc ek]
    rfl
  · rintro σ ys H' ⟨⟨rs, rfl, R, em⟩, u, rfl⟩ hn'
    rw [lt, lu, List.take_length] at em
    have nk : ∀ {b : Addr} {o : HO}, H' b = some o → upd H' d (.dT kvs) b = some o := fun {b o} e => by
      rw [upd_ne fun z => by rw [z, hn'] at e; cases e]
      exact e
    have sB : Same H1 (upd H' d (.dT kvs)) := fun b o e => by
      by_cases c : b = d
      · subst c
        rw [ed] at e
        cases e
        exact upd_same
      · exact nk (R.same _ _ ((hide_ne c).trans e))
    refine q D rs _ (s1.trans sB) (s1.free hD) (nk R.at') (fun t ht => ?_) (fun k hk => ?_) (by rw [em]; exact le) (by rw [em]; exact sh.tab.nodup) (by rw [em]; exact pw) ?_
    · obtain ⟨r1, r2, r3⟩ := R.rows t ht
      have r4 := nk r1
      refine ⟨r4, ?_, r3⟩
      have ntd : t.1 ≠ d := fun z => by rw [z, hn'] at r1; cases r1
      rw [hide_ne ntd] at r2
      exact s1.free r2
    · rw [em] at hk
      obtain ⟨sp, _, _, e1, e2⟩ := sh.spot k hk
      exact ⟨_, e2, e1⟩
    · have z := congrArg List.length em
      rw [List.length_map] at z
      omega
def sp_L_power (_ : PySem.W.Frag) : Sp := fun vs H Q _ => ∃ (n : Int), vs = [.int n] ∧ ∀ v : Int, 0 ≤ v → v < 1000003 → Q (.int v) H
theorem ok_L_power (F : Fun K "_law_power" "_law_power" s_L_power f fd) (Z : Zs mg) : FnOk P w K mg base CX0 1 f fd ["_law_number"] (sp_L_power K) := by
  refine F.ok sc_L_power (fun vs H Q E h => ?_) (fun cdv A outer s H vs Q E hr h => ?_)
  · obtain ⟨n, rfl, _⟩ := h
    rfl
  obtain ⟨n, rfl, q⟩ := h
  refine ⟨_, (pss_one (ps_ret (pe_op op_mod (pe_op op_pow (pe_op op_mod (pv 0) pe_int) pe_int) pe_int))), ?_⟩
  have h1 := Int.emod_nonneg n (show (1000003 : Int) ≠ 0 by decide)
  have h2 := Int.emod_lt_of_pos n (show (0 : Int) < 1000003 by decide)
  refine ⟨_, rfl, _, _, rfl, rfl, (by show (0 : Int) < 1000003; decide), _, _, rfl, rfl, ⟨by decide, by decide, by omega⟩, _, _, rfl, rfl, (by show (0 : Int) < 1000003; decide), ?_⟩
  exact q _ (Int.emod_nonneg _ (by decide)) (Int.emod_lt_of_pos _ (by decide))
def sp_L_draws (K : PySem.W.Frag) : Sp := fun vs H Q _ => ∃ (a : Addr) (ns : List Int) (many : Int), vs = [.ref a, .int many] ∧ SqL K H a (ns.map V.int) ∧ ns.length ≤ 63 ∧ 0 ≤ many ∧ many ≤ 500 ∧
  ∀ (r : Addr) (rows : List Int) (H' : Hp), Same H H' → H r = none → H' r = some (.lst (rows.map V.int)) → many ≤ rows.length → rows.length ≤ 600 → (∀ x ∈ rows, 0 ≤ x ∧ x < 1000003) → Q (.ref r) H'
structure DrawSt (H : Hp) (r c : Addr) (ms : List Int) (H' : Hp) (rows : List Int) : Prop where
  same : Same H H'
  src : H' c = some (.lst (ms.map V.int))
  at' : H' r = some (.lst (rows.map V.int))
  bd : ∀ x ∈ rows, 0 ≤ x ∧ x < 1000003
theorem DrawSt.app {H H' : Hp} {r c : Addr} {ms rows : List Int} {v : Int} (d : DrawSt H r c ms H' rows) (hr : H r = none) (hrc : c ≠ r) (h0 : 0 ≤ v) (h1 : v < 1000003) : DrawSt H r c ms (upd H' r (.lst (rows.map V.int ++ [.int v]))) (rows ++ [v]) := by
  refine ⟨fun b o e => ?_, ?_, ?_, fun x hx => ?_⟩
  · rw [upd_ne (ne_of_none e hr)]
    exact d.same b o e
  · rw [upd_ne hrc]
    exact d.src
  · rw [upd_same, List.map_append]
    rfl
  · rcases List.mem_append.mp hx with e | e
    · exact d.bd x e
    · rw [List.mem_singleton] at e
      rw [e]
      exact ⟨h0, h1⟩
theorem ok_L_draws (F : Fun K "_law_draws" "_law_draws" s_L_draws f fd) (Z : Zs mg) (h_L_power : Has P w K mg base "_law_power" 1 ["_law_number"] (sp_L_power K)) : FnOk P w K mg base CX0 2 f fd ["_law_script", "_law_many"] (sp_L_draws K) := by
  refine F.ok sc_L_draws (fun vs H Q E h => ?_) (fun cdv A outer s H vs Q E hr h => ?_)
  · obtain ⟨a, ns, many, rfl, _⟩ := h
    rfl
  obtain ⟨a, ns, many, rfl, hS, hl, hm0, hm1, q⟩ := h
  refine ⟨_, (pss_cons (ps_set (i := 2) sc_L_draws.nd rfl (Or.inl rfl) (pe_lst pa_nil))
      (pss_cons (ps_set (i := 3) sc_L_draws.nd rfl (Or.inl rfl) pe_int)
      (pss_cons (ps_for PassesOwn.never rfl (pi_list (pe_slice sl_list (pv 0) po_none (po_some pe_int))) (pg_name (i := 4) sc_L_draws.nd rfl (Or.inl rfl)) (pss_cons (ps_set (i := 3) sc_L_draws.nd rfl (Or.inl rfl) (pe_op op_mod (pe_op op_add (pe_op op_mul (pv 3) pe_int) (pv 4)) pe_int))
      (pss_cons (ps_set (i := 5) sc_L_draws.nd rfl (Or.inl rfl) (pe_callB call_abs rfl Z.abs bt_abs (pa_cons (pv 4) pa_nil)))
      (pss_cons (ps_if (pt_cmpR op_lt (pv 5) (pe_op op_pow pe_int pe_int) (nomark _)) (pss_cons (ps_expr (pe_bm PySem.F.plainAttrs_list PySem.F.slot_list_append PySem.F.type_list_append mt_append (pv 2) (pa_cons (pe_callH h_L_power (hr.mono (by decide)) rfl (pa_cons (pe_op op_add (pv 4) (pe_op op_mul pe_int (pe_callB call_len_seq rfl Z.len bt_len (pa_cons (pv 2) pa_nil)))) pa_nil)) pa_nil)))
      (pss_one (ps_set (i := 5) sc_L_draws.nd rfl (Or.inl rfl) pe_int))) pss_nil)
      (pss_one (ps_while PassesOwn.never (PW.pt (pw_and (pt_cmpR op_gt (pv 5) pe_int (nomark _)) (pw_and1 (pt_cmpR op_lt (pe_callB call_len_seq rfl Z.len bt_len (pa_cons (pv 2) pa_nil)) (pv 1) (nomark _))))) (pss_cons (ps_expr (pe_bm PySem.F.plainAttrs_list PySem.F.slot_list_append PySem.F.type_list_append mt_append (pv 2) (pa_cons (pe_op op_mod (pv 5) pe_int) pa_nil)))
      (pss_one (ps_set (i := 5) sc_L_draws.nd rfl (Or.inl rfl) (pe_op op_fdivP (pv 5) pe_int))))))))))
      (pss_cons (ps_while PassesOwn.never (pt_cmpR op_lt (pe_callB call_len_seq rfl Z.len bt_len (pa_cons (pv 2) pa_nil)) (pv 1) (nomark _)) (pss_cons (ps_set (i := 3) sc_L_draws.nd rfl (Or.inl rfl) (pe_op op_mod (pe_op op_add (pe_op op_mul (pv 3) pe_int) pe_int) pe_int))
      (pss_one (ps_expr (pe_bm PySem.F.plainAttrs_list PySem.F.slot_list_append PySem.F.type_list_append mt_append (pv 2) (pa_cons (pe_callH h_L_power (hr.mono (by decide)) rfl (pa_cons (pv 3) pa_nil)) pa_nil))))))
      (pss_one (ps_ret (pv 2))))))), ?_⟩
  refine ⟨(by show 0 ≤ sizeLine; decide), fun r hr0 => ?_⟩
  have S1 := same_new hr0 (.lst [])
  refine ⟨_, rfl, _, rfl, a, _, rfl, S1.seq hS, fun c hc => ⟨c, rfl, ⟨_, SqL.of upd_same⟩, ?_⟩⟩
  rw [cutV_ints]
  generalize hms : ((ns.drop (HT.sIx ns.length 0 none)).take (HT.sIx ns.length ns.length (some 63) - HT.sIx ns.length 0 none)) = ms
  have hml : ms.length ≤ 63 := by
    rw [← hms, List.length_take, List.length_drop]
    omega
  have hcr : c ≠ r := fun e => by
    rw [e, upd_same] at hc
    cases hc
  have hc0 : H c = none := S1.free hc
  refine for_list (K := K) (a := c) (xs := ms.map V.int) (fun i σ H' => ∃ (rows : List Int) (mix : Int) (u v : Option V), σ = [some (.ref a), some (.int many), some (.ref r), some (.int mix), u, v] ∧ DrawSt H r c ms H' rows ∧ 0 ≤ mix ∧ mix < 2147483647 ∧ rows.length ≤ many.toNat + i)
    ⟨[], 7, none, none, rfl, ⟨S1.trans (same_new hc _), upd_same, by rw [upd_ne (Ne.symm hcr), upd_same]; rfl, fun x hx => nomatch hx⟩, by decide, by decide, Nat.zero_le _⟩ (fun i σ H' _ ⟨_, _, _, _, _, d, _⟩ => SqL.of d.src) ?_ ?_
  · rintro i x σ H' hi ⟨rows, mix, u, v, rfl, d, hx0, hx1, hrl⟩
    obtain ⟨n, hn, rfl⟩ := mapInt_get hi
    have hi63 : i < 63 := Nat.lt_of_lt_of_le (List.getElem?_eq_some_iff.mp hn).1 hml
    refine ⟨_, rfl, _, _, rfl, rfl, .inr ⟨by decide, by decide⟩, _, rfl, _, _, rfl, rfl, _, _, rfl, rfl, (by show (0 : Int) < 2147483647; decide), ?_⟩
    have m0 := Int.emod_nonneg (mix * 48271 + n) (show (2147483647 : Int) ≠ 0 by decide)
    have m1 := Int.emod_lt_of_pos (mix * 48271 + n) (show (0 : Int) < 2147483647 by decide)
    refine ⟨_, rfl, n, rfl, ?_⟩
    have a0 : 0 ≤ (if n < 0 then -n else n) := by split <;> omega
    generalize (if n < 0 then -n else n) = rest at a0 ⊢
    refine ⟨_, rfl, _, _, rfl, rfl, ⟨by decide, by decide, by decide⟩, _, _, rfl, rfl, _, rfl, ?_⟩
    refine ifD (fun hsm => ?_) (fun hsm => ?_)
    · refine ⟨_, rfl, .inl ⟨rfl, _, SqL.of d.at'⟩, _, rfl, _, rfl, r, _, rfl, .inl (SqL.of d.at'), _, _, rfl, rfl, .inl ⟨by decide, by decide⟩, _, _, rfl, rfl, _, rfl, fun v v0 v1 => ?_⟩
      refine ⟨r, _, _, rfl, rfl, d.at', small1000 (by rw [List.length_map]; omega), ?_⟩
      have j0 : (0 : Int) ≤ 0 := Int.le_refl 0
      have j1 := d.app hr0 hcr v0 v1
      have j2 : (rows ++ [v]).length ≤ many.toNat + (i + 1) := by rw [List.length_append, List.length_singleton]; omega
      refine while_by (fun σ H2 => ∃ (rows : List Int) (rest : Int), σ = [some (.ref a), some (.int many), some (.ref r), some (.int ((mix * 48271 + n) % 2147483647)), some (.int n), some (.int rest)] ∧ 0 ≤ rest ∧ DrawSt H r c ms H2 rows ∧ rows.length ≤ many.toNat + (i + 1))
        (fun σ _ => match σ with | [_, _, _, _, _, some (.int z)] => z.toNat | _ => 0) ⟨_, _, rfl, j0, j1, j2⟩ ?_ (mo_and (mo_test (mo_op mo_i0 mo_var mo_c)) (mo_test (mo_op mo_i0 (mo_cb mo_len (mo_cons mo_var mo_nil)) mo_var)))
      rintro σ H2 ⟨rows, rest, rfl, r0, d2, l2⟩
      refine ⟨_, rfl, _, _, rfl, rfl, _, rfl, ?_⟩
      refine ifD (fun hpos => ?_) (fun hpos => ?_)
      · refine ⟨_, rfl, r, _, rfl, .inl (SqL.of d2.at'), _, rfl, _, _, rfl, rfl, _, rfl, ?_⟩
        refine ifD (fun hlt => ?_) (fun hlt => ?_)
        · have hlt' : ((rows.map V.int).length : Int) < many := hlt
          rw [List.length_map] at hlt'
          refine ⟨_, rfl, .inl ⟨rfl, _, SqL.of d2.at'⟩, _, rfl, _, _, rfl, rfl, (by show (0 : Int) < 1000003; decide), r, _, _, rfl, rfl, d2.at', small1000 (by rw [List.length_map]; omega), ?_⟩
          have v0 := Int.emod_nonneg rest (show (1000003 : Int) ≠ 0 by decide)
          have v1 := Int.emod_lt_of_pos rest (show (0 : Int) < 1000003 by decide)
          refine ⟨_, rfl, _, _, rfl, rfl, CDivP.of (by decide) (by decide +kernel), ⟨rows ++ [rest % 1000003], _, rfl, by omega, d2.app hr0 hcr v0 v1, by rw [List.length_append, List.length_singleton]; omega⟩, ?_⟩
          show (rest / 1000003).toNat < rest.toNat
          omega
        · exact ⟨rows, _, _, _, rfl, d2, m0, m1, l2⟩
      · exact ⟨rows, _, _, _, rfl, d2, m0, m1, l2⟩
    · have j0 := a0
      have j1 := d
      have j2 : rows.length ≤ many.toNat + (i + 1) := by omega
      refine while_by (fun σ H2 => ∃ (rows : List Int) (rest : Int), σ = [some (.ref a), some (.int many), some (.ref r), some (.int ((mix * 48271 + n) % 2147483647)), some (.int n), some (.int rest)] ∧ 0 ≤ rest ∧ DrawSt H r c ms H2 rows ∧ rows.length ≤ many.toNat + (i + 1))
        (fun σ _ => match σ with | [_, _, _, _, _, some (.int z)] => z.toNat | _ => 0) ⟨_, _, rfl, j0, j1, j2⟩ ?_ (mo_and (mo_test (mo_op mo_i0 mo_var mo_c)) (mo_test (mo_op mo_i0 (mo_cb mo_len (mo_cons mo_var mo_nil)) mo_var)))
      rintro σ H2 ⟨rows, rest, rfl, r0, d2, l2⟩
      refine ⟨_, rfl, _, _, rfl, rfl, _, rfl, ?_⟩
      refine ifD (fun hpos => ?_) (fun hpos => ?_)
      · refine ⟨_, rfl, r, _, rfl, .inl (SqL.of d2.at'), _, rfl, _, _, rfl, rfl, _, rfl, ?_⟩
        refine ifD (fun hlt => ?_) (fun hlt => ?_)
        · have hlt' : ((rows.map V.int).length : Int) < many := hlt
          rw [List.length_map] at hlt'
          refine ⟨_, rfl, .inl ⟨rfl, _, SqL.of d2.at'⟩, _, rfl, _, _, rfl, rfl, (by show (0 : Int) < 1000003; decide), r, _, _, rfl, rfl, d2.at', small1000 (by rw [List.length_map]; omega), ?_⟩
          have v0 := Int.emod_nonneg rest (show (1000003 : Int) ≠ 0 by decide)
          have v1 := Int.emod_lt_of_pos rest (show (0 : Int) < 1000003 by decide)
          refine ⟨_, rfl, _, _, rfl, rfl, CDivP.of (by decide) (by decide +kernel), ⟨rows ++ [rest % 1000003], _, rfl, by omega, d2.app hr0 hcr v0 v1, by rw [List.length_append, List.length_singleton]; omega⟩, ?_⟩
          show (rest / 1000003).toNat < rest.toNat
          omega
        · exact ⟨rows, _, _, _, rfl, d2, m0, m1, l2⟩
      · exact ⟨rows, _, _, _, rfl, d2, m0, m1, l2⟩
  · rintro σ H' ⟨rows, mix, u, v, rfl, d, hx0, hx1, hrl⟩
    rw [List.length_map] at hrl
    refine while_by (fun σ H2 => ∃ (rows : List Int) (mix : Int), σ = [some (.ref a), some (.int many), some (.ref r), some (.int mix), u, v] ∧ DrawSt H r c ms H2 rows ∧ 0 ≤ mix ∧ mix < 2147483647 ∧ rows.length ≤ many.toNat + 63 ∧ H2 r = some (.lst (rows.map V.int)))
      (fun σ H2 => match H2 r with | some (.lst xs) => many.toNat - xs.length | _ => 0) ⟨rows, mix, rfl, d, hx0, hx1, by omega, d.at'⟩ ?_ (mo_test (mo_op mo_i0 (mo_cb mo_len (mo_cons mo_var mo_nil)) mo_var))
    rintro σ H2 ⟨rows, mix, rfl, d2, hx0, hx1, l2, ha2⟩
    refine ⟨_, rfl, r, _, rfl, .inl (SqL.of d2.at'), _, rfl, _, _, rfl, rfl, _, rfl, ?_⟩
    refine ifD (fun hlt => ?_) (fun hlt => ?_)
    · have hlt' : ((rows.map V.int).length : Int) < many := hlt
      rw [List.length_map] at hlt'
      refine ⟨_, rfl, _, _, rfl, rfl, .inr ⟨by decide, by decide⟩, _, _, rfl, rfl, _, _, rfl, rfl, (by show (0 : Int) < 2147483647; decide), ?_⟩
      have m0 := Int.emod_nonneg (mix * 48271 + 11) (show (2147483647 : Int) ≠ 0 by decide)
      have m1 := Int.emod_lt_of_pos (mix * 48271 + 11) (show (0 : Int) < 2147483647 by decide)
      refine ⟨_, rfl, .inl ⟨rfl, _, SqL.of d2.at'⟩, _, rfl, _, rfl, fun v v0 v1 => ?_⟩
      refine ⟨r, _, _, rfl, rfl, d2.at', small1000 (by rw [List.length_map]; omega), ⟨rows ++ [v], _, rfl, d2.app hr0 hcr v0 v1, m0, m1, by rw [List.length_append, List.length_singleton]; omega, (d2.app hr0 hcr v0 v1).at'⟩, ?_⟩
      rw [ha2, upd_same]
      show many.toNat - (rows.map V.int ++ [V.int v]).length < many.toNat - (rows.map V.int).length
      rw [List.length_append, List.length_map, List.length_singleton]
      omega
    · have hlt' : ¬ ((rows.map V.int).length : Int) < many := hlt
      rw [List.length_map] at hlt'
      exact ⟨_, rfl, q r rows H2 d2.same hr0 d2.at' (by omega) (by omega) d2.bd⟩
def sp_L_way (_ : PySem.W.Frag) : Sp := fun vs H Q _ => ∃ (o t wd : Int), vs = [.int o, .int t, .int wd] ∧ 1 ≤ wd ∧ wd ≤ 1000000 ∧
  ∀ (p : Addr) (x y : Int) (H' : Hp), Same H H' → H p = none → H' p = some (.tup [.int x, .int y]) → (x ≠ 0 ∨ y ≠ 0) → x.natAbs ≤ wd.natAbs → y.natAbs ≤ wd.natAbs → Q (.ref p) H'
theorem ok_L_way (F : Fun K "_law_way" "_law_way" s_L_way f fd) (Z : Zs mg)  : FnOk P w K mg base CX0 1 f fd ["_law_one", "_law_two", "_law_wide"] (sp_L_way K) := by
  refine F.ok sc_L_way (fun vs H Q E h => ?_) (fun cdv A outer s H vs Q E hr h => ?_)
  · obtain ⟨o, t, wd, rfl, _⟩ := h
    rfl
  obtain ⟨o, t, wd, rfl, w1, w2, q⟩ := h
  refine ⟨_, (pss_cons (ps_set (i := 3) sc_L_way.nd rfl (Or.inl rfl) (pe_op op_sub (pe_op op_mod (pv 0) (pe_op op_add (pe_op op_mul pe_int (pv 2)) pe_int)) (pv 2)))
      (pss_cons (ps_set (i := 4) sc_L_way.nd rfl (Or.inl rfl) (pe_op op_sub (pe_op op_mod (pv 1) (pe_op op_add (pe_op op_mul pe_int (pv 2)) pe_int)) (pv 2)))
      (pss_cons (ps_if (PW.pt (pw_and (pt_cmpR op_eq (pv 3) pe_int (nomark _)) (pw_and1 (pt_cmpR op_eq (pv 4) pe_int (nomark _))))) (pss_one (ps_set (i := 3) sc_L_way.nd rfl (Or.inl rfl) (pe_op op_sub pe_int (pe_op op_mul pe_int (pe_op op_mod (pv 0) pe_int))))) pss_nil)
      (pss_one (ps_ret (pe_tup (pa_cons (pv 3) (pa_cons (pv 4) pa_nil)))))))), ?_⟩
  have x0 := Int.emod_nonneg o (show 2 * wd + 1 ≠ 0 by omega)
  have x1 := Int.emod_lt_of_pos o (show 0 < 2 * wd + 1 by omega)
  have y0 := Int.emod_nonneg t (show 2 * wd + 1 ≠ 0 by omega)
  have y1 := Int.emod_lt_of_pos t (show 0 < 2 * wd + 1 by omega)
  refine ⟨_, rfl, _, rfl, _, _, rfl, rfl, .inl ⟨by decide, by decide⟩, _, _, rfl, rfl, _, _, rfl, rfl, (by show 0 < 2 * wd + 1; omega), _, rfl, _, _, rfl, rfl, ?_⟩
  refine ⟨_, rfl, _, rfl, _, _, rfl, rfl, .inl ⟨by decide, by decide⟩, _, _, rfl, rfl, _, _, rfl, rfl, (by show 0 < 2 * wd + 1; omega), _, rfl, _, _, rfl, rfl, ?_⟩
  refine ⟨_, rfl, rfl, _, rfl, ?_⟩
  refine ifE (fun hx => ?_) (fun hx => ?_)
  · refine ⟨_, rfl, rfl, _, rfl, ?_⟩
    refine ifE (fun hy => ?_) (fun hy => ?_)
    · refine ⟨_, rfl, _, _, rfl, rfl, (by show (0 : Int) < 2; decide), _, _, rfl, rfl, .inl ⟨by decide, by decide⟩, _, _, rfl, rfl, ?_⟩
      refine ⟨_, rfl, _, rfl, (by show 2 ≤ sizeLine; decide), fun p hp => ?_⟩
      exact q p _ _ _ (same_new hp _) hp upd_same (by left; omega) (by omega) (by omega)
    · refine ⟨_, rfl, _, rfl, (by show 2 ≤ sizeLine; decide), fun p hp => ?_⟩
      exact q p _ _ _ (same_new hp _) hp upd_same (.inr hy) (by omega) (by omega)
  · refine iteF ?_
    refine ⟨_, rfl, _, rfl, (by show 2 ≤ sizeLine; decide), fun p hp => ?_⟩
    exact q p _ _ _ (same_new hp _) hp upd_same (.inl hx) (by omega) (by omega)
theorem side_big {x y C v0 v1 v3 : Int} (hn : x ≠ 0 ∨ y ≠ 0) (mx : x.natAbs ≤ 2000) (my : y.natAbs ≤ 2000) (mc : C.natAbs ≤ 1000000) : (997 * x + v0 % 5 - 2 ≠ 0 ∨ 997 * y + v1 % 5 - 2 ≠ 0) ∧ (997 * x + v0 % 5 - 2).natAbs ≤ 10 ^ 7 ∧ (997 * y + v1 % 5 - 2).natAbs ≤ 10 ^ 7 ∧ (997 * C + v3 % 900).natAbs ≤ 10 ^ 10 :=
  ⟨by clear mx my mc; omega, by clear my mc hn; omega, by clear mx mc hn; omega, by clear mx my hn; omega⟩
def sp_L_side (K : PySem.W.Frag) : Sp := fun vs H Q _ => ∃ (a : Addr) (rows : List Int), vs = [.ref a] ∧ SqL K H a (rows.map V.int) ∧ 5 ≤ rows.length ∧ (∀ x ∈ rows, 0 ≤ x ∧ x < 1000003) ∧
  ∀ (p : Addr) (A B C : Int) (H' : Hp), Same H H' → H p = none → H' p = some (.tup [.int A, .int B, .int C]) → (A ≠ 0 ∨ B ≠ 0) → A.natAbs ≤ 10 ^ 7 → B.natAbs ≤ 10 ^ 7 → C.natAbs ≤ 10 ^ 10 → Q (.ref p) H'
theorem ok_L_side (F : Fun K "_law_side" "_law_side" s_L_side f fd) (Z : Zs mg) (h_L_way : Has P w K mg base "_law_way" 1 ["_law_one", "_law_two", "_law_wide"] (sp_L_way K)) : FnOk P w K mg base CX0 2 f fd ["_law_d"] (sp_L_side K) := by
  refine F.ok sc_L_side (fun vs H Q E h => ?_) (fun cdv A outer s H vs Q E hr h => ?_)
  · obtain ⟨a, rows, rfl, _⟩ := h
    rfl
  obtain ⟨a, rows, rfl, hS, hl, bd, q⟩ := h
  refine ⟨_, (pss_cons (ps_asg (pe_callH h_L_way (hr.mono (by decide)) rfl (pa_cons (pe_ix ix_any (pv 0) pe_int (fun _ _ => rfl)) (pa_cons (pe_ix ix_any (pv 0) pe_int (fun _ _ => rfl)) (pa_cons (pe_ix ix_any (pe_lst (pa_cons pe_int (pa_cons pe_int (pa_cons pe_int (pa_cons pe_int (pa_cons pe_int pa_nil)))))) (pe_op op_mod (pe_ix ix_any (pv 0) pe_int (fun _ _ => rfl)) pe_int) (fun _ _ => rfl)) pa_nil)))) (pg_tup rfl (pgs_cons (pg_name (i := 1) sc_L_side.nd rfl (Or.inl rfl)) (pgs_cons (pg_name (i := 2) sc_L_side.nd rfl (Or.inl rfl)) pgs_nil))))
      (pss_cons (ps_set (i := 3) sc_L_side.nd rfl (Or.inl rfl) (pe_op op_sub (pe_op op_mod (pe_ix ix_any (pv 0) pe_int (fun _ _ => rfl)) pe_int) pe_int))
      (pss_cons (ps_if (pt_cmpR op_eq (pe_op op_mod (pe_ix ix_any (pv 0) pe_int (fun _ _ => rfl)) pe_int) pe_int (nomark _)) (pss_one (ps_set (i := 3) sc_L_side.nd rfl (Or.inl rfl) (pe_op op_sub (pe_op op_mod (pe_ix ix_any (pv 0) pe_int (fun _ _ => rfl)) pe_int) pe_int))) pss_nil)
      (pss_cons (ps_if (pt_cmpR op_eq (pe_op op_mod (pe_ix ix_any (pv 0) pe_int (fun _ _ => rfl)) pe_int) pe_int (nomark _)) (pss_one (ps_set (i := 3) sc_L_side.nd rfl (Or.inl rfl) (pe_op op_add (pe_op op_mul (pv 1) (pe_op op_sub (pe_op op_mod (pe_ix ix_any (pv 0) pe_int (fun _ _ => rfl)) pe_int) pe_int)) (pe_op op_mul (pv 2) (pe_op op_sub (pe_op op_mod (pe_op op_fdivP (pe_ix ix_any (pv 0) pe_int (fun _ _ => rfl)) pe_int) pe_int) pe_int))))) pss_nil)
      (pss_cons (ps_if (pt_cmpR op_eq (pe_op op_mod (pe_op op_fdivP (pe_ix ix_any (pv 0) pe_int (fun _ _ => rfl)) pe_int) pe_int) pe_int (nomark _)) (pss_one (ps_ret (pe_tup (pa_cons (pe_op op_sub (pe_op op_add (pe_op op_mul pe_int (pv 1)) (pe_op op_mod (pe_ix ix_any (pv 0) pe_int (fun _ _ => rfl)) pe_int)) pe_int) (pa_cons (pe_op op_sub (pe_op op_add (pe_op op_mul pe_int (pv 2)) (pe_op op_mod (pe_ix ix_any (pv 0) pe_int (fun _ _ => rfl)) pe_int)) pe_int) (pa_cons (pe_op op_add (pe_op op_mul pe_int (pv 3)) (pe_op op_mod (pe_ix ix_any (pv 0) pe_int (fun _ _ => rfl)) pe_int)) pa_nil)))))) pss_nil)
      (pss_one (ps_ret (pe_tup (pa_cons (pv 1) (pa_cons (pv 2) (pa_cons (pv 3) pa_nil))))))))))), ?_⟩
  obtain ⟨v0, a0, b00, b01⟩ := row_at bd (k := 0) (by decide) (by omega)
  obtain ⟨v1, a1, b10, b11⟩ := row_at bd (k := 1) (by decide) (by omega)
  obtain ⟨v2, a2, b20, b21⟩ := row_at bd (k := 2) (by decide) (by omega)
  obtain ⟨v3, a3, b30, b31⟩ := row_at bd (k := 3) (by decide) (by omega)
  obtain ⟨v4, a4, b40, b41⟩ := row_at bd (k := 4) (by decide) (by omega)
  refine ⟨_, rfl, a, _, _, _, rfl, rfl, .inl hS, a0, _, rfl, a, _, _, _, rfl, rfl, .inl hS, a1, (by show 5 ≤ sizeLine; decide), fun c hc => ?_⟩
  have s1 := same_new hc (.lst [.int 3, .int 3, .int 3, .int 100, .int 2000])
  obtain ⟨wd, hw, hw1, hw2⟩ : ∃ b : Int, atI [V.int 3, V.int 3, V.int 3, V.int 100, V.int 2000] (v4 % 5) = some (.int b) ∧ 1 ≤ b ∧ b ≤ 2000 := by
    have c0 := Int.emod_nonneg v4 (show (5 : Int) ≠ 0 by decide)
    have c1 := Int.emod_lt_of_pos v4 (show (0 : Int) < 5 by decide)
    have cc : v4 % 5 = 0 ∨ v4 % 5 = 1 ∨ v4 % 5 = 2 ∨ v4 % 5 = 3 ∨ v4 % 5 = 4 := by omega
    rcases cc with e | e | e | e | e
    · exact ⟨3, by rw [e]; rfl, by decide, by decide⟩
    · exact ⟨3, by rw [e]; rfl, by decide, by decide⟩
    · exact ⟨3, by rw [e]; rfl, by decide, by decide⟩
    · exact ⟨100, by rw [e]; rfl, by decide, by decide⟩
    · exact ⟨2000, by rw [e]; rfl, by decide, by decide⟩
  refine ⟨_, rfl, a, _, _, _, rfl, rfl, .inl (s1.seq hS), a4, _, _, rfl, rfl, (by show (0 : Int) < 5; decide), c, _, _, .int wd, rfl, rfl, .inl (SqL.of upd_same), hw, v0, v1, wd, rfl, hw1, by omega, fun p x y H2 s2' hp e2 hn n1 n2 => ?_⟩
  have s2 := s1.trans s2'
  have mx : x.natAbs ≤ 2000 := by omega
  have my : y.natAbs ≤ 2000 := by omega
  refine ⟨p, [.int x, .int y], rfl, SqT.of e2, rfl, .int x, [.int y], rfl, .int y, [], rfl, rfl, ?_⟩
  refine ⟨_, rfl, a, _, _, _, rfl, rfl, .inl (s2.seq hS), a2, _, _, rfl, rfl, (by show (0 : Int) < 19; decide), _, _, rfl, rfl, ?_⟩
  refine ⟨_, rfl, a, _, _, _, rfl, rfl, .inl (s2.seq hS), a3, _, _, rfl, rfl, (by show (0 : Int) < 4; decide), rfl, _, rfl, ?_⟩
  refine ifE (fun _ => ?_) (fun _ => ?_)
  · refine ⟨_, rfl, a, _, _, _, rfl, rfl, .inl (s2.seq hS), a2, _, _, rfl, rfl, (by show (0 : Int) < 1000001; decide), _, _, rfl, rfl, ?_⟩
    refine ⟨_, rfl, a, _, _, _, rfl, rfl, .inl (s2.seq hS), a3, _, _, rfl, rfl, (by show (0 : Int) < 4; decide), rfl, _, rfl, ?_⟩
    refine ifE (fun _ => ?_) (fun _ => ?_)
    · refine ⟨_, rfl, _, rfl, a, _, _, _, rfl, rfl, .inl (s2.seq hS), a2, _, _, rfl, rfl, (by show (0 : Int) < 9; decide), _, _, rfl, rfl, _, _, rfl, rfl, cm_l (by omega),
        _, rfl, _, rfl, a, _, _, _, rfl, rfl, .inl (s2.seq hS), a2, _, _, rfl, rfl, CDivP.of (by decide) (by decide +kernel), _, _, rfl, rfl, (by show (0 : Int) < 9; decide), _, _, rfl, rfl, _, _, rfl, rfl, cm_l (by omega), _, _, rfl, rfl, ?_⟩
      have z1 := natAbs_mul_le x (v2 % 9 - 4) (m := 2000) (n := 4) mx (by omega)
      have z2 := natAbs_mul_le y (v2 / 9 % 9 - 4) (m := 2000) (n := 4) my (by omega)
      have mc : ((x * (v2 % 9 - 4) + y * (v2 / 9 % 9 - 4))).natAbs ≤ 1000000 := by omega
      refine ⟨_, rfl, a, _, _, _, rfl, rfl, .inl (s2.seq hS), a4, _, _, rfl, rfl, CDivP.of (by decide) (by decide +kernel), _, _, rfl, rfl, (by show (0 : Int) < 12; decide), rfl, _, rfl, ?_⟩
      refine ifE (fun _ => ?_) (fun _ => ?_)
      · refine ⟨_, rfl, _, _, rfl, rfl, .inl ⟨by decide, by decide⟩, _, rfl, a, _, _, _, rfl, rfl, .inl (s2.seq hS), a0, _, _, rfl, rfl, (by show (0 : Int) < 5; decide), _, _, rfl, rfl, _, _, rfl, rfl,
          _, rfl, _, _, rfl, rfl, .inl ⟨by decide, by decide⟩, _, rfl, a, _, _, _, rfl, rfl, .inl (s2.seq hS), a1, _, _, rfl, rfl, (by show (0 : Int) < 5; decide), _, _, rfl, rfl, _, _, rfl, rfl,
          _, rfl, _, _, rfl, rfl, .inl ⟨by decide, by decide⟩, _, rfl, a, _, _, _, rfl, rfl, .inl (s2.seq hS), a3, _, _, rfl, rfl, (by show (0 : Int) < 900; decide), _, _, rfl, rfl, (by show 3 ≤ sizeLine; decide), fun r hr0 => ?_⟩
        have sb := side_big (v0 := v0) (v1 := v1) (v3 := v3) hn mx my mc
        exact q r _ _ _ _ (s2.trans (same_new hr0 _)) (s2.free hr0) upd_same sb.1 sb.2.1 sb.2.2.1 sb.2.2.2
      · refine ⟨_, rfl, _, rfl, _, rfl, (by show 3 ≤ sizeLine; decide), fun r hr0 => ?_⟩
        exact q r _ _ _ _ (s2.trans (same_new hr0 _)) (s2.free hr0) upd_same hn (Nat.le_trans mx (by decide)) (Nat.le_trans my (by decide)) (Nat.le_trans mc (by decide))
    · skip
      have mc : ((v2 % 1000001 - 300000)).natAbs ≤ 1000000 := by omega
      refine ⟨_, rfl, a, _, _, _, rfl, rfl, .inl (s2.seq hS), a4, _, _, rfl, rfl, CDivP.of (by decide) (by decide +kernel), _, _, rfl, rfl, (by show (0 : Int) < 12; decide), rfl, _, rfl, ?_⟩
      refine ifE (fun _ => ?_) (fun _ => ?_)
      · refine ⟨_, rfl, _, _, rfl, rfl, .inl ⟨by decide, by decide⟩, _, rfl, a, _, _, _, rfl, rfl, .inl (s2.seq hS), a0, _, _, rfl, rfl, (by show (0 : Int) < 5; decide), _, _, rfl, rfl, _, _, rfl, rfl,
          _, rfl, _, _, rfl, rfl, .inl ⟨by decide, by decide⟩, _, rfl, a, _, _, _, rfl, rfl, .inl (s2.seq hS), a1, _, _, rfl, rfl, (by show (0 : Int) < 5; decide), _, _, rfl, rfl, _, _, rfl, rfl,
          _, rfl, _, _, rfl, rfl, .inl ⟨by decide, by decide⟩, _, rfl, a, _, _, _, rfl, rfl, .inl (s2.seq hS), a3, _, _, rfl, rfl, (by show (0 : Int) < 900; decide), _, _, rfl, rfl, (by show 3 ≤ sizeLine; decide), fun r hr0 => ?_⟩
        have sb := side_big (v0 := v0) (v1 := v1) (v3 := v3) hn mx my mc
        exact q r _ _ _ _ (s2.trans (same_new hr0 _)) (s2.free hr0) upd_same sb.1 sb.2.1 sb.2.2.1 sb.2.2.2
      · refine ⟨_, rfl, _, rfl, _, rfl, (by show 3 ≤ sizeLine; decide), fun r hr0 => ?_⟩
        exact q r _ _ _ _ (s2.trans (same_new hr0 _)) (s2.free hr0) upd_same hn (Nat.le_trans mx (by decide)) (Nat.le_trans my (by decide)) (Nat.le_trans mc (by decide))
  · skip
    refine ⟨_, rfl, a, _, _, _, rfl, rfl, .inl (s2.seq hS), a3, _, _, rfl, rfl, (by show (0 : Int) < 4; decide), rfl, _, rfl, ?_⟩
    refine ifE (fun _ => ?_) (fun _ => ?_)
    · refine ⟨_, rfl, _, rfl, a, _, _, _, rfl, rfl, .inl (s2.seq hS), a2, _, _, rfl, rfl, (by show (0 : Int) < 9; decide), _, _, rfl, rfl, _, _, rfl, rfl, cm_l (by omega),
        _, rfl, _, rfl, a, _, _, _, rfl, rfl, .inl (s2.seq hS), a2, _, _, rfl, rfl, CDivP.of (by decide) (by decide +kernel), _, _, rfl, rfl, (by show (0 : Int) < 9; decide), _, _, rfl, rfl, _, _, rfl, rfl, cm_l (by omega), _, _, rfl, rfl, ?_⟩
      have z1 := natAbs_mul_le x (v2 % 9 - 4) (m := 2000) (n := 4) mx (by omega)
      have z2 := natAbs_mul_le y (v2 / 9 % 9 - 4) (m := 2000) (n := 4) my (by omega)
      have mc : ((x * (v2 % 9 - 4) + y * (v2 / 9 % 9 - 4))).natAbs ≤ 1000000 := by omega
      refine ⟨_, rfl, a, _, _, _, rfl, rfl, .inl (s2.seq hS), a4, _, _, rfl, rfl, CDivP.of (by decide) (by decide +kernel), _, _, rfl, rfl, (by show (0 : Int) < 12; decide), rfl, _, rfl, ?_⟩
      refine ifE (fun _ => ?_) (fun _ => ?_)
      · refine ⟨_, rfl, _, _, rfl, rfl, .inl ⟨by decide, by decide⟩, _, rfl, a, _, _, _, rfl, rfl, .inl (s2.seq hS), a0, _, _, rfl, rfl, (by show (0 : Int) < 5; decide), _, _, rfl, rfl, _, _, rfl, rfl,
          _, rfl, _, _, rfl, rfl, .inl ⟨by decide, by decide⟩, _, rfl, a, _, _, _, rfl, rfl, .inl (s2.seq hS), a1, _, _, rfl, rfl, (by show (0 : Int) < 5; decide), _, _, rfl, rfl, _, _, rfl, rfl,
          _, rfl, _, _, rfl, rfl, .inl ⟨by decide, by decide⟩, _, rfl, a, _, _, _, rfl, rfl, .inl (s2.seq hS), a3, _, _, rfl, rfl, (by show (0 : Int) < 900; decide), _, _, rfl, rfl, (by show 3 ≤ sizeLine; decide), fun r hr0 => ?_⟩
        have sb := side_big (v0 := v0) (v1 := v1) (v3 := v3) hn mx my mc
        exact q r _ _ _ _ (s2.trans (same_new hr0 _)) (s2.free hr0) upd_same sb.1 sb.2.1 sb.2.2.1 sb.2.2.2
      · refine ⟨_, rfl, _, rfl, _, rfl, (by show 3 ≤ sizeLine; decide), fun r hr0 => ?_⟩
        exact q r _ _ _ _ (s2.trans (same_new hr0 _)) (s2.free hr0) upd_same hn (Nat.le_trans mx (by decide)) (Nat.le_trans my (by decide)) (Nat.le_trans mc (by decide))
    · skip
      have mc : ((v2 % 19 - 4)).natAbs ≤ 1000000 := by omega
      refine ⟨_, rfl, a, _, _, _, rfl, rfl, .inl (s2.seq hS), a4, _, _, rfl, rfl, CDivP.of (by decide) (by decide +kernel), _, _, rfl, rfl, (by show (0 : Int) < 12; decide), rfl, _, rfl, ?_⟩
      refine ifE (fun _ => ?_) (fun _ => ?_)
      · refine ⟨_, rfl, _, _, rfl, rfl, .inl ⟨by decide, by decide⟩, _, rfl, a, _, _, _, rfl, rfl, .inl (s2.seq hS), a0, _, _, rfl, rfl, (by show (0 : Int) < 5; decide), _, _, rfl, rfl, _, _, rfl, rfl,
          _, rfl, _, _, rfl, rfl, .inl ⟨by decide, by decide⟩, _, rfl, a, _, _, _, rfl, rfl, .inl (s2.seq hS), a1, _, _, rfl, rfl, (by show (0 : Int) < 5; decide), _, _, rfl, rfl, _, _, rfl, rfl,
          _, rfl, _, _, rfl, rfl, .inl ⟨by decide, by decide⟩, _, rfl, a, _, _, _, rfl, rfl, .inl (s2.seq hS), a3, _, _, rfl, rfl, (by show (0 : Int) < 900; decide), _, _, rfl, rfl, (by show 3 ≤ sizeLine; decide), fun r hr0 => ?_⟩
        have sb := side_big (v0 := v0) (v1 := v1) (v3 := v3) hn mx my mc
        exact q r _ _ _ _ (s2.trans (same_new hr0 _)) (s2.free hr0) upd_same sb.1 sb.2.1 sb.2.2.1 sb.2.2.2
      · refine ⟨_, rfl, _, rfl, _, rfl, (by show 3 ≤ sizeLine; decide), fun r hr0 => ?_⟩
        exact q r _ _ _ _ (s2.trans (same_new hr0 _)) (s2.free hr0) upd_same hn (Nat.le_trans mx (by decide)) (Nat.le_trans my (by decide)) (Nat.le_trans mc (by decide))
def sp_L_turned (K : PySem.W.Frag) : Sp := fun vs H Q _ => ∃ (a b : Addr) (us ws : List V) (x1 y1 x2 y2 : Int), vs = [.ref a, .ref b] ∧ Sq K H a us ∧ Sq K H b ws ∧ atI us 0 = some (.int x1) ∧ atI us 1 = some (.int y1) ∧ atI ws 0 = some (.int x2) ∧ atI ws 1 = some (.int y2) ∧
  x1.natAbs ≤ 10 ^ 18 ∧ y1.natAbs ≤ 10 ^ 18 ∧ Q (.int (x1 * y2 - y1 * x2)) H
theorem ok_L_turned (F : Fun K "_law_turned" "_law_turned" s_L_turned f fd) (Z : Zs mg)  : FnOk P w K mg base CX0 1 f fd ["_law_one", "_law_other"] (sp_L_turned K) := by
  refine F.ok sc_L_turned (fun vs H Q E h => ?_) (fun cdv A outer s H vs Q E hr h => ?_)
  · obtain ⟨a, b, us, ws, x1, y1, x2, y2, rfl, _⟩ := h
    rfl
  obtain ⟨a, b, us, ws, x1, y1, x2, y2, rfl, ha, hb, u0, u1, w0, w1, m1, m2, q⟩ := h
  refine ⟨_, (pss_one (ps_ret (pe_op op_sub (pe_op op_mul (pe_ix ix_any (pv 0) pe_int (fun _ _ => rfl)) (pe_ix ix_any (pv 1) pe_int (fun _ _ => rfl))) (pe_op op_mul (pe_ix ix_any (pv 0) pe_int (fun _ _ => rfl)) (pe_ix ix_any (pv 1) pe_int (fun _ _ => rfl)))))), ?_⟩
  exact ⟨_, rfl, a, _, _, .int x1, rfl, rfl, ha, u0, _, rfl, b, _, _, .int y2, rfl, rfl, hb, w1, _, _, rfl, rfl, cm_l (by omega),
    _, rfl, a, _, _, .int y1, rfl, rfl, ha, u1, _, rfl, b, _, _, .int x2, rfl, rfl, hb, w0, _, _, rfl, rfl, cm_l (by omega), _, _, rfl, rfl, q⟩
def sp_L_left_pair (K : PySem.W.Frag) : Sp := fun vs H Q _ => ∃ (a : Addr) (rows : List Int) (wd : Int), vs = [.ref a, .int wd] ∧ SqL K H a (rows.map V.int) ∧ 5 ≤ rows.length ∧ (∀ x ∈ rows, 0 ≤ x ∧ x < 1000003) ∧ 1 ≤ wd ∧ wd ≤ 100 ∧
  ∀ (t p r : Addr) (A0 A1 B0 B1 : Int) (H' : Hp), Same H H' → H' t = some (.tup [.ref p, .ref r]) → H' p = some (.tup [.int A0, .int A1]) → H' r = some (.tup [.int B0, .int B1]) → 0 < A0 * B1 - A1 * B0 → A0.natAbs ≤ 100 → A1.natAbs ≤ 100 → B0.natAbs ≤ 100 → B1.natAbs ≤ 100 → Q (.ref t) H'
theorem ok_L_left_pair (F : Fun K "_law_left_pair" "_law_left_pair" s_L_left_pair f fd) (Z : Zs mg) (h_L_turned : Has P w K mg base "_law_turned" 1 ["_law_one", "_law_other"] (sp_L_turned K)) (h_L_way : Has P w K mg base "_law_way" 1 ["_law_one", "_law_two", "_law_wide"] (sp_L_way K)) : FnOk P w K mg base CX0 2 f fd ["_law_d", "_law_wide"] (sp_L_left_pair K) := by
  refine F.ok sc_L_left_pair (fun vs H Q E h => ?_) (fun cdv A outer s H vs Q E hr h => ?_)
  · obtain ⟨a, rows, wd, rfl, _⟩ := h
    rfl
  obtain ⟨a, rows, wd, rfl, hS, hl, bd, w1, w2, q⟩ := h
  refine ⟨_, (pss_cons (ps_set (i := 2) sc_L_left_pair.nd rfl (Or.inl rfl) (pe_callH h_L_way (hr.mono (by decide)) rfl (pa_cons (pe_ix ix_any (pv 0) pe_int (fun _ _ => rfl)) (pa_cons (pe_ix ix_any (pv 0) pe_int (fun _ _ => rfl)) (pa_cons (pv 1) pa_nil)))))
      (pss_cons (ps_set (i := 3) sc_L_left_pair.nd rfl (Or.inl rfl) (pe_callH h_L_way (hr.mono (by decide)) rfl (pa_cons (pe_ix ix_any (pv 0) pe_int (fun _ _ => rfl)) (pa_cons (pe_ix ix_any (pv 0) pe_int (fun _ _ => rfl)) (pa_cons (pv 1) pa_nil)))))
      (pss_cons (ps_if (pt_cmpR op_eq (pe_op op_mod (pe_ix ix_any (pv 0) pe_int (fun _ _ => rfl)) pe_int) pe_int (nomark _)) (pss_one (ps_set (i := 3) sc_L_left_pair.nd rfl (Or.inl rfl) (pe_tup (pa_cons (pe_un un_neg (pe_ix ix_any (pv 2) pe_int (fun _ _ => rfl))) (pa_cons (pe_ix ix_any (pv 2) pe_int (fun _ _ => rfl)) pa_nil))))) pss_nil)
      (pss_cons (ps_if (pt_cmpR op_lt (pe_callH h_L_turned (hr.mono (by decide)) rfl (pa_cons (pv 2) (pa_cons (pv 3) pa_nil))) pe_int (nomark _)) (pss_one (ps_par (i := 2) (j := 3) rfl sc_L_left_pair.nd rfl rfl (by decide) rfl rfl (pa_cons (pv 3) (pa_cons (pv 2) pa_nil)) rfl)) pss_nil)
      (pss_cons (ps_if (pt_cmpR op_eq (pe_callH h_L_turned (hr.mono (by decide)) rfl (pa_cons (pv 2) (pa_cons (pv 3) pa_nil))) pe_int (nomark _)) (pss_one (ps_set (i := 3) sc_L_left_pair.nd rfl (Or.inl rfl) (pe_tup (pa_cons (pe_un un_neg (pe_ix ix_any (pv 2) pe_int (fun _ _ => rfl))) (pa_cons (pe_ix ix_any (pv 2) pe_int (fun _ _ => rfl)) pa_nil))))) pss_nil)
      (pss_one (ps_ret (pe_tup (pa_cons (pv 2) (pa_cons (pv 3) pa_nil)))))))))), ?_⟩
  obtain ⟨v0, a0, _⟩ := row_at bd (k := 0) (by decide) (by omega)
  obtain ⟨v1, a1, _⟩ := row_at bd (k := 1) (by decide) (by omega)
  obtain ⟨v2, a2, _⟩ := row_at bd (k := 2) (by decide) (by omega)
  obtain ⟨v3, a3, _⟩ := row_at bd (k := 3) (by decide) (by omega)
  obtain ⟨v4, a4, _⟩ := row_at bd (k := 4) (by decide) (by omega)
  refine ⟨_, rfl, a, _, _, _, rfl, rfl, .inl hS, a0, _, rfl, a, _, _, _, rfl, rfl, .inl hS, a1, _, rfl, v0, v1, wd, rfl, w1, by omega, fun p1 x1 y1 H2 s2 hp1 e1' n1 m1 m2 => ?_⟩
  refine ⟨_, rfl, a, _, _, _, rfl, rfl, .inl (s2.seq hS), a2, _, rfl, a, _, _, _, rfl, rfl, .inl (s2.seq hS), a3, _, rfl, v2, v3, wd, rfl, w1, by omega, fun p2 x2 y2 H3 s3 hp2 e3 n2 m3 m4 => ?_⟩
  have s23 := s2.trans s3
  have e13 := s3 _ _ e1'
  have k1 : x1.natAbs ≤ 100 := by omega
  have k2 : y1.natAbs ≤ 100 := by omega
  have k3 : x2.natAbs ≤ 100 := by omega
  have k4 : y2.natAbs ≤ 100 := by omega
  refine ⟨_, rfl, a, _, _, _, rfl, rfl, .inl (s23.seq hS), a4, _, _, rfl, rfl, (by show (0 : Int) < 4; decide), rfl, _, rfl, ?_⟩
  refine ifE (fun _ => ?_) (fun _ => ?_)
  · refine ⟨_, rfl, p1, _, _, .int y1, rfl, rfl, .inr (SqT.of e13), rfl, _, rfl, _, rfl, p1, _, _, .int x1, rfl, rfl, .inr (SqT.of e13), rfl, (by show 2 ≤ sizeLine; decide), fun d hd => ?_⟩
    have sd := same_new hd (.tup [.int (-y1), .int x1])
    have sH := s23.trans sd
    have e1 := sd _ _ e13
    have e2 : upd H3 d (.tup [.int (-y1), .int x1]) d = some (.tup [.int (-y1), .int x1]) := upd_same
    have f1 : Sq K (upd H3 d (.tup [.int (-y1), .int x1])) p1 [.int x1, .int y1] := .inr (SqT.of e1)
    have f2 : Sq K (upd H3 d (.tup [.int (-y1), .int x1])) d [.int (-y1), .int x1] := .inr (SqT.of e2)
    refine ⟨_, rfl, _, rfl, p1, d, _, _, x1, y1, (-y1), x1, rfl, f1, f2, rfl, rfl, rfl, rfl, by omega, by omega, _, _, rfl, rfl, _, rfl, ?_⟩
    have eT : (-y1) * y1 - x1 * x1 = -(x1 * x1 - y1 * (-y1)) := by rw [Int.mul_comm (-y1) y1, Int.mul_comm x1 x1]; omega
    refine ifD (fun hneg => ?_) (fun hneg => ?_)
    · refine ⟨_, rfl, _, rfl, _, _, rfl, ?_⟩
      refine ⟨_, rfl, _, rfl, d, p1, _, _, (-y1), x1, x1, y1, rfl, f2, f1, rfl, rfl, rfl, rfl, by omega, by omega, rfl, _, rfl, ?_⟩
      refine ifE (fun z => absurd z (by omega)) (fun _ => ?_)
      refine ⟨_, rfl, _, rfl, (by show 2 ≤ sizeLine; decide), fun t ht => ?_⟩
      have st := same_new ht (.tup [.ref d, .ref p1])
      exact q t d p1 (-y1) x1 x1 y1 _ ((sH).trans st) upd_same (st _ _ e2) (st _ _ e1) (by omega) (by omega) (by omega) (by omega) (by omega)
    · refine ⟨_, rfl, _, rfl, p1, d, _, _, x1, y1, (-y1), x1, rfl, f1, f2, rfl, rfl, rfl, rfl, by omega, by omega, rfl, _, rfl, ?_⟩
      refine ifE (fun hz => ?_) (fun hz => ?_)
      · refine ⟨_, rfl, p1, _, _, .int y1, rfl, rfl, f1, rfl, _, rfl, _, rfl, p1, _, _, .int x1, rfl, rfl, f1, rfl, (by show 2 ≤ sizeLine; decide), fun d hd => ?_⟩
        have sd := same_new hd (.tup [.int (-y1), .int x1])
        refine ⟨_, rfl, _, rfl, (by show 2 ≤ sizeLine; decide), fun t ht => ?_⟩
        have st := same_new ht (.tup [.ref p1, .ref d])
        have sp := sq_pos n1
        exact q t p1 d x1 y1 (-y1) x1 _ (sH.trans (sd.trans st)) upd_same (st _ _ (sd _ _ e1)) (st _ _ upd_same) (by rw [Int.mul_neg]; omega) (by omega) (by omega) (by omega) (by omega)
      · refine ⟨_, rfl, _, rfl, (by show 2 ≤ sizeLine; decide), fun t ht => ?_⟩
        have st := same_new ht (.tup [.ref p1, .ref d])
        exact q t p1 d x1 y1 (-y1) x1 _ (sH.trans st) upd_same (st _ _ e1) (st _ _ e2) (by omega) (by omega) (by omega) (by omega) (by omega)
  · have sH := s23
    have e1 := e13
    have e2 := e3
    have f1 : Sq K H3 p1 [.int x1, .int y1] := .inr (SqT.of e1)
    have f2 : Sq K H3 p2 [.int x2, .int y2] := .inr (SqT.of e2)
    refine ⟨_, rfl, _, rfl, p1, p2, _, _, x1, y1, x2, y2, rfl, f1, f2, rfl, rfl, rfl, rfl, by omega, by omega, _, _, rfl, rfl, _, rfl, ?_⟩
    have eT : x2 * y1 - y2 * x1 = -(x1 * y2 - y1 * x2) := by rw [Int.mul_comm x2 y1, Int.mul_comm y2 x1]; omega
    refine ifD (fun hneg => ?_) (fun hneg => ?_)
    · refine ⟨_, rfl, _, rfl, _, _, rfl, ?_⟩
      refine ⟨_, rfl, _, rfl, p2, p1, _, _, x2, y2, x1, y1, rfl, f2, f1, rfl, rfl, rfl, rfl, by omega, by omega, rfl, _, rfl, ?_⟩
      refine ifE (fun z => absurd z (by omega)) (fun _ => ?_)
      refine ⟨_, rfl, _, rfl, (by show 2 ≤ sizeLine; decide), fun t ht => ?_⟩
      have st := same_new ht (.tup [.ref p2, .ref p1])
      exact q t p2 p1 x2 y2 x1 y1 _ ((sH).trans st) upd_same (st _ _ e2) (st _ _ e1) (by omega) (by omega) (by omega) (by omega) (by omega)
    · refine ⟨_, rfl, _, rfl, p1, p2, _, _, x1, y1, x2, y2, rfl, f1, f2, rfl, rfl, rfl, rfl, by omega, by omega, rfl, _, rfl, ?_⟩
      refine ifE (fun hz => ?_) (fun hz => ?_)
      · refine ⟨_, rfl, p1, _, _, .int y1, rfl, rfl, f1, rfl, _, rfl, _, rfl, p1, _, _, .int x1, rfl, rfl, f1, rfl, (by show 2 ≤ sizeLine; decide), fun d hd => ?_⟩
        have sd := same_new hd (.tup [.int (-y1), .int x1])
        refine ⟨_, rfl, _, rfl, (by show 2 ≤ sizeLine; decide), fun t ht => ?_⟩
        have st := same_new ht (.tup [.ref p1, .ref d])
        have sp := sq_pos n1
        exact q t p1 d x1 y1 (-y1) x1 _ (sH.trans (sd.trans st)) upd_same (st _ _ (sd _ _ e1)) (st _ _ upd_same) (by rw [Int.mul_neg]; omega) (by omega) (by omega) (by omega) (by omega)
      · refine ⟨_, rfl, _, rfl, (by show 2 ≤ sizeLine; decide), fun t ht => ?_⟩
        have st := same_new ht (.tup [.ref p1, .ref p2])
        exact q t p1 p2 x1 y1 x2 y2 _ (sH.trans st) upd_same (st _ _ e1) (st _ _ e2) (by omega) (by omega) (by omega) (by omega) (by omega)
structure GrSt (H0 : Hp) (D : Addr) (gs : List Grp) (H : Hp) : Prop where
  same : Same H0 H
  new : H0 D = none
  at' : H D = some (.lst (grefs gs))
  all : GrL H gs
  few : ∀ g ∈ gs, g.2.length ≤ 2
  ne : ∀ g ∈ gs, g.1 ≠ D
theorem grefs_snoc (gs : List Grp) (g : Grp) : grefs (gs ++ [g]) = grefs gs ++ [.ref g.1] := by unfold grefs; rw [List.map_append]; rfl
theorem GrSt.app {H0 H H2 : Hp} {D g : Addr} {gs : List Grp} {ss : List Sd} (P : GrSt H0 D gs H) (s2 : Same H H2) (hg : H g = none) (e2 : H2 g = some (.lst (sdRefs ss))) (ok : SdOk H2 ss) (few : ss.length ≤ 2) :
    GrSt H0 D (gs ++ [(g, ss)]) (upd H2 D (.lst (grefs gs ++ [.ref g]))) := by
  have ngD : g ≠ D := fun z => by rw [z, P.at'] at hg; cases hg
  have tk : ∀ {b : Addr} {xs : List V}, H2 b = some (.tup xs) → upd H2 D (.lst (grefs gs ++ [.ref g])) b = some (.tup xs) := fun {b xs} e => by
    rw [upd_ne (ne_of e (s2 _ _ P.at') (by intro z; cases z))]
    exact e
  have sk : ∀ {ss : List Sd}, SdOk H2 ss → SdOk (upd H2 D (.lst (grefs gs ++ [.ref g]))) ss := fun {ss} o t ht => ⟨tk (o t ht).1, (o t ht).2⟩
  refine ⟨(P.same.trans s2).putNew P.new, P.new, by rw [upd_same, grefs_snoc], fun x hx => ?_, fun x hx => ?_, fun x hx => ?_⟩
  · rcases List.mem_append.mp hx with hx | hx
    · obtain ⟨h1, h2⟩ := P.all x hx
      exact ⟨by rw [upd_ne (P.ne x hx)]; exact s2 _ _ h1, sk (h2.same s2)⟩
    · rw [List.mem_singleton] at hx
      subst hx
      exact ⟨by show upd H2 D _ g = _; rw [upd_ne ngD]; exact e2, sk ok⟩
  · rcases List.mem_append.mp hx with hx | hx
    · exact P.few x hx
    · rw [List.mem_singleton] at hx
      subst hx
      exact few
  · rcases List.mem_append.mp hx with hx | hx
    · exact P.ne x hx
    · rw [List.mem_singleton] at hx
      subst hx
      exact ngD
theorem GrSt.grow {H0 H H2 : Hp} {D g : Addr} {gs : List Grp} {ss ss' : List Sd} (P : GrSt H0 D (gs ++ [(g, ss)]) H) (s2 : Same H H2) (g0 : H0 g = none) (nd : ∀ x ∈ gs, x.1 ≠ g) (ok : SdOk H2 ss') (few : ss'.length ≤ 2) :
    GrSt H0 D (gs ++ [(g, ss')]) (upd H2 g (.lst (sdRefs ss'))) := by
  have mg : (g, ss) ∈ gs ++ [(g, ss)] := List.mem_append_right _ (.head _)
  have eg := (P.all _ mg).1
  have ngD : g ≠ D := P.ne _ mg
  have sk : ∀ {ss : List Sd}, SdOk H2 ss → SdOk (upd H2 g (.lst (sdRefs ss'))) ss := fun {ss} o t ht => ⟨by rw [upd_ne (ne_of (o t ht).1 (s2 _ _ eg) (by intro z; cases z))]; exact (o t ht).1, (o t ht).2⟩
  refine ⟨(P.same.trans s2).putNew g0, P.new, ?_, fun x hx => ?_, fun x hx => ?_, fun x hx => ?_⟩
  · rw [upd_ne ngD.symm, s2 _ _ P.at', grefs_snoc, grefs_snoc]
  · rcases List.mem_append.mp hx with hx | hx
    · obtain ⟨h1, h2⟩ := P.all x (List.mem_append_left _ hx)
      exact ⟨by rw [upd_ne (nd x hx)]; exact s2 _ _ h1, sk (h2.same s2)⟩
    · rw [List.mem_singleton] at hx
      subst hx
      exact ⟨upd_same, sk ok⟩
  · rcases List.mem_append.mp hx with hx | hx
    · exact P.few x (List.mem_append_left _ hx)
    · rw [List.mem_singleton] at hx
      subst hx
      exact few
  · rcases List.mem_append.mp hx with hx | hx
    · exact P.ne x (List.mem_append_left _ hx)
    · rw [List.mem_singleton] at hx
      subst hx
      exact ngD
structure CpS (H0 : Hp) (D : Addr) (cs : List Grp) (H : Hp) : Prop where
  same : Same H0 H
  at' : H D = some (.lst (grefs cs))
  all : GrL H cs
  new : ∀ g ∈ cs, H0 g.1 = none ∧ g.1 ≠ D
theorem copy_groups {K : PySem.W.Frag} {te : TE} {H : Hp} {l D : Addr} {gs : List Grp} {Q : VK} (hl : H l = some (.lst (grefs gs))) (ok : GrL H gs) (hD : H D = none) (hn : gs.length ≤ 100)
    (hte : ∀ (H' : Hp) (x : Addr) (xs : List V) (Q' : VK), H' x = some (.lst xs) → (∀ c, H' c = none → Q' (.ref c) (upd H' c (.lst xs))) → te [some (.ref x)] H' Q')
    (q : ∀ (cs : List Grp) (H' : Hp), CpS H D cs H' → cs.map (·.2) = gs.map (·.2) → Q (.ref D) H') : CompW (Itl K l) D (gName 0) tYes te [none] H Q := by
  refine comp_list0 (K := K) (a := l) (xs := grefs gs) (fun i σ ys H' => (∃ cs : List Grp, ys = grefs cs ∧ CpS H D cs H' ∧ cs.map (·.2) = (gs.take i).map (·.2)) ∧ ∃ u : Option V, σ = [u])
    ⟨⟨[], rfl, ⟨same_new hD _, upd_same, (fun g hg => nomatch hg), (fun g hg => nomatch hg)⟩, rfl⟩, none, rfl⟩ (fun i σ ys H' _ ⟨⟨cs, e, P, _⟩, _⟩ => ⟨SqL.of (P.same _ _ hl), by rw [e]; exact P.at'⟩) ?_ ?_
  · rintro i v σ ys H' hi ⟨⟨cs, rfl, P, em⟩, u, rfl⟩
    unfold grefs at hi
    rw [List.getElem?_map] at hi
    cases gx : gs[i]? with
    | none => rw [gx] at hi; cases hi
    | some g =>
      rw [gx] at hi
      have hi : V.ref g.1 = v := Option.some.inj hi
      subst hi
      have hil : i < gs.length := (List.getElem?_eq_some_iff.mp gx).1
      obtain ⟨eg, og⟩ := ok g (List.mem_of_getElem? gx)
      have lc : cs.length = i := by have z := congrArg List.length em; rw [List.length_map, List.length_map, List.length_take] at z; omega
      refine hte H' g.1 _ _ (P.same _ _ eg) fun c hc => ?_
      have sc := same_new hc (.lst (sdRefs g.2))
      have ncD : c ≠ D := fun z => by rw [z, P.at'] at hc; cases hc
      refine ⟨sc _ _ P.at', small1000 (by rw [grefs_length]; omega), ⟨cs ++ [(c, g.2)], (grefs_snoc cs (c, g.2)).symm, ⟨(P.same.trans sc).putNew hD, by rw [upd_same, grefs_snoc], fun x hx => ?_, fun x hx => ?_⟩, ?_⟩, _, rfl⟩
      · have sk : ∀ {ss : List Sd}, SdOk H' ss → SdOk (upd (upd H' c (.lst (sdRefs g.2))) D (.lst (grefs cs ++ [V.ref c]))) ss := fun {ss} o t ht => by
          have e := sc _ _ (o t ht).1
          exact ⟨by rw [upd_ne (ne_of e (sc _ _ P.at') (by intro z; cases z))]; exact e, (o t ht).2⟩
        rcases List.mem_append.mp hx with hx | hx
        · obtain ⟨h1, h2⟩ := P.all x hx
          exact ⟨by rw [upd_ne (P.new x hx).2]; exact sc _ _ h1, sk h2⟩
        · rw [List.mem_singleton] at hx
          subst hx
          exact ⟨by show upd _ D _ c = _; rw [upd_ne ncD]; exact upd_same, sk (og.same P.same)⟩
      · rcases List.mem_append.mp hx with hx | hx
        · exact P.new x hx
        · rw [List.mem_singleton] at hx
          subst hx
          exact ⟨P.same.free hc, ncD⟩
      · rw [List.map_append, em, take_snoc gx, List.map_append]
        rfl
  · rintro σ ys H' ⟨⟨cs, rfl, P, em⟩, u, rfl⟩
    rw [grefs_length, List.take_length] at em
    exact q cs H' P em
theorem deepL {K : PySem.W.Frag} {H : Hp} {n : Nat} {a b : Addr} {xs ys : List V} (ne : a ≠ b) (ha : SqL K H a xs) (hb : SqL K H b ys) (hl : xs.length = ys.length) (he : ∀ (j : Nat) (h1 : j < xs.length) (h2 : j < ys.length), Deep K H n xs[j] ys[j] true) : Deep K H (n + 1) (.ref a) (.ref b) true := by
  have d := Deep.lst (e := fun _ => true) ne ha hb hl he
  rw [range_all_tt] at d
  exact d
theorem deepT {K : PySem.W.Frag} {H : Hp} {n : Nat} {a b : Addr} {xs ys : List V} (ne : a ≠ b) (ha : SqT K H a xs) (hb : SqT K H b ys) (hl : xs.length = ys.length) (he : ∀ (j : Nat) (h1 : j < xs.length) (h2 : j < ys.length), Deep K H n xs[j] ys[j] true) : Deep K H (n + 1) (.ref a) (.ref b) true := by
  have d := Deep.tup (e := fun _ => true) ne ha hb he
  rw [range_all_tt, hl, beq_self_eq_true] at d
  exact d
theorem deepG {K : PySem.W.Frag} {H : Hp} {n : Nat} {a b : Addr} {cs gs : List Grp} (ne : a ≠ b) (ha : H a = some (.lst (grefs cs))) (hb : H b = some (.lst (grefs gs))) (oc : GrL H cs) (og : GrL H gs) (e : cs.map (·.2) = gs.map (·.2)) (new : ∀ c ∈ cs, ∀ g ∈ gs, c.1 ≠ g.1) : Deep K H (n + 2) (.ref a) (.ref b) true := by
  have hl : cs.length = gs.length := by have z := congrArg List.length e; rwa [List.length_map, List.length_map] at z
  refine deepL ne (SqL.of ha) (SqL.of hb) (by rw [grefs_length, grefs_length]; exact hl) fun j h1 h2 => ?_
  rw [grefs_length] at h1 h2
  have e1 : (grefs cs)[j]'(by rw [grefs_length]; exact h1) = .ref cs[j].1 := by simp [grefs]
  have e2 : (grefs gs)[j]'(by rw [grefs_length]; exact h2) = .ref gs[j].1 := by simp [grefs]
  rw [e1, e2]
  have es : cs[j].2 = gs[j].2 := by
    have z := congrArg (fun l : List (List Sd) => l[j]?) e
    simp only [List.getElem?_map, List.getElem?_eq_getElem h1, List.getElem?_eq_getElem h2, Option.map_some] at z
    exact Option.some.inj z
  have x1 := (oc cs[j] (List.getElem_mem h1)).1
  have x2 := (og gs[j] (List.getElem_mem h2)).1
  rw [es] at x1
  refine deepL (new _ (List.getElem_mem h1) _ (List.getElem_mem h2)) (SqL.of x1) (SqL.of x2) rfl fun k k1 k2 => ?_
  have e3 : (sdRefs gs[j].2)[k] = .ref (gs[j].2[k]'(by rw [sdRefs_length] at k1; exact k1)).1 := by simp [sdRefs]
  rw [e3]
  exact .same _ _
def sp_L_groups (K : PySem.W.Frag) : Sp := fun vs H Q _ => ∃ (r : Addr) (rows : List Int) (m : Int), vs = [.ref r, .int m] ∧ SqL K H r (rows.map V.int) ∧ 0 ≤ m ∧ m ≤ 24 ∧ 11 ≤ rows.length ∧ 11 * m ≤ rows.length ∧ (∀ x ∈ rows, 0 ≤ x ∧ x < 1000003) ∧
  ∀ (l : Addr) (gs : List Grp) (H' : Hp), Same H H' → H l = none → H' l = some (.lst (grefs gs)) → GrL H' gs → gs.length = m.toNat → (∀ g ∈ gs, g.2.length ≤ 2) → Q (.ref l) H'
theorem ok_L_groups (F : Fun K "_law_groups" "_law_groups" s_L_groups f fd) (Z : Zs mg) (h_L_side : Has P w K mg base "_law_side" 2 ["_law_d"] (sp_L_side K)) (h_L_left_pair : Has P w K mg base "_law_left_pair" 2 ["_law_d", "_law_wide"] (sp_L_left_pair K)) : FnOk P w K mg base CX0 3 f fd ["_law_some", "_law_many"] (sp_L_groups K) := by
  refine F.ok sc_L_groups (fun vs H Q E h => ?_) (fun cdv A outer s H vs Q E hr h => ?_)
  · obtain ⟨r, rows, m, rfl, _⟩ := h
    rfl
  obtain ⟨r, rows, m, rfl, hS, m0, m12, hl0, hl, bd, q⟩ := h
  refine ⟨_, (pss_cons (ps_set (i := 2) sc_L_groups.nd rfl (Or.inl rfl) (pe_lst pa_nil))
      (pss_cons (ps_for PassesOwn.never rfl (pi_range1 rfl Z.range (pa_cons (pv 1) pa_nil)) (pg_name (i := 3) sc_L_groups.nd rfl (Or.inl rfl)) (pss_cons (ps_set (i := 4) sc_L_groups.nd rfl (Or.inl rfl) (pe_slice sl_list (pv 0) (po_some (pe_op op_mul pe_int (pv 3))) po_none))
      (pss_one (ps_if (pt_cmpR op_eq (pe_op op_mod (pe_ix ix_any (pv 4) pe_int (fun _ _ => rfl)) pe_int) pe_int (nomark _)) (pss_one (ps_expr (pe_bm PySem.F.plainAttrs_list PySem.F.slot_list_append PySem.F.type_list_append mt_append (pv 2) (pa_cons (pe_lst (pa_cons (pe_callH h_L_side (hr.mono (by decide)) rfl (pa_cons (pv 4) pa_nil)) pa_nil)) pa_nil)))) (pss_one (ps_if (pt_cmpR op_eq (pe_op op_mod (pe_ix ix_any (pv 4) pe_int (fun _ _ => rfl)) pe_int) pe_int (nomark _)) (pss_one (ps_expr (pe_bm PySem.F.plainAttrs_list PySem.F.slot_list_append PySem.F.type_list_append mt_append (pv 2) (pa_cons (pe_lst (pa_cons (pe_callH h_L_side (hr.mono (by decide)) rfl (pa_cons (pv 4) pa_nil)) (pa_cons (pe_callH h_L_side (hr.mono (by decide)) rfl (pa_cons (pe_slice sl_list (pv 4) (po_some pe_int) po_none) pa_nil)) pa_nil))) pa_nil)))) (pss_cons (ps_asg (pe_callH h_L_left_pair (hr.mono (by decide)) rfl (pa_cons (pv 4) (pa_cons pe_int pa_nil))) (pg_tup rfl (pgs_cons (pg_name (i := 5) sc_L_groups.nd rfl (Or.inl rfl)) (pgs_cons (pg_name (i := 6) sc_L_groups.nd rfl (Or.inl rfl)) pgs_nil))))
      (pss_cons (ps_par (i := 7) (j := 8) rfl sc_L_groups.nd rfl rfl (by decide) rfl rfl (pa_cons (pe_op op_sub (pe_op op_mod (pe_ix ix_any (pv 4) pe_int (fun _ _ => rfl)) pe_int) pe_int) (pa_cons (pe_op op_sub (pe_op op_mod (pe_ix ix_any (pv 4) pe_int (fun _ _ => rfl)) pe_int) pe_int) pa_nil)) rfl)
      (pss_cons (ps_expr (pe_bm PySem.F.plainAttrs_list PySem.F.slot_list_append PySem.F.type_list_append mt_append (pv 2) (pa_cons (pe_lst (pa_cons (pe_tup (pa_cons (pe_un un_neg (pe_ix ix_any (pv 5) pe_int (fun _ _ => rfl))) (pa_cons (pe_ix ix_any (pv 5) pe_int (fun _ _ => rfl)) (pa_cons (pe_op op_sub (pe_op op_mul (pe_ix ix_any (pv 5) pe_int (fun _ _ => rfl)) (pv 8)) (pe_op op_mul (pe_ix ix_any (pv 5) pe_int (fun _ _ => rfl)) (pv 7))) pa_nil)))) pa_nil)) pa_nil)))
      (pss_one (ps_expr (pe_bm PySem.F.plainAttrs_list PySem.F.slot_list_append PySem.F.type_list_append mt_append (pe_ix ix_any (pv 2) (pe_un un_neg pe_int) (fun _ _ => rfl)) (pa_cons (pe_tup (pa_cons (pe_ix ix_any (pv 6) pe_int (fun _ _ => rfl)) (pa_cons (pe_un un_neg (pe_ix ix_any (pv 6) pe_int (fun _ _ => rfl))) (pa_cons (pe_op op_sub (pe_op op_mul (pe_ix ix_any (pv 6) pe_int (fun _ _ => rfl)) (pv 7)) (pe_op op_mul (pe_ix ix_any (pv 6) pe_int (fun _ _ => rfl)) (pv 8))) pa_nil)))) pa_nil)))))))))))))
      (pss_cons (ps_if (PW.pt (pw_and (pt_cmpR op_gt (pv 1) pe_int (nomark _)) (pw_and1 (pt_cmpR op_eq (pe_op op_mod (pe_ix ix_any (pv 0) pe_int (fun _ _ => rfl)) pe_int) pe_int (nomark _))))) (pss_one (ps_asg (pe_callTy call_list_of rfl Z.list bt_list (pa_cons (pe_ix ix_any (pv 2) (pe_op op_mod (pe_ix ix_any (pv 0) pe_int (fun _ _ => rfl)) (pv 1)) (fun _ _ => rfl)) pa_nil)) (pg_sub (pv 2) (pe_op op_mod (pe_ix ix_any (pv 0) pe_int (fun _ _ => rfl)) (pv 1)) set_list))) pss_nil)
      (pss_one (ps_ret (pv 2)))))), ?_⟩
  have cutD : ∀ {rows : List Int} (k : Nat), k ≤ rows.length → cutV (rows.map V.int) (some (k : Int)) none = (rows.drop k).map V.int := fun {rows} k hk => by
    rw [cutV_ints, HT.sIx_nat rows.length 0 k, show min k rows.length = k by omega, show HT.sIx rows.length rows.length none = rows.length from rfl, List.take_of_length_le (by rw [List.length_drop]; omega)]
  refine ⟨Nat.zero_le _, fun D hD => ?_⟩
  have P0 : GrSt H D [] (upd H D (.lst [])) := ⟨same_new hD _, hD, upd_same, (fun g hg => nomatch hg), (fun g hg => nomatch hg), (fun g hg => nomatch hg)⟩
  refine ⟨_, rfl, _, rfl, by omega, by omega, for_range (lo := 0) (n := m.toNat) (fun i σ H' => ∃ gs : List Grp, GrSt H D gs H' ∧ gs.length = i ∧ ∃ u3 u4 u5 u6 u7 u8 : Option V, σ = [some (.ref r), some (.int m), some (.ref D), u3, u4, u5, u6, u7, u8])
    ⟨[], P0, rfl, none, none, none, none, none, none, rfl⟩ ?_ ?_⟩
  · rintro i σ H1 hi ⟨gs, P1, hg, u3, u4, u5, u6, u7, u8, rfl⟩
    have hi' : 11 * i + 11 ≤ rows.length := by omega
    refine ⟨_, rfl, _, rfl, _, _, rfl, rfl, cm_l (by decide), _, rfl, r, _, rfl, P1.same.seq hS, fun c hc => ?_⟩
    rw [show (11 : Int) * (0 + (i : Int)) = ((11 * i : Nat) : Int) by omega, cutD (11 * i) (by omega)]
    have ldr : 11 ≤ (rows.drop (11 * i)).length := by rw [List.length_drop]; omega
    have bdr : ∀ x ∈ rows.drop (11 * i), 0 ≤ x ∧ x < 1000003 := fun x hx => bd x (List.mem_of_mem_drop hx)
    have P2 : GrSt H D gs (upd H1 c (.lst ((rows.drop (11 * i)).map V.int))) := by
      have sc := same_new hc (.lst ((rows.drop (11 * i)).map V.int))
      exact ⟨P1.same.trans sc, P1.new, sc _ _ P1.at', P1.all.same sc, P1.few, P1.ne⟩
    have ec : upd H1 c (.lst ((rows.drop (11 * i)).map V.int)) c = some (.lst ((rows.drop (11 * i)).map V.int)) := upd_same
    generalize upd H1 c (.lst ((rows.drop (11 * i)).map V.int)) = H2 at P2 ec ⊢
    generalize rows.drop (11 * i) = ds at ldr bdr ec
    clear P1 hc
    obtain ⟨v5, a5, b50, b51⟩ := row_at bdr (k := 5) (by decide) (by omega)
    obtain ⟨v6, a6, b60, b61⟩ := row_at bdr (k := 6) (by decide) (by omega)
    obtain ⟨v10, a10, b100, b101⟩ := row_at bdr (k := 10) (by decide) (by omega)
    refine ⟨_, rfl, c, _, _, _, rfl, rfl, .inl (SqL.of ec), a10, _, _, rfl, rfl, (by show (0 : Int) < 4; decide), rfl, _, rfl, ?_⟩
    refine ifE (fun _ => ?_) (fun _ => ?_)
    · refine ⟨_, rfl, .inl ⟨rfl, _, SqL.of P2.at'⟩, _, rfl, c, ds, rfl, SqL.of ec, by omega, bdr, fun p a b e H3 s3 hp ep n1 k1 k2 k3 => ?_⟩
      refine ⟨by show 1 ≤ sizeLine; decide, fun g hg' => ?_⟩
      have s4 := same_new hg' (.lst [.ref p])
      refine ⟨D, _, _, rfl, rfl, (s3.trans s4) _ _ P2.at', small1000 (by rw [grefs_length]; omega), ?_⟩
      refine ⟨_, P2.app (ss := [(p, a, b, e)]) (s3.trans s4) (s3.free hg') upd_same (fun t ht => ?_) (by show 1 ≤ 2; decide), by rw [List.length_append, hg]; rfl, _, _, _, _, _, _, rfl⟩
      rw [List.mem_singleton] at ht
      subst ht
      exact ⟨s4 _ _ ep, n1, Nat.le_trans k1 (by decide), Nat.le_trans k2 (by decide), Nat.le_trans k3 (by decide)⟩
    refine ⟨_, rfl, c, _, _, _, rfl, rfl, .inl (SqL.of ec), a10, _, _, rfl, rfl, (by show (0 : Int) < 4; decide), rfl, _, rfl, ?_⟩
    refine ifE (fun _ => ?_) (fun _ => ?_)
    · refine ⟨_, rfl, .inl ⟨rfl, _, SqL.of P2.at'⟩, _, rfl, c, ds, rfl, SqL.of ec, by omega, bdr, fun p a b e H3 s3 hp ep n1 k1 k2 k3 => ?_⟩
      refine ⟨_, rfl, _, rfl, c, _, rfl, SqL.of (s3 _ _ ec), fun c5 hc5 => ?_⟩
      rw [show (some (5 : Int)) = some ((5 : Nat) : Int) from rfl, cutD 5 (by omega)]
      have s5 := same_new hc5 (.lst ((ds.drop 5).map V.int))
      refine ⟨c5, ds.drop 5, rfl, SqL.of upd_same, by rw [List.length_drop]; omega, fun x hx => bdr x (List.mem_of_mem_drop hx), fun p6 a6 b6 e6 H6 s6 hp6 ep6 n6 k61 k62 k63 => ?_⟩
      refine ⟨by show 2 ≤ sizeLine; decide, fun g hg' => ?_⟩
      have s7 := same_new hg' (.lst [.ref p, .ref p6])
      have s36 := s3.trans (s5.trans s6)
      refine ⟨D, _, _, rfl, rfl, (s36.trans s7) _ _ P2.at', small1000 (by rw [grefs_length]; omega), ?_⟩
      refine ⟨_, P2.app (ss := [(p, a, b, e), (p6, a6, b6, e6)]) (s36.trans s7) (s36.free hg') upd_same (fun t ht => ?_) (by show 2 ≤ 2; decide), by rw [List.length_append, hg]; rfl, _, _, _, _, _, _, rfl⟩
      rcases List.mem_cons.mp ht with rfl | ht
      · exact ⟨s7 _ _ (s6 _ _ (s5 _ _ ep)), n1, Nat.le_trans k1 (by decide), Nat.le_trans k2 (by decide), Nat.le_trans k3 (by decide)⟩
      · rw [List.mem_singleton] at ht
        subst ht
        exact ⟨s7 _ _ ep6, n6, Nat.le_trans k61 (by decide), Nat.le_trans k62 (by decide), Nat.le_trans k63 (by decide)⟩
    · refine ⟨_, rfl, c, ds, 3, rfl, SqL.of ec, by omega, bdr, by decide, by decide, fun t p p' A0 A1 B0 B1 H3 s3 et ep ep' pos k1 k2 k3 k4 => ?_⟩
      refine ⟨t, _, rfl, SqT.of et, rfl, .ref p, _, rfl, .ref p', _, rfl, rfl, ?_⟩
      refine ⟨_, rfl, c, _, _, _, rfl, rfl, .inl (SqL.of (s3 _ _ ec)), a5, _, _, rfl, rfl, (by show (0 : Int) < 13; decide), _, _, rfl, rfl, _, rfl, c, _, _, _, rfl, rfl, .inl (SqL.of (s3 _ _ ec)), a6, _, _, rfl, rfl, (by show (0 : Int) < 13; decide), _, _, rfl, rfl, ?_⟩
      have bx : (v5 % 13 - 6).natAbs ≤ 6 := by omega
      have by' : (v6 % 13 - 6).natAbs ≤ 6 := by omega
      generalize v5 % 13 - 6 = x at bx ⊢
      generalize v6 % 13 - 6 = y at by' ⊢
      have nA : -A1 ≠ 0 ∨ A0 ≠ 0 := by
        by_cases h : A0 = 0
        · left
          intro z
          have h1 : A1 = 0 := Int.neg_eq_zero.mp z
          rw [h, h1] at pos
          simp at pos
        · exact .inr h
      have nB : B1 ≠ 0 ∨ -B0 ≠ 0 := by
        by_cases h : B1 = 0
        · right
          intro z
          have h1 : B0 = 0 := Int.neg_eq_zero.mp z
          rw [h, h1] at pos
          simp at pos
        · exact .inl h
      have z1 := natAbs_mul_le A0 y k1 by'
      have z2 := natAbs_mul_le A1 x k2 bx
      have z3 := natAbs_mul_le B1 x k4 bx
      have z4 := natAbs_mul_le B0 y k3 by'
      refine ⟨_, _, rfl, ?_⟩
      refine ⟨_, rfl, .inl ⟨rfl, _, SqL.of (s3 _ _ P2.at')⟩, _, rfl, p, _, _, .int A1, rfl, rfl, .inr (SqT.of ep), rfl, _, rfl, _, rfl, p, _, _, .int A0, rfl, rfl, .inr (SqT.of ep), rfl,
        _, rfl, p, _, _, .int A0, rfl, rfl, .inr (SqT.of ep), rfl, _, rfl, _, _, rfl, rfl, cm_l (Nat.le_trans k1 (by decide)), _, rfl, p, _, _, .int A1, rfl, rfl, .inr (SqT.of ep), rfl, _, rfl, _, _, rfl, rfl, cm_l (Nat.le_trans k2 (by decide)), _, _, rfl, rfl, (by show 3 ≤ sizeLine; decide), fun t1 ht1 => ⟨by show 1 ≤ sizeLine; decide, fun g hg' => ?_⟩⟩
      have mA : (-A1).natAbs ≤ 10 ^ 9 := by rw [Int.natAbs_neg]; exact Nat.le_trans k2 (by decide)
      have mB : A0.natAbs ≤ 10 ^ 9 := Nat.le_trans k1 (by decide)
      have mC : (A0 * y - A1 * x).natAbs ≤ 10 ^ 13 := Nat.le_trans (Int.natAbs_sub_le _ _) (Nat.le_trans (Nat.add_le_add z1 z2) (by decide))
      have mD : B1.natAbs ≤ 10 ^ 9 := Nat.le_trans k4 (by decide)
      have mE : (-B0).natAbs ≤ 10 ^ 9 := by rw [Int.natAbs_neg]; exact Nat.le_trans k3 (by decide)
      have mF : (B1 * x - B0 * y).natAbs ≤ 10 ^ 13 := Nat.le_trans (Int.natAbs_sub_le _ _) (Nat.le_trans (Nat.add_le_add z3 z4) (by decide))
      have cmx : CMul B1 x := cm_l (Nat.le_trans k4 (by decide))
      have cmy : CMul B0 y := cm_l (Nat.le_trans k3 (by decide))
      clear z1 z2 z3 z4 pos k1 k2 k3 k4 bx by'
      generalize -A1 = a at nA mA hg' ⊢
      generalize A0 * y - A1 * x = cA at mC hg' ⊢
      have oA : ∀ {H' : Hp}, H' t1 = some (.tup [.int a, .int A0, .int cA]) → SdOk H' [(t1, a, A0, cA)] := fun {H'} e t ht => by
        rw [List.mem_singleton] at ht
        subst ht
        exact ⟨e, nA, mA, mB, mC⟩
      have s4 := same_new ht1 (.tup [.int a, .int A0, .int cA])
      have e4 : upd H3 t1 (.tup [.int a, .int A0, .int cA]) t1 = some (.tup [.int a, .int A0, .int cA]) := upd_same
      generalize upd H3 t1 (.tup [.int a, .int A0, .int cA]) = H4 at s4 e4 hg' ⊢
      have s5 := same_new hg' (.lst [.ref t1])
      have e5 : upd H4 g (.lst [.ref t1]) g = some (.lst [.ref t1]) := upd_same
      have s34 := s3.trans s4
      have nd : ∀ x ∈ gs, x.1 ≠ g := fun x hx z => by
        have e := s34 _ _ (P2.all x hx).1
        rw [z, hg'] at e
        cases e
      have h3g : H2 g = none := s34.free hg'
      have g0 : H g = none := P2.same.free h3g
      generalize upd H4 g (.lst [.ref t1]) = H5 at s5 e5 ⊢
      have s35 := s4.trans s5
      have s25 := s3.trans s35
      have P6 := P2.app (ss := [(t1, a, A0, cA)]) s25 h3g e5 (oA (s5 _ _ e4)) (Nat.le_succ 1)
      have at5 := s25 _ _ P2.at'
      have ep6 : upd H5 D (.lst (grefs gs ++ [.ref g])) p' = some (.tup [.int B0, .int B1]) := by
        have e := s35 _ _ ep'
        rw [upd_ne (ne_of e at5 (by intro z; cases z))]
        exact e
      refine ⟨D, _, _, rfl, rfl, at5, small1000 (by rw [grefs_length]; omega), ?_⟩
      generalize upd H5 D (.lst (grefs gs ++ [.ref g])) = H6 at P6 ep6 ⊢
      obtain ⟨eg6, o6⟩ := P6.all (g, [(t1, a, A0, cA)]) (List.mem_append_right _ (.head _))
      have e16 := o6 (t1, a, A0, cA) (.head _)
      have sq6 : Sq K H6 p' [.int B0, .int B1] := .inr (SqT.of ep6)
      clear s4 e4 s5 e5 s34 s35 s25 at5 hg' ht1 ep6
      refine ⟨_, rfl, _, rfl, D, _, _, .ref g, rfl, rfl, .inl (SqL.of P6.at'), by rw [grefs_snoc]; exact atI_last _ _, .inl ⟨rfl, _, SqL.of eg6⟩, ?_⟩
      refine ⟨_, rfl, p', _, _, .int B1, rfl, rfl, sq6, rfl, _, rfl, p', _, _, .int B0, rfl, rfl, sq6, rfl, _, rfl,
        _, rfl, p', _, _, .int B1, rfl, rfl, sq6, rfl, _, rfl, _, _, rfl, rfl, cmx, _, rfl, p', _, _, .int B0, rfl, rfl, sq6, rfl, _, rfl, _, _, rfl, rfl, cmy, _, _, rfl, rfl, (by show 3 ≤ sizeLine; decide), fun t2 ht2 => ?_⟩
      generalize -B0 = b at nB mE ⊢
      generalize B1 * x - B0 * y = cB at mF ⊢
      have s7 := same_new ht2 (.tup [.int B1, .int b, .int cB])
      have e7 : upd H6 t2 (.tup [.int B1, .int b, .int cB]) t2 = some (.tup [.int B1, .int b, .int cB]) := upd_same
      generalize upd H6 t2 (.tup [.int B1, .int b, .int cB]) = H7 at s7 e7 ⊢
      have oB : SdOk H7 [(t1, a, A0, cA), (t2, B1, b, cB)] := fun t ht => by
        rcases List.mem_cons.mp ht with rfl | ht
        · exact ⟨s7 _ _ e16.1, e16.2⟩
        · rw [List.mem_singleton] at ht
          subst ht
          exact ⟨e7, nB, mD, mE, mF⟩
      have P7 := P6.grow s7 g0 nd oB (Nat.le_refl 2)
      refine ⟨g, _, _, rfl, rfl, s7 _ _ eg6, by show 1 < sizeLine; decide, ?_⟩
      exact ⟨_, P7, by rw [List.length_append, hg]; rfl, _, _, _, _, _, _, rfl⟩
  · rintro σ H1 ⟨gs, P1, hg, u3, u4, u5, u6, u7, u8, rfl⟩
    refine ⟨_, rfl, _, _, rfl, rfl, _, rfl, ?_⟩
    obtain ⟨v0, a0, _⟩ := row_at bd (k := 0) (by decide) (by omega)
    obtain ⟨v1, a1, _⟩ := row_at bd (k := 1) (by decide) (by omega)
    obtain ⟨v2, a2, _⟩ := row_at bd (k := 2) (by decide) (by omega)
    refine ifD (fun hm1 => ?_) (fun _ => ?_)
    · refine ⟨_, rfl, r, _, _, _, rfl, rfl, .inl (P1.same.seq hS), a0, _, _, rfl, rfl, (by show (0 : Int) < 5; decide), rfl, _, rfl, ?_⟩
      refine ifE (fun _ => ?_) (fun _ => ?_)
      · have sqr : Sq K H1 r (rows.map V.int) := .inl (P1.same.seq hS)
        have y0 := Int.emod_nonneg v2 (show m ≠ 0 by omega)
        have y1 := Int.emod_lt_of_pos v2 (show 0 < m by omega)
        have x0 := Int.emod_nonneg v1 (show m ≠ 0 by omega)
        have x1 := Int.emod_lt_of_pos v1 (show 0 < m by omega)
        obtain ⟨g, _, mg', at', _⟩ := grefs_at (gs := gs) (i := (v2 % m).toNat) (k := v2 % m) (by omega) (by omega)
        have ixn : ixN (grefs gs).length (v1 % m) = some (v1 % m).toNat := by
          unfold ixN
          rw [if_pos x0, grefs_length, if_pos (by omega)]
        obtain ⟨eg, og⟩ := P1.all g mg'
        refine ⟨_, rfl, _, rfl, r, _, _, _, rfl, rfl, sqr, a2, _, rfl, _, _, rfl, rfl, (by show (0 : Int) < m; omega), D, _, _, _, rfl, rfl, .inl (SqL.of P1.at'), at', g.1, _, rfl, .inl (SqL.of eg), fun c hc => ?_⟩
        have sc := same_new hc (.lst (sdRefs g.2))
        refine ⟨_, rfl, _, rfl, r, _, _, _, rfl, rfl, .inl (sc.seq (P1.same.seq hS)), a1, _, rfl, _, _, rfl, rfl, (by show (0 : Int) < m; omega), D, _, _, _, rfl, rfl, sc _ _ P1.at', ixn, ?_⟩
        have ncD : c ≠ D := fun z => by rw [z, P1.at'] at hc; cases hc
        have es : (grefs gs).set (v1 % m).toNat (.ref c) = grefs (gs.set (v1 % m).toNat (c, g.2)) := by unfold grefs; rw [List.map_set]
        rw [es]
        have tk : ∀ {ss : List Sd} {w : HO}, SdOk H1 ss → SdOk (upd (upd H1 c (.lst (sdRefs g.2))) D (.lst (grefs (gs.set (v1 % m).toNat (c, g.2))))) ss := fun {ss w} o t ht => by
          have e := sc _ _ (o t ht).1
          exact ⟨by rw [upd_ne (ne_of e (sc _ _ P1.at') (by intro z; cases z))]; exact e, (o t ht).2⟩
        refine ⟨_, rfl, q D (gs.set (v1 % m).toNat (c, g.2)) _ ((P1.same.trans sc).putNew P1.new) P1.new upd_same (fun x hx => ?_) (by rw [List.length_set]; omega) fun x hx => ?_⟩
        · rcases List.mem_or_eq_of_mem_set hx with h | h
          · obtain ⟨h1, h2⟩ := P1.all x h
            exact ⟨by rw [upd_ne (P1.ne x h)]; exact sc _ _ h1, tk (w := .lst []) h2⟩
          · subst h
            exact ⟨by show upd _ D _ c = _; rw [upd_ne ncD]; exact upd_same, tk (w := .lst []) og⟩
        · rcases List.mem_or_eq_of_mem_set hx with h | h
          · exact P1.few x h
          · subst h
            exact P1.few g mg'
      · exact ⟨_, rfl, q D gs H1 P1.same P1.new P1.at' P1.all (by omega) P1.few⟩
    · refine iteF ?_
      exact ⟨_, rfl, q D gs H1 P1.same P1.new P1.at' P1.all (by omega) P1.few⟩
def sp_L_low (_ : PySem.W.Frag) : Sp := fun vs H Q _ => ∃ (x y : Int), vs = [.int x, .int y] ∧ Q (.int (Nat.gcd x.natAbs y.natAbs)) H
theorem ok_L_low (F : Fun K "_law_low" "_law_low" s_L_low f fd) (Z : Zs mg) : FnOk P w K mg base CX0 1 f fd ["_law_one", "_law_other"] (sp_L_low K) := by
  refine F.ok sc_L_low (fun vs H Q E h => ?_) (fun cdv A outer s H vs Q E hr h => ?_)
  · obtain ⟨x, y, rfl, _⟩ := h
    rfl
  obtain ⟨x, y, rfl, q⟩ := h
  refine ⟨_, (pss_cons (ps_set (i := 0) sc_L_low.nd rfl (Or.inl rfl) (pe_callB call_abs rfl Z.abs bt_abs (pa_cons (pv 0) pa_nil)))
      (pss_cons (ps_set (i := 1) sc_L_low.nd rfl (Or.inl rfl) (pe_callB call_abs rfl Z.abs bt_abs (pa_cons (pv 1) pa_nil)))
      (pss_cons (ps_while PassesOwn.never (pt_cmpR op_gt (pv 1) pe_int (nomark _)) (pss_one (ps_par (i := 0) (j := 1) rfl sc_L_low.nd rfl rfl (by decide) rfl rfl (pa_cons (pv 1) (pa_cons (pe_op op_mod (pv 0) (pv 1)) pa_nil)) rfl)))
      (pss_one (ps_ret (pv 0)))))), ?_⟩
  refine ⟨_, rfl, _, rfl, _, rfl, _, rfl, ?_⟩
  refine while_by (fun σ H1 => H1 = H ∧ ∃ (a b : Int), σ = [some (.int a), some (.int b)] ∧ 0 ≤ a ∧ 0 ≤ b ∧ Nat.gcd a.toNat b.toNat = Nat.gcd x.natAbs y.natAbs)
    (fun σ _ => match σ with | [_, some (.int b)] => b.toNat | _ => 0) ⟨rfl, _, _, rfl, by split <;> omega, by split <;> omega, by rw [abs_if, abs_if]; rfl⟩ ?_ (fun σ H Q Q' hq z => by
      obtain ⟨v, hv, i, j, e1, e2, k, hk, z⟩ := z
      exact ⟨v, hv, i, j, e1, e2, k, hk, hq _ _ z⟩)
  rintro σ H1 ⟨rfl, a, b, rfl, h1, h2, h3⟩
  refine ⟨_, rfl, _, _, rfl, rfl, _, rfl, ?_⟩
  refine ifD (fun hb => ?_) (fun hb => ?_)
  · refine ⟨_, rfl, _, rfl, _, rfl, _, _, rfl, rfl, hb, _, _, rfl, ⟨rfl, _, _, rfl, h2, Int.emod_nonneg a (by omega), ?_⟩, ?_⟩
    · rw [gcd_step h1 hb]; exact h3
    · have h4 := Int.emod_lt_of_pos a hb
      show (a % b).toNat < b.toNat
      omega
  · refine ⟨_, rfl, ?_⟩
    have hb0 : b = 0 := by omega
    subst hb0
    have h5 : a = ((Nat.gcd x.natAbs y.natAbs : Nat) : Int) := by
      rw [← h3]
      show a = ((Nat.gcd a.toNat 0 : Nat) : Int)
      rw [Nat.gcd_zero_right]
      omega
    rw [h5]
    exact q
def sp_L_spot_of (_ : PySem.W.Frag) : Sp := fun vs H Q _ => ∃ (x y z : Int), vs = [.int x, .int y, .int z] ∧ z ≠ 0 ∧ z.natAbs ≤ 10 ^ 40 ∧ ∀ (p : Addr) (H' : Hp), Same H H' → H p = none → H' p = some (.tup ((lowL (upL x y z)).map V.int)) → Q (.ref p) H'
theorem ok_L_spot_of (F : Fun K "_law_spot_of" "_law_spot_of" s_L_spot_of f fd) (Z : Zs mg) (h_L_low : Has P w K mg base "_law_low" 1 ["_law_one", "_law_other"] (sp_L_low K)) : FnOk P w K mg base CX0 2 f fd ["_law_x", "_law_y", "_law_w"] (sp_L_spot_of K) := by
  refine F.ok sc_L_spot_of (fun vs H Q E h => ?_) (fun cdv A outer s H vs Q E hr h => ?_)
  · obtain ⟨x, y, z, rfl, _⟩ := h
    rfl
  obtain ⟨x, y, z, rfl, hz, hz2, q⟩ := h
  refine ⟨_, (pss_cons (ps_if (pt_cmpR op_lt (pv 2) pe_int (nomark _)) (pss_one (ps_par3 (i := 0) (j := 1) (k := 2) rfl sc_L_spot_of.nd rfl rfl rfl (by decide) (by decide) (by decide) rfl rfl rfl (pa_cons (pe_un un_neg (pv 0)) (pa_cons (pe_un un_neg (pv 1)) (pa_cons (pe_un un_neg (pv 2)) pa_nil))) rfl)) pss_nil)
      (pss_cons (ps_set (i := 3) sc_L_spot_of.nd rfl (Or.inl rfl) (pe_callH h_L_low (hr.mono (by decide)) rfl (pa_cons (pe_callH h_L_low (hr.mono (by decide)) rfl (pa_cons (pv 0) (pa_cons (pv 1) pa_nil))) (pa_cons (pv 2) pa_nil))))
      (pss_one (ps_ret (pe_tup (pa_cons (pe_op op_fdivP (pv 0) (pv 3)) (pa_cons (pe_op op_fdivP (pv 1) (pv 3)) (pa_cons (pe_op op_fdivP (pv 2) (pv 3)) pa_nil)))))))), ?_⟩
  refine ⟨_, rfl, _, _, rfl, rfl, _, rfl, ?_⟩
  refine ifD (fun hneg => ?_) (fun hpos => ?_)
  · refine ⟨_, rfl, _, rfl, _, rfl, _, rfl, _, rfl, _, rfl, _, _, _, rfl, ?_⟩
    have u : upL x y z = [-x, -y, -z] := by unfold upL; rw [if_pos hneg]
    have eg : (Nat.gcd ((Nat.gcd (-x).natAbs (-y).natAbs : Nat) : Int).natAbs (-z).natAbs : Nat) = gcdL [-x, -y, -z] := gcd3 _ _ _
    refine ⟨_, rfl, _, rfl, -x, -y, rfl, _, rfl, _, -z, rfl, ?_⟩
    rw [eg]
    have gp : 0 < gcdL [-x, -y, -z] := gcdL_pos (n := -z) (by simp) (by omega)
    have gle := gcdL_le (ns := [-x, -y, -z]) (n := -z) (by simp) (by omega)
    have dv : ∀ i : Int, CDivP i (gcdL [-x, -y, -z] : Int) := fun i => CDivP.of (by omega) (Int.lt_of_le_of_lt (show (gcdL [-x, -y, -z] : Int) ≤ 10 ^ 40 by omega) (by decide +kernel))
    refine ⟨_, rfl, _, rfl, _, _, rfl, rfl, dv _, _, rfl, _, rfl, _, _, rfl, rfl, dv _, _, rfl, _, rfl, _, _, rfl, rfl, dv _, (by show 3 ≤ sizeLine; decide), fun p hp => ?_⟩
    refine q p _ (same_new hp _) hp ?_
    rw [u]
    exact upd_same
  · have u : upL x y z = [x, y, z] := by unfold upL; rw [if_neg hpos]
    have eg : (Nat.gcd ((Nat.gcd (x).natAbs (y).natAbs : Nat) : Int).natAbs (z).natAbs : Nat) = gcdL [x, y, z] := gcd3 _ _ _
    refine ⟨_, rfl, _, rfl, x, y, rfl, _, rfl, _, z, rfl, ?_⟩
    rw [eg]
    have gp : 0 < gcdL [x, y, z] := gcdL_pos (n := z) (by simp) (by omega)
    have gle := gcdL_le (ns := [x, y, z]) (n := z) (by simp) (by omega)
    have dv : ∀ i : Int, CDivP i (gcdL [x, y, z] : Int) := fun i => CDivP.of (by omega) (Int.lt_of_le_of_lt (show (gcdL [x, y, z] : Int) ≤ 10 ^ 40 by omega) (by decide +kernel))
    refine ⟨_, rfl, _, rfl, _, _, rfl, rfl, dv _, _, rfl, _, rfl, _, _, rfl, rfl, dv _, _, rfl, _, rfl, _, _, rfl, rfl, dv _, (by show 3 ≤ sizeLine; decide), fun p hp => ?_⟩
    refine q p _ (same_new hp _) hp ?_
    rw [u]
    exact upd_same
def sp_L_meet (K : PySem.W.Frag) : Sp := fun vs H Q _ => ∃ (a b : Addr) (e s : P3), vs = [.ref a, .ref b] ∧ Sq K H a [.int e.1, .int e.2.1, .int e.2.2] ∧ Sq K H b [.int s.1, .int s.2.1, .int s.2.2] ∧ e.1.natAbs ≤ 10 ^ 9 ∧ e.2.1.natAbs ≤ 10 ^ 9 ∧ e.2.2.natAbs ≤ 10 ^ 13 ∧ s.1.natAbs ≤ 10 ^ 9 ∧ s.2.1.natAbs ≤ 10 ^ 9 ∧ s.2.2.natAbs ≤ 10 ^ 13 ∧
  (tn e s = 0 → Q .non H) ∧ (tn e s ≠ 0 → ∀ (p : Addr) (H' : Hp), Same H H' → H p = none → H' p = some (.tup ((crL e s).map V.int)) → Q (.ref p) H')
theorem ok_L_meet (F : Fun K "_law_meet" "_law_meet" s_L_meet f fd) (Z : Zs mg) (h_L_spot_of : Has P w K mg base "_law_spot_of" 2 ["_law_x", "_law_y", "_law_w"] (sp_L_spot_of K)) : FnOk P w K mg base CX0 3 f fd ["_law_one", "_law_other"] (sp_L_meet K) := by
  refine F.ok sc_L_meet (fun vs H Q E h => ?_) (fun cdv A outer s H vs Q E hr h => ?_)
  · obtain ⟨a, b, e, s, rfl, _⟩ := h
    rfl
  obtain ⟨a, b, e, t, rfl, ha, hb, b1, b2, b3, c1, c2, c3, q0, q⟩ := h
  refine ⟨_, (pss_cons (ps_set (i := 2) sc_L_meet.nd rfl (Or.inl rfl) (pe_op op_sub (pe_op op_mul (pe_ix ix_any (pv 0) pe_int (fun _ _ => rfl)) (pe_ix ix_any (pv 1) pe_int (fun _ _ => rfl))) (pe_op op_mul (pe_ix ix_any (pv 0) pe_int (fun _ _ => rfl)) (pe_ix ix_any (pv 1) pe_int (fun _ _ => rfl)))))
      (pss_cons (ps_if (pt_cmpR op_eq (pv 2) pe_int (nomark _)) (pss_one (ps_ret pe_non)) pss_nil)
      (pss_one (ps_ret (pe_callH h_L_spot_of (hr.mono (by decide)) rfl (pa_cons (pe_op op_sub (pe_op op_mul (pe_ix ix_any (pv 0) pe_int (fun _ _ => rfl)) (pe_ix ix_any (pv 1) pe_int (fun _ _ => rfl))) (pe_op op_mul (pe_ix ix_any (pv 1) pe_int (fun _ _ => rfl)) (pe_ix ix_any (pv 0) pe_int (fun _ _ => rfl)))) (pa_cons (pe_op op_sub (pe_op op_mul (pe_ix ix_any (pv 0) pe_int (fun _ _ => rfl)) (pe_ix ix_any (pv 1) pe_int (fun _ _ => rfl))) (pe_op op_mul (pe_ix ix_any (pv 1) pe_int (fun _ _ => rfl)) (pe_ix ix_any (pv 0) pe_int (fun _ _ => rfl)))) (pa_cons (pv 2) pa_nil)))))))), ?_⟩
  have z1 := natAbs_mul_le e.1 t.2.1 b1 c2
  have z2 := natAbs_mul_le e.2.1 t.1 b2 c1
  refine ⟨_, rfl, a, _, _, .int e.1, rfl, rfl, ha, rfl, _, rfl, b, _, _, .int t.2.1, rfl, rfl, hb, rfl, _, _, rfl, rfl, cm_l (Nat.le_trans b1 (by decide)), _, rfl, a, _, _, .int e.2.1, rfl, rfl, ha, rfl, _, rfl, b, _, _, .int t.1, rfl, rfl, hb, rfl, _, _, rfl, rfl, cm_l (Nat.le_trans b2 (by decide)), _, _, rfl, rfl, ?_⟩
  refine ⟨_, rfl, rfl, _, rfl, ?_⟩
  refine ifE (fun hw => q0 hw) (fun hw => ?_)
  refine ⟨_, rfl, a, _, _, .int e.2.2, rfl, rfl, ha, rfl, _, rfl, b, _, _, .int t.2.1, rfl, rfl, hb, rfl, _, _, rfl, rfl, cm_l (Nat.le_trans b3 (by decide)), _, rfl, b, _, _, .int t.2.2, rfl, rfl, hb, rfl, _, rfl, a, _, _, .int e.2.1, rfl, rfl, ha, rfl, _, _, rfl, rfl, cm_l (Nat.le_trans c3 (by decide)), _, _, rfl, rfl,
    _, rfl, a, _, _, .int e.1, rfl, rfl, ha, rfl, _, rfl, b, _, _, .int t.2.2, rfl, rfl, hb, rfl, _, _, rfl, rfl, cm_l (Nat.le_trans b1 (by decide)), _, rfl, b, _, _, .int t.1, rfl, rfl, hb, rfl, _, rfl, a, _, _, .int e.2.2, rfl, rfl, ha, rfl, _, _, rfl, rfl, cm_l (Nat.le_trans c1 (by decide)), _, _, rfl, rfl, _, rfl,
    e.2.2 * t.2.1 - t.2.2 * e.2.1, e.1 * t.2.2 - t.1 * e.2.2, e.1 * t.2.1 - e.2.1 * t.1, rfl, hw, (show (e.1 * t.2.1 - e.2.1 * t.1).natAbs ≤ 10 ^ 40 by omega), fun p H' s' hp ep => q hw p H' s' hp ?_⟩
  rw [ep]
  unfold crL
  rw [Int.mul_comm t.2.2 e.2.1, Int.mul_comm t.1 e.2.2]
def hasB (ss : List (Addr × Int × Int × Int)) (x y w : Int) : List Bool := ss.map fun t => decide (t.2.1 * x + t.2.2.1 * y ≤ t.2.2.2 * w)
def sp_L_has (K : PySem.W.Frag) : Sp := fun vs H Q _ => ∃ (a p : Addr) (ss : List (Addr × Int × Int × Int)) (x y w : Int), vs = [.ref a, .ref p] ∧ H a = some (.lst (ss.map fun t => V.ref t.1)) ∧ ss.length ≤ 1000 ∧
  (∀ t ∈ ss, H t.1 = some (.tup [.int t.2.1, .int t.2.2.1, .int t.2.2.2]) ∧ t.2.1.natAbs ≤ 10 ^ 18 ∧ t.2.2.1.natAbs ≤ 10 ^ 18 ∧ t.2.2.2.natAbs ≤ 10 ^ 18) ∧ H p = some (.tup [.int x, .int y, .int w]) ∧
  ∀ H', Same H H' → Q (.bl ((hasB ss x y w).all id)) H'
theorem ok_L_has (F : Fun K "_law_has" "_law_has" s_L_has f fd) (Z : Zs mg)  : FnOk P w K mg base CX0 1 f fd ["_law_sides", "_law_place"] (sp_L_has K) := by
  refine F.ok sc_L_has (fun vs H Q E h => ?_) (fun cdv A outer s H vs Q E hr h => ?_)
  · obtain ⟨a, p, ss, x, y, w, rfl, _⟩ := h
    rfl
  obtain ⟨a, p, ss, x, y, wt, rfl, ha, hl, hs, hp, q⟩ := h
  refine ⟨_, (pss_cons (ps_asg (pv 1) (pg_tup rfl (pgs_cons (pg_name (i := 2) sc_L_has.nd rfl (Or.inr rfl)) (pgs_cons (pg_name (i := 3) sc_L_has.nd rfl (Or.inr rfl)) (pgs_cons (pg_name (i := 4) sc_L_has.nd rfl (Or.inr rfl)) pgs_nil)))))
      (pss_one (ps_ret (pe_callB (call_allB rfl) rfl Z.all bt_all (pa_cons (pe_comp (T := ["_law_a", "_law_b", "_law_c"]) (caps := [("_law_w", 4), ("_law_x", 2), ("_law_y", 3)]) ⟨rfl, by decide +kernel, by decide +kernel, rfl, ⟨⟨rfl, rfl, Or.inl rfl⟩, ⟨rfl, rfl, Or.inl rfl⟩, ⟨rfl, rfl, Or.inl rfl⟩, True.intro⟩⟩ rfl (pi_seq (pv 0)) (fun _ => (pg_tup rfl (pgs_cons (pg_name (i := 0) (show (["_law_a", "_law_b", "_law_c", "_law_w", "_law_x", "_law_y"] : List Str).Nodup by decide +kernel) rfl (Or.inl rfl)) (pgs_cons (pg_name (i := 1) (show (["_law_a", "_law_b", "_law_c", "_law_w", "_law_x", "_law_y"] : List Str).Nodup by decide +kernel) rfl (Or.inl rfl)) (pgs_cons (pg_name (i := 2) (show (["_law_a", "_law_b", "_law_c", "_law_w", "_law_x", "_law_y"] : List Str).Nodup by decide +kernel) rfl (Or.inl rfl)) pgs_nil))))) (fun _ => pifs_nil) (fun _ => (pe_cmpR op_le (pe_op op_add (pe_op op_mul (pv 0) (pv 4)) (pe_op op_mul (pv 1) (pv 5))) (pe_op op_mul (pv 2) (pv 3)) (nomark _)))) pa_nil))))), ?_⟩
  refine ⟨_, rfl, p, _, rfl, SqT.of hp, rfl, .int x, _, rfl, .int y, _, rfl, .int wt, _, rfl, rfl, ?_⟩
  refine ⟨_, rfl, a, rfl, .inl ⟨⟨_, SqL.of ha⟩, fun c D hD => comp_list0 (K := K) (a := a) (xs := ss.map fun t => V.ref t.1) (fun i σ ys H' => H' = upd H D (.lst ys) ∧ ys = (hasB (ss.take i) x y wt).map V.bl ∧ ∃ u v z, σ = [u, v, z, some (.int wt), some (.int x), some (.int y)])
    ⟨rfl, rfl, none, none, none, rfl⟩ (fun i σ ys H' _ ⟨e, _⟩ => by rw [e]; exact ⟨(same_new hD _).seq (SqL.of ha), upd_same⟩) ?_ ?_⟩⟩
  · rintro i r σ ys H' hi ⟨rfl, rfl, u, v, z, rfl⟩
    rw [List.getElem?_map] at hi
    cases ht : ss[i]? with
    | none => rw [ht] at hi; cases hi
    | some t =>
      rw [ht] at hi
      cases hi
      obtain ⟨h1, m1, m2, m3⟩ := hs t (List.mem_of_getElem? ht)
      have hil : i < ss.length := (List.getElem?_eq_some_iff.mp ht).1
      refine ⟨t.1, _, rfl, SqT.of (same_new hD _ _ _ h1), rfl, _, _, rfl, _, _, rfl, _, _, rfl, rfl, ?_⟩
      refine ⟨_, rfl, _, rfl, _, _, rfl, rfl, cm_l (by omega), _, rfl, _, rfl, _, _, rfl, rfl, cm_l (by omega), _, _, rfl, rfl, _, rfl, _, rfl, _, _, rfl, rfl, cm_l (by omega), _, _, rfl, rfl, upd_same, ?_, upd_upd, ?_, _, _, _, rfl⟩
      · refine small1000 ?_
        unfold hasB
        rw [List.length_map, List.length_map, List.length_take]
        omega
      · unfold hasB
        rw [take_snoc ht, List.map_append, List.map_append]
        rfl
  · rintro σ ys H' ⟨rfl, rfl, u, v, z, rfl⟩
    rw [List.length_map, List.take_length]
    exact ⟨D, hasB ss x y wt, rfl, SqL.of upd_same, q _ (same_new hD _)⟩
theorem has_inW {ss : List Sd} {P : P3} : (hasB ss P.1 P.2.1 P.2.2).all id = inWB ss P := by
  unfold hasB inWB
  rw [List.all_map]
  congr 1
  funext t
  show decide (t.2.1 * P.1 + t.2.2.1 * P.2.1 ≤ t.2.2.2 * P.2.2) = decide (sv t.2 P ≤ 0)
  refine decide_eq_decide.mpr ?_
  unfold sv
  omega
theorem hasArg {H : Hp} {ss : List Sd} (ok : SdOk H ss) : ∀ t ∈ ss, H t.1 = some (.tup [.int t.2.1, .int t.2.2.1, .int t.2.2.2]) ∧ t.2.1.natAbs ≤ 10 ^ 18 ∧ t.2.2.1.natAbs ≤ 10 ^ 18 ∧ t.2.2.2.natAbs ≤ 10 ^ 18 := fun t ht => by
  obtain ⟨h1, _, h2, h3, h4⟩ := ok t ht
  exact ⟨h1, by omega, by omega, by omega⟩
structure CrK (ss : List Sd) (i j : Nat) (ks : List (List Int)) : Prop where
  each : ∀ k ∈ ks, ∃ t ∈ ss, ∃ u ∈ ss, tn t.2 u.2 ≠ 0 ∧ k = crL t.2 u.2 ∧ inW ss (pt3 (crL t.2 u.2))
  all : ∀ (a b : Nat) (t u : Sd), a < b → (a < i ∨ (a = i ∧ b < i + 1 + j)) → ss[a]? = some t → ss[b]? = some u → tn t.2 u.2 ≠ 0 → inW ss (pt3 (crL t.2 u.2)) → crL t.2 u.2 ∈ ks
def sp_L_corners_of (K : PySem.W.Frag) : Sp := fun vs H Q _ => ∃ (l : Addr) (ss : List Sd), vs = [.ref l] ∧ H l = some (.lst (sdRefs ss)) ∧ SdOk H ss ∧ ss.length ≤ 900 ∧
  ∀ (D : Addr) (qs : List (Addr × P3)) (H' : Hp), Same H H' → H D = none → H' D = some (.lst (spRefs qs)) → SpsOk H' qs → qs.length ≤ 1000000 → (∀ t ∈ ss, ∀ u ∈ ss, tn t.2 u.2 ≠ 0 → inW ss (pt3 (crL t.2 u.2)) → pt3 (crL t.2 u.2) ∈ qs.map (·.2)) → (qs.map (·.2)).Nodup → (∀ P ∈ qs.map (·.2), Cor ss P) → Q (.ref D) H'
theorem ok_L_corners_of (F : Fun K "_law_corners_of" "_law_corners_of" s_L_corners_of f fd) (Z : Zs mg) (h_L_has : Has P w K mg base "_law_has" 1 ["_law_sides", "_law_place"] (sp_L_has K)) (h_L_meet : Has P w K mg base "_law_meet" 3 ["_law_one", "_law_other"] (sp_L_meet K)) : FnOk P w K mg base CX0 4 f fd ["_law_sides"] (sp_L_corners_of K) := by
  refine F.ok sc_L_corners_of (fun vs H Q E h => ?_) (fun cdv A outer s H vs Q E hr h => ?_)
  · obtain ⟨l, ss, rfl, _⟩ := h
    rfl
  obtain ⟨l, ss, rfl, el, ok, hlen, q⟩ := h
  have hu1 := Nat.lt_of_le_of_lt (Nat.add_le_add_left (show 1 ≤ 64 by decide) _) hr.units
  have big : ∀ n : Nat, n ≤ 1000000 → n < sizeLine := fun n hn => Nat.lt_of_le_of_lt hn (by decide)
  refine ⟨_, (pss_cons (ps_set (i := 1) sc_L_corners_of.nd rfl (Or.inl rfl) pe_dnewT)
      (pss_cons (ps_for PassesOwn.never rfl (pi_enum rfl Z.enumerate (pa_cons (pv 0) pa_nil)) (pg_tup rfl (pgs_cons (pg_name (i := 2) sc_L_corners_of.nd rfl (Or.inl rfl)) (pgs_cons (pg_name (i := 3) sc_L_corners_of.nd rfl (Or.inl rfl)) pgs_nil))) (pss_one (ps_for PassesOwn.never rfl (pi_list (pe_slice sl_list (pv 0) (po_some (pe_op op_add (pv 2) pe_int)) po_none)) (pg_name (i := 4) sc_L_corners_of.nd rfl (Or.inl rfl)) (pss_cons (ps_set (i := 5) sc_L_corners_of.nd rfl (Or.inl rfl) (pe_callH h_L_meet (hr.mono (by decide)) rfl (pa_cons (pv 3) (pa_cons (pv 4) pa_nil))))
      (pss_one (ps_if (PW.pt (pw_and (pt_cmpR op_notN (pv 5) pe_non (nomark _)) (pw_and1 (pt_val (pe_callH h_L_has (hr.mono (by decide)) rfl (pa_cons (pv 0) (pa_cons (pv 5) pa_nil))))))) (pss_one (ps_dput hu1 (pv 1) (pv 5) pe_bl rfl)) pss_nil))))))
      (pss_one (ps_ret (pe_callTy (call_list_dT rfl) rfl Z.list bt_list (pa_cons (pv 1) pa_nil)))))), ?_⟩
  refine fun d hd => ?_
  refine ⟨_, rfl, l, _, rfl, same_new hd _ _ _ el, for_enum (K := K) (l := l) (xs := sdRefs ss) (fun i σ H' => Same H H' ∧ (∃ kvs ks, H' d = some (.dT kvs) ∧ TabK kvs ks ∧ ks.length ≤ 1000 * i ∧ CrK ss i 0 ks) ∧ ∃ u2 u3 u4 u5 : Option V, σ = [some (.ref l), some (.ref d), u2, u3, u4, u5])
    ⟨same_new hd _, ⟨[], [], upd_same, .nil, Nat.le_refl _, (fun k hk => nomatch hk), fun a b t u hab hc => absurd hc (by omega)⟩, none, none, none, none, rfl⟩ (fun i σ H' ⟨e, _⟩ => SqL.of (e _ _ el)) ?_ ?_⟩
  · rintro i v T σ H' hi hT ⟨sH, ⟨kvs, ks, eD, tk, hks, cr⟩, u2, u3, u4, u5, rfl⟩
    obtain ⟨t, gt, rfl, hil⟩ := sdRefs_get hi
    obtain ⟨et0, nt, b1, b2, b3⟩ := ok t (List.mem_of_getElem? gt)
    have sT : Same H' (upd H' T (.tup [.int i, .ref t.1])) := same_new hT _
    have eT : upd H' T (.tup [.int i, .ref t.1]) T = some (.tup [.int i, .ref t.1]) := upd_same
    generalize upd H' T (.tup [.int i, .ref t.1]) = H2 at sT eT ⊢
    refine ⟨T, _, rfl, SqT.of eT, rfl, .int i, _, rfl, .ref t.1, _, rfl, rfl, ?_⟩
    have sH2 := sH.trans sT
    refine ⟨_, rfl, _, rfl, _, _, rfl, rfl, _, rfl, l, _, rfl, SqL.of (sH2 _ _ el), fun c hc => ?_⟩
    rw [show ((i : Nat) : Int) + 1 = ((i + 1 : Nat) : Int) from by omega, sd_from]
    have sc : Same H2 (upd H2 c (.lst (sdRefs (ss.drop (i + 1))))) := same_new hc _
    have ec : upd H2 c (.lst (sdRefs (ss.drop (i + 1)))) c = some (.lst (sdRefs (ss.drop (i + 1)))) := upd_same
    generalize upd H2 c (.lst (sdRefs (ss.drop (i + 1)))) = H3 at sc ec ⊢
    have s3 := sH2.trans sc
    have eD3 := sc _ _ (sT _ _ eD)
    have ncd : c ≠ d := fun z => by rw [z] at ec; rw [ec] at eD3; cases eD3
    refine ⟨c, rfl, ⟨_, SqL.of ec⟩, for_list (K := K) (a := c) (xs := sdRefs (ss.drop (i + 1))) (fun j σ H' => Same H H' ∧ H' c = some (.lst (sdRefs (ss.drop (i + 1)))) ∧ (∃ kvs ks, H' d = some (.dT kvs) ∧ TabK kvs ks ∧ ks.length ≤ 1000 * i + j ∧ CrK ss i j ks) ∧ ∃ u4 u5 : Option V, σ = [some (.ref l), some (.ref d), some (.int i), some (.ref t.1), u4, u5])
      ⟨s3, ec, ⟨kvs, ks, eD3, tk, by omega, cr⟩, _, _, rfl⟩ (fun j σ H' _ ⟨_, e, _⟩ => SqL.of e) ?_ ?_⟩
    · rintro j v σ H4 hj ⟨s4, ec4, ⟨kvs, ks, eD4, tk, hks4, cr⟩, u4, u5, rfl⟩
      obtain ⟨u, gu0, rfl, hjl⟩ := sdRefs_get hj
      rw [List.length_drop] at hjl
      have gu : ss[i + 1 + j]? = some u := by rw [List.getElem?_drop] at gu0; exact gu0
      obtain ⟨eu0, _, c1, c2, c3⟩ := ok u (List.mem_of_getElem? gu)
      have step : ∀ ks' : List (List Int), (∀ k ∈ ks, k ∈ ks') → (∀ k ∈ ks', k ∈ ks ∨ (tn t.2 u.2 ≠ 0 ∧ k = crL t.2 u.2 ∧ inW ss (pt3 (crL t.2 u.2)))) → (tn t.2 u.2 ≠ 0 → inW ss (pt3 (crL t.2 u.2)) → crL t.2 u.2 ∈ ks') → CrK ss i (j + 1) ks' := fun ks' k1 k2 k3 => by
        refine ⟨fun k hk => ?_, fun a b x y hab hc gx gy hxy hw => ?_⟩
        · rcases k2 k hk with h | ⟨h1, h2⟩
          · exact cr.each k h
          · exact ⟨t, List.mem_of_getElem? gt, u, List.mem_of_getElem? gu, h1, h2⟩
        · by_cases e : a = i ∧ b = i + 1 + j
          · obtain ⟨rfl, rfl⟩ := e
            rw [gt] at gx
            rw [gu] at gy
            cases gx
            cases gy
            exact k3 hxy hw
          · exact k1 _ (cr.all a b x y hab (by omega) gx gy hxy hw)
      refine ⟨_, rfl, _, rfl, t.1, u.1, t.2, u.2, rfl, .inr (SqT.of (s4 _ _ et0)), .inr (SqT.of (s4 _ _ eu0)), b1, b2, b3, c1, c2, c3, fun h0 => ?_, fun h0 p H5 s5 hp ep => ?_⟩
      · refine ⟨_, rfl, rfl, _, rfl, ?_⟩
        refine iteF ?_
        refine iteF ?_
        exact ⟨s4, ec4, ⟨kvs, ks, eD4, tk, by omega, step ks (fun k h => h) (fun k h => .inl h) fun z => absurd h0 z⟩, _, _, rfl⟩
      · obtain ⟨sp, _, _⟩ := cr_ok h0
        have ep' : H5 p = some (.tup [.int (pt3 (crL t.2 u.2)).1, .int (pt3 (crL t.2 u.2)).2.1, .int (pt3 (crL t.2 u.2)).2.2]) := by
          rw [ep, sp.list]
          rfl
        have s45 := s4.trans s5
        refine ⟨_, rfl, rfl, _, rfl, ?_⟩
        refine iteT ?_
        refine ⟨_, rfl, _, rfl, l, p, ss, _, _, _, rfl, by rw [← sdRefs_map]; exact s45 _ _ el, by omega, hasArg (ok.same s45), ep', fun H6 s6 => ?_⟩
        rw [has_inW]
        refine ⟨_, rfl, ?_⟩
        by_cases hw : inWB ss (pt3 (crL t.2 u.2)) = true
        · rw [hw]
          refine iteT ?_
          have eD6 := s6 _ _ (s5 _ _ eD4)
          obtain ⟨ks', tk', mem', len'⟩ := tk.put (crL t.2 u.2) (.bl true)
          have kl := tk.len
          refine ⟨_, rfl, _, rfl, d, _, rfl, DPut.t (k := keyI (crL t.2 u.2)) eD6 (by rw [keyI_kV]; exact s6 _ _ ep) (by rw [kl]; exact big _ (by omega)), ?_⟩
          refine ⟨(s45.trans s6).putNew hd, ?_, ⟨_, ks', upd_same, tk', by omega, step ks' (fun k h => (mem' k).mpr (.inl h)) (fun k h => ((mem' k).mp h).imp id fun z => ⟨h0, z, inWB_iff.mp hw⟩) fun _ _ => (mem' _).mpr (.inr rfl)⟩, _, _, rfl⟩
          rw [upd_ne ncd]
          exact s6 _ _ (s5 _ _ ec4)
        · have hw' : inWB ss (pt3 (crL t.2 u.2)) = false := by simpa using hw
          rw [hw']
          refine iteF ?_
          exact ⟨s45.trans s6, s6 _ _ (s5 _ _ ec4), ⟨kvs, ks, s6 _ _ (s5 _ _ eD4), tk, by omega, step ks (fun k h => h) (fun k h => .inl h) fun _ z => absurd (inWB_iff.mpr z) hw⟩, _, _, rfl⟩
    · rintro σ H4 ⟨s4, _, ⟨kvs, ks, eD4, tk, hks4, cr⟩, u4, u5, rfl⟩
      rw [sdRefs_length, List.length_drop] at hks4 cr
      refine ⟨s4, ⟨kvs, ks, eD4, tk, by omega, cr.each, fun a b x y hab hc gx gy => ?_⟩, _, _, _, _, rfl⟩
      have hb : b < ss.length := (List.getElem?_eq_some_iff.mp gy).1
      exact cr.all a b x y hab (by omega) gx gy
  · rintro σ H' ⟨sH, ⟨kvs, ks, eD, tk, hks, cr⟩, u2, u3, u4, u5, rfl⟩
    rw [sdRefs_length] at hks cr
    refine ⟨_, rfl, d, kvs, rfl, eD, fun p1 ts hp1 ets hts => ?_⟩
    have sp1 := same_new hp1 (.lst ((ts.map (·.1)).map V.ref))
    obtain ⟨us, w1, w2, w3⟩ := tk.refs ets hts
    have hk : us.length = ks.length := by have z := congrArg List.length w2; rwa [List.length_map] at z
    refine q p1 (us.map fun u => (u.1, pt3 u.2)) _ (sH.trans sp1) (sH.free hp1) (by rw [upd_same]; simp only [spRefs, List.map_map]; rw [← List.map_map, ← w1]; simp) (fun x hx => ?_) (by rw [List.length_map]; omega) (fun t ht u hu htu hw => ?_) ?_ fun P hP => ?_
    · obtain ⟨y, hy, rfl⟩ := List.mem_map.mp hx
      have hyk : y.2 ∈ ks := by rw [← w2]; exact List.mem_map_of_mem hy
      obtain ⟨t, _, u, _, htu, ek, _⟩ := cr.each y.2 hyk
      obtain ⟨sp, _, _⟩ := cr_ok htu
      have ey := sp1 _ _ (w3 y hy)
      rw [ek] at ey ⊢
      refine ⟨?_, sp.pos, sp.low⟩
      show upd H' p1 _ y.1 = _
      rw [ey, sp.list]
      rfl
    · obtain ⟨a, ha, ea⟩ := List.getElem_of_mem ht
      obtain ⟨b, hb, eb⟩ := List.getElem_of_mem hu
      have ga : ss[a]? = some t := by rw [List.getElem?_eq_getElem ha, ea]
      have gb : ss[b]? = some u := by rw [List.getElem?_eq_getElem hb, eb]
      have key : crL t.2 u.2 ∈ ks := by
        by_cases hab : a < b
        · exact cr.all a b t u hab (.inl (by omega)) ga gb htu hw
        · by_cases e : a = b
          · subst e
            rw [ga] at gb
            cases gb
            exact absurd (by unfold tn; rw [Int.mul_comm]; omega) htu
          · have hut : tn u.2 t.2 ≠ 0 := fun z => htu (by unfold tn at z ⊢; rw [Int.mul_comm u.2.1, Int.mul_comm u.2.2.1] at z; omega)
            rw [cr_swap htu] at hw ⊢
            exact cr.all b a u t (by omega) (.inl (by omega)) gb ga hut hw
      rw [List.map_map]
      have z : crL t.2 u.2 ∈ us.map (·.2) := by rw [w2]; exact key
      obtain ⟨y, hy, ey⟩ := List.mem_map.mp z
      exact List.mem_map.mpr ⟨y, hy, by show pt3 y.2 = _; rw [ey]⟩
    · have e : (us.map fun u => (u.1, pt3 u.2)).map (·.2) = ks.map pt3 := by rw [← w2, List.map_map, List.map_map]; rfl
      rw [e, List.Nodup, List.pairwise_map]
      refine List.Pairwise.imp_of_mem (fun {k k'} hk hk' hne ee => ?_) tk.nodup
      obtain ⟨t, _, u, _, htu, rfl, _⟩ := cr.each k hk
      obtain ⟨t', _, u', _, htu', rfl, _⟩ := cr.each k' hk'
      exact hne (by rw [(cr_ok htu).1.list, (cr_ok htu').1.list, ee])
    · rw [List.map_map] at hP
      obtain ⟨y, hy, rfl⟩ := List.mem_map.mp hP
      have hyk : y.2 ∈ ks := by rw [← w2]; exact List.mem_map_of_mem hy
      obtain ⟨t, ht, u, hu, htu, ek, hw⟩ := cr.each y.2 hyk
      exact ⟨t, ht, u, hu, htu, by show pt3 y.2 = _; rw [ek], by show inW ss (pt3 y.2); rw [ek]; exact hw⟩
def sp_L_feet (K : PySem.W.Frag) : Sp := fun vs H Q _ => ∃ (l : Addr) (ss : List Sd), vs = [.ref l] ∧ SqL K H l (sdRefs ss) ∧ SdOk H ss ∧ ss.length ≤ 900 ∧
  ∀ (D : Addr) (qs : List (Addr × P3)) (H' : Hp), Same H H' → H D = none → H' D = some (.lst (spRefs qs)) → SpsOk H' qs → qs.map (·.2) = ss.map (fun t => pt3 (ftL t.2)) → Q (.ref D) H'
theorem ok_L_feet (F : Fun K "_law_feet" "_law_feet" s_L_feet f fd) (Z : Zs mg) (h_L_spot_of : Has P w K mg base "_law_spot_of" 2 ["_law_x", "_law_y", "_law_w"] (sp_L_spot_of K)) : FnOk P w K mg base CX0 3 f fd ["_law_sides"] (sp_L_feet K) := by
  refine F.ok sc_L_feet (fun vs H Q E h => ?_) (fun cdv A outer s H vs Q E hr h => ?_)
  · obtain ⟨l, ss, rfl, _⟩ := h
    rfl
  obtain ⟨l, ss, rfl, hl, ok, hlen, q⟩ := h
  refine ⟨_, (pss_one (ps_ret (pe_comp (T := ["_law_a", "_law_b", "_law_c"]) (caps := []) ⟨rfl, by decide +kernel, by decide +kernel, rfl, True.intro⟩ rfl (pi_seq (pv 0)) (fun _ => (pg_tup rfl (pgs_cons (pg_name (i := 0) (show (["_law_a", "_law_b", "_law_c"] : List Str).Nodup by decide +kernel) rfl (Or.inl rfl)) (pgs_cons (pg_name (i := 1) (show (["_law_a", "_law_b", "_law_c"] : List Str).Nodup by decide +kernel) rfl (Or.inl rfl)) (pgs_cons (pg_name (i := 2) (show (["_law_a", "_law_b", "_law_c"] : List Str).Nodup by decide +kernel) rfl (Or.inl rfl)) pgs_nil))))) (fun _ => pifs_nil) (fun _ => (pe_callH h_L_spot_of (hr.mono (by decide)) rfl (pa_cons (pe_op op_mul (pv 0) (pv 2)) (pa_cons (pe_op op_mul (pv 1) (pv 2)) (pa_cons (pe_op op_add (pe_op op_mul (pv 0) (pv 0)) (pe_op op_mul (pv 1) (pv 1))) pa_nil)))))))), ?_⟩
  refine ⟨_, rfl, l, rfl, .inl ⟨⟨_, hl⟩, fun c D hD => comp_list0 (K := K) (a := l) (xs := sdRefs ss) (fun i σ ys H' => Same H H' ∧ H' D = some (.lst ys) ∧ (∃ qs : List (Addr × P3), ys = spRefs qs ∧ qs.length = i ∧ SpsOk H' qs ∧ qs.map (·.2) = (ss.take i).map (fun t => pt3 (ftL t.2))) ∧ ∃ u v z : Option V, σ = [u, v, z])
    ⟨same_new hD _, upd_same, ⟨[], rfl, rfl, (fun t ht => nomatch ht), rfl⟩, none, none, none, rfl⟩ (fun i σ ys H' _ ⟨e1, e2, _⟩ => ⟨e1.seq hl, e2⟩) ?_ ?_⟩⟩
  · rintro i v σ ys H' hi ⟨sH, eD, ⟨qs, rfl, hq, okq, hm⟩, u, v', z, rfl⟩
    obtain ⟨t, gt, rfl, hil⟩ := sdRefs_get hi
    obtain ⟨et0, nt, c1, c2, c3⟩ := ok t (List.mem_of_getElem? gt)
    have z1 := natAbs_mul_le t.2.1 t.2.1 c1 c1
    have z2 := natAbs_mul_le t.2.2.1 t.2.2.1 c2 c2
    have pos := nn_pos nt
    refine ⟨t.1, _, rfl, SqT.of (sH _ _ et0), rfl, .int t.2.1, _, rfl, .int t.2.2.1, _, rfl, .int t.2.2.2, _, rfl, rfl, ?_⟩
    refine ⟨_, rfl, _, rfl, _, _, rfl, rfl, cm_l (by omega), _, rfl, _, rfl, _, _, rfl, rfl, cm_l (by omega), _, rfl, _, rfl, _, _, rfl, rfl, cm_l (by omega), _, rfl, _, rfl, _, _, rfl, rfl, cm_l (by omega), _, _, rfl, rfl,
      t.2.1 * t.2.2.2, t.2.2.1 * t.2.2.2, t.2.1 * t.2.1 + t.2.2.1 * t.2.2.1, rfl, by omega, by omega, fun p H2 s2 hp ep => ?_⟩
    obtain ⟨sf, _⟩ := ft_ok (t := t.2) nt
    have ep' : H2 p = some (.tup [.int (pt3 (ftL t.2)).1, .int (pt3 (ftL t.2)).2.1, .int (pt3 (ftL t.2)).2.2]) := by
      have z : H2 p = some (.tup ((ftL t.2).map V.int)) := ep
      rw [z, sf.list]
      rfl
    have npD : p ≠ D := fun z => by rw [z, eD] at hp; cases hp
    refine ⟨s2 _ _ eD, small1000 (by simp only [List.length_map]; omega), (sH.trans s2).putNew hD, upd_same, ⟨qs ++ [(p, pt3 (ftL t.2))], by simp [spRefs], by rw [List.length_append, hq]; rfl, fun u hu => ?_, by rw [take_snoc gt, List.map_append, List.map_append, hm]; rfl⟩, _, _, _, rfl⟩
    rcases List.mem_append.mp hu with hu | hu
    · obtain ⟨g1, g2⟩ := okq u hu
      exact ⟨by rw [upd_ne (ne_of (s2 _ _ g1) (s2 _ _ eD) (by intro z; cases z))]; exact s2 _ _ g1, g2⟩
    · rw [List.mem_singleton] at hu
      subst hu
      refine ⟨?_, sf.pos, sf.low⟩
      show upd H2 D _ p = _
      rw [upd_ne npD]
      exact ep'
  · rintro σ ys H' ⟨sH, eD, ⟨qs, rfl, hq, okq, hm⟩, u, v', z, rfl⟩
    rw [sdRefs_length, List.take_length] at hm
    exact q D qs H' sH hD eD okq hm
def SpAt (H : Hp) (p : Addr) (P : P3) : Prop := H p = some (.tup [.int P.1, .int P.2.1, .int P.2.2]) ∧ 0 < P.2.2 ∧ Nat.gcd (Nat.gcd P.1.natAbs P.2.1.natAbs) P.2.2.natAbs = 1
def sp_L_any_place (K : PySem.W.Frag) : Sp := fun vs H Q _ => ∃ (l : Addr) (ss : List Sd), vs = [.ref l] ∧ H l = some (.lst (sdRefs ss)) ∧ SdOk H ss ∧ ss.length ≤ 900 ∧
  (∀ H' : Hp, Same H H' → (∀ P : P3, Cand ss P → ¬ inW ss P) → Q .non H') ∧
  ∀ (p : Addr) (P : P3) (H' : Hp), Same H H' → SpAt H' p P → inW ss P → Q (.ref p) H'
theorem ok_L_any_place (F : Fun K "_law_any_place" "_law_any_place" s_L_any_place f fd) (Z : Zs mg) (h_L_corners_of : Has P w K mg base "_law_corners_of" 4 ["_law_sides"] (sp_L_corners_of K)) (h_L_feet : Has P w K mg base "_law_feet" 3 ["_law_sides"] (sp_L_feet K)) (h_L_has : Has P w K mg base "_law_has" 1 ["_law_sides", "_law_place"] (sp_L_has K)) : FnOk P w K mg base CX0 5 f fd ["_law_sides"] (sp_L_any_place K) := by
  refine F.ok sc_L_any_place (fun vs H Q E h => ?_) (fun cdv A outer s H vs Q E hr h => ?_)
  · obtain ⟨l, ss, rfl, _⟩ := h
    rfl
  obtain ⟨l, ss, rfl, el, ok, hlen, qn, q⟩ := h
  have big : ∀ n : Nat, n ≤ 2000000 → n ≤ sizeLine := fun n hn => Nat.le_trans hn (by decide)
  refine ⟨_, (pss_cons (ps_for PassesOwn.never rfl (pi_seq (pe_op op_cat (pe_op op_cat (pe_callH h_L_corners_of (hr.mono (by decide)) rfl (pa_cons (pv 0) pa_nil)) (pe_callH h_L_feet (hr.mono (by decide)) rfl (pa_cons (pv 0) pa_nil))) (pe_lst (pa_cons (pe_tup (pa_cons pe_int (pa_cons pe_int (pa_cons pe_int pa_nil)))) pa_nil)))) (pg_name (i := 1) sc_L_any_place.nd rfl (Or.inl rfl)) (pss_one (ps_if (pt_val (pe_callH h_L_has (hr.mono (by decide)) rfl (pa_cons (pv 0) (pa_cons (pv 1) pa_nil)))) (pss_one (ps_ret (pv 1))) pss_nil)))
      (pss_one (ps_ret pe_non))), ?_⟩
  refine ⟨_, rfl, l, ss, rfl, el, ok, hlen, fun D1 qs1 H1 s1 hD1 eD1 ok1 n1 all1 _ _ => ?_⟩
  refine ⟨_, rfl, l, ss, rfl, SqL.of (s1 _ _ el), ok.same s1, hlen, fun D2 qs2 H2 s2 hD2 eD2 ok2 m2 => ?_⟩
  have n2 : qs2.length = ss.length := by have z := congrArg List.length m2; rwa [List.length_map, List.length_map] at z
  refine ⟨D1, D2, _, _, rfl, rfl, s2 _ _ eD1, eD2, big _ (by simp only [List.length_map]; omega), fun D3 hD3 => ?_⟩
  have s3 : Same H2 (upd H2 D3 (.lst (spRefs qs1 ++ spRefs qs2))) := same_new hD3 _
  have eD3 : upd H2 D3 (.lst (spRefs qs1 ++ spRefs qs2)) D3 = some (.lst (spRefs (qs1 ++ qs2))) := by rw [upd_same]; simp [spRefs]
  generalize upd H2 D3 (.lst (spRefs qs1 ++ spRefs qs2)) = H3 at s3 eD3 ⊢
  refine ⟨(by show 3 ≤ sizeLine; decide), fun o ho => ?_⟩
  have so : Same H3 (upd H3 o (.tup [.int 0, .int 0, .int 1])) := same_new ho _
  have eo : upd H3 o (.tup [.int 0, .int 0, .int 1]) o = some (.tup [.int 0, .int 0, .int 1]) := upd_same
  generalize upd H3 o (.tup [.int 0, .int 0, .int 1]) = H4 at so eo ⊢
  refine ⟨(by show 1 ≤ sizeLine; decide), fun ol hol => ?_⟩
  have sol : Same H4 (upd H4 ol (.lst [.ref o])) := same_new hol _
  have eol : upd H4 ol (.lst [.ref o]) ol = some (.lst [.ref o]) := upd_same
  generalize upd H4 ol (.lst [.ref o]) = H5 at sol eol ⊢
  refine ⟨D3, ol, _, _, rfl, rfl, sol _ _ (so _ _ eD3), eol, big _ (by simp only [List.length_map, List.length_append]; show qs1.length + qs2.length + 1 ≤ 2000000; omega), fun L hL => ?_⟩
  have sL : Same H5 (upd H5 L (.lst (spRefs (qs1 ++ qs2) ++ [.ref o]))) := same_new hL _
  have eL : upd H5 L (.lst (spRefs (qs1 ++ qs2) ++ [.ref o])) L = some (.lst (spRefs ((qs1 ++ qs2) ++ [(o, (0, 0, 1))]))) := by rw [upd_same]; simp [spRefs]
  generalize upd H5 L (.lst (spRefs (qs1 ++ qs2) ++ [.ref o])) = H6 at sL eL ⊢
  have s46 := sol.trans sL
  have s26 := (s3.trans so).trans s46
  have s16 := s2.trans s26
  have s06 := s1.trans s16
  have okA : SpsOk H6 ((qs1 ++ qs2) ++ [(o, (0, 0, 1))]) := fun u hu => by
    rcases List.mem_append.mp hu with hu | hu
    · rcases List.mem_append.mp hu with hu | hu
      · exact ok1.same s16 u hu
      · exact ok2.same s26 u hu
    · rw [List.mem_singleton] at hu
      subst hu
      exact ⟨s46 _ _ eo, (by show (0 : Int) < 1; decide), (by show Nat.gcd (Nat.gcd (0 : Int).natAbs (0 : Int).natAbs) (1 : Int).natAbs = 1; decide)⟩
  refine ⟨L, rfl, .inl ⟨⟨_, SqL.of eL⟩, for_list (K := K) (a := L) (xs := spRefs ((qs1 ++ qs2) ++ [(o, (0, 0, 1))])) (fun i σ H' => Same H6 H' ∧ (∀ j u, j < i → ((qs1 ++ qs2) ++ [(o, (0, 0, 1))])[j]? = some u → ¬ inW ss u.2) ∧ ∃ u2 : Option V, σ = [some (.ref l), u2])
    ⟨Same.refl _, fun j t hj => absurd hj (Nat.not_lt_zero _), none, rfl⟩ (fun i σ H' _ ⟨e1, _⟩ => SqL.of (e1 _ _ eL)) ?_ ?_⟩⟩
  · rintro i v σ H' hi ⟨sH, hall, u2, rfl⟩
    rw [List.getElem?_map, List.getElem?_map] at hi
    cases gu : ((qs1 ++ qs2) ++ [(o, ((0, 0, 1) : P3))])[i]? with
    | none => rw [gu] at hi; cases hi
    | some u =>
      rw [gu] at hi
      cases hi
      obtain ⟨eu, pu, lu⟩ := okA u (List.mem_of_getElem? gu)
      have s0H := s06.trans sH
      refine ⟨_, rfl, _, rfl, l, u.1, ss, _, _, _, rfl, by rw [← sdRefs_map]; exact s0H _ _ el, by omega, hasArg (ok.same s0H), sH _ _ eu, fun H8 s8 => ?_⟩
      rw [has_inW]
      refine ⟨_, rfl, ?_⟩
      by_cases hw : inWB ss u.2 = true
      · rw [hw]
        refine iteT ?_
        exact ⟨_, rfl, q u.1 u.2 _ (s0H.trans s8) ⟨s8 _ _ (sH _ _ eu), pu, lu⟩ (inWB_iff.mp hw)⟩
      · have hw' : inWB ss u.2 = false := by simpa using hw
        rw [hw']
        refine iteF ?_
        refine ⟨sH.trans s8, fun j t hj ht => ?_, _, rfl⟩
        by_cases ej : j = i
        · rw [ej, gu] at ht
          cases ht
          exact fun z => hw (inWB_iff.mpr z)
        · exact hall j t (by omega) ht
  · rintro σ H' ⟨sH, hall, u2, rfl⟩
    refine qn _ (s06.trans sH) fun P cP wP => ?_
    have nin : ∀ u ∈ (qs1 ++ qs2) ++ [(o, ((0, 0, 1) : P3))], ¬ inW ss u.2 := fun u hu => by
      obtain ⟨j, hj, ej⟩ := List.getElem_of_mem hu
      exact hall j u (by simp only [List.length_map]; exact hj) (by rw [List.getElem?_eq_getElem hj, ej])
    rcases cP with rfl | ⟨t, ht, rfl⟩ | ⟨t, ht, u, hu, htu, rfl⟩
    · exact nin (o, (0, 0, 1)) (by simp) wP
    · have z : pt3 (ftL t.2) ∈ qs2.map (·.2) := by rw [m2]; exact List.mem_map.mpr ⟨t, ht, rfl⟩
      obtain ⟨y, hy, ey⟩ := List.mem_map.mp z
      exact nin y (List.mem_append_left _ (List.mem_append_right _ hy)) (by rw [ey]; exact wP)
    · obtain ⟨y, hy, ey⟩ := List.mem_map.mp (all1 t ht u hu htu wP)
      exact nin y (List.mem_append_left _ (List.mem_append_left _ hy)) (by rw [ey]; exact wP)
def DR (H : Hp) : Nat → V → V → Prop
  | 0, x, y => x = y ∧ ((∃ i, x = .int i) ∨ ∃ b, x = .bl b)
  | n + 1, x, y => (x = y ∧ ((∃ i, x = .int i) ∨ ∃ b, x = .bl b)) ∨ ∃ (a b : Addr) (xs ys : List V) (l : Bool), x = .ref a ∧ y = .ref b ∧ H a = some (if l then .lst xs else .tup xs) ∧ H b = some (if l then .lst ys else .tup ys) ∧ xs.length = ys.length ∧ xs.length ≤ 9000 ∧
      ∀ (i : Nat) (u v : V), xs[i]? = some u → ys[i]? = some v → DR H n u v
theorem DR.same {H H' : Hp} (e : Same H H') : ∀ {n : Nat} {x y : V}, DR H n x y → DR H' n x y
  | 0, _, _, h => h
  | n + 1, x, y, h => by
    rcases h with h | ⟨a, b, xs, ys, l, e1, e2, h1, h2, h3, h4, h5⟩
    · exact .inl h
    · exact .inr ⟨a, b, xs, ys, l, e1, e2, e _ _ h1, e _ _ h2, h3, h4, fun i u v g1 g2 => DR.same e (h5 i u v g1 g2)⟩
theorem DR.int {H : Hp} {n : Nat} {x y : Int} (h : x = y) : DR H n (.int x) (.int y) := by
  subst h
  cases n with
  | zero => exact ⟨rfl, .inl ⟨x, rfl⟩⟩
  | succ m => exact .inl ⟨rfl, .inl ⟨x, rfl⟩⟩
theorem DR.bl {H : Hp} {n : Nat} {x y : Bool} (h : x = y) : DR H n (.bl x) (.bl y) := by
  subst h
  cases n with
  | zero => exact ⟨rfl, .inr ⟨x, rfl⟩⟩
  | succ m => exact .inl ⟨rfl, .inr ⟨x, rfl⟩⟩
theorem DR.tupI {H : Hp} {n : Nat} {a b : Addr} {xs ys : List Int} (h1 : H a = some (.tup (xs.map V.int))) (h2 : H b = some (.tup (ys.map V.int))) (e : xs = ys) (hl : xs.length ≤ 9000) : DR H (n + 1) (.ref a) (.ref b) := by
  subst e
  refine .inr ⟨a, b, xs.map V.int, xs.map V.int, false, rfl, rfl, h1, h2, rfl, by rw [List.length_map]; exact hl, fun i u v g1 g2 => ?_⟩
  rw [g1] at g2
  cases g2
  obtain ⟨m, _, rfl⟩ := mapInt_get g1
  exact DR.int rfl
def spR_same : Nat → Sp
  | 0 => fun _ _ _ _ => False
  | n + 1 => fun vs H Q _ => ∃ (x y : V), vs = [x, y] ∧ DR H n x y ∧ ∀ H', Same H H' → Q (.bl true) H'
def sp_L_same (_ : PySem.W.Frag) : Sp := spR_same 6
structure KT (K : PySem.W.Frag) (ty : Value) (bb bi bl bt bs : Bool) : Prop where
  b : PySem.W.kitOne K ty (.type "bool") = some bb
  i : PySem.W.kitOne K ty (.type "int") = some bi
  l : PySem.W.kitOne K ty (.type "list") = some bl
  t : PySem.W.kitOne K ty (.type "tuple") = some bt
  s : PySem.W.kitOne K ty (.type "str") = some bs
theorem okR_same {f : Addr} {fd : FuncData} (F : Fun K "_law_same" "_law_same" s_L_same f fd) (Z : Zs mg) (bS : Binds K fd ["_law_told", "_law_due"] []) (kS : PySem.W.keepIn K (.ref f) = true) (mS : mg "_law_same" = some (.ref f)) :
    ∀ n : Nat, FnOk P w K mg base CX0 n f fd ["_law_told", "_law_due"] (spR_same n)
  | 0 => ⟨fun _ _ _ _ h => h.elim, fun _ _ _ _ _ _ _ _ _ _ _ _ _ h => h.elim⟩
  | n + 1 => by
    have ih := okR_same F Z bS kS mS n
    have h_L_same : Has P w K mg base "_law_same" n ["_law_told", "_law_due"] (spR_same n) := ⟨f, fd, ih, bS, kS, mS⟩
    refine F.ok sc_L_same (fun vs H Q E h => ?_) (fun cdv A outer s H vs Q E hr h => ?_)
    · obtain ⟨x, y, rfl, _⟩ := h
      rfl
    obtain ⟨x, y, rfl, hD, q⟩ := h
    have hr_self := hr
    refine ⟨_, (pss_cons (ps_if (PW.pt (pw_or (pt_cmpR op_ne (pe_callB call_isinst rfl Z.isinstance bt_isinstance (pa_cons (pv 0) (pa_cons (pe_bltn (v := .ty "bool") rfl Z.bool bt_bool rfl) pa_nil))) (pe_callB call_isinst rfl Z.isinstance bt_isinstance (pa_cons (pv 1) (pa_cons (pe_bltn (v := .ty "bool") rfl Z.bool bt_bool rfl) pa_nil))) (nomark _)) (pw_or1 (pt_cmpR op_ne (pe_callB call_isinst rfl Z.isinstance bt_isinstance (pa_cons (pv 0) (pa_cons (pe_bltn (v := .ty "int") rfl Z.int bt_int rfl) pa_nil))) (pe_callB call_isinst rfl Z.isinstance bt_isinstance (pa_cons (pv 1) (pa_cons (pe_bltn (v := .ty "int") rfl Z.int bt_int rfl) pa_nil))) (nomark _))))) (pss_one (ps_ret pe_bl)) pss_nil)
      (pss_cons (ps_if (PW.pt (pw_or (pt_cmpR op_ne (pe_callB call_isinst rfl Z.isinstance bt_isinstance (pa_cons (pv 0) (pa_cons (pe_bltn (v := .ty "list") rfl Z.list bt_list rfl) pa_nil))) (pe_callB call_isinst rfl Z.isinstance bt_isinstance (pa_cons (pv 1) (pa_cons (pe_bltn (v := .ty "list") rfl Z.list bt_list rfl) pa_nil))) (nomark _)) (pw_or1 (pt_cmpR op_ne (pe_callB call_isinst rfl Z.isinstance bt_isinstance (pa_cons (pv 0) (pa_cons (pe_bltn (v := .ty "tuple") rfl Z.tuple bt_tuple rfl) pa_nil))) (pe_callB call_isinst rfl Z.isinstance bt_isinstance (pa_cons (pv 1) (pa_cons (pe_bltn (v := .ty "tuple") rfl Z.tuple bt_tuple rfl) pa_nil))) (nomark _))))) (pss_one (ps_ret pe_bl)) pss_nil)
      (pss_cons (ps_if (PW.pt (pw_and (pt_not (pt_val (pe_callB call_isinst rfl Z.isinstance bt_isinstance (pa_cons (pv 1) (pa_cons (pe_bltn (v := .ty "list") rfl Z.list bt_list rfl) pa_nil))))) (pw_and1 (pt_not (pt_val (pe_callB call_isinst rfl Z.isinstance bt_isinstance (pa_cons (pv 1) (pa_cons (pe_bltn (v := .ty "tuple") rfl Z.tuple bt_tuple rfl) pa_nil)))))))) (pss_one (ps_ret (pe_and (pe_cmpR op_eq (pe_callB call_isinst rfl Z.isinstance bt_isinstance (pa_cons (pv 0) (pa_cons (pe_bltn (v := .ty "str") rfl Z.str bt_str rfl) pa_nil))) (pe_callB call_isinst rfl Z.isinstance bt_isinstance (pa_cons (pv 1) (pa_cons (pe_bltn (v := .ty "str") rfl Z.str bt_str rfl) pa_nil))) (nomark _)) (pe_one (pe_cmpR op_eq (pv 0) (pv 1) (nomark _)))))) pss_nil)
      (pss_one (ps_ret (pe_and (pe_cmpR op_eq (pe_callB call_len_seq rfl Z.len bt_len (pa_cons (pv 0) pa_nil)) (pe_callB call_len_seq rfl Z.len bt_len (pa_cons (pv 1) pa_nil)) (nomark _)) (pe_one (pe_callB (call_allB rfl) rfl Z.all bt_all (pa_cons (pe_comp (T := ["_law_one", "_law_other"]) (caps := []) ⟨rfl, by decide +kernel, by decide +kernel, rfl, True.intro⟩ rfl (pi_zip rfl Z.zip (pa_cons (pv 0) (pa_cons (pv 1) pa_nil))) (fun _ => (pg_tup rfl (pgs_cons (pg_name (i := 0) (show (["_law_one", "_law_other"] : List Str).Nodup by decide +kernel) rfl (Or.inl rfl)) (pgs_cons (pg_name (i := 1) (show (["_law_one", "_law_other"] : List Str).Nodup by decide +kernel) rfl (Or.inl rfl)) pgs_nil)))) (fun _ => pifs_nil) (fun _ => (pe_callH h_L_same hr_self rfl (pa_cons (pv 0) (pa_cons (pv 1) pa_nil))))) pa_nil))))))))), ?_⟩
    have kinds : ∃ (t : Value) (bb bi bl bt bs : Bool), TyOf K H x t ∧ TyOf K H y t ∧ KT K t bb bi bl bt bs ∧ ((bl = false ∧ bt = false ∧ x = y ∧ ((∃ i, x = .int i) ∨ ∃ b, x = .bl b)) ∨
        ∃ (m : Nat) (a b : Addr) (xs ys : List V) (l : Bool), bl = l ∧ bt = !l ∧ n = m + 1 ∧ x = .ref a ∧ y = .ref b ∧ H a = some (if l then .lst xs else .tup xs) ∧ H b = some (if l then .lst ys else .tup ys) ∧ xs.length = ys.length ∧ xs.length ≤ 9000 ∧
          ∀ (i : Nat) (u v : V), xs[i]? = some u → ys[i]? = some v → DR H m u v) := by
      have scal : (x = y ∧ ((∃ i, x = .int i) ∨ ∃ b, x = .bl b)) → ∃ (t : Value) (bb bi bl bt bs : Bool), TyOf K H x t ∧ TyOf K H y t ∧ KT K t bb bi bl bt bs ∧ (bl = false ∧ bt = false ∧ x = y ∧ ((∃ i, x = .int i) ∨ ∃ b, x = .bl b)) := fun h => by
        obtain ⟨rfl, h⟩ := h
        rcases h with ⟨i, rfl⟩ | ⟨b, rfl⟩
        · exact ⟨_, _, _, _, _, _, .int i, .int i, ⟨rfl, rfl, rfl, rfl, rfl⟩, rfl, rfl, rfl, .inl ⟨i, rfl⟩⟩
        · exact ⟨_, _, _, _, _, _, .bl b, .bl b, ⟨rfl, rfl, rfl, rfl, rfl⟩, rfl, rfl, rfl, .inr ⟨b, rfl⟩⟩
      cases n with
      | zero =>
        obtain ⟨t, bb, bi, bl, bt, bs, h1, h2, h3, h4⟩ := scal hD
        exact ⟨t, bb, bi, bl, bt, bs, h1, h2, h3, .inl h4⟩
      | succ m =>
        rcases hD with h | ⟨a, b, xs, ys, l, e1, e2, h1, h2, h3, h4, h5⟩
        · obtain ⟨t, bb, bi, bl, bt, bs, h1, h2, h3, h4⟩ := scal h
          exact ⟨t, bb, bi, bl, bt, bs, h1, h2, h3, .inl h4⟩
        · subst e1 e2
          cases l with
          | true => exact ⟨_, _, _, _, _, _, .lst h1, .lst h2, ⟨rfl, rfl, rfl, rfl, rfl⟩, .inr ⟨m, a, b, xs, ys, true, rfl, rfl, rfl, rfl, rfl, h1, h2, h3, h4, h5⟩⟩
          | false => exact ⟨_, _, _, _, _, _, .tup h1, .tup h2, ⟨rfl, rfl, rfl, rfl, rfl⟩, .inr ⟨m, a, b, xs, ys, false, rfl, rfl, rfl, rfl, rfl, h1, h2, h3, h4, h5⟩⟩
    obtain ⟨t, bb, bi, bl, bt, bs, tx, ty, kt, rest⟩ := kinds
    refine ⟨_, rfl, _, "bool", t, bb, rfl, tx, kt.b, _, rfl, _, "bool", t, bb, rfl, ty, kt.b, rfl, _, rfl, ?_⟩
    refine ifN (fun z => absurd rfl z) (fun _ => ?_)
    refine ⟨_, rfl, _, "int", t, bi, rfl, tx, kt.i, _, rfl, _, "int", t, bi, rfl, ty, kt.i, rfl, _, rfl, ?_⟩
    refine ifN (fun z => absurd rfl z) (fun _ => ?_)
    refine ⟨_, rfl, _, "list", t, bl, rfl, tx, kt.l, _, rfl, _, "list", t, bl, rfl, ty, kt.l, rfl, _, rfl, ?_⟩
    refine ifN (fun z => absurd rfl z) (fun _ => ?_)
    refine ⟨_, rfl, _, "tuple", t, bt, rfl, tx, kt.t, _, rfl, _, "tuple", t, bt, rfl, ty, kt.t, rfl, _, rfl, ?_⟩
    refine ifN (fun z => absurd rfl z) (fun _ => ?_)
    refine ⟨_, rfl, _, "list", t, bl, rfl, ty, kt.l, _, rfl, ?_⟩
    rcases rest with ⟨rfl, rfl, rfl, hs⟩ | ⟨m, a, b, xs, ys, l, rfl, rfl, rfl, rfl, rfl, ha, hb, hlen, h9000, hel⟩
    · refine iteT ?_
      refine ⟨_, rfl, _, "tuple", t, false, rfl, ty, kt.t, _, rfl, ?_⟩
      refine iteT ?_
      refine ⟨_, rfl, _, "str", t, bs, rfl, tx, kt.s, _, rfl, _, "str", t, bs, rfl, ty, kt.s, rfl, _, rfl, ?_⟩
      rw [decide_eq_true rfl]
      refine iteT ?_
      refine ⟨_, rfl, _, rfl, ?_, ?_⟩
      · rcases hs with ⟨i, rfl⟩ | ⟨b, rfl⟩ <;> rfl
      · rw [decide_eq_true rfl]
        exact q H (Same.refl H)
    · have SA : SqB bl K H a xs := by
        cases bl
        · exact SqT.of ha
        · exact SqL.of ha
      have SB : SqB bl K H b ys := by
        cases bl
        · exact SqT.of hb
        · exact SqL.of hb
      have SA' : SqL K H a xs ∨ SqT K H a xs := by
        cases bl
        · exact .inr SA
        · exact .inl SA
      have SB' : SqL K H b ys ∨ SqT K H b ys := by
        cases bl
        · exact .inr SB
        · exact .inl SB
      have keep : ∀ (H' : Hp), Same H H' → SqB bl K H' a xs ∧ SqB bl K H' b ys := fun H' e => by
        cases bl
        · exact ⟨SqT.same SA e, SqT.same SB e⟩
        · exact ⟨e.seq SA, e.seq SB⟩
      cases hbl : bl with
      | true =>
        refine iteF ?_
        refine iteF ?_
        refine ⟨_, rfl, a, xs, rfl, SA', _, rfl, b, ys, rfl, SB', rfl, _, rfl, ?_⟩
        rw [decI (by rw [hlen])]
        refine iteT ?_
        refine ⟨_, rfl, _, rfl, bl, bl, a, b, xs, ys, rfl, SA, SB, fun c D hD => comp_zip0 (K := K) (xs := xs) (ys := ys) (fun i σ zs H' => Same H H' ∧ H' D = some (.lst zs) ∧ zs = (List.replicate i true).map V.bl ∧ i ≤ xs.length ∧ ∃ u v, σ = [u, v])
          ⟨same_new hD _, upd_same, rfl, Nat.zero_le _, none, none, rfl⟩ (fun i σ zs H' ⟨e, e2, _⟩ => ⟨(keep H' e).1, (keep H' e).2, e2⟩) ?_ ?_⟩
        · rintro i u v T σ zs H' hu hv hT ⟨e, e2, rfl, hi, o1, o2, rfl⟩
          have hil : i < xs.length := (List.getElem?_eq_some_iff.mp hu).1
          have s2 := same_new hT (.tup [u, v])
          refine ⟨T, [u, v], rfl, SqT.of upd_same, rfl, u, [v], rfl, v, [], rfl, rfl, _, rfl, _, rfl, u, v, rfl, (hel i u v hu hv).same (e.trans s2), fun H4 s4 => ?_⟩
          have e4 := s4 _ _ (s2 _ _ e2)
          refine ⟨e4, big9000 (by rw [List.length_map, List.length_replicate]; omega), fun p o z => ?_, upd_same, ?_, hil, _, _, rfl⟩
          · rw [upd_ne (ne_of_none z hD)]
            exact s4 _ _ (s2 _ _ (e _ _ z))
          · rw [List.replicate_succ', List.map_append]
            rfl
        · rintro σ zs H' ⟨e, e2, rfl, hi, o1, o2, rfl⟩
          refine ⟨D, List.replicate (min xs.length ys.length) true, rfl, SqL.of e2, ?_⟩
          rw [show (List.replicate (min xs.length ys.length) true).all id = true from by simp]
          exact q _ e
      | false =>
        refine iteT ?_
        refine ⟨_, rfl, _, "tuple", t, true, rfl, ty, kt.t.trans (by rw [hbl]; rfl), _, rfl, ?_⟩
        refine iteF ?_
        refine ⟨_, rfl, a, xs, rfl, SA', _, rfl, b, ys, rfl, SB', rfl, _, rfl, ?_⟩
        rw [decI (by rw [hlen])]
        refine iteT ?_
        refine ⟨_, rfl, _, rfl, bl, bl, a, b, xs, ys, rfl, SA, SB, fun c D hD => comp_zip0 (K := K) (xs := xs) (ys := ys) (fun i σ zs H' => Same H H' ∧ H' D = some (.lst zs) ∧ zs = (List.replicate i true).map V.bl ∧ i ≤ xs.length ∧ ∃ u v, σ = [u, v])
          ⟨same_new hD _, upd_same, rfl, Nat.zero_le _, none, none, rfl⟩ (fun i σ zs H' ⟨e, e2, _⟩ => ⟨(keep H' e).1, (keep H' e).2, e2⟩) ?_ ?_⟩
        · rintro i u v T σ zs H' hu hv hT ⟨e, e2, rfl, hi, o1, o2, rfl⟩
          have hil : i < xs.length := (List.getElem?_eq_some_iff.mp hu).1
          have s2 := same_new hT (.tup [u, v])
          refine ⟨T, [u, v], rfl, SqT.of upd_same, rfl, u, [v], rfl, v, [], rfl, rfl, _, rfl, _, rfl, u, v, rfl, (hel i u v hu hv).same (e.trans s2), fun H4 s4 => ?_⟩
          have e4 := s4 _ _ (s2 _ _ e2)
          refine ⟨e4, big9000 (by rw [List.length_map, List.length_replicate]; omega), fun p o z => ?_, upd_same, ?_, hil, _, _, rfl⟩
          · rw [upd_ne (ne_of_none z hD)]
            exact s4 _ _ (s2 _ _ (e _ _ z))
          · rw [List.replicate_succ', List.map_append]
            rfl
        · rintro σ zs H' ⟨e, e2, rfl, hi, o1, o2, rfl⟩
          refine ⟨D, List.replicate (min xs.length ys.length) true, rfl, SqL.of e2, ?_⟩
          rw [show (List.replicate (min xs.length ys.length) true).all id = true from by simp]
          exact q _ e
theorem ok_L_same (F : Fun K "_law_same" "_law_same" s_L_same f fd) (Z : Zs mg) (bS : Binds K fd ["_law_told", "_law_due"] []) (kS : PySem.W.keepIn K (.ref f) = true) (mS : mg "_law_same" = some (.ref f)) : FnOk P w K mg base CX0 6 f fd ["_law_told", "_law_due"] (sp_L_same K) := okR_same F Z bS kS mS 6
def fl (p : Nat → Bool) (n : Nat) : List Int := ((List.range n).filter p).map fun i => ((i : Nat) : Int)
theorem fl_succ (p : Nat → Bool) (n : Nat) : fl p (n + 1) = fl p n ++ (if p n then [(n : Int)] else []) := by
  unfold fl
  rw [List.range_succ, List.filter_append, List.map_append]
  congr 1
  rw [List.filter_cons]
  cases p n <;> rfl
theorem fl_len (p : Nat → Bool) (n : Nat) : (fl p n).length ≤ n := by
  unfold fl
  rw [List.length_map]
  have z := List.length_filter_le p (List.range n)
  rwa [List.length_range] at z
theorem fl_congr {p q : Nat → Bool} {n : Nat} (h : ∀ i, i < n → p i = q i) : fl p n = fl q n := by
  unfold fl
  rw [List.filter_congr fun i hi => h i (List.mem_range.mp hi)]
theorem fl_le {p q : Nat → Bool} {n : Nat} (h : ∀ i, i < n → p i = true → q i = true) : (fl p n).length ≤ (fl q n).length := by
  unfold fl
  rw [List.length_map, List.length_map]
  exact L2.filter_le fun i hi => h i (List.mem_range.mp hi)
theorem fl_eq {p q : Nat → Bool} {n : Nat} (h : ∀ i, i < n → p i = true → q i = true) (hl : (fl q n).length ≤ (fl p n).length) : fl p n = fl q n := by
  refine fl_congr fun i hi => ?_
  cases e1 : p i with
  | true => exact (h i hi e1).symm
  | false =>
    cases e2 : q i with
    | false => rfl
    | true =>
      exfalso
      unfold fl at hl
      rw [List.length_map, List.length_map] at hl
      have z := L2.filter_lt (l := List.range n) (p := p) (q := q) (z := i) (fun j hj => h j (List.mem_range.mp hj)) (List.mem_range.mpr hi) e1 e2
      omega
theorem fl_inj {p q : Nat → Bool} {n : Nat} (h : fl p n = fl q n) : ∀ i, i < n → p i = q i := by
  have mem : ∀ (r : Nat → Bool) (i : Nat), i < n → ((i : Int) ∈ fl r n ↔ r i = true) := fun r i hi => by
    unfold fl
    rw [List.mem_map]
    constructor
    · rintro ⟨j, hj, e⟩
      have e : j = i := by omega
      rw [← e]
      exact (List.mem_filter.mp hj).2
    · intro z
      exact ⟨i, List.mem_filter.mpr ⟨List.mem_range.mpr hi, z⟩, rfl⟩
  intro i hi
  have z := mem p i hi
  rw [h, mem q i hi] at z
  cases e1 : p i <;> cases e2 : q i <;> rw [e1, e2] at z <;> simp_all
def bt (m i : Nat) : Bool := decide (m / 2 ^ i % 2 = 1)
theorem bt_zero (m : Nat) : bt m 0 = decide (m % 2 = 1) := by unfold bt; rw [Nat.pow_zero, Nat.div_one]
theorem bt_succ (m i : Nat) : bt m (i + 1) = bt (m / 2) i := by unfold bt; rw [Nat.pow_succ, Nat.mul_comm, Nat.div_div_eq_div_mul]
theorem bits_of : ∀ (n : Nat) (p : Nat → Bool), ∃ m, m < 2 ^ n ∧ ∀ i, i < n → bt m i = p i
  | 0, p => ⟨0, by decide, fun i hi => absurd hi (Nat.not_lt_zero _)⟩
  | n + 1, p => by
    obtain ⟨m, h1, h2⟩ := bits_of n fun i => p (i + 1)
    have e : 2 ^ (n + 1) = 2 ^ n * 2 := Nat.pow_succ ..
    cases hp : p 0 with
    | false =>
      refine ⟨2 * m, by omega, fun i hi => ?_⟩
      cases i with
      | zero => rw [bt_zero, hp]; exact decide_eq_false (by omega)
      | succ i => rw [bt_succ, show 2 * m / 2 = m by omega]; exact h2 i (by omega)
    | true =>
      refine ⟨2 * m + 1, by omega, fun i hi => ?_⟩
      cases i with
      | zero => rw [bt_zero, hp]; exact decide_eq_true (by omega)
      | succ i => rw [bt_succ, show (2 * m + 1) / 2 = m by omega]; exact h2 i (by omega)
theorem bits_inj : ∀ (n : Nat) {m m' : Nat}, m < 2 ^ n → m' < 2 ^ n → (∀ i, i < n → bt m i = bt m' i) → m = m'
  | 0, m, m', h1, h2, _ => by
    have e : 2 ^ 0 = 1 := rfl
    omega
  | n + 1, m, m', h1, h2, h => by
    have e : 2 ^ (n + 1) = 2 ^ n * 2 := Nat.pow_succ ..
    have z := bits_inj n (m := m / 2) (m' := m' / 2) (by omega) (by omega) fun i hi => by
      have z := h (i + 1) (by omega)
      rwa [bt_succ, bt_succ] at z
    have z0 := h 0 (by omega)
    rw [bt_zero, bt_zero] at z0
    have z1 : (m % 2 = 1) ↔ (m' % 2 = 1) := by
      constructor
      · intro x; rw [decide_eq_true x] at z0; exact of_decide_eq_true z0.symm
      · intro x; rw [decide_eq_true x] at z0; exact of_decide_eq_true z0
    omega
def rest (ss : List (List Sd)) (m k : Nat) : List Sd := ((List.range k).filter fun i => !bt m i).flatMap fun i => ss.getD i []
theorem rest_succ (ss : List (List Sd)) (m k : Nat) : rest ss m (k + 1) = rest ss m k ++ (if bt m k then [] else ss.getD k []) := by
  unfold rest
  rw [List.range_succ, List.filter_append, List.flatMap_append]
  congr 1
  rw [List.filter_cons]
  cases bt m k <;> simp
theorem mem_rest {ss : List (List Sd)} {m k : Nat} {t : Sd} : t ∈ rest ss m k ↔ ∃ i, i < k ∧ bt m i = false ∧ t ∈ ss.getD i [] := by
  unfold rest
  rw [List.mem_flatMap]
  constructor
  · rintro ⟨i, hi, ht⟩
    obtain ⟨h1, h2⟩ := List.mem_filter.mp hi
    exact ⟨i, List.mem_range.mp h1, by simpa using h2, ht⟩
  · rintro ⟨i, hi, hb, ht⟩
    exact ⟨i, List.mem_filter.mpr ⟨List.mem_range.mpr hi, by simpa using hb⟩, ht⟩
def Feas (ss : List (List Sd)) (m : Nat) : Prop := ∃ P : P3, 0 < P.2.2 ∧ inW (rest ss m ss.length) P
abbrev goneOf (ss : List (List Sd)) (m : Nat) : List Int := fl (bt m) ss.length
structure BestK (ss : List (List Sd)) (n : Nat) (bs : List (List Int)) : Prop where
  each : ∀ k ∈ bs, ∃ m, m < n ∧ k = goneOf ss m ∧ Feas ss m
  least : ∀ k ∈ bs, ∀ m, m < n → Feas ss m → k.length ≤ (goneOf ss m).length
  all : ∀ m, m < n → Feas ss m → (∀ k ∈ bs, (goneOf ss m).length ≤ k.length) → goneOf ss m ∈ bs
  nodup : bs.Nodup
theorem BestK.alike {ss : List (List Sd)} {n : Nat} {bs : List (List Int)} (h : BestK ss n bs) {k k' : List Int} (hk : k ∈ bs) (hk' : k' ∈ bs) : k.length = k'.length := by
  obtain ⟨m, m1, rfl, m3⟩ := h.each k hk
  obtain ⟨m', m1', rfl, m3'⟩ := h.each k' hk'
  have z1 := h.least _ hk m' m1' m3'
  have z2 := h.least _ hk' m m1 m3
  omega
theorem BestK.skip {ss : List (List Sd)} {n : Nat} {bs : List (List Int)} (h : BestK ss n bs) (hn : Feas ss n → ∃ k ∈ bs, k.length < (goneOf ss n).length) : BestK ss (n + 1) bs := by
  refine ⟨fun k hk => ?_, fun k hk m hm fm => ?_, fun m hm fm hall => ?_, h.nodup⟩
  · obtain ⟨m, m1, m2⟩ := h.each k hk
    exact ⟨m, by omega, m2⟩
  · by_cases e : m = n
    · subst e
      obtain ⟨k', h1, h2⟩ := hn fm
      rw [h.alike hk h1]
      omega
    · exact h.least k hk m (by omega) fm
  · by_cases e : m = n
    · subst e
      obtain ⟨k', h1, h2⟩ := hn fm
      have := hall k' h1
      omega
    · exact h.all m (by omega) fm hall
theorem BestK.take {ss : List (List Sd)} {n : Nat} {bs : List (List Int)} (h : BestK ss n bs) (hn : n < 2 ^ ss.length) (fn : Feas ss n) (hb : ∀ k ∈ bs, (goneOf ss n).length ≤ k.length) : BestK ss (n + 1) (bs.filter (fun k => decide ((k.length : Int) = ((goneOf ss n).length : Int))) ++ [goneOf ss n]) := by
  have ml : ∀ {k}, k ∈ bs.filter (fun k => decide ((k.length : Int) = ((goneOf ss n).length : Int))) ++ [goneOf ss n] → k.length = (goneOf ss n).length ∧ (k ∈ bs ∨ k = goneOf ss n) := fun {k} hk => by
    rcases List.mem_append.mp hk with hk | hk
    · obtain ⟨h1, h2⟩ := List.mem_filter.mp hk
      have h2 := of_decide_eq_true h2
      exact ⟨by omega, .inl h1⟩
    · rw [List.mem_singleton] at hk
      exact ⟨by rw [hk], .inr hk⟩
  refine ⟨fun k hk => ?_, fun k hk m hm fm => ?_, fun m hm fm hall => ?_, ?_⟩
  · rcases (ml hk).2 with z | z
    · obtain ⟨m, m1, m2⟩ := h.each k z
      exact ⟨m, by omega, m2⟩
    · exact ⟨n, by omega, z, fn⟩
  · rw [(ml hk).1]
    by_cases e : m = n
    · rw [e]
      exact Nat.le_refl _
    · by_cases c : goneOf ss m ∈ bs
      · exact hb _ c
      · have hx : ∃ k ∈ bs, k.length < (goneOf ss m).length := by
          refine Classical.byContradiction fun z => c (h.all m (by omega) fm fun k' hk' => ?_)
          exact Nat.not_lt.mp fun z2 => z ⟨k', hk', z2⟩
        obtain ⟨k', h1, h2⟩ := hx
        have := hb k' h1
        omega
  · have z := hall _ (List.mem_append_right _ (.head _))
    by_cases e : m = n
    · rw [e]
      exact List.mem_append_right _ (.head _)
    · have hin : goneOf ss m ∈ bs := h.all m (by omega) fm fun k' hk' => Nat.le_trans z (hb k' hk')
      have z2 := hb _ hin
      exact List.mem_append_left _ (List.mem_filter.mpr ⟨hin, decide_eq_true (by omega)⟩)
  · rw [List.nodup_append]
    refine ⟨h.nodup.filter _, by simp, fun a ha b hb e => ?_⟩
    rw [List.mem_singleton] at hb
    obtain ⟨m, m1, m2, _⟩ := h.each a (List.mem_filter.mp ha).1
    have e2 : goneOf ss m = goneOf ss n := by rw [← m2, e, hb]
    have := bits_inj ss.length (m := m) (m' := n) (by omega) hn (fl_inj e2)
    omega
theorem db_fl (ss : List (List Sd)) (P : P3) : db ss P = fl (fun i => !(inWB (ss.getD i []) P)) ss.length := rfl
theorem tried_pos {ss : List Sd} {P : P3} (nz : ∀ t ∈ ss, t.2.1 ≠ 0 ∨ t.2.2.1 ≠ 0) (h : Tried ss P) : 0 < P.2.2 := by
  rcases h with rfl | ⟨t, ht, rfl⟩ | ⟨t, ht, u, hu, hn, rfl⟩
  · decide
  · exact (ft_ok (nz t ht)).1.pos
  · exact (cr_ok hn).1.pos
theorem best_rows {gs : List Grp} {bs : List (List Int)} (nz : ∀ t ∈ sidesOf gs, t.2.1 ≠ 0 ∨ t.2.2.1 ≠ 0) (h : BestK (gs.map (·.2)) (2 ^ (gs.map (·.2)).length) bs) (k : List Int) :
    k ∈ bs ↔ (∃ P, Tried (sidesOf gs) P ∧ k = db (gs.map (·.2)) P) ∧ ∀ P, Tried (sidesOf gs) P → k.length ≤ (db (gs.map (·.2)) P).length := by
  have sub : ∀ m t, t ∈ rest (gs.map (·.2)) m (gs.map (·.2)).length → t ∈ sidesOf gs := fun m t ht => by
    obtain ⟨i, hi, _, hti⟩ := mem_rest.mp ht
    rw [List.length_map] at hi
    unfold sidesOf
    refine List.mem_flatMap.mpr ⟨gs[i], List.getElem_mem hi, ?_⟩
    rwa [List.getD_eq_getElem?_getD, List.getElem?_map, List.getElem?_eq_getElem hi] at hti
  have one : ∀ P, Tried (sidesOf gs) P → ∃ m, m < 2 ^ (gs.map (·.2)).length ∧ goneOf (gs.map (·.2)) m = db (gs.map (·.2)) P ∧ Feas (gs.map (·.2)) m := fun P hP => by
    obtain ⟨m, m1, m2⟩ := bits_of (gs.map (·.2)).length fun i => !(inWB ((gs.map (·.2)).getD i []) P)
    refine ⟨m, m1, fl_congr m2, P, tried_pos nz hP, fun t ht => ?_⟩
    obtain ⟨i, hi, hb, hti⟩ := mem_rest.mp ht
    rw [m2 i hi] at hb
    exact inWB_iff.mp (by simpa using hb) t hti
  have two : ∀ m, Feas (gs.map (·.2)) m → ∃ P, Tried (sidesOf gs) P ∧ ∀ i, i < (gs.map (·.2)).length → (!(inWB ((gs.map (·.2)).getD i []) P)) = true → bt m i = true := fun m ⟨z, zw, wz⟩ => by
    obtain ⟨P, cP, _, wP⟩ := cand_of (fun t ht => nz t (sub m t ht)) z zw wz
    refine ⟨P, ?_, fun i hi hb => ?_⟩
    · rcases cP with e | ⟨t, ht, e⟩ | ⟨t, ht, u, hu, hn, e⟩
      · exact .inl e
      · exact .inr (.inl ⟨t, sub m t ht, e⟩)
      · exact .inr (.inr ⟨t, sub m t ht, u, sub m u hu, hn, e⟩)
    · cases e : bt m i with
      | true => rfl
      | false =>
        have z : inWB ((gs.map (·.2)).getD i []) P = true := inWB_iff.mpr fun t ht => wP t (mem_rest.mpr ⟨i, hi, e, ht⟩)
        rw [z] at hb
        cases hb
  constructor
  · intro hk
    obtain ⟨m, m1, rfl, fm⟩ := h.each k hk
    have low : ∀ P, Tried (sidesOf gs) P → (goneOf (gs.map (·.2)) m).length ≤ (db (gs.map (·.2)) P).length := fun P hP => by
      obtain ⟨m', x1, x2, x3⟩ := one P hP
      have z := h.least _ hk m' x1 x3
      rwa [x2] at z
    obtain ⟨P, hP, hb⟩ := two m fm
    refine ⟨⟨P, hP, ?_⟩, low⟩
    have z := low P hP
    rw [db_fl] at z ⊢
    exact (fl_eq hb z).symm
  · rintro ⟨⟨P, hP, rfl⟩, low⟩
    obtain ⟨m, m1, m2, m3⟩ := one P hP
    rw [← m2]
    refine h.all m m1 m3 fun k' hk' => ?_
    obtain ⟨m', x1, rfl, x3⟩ := h.each k' hk'
    obtain ⟨P', hP', hb⟩ := two m' x3
    rw [m2]
    refine Nat.le_trans (low P' hP') ?_
    rw [db_fl]
    exact fl_le hb
def sp_law (K : PySem.W.Frag) : Sp := fun vs H Q _ => ∃ (a : Addr) (ns : List Int), vs = [.ref a] ∧ SqL K H a (ns.map V.int) ∧ ns.length ≤ 63 ∧ ∀ H', Q (.bl true) H'
theorem cutX {ok : Hp → Prop} {G : Prop} {R : Hp → Prop} (h1 : (∀ H, ok H → R H) → G) (h2 : ∀ H, ok H → R H) : G := h1 h2
theorem ok_law (F : Fun K "law" "law" s_law f fd) (Z : Zs mg) (h_L_same : Has P w K mg base "_law_same" 6 ["_law_told", "_law_due"] (sp_L_same K)) (h_p_choices : Has P w K mg base "choices" 8 ["groups"] (sp_p_choices K)) (h_L_any_place : Has P w K mg base "_law_any_place" 5 ["_law_sides"] (sp_L_any_place K)) (h_L_groups : Has P w K mg base "_law_groups" 3 ["_law_some", "_law_many"] (sp_L_groups K)) (h_L_draws : Has P w K mg base "_law_draws" 2 ["_law_script", "_law_many"] (sp_L_draws K)) : FnOk P w K mg base CX0 9 f fd ["_law_script"] (sp_law K) := by
  refine F.ok sc_law (fun vs H Q E h => ?_) (fun cdv A outer s H vs Q E hr h => ?_)
  · obtain ⟨a, ns, rfl, _⟩ := h
    rfl
  obtain ⟨ad, ns, rfl, hS, hl, q⟩ := h
  have hu := hr.units0
  have hu64 := hr.units
  have hu2 := Nat.lt_of_le_of_lt (Nat.add_le_add_left (show 2 ≤ 64 by decide) _) hr.units
  refine ⟨_, (pss_cons (ps_set (i := 1) sc_law.nd rfl (Or.inl rfl) (pe_callH h_L_draws (hr.mono (by decide)) rfl (pa_cons (pv 0) (pa_cons pe_int pa_nil))))
      (pss_cons (ps_set (i := 2) sc_law.nd rfl (Or.inl rfl) (pe_callH h_L_groups (hr.mono (by decide)) rfl (pa_cons (pe_slice sl_list (pv 1) (po_some pe_int) po_none) (pa_cons (pe_op op_mod (pe_ix ix_any (pv 1) pe_int (fun _ _ => rfl)) pe_int) pa_nil))))
      (pss_cons (ps_set (i := 3) sc_law.nd rfl (Or.inl rfl) (pe_callB call_len_seq rfl Z.len bt_len (pa_cons (pv 2) pa_nil)))
      (pss_cons (ps_set (i := 4) sc_law.nd rfl (Or.inl rfl) pe_int)
      (pss_cons (ps_for PassesOwn.never rfl (pi_seq (pv 2)) (pg_name (i := 5) sc_law.nd rfl (Or.inl rfl)) (pss_one (ps_set (i := 4) sc_law.nd rfl (Or.inl rfl) (pe_op op_mul pe_int (pv 4)))))
      (pss_cons (ps_set (i := 6) sc_law.nd rfl (Or.inl rfl) (pe_lst pa_nil))
      (pss_cons (ps_for PassesOwn.never rfl (pi_range1 rfl Z.range (pa_cons (pv 4) pa_nil)) (pg_name (i := 7) sc_law.nd rfl (Or.inl rfl)) (pss_cons (ps_set (i := 8) sc_law.nd rfl (Or.inl rfl) (pv 7))
      (pss_cons (ps_set (i := 9) sc_law.nd rfl (Or.inr rfl) (pe_lst pa_nil))
      (pss_cons (ps_set (i := 10) sc_law.nd rfl (Or.inl rfl) (pe_lst pa_nil))
      (pss_cons (ps_for PassesOwn.never rfl (pi_range1 rfl Z.range (pa_cons (pv 3) pa_nil)) (pg_name (i := 11) sc_law.nd rfl (Or.inl rfl)) (pss_cons (ps_if (pt_cmpR op_eq (pe_op op_mod (pv 8) pe_int) pe_int (nomark _)) (pss_one (ps_expr (pe_bm PySem.F.plainAttrs_list PySem.F.slot_list_append PySem.F.type_list_append mt_append (pv 9) (pa_cons (pv 11) pa_nil)))) (pss_one (ps_set (i := 10) sc_law.nd rfl (Or.inl rfl) (pe_op op_cat (pv 10) (pe_ix ix_any (pv 2) (pv 11) (fun _ _ => rfl))))))
      (pss_one (ps_set (i := 8) sc_law.nd rfl (Or.inl rfl) (pe_op op_fdivP (pv 8) pe_int)))))
      (pss_one (ps_if (PW.pt (pw_or (pt_cmpR (op_eqE hu) (pv 6) (pe_lst pa_nil) (nomark _)) (pw_or1 (pt_cmpR op_le (pe_callB call_len_seq rfl Z.len bt_len (pa_cons (pv 9) pa_nil)) (pe_callB call_len_seq rfl Z.len bt_len (pa_cons (pe_ix ix_any (pv 6) pe_int (fun _ _ => rfl)) pa_nil)) (nomark _))))) (pss_one (ps_if (pt_cmpR op_notN (pe_callH h_L_any_place (hr.mono (by decide)) rfl (pa_cons (pv 10) pa_nil)) pe_non (nomark _)) (pss_one (ps_set (i := 6) sc_law.nd rfl (Or.inl rfl) (pe_op op_cat (pe_comp (T := ["_law_row"]) (caps := [("_law_gone", 9)]) ⟨rfl, by decide +kernel, by decide +kernel, rfl, ⟨⟨rfl, rfl, Or.inl rfl⟩, True.intro⟩⟩ rfl (pi_seq (pv 6)) (fun _ => (pg_name (i := 0) (show (["_law_row", "_law_gone"] : List Str).Nodup by decide +kernel) rfl (Or.inl rfl))) (fun _ => (pifs_one (pt_cmpR op_eq (pe_callB call_len_seq rfl Z.len bt_len (pa_cons (pv 0) pa_nil)) (pe_callB call_len_seq rfl Z.len bt_len (pa_cons (pv 1) pa_nil)) (nomark _)))) (fun _ => (pv 0))) (pe_lst (pa_cons (pv 9) pa_nil))))) pss_nil)) pss_nil)))))))
      (pss_one (ps_ret (pe_callH h_L_same (hr.mono (by decide)) rfl (pa_cons (pe_callH h_p_choices (hr.mono (by decide)) rfl (pa_cons (pe_comp (T := ["_law_group"]) (caps := []) ⟨rfl, by decide +kernel, by decide +kernel, rfl, True.intro⟩ rfl (pi_seq (pv 2)) (fun _ => (pg_name (i := 0) (show (["_law_group"] : List Str).Nodup by decide +kernel) rfl (Or.inl rfl))) (fun _ => pifs_nil) (fun _ => (pe_callTy call_list_of rfl Z.list bt_list (pa_cons (pv 0) pa_nil)))) pa_nil)) (pa_cons (pe_callB (call_sortedQR hu2) rfl Z.sorted bt_sorted (pa_cons (pv 6) pa_nil)) pa_nil)))))))))))), ?_⟩
  refine ⟨_, rfl, ad, ns, 70, rfl, hS, hl, by decide, by decide, fun rr rows H1 s1 hr0 er1 l1 l2 bd => ?_⟩
  obtain ⟨v0, a0, b00, b01⟩ := row_at bd (k := 0) (by decide) (by omega)
  have cutD : ∀ k : Nat, k ≤ 70 → cutV (rows.map V.int) (some (k : Int)) none = (rows.drop k).map V.int := fun k hk => by
    rw [cutV_ints, HT.sIx_nat rows.length 0 k, show min k rows.length = k by omega, show HT.sIx rows.length rows.length none = rows.length from rfl, List.take_of_length_le (by rw [List.length_drop]; omega)]
  have sqr : SqL K H1 rr (rows.map V.int) := SqL.of er1
  refine ⟨_, rfl, _, rfl, rr, _, rfl, sqr, fun c hc => ?_⟩
  rw [show cutV (rows.map V.int) (some 1) none = (rows.drop 1).map V.int from cutD 1 (by decide)]
  have sc := same_new hc (.lst ((rows.drop 1).map V.int))
  refine ⟨_, rfl, rr, _, _, _, rfl, rfl, .inl (sc.seq sqr), a0, _, _, rfl, rfl, (by show (0 : Int) < 7; decide), ?_⟩
  refine ⟨c, rows.drop 1, v0 % 7, rfl, SqL.of upd_same, by omega, by omega, by rw [List.length_drop]; omega, by rw [List.length_drop]; omega, fun x hx => bd x (List.mem_of_mem_drop hx), fun l gs H2 s2 hl2 el2 ok2 ng few => ?_⟩
  have hng : gs.length ≤ 6 := by omega
  clear sc s2 hl2 ng
  have nz : ∀ t ∈ sidesOf gs, t.2.1 ≠ 0 ∨ t.2.2.1 ≠ 0 := fun t ht => by
    obtain ⟨g, hg, htg⟩ := List.mem_flatMap.mp ht
    exact ((ok2 g hg).2 t htg).2.1
  have lss : (gs.map (·.2)).length = gs.length := List.length_map ..
  refine ⟨_, rfl, l, _, rfl, .inl (SqL.of el2), ?_⟩
  rw [grefs_length]
  refine ⟨_, rfl, l, rfl, .inl ⟨⟨_, SqL.of el2⟩, for_list (K := K) (a := l) (xs := grefs gs) (fun i σ H' => H' = H2 ∧ ∃ u5 : Option V, σ = [some (.ref ad), some (.ref rr), some (.ref l), some (.int gs.length), some (.int ((2 ^ i : Nat) : Int)), u5, none, none, none, none, none, none])
    ⟨rfl, none, rfl⟩ (fun i σ H' _ ⟨e, _⟩ => by rw [e]; exact SqL.of el2) ?_ ?_⟩⟩
  · rintro i v σ H' hi ⟨rfl, u5, rfl⟩
    have hil : i < gs.length := by have z := (List.getElem?_eq_some_iff.mp hi).1; rwa [grefs_length] at z
    refine ⟨_, rfl, _, _, rfl, rfl, cm_l (by decide), rfl, some v, ?_⟩
    show [some (V.ref ad), some (V.ref rr), some (V.ref l), some (V.int gs.length), some (V.int (2 * ((2 ^ i : Nat) : Int))), some v, none, none, none, none, none, none] = _
    rw [show 2 * ((2 ^ i : Nat) : Int) = ((2 ^ (i + 1) : Nat) : Int) by rw [Nat.pow_succ, Nat.mul_comm]; push_cast; rfl]
  rintro σ H' ⟨rfl, u5, rfl⟩
  rw [grefs_length]
  have p64 : 2 ^ gs.length ≤ 64 := Nat.pow_le_pow_right (by decide) hng
  have pN : 2 ^ (gs.map (·.2)).length = 2 ^ gs.length := by rw [lss]
  generalize 2 ^ gs.length = N at p64 pN ⊢
  refine ⟨Nat.zero_le _, fun B0 hB0 => ?_⟩
  have sB := same_new hB0 (.lst [])
  refine ⟨_, rfl, _, rfl, by omega, by omega, for_range (lo := 0) (n := N) (fun n σ H3 => Same H' H3 ∧ ∃ (B : Addr) (bs : List (Addr × List Int)), H3 B = some (.lst ((bs.map (·.1)).map V.ref)) ∧ (∀ t ∈ bs, H3 t.1 = some (.lst (t.2.map V.int))) ∧ BestK (gs.map (·.2)) n (bs.map (·.2)) ∧ bs.length ≤ n ∧
      ∃ u7 u8 u9 u10 u11 : Option V, σ = [some (.ref ad), some (.ref rr), some (.ref l), some (.int gs.length), some (.int ((N : Nat) : Int)), u5, some (.ref B), u7, u8, u9, u10, u11])
    ⟨sB, B0, [], upd_same, (fun t ht => nomatch ht), ⟨(fun k hk => nomatch hk), (fun k hk => nomatch hk), fun m hm => absurd hm (Nat.not_lt_zero _), List.nodup_nil⟩, Nat.le_refl _, none, none, none, none, none, rfl⟩ ?_ ?_⟩
  · rintro n σ H3 hn ⟨s3, B, bs, eB, ob, bk, lb, u7, u8, u9, u10, u11, rfl⟩
    refine ⟨_, rfl, ?_⟩
    refine ⟨Nat.zero_le _, fun g hg => ⟨Nat.zero_le _, fun d0 hd0 => ?_⟩⟩
    have sg := same_new hg (.lst [])
    have sd := same_new hd0 (.lst [])
    have s35 := sg.trans sd
    have eg5 : upd (upd H3 g (.lst [])) d0 (.lst []) g = some (.lst []) := sd _ _ upd_same
    have ed5 : upd (upd H3 g (.lst [])) d0 (.lst []) d0 = some (.lst []) := upd_same
    have ndg : d0 ≠ g := fun z => by rw [z, upd_same] at hd0; cases hd0
    have ndg0 : H3 g = none := hg
    generalize upd (upd H3 g (.lst [])) d0 (.lst []) = H5 at s35 eg5 ed5 ⊢
    clear sg sd
    refine ⟨_, rfl, _, rfl, by omega, by omega, for_range (lo := 0) (n := gs.length) (fun i σ H6 => Same H3 H6 ∧ H6 g = some (.lst ((fl (bt n) i).map V.int)) ∧ ∃ (d : Addr) (u11 : Option V), d ≠ g ∧ H6 d = some (.lst (sdRefs (rest (gs.map (·.2)) n i))) ∧ (rest (gs.map (·.2)) n i).length ≤ 2 * i ∧ σ = [some (.ref ad), some (.ref rr), some (.ref l), some (.int gs.length), some (.int ((N : Nat) : Int)), u5, some (.ref B), some (.int (0 + n)), some (.int ((n / 2 ^ i : Nat) : Int)), some (.ref g), some (.ref d), u11])
      ⟨s35, eg5, d0, u11, ndg, ed5, Nat.le_refl _, ?_⟩ ?_ ?_⟩
    · rw [Nat.pow_zero, Nat.div_one, Int.zero_add]
      rfl
    · rintro i σ H6 hi ⟨s6, eg6, d, u11, nd, ed6, ld, rfl⟩
      have e0 : (0 : Int) + (i : Int) = (i : Int) := Int.zero_add _
      obtain ⟨gx, ggx, mgx, at', egx⟩ := grefs_at hi (k := 0 + (i : Int)) e0
      have hq : ∀ x : Nat, ((x : Nat) : Int) % 2 = ((x % 2 : Nat) : Int) := fun x => by push_cast; rfl
      have fs := fl_succ (bt n) i
      have rs := rest_succ (gs.map (·.2)) n i
      have fln := fl_len (bt n) i
      have half : ((n / 2 ^ i : Nat) : Int) / 2 = ((n / 2 ^ (i + 1) : Nat) : Int) := by
        rw [Nat.pow_succ, ← Nat.div_div_eq_div_mul]
        push_cast
        rfl
      refine ⟨_, rfl, _, _, rfl, rfl, (by show (0 : Int) < 2; decide), rfl, _, rfl, ?_⟩
      by_cases hb : bt n i = true
      · have hb1 : n / 2 ^ i % 2 = 1 := of_decide_eq_true hb
        refine ifE (fun _ => ?_) (fun z => absurd (show ((n / 2 ^ i : Nat) : Int) % 2 = 1 by rw [hq, hb1]; rfl) z)
        refine ⟨_, rfl, .inl ⟨rfl, _, SqL.of eg6⟩, _, rfl, g, _, _, rfl, rfl, eg6, small1000 (by rw [List.length_map]; omega), ?_⟩
        refine ⟨_, rfl, _, _, rfl, rfl, CDivP.of (by decide) (by decide +kernel), ?_⟩
        rw [half]
        refine ⟨s6.putNew ndg0, ?_, d, _, nd, by rw [upd_ne nd, ed6, rs, if_pos hb, List.append_nil], by rw [rs, if_pos hb, List.append_nil]; omega, rfl⟩
        rw [upd_same, fs, if_pos hb, List.map_append, e0]
        rfl
      · have hbf : bt n i = false := by simpa using hb
        have hb1 : n / 2 ^ i % 2 ≠ 1 := of_decide_eq_false hbf
        refine ifE (fun z => absurd (show n / 2 ^ i % 2 = 1 by have z : ((n / 2 ^ i : Nat) : Int) % 2 = 1 := z; rw [hq] at z; omega) hb1) (fun _ => ?_)
        have g2 := few gx mgx
        have s36 := s3.trans s6
        refine ⟨_, rfl, _, rfl, _, rfl, l, _, _, _, rfl, rfl, .inl (SqL.of (s36 _ _ el2)), at', d, gx.1, _, _, rfl, rfl, ed6, s36 _ _ (ok2 gx mgx).1, ?_, fun p hp => ?_⟩
        · rw [sdRefs_length, sdRefs_length]
          exact small (by omega)
        have sp := same_new hp (.lst (sdRefs (rest (gs.map (·.2)) n i) ++ sdRefs gx.2))
        have npg : p ≠ g := fun z => by rw [z, eg6] at hp; cases hp
        refine ⟨_, rfl, _, _, rfl, rfl, CDivP.of (by decide) (by decide +kernel), ?_⟩
        rw [half]
        refine ⟨s6.trans sp, ?_, p, _, npg, ?_, ?_, rfl⟩
        · rw [sp _ _ eg6, fs, if_neg hb, List.append_nil]
        · rw [upd_same, rs, if_neg hb, egx]
          simp [sdRefs]
        · rw [rs, if_neg hb, egx, List.length_append]
          omega
    · rintro σ H6 ⟨s6, eg6, d, u11, nd, ed6, ld, rfl⟩
      generalize ((n / 2 ^ gs.length : Nat) : Int) = lf
      have gl : (fl (bt n) gs.length) = goneOf (gs.map (·.2)) n := by rw [← lss]
      rw [gl] at eg6
      have kn : (goneOf (gs.map (·.2)) n).length ≤ gs.length := by rw [← gl]; exact fl_len _ _
      have er : rest (gs.map (·.2)) n gs.length = rest (gs.map (·.2)) n (gs.map (·.2)).length := by rw [lss]
      rw [er] at ed6 ld
      clear gl er
      have s26 := s3.trans s6
      have hrest : SdOk H6 (rest (gs.map (·.2)) n (gs.map (·.2)).length) := fun t ht => by
        obtain ⟨i, hi, _, hti⟩ := mem_rest.mp ht
        rw [lss] at hi
        rw [List.getD_eq_getElem?_getD, List.getElem?_map, List.getElem?_eq_getElem hi] at hti
        exact ((ok2.same s26) gs[i] (List.getElem_mem hi)).2 t hti
      have eB6 := s6 _ _ eB
      have ob6 : ∀ t ∈ bs, H6 t.1 = some (.lst (t.2.map V.int)) := fun t ht => s6 _ _ (ob t ht)
      apply cutX (ok := fun H7 => Same H6 H7 ∧ ∀ k ∈ bs.map (·.2), (goneOf (gs.map (·.2)) n).length ≤ k.length)
      · intro main
        refine ⟨_, rfl, Nat.zero_le _, fun e0 he0 => ?_⟩
        have se := same_new he0 (.lst [])
        have ee : upd H6 e0 (.lst []) e0 = some (.lst []) := upd_same
        generalize upd H6 e0 (.lst []) = H7 at se ee ⊢
        refine ⟨B, e0, bs.map (·.1), rfl, rfl, SqL.of (se _ _ eB6), SqL.of ee, _, rfl, ?_⟩
        by_cases hbs : bs = []
        · rw [show (bs.map (·.1)).isEmpty = true by rw [hbs]; rfl]
          refine iteT ?_
          exact main H7 ⟨se, fun k hk => by rw [hbs] at hk; cases hk⟩
        · obtain ⟨b0, mb, at0⟩ : ∃ b0, b0 ∈ bs ∧ atI ((bs.map (·.1)).map V.ref) 0 = some (.ref b0.1) := by
            cases bs with
            | nil => exact absurd rfl hbs
            | cons b0 br => exact ⟨b0, .head _, atI_nat (j := 0) rfl⟩
          rw [show (bs.map (·.1)).isEmpty = false by cases bs with | nil => exact absurd rfl hbs | cons => rfl]
          refine iteF ?_
          refine ⟨_, rfl, g, _, rfl, .inl (SqL.of (se _ _ eg6)), _, rfl, B, _, _, .ref b0.1, rfl, rfl, .inl (SqL.of (se _ _ eB6)), at0, b0.1, _, rfl, .inl (SqL.of (se _ _ (ob6 b0 mb))), _, _, rfl, rfl, _, rfl, ?_⟩
          rw [List.length_map, List.length_map]
          refine ifD (fun hle => ?_) (fun hle => ?_)
          · refine main H7 ⟨se, fun k hk => ?_⟩
            rw [bk.alike hk (List.mem_map_of_mem mb)]
            have hle : ((goneOf (gs.map (·.2)) n).length : Int) ≤ (b0.2.length : Int) := hle
            omega
          · have hle : ¬ ((goneOf (gs.map (·.2)) n).length : Int) ≤ (b0.2.length : Int) := hle
            exact ⟨s26.trans se, B, bs, se _ _ eB6, fun t ht => se _ _ (ob6 t ht), bk.skip fun _ => ⟨_, List.mem_map_of_mem mb, by omega⟩, by omega, _, _, _, _, _, rfl⟩
      rintro H7 ⟨s7, hb⟩
      have s27 := s26.trans s7
      refine ⟨_, rfl, d, rest (gs.map (·.2)) n (gs.map (·.2)).length, rfl, s7 _ _ ed6, hrest.same s7, by omega, fun H8 s8 hc => ?_, fun p P H8 s8 sp wP => ?_⟩
      · refine ⟨rfl, _, rfl, ?_⟩
        refine iteF ?_
        refine ⟨s27.trans s8, B, bs, (s7.trans s8) _ _ eB6, fun t ht => (s7.trans s8) _ _ (ob6 t ht), bk.skip fun ⟨z, zw, wz⟩ => ?_, by omega, _, _, _, _, _, rfl⟩
        exfalso
        obtain ⟨P, cP, _, wP⟩ := cand_of (fun t ht => (hrest t ht).2.1) z zw wz
        exact hc P cP wP
      · refine ⟨rfl, _, rfl, ?_⟩
        refine iteT ?_
        have s68 := s7.trans s8
        have eB8 := s68 _ _ eB6
        have eg8 := s68 _ _ eg6
        have ob8 : ∀ t ∈ bs, H8 t.1 = some (.lst (t.2.map V.int)) := fun t ht => s68 _ _ (ob6 t ht)
        have bk' := bk.take (by rw [pN]; exact hn) ⟨P, sp.2.1, wP⟩ hb
        refine ⟨_, rfl, B, rfl, .inl ⟨⟨_, SqL.of eB8⟩, fun cc D9 hD9 => comp_list (K := K) (a := B) (xs := (bs.map (·.1)).map V.ref) (fun i σ ys H' => H' = upd H8 D9 (.lst ys) ∧ ys = ((((bs.take i).filter fun t => decide ((t.2.length : Int) = ((goneOf (gs.map (·.2)) n).length : Int))).map (·.1)).map V.ref) ∧ ∃ u : Option V, σ = [u, some (.ref g)])
          ⟨rfl, rfl, none, rfl⟩ (fun i σ ys H' _ ⟨e, _⟩ => ⟨by rw [e]; exact SqL.of (same_new hD9 _ _ _ eB8), by rw [e]; exact upd_same⟩) ?_ ?_⟩⟩
        · rintro i v σ ys H9 hi ⟨rfl, rfl, u, rfl⟩
          rw [List.getElem?_map, List.getElem?_map] at hi
          cases gx : bs[i]? with
          | none => rw [gx] at hi; cases hi
          | some x =>
            rw [gx] at hi
            cases hi
            have hx := ob8 x (List.mem_of_getElem? gx)
            have hil : i < bs.length := (List.getElem?_eq_some_iff.mp gx).1
            have s9 := same_new hD9 (.lst ((((bs.take i).filter fun t => decide ((t.2.length : Int) = ((goneOf (gs.map (·.2)) n).length : Int))).map (·.1)).map V.ref))
            refine ⟨_, rfl, x.1, _, rfl, .inl (SqL.of (s9 _ _ hx)), _, rfl, g, _, rfl, .inl (SqL.of (s9 _ _ eg8)), rfl, _, rfl, ?_⟩
            have tk := take_snoc gx
            refine ifE (fun he => ?_) (fun he => ?_)
            · have he : (x.2.length : Int) = ((goneOf (gs.map (·.2)) n).length : Int) := by rw [List.length_map, List.length_map] at he; exact he
              refine ⟨_, rfl, upd_same, small1000 ?_, upd_upd, ?_, _, rfl⟩
              · simp only [List.length_map]
                have z := List.length_filter_le (fun t : Addr × List Int => decide ((t.2.length : Int) = ((goneOf (gs.map (·.2)) n).length : Int))) (bs.take i)
                rw [List.length_take] at z
                omega
              · rw [tk, List.filter_append, List.map_append, List.map_append, List.filter_cons, if_pos (decide_eq_true he)]
                rfl
            · have he : ¬ (x.2.length : Int) = ((goneOf (gs.map (·.2)) n).length : Int) := by rw [List.length_map, List.length_map] at he; exact he
              refine ⟨rfl, ?_, _, rfl⟩
              rw [tk, List.filter_append, List.filter_cons, if_neg (by simpa using he)]
              simp
        · rintro σ ys H9 ⟨rfl, rfl, u, rfl⟩
          have lx : ((bs.map (·.1)).map V.ref).length = bs.length := by simp
          rw [lx, List.take_length]
          have fm : (bs.filter fun t => decide ((t.2.length : Int) = ((goneOf (gs.map (·.2)) n).length : Int))).map (·.2) = (bs.map (·.2)).filter fun k => decide ((k.length : Int) = ((goneOf (gs.map (·.2)) n).length : Int)) := by
            rw [List.filter_map]
            rfl
          have fl1 : (bs.filter fun t => decide ((t.2.length : Int) = ((goneOf (gs.map (·.2)) n).length : Int))).length ≤ bs.length := List.length_filter_le _ _
          have fmem : ∀ t ∈ bs.filter (fun t => decide ((t.2.length : Int) = ((goneOf (gs.map (·.2)) n).length : Int))), t ∈ bs := fun t ht => (List.mem_filter.mp ht).1
          generalize (bs.filter fun t => decide ((t.2.length : Int) = ((goneOf (gs.map (·.2)) n).length : Int))) = fb at fm fl1 fmem ⊢
          have s9 := same_new hD9 (.lst ((fb.map (·.1)).map V.ref))
          have e9 : upd H8 D9 (.lst ((fb.map (·.1)).map V.ref)) D9 = some (.lst ((fb.map (·.1)).map V.ref)) := upd_same
          generalize upd H8 D9 (.lst ((fb.map (·.1)).map V.ref)) = H9 at s9 e9 ⊢
          refine ⟨_, rfl, by show 1 ≤ sizeLine; decide, fun o ho => ?_⟩
          have so := same_new ho (.lst [.ref g])
          refine ⟨D9, o, _, _, rfl, rfl, so _ _ e9, upd_same, small (by simp only [List.length_map]; show fb.length + 1 ≤ _; omega), fun p2 hp2 => ?_⟩
          have s10 := same_new hp2 (.lst ((fb.map (·.1)).map V.ref ++ [.ref g]))
          have s810 := (s9.trans so).trans s10
          refine ⟨(s27.trans s8).trans s810, p2, fb ++ [(g, goneOf (gs.map (·.2)) n)], by rw [upd_same]; simp, fun t ht => ?_, ?_, by rw [List.length_append]; show fb.length + 1 ≤ _; omega, _, _, _, _, _, rfl⟩
          · rcases List.mem_append.mp ht with ht | ht
            · exact s810 _ _ (ob8 t (fmem t ht))
            · rw [List.mem_singleton] at ht
              subst ht
              exact s810 _ _ eg8
          · rw [List.map_append, fm]
            exact bk'
  · rintro σ H3 ⟨s3, B, bs, eB, ob, bk, lb, u7, u8, u9, u10, u11, rfl⟩
    rw [← pN] at bk
    have mem := best_rows nz bk
    have el3 := s3 _ _ el2
    have ok3 := ok2.same s3
    refine ⟨_, rfl, l, rfl, .inl ⟨⟨_, SqL.of el3⟩, fun cc D hD => copy_groups el3 ok3 hD (by omega) (fun H' x xs Q' ex q' => ⟨_, rfl, x, _, rfl, .inl (SqL.of ex), q'⟩) fun cs H4 P4 em => ?_⟩⟩
    have lc : cs.length = gs.length := by have z := congrArg List.length em; rwa [List.length_map, List.length_map] at z
    have fc : ∀ g ∈ cs, g.2.length ≤ 2 := fun g hg => by
      have z : g.2 ∈ gs.map (·.2) := by rw [← em]; exact List.mem_map_of_mem hg
      obtain ⟨g', hg', e⟩ := List.mem_map.mp z
      rw [← e]
      exact few g' hg'
    have es : sidesOf cs = sidesOf gs := by
      unfold sidesOf
      rw [List.flatMap_def, List.flatMap_def, em]
    refine ⟨D, cs, rfl, SqL.of P4.at', P4.all, by omega, fc, fun F fs H6 s6 hF eF of2 in2 le2 nd2 pw2 lf2 => ?_⟩
    rw [em, es] at in2
    have s36 := P4.same.trans s6
    refine ⟨_, rfl, B, bs, rfl, SqL.of (s36 _ _ eB), fun t ht => s36 _ _ (ob t ht), fun p us hp pm pw => ?_⟩
    have s7 := same_new hp (.lst ((us.map (·.1)).map V.ref))
    have ep : upd H6 p (.lst ((us.map (·.1)).map V.ref)) p = some (.lst ((us.map (·.1)).map V.ref)) := upd_same
    generalize upd H6 p (.lst ((us.map (·.1)).map V.ref)) = H7 at s7 ep ⊢
    have s37 := s36.trans s7
    have mem2 : ∀ k, k ∈ fs.map (·.2) ↔ k ∈ bs.map (·.2) := fun k => by
      rw [mem k]
      constructor
      · intro hk
        refine ⟨in2 k hk, fun P hP => ?_⟩
        have z := le2.least k hk P (by rw [es]; exact hP)
        rwa [em] at z
      · rintro ⟨⟨P, hP, e⟩, h1⟩
        have z := le2.all P (by rw [es]; exact hP) (fun k' hk' => by
          obtain ⟨P', hP', e'⟩ := in2 k' hk'
          rw [em, ← e, e']
          exact h1 P' hP')
        rwa [em, ← e] at z
    have eq : fs.map (·.2) = us.map (·.2) := rise_eq (((List.perm_ext_iff_of_nodup nd2 bk.nodup).mpr mem2).trans (pm.map _).symm) pw2 (by rw [List.pairwise_map]; exact pw)
    have ll : fs.length = us.length := by have z := congrArg List.length eq; rwa [List.length_map, List.length_map] at z
    refine ⟨.ref F, .ref p, rfl, .inr ⟨F, p, _, _, true, rfl, rfl, s7 _ _ eF, ep, by simp only [List.length_map]; exact ll, by simp only [List.length_map]; exact lf2, fun j u v g1 g2 => ?_⟩, fun H8 s8 => q _⟩
    rw [List.getElem?_map, List.getElem?_map] at g1 g2
    cases x1 : fs[j]? with
    | none => rw [x1] at g1; cases g1
    | some t =>
      cases x2 : us[j]? with
      | none => rw [x2] at g2; cases g2
      | some t' =>
        rw [x1] at g1
        rw [x2] at g2
        cases g1
        cases g2
        have e2 : t.2 = t'.2 := by
          have z := congrArg (fun l : List (List Int) => l[j]?) eq
          simp only [List.getElem?_map, x1, x2, Option.map_some] at z
          exact Option.some.inj z
        have m1 := List.mem_of_getElem? x1
        obtain ⟨P, hP, eP⟩ := in2 t.2 (List.mem_map_of_mem m1)
        have k24 : t.2.length ≤ 24 := by
          rw [eP]
          have z := dbN_len (gs.map (·.2)) P (gs.map (·.2)).length
          exact Nat.le_trans z (by rw [List.length_map]; omega)
        refine .inr ⟨t.1, t'.1, t.2.map V.int, t'.2.map V.int, true, rfl, rfl, s7 _ _ (of2 t m1).1, s37 _ _ (ob t' (pm.mem_iff.mp (List.mem_of_getElem? x2))), by rw [e2], by rw [List.length_map]; omega, fun i u v g1 g2 => ?_⟩
        rw [e2, g2] at g1
        cases g1
        obtain ⟨m, _, rfl⟩ := mapInt_get g2
        exact DR.int rfl
end
abbrev AtK (K : PySem.W.Frag) (x : Str) (s : Stmt) (f : Addr) (oc : Value) (od : Option Addr) (sl : Array (Option Value)) (kV dc pm : Value) (an : Option Addr) (cd ct : Value) : Prop :=
  PySem.W.nsIn K mainGlobals x = some (some (.ref f)) ∧ K.lookup f = some ⟨oc, od, .func (PySem.W.fnOf x x (defArgs s) (defBody s) (defScope s) .none kV dc pm an cd ct), sl⟩ ∧ PySem.W.codeIn K cd x = true ∧ PySem.W.keepIn K (.ref f) = true
section
variable {K : PySem.W.Frag} {x : Str} {s : Stmt} {f : Addr} {oc kV dc pm cd ct : Value} {od an : Option Addr} {sl : Array (Option Value)} {h : Heap} {mg : Str → Option Value}
theorem fn_mk (q : AtK K x s f oc od sl kV dc pm an cd ct) : Fun K x x s f (PySem.W.fnOf x x (defArgs s) (defBody s) (defScope s) .none kV dc pm an cd ct) := fun_mk (st := s) q.2.1 q.2.2.1 q.2.2.2
theorem has_mk (P : Program) (w : World) (base : Heap) (X : K.In h) (G : h.Ns mainGlobals mg) (q : AtK K x s f oc od sl kV dc pm an cd ct) {ps : List Str} {n : Nat} {sp : Sp} (o : FnOk P w K mg base CX0 n f (PySem.W.fnOf x x (defArgs s) (defBody s) (defScope s) .none kV dc pm an cd ct) ps sp)
    (b : ∀ (kV doc pm : Value) (an : Option Addr) (cdv ct : Value) (us : List Value), us.length = ps.length → bindArgs (PySem.W.fnOf x x (defArgs s) (defBody s) (defScope s) .none kV doc pm an cdv ct) ⟨us, []⟩ = pure (ps.zip us)) : Has P w K mg base x n ps sp :=
  ⟨_, _, o, (fn_mk q).binds b, q.2.2.2, PySem.W.mg_of X G q.1⟩
end
theorem us1 {R : List Value → Prop} (h : ∀ a, R [a]) : ∀ us : List Value, us.length = 1 → R us
  | [a], _ => h a
theorem us2 {R : List Value → Prop} (h : ∀ a b, R [a, b]) : ∀ us : List Value, us.length = 2 → R us
  | [a, b], _ => h a b
theorem us3 {R : List Value → Prop} (h : ∀ a b c, R [a, b, c]) : ∀ us : List Value, us.length = 3 → R us
  | [a, b, c], _ => h a b c
theorem all_mk {l : PySem.W.OpenLaw} {w : World} {K : PySem.W.Frag} {h : Heap} {mg : Str → Option Value} {fa : Addr} (X : K.In h) (G : h.Ns mainGlobals mg) (hfa : mg "law" = some (.ref fa))
    {f1 f2 f3 f4 f5 f6 f7 f8 f9 f10 f11 f12 f13 f14 f15 f16 f17 f18 f19 f20 f21 f22 f23 f24 f25 f26 f27 f28 f29 f30 f31 : Addr}
    {oc1 kV1 dc1 pm1 cd1 ct1 oc2 kV2 dc2 pm2 cd2 ct2 oc3 kV3 dc3 pm3 cd3 ct3 oc4 kV4 dc4 pm4 cd4 ct4 oc5 kV5 dc5 pm5 cd5 ct5 oc6 kV6 dc6 pm6 cd6 ct6 oc7 kV7 dc7 pm7 cd7 ct7 oc8 kV8 dc8 pm8 cd8 ct8 oc9 kV9 dc9 pm9 cd9 ct9 oc10 kV10 dc10 pm10 cd10 ct10 oc11 kV11 dc11 pm11 cd11 ct11 oc12 kV12 dc12 pm12 cd12 ct12 oc13 kV13 dc13 pm13 cd13 ct13 oc14 kV14 dc14 pm14 cd14 ct14 oc15 kV15 dc15 pm15 cd15 ct15 oc16 kV16 dc16 pm16 cd16 ct16 oc17 kV17 dc17 pm17 cd17 ct17 oc18 kV18 dc18 pm18 cd18 ct18 oc19 kV19 dc19 pm19 cd19 ct19 oc20 kV20 dc20 pm20 cd20 ct20 oc21 kV21 dc21 pm21 cd21 ct21 oc22 kV22 dc22 pm22 cd22 ct22 oc23 kV23 dc23 pm23 cd23 ct23 oc24 kV24 dc24 pm24 cd24 ct24 oc25 kV25 dc25 pm25 cd25 ct25 oc26 kV26 dc26 pm26 cd26 ct26 oc27 kV27 dc27 pm27 cd27 ct27 oc28 kV28 dc28 pm28 cd28 ct28 oc29 kV29 dc29 pm29 cd29 ct29 oc30 kV30 dc30 pm30 cd30 ct30 oc31 kV31 dc31 pm31 cd31 ct31 : Value}
    {od1 an1 od2 an2 od3 an3 od4 an4 od5 an5 od6 an6 od7 an7 od8 an8 od9 an9 od10 an10 od11 an11 od12 an12 od13 an13 od14 an14 od15 an15 od16 an16 od17 an17 od18 an18 od19 an19 od20 an20 od21 an21 od22 an22 od23 an23 od24 an24 od25 an25 od26 an26 od27 an27 od28 an28 od29 an29 od30 an30 od31 an31 : Option Addr}
    {sl1 sl2 sl3 sl4 sl5 sl6 sl7 sl8 sl9 sl10 sl11 sl12 sl13 sl14 sl15 sl16 sl17 sl18 sl19 sl20 sl21 sl22 sl23 sl24 sl25 sl26 sl27 sl28 sl29 sl30 sl31 : Array (Option Value)}
    (q1 : AtK K "common_factor" s_p_common_factor f1 oc1 od1 sl1 kV1 dc1 pm1 an1 cd1 ct1)
    (q2 : AtK K "lowest" s_p_lowest f2 oc2 od2 sl2 kV2 dc2 pm2 an2 cd2 ct2)
    (q3 : AtK K "upright" s_p_upright f3 oc3 od3 sl3 kV3 dc3 pm3 an3 cd3 ct3)
    (q4 : AtK K "spot" s_p_spot f4 oc4 od4 sl4 kV4 dc4 pm4 an4 cd4 ct4)
    (q5 : AtK K "turn" s_p_turn f5 oc5 od5 sl5 kV5 dc5 pm5 an5 cd5 ct5)
    (q6 : AtK K "along" s_p_along f6 oc6 od6 sl6 kV6 dc6 pm6 an6 cd6 ct6)
    (q7 : AtK K "beyond" s_p_beyond f7 oc7 od7 sl7 kV7 dc7 pm7 an7 cd7 ct7)
    (q8 : AtK K "holds" s_p_holds f8 oc8 od8 sl8 kV8 dc8 pm8 an8 cd8 ct8)
    (q9 : AtK K "crossing" s_p_crossing f9 oc9 od9 sl9 kV9 dc9 pm9 an9 cd9 ct9)
    (q10 : AtK K "in_water" s_p_in_water f10 oc10 od10 sl10 kV10 dc10 pm10 an10 cd10 ct10)
    (q11 : AtK K "foot" s_p_foot f11 oc11 od11 sl11 kV11 dc11 pm11 an11 cd11 ct11)
    (q12 : AtK K "doubted" s_p_doubted f12 oc12 od12 sl12 kV12 dc12 pm12 an12 cd12 ct12)
    (q13 : AtK K "places_to_try" s_p_places_to_try f13 oc13 od13 sl13 kV13 dc13 pm13 an13 cd13 ct13)
    (q14 : AtK K "least_doubts" s_p_least_doubts f14 oc14 od14 sl14 kV14 dc14 pm14 an14 cd14 ct14)
    (q15 : AtK K "choices" s_p_choices f15 oc15 od15 sl15 kV15 dc15 pm15 an15 cd15 ct15)
    (q16 : AtK K "_law_power" s_L_power f16 oc16 od16 sl16 kV16 dc16 pm16 an16 cd16 ct16)
    (q17 : AtK K "_law_draws" s_L_draws f17 oc17 od17 sl17 kV17 dc17 pm17 an17 cd17 ct17)
    (q18 : AtK K "_law_way" s_L_way f18 oc18 od18 sl18 kV18 dc18 pm18 an18 cd18 ct18)
    (q19 : AtK K "_law_side" s_L_side f19 oc19 od19 sl19 kV19 dc19 pm19 an19 cd19 ct19)
    (q20 : AtK K "_law_turned" s_L_turned f20 oc20 od20 sl20 kV20 dc20 pm20 an20 cd20 ct20)
    (q21 : AtK K "_law_left_pair" s_L_left_pair f21 oc21 od21 sl21 kV21 dc21 pm21 an21 cd21 ct21)
    (q22 : AtK K "_law_groups" s_L_groups f22 oc22 od22 sl22 kV22 dc22 pm22 an22 cd22 ct22)
    (q23 : AtK K "_law_low" s_L_low f23 oc23 od23 sl23 kV23 dc23 pm23 an23 cd23 ct23)
    (q24 : AtK K "_law_spot_of" s_L_spot_of f24 oc24 od24 sl24 kV24 dc24 pm24 an24 cd24 ct24)
    (q25 : AtK K "_law_meet" s_L_meet f25 oc25 od25 sl25 kV25 dc25 pm25 an25 cd25 ct25)
    (q26 : AtK K "_law_has" s_L_has f26 oc26 od26 sl26 kV26 dc26 pm26 an26 cd26 ct26)
    (q27 : AtK K "_law_corners_of" s_L_corners_of f27 oc27 od27 sl27 kV27 dc27 pm27 an27 cd27 ct27)
    (q28 : AtK K "_law_feet" s_L_feet f28 oc28 od28 sl28 kV28 dc28 pm28 an28 cd28 ct28)
    (q29 : AtK K "_law_any_place" s_L_any_place f29 oc29 od29 sl29 kV29 dc29 pm29 an29 cd29 ct29)
    (q30 : AtK K "_law_same" s_L_same f30 oc30 od30 sl30 kV30 dc30 pm30 an30 cd30 ct30)
    (q31 : AtK K "law" s_law f31 oc31 od31 sl31 kV31 dc31 pm31 an31 cd31 ct31)
    (z_abs : PySem.W.nsIn K mainGlobals "abs" = some none)
    (z_all : PySem.W.nsIn K mainGlobals "all" = some none)
    (z_bool : PySem.W.nsIn K mainGlobals "bool" = some none)
    (z_enumerate : PySem.W.nsIn K mainGlobals "enumerate" = some none)
    (z_int : PySem.W.nsIn K mainGlobals "int" = some none)
    (z_isinstance : PySem.W.nsIn K mainGlobals "isinstance" = some none)
    (z_len : PySem.W.nsIn K mainGlobals "len" = some none)
    (z_list : PySem.W.nsIn K mainGlobals "list" = some none)
    (z_min : PySem.W.nsIn K mainGlobals "min" = some none)
    (z_range : PySem.W.nsIn K mainGlobals "range" = some none)
    (z_sorted : PySem.W.nsIn K mainGlobals "sorted" = some none)
    (z_str : PySem.W.nsIn K mainGlobals "str" = some none)
    (z_tuple : PySem.W.nsIn K mainGlobals "tuple" = some none)
    (z_zip : PySem.W.nsIn K mainGlobals "zip" = some none) :
    ∃ fd : FuncData, (∀ (s : Shared) (v : Value), BindsTo s fd ⟨[v], []⟩ [("_law_script", v)]) ∧ ∀ base : Heap, K.In base → base.Ns mainGlobals mg → FnOk l.prog w K mg base CX0 9 fa fd ["_law_script"] (sp_law K) := by
  have e := hfa.symm.trans (PySem.W.mg_of X G q31.1)
  cases e
  have Z : Zs mg := ⟨PySem.W.mg_none_of X G z_abs, PySem.W.mg_none_of X G z_all, PySem.W.mg_none_of X G z_bool, PySem.W.mg_none_of X G z_enumerate, PySem.W.mg_none_of X G z_int, PySem.W.mg_none_of X G z_isinstance, PySem.W.mg_none_of X G z_len, PySem.W.mg_none_of X G z_list, PySem.W.mg_none_of X G z_min, PySem.W.mg_none_of X G z_range, PySem.W.mg_none_of X G z_sorted, PySem.W.mg_none_of X G z_str, PySem.W.mg_none_of X G z_tuple, PySem.W.mg_none_of X G z_zip⟩
  refine ⟨PySem.W.fnOf "law" "law" (defArgs s_law) (defBody s_law) (defScope s_law) .none kV31 dc31 pm31 an31 cd31 ct31, fun s v => .of_eq rfl, fun base _ _ => ?_⟩
  have h_p_common_factor := has_mk l.prog w base X G q1 (ok_p_common_factor (fn_mk q1) Z ) (fun _ _ _ _ _ _ => us1 fun _ => rfl)
  have h_p_lowest := has_mk l.prog w base X G q2 (ok_p_lowest (fn_mk q2) Z h_p_common_factor) (fun _ _ _ _ _ _ => us1 fun _ => rfl)
  have h_p_upright := has_mk l.prog w base X G q3 (ok_p_upright (fn_mk q3) Z h_p_lowest) (fun _ _ _ _ _ _ => us1 fun _ => rfl)
  have h_p_spot := has_mk l.prog w base X G q4 (ok_p_spot (fn_mk q4) Z h_p_upright) (fun _ _ _ _ _ _ => us3 fun _ _ _ => rfl)
  have h_p_turn := has_mk l.prog w base X G q5 (ok_p_turn (fn_mk q5) Z ) (fun _ _ _ _ _ _ => us2 fun _ _ => rfl)
  have h_p_along := has_mk l.prog w base X G q6 (ok_p_along (fn_mk q6) Z ) (fun _ _ _ _ _ _ => us2 fun _ _ => rfl)
  have h_p_beyond := has_mk l.prog w base X G q7 (ok_p_beyond (fn_mk q7) Z ) (fun _ _ _ _ _ _ => us2 fun _ _ => rfl)
  have h_p_holds := has_mk l.prog w base X G q8 (ok_p_holds (fn_mk q8) Z h_p_beyond) (fun _ _ _ _ _ _ => us2 fun _ _ => rfl)
  have h_p_crossing := has_mk l.prog w base X G q9 (ok_p_crossing (fn_mk q9) Z h_p_upright h_p_turn) (fun _ _ _ _ _ _ => us2 fun _ _ => rfl)
  have h_p_in_water := has_mk l.prog w base X G q10 (ok_p_in_water (fn_mk q10) Z h_p_holds) (fun _ _ _ _ _ _ => us2 fun _ _ => rfl)
  have h_p_foot := has_mk l.prog w base X G q11 (ok_p_foot (fn_mk q11) Z h_p_spot h_p_along) (fun _ _ _ _ _ _ => us1 fun _ => rfl)
  have h_p_doubted := has_mk l.prog w base X G q12 (ok_p_doubted (fn_mk q12) Z h_p_in_water) (fun _ _ _ _ _ _ => us2 fun _ _ => rfl)
  have h_p_places_to_try := has_mk l.prog w base X G q13 (ok_p_places_to_try (fn_mk q13) Z h_p_crossing h_p_foot h_p_spot) (fun _ _ _ _ _ _ => us1 fun _ => rfl)
  have h_p_least_doubts := has_mk l.prog w base X G q14 (ok_p_least_doubts (fn_mk q14) Z h_p_places_to_try h_p_doubted) (fun _ _ _ _ _ _ => us1 fun _ => rfl)
  have h_p_choices := has_mk l.prog w base X G q15 (ok_p_choices (fn_mk q15) Z h_p_least_doubts) (fun _ _ _ _ _ _ => us1 fun _ => rfl)
  have h_L_power := has_mk l.prog w base X G q16 (ok_L_power (fn_mk q16) Z ) (fun _ _ _ _ _ _ => us1 fun _ => rfl)
  have h_L_draws := has_mk l.prog w base X G q17 (ok_L_draws (fn_mk q17) Z h_L_power) (fun _ _ _ _ _ _ => us2 fun _ _ => rfl)
  have h_L_way := has_mk l.prog w base X G q18 (ok_L_way (fn_mk q18) Z ) (fun _ _ _ _ _ _ => us3 fun _ _ _ => rfl)
  have h_L_side := has_mk l.prog w base X G q19 (ok_L_side (fn_mk q19) Z h_L_way) (fun _ _ _ _ _ _ => us1 fun _ => rfl)
  have h_L_turned := has_mk l.prog w base X G q20 (ok_L_turned (fn_mk q20) Z ) (fun _ _ _ _ _ _ => us2 fun _ _ => rfl)
  have h_L_left_pair := has_mk l.prog w base X G q21 (ok_L_left_pair (fn_mk q21) Z h_L_turned h_L_way) (fun _ _ _ _ _ _ => us2 fun _ _ => rfl)
  have h_L_groups := has_mk l.prog w base X G q22 (ok_L_groups (fn_mk q22) Z h_L_side h_L_left_pair) (fun _ _ _ _ _ _ => us2 fun _ _ => rfl)
  have h_L_low := has_mk l.prog w base X G q23 (ok_L_low (fn_mk q23) Z ) (fun _ _ _ _ _ _ => us2 fun _ _ => rfl)
  have h_L_spot_of := has_mk l.prog w base X G q24 (ok_L_spot_of (fn_mk q24) Z h_L_low) (fun _ _ _ _ _ _ => us3 fun _ _ _ => rfl)
  have h_L_meet := has_mk l.prog w base X G q25 (ok_L_meet (fn_mk q25) Z h_L_spot_of) (fun _ _ _ _ _ _ => us2 fun _ _ => rfl)
  have h_L_has := has_mk l.prog w base X G q26 (ok_L_has (fn_mk q26) Z ) (fun _ _ _ _ _ _ => us2 fun _ _ => rfl)
  have h_L_corners_of := has_mk l.prog w base X G q27 (ok_L_corners_of (fn_mk q27) Z h_L_has h_L_meet) (fun _ _ _ _ _ _ => us1 fun _ => rfl)
  have h_L_feet := has_mk l.prog w base X G q28 (ok_L_feet (fn_mk q28) Z h_L_spot_of) (fun _ _ _ _ _ _ => us1 fun _ => rfl)
  have h_L_any_place := has_mk l.prog w base X G q29 (ok_L_any_place (fn_mk q29) Z h_L_corners_of h_L_feet h_L_has) (fun _ _ _ _ _ _ => us1 fun _ => rfl)
  have h_L_same := has_mk l.prog w base X G q30 (ok_L_same (fn_mk q30) Z  ((fn_mk q30).binds (ps := ["_law_told", "_law_due"]) fun _ _ _ _ _ _ => us2 fun _ _ => rfl) q30.2.2.2 (PySem.W.mg_of X G q30.1)) (fun _ _ _ _ _ _ => us2 fun _ _ => rfl)
  exact ok_law (fn_mk q31) Z h_L_same h_p_choices h_L_any_place h_L_groups h_L_draws
theorem walk {l : PySem.W.OpenLaw} {q : Program} {loose : List Str} {XP : (Str → Option Value) → Heap → Prop} {YP : World → Heap → Prop} {d : DefRec} {K : Params → PySem.W.Frag} (hn : l.most = some 63) (hdf : d.params.defaults = [])
    (hY : ∀ (w : World) (h : Heap), YP w h → (K w.params).In h)
    (F : ∀ (w : World) (mg : Str → Option Value) (fa : Addr) (h : Heap), (K w.params).In h → h.Ns mainGlobals mg → mg d.name = some (.ref fa) →
      ∃ fd : FuncData, (∀ (s : Shared) (u : Value), BindsTo s fd ⟨[u], []⟩ [("_law_script", u)]) ∧ ∀ base : Heap, (K w.params).In base → base.Ns mainGlobals mg → FnOk l.prog w (K w.params) mg base CX0 9 fa fd ["_law_script"] (sp_law (K w.params))) :
    PySem.W.WalkO q loose XP YP l.row.toRowW d [] (fun f vs => PySem.call f vs) :=
  L2.walk_of (n := 63) (k := 9) (x := "_law_script") (CX := fun _ => CX0) (sp := fun w => sp_law (K w.params)) hn (by decide) hdf ⟨rfl, by decide, by decide⟩ hY F (fun _ _ a ns hl _ hS => ⟨a, ns, rfl, hS, hl, fun _ => rfl⟩) fun _ _ _ _ _ z => z

end Sea
open PySem PySem.W PyProof.Rows
set_option maxRecDepth 100000 in
set_option maxHeartbeats 0 in
theorem PySem.Challenge.cw_seamarks_k21_whole_no_fewer_disbelieved_holds : PySem.Challenge.rw_seamarks_k21_whole_no_fewer_disbelieved.Holds := by
  w_on
  refine holds_law Sea.said_ok fun said => ?_
  refine holds_open (q := Sea.qv) (loose := []) (XP := XL Sea.qv []) (YP := InK Sea.KK) Sea.left_ok (InK.of Sea.kas_ok)
    InK.keeps (fun s e => xl_of s (Bool.and_eq_true_iff.mp e).1) XL.keeps (by rfl) (by rfl) (by rfl)
    (fun s e => recFacts_of (Bool.and_eq_true_iff.mp e).2) (by rfl) (by assumption) (by decide +kernel)
    ⟨rfl, rfl, rfl, rfl, rfl, by decide +kernel⟩ ?hw ?hc
  case hw => w_witness2
  k_fill
  refine Sea.walk (l := PySem.Challenge.rw_seamarks_k21_whole_no_fewer_disbelieved) rfl rfl (fun w h Y => Y) ?F
  case F =>
    intro w mg fa h KX G hmg
    refine' Sea.all_mk KX G hmg ?q1 ?q2 ?q3 ?q4 ?q5 ?q6 ?q7 ?q8 ?q9 ?q10 ?q11 ?q12 ?q13 ?q14 ?q15 ?q16 ?q17 ?q18 ?q19 ?q20 ?q21 ?q22 ?q23 ?q24 ?q25 ?q26 ?q27 ?q28 ?q29 ?q30 ?q31 ?z_abs ?z_all ?z_bool ?z_enumerate ?z_int ?z_isinstance ?z_len ?z_list ?z_min ?z_range ?z_sorted ?z_str ?z_tuple ?z_zip
    (case q1 => and_intros <;> k_is)
    (case q2 => and_intros <;> k_is)
    (case q3 => and_intros <;> k_is)
    (case q4 => and_intros <;> k_is)
    (case q5 => and_intros <;> k_is)
    (case q6 => and_intros <;> k_is)
    (case q7 => and_intros <;> k_is)
    (case q8 => and_intros <;> k_is)
    (case q9 => and_intros <;> k_is)
    (case q10 => and_intros <;> k_is)
    (case q11 => and_intros <;> k_is)
    (case q12 => and_intros <;> k_is)
    (case q13 => and_intros <;> k_is)
    (case q14 => and_intros <;> k_is)
    (case q15 => and_intros <;> k_is)
    (case q16 => and_intros <;> k_is)
    (case q17 => and_intros <;> k_is)
    (case q18 => and_intros <;> k_is)
    (case q19 => and_intros <;> k_is)
    (case q20 => and_intros <;> k_is)
    (case q21 => and_intros <;> k_is)
    (case q22 => and_intros <;> k_is)
    (case q23 => and_intros <;> k_is)
    (case q24 => and_intros <;> k_is)
    (case q25 => and_intros <;> k_is)
    (case q26 => and_intros <;> k_is)
    (case q27 => and_intros <;> k_is)
    (case q28 => and_intros <;> k_is)
    (case q29 => and_intros <;> k_is)
    (case q30 => and_intros <;> k_is)
    (case q31 => and_intros <;> k_is)
    (case z_abs => k_is)
    (case z_all => k_is)
    (case z_bool => k_is)
    (case z_enumerate => k_is)
    (case z_int => k_is)
    (case z_isinstance => k_is)
    (case z_len => k_is)
    (case z_list => k_is)
    (case z_min => k_is)
    (case z_range => k_is)
    (case z_sorted => k_is)
    (case z_str => k_is)
    (case z_tuple => k_is)
    (case z_zip => k_is)
