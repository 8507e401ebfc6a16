import PyProof.Rows.All
import Wide.All
import OpenK.AllK
import Wide.FinOn
import Lean
import PyProof.EqAt
import PyProof.EqKinds
import PyProof.TupleCall
import PyProof.ZipIter
import PyProof.Rows.ZipGen
import PyProof.EnumFor
import PyProof.EnumStmt
import KE.KSortTup
import KE.KDictList
import KE.KNest
import KE.KSortKey
import PySem.Challenge.RW_seamarks_k33_whole_one_side_more
set_option Elab.async false
set_option linter.all false
set_option maxRecDepth 100000
set_option maxHeartbeats 4000000
namespace L2
open PySem
def vJ (s:Stmt):Arguments:=match s with
 | .FunctionDef _ a _ _ _ _ _ _ _ _=>a
 | _=>{ posonlyargs:=[],args:=[],vararg:=none,kwonlyargs:=[],kw_defaults:=[],kwarg:=none,defaults:=[] }
def uJ (s:Stmt):List Stmt:=match s with
 | .FunctionDef _ _ b _ _ _ _ _ _ _=>b
 | _=>[]
def zM (s:Stmt):Scope:=match s with
 | .FunctionDef _ _ _ _ _ _ sc _ _ _=>sc
 | _=>{ kind:=.function,names:=[],isGenerator:=false,isCoroutine:=false }
end L2
namespace Sea
open PySem L2
def top (i:Nat):Stmt:=PySem.Challenge.pw_seamarks_k33_whole_one_side_more.main.body.getD i (.Pass ⟨0,0,0,0⟩)
abbrev xY:Stmt:=top 1
abbrev qM:Stmt:=top 2
abbrev sY:Stmt:=top 3
abbrev zC1:Stmt:=top 4
abbrev zCl:Stmt:=top 5
abbrev zCv:Stmt:=top 6
abbrev zAr:Stmt:=top 7
abbrev qO:Stmt:=top 8
abbrev vE:Stmt:=top 9
abbrev zA9:Stmt:=top 11
abbrev zBd:Stmt:=top 12
abbrev zBn:Stmt:=top 13
abbrev qP:Stmt:=top 14
abbrev zAs:Stmt:=top 15
abbrev tR:Stmt:=top 16
abbrev tV:Stmt:=top 18
abbrev zCz:Stmt:=top 19
abbrev tU:Stmt:=top 20
abbrev vM:Stmt:=top 21
abbrev wW:Stmt:=top 22
abbrev qS:Stmt:=top 23
abbrev vU:Stmt:=top 24
abbrev rE:Stmt:=top 25
abbrev qR:Stmt:=top 26
abbrev zBh:Stmt:=top 27
abbrev qW:Stmt:=top 28
abbrev zCq:Stmt:=top 29
abbrev vA:Stmt:=top 30
abbrev tQ:Stmt:=top 31
abbrev zCw:Stmt:=top 32
abbrev zC3:Stmt:=top 34
abbrev rH:Stmt:=top 35
abbrev xR:Stmt:=top 36
abbrev zA5:Stmt:=top 37
abbrev vB:Stmt:=top 38
abbrev vC:Stmt:=top 39
abbrev xS:Stmt:=top 40
abbrev uW:Stmt:=top 41
abbrev zBb:Stmt:=top 42
abbrev rC:Stmt:=top 44
abbrev xX:Stmt:=top 45
abbrev wV:Stmt:=top 46
abbrev rG:Stmt:=top 47
abbrev zBc:Stmt:=top 49
abbrev zA6:Stmt:=top 50
abbrev zA1:Stmt:=top 51
abbrev zF5:Stmt:=top 52
abbrev zCr:Stmt:=top 53
abbrev zAq:Stmt:=top 54
abbrev zCm:Stmt:=top 55
abbrev zFr:Stmt:=top 56
abbrev rB:Stmt:=top 57
abbrev zI2:Stmt:=top 58
noncomputable def qv:Program:={ PySem.Challenge.pw_seamarks_k33_whole_one_side_more with main:={ PySem.Challenge.pw_seamarks_k33_whole_one_side_more.main with body:=[top 1,top 2,top 3,top 4,top 5,top 6,top 7,top 8,top 9,top 11,top 12,top 13,top 14,top 15,top 16,top 18,top 19,top 20,top 21,top 22,top 23,top 24,top 25,top 26,top 27,top 28,top 29,top 30,top 31,top 32,top 34,top 35,top 36,top 37,top 38,top 39,top 40,top 41,top 42,top 44,top 45,top 46,top 47,top 49,top 50,top 51,top 52,top 53,top 54,top 55,top 56,top 57,top 58] } }
noncomputable def kd (P:Params) (x:Str) (t:Nat) (v:Value):DictEntry:=⟨PyData.keyHash P x,.str x t,v⟩
noncomputable def kc (l:List Value):Obj:=⟨.type "code", none,.fields (List.toArray l),List.toArray []⟩
noncomputable abbrev kf (x:Str) (s:Stmt) (kV doc pm cd ct:Value):Obj:=⟨.type "function", none,.func (PySem.W.fnOf x x (vJ s) (uJ s) (zM s) .none kV doc pm none cd ct),List.toArray []⟩
noncomputable def kNs (P:Params):Obj:=⟨.type "dict", none,.dict (List.toArray (kd P "__name__" 165 (.str "law_seamarks_k33_whole_one_side_more" 579) :: kd P "__doc__" 166 .none :: kd P "__package__" 167 .none :: kd P "__loader__" 168 (.builtin "__main__.__loader__#opaque") :: kd P "__spec__" 169 .none :: kd P "__annotations__" 170 (.ref 6) :: kd P "__builtins__" 171 (.ref 4) :: kd P "__file__" 173 (.str "/claim/cut.py" 172) :: kd P "__cached__" 174 .none :: kd P "common_factor" 199 (.ref 21) :: kd P "lowest" 205 (.ref 26) :: kd P "upright" 211 (.ref 31) :: kd P "part" 219 (.ref 38) :: kd P "plus" 227 (.ref 45) :: kd P "spot" 236 (.ref 52) :: kd P "ahead" 245 (.ref 59) :: kd P "merged" 256 (.ref 66) :: kd P "in_order" 264 (.ref 73) :: kd P "turn" 274 (.ref 80) :: kd P "along" 282 (.ref 87) :: kd P "plain" 289 (.ref 94) :: kd P "beyond" 297 (.ref 101) :: kd P "holds" 305 (.ref 108) :: kd P "crossing" 316 (.ref 115) :: kd P "in_water" 327 (.ref 122) :: kd P "foot" 334 (.ref 129) :: kd P "edge_end" 347 (.ref 136) :: kd P "edge_ends" 353 (.ref 141) :: kd P "spot_on_edge" 362 (.ref 148) :: kd P "sought" 371 (.ref 155) :: kd P "some_spot" 378 (.ref 162) :: kd P "corners" 388 (.ref 169) :: kd P "way_to" 396 (.ref 176) :: kd P "ring" 405 (.ref 183) :: kd P "is_way" 414 (.ref 190) :: kd P "ways" 424 (.ref 197) :: kd P "has_no_way" 431 (.ref 204) :: kd P "triangle" 441 (.ref 211) :: kd P "area" 451 (.ref 218) :: kd P "span" 460 (.ref 225) :: kd P "weighed" 466 (.ref 230) :: kd P "clash_of_three" 479 (.ref 237) :: kd P "clash" 490 (.ref 244) :: kd P "way_onward" 499 (.ref 251) :: kd P "far_by_one" 510 (.ref 258) :: kd P "weights_of_two" 523 (.ref 265) :: kd P "far_by_two" 535 (.ref 272) :: kd P "reach" 545 (.ref 279) :: kd P "doubted" 553 (.ref 284) :: kd P "places_to_try" 566 (.ref 291) :: kd P "least_doubts" 572 (.ref 296) :: kd P "choices" 578 (.ref 301) :: kd P "_law_power" 587 (.ref 308) :: kd P "_law_draws" 599 (.ref 315) :: kd P "_law_tight" 605 (.ref 320) :: kd P "_law_way" 616 (.ref 327) :: kd P "_law_side" 626 (.ref 334) :: kd P "_law_sides" 632 (.ref 339) :: kd P "_law_many" 642 (.ref 346) :: kd P "_law_has" 648 (.ref 351) :: kd P "_law_smaller" 656 (.ref 358) :: kd P "law" 662 (.ref 363) :: [])) 62,List.toArray []⟩
noncomputable def KC:PySem.W.Frag :=
 (nat_lit 20,kc ((.str "common_factor" 189) :: ((.str "common_factor" 190) :: ((.str "/claim/cut.py" 191) :: ((.int 2 0) :: ((.int 1 0) :: ((.int 0 0) :: ((.int 0 0) :: ((.int 3 0) :: ((.ref 15) :: ((.bool true) :: ((.int 181 0) :: ((.ref 16) :: (.none :: ((.ref 17) :: ((.ref 18) :: ((.ref 19) :: ((.int 197 0) :: ((.int 2 0) :: ((.str "/claim/cut.py" 198) :: [])))))))))))))))))))) ::
 (nat_lit 21,kf "common_factor" xY .none .none (.str "seamarks.parts" 187) (.ref 20) .none) ::
 (nat_lit 25,kc ((.str "lowest" 200) :: ((.str "lowest" 201) :: ((.str "/claim/cut.py" 202) :: ((.int 11 0) :: ((.int 1 0) :: ((.int 0 0) :: ((.int 0 0) :: ((.int 3 0) :: ((.ref 22) :: ((.bool true) :: ((.int 181 0) :: ((.ref 23) :: (.none :: (.none :: (.none :: ((.ref 24) :: ((.int 203 0) :: ((.int 11 0) :: ((.str "/claim/cut.py" 204) :: [])))))))))))))))))))) ::
 (nat_lit 26,kf "lowest" qM .none .none (.str "seamarks.parts" 187) (.ref 25) .none) ::
 (nat_lit 30,kc ((.str "upright" 206) :: ((.str "upright" 207) :: ((.str "/claim/cut.py" 208) :: ((.int 14 0) :: ((.int 1 0) :: ((.int 0 0) :: ((.int 0 0) :: ((.int 3 0) :: ((.ref 27) :: ((.bool true) :: ((.int 181 0) :: ((.ref 28) :: (.none :: (.none :: (.none :: ((.ref 29) :: ((.int 209 0) :: ((.int 14 0) :: ((.str "/claim/cut.py" 210) :: [])))))))))))))))))))) ::
 (nat_lit 31,kf "upright" sY .none .none (.str "seamarks.parts" 187) (.ref 30) .none) ::
 (nat_lit 37,kc ((.str "part" 212) :: ((.str "part" 213) :: ((.str "/claim/cut.py" 214) :: ((.int 18 0) :: ((.int 2 0) :: ((.int 0 0) :: ((.int 0 0) :: ((.int 3 0) :: ((.ref 32) :: ((.bool true) :: ((.int 181 0) :: ((.ref 33) :: (.none :: ((.ref 34) :: ((.ref 35) :: ((.ref 36) :: ((.int 217 0) :: ((.int 18 0) :: ((.str "/claim/cut.py" 218) :: [])))))))))))))))))))) ::
 (nat_lit 38,kf "part" zC1 .none .none (.str "seamarks.parts" 187) (.ref 37) .none) ::
 (nat_lit 44,kc ((.str "plus" 220) :: ((.str "plus" 221) :: ((.str "/claim/cut.py" 222) :: ((.int 20 0) :: ((.int 2 0) :: ((.int 0 0) :: ((.int 0 0) :: ((.int 3 0) :: ((.ref 39) :: ((.bool true) :: ((.int 181 0) :: ((.ref 40) :: (.none :: ((.ref 41) :: ((.ref 42) :: ((.ref 43) :: ((.int 225 0) :: ((.int 20 0) :: ((.str "/claim/cut.py" 226) :: [])))))))))))))))))))) ::
 (nat_lit 45,kf "plus" zCl .none .none (.str "seamarks.parts" 187) (.ref 44) .none) ::
 (nat_lit 51,kc ((.str "spot" 228) :: ((.str "spot" 229) :: ((.str "/claim/cut.py" 230) :: ((.int 22 0) :: ((.int 3 0) :: ((.int 0 0) :: ((.int 0 0) :: ((.int 3 0) :: ((.ref 46) :: ((.bool true) :: ((.int 181 0) :: ((.ref 47) :: (.none :: ((.ref 48) :: ((.ref 49) :: ((.ref 50) :: ((.int 234 0) :: ((.int 22 0) :: ((.str "/claim/cut.py" 235) :: [])))))))))))))))))))) ::
 (nat_lit 52,kf "spot" zCv .none .none (.str "seamarks.parts" 187) (.ref 51) .none) ::
 (nat_lit 58,kc ((.str "ahead" 237) :: ((.str "ahead" 238) :: ((.str "/claim/cut.py" 239) :: ((.int 24 0) :: ((.int 2 0) :: ((.int 0 0) :: ((.int 0 0) :: ((.int 3 0) :: ((.ref 53) :: ((.bool true) :: ((.int 181 0) :: ((.ref 54) :: (.none :: ((.ref 55) :: ((.ref 56) :: ((.ref 57) :: ((.int 243 0) :: ((.int 24 0) :: ((.str "/claim/cut.py" 244) :: [])))))))))))))))))))) ::
 (nat_lit 59,kf "ahead" zAr .none .none (.str "seamarks.parts" 187) (.ref 58) .none) ::
 (nat_lit 65,kc ((.str "merged" 246) :: ((.str "merged" 247) :: ((.str "/claim/cut.py" 248) :: ((.int 29 0) :: ((.int 2 0) :: ((.int 0 0) :: ((.int 0 0) :: ((.int 3 0) :: ((.ref 60) :: ((.bool true) :: ((.int 181 0) :: ((.ref 61) :: (.none :: ((.ref 62) :: ((.ref 63) :: ((.ref 64) :: ((.int 254 0) :: ((.int 29 0) :: ((.str "/claim/cut.py" 255) :: [])))))))))))))))))))) ::
 (nat_lit 66,kf "merged" qO .none .none (.str "seamarks.parts" 187) (.ref 65) .none) ::
 (nat_lit 72,kc ((.str "in_order" 257) :: ((.str "in_order" 258) :: ((.str "/claim/cut.py" 259) :: ((.int 38 0) :: ((.int 1 0) :: ((.int 0 0) :: ((.int 0 0) :: ((.int 3 0) :: ((.ref 67) :: ((.bool true) :: ((.int 181 0) :: ((.ref 68) :: (.none :: ((.ref 69) :: ((.ref 70) :: ((.ref 71) :: ((.int 262 0) :: ((.int 38 0) :: ((.str "/claim/cut.py" 263) :: [])))))))))))))))))))) ::
 (nat_lit 73,kf "in_order" vE .none .none (.str "seamarks.parts" 187) (.ref 72) .none) ::
 (nat_lit 79,kc ((.str "turn" 267) :: ((.str "turn" 268) :: ((.str "/claim/cut.py" 269) :: ((.int 44 0) :: ((.int 2 0) :: ((.int 0 0) :: ((.int 0 0) :: ((.int 3 0) :: ((.ref 74) :: ((.bool true) :: ((.int 181 0) :: ((.ref 75) :: (.none :: ((.ref 76) :: ((.ref 77) :: ((.ref 78) :: ((.int 272 0) :: ((.int 44 0) :: ((.str "/claim/cut.py" 273) :: [])))))))))))))))))))) ::
 (nat_lit 80,kf "turn" zA9 .none .none (.str "seamarks.sides" 265) (.ref 79) .none) ::
 (nat_lit 86,kc ((.str "along" 275) :: ((.str "along" 276) :: ((.str "/claim/cut.py" 277) :: ((.int 46 0) :: ((.int 2 0) :: ((.int 0 0) :: ((.int 0 0) :: ((.int 3 0) :: ((.ref 81) :: ((.bool true) :: ((.int 181 0) :: ((.ref 82) :: (.none :: ((.ref 83) :: ((.ref 84) :: ((.ref 85) :: ((.int 280 0) :: ((.int 46 0) :: ((.str "/claim/cut.py" 281) :: [])))))))))))))))))))) ::
 (nat_lit 87,kf "along" zBd .none .none (.str "seamarks.sides" 265) (.ref 86) .none) ::
 (nat_lit 93,kc ((.str "plain" 283) :: ((.str "plain" 284) :: ((.str "/claim/cut.py" 285) :: ((.int 48 0) :: ((.int 1 0) :: ((.int 0 0) :: ((.int 0 0) :: ((.int 3 0) :: ((.ref 88) :: ((.bool true) :: ((.int 181 0) :: ((.ref 89) :: (.none :: ((.ref 90) :: ((.ref 91) :: ((.ref 92) :: ((.int 287 0) :: ((.int 48 0) :: ((.str "/claim/cut.py" 288) :: [])))))))))))))))))))) ::
 (nat_lit 94,kf "plain" zBn .none .none (.str "seamarks.sides" 265) (.ref 93) .none) ::
 (nat_lit 100,kc ((.str "beyond" 290) :: ((.str "beyond" 291) :: ((.str "/claim/cut.py" 292) :: ((.int 50 0) :: ((.int 2 0) :: ((.int 0 0) :: ((.int 0 0) :: ((.int 3 0) :: ((.ref 95) :: ((.bool true) :: ((.int 181 0) :: ((.ref 96) :: (.none :: ((.ref 97) :: ((.ref 98) :: ((.ref 99) :: ((.int 295 0) :: ((.int 50 0) :: ((.str "/claim/cut.py" 296) :: [])))))))))))))))))))) ::
 (nat_lit 101,kf "beyond" qP .none .none (.str "seamarks.sides" 265) (.ref 100) .none) ::
 (nat_lit 107,kc ((.str "holds" 298) :: ((.str "holds" 299) :: ((.str "/claim/cut.py" 300) :: ((.int 52 0) :: ((.int 2 0) :: ((.int 0 0) :: ((.int 0 0) :: ((.int 3 0) :: ((.ref 102) :: ((.bool true) :: ((.int 181 0) :: ((.ref 103) :: (.none :: ((.ref 104) :: ((.ref 105) :: ((.ref 106) :: ((.int 303 0) :: ((.int 52 0) :: ((.str "/claim/cut.py" 304) :: [])))))))))))))))))))) ::
 (nat_lit 108,kf "holds" zAs .none .none (.str "seamarks.sides" 265) (.ref 107) .none) ::
 (nat_lit 114,kc ((.str "crossing" 306) :: ((.str "crossing" 307) :: ((.str "/claim/cut.py" 308) :: ((.int 54 0) :: ((.int 2 0) :: ((.int 0 0) :: ((.int 0 0) :: ((.int 3 0) :: ((.ref 109) :: ((.bool true) :: ((.int 181 0) :: ((.ref 110) :: (.none :: ((.ref 111) :: ((.ref 112) :: ((.ref 113) :: ((.int 314 0) :: ((.int 54 0) :: ((.str "/claim/cut.py" 315) :: [])))))))))))))))))))) ::
 (nat_lit 115,kf "crossing" tR .none .none (.str "seamarks.sides" 265) (.ref 114) .none) ::
 (nat_lit 121,kc ((.str "in_water" 319) :: ((.str "in_water" 320) :: ((.str "/claim/cut.py" 321) :: ((.int 62 0) :: ((.int 2 0) :: ((.int 0 0) :: ((.int 0 0) :: ((.int 3 0) :: ((.ref 116) :: ((.bool true) :: ((.int 181 0) :: ((.ref 117) :: (.none :: ((.ref 118) :: ((.ref 119) :: ((.ref 120) :: ((.int 325 0) :: ((.int 62 0) :: ((.str "/claim/cut.py" 326) :: [])))))))))))))))))))) ::
 (nat_lit 122,kf "in_water" tV .none .none (.str "seamarks.water" 317) (.ref 121) .none) ::
 (nat_lit 128,kc ((.str "foot" 328) :: ((.str "foot" 329) :: ((.str "/claim/cut.py" 330) :: ((.int 67 0) :: ((.int 1 0) :: ((.int 0 0) :: ((.int 0 0) :: ((.int 3 0) :: ((.ref 123) :: ((.bool true) :: ((.int 181 0) :: ((.ref 124) :: (.none :: ((.ref 125) :: ((.ref 126) :: ((.ref 127) :: ((.int 332 0) :: ((.int 67 0) :: ((.str "/claim/cut.py" 333) :: [])))))))))))))))))))) ::
 (nat_lit 129,kf "foot" zCz .none .none (.str "seamarks.water" 317) (.ref 128) .none) ::
 (nat_lit 135,kc ((.str "edge_end" 335) :: ((.str "edge_end" 336) :: ((.str "/claim/cut.py" 337) :: ((.int 69 0) :: ((.int 3 0) :: ((.int 0 0) :: ((.int 0 0) :: ((.int 3 0) :: ((.ref 130) :: ((.bool true) :: ((.int 181 0) :: ((.ref 131) :: (.none :: ((.ref 132) :: ((.ref 133) :: ((.ref 134) :: ((.int 345 0) :: ((.int 69 0) :: ((.str "/claim/cut.py" 346) :: [])))))))))))))))))))) ::
 (nat_lit 136,kf "edge_end" tU .none .none (.str "seamarks.water" 317) (.ref 135) .none) ::
 (nat_lit 140,kc ((.str "edge_ends" 348) :: ((.str "edge_ends" 349) :: ((.str "/claim/cut.py" 350) :: ((.int 78 0) :: ((.int 2 0) :: ((.int 0 0) :: ((.int 0 0) :: ((.int 3 0) :: ((.ref 137) :: ((.bool true) :: ((.int 181 0) :: ((.ref 138) :: (.none :: (.none :: (.none :: ((.ref 139) :: ((.int 351 0) :: ((.int 78 0) :: ((.str "/claim/cut.py" 352) :: [])))))))))))))))))))) ::
 (nat_lit 141,kf "edge_ends" vM .none .none (.str "seamarks.water" 317) (.ref 140) .none) ::
 (nat_lit 147,kc ((.str "spot_on_edge" 354) :: ((.str "spot_on_edge" 355) :: ((.str "/claim/cut.py" 356) :: ((.int 81 0) :: ((.int 2 0) :: ((.int 0 0) :: ((.int 0 0) :: ((.int 3 0) :: ((.ref 142) :: ((.bool true) :: ((.int 181 0) :: ((.ref 143) :: (.none :: ((.ref 144) :: ((.ref 145) :: ((.ref 146) :: ((.int 360 0) :: ((.int 81 0) :: ((.str "/claim/cut.py" 361) :: [])))))))))))))))))))) ::
 (nat_lit 148,kf "spot_on_edge" wW .none .none (.str "seamarks.water" 317) (.ref 147) .none) ::
 (nat_lit 154,kc ((.str "sought" 363) :: ((.str "sought" 364) :: ((.str "/claim/cut.py" 365) :: ((.int 86 0) :: ((.int 1 0) :: ((.int 0 0) :: ((.int 0 0) :: ((.int 3 0) :: ((.ref 149) :: ((.bool true) :: ((.int 181 0) :: ((.ref 150) :: (.none :: ((.ref 151) :: ((.ref 152) :: ((.ref 153) :: ((.int 369 0) :: ((.int 86 0) :: ((.str "/claim/cut.py" 370) :: [])))))))))))))))))))) ::
 (nat_lit 155,kf "sought" qS .none .none (.str "seamarks.water" 317) (.ref 154) .none) ::
 (nat_lit 161,kc ((.str "some_spot" 372) :: ((.str "some_spot" 373) :: ((.str "/claim/cut.py" 374) :: ((.int 94 0) :: ((.int 1 0) :: ((.int 0 0) :: ((.int 0 0) :: ((.int 3 0) :: ((.ref 156) :: ((.bool true) :: ((.int 181 0) :: ((.ref 157) :: (.none :: ((.ref 158) :: ((.ref 159) :: ((.ref 160) :: ((.int 376 0) :: ((.int 94 0) :: ((.str "/claim/cut.py" 377) :: [])))))))))))))))))))) ::
 (nat_lit 162,kf "some_spot" vU .none .none (.str "seamarks.water" 317) (.ref 161) .none) ::
 (nat_lit 168,kc ((.str "corners" 379) :: ((.str "corners" 380) :: ((.str "/claim/cut.py" 381) :: ((.int 96 0) :: ((.int 1 0) :: ((.int 0 0) :: ((.int 0 0) :: ((.int 3 0) :: ((.ref 163) :: ((.bool true) :: ((.int 181 0) :: ((.ref 164) :: (.none :: ((.ref 165) :: ((.ref 166) :: ((.ref 167) :: ((.int 386 0) :: ((.int 96 0) :: ((.str "/claim/cut.py" 387) :: [])))))))))))))))))))) ::
 (nat_lit 169,kf "corners" rE .none .none (.str "seamarks.water" 317) (.ref 168) .none) ::
 (nat_lit 175,kc ((.str "way_to" 389) :: ((.str "way_to" 390) :: ((.str "/claim/cut.py" 391) :: ((.int 103 0) :: ((.int 2 0) :: ((.int 0 0) :: ((.int 0 0) :: ((.int 3 0) :: ((.ref 170) :: ((.bool true) :: ((.int 181 0) :: ((.ref 171) :: (.none :: ((.ref 172) :: ((.ref 173) :: ((.ref 174) :: ((.int 394 0) :: ((.int 103 0) :: ((.str "/claim/cut.py" 395) :: [])))))))))))))))))))) ::
 (nat_lit 176,kf "way_to" qR .none .none (.str "seamarks.water" 317) (.ref 175) .none) ::
 (nat_lit 182,kc ((.str "ring" 397) :: ((.str "ring" 398) :: ((.str "/claim/cut.py" 399) :: ((.int 105 0) :: ((.int 1 0) :: ((.int 0 0) :: ((.int 0 0) :: ((.int 3 0) :: ((.ref 177) :: ((.bool true) :: ((.int 181 0) :: ((.ref 178) :: (.none :: ((.ref 179) :: ((.ref 180) :: ((.ref 181) :: ((.int 403 0) :: ((.int 105 0) :: ((.str "/claim/cut.py" 404) :: [])))))))))))))))))))) ::
 (nat_lit 183,kf "ring" zBh .none .none (.str "seamarks.water" 317) (.ref 182) .none) ::
 (nat_lit 189,kc ((.str "is_way" 406) :: ((.str "is_way" 407) :: ((.str "/claim/cut.py" 408) :: ((.int 112 0) :: ((.int 2 0) :: ((.int 0 0) :: ((.int 0 0) :: ((.int 3 0) :: ((.ref 184) :: ((.bool true) :: ((.int 181 0) :: ((.ref 185) :: (.none :: ((.ref 186) :: ((.ref 187) :: ((.ref 188) :: ((.int 412 0) :: ((.int 112 0) :: ((.str "/claim/cut.py" 413) :: [])))))))))))))))))))) ::
 (nat_lit 190,kf "is_way" qW .none .none (.str "seamarks.water" 317) (.ref 189) .none) ::
 (nat_lit 196,kc ((.str "ways" 415) :: ((.str "ways" 416) :: ((.str "/claim/cut.py" 417) :: ((.int 117 0) :: ((.int 1 0) :: ((.int 0 0) :: ((.int 0 0) :: ((.int 3 0) :: ((.ref 191) :: ((.bool true) :: ((.int 181 0) :: ((.ref 192) :: (.none :: ((.ref 193) :: ((.ref 194) :: ((.ref 195) :: ((.int 422 0) :: ((.int 117 0) :: ((.str "/claim/cut.py" 423) :: [])))))))))))))))))))) ::
 (nat_lit 197,kf "ways" zCq .none .none (.str "seamarks.water" 317) (.ref 196) .none) ::
 (nat_lit 203,kc ((.str "has_no_way" 425) :: ((.str "has_no_way" 426) :: ((.str "/claim/cut.py" 427) :: ((.int 124 0) :: ((.int 1 0) :: ((.int 0 0) :: ((.int 0 0) :: ((.int 3 0) :: ((.ref 198) :: ((.bool true) :: ((.int 181 0) :: ((.ref 199) :: (.none :: ((.ref 200) :: ((.ref 201) :: ((.ref 202) :: ((.int 429 0) :: ((.int 124 0) :: ((.str "/claim/cut.py" 430) :: [])))))))))))))))))))) ::
 (nat_lit 204,kf "has_no_way" vA .none .none (.str "seamarks.water" 317) (.ref 203) .none) ::
 (nat_lit 210,kc ((.str "triangle" 432) :: ((.str "triangle" 433) :: ((.str "/claim/cut.py" 434) :: ((.int 126 0) :: ((.int 3 0) :: ((.int 0 0) :: ((.int 0 0) :: ((.int 3 0) :: ((.ref 205) :: ((.bool true) :: ((.int 181 0) :: ((.ref 206) :: (.none :: ((.ref 207) :: ((.ref 208) :: ((.ref 209) :: ((.int 439 0) :: ((.int 126 0) :: ((.str "/claim/cut.py" 440) :: [])))))))))))))))))))) ::
 (nat_lit 211,kf "triangle" tQ .none .none (.str "seamarks.water" 317) (.ref 210) .none) ::
 (nat_lit 217,kc ((.str "area" 442) :: ((.str "area" 443) :: ((.str "/claim/cut.py" 444) :: ((.int 129 0) :: ((.int 1 0) :: ((.int 0 0) :: ((.int 0 0) :: ((.int 3 0) :: ((.ref 212) :: ((.bool true) :: ((.int 181 0) :: ((.ref 213) :: (.none :: ((.ref 214) :: ((.ref 215) :: ((.ref 216) :: ((.int 449 0) :: ((.int 129 0) :: ((.str "/claim/cut.py" 450) :: [])))))))))))))))))))) ::
 (nat_lit 218,kf "area" zCw .none .none (.str "seamarks.water" 317) (.ref 217) .none) ::
 (nat_lit 224,kc ((.str "span" 454) :: ((.str "span" 455) :: ((.str "/claim/cut.py" 456) :: ((.int 140 0) :: ((.int 1 0) :: ((.int 0 0) :: ((.int 0 0) :: ((.int 3 0) :: ((.ref 219) :: ((.bool true) :: ((.int 181 0) :: ((.ref 220) :: (.none :: ((.ref 221) :: ((.ref 222) :: ((.ref 223) :: ((.int 458 0) :: ((.int 140 0) :: ((.str "/claim/cut.py" 459) :: [])))))))))))))))))))) ::
 (nat_lit 225,kf "span" zC3 .none .none (.str "seamarks.reach" 452) (.ref 224) .none) ::
 (nat_lit 229,kc ((.str "weighed" 461) :: ((.str "weighed" 462) :: ((.str "/claim/cut.py" 463) :: ((.int 142 0) :: ((.int 2 0) :: ((.int 0 0) :: ((.int 0 0) :: ((.int 3 0) :: ((.ref 226) :: ((.bool true) :: ((.int 181 0) :: ((.ref 227) :: (.none :: (.none :: (.none :: ((.ref 228) :: ((.int 464 0) :: ((.int 142 0) :: ((.str "/claim/cut.py" 465) :: [])))))))))))))))))))) ::
 (nat_lit 230,kf "weighed" rH .none .none (.str "seamarks.reach" 452) (.ref 229) .none) ::
 (nat_lit 236,kc ((.str "clash_of_three" 467) :: ((.str "clash_of_three" 468) :: ((.str "/claim/cut.py" 469) :: ((.int 145 0) :: ((.int 2 0) :: ((.int 0 0) :: ((.int 0 0) :: ((.int 3 0) :: ((.ref 231) :: ((.bool true) :: ((.int 181 0) :: ((.ref 232) :: (.none :: ((.ref 233) :: ((.ref 234) :: ((.ref 235) :: ((.int 477 0) :: ((.int 145 0) :: ((.str "/claim/cut.py" 478) :: [])))))))))))))))))))) ::
 (nat_lit 237,kf "clash_of_three" xR .none .none (.str "seamarks.reach" 452) (.ref 236) .none) ::
 (nat_lit 243,kc ((.str "clash" 480) :: ((.str "clash" 481) :: ((.str "/claim/cut.py" 482) :: ((.int 152 0) :: ((.int 1 0) :: ((.int 0 0) :: ((.int 0 0) :: ((.int 3 0) :: ((.ref 238) :: ((.bool true) :: ((.int 181 0) :: ((.ref 239) :: (.none :: ((.ref 240) :: ((.ref 241) :: ((.ref 242) :: ((.int 488 0) :: ((.int 152 0) :: ((.str "/claim/cut.py" 489) :: [])))))))))))))))))))) ::
 (nat_lit 244,kf "clash" zA5 .none .none (.str "seamarks.reach" 452) (.ref 243) .none) ::
 (nat_lit 250,kc ((.str "way_onward" 491) :: ((.str "way_onward" 492) :: ((.str "/claim/cut.py" 493) :: ((.int 162 0) :: ((.int 2 0) :: ((.int 0 0) :: ((.int 0 0) :: ((.int 3 0) :: ((.ref 245) :: ((.bool true) :: ((.int 181 0) :: ((.ref 246) :: (.none :: ((.ref 247) :: ((.ref 248) :: ((.ref 249) :: ((.int 497 0) :: ((.int 162 0) :: ((.str "/claim/cut.py" 498) :: [])))))))))))))))))))) ::
 (nat_lit 251,kf "way_onward" vB .none .none (.str "seamarks.reach" 452) (.ref 250) .none) ::
 (nat_lit 257,kc ((.str "far_by_one" 500) :: ((.str "far_by_one" 501) :: ((.str "/claim/cut.py" 502) :: ((.int 167 0) :: ((.int 2 0) :: ((.int 0 0) :: ((.int 0 0) :: ((.int 3 0) :: ((.ref 252) :: ((.bool true) :: ((.int 181 0) :: ((.ref 253) :: (.none :: ((.ref 254) :: ((.ref 255) :: ((.ref 256) :: ((.int 508 0) :: ((.int 167 0) :: ((.str "/claim/cut.py" 509) :: [])))))))))))))))))))) ::
 (nat_lit 258,kf "far_by_one" vC .none .none (.str "seamarks.reach" 452) (.ref 257) .none) ::
 (nat_lit 264,kc ((.str "weights_of_two" 511) :: ((.str "weights_of_two" 512) :: ((.str "/claim/cut.py" 513) :: ((.int 175 0) :: ((.int 3 0) :: ((.int 0 0) :: ((.int 0 0) :: ((.int 3 0) :: ((.ref 259) :: ((.bool true) :: ((.int 181 0) :: ((.ref 260) :: (.none :: ((.ref 261) :: ((.ref 262) :: ((.ref 263) :: ((.int 521 0) :: ((.int 175 0) :: ((.str "/claim/cut.py" 522) :: [])))))))))))))))))))) ::
 (nat_lit 265,kf "weights_of_two" xS .none .none (.str "seamarks.reach" 452) (.ref 264) .none) ::
 (nat_lit 271,kc ((.str "far_by_two" 524) :: ((.str "far_by_two" 525) :: ((.str "/claim/cut.py" 526) :: ((.int 181 0) :: ((.int 2 0) :: ((.int 0 0) :: ((.int 0 0) :: ((.int 3 0) :: ((.ref 266) :: ((.bool true) :: ((.int 181 0) :: ((.ref 267) :: (.none :: ((.ref 268) :: ((.ref 269) :: ((.ref 270) :: ((.int 533 0) :: ((.int 181 0) :: ((.str "/claim/cut.py" 534) :: [])))))))))))))))))))) ::
 (nat_lit 272,kf "far_by_two" uW .none .none (.str "seamarks.reach" 452) (.ref 271) .none) ::
 (nat_lit 278,kc ((.str "reach" 536) :: ((.str "reach" 537) :: ((.str "/claim/cut.py" 538) :: ((.int 190 0) :: ((.int 2 0) :: ((.int 0 0) :: ((.int 0 0) :: ((.int 3 0) :: ((.ref 273) :: ((.bool true) :: ((.int 181 0) :: ((.ref 274) :: (.none :: ((.ref 275) :: ((.ref 276) :: ((.ref 277) :: ((.int 543 0) :: ((.int 190 0) :: ((.str "/claim/cut.py" 544) :: [])))))))))))))))))))) ::
 (nat_lit 279,kf "reach" zBb .none .none (.str "seamarks.reach" 452) (.ref 278) .none) ::
 (nat_lit 283,kc ((.str "doubted" 548) :: ((.str "doubted" 549) :: ((.str "/claim/cut.py" 550) :: ((.int 199 0) :: ((.int 2 0) :: ((.int 0 0) :: ((.int 0 0) :: ((.int 3 0) :: ((.ref 280) :: ((.bool true) :: ((.int 181 0) :: ((.ref 281) :: (.none :: (.none :: (.none :: ((.ref 282) :: ((.int 551 0) :: ((.int 199 0) :: ((.str "/claim/cut.py" 552) :: [])))))))))))))))))))) ::
 (nat_lit 284,kf "doubted" rC .none .none (.str "seamarks.trust" 546) (.ref 283) .none) ::
 (nat_lit 290,kc ((.str "places_to_try" 554) :: ((.str "places_to_try" 555) :: ((.str "/claim/cut.py" 556) :: ((.int 201 0) :: ((.int 1 0) :: ((.int 0 0) :: ((.int 0 0) :: ((.int 3 0) :: ((.ref 285) :: ((.bool true) :: ((.int 181 0) :: ((.ref 286) :: (.none :: ((.ref 287) :: ((.ref 288) :: ((.ref 289) :: ((.int 564 0) :: ((.int 201 0) :: ((.str "/claim/cut.py" 565) :: [])))))))))))))))))))) ::
 (nat_lit 291,kf "places_to_try" xX .none .none (.str "seamarks.trust" 546) (.ref 290) .none) ::
 (nat_lit 295,kc ((.str "least_doubts" 567) :: ((.str "least_doubts" 568) :: ((.str "/claim/cut.py" 569) :: ((.int 213 0) :: ((.int 1 0) :: ((.int 0 0) :: ((.int 0 0) :: ((.int 3 0) :: ((.ref 292) :: ((.bool true) :: ((.int 181 0) :: ((.ref 293) :: (.none :: (.none :: (.none :: ((.ref 294) :: ((.int 570 0) :: ((.int 213 0) :: ((.str "/claim/cut.py" 571) :: [])))))))))))))))))))) ::
 (nat_lit 296,kf "least_doubts" wV .none .none (.str "seamarks.trust" 546) (.ref 295) .none) ::
 (nat_lit 300,kc ((.str "choices" 573) :: ((.str "choices" 574) :: ((.str "/claim/cut.py" 575) :: ((.int 223 0) :: ((.int 1 0) :: ((.int 0 0) :: ((.int 0 0) :: ((.int 3 0) :: ((.ref 297) :: ((.bool true) :: ((.int 181 0) :: ((.ref 298) :: (.none :: (.none :: (.none :: ((.ref 299) :: ((.int 576 0) :: ((.int 223 0) :: ((.str "/claim/cut.py" 577) :: [])))))))))))))))))))) ::
 (nat_lit 301,kf "choices" rG .none .none (.str "seamarks.trust" 546) (.ref 300) .none) ::
 (nat_lit 307,kc ((.str "_law_power" 581) :: ((.str "_law_power" 582) :: ((.str "/claim/cut.py" 583) :: ((.int 226 0) :: ((.int 1 0) :: ((.int 0 0) :: ((.int 0 0) :: ((.int 3 0) :: ((.ref 302) :: ((.bool true) :: ((.int 181 0) :: ((.ref 303) :: (.none :: ((.ref 304) :: ((.ref 305) :: ((.ref 306) :: ((.int 585 0) :: ((.int 226 0) :: ((.str "/claim/cut.py" 586) :: [])))))))))))))))))))) ::
 (nat_lit 308,kf "_law_power" zBc .none .none (.str "law_seamarks_k33_whole_one_side_more" 579) (.ref 307) .none) ::
 (nat_lit 314,kc ((.str "_law_draws" 588) :: ((.str "_law_draws" 589) :: ((.str "/claim/cut.py" 590) :: ((.int 228 0) :: ((.int 2 0) :: ((.int 0 0) :: ((.int 0 0) :: ((.int 3 0) :: ((.ref 309) :: ((.bool true) :: ((.int 181 0) :: ((.ref 310) :: (.none :: ((.ref 311) :: ((.ref 312) :: ((.ref 313) :: ((.int 597 0) :: ((.int 228 0) :: ((.str "/claim/cut.py" 598) :: [])))))))))))))))))))) ::
 (nat_lit 315,kf "_law_draws" zA6 .none .none (.str "law_seamarks_k33_whole_one_side_more" 579) (.ref 314) .none) ::
 (nat_lit 319,kc ((.str "_law_tight" 600) :: ((.str "_law_tight" 601) :: ((.str "/claim/cut.py" 602) :: ((.int 244 0) :: ((.int 2 0) :: ((.int 0 0) :: ((.int 0 0) :: ((.int 3 0) :: ((.ref 316) :: ((.bool true) :: ((.int 181 0) :: ((.ref 317) :: (.none :: (.none :: (.none :: ((.ref 318) :: ((.int 603 0) :: ((.int 244 0) :: ((.str "/claim/cut.py" 604) :: [])))))))))))))))))))) ::
 (nat_lit 320,kf "_law_tight" zA1 .none .none (.str "law_seamarks_k33_whole_one_side_more" 579) (.ref 319) .none) ::
 (nat_lit 326,kc ((.str "_law_way" 606) :: ((.str "_law_way" 607) :: ((.str "/claim/cut.py" 608) :: ((.int 250 0) :: ((.int 3 0) :: ((.int 0 0) :: ((.int 0 0) :: ((.int 3 0) :: ((.ref 321) :: ((.bool true) :: ((.int 181 0) :: ((.ref 322) :: (.none :: ((.ref 323) :: ((.ref 324) :: ((.ref 325) :: ((.int 614 0) :: ((.int 250 0) :: ((.str "/claim/cut.py" 615) :: [])))))))))))))))))))) ::
 (nat_lit 327,kf "_law_way" zF5 .none .none (.str "law_seamarks_k33_whole_one_side_more" 579) (.ref 326) .none) ::
 (nat_lit 333,kc ((.str "_law_side" 617) :: ((.str "_law_side" 618) :: ((.str "/claim/cut.py" 619) :: ((.int 256 0) :: ((.int 1 0) :: ((.int 0 0) :: ((.int 0 0) :: ((.int 3 0) :: ((.ref 328) :: ((.bool true) :: ((.int 181 0) :: ((.ref 329) :: (.none :: ((.ref 330) :: ((.ref 331) :: ((.ref 332) :: ((.int 624 0) :: ((.int 256 0) :: ((.str "/claim/cut.py" 625) :: [])))))))))))))))))))) ::
 (nat_lit 334,kf "_law_side" zCr .none .none (.str "law_seamarks_k33_whole_one_side_more" 579) (.ref 333) .none) ::
 (nat_lit 338,kc ((.str "_law_sides" 627) :: ((.str "_law_sides" 628) :: ((.str "/claim/cut.py" 629) :: ((.int 266 0) :: ((.int 2 0) :: ((.int 0 0) :: ((.int 0 0) :: ((.int 3 0) :: ((.ref 335) :: ((.bool true) :: ((.int 181 0) :: ((.ref 336) :: (.none :: (.none :: (.none :: ((.ref 337) :: ((.int 630 0) :: ((.int 266 0) :: ((.str "/claim/cut.py" 631) :: [])))))))))))))))))))) ::
 (nat_lit 339,kf "_law_sides" zAq .none .none (.str "law_seamarks_k33_whole_one_side_more" 579) (.ref 338) .none) ::
 (nat_lit 345,kc ((.str "_law_many" 633) :: ((.str "_law_many" 634) :: ((.str "/claim/cut.py" 635) :: ((.int 276 0) :: ((.int 4 0) :: ((.int 0 0) :: ((.int 0 0) :: ((.int 3 0) :: ((.ref 340) :: ((.bool true) :: ((.int 181 0) :: ((.ref 341) :: (.none :: ((.ref 342) :: ((.ref 343) :: ((.ref 344) :: ((.int 640 0) :: ((.int 276 0) :: ((.str "/claim/cut.py" 641) :: [])))))))))))))))))))) ::
 (nat_lit 346,kf "_law_many" zCm .none .none (.str "law_seamarks_k33_whole_one_side_more" 579) (.ref 345) .none) ::
 (nat_lit 350,kc ((.str "_law_has" 643) :: ((.str "_law_has" 644) :: ((.str "/claim/cut.py" 645) :: ((.int 280 0) :: ((.int 2 0) :: ((.int 0 0) :: ((.int 0 0) :: ((.int 3 0) :: ((.ref 347) :: ((.bool true) :: ((.int 181 0) :: ((.ref 348) :: (.none :: (.none :: (.none :: ((.ref 349) :: ((.int 646 0) :: ((.int 280 0) :: ((.str "/claim/cut.py" 647) :: [])))))))))))))))))))) ::
 (nat_lit 351,kf "_law_has" zFr .none .none (.str "law_seamarks_k33_whole_one_side_more" 579) (.ref 350) .none) ::
 (nat_lit 357,kc ((.str "_law_smaller" 649) :: ((.str "_law_smaller" 650) :: ((.str "/claim/cut.py" 651) :: ((.int 283 0) :: ((.int 2 0) :: ((.int 0 0) :: ((.int 0 0) :: ((.int 3 0) :: ((.ref 352) :: ((.bool true) :: ((.int 181 0) :: ((.ref 353) :: (.none :: ((.ref 354) :: ((.ref 355) :: ((.ref 356) :: ((.int 654 0) :: ((.int 283 0) :: ((.str "/claim/cut.py" 655) :: [])))))))))))))))))))) ::
 (nat_lit 358,kf "_law_smaller" rB .none .none (.str "law_seamarks_k33_whole_one_side_more" 579) (.ref 357) .none) ::
 (nat_lit 362,kc ((.str "law" 657) :: ((.str "law" 658) :: ((.str "/claim/cut.py" 659) :: ((.int 287 0) :: ((.int 1 0) :: ((.int 0 0) :: ((.int 0 0) :: ((.int 3 0) :: ((.ref 359) :: ((.bool true) :: ((.int 181 0) :: ((.ref 360) :: (.none :: (.none :: (.none :: ((.ref 361) :: ((.int 660 0) :: ((.int 287 0) :: ((.str "/claim/cut.py" 661) :: [])))))))))))))))))))) ::
 (nat_lit 363,kf "law" zI2 .none .none (.str "law_seamarks_k33_whole_one_side_more" 579) (.ref 362) .none) :: []
noncomputable def KK (P:Params):PySem.W.Frag:=(nat_lit 3,kNs P) :: KC
noncomputable def K:PySem.W.Frag:=Classical.choose (⟨KC,rfl⟩:∃ k,k = KC)
theorem zSl:K = KC:=Classical.choose_spec (⟨KC,rfl⟩:∃ k,k = KC)
noncomputable def kas:List Nat:=nat_lit 3 :: nat_lit 20 :: nat_lit 21 :: nat_lit 25 :: nat_lit 26 :: nat_lit 30 :: nat_lit 31 :: nat_lit 37 :: nat_lit 38 :: nat_lit 44 :: nat_lit 45 :: nat_lit 51 :: nat_lit 52 :: nat_lit 58 :: nat_lit 59 :: nat_lit 65 :: nat_lit 66 :: nat_lit 72 :: nat_lit 73 :: nat_lit 79 :: nat_lit 80 :: nat_lit 86 :: nat_lit 87 :: nat_lit 93 :: nat_lit 94 :: nat_lit 100 :: nat_lit 101 :: nat_lit 107 :: nat_lit 108 :: nat_lit 114 :: nat_lit 115 :: nat_lit 121 :: nat_lit 122 :: nat_lit 128 :: nat_lit 129 :: nat_lit 135 :: nat_lit 136 :: nat_lit 140 :: nat_lit 141 :: nat_lit 147 :: nat_lit 148 :: nat_lit 154 :: nat_lit 155 :: nat_lit 161 :: nat_lit 162 :: nat_lit 168 :: nat_lit 169 :: nat_lit 175 :: nat_lit 176 :: nat_lit 182 :: nat_lit 183 :: nat_lit 189 :: nat_lit 190 :: nat_lit 196 :: nat_lit 197 :: nat_lit 203 :: nat_lit 204 :: nat_lit 210 :: nat_lit 211 :: nat_lit 217 :: nat_lit 218 :: nat_lit 224 :: nat_lit 225 :: nat_lit 229 :: nat_lit 230 :: nat_lit 236 :: nat_lit 237 :: nat_lit 243 :: nat_lit 244 :: nat_lit 250 :: nat_lit 251 :: nat_lit 257 :: nat_lit 258 :: nat_lit 264 :: nat_lit 265 :: nat_lit 271 :: nat_lit 272 :: nat_lit 278 :: nat_lit 279 :: nat_lit 283 :: nat_lit 284 :: nat_lit 290 :: nat_lit 291 :: nat_lit 295 :: nat_lit 296 :: nat_lit 300 :: nat_lit 301 :: nat_lit 307 :: nat_lit 308 :: nat_lit 314 :: nat_lit 315 :: nat_lit 319 :: nat_lit 320 :: nat_lit 326 :: nat_lit 327 :: nat_lit 333 :: nat_lit 334 :: nat_lit 338 :: nat_lit 339 :: nat_lit 345 :: nat_lit 346 :: nat_lit 350 :: nat_lit 351 :: nat_lit 357 :: nat_lit 358 :: nat_lit 362 :: nat_lit 363 :: []
theorem kas_ok:∀ P:Params,kas = (KK P).map (·.1):=λ_=>by kernel_rfl
set_option maxHeartbeats 0 in
theorem said_ok:PySem.Challenge.rw_seamarks_k33_whole_one_side_more.wellSaid = true:=by kernel_rfl
set_option maxHeartbeats 0 in
open PySem.W in
theorem left_ok:LeftO PySem.Challenge.rw_seamarks_k33_whole_one_side_more.row.prog qv [] (λs=>xlAt qv [] s && recOk (RowW.records (OpenRow.toRowW PySem.Challenge.rw_seamarks_k33_whole_one_side_more.row)) s)
  (λs=>kas.map s.heap.get?) (λw=>(KK w.params).map λp=>some p.2) 9000:=by
 unfold LeftO;rw [Fast.te4187177175401517315,Fast.te5923862056798008813,Fast.te2368527892694137696,Fast.te14364793385576792824];intro w
 kernel_rfl
end Sea
-- BASE
namespace L2
open PySem PySem.Spec PyProof.Rows

abbrev Key:=Sum Int Str
def zKc:Key->Value->Bool
 | .inl k,v=>Value.isInt k v
 | .inr x,v=>Value.isStrOf x v
def keyH (w:World):Key->Int
 | .inl k=>hashInt k
 | .inr x=>hashStr w x
theorem xM:∀ {k:Key} {v:Value},zKc k v = true->(∃ i t,k = Sum.inl i/\v = Value.int i t)\/(∃ x t,k = Sum.inr x/\v = Value.str x t)
 | .inl i,v,h=>by
  obtain ⟨t,e⟩:=Value.isInt_shape (k:=i) (v:=v) h;exact .inl ⟨i,t,rfl,e⟩
 | .inr x,v,h=>by
  obtain ⟨t,e⟩:=Value.isStrOf_shape (x:=x) (v:=v) h;exact .inr ⟨x,t,rfl,e⟩
theorem zLy (i:Int) (t:Tok):zKc (.inl i) (.int i t) = true:=by simp [zKc,Value.isInt]
theorem zM8 (x:Str) (t:Tok):zKc (.inr x) (.str x t) = true:=by simp [zKc,Value.isStrOf]
theorem zSt (a b:Int):decide ((Sum.inl a:Key) = Sum.inl b) = (a == b):=by
 by_cases e:a = b
 ·subst e; simp
 ·have h:¬ (Sum.inl a:Key) = Sum.inl b:=λq=>e (Sum.inl.inj q);rw [decide_eq_false h];exact (beq_eq_false_iff_ne.mpr e).symm
theorem zTw (a b:Str):decide ((Sum.inr a:Key) = Sum.inr b) = decide (a = b):=by
 by_cases e:a = b
 ·subst e; simp
 ·have h:¬ (Sum.inr a:Key) = Sum.inr b:=λq=>e (Sum.inr.inj q);rw [decide_eq_false h,decide_eq_false e]
theorem zT3 (a:Int) (b:Str):decide ((Sum.inl a:Key) = Sum.inr b) = false:=decide_eq_false (λq=>nomatch q)
theorem zTh (a:Str) (b:Int):decide ((Sum.inr a:Key) = Sum.inl b) = false:=decide_eq_false (λq=>nomatch q)

def uF (prog:Program) (w:World):PySem.KeyKind prog w Key where
 is:=zKc
 hash:=keyH w
 inj:=λv a b ha hb=>by
  rcases xM ha with ⟨i,t,rfl,rfl⟩ | ⟨x,t,rfl,rfl⟩
  ·rcases xM hb with ⟨j,u,rfl,e⟩ | ⟨y,u,rfl,e⟩
   ·injection e with e1 _; rw [e1]
   ·exact nomatch e
  ·rcases xM hb with ⟨j,u,rfl,e⟩ | ⟨y,u,rfl,e⟩
   ·exact nomatch e
   ·injection e with e1 _; rw [e1]
 byValue:=λk v h=>by
  rcases xM h with ⟨i,t,rfl,rfl⟩ | ⟨x,t,rfl,rfl⟩ <;> rfl
 pyHash:=λhv h=>by
  rcases xM hv with ⟨i,t,rfl,rfl⟩ | ⟨x,t,rfl,rfl⟩
  ·exact wpAny_pyHash_int h
  ·exact wpAny_pyHash_str h
 eqBool:=λhu hv h=>by
  rcases xM hu with ⟨i,t,rfl,rfl⟩ | ⟨x,t,rfl,rfl⟩
  ·rcases xM hv with ⟨j,u,rfl,rfl⟩ | ⟨y,u,rfl,rfl⟩
   ·rw [zSt] at h; exact wpAny_eqBool_int h
   ·rw [zT3] at h; exact SeqAt.EqAt.int_str i t y u _ _ _ _ h
  ·rcases xM hv with ⟨j,u,rfl,rfl⟩ | ⟨y,u,rfl,rfl⟩
   ·rw [zTh] at h; exact SeqAt.EqAt.str_int x t j u _ _ _ _ h
   ·rw [zTw] at h; exact wpAny_eqBool_str h
 «strs»:=λk x t v h=>by
  rcases xM h with ⟨i,u,rfl,e⟩ | ⟨y,u,rfl,e⟩
  ·exact nomatch e
  ·injection e with e1 _
   subst e1;cases v <;> rfl

theorem zIb (prog:Program) (w:World) (i:Int) (t:Tok):(uF prog w).is (.inl i) (.int i t) = true:=zLy i t
theorem zH9 (prog:Program) (w:World) (x:Str) (t:Tok):(uF prog w).is (.inr x) (.str x t) = true:=zM8 x t
end L2

namespace L2
open PySem PySem.Spec PyProof.Rows

inductive V where
 | non | bl (b:Bool) | int (i:Int) | str (x:Str) | byt (b:Array UInt8) | flt (b:UInt64) | ref (a:Addr) | ty (n:String)
 deriving DecidableEq

def uN:V->Value->Prop
 | .non,u=>u = Value.none
 | .bl b,u=>u = Value.bool b
 | .int i,u=>∃ t,u = Value.int i t
 | .str x,u=>∃ t,u = Value.str x t
 | .byt b,u=>∃ t,u = Value.bytes b t
 | .flt b,u=>∃ t,u = Value.float b t
 | .ref a,u=>u = Value.ref a
 | .ty n,u=>u = Value.type n

abbrev xI:List V->List Value->Prop:=Paired uN
theorem xI.length {xs:List V} {us:List Value} (r:xI xs us):xs.length = us.length:=Paired.length r
theorem xI.get:∀ {xs:List V} {us:List Value} {i:Nat} {x:V},xI xs us->xs[i]? = some x->∃ u,us[i]? = some u/\uN x u
 | _,_,_,_,.nil,e=>by simp at e
 | _,_,0,_,.cons r _,e=>by simp at e; subst e; exact ⟨_,rfl,r⟩
 | _,_,i + 1,x,.cons _ t,e=>by
  obtain ⟨u,h1,h2⟩:=xI.get (i:=i) (x:=x) t (by simpa using e);exact ⟨u,by simpa using h1,h2⟩
theorem xI.set {x:V} {u:Value} (r:uN x u):∀ {xs:List V} {us:List Value} (i:Nat),xI xs us->xI (xs.set i x) (us.set i u)
 | _,_,_,.nil=>.nil
 | _,_,0,.cons _ t=>.cons r t
 | _,_,i + 1,.cons q t=>.cons q (xI.set r i t)
theorem xI.append:∀ {xs ys:List V} {us ws:List Value},xI xs us->xI ys ws->xI (xs ++ ys) (us ++ ws)
 | _,_,_,_,.nil,s=>s
 | _,_,_,_,.cons r t,s=>.cons r (xI.append t s)
theorem xI.take:∀ {xs:List V} {us:List Value} (n:Nat),xI xs us->xI (xs.take n) (us.take n)
 | _,_,0,_=>.nil
 | _,_,_ + 1,.nil=>.nil
 | _,_,n + 1,.cons r t=>.cons r (xI.take n t)
theorem xI.drop:∀ {xs:List V} {us:List Value} (n:Nat),xI xs us->xI (xs.drop n) (us.drop n)
 | _,_,0,r=>r
 | _,_,_ + 1,.nil=>.nil
 | _,_,n + 1,.cons _ t=>xI.drop n t
def zOg:Option V->Option Value->Prop
 | some v,some u=>uN v u
 | none,none=>True
 | _,_=>False
def KV {κ:Type} : List (κ × V)->List (κ × Value)->Prop:=Paired λ(p:κ × V) (q:κ × Value)=>p.1 = q.1/\uN p.2 q.2

def kV:Key->V
 | .inl i=>.int i
 | .inr x=>.str x

inductive HO where
 | lst (xs:List V)
 | tup (xs:List V)
 | dK (kvs:List (Key × V)) | dT (kvs:List (List Key × V))
 | set (S:Int->Bool) (n:Nat)
 | ins (C dx:Addr) (fs:List (Str × V))
 | own (x:Addr)
 | xd (fs:List (Str × V))
 | met (f x:Addr)
 | rng (lo hi:Int)
 | frz (o:Obj) (u:HO)
 | tbl (ps:Array Value)
 | ext (φ:Heap->Prop)

abbrev Hp:=Addr->Option HO
def upd (H:Hp) (a:Addr) (o:HO):Hp:=λb=>if b = a then some o else H b
theorem zB {H:Hp} {a:Addr} {o:HO} : upd H a o a = some o:=by unfold upd; rw [if_pos rfl]
theorem zP {H:Hp} {a b:Addr} {o:HO} (h:b≠a):upd H a o b = H b:=by unfold upd; rw [if_neg h]
theorem qK {H:Hp} {a:Addr} {o u:HO} : upd (upd H a o) a u = upd H a u:=by
 funext b; unfold upd; split <;> rfl
theorem sZ {H:Hp} {a b:Addr} {o u:HO} (h:H a = some o) (h':H b = some u) (d:o≠u):a≠b:=by
 intro e; subst e; rw [h] at h'; exact d (Option.some.inj h')
theorem yE {H:Hp} {a b:Addr} {o:HO} (h:H a = some o) (h':H b = none):a≠b:=by
 intro e; subst e; rw [h] at h'; cases h'

section
variable (P:Program) (w:World)
def vN (H:Hp) (h:Heap) (a:Addr):HO->Prop
 | .lst xs=>xs.length<=sizeLine/\∃ (its:List Value) (n:Nat),xI xs its/\h.get? a = some { cls:=.type "list", data:=.seq its.toArray n }
 | .tup xs=>xs.length<=sizeLine/\∃ its:List Value,xI xs its/\IsTup h a its.toArray
 | .dK kvs=>kvs.length<=sizeLine/\(a == sysModules) = false/\∃ vs,KV kvs vs/\h.DictOf (uF P w) a vs
 | .dT kvs=>kvs.length<=sizeLine/\(a == sysModules) = false/\∃ xs:List (List Key × Addr × Value),
   Paired (λ(p:List Key × V) (q:List Key × Addr × Value)=>p.1 = q.1/\H q.2.1 = some (.tup (p.1.map kV))/\uN p.2 q.2.2) kvs xs /\
   ∃ o es ep,h.get? a = some o/\o.ExactDict/\o.data = .dict es ep/\es.toList = xs.map (entryOfKey (tupleKind (uF P w)))/\(xs.map (·.1)).Nodup
 | .set S n=>h.SetOf (intKind P w) a S n
 | .ins C dx fs=>H dx = some (.own a)/\fs.length<=1000/\dx≠a/\h.get? a = some (PySem.W.instObj C dx) /\
   ∃ mA,h.Ns1 dx mA/\(∀ f,zOg (fs.lookup f) (mA f))/\PySem.Within mA (fs.map (·.1))
 | .own _=>∃ o,h.get? a = some o
 | .xd fs=>∃ mA,h.Ns1 a mA/\∀ f,zOg (fs.lookup f) (mA f)
 | .rng lo hi=>∃ t u v,h.get? a = some { cls:=.type "range", data:=.fields #[.int lo t,.int hi u,.int 1 v] }
 | .frz o u=>h.get? a = some o/\vN H h a u
 | .tbl ps=>h.get? a = some { cls:=.none,data:=.fields ps }
 | .met f x=>h.get? a = some (PySem.W.methodObj (.ref f) (.ref x))
 | .ext φ=>φ h/\(∃ o,h.get? a = some o)/\∀ h1 h2:Heap,φ h1->(∀ o,h1.get? a = some o->h2.get? a = some o)->φ h2
def HOk (H:Hp) (h:Heap):Prop:=∀ a o,H a = some o->vN P w H h a o
end

section
variable {P:Program} {w:World} {H H':Hp} {h h':Heap} {a:Addr} {o:HO}
theorem vN.lt (x:vN P w H h a o):a < h.objs.size:=by
 cases o with
 | lst xs=>obtain ⟨_,_,_,_,e⟩:=x; exact Heap.lt_size e
 | tup xs=>obtain ⟨_,_,_,p⟩:=x; exact p.lt
 | dK kvs=>obtain ⟨_,_,_,_,o,_,_,e,_⟩:=x; exact Heap.lt_size e
 | dT kvs=>obtain ⟨_,_,_,_,o,_,_,e,_⟩:=x; exact Heap.lt_size e
 | set S n=>obtain ⟨o,_,_,_,e,_⟩:=x; exact Heap.lt_size e
 | ins C dx fs=>obtain ⟨_,_,_,e,_⟩:=x; exact Heap.lt_size e
 | own y=>obtain ⟨_,e⟩:=x; exact Heap.lt_size e
 | xd fs=>obtain ⟨_,⟨_,_,_,e,_⟩,_⟩:=x; exact Heap.lt_size e
 | rng lo hi=>obtain ⟨_,_,_,e⟩:=x; exact Heap.lt_size e
 | frz ob u=>obtain ⟨e,_⟩:=x; exact Heap.lt_size e
 | tbl ps=>exact Heap.lt_size (show h.get? a = some _ from x)
 | met f y=>exact Heap.lt_size (show h.get? a = some _ from x)
 | ext φ=>obtain ⟨_,⟨_,e⟩,_⟩:=x; exact Heap.lt_size e
theorem Paired.mapP {α β:Type} {F G:α->β->Prop} : ∀ {l₁:List α} {l₂:List β},Paired F l₁ l₂->(∀ a b,F a b->G a b)->Paired G l₁ l₂
 | _,_,.nil,_=>.nil
 | _,_,.cons r t,f=>.cons (f _ _ r) (Paired.mapP t f)
theorem vN.stay (x:vN P w H h a o) (k:∀ b u,(b = a\/H b = some (.own a))->h.get? b = some u->h'.get? b = some u)
  (ho:∀ b,H b = some (.own a)->H' b = some (.own a)) (ht:∀ b xs,H b = some (.tup xs)->H' b = some (.tup xs)):vN P w H' h' a o:=by
 induction o with
 | lst xs=>obtain ⟨z,its,n,r,e⟩:=x; exact ⟨z,its,n,r,k _ _ (.inl rfl) e⟩
 | tup xs=>obtain ⟨z,its,r,ob,e,c⟩:=x; exact ⟨z,its,r,ob,k _ _ (.inl rfl) e,c⟩
 | dK kvs=>obtain ⟨z,y,vs,r,ob,es,ep,e,c⟩:=x; exact ⟨z,y,vs,r,ob,es,ep,k _ _ (.inl rfl) e,c⟩
 | dT kvs =>
  obtain ⟨z,y,xs,r,ob,es,ep,e,c⟩:=x;exact ⟨z,y,xs,Paired.mapP r λp q z=>⟨z.1,ht _ _ z.2.1,z.2.2⟩,ob,es,ep,k _ _ (.inl rfl) e,c⟩
 | set S n=>obtain ⟨ob,es,ep,t,e,c⟩:=x; exact ⟨ob,es,ep,t,k _ _ (.inl rfl) e,c⟩
 | ins C dx fs =>
  obtain ⟨d,z,ne,e,mA,⟨od,es,ep,e2,c⟩,r⟩:=x;exact ⟨ho _ d,z,ne,k _ _ (.inl rfl) e,mA,⟨od,es,ep,k _ _ (.inr d) e2,c⟩,r⟩
 | own y=>obtain ⟨ob,e⟩:=x; exact ⟨ob,k _ _ (.inl rfl) e⟩
 | xd fs=>obtain ⟨mA,⟨od,es,ep,e,c⟩,r⟩:=x; exact ⟨mA,⟨od,es,ep,k _ _ (.inl rfl) e,c⟩,r⟩
 | rng lo hi=>obtain ⟨t,u,v,e⟩:=x; exact ⟨t,u,v,k _ _ (.inl rfl) e⟩
 | frz ob u ih=>obtain ⟨e,q⟩:=x; exact ⟨k _ _ (.inl rfl) e,ih q⟩
 | tbl ps =>
  have e:h.get? a = some { cls:=.none,data:=.fields ps }:=x;show h'.get? a = some { cls:=.none,data:=.fields ps };exact k a _ (.inl rfl) e
 | met f y =>
  have e:h.get? a = some (PySem.W.methodObj (.ref f) (.ref y)):=x;show h'.get? a = some (PySem.W.methodObj (.ref f) (.ref y));exact k a _ (.inl rfl) e
 | ext φ=>obtain ⟨p,⟨o,e⟩,st⟩:=x; exact ⟨st _ _ p λo q=>k _ _ (.inl rfl) q,⟨o,k _ _ (.inl rfl) e⟩,st⟩
theorem HOk.lt (x:HOk P w H h) (e:H a = some o):a < h.objs.size:=(x a o e).lt
theorem HOk.fresh (x:HOk P w H h) (e:h.objs.size<=a):H a = none:=by
 cases q:H a with
 | none=>rfl
 | some u=>exact absurd (Nat.lt_of_lt_of_le (x.lt q) e) (Nat.lt_irrefl _)
theorem HOk.kept (x:HOk P w H h) (k:∀ b u,h.get? b = some u->h'.get? b = some u):HOk P w H h':=λa o e =>
 (x a o e).stay (λb u _ q=>k b u q) (λ_ q=>q) λ_ _ q=>q
theorem HOk.laid (x:HOk P w H h) (k:∀ b u,h.get? b = some u->h'.get? b = some u) (hp:h.objs.size<=a) (new:vN P w (upd H a o) h' a o):HOk P w (upd H a o) h':=λb u e=>by
 have hn:=x.fresh hp;by_cases hb:b = a
 ·subst hb; rw [zB] at e; cases e; exact new
 ·rw [zP hb] at e;exact (x b u e).stay (λc v _ q=>k c v q) (λc q=>by rw [zP (yE q hn)]; exact q) λc xs q=>by rw [zP (yE q hn)]; exact q
end

def Rd (H:Hp) (a:Addr) (u:HO):Prop:=H a = some u\/∃ o,H a = some (.frz o u)
theorem Rd.ok {P:Program} {w:World} {H:Hp} {h:Heap} {a:Addr} {u:HO} (r:Rd H a u) (x:HOk P w H h):vN P w H h a u:=by
 rcases r with r | ⟨o,r⟩
 ·exact x a u r
 ·obtain ⟨_,q⟩:=x a _ r;exact q
def Mut:Option HO->Prop
 | some (.lst _)=>True
 | some (.dK _)=>True
 | some (.dT _)=>True
 | some (.set _ _)=>True
 | some (.ins _ _ _)=>True
 | some (.ext _)=>True
 | _=>False
section
variable {P:Program} {w:World} {H:Hp} {h h':Heap} {x e:Addr} {o':HO}
theorem HOk.write (ok:HOk P w H h) (mu:Mut (H x)) (he:e = x\/H e = some (.own x)) (k:∀ b u,b≠e->h.get? b = some u->h'.get? b = some u) (heo:∃ u,h'.get? e = some u)
  (new:vN P w (upd H x o') h' x o'):HOk P w (upd H x o') h':=λb u q=>by
 have nown:∀ c y,H c = some (.own y)->c≠x:=λc y r z=>by subst z; rw [r] at mu; exact mu
 have ntup:∀ c xs,H c = some (.tup xs)->c≠x:=λc xs r z=>by subst z; rw [r] at mu; exact mu
 by_cases hb:b = x
 ·subst hb; rw [zB] at q; cases q; exact new
 ·rw [zP hb] at q;by_cases hbe:b = e
  ·have q':H b = some (.own x):=by
    rcases he with z | z
    ·exact absurd (hbe.trans z) hb
    ·rw [hbe]; exact z
   rw [q] at q'; cases q';obtain ⟨v,hv⟩:=heo;exact ⟨v,by rw [hbe]; exact hv⟩
  ·refine (ok b u q).stay (λc v hc r=>k c v ?_ r) (λc r=>by rw [zP (nown c b r)]; exact r) λc xs r=>by rw [zP (ntup c xs r)]; exact r
   rcases hc with rfl | hc
   ·exact hbe
   ·rintro rfl;rcases he with z | z
    ·exact nown c b hc z
    ·rw [hc] at z; cases z; exact hb rfl
end

structure Un (fs ex:List Addr) (H H':Hp) (h h':Heap):Prop where
 keep:∀ b o,h.get? b = some o->H b = none->b ∉ fs->b ∉ ex->h'.get? b = some o
 slot:∀ b o,h.get? b = some o->H b = none->b∈fs->b ∉ ex->∃ sl,h'.get? b = some { o with slots:=sl }
 free:∀ b o,h.get? b = some o->H b = none->b ∉ ex->H' b = none
 there:∀ b o,h.get? b = some o->b ∉ ex->∃ o',h'.get? b = some o'
 tups:∀ b xs,H b = some (.tup xs)->H' b = some (.tup xs)
 frzs:∀ b o u,H b = some (.frz o u)->H' b = some (.frz o u)
 tbls:∀ b ps,H b = some (.tbl ps)->∃ more,H' b = some (.tbl (ps ++ more))
section
variable {fs fs' ex ex':List Addr} {H H1 H2:Hp} {h h1 h2 h':Heap} {a x e:Addr} {o:HO}
theorem Un.any (u:Un fs ex H H1 h h1) {b:Addr} {ob:Obj} (q:h.get? b = some ob) (n:H b = none) (hx:b ∉ ex):∃ sl,h1.get? b = some { ob with slots:=sl }:=by
 by_cases hb:b∈fs
 ·exact u.slot b ob q n hb hx
 ·exact ⟨ob.slots,u.keep b ob q n hb hx⟩
theorem Un.kept (k:∀ b u,h.get? b = some u->h'.get? b = some u):Un fs ex H H h h' :=
 ⟨λb ob q _ _ _=>k b ob q,λb ob q _ _ _=>⟨ob.slots,k b ob q⟩,λ_ _ _ n _=>n,λb ob q _=>⟨ob,k b ob q⟩,λ_ _ q=>q,λ_ _ _ q=>q,λ_ ps q=>⟨#[],by rw [q]; simp⟩⟩
theorem Un.refl:Un fs ex H H h h:=Un.kept λ_ _ q=>q
theorem Un.laid (k:∀ b u,h.get? b = some u->h'.get? b = some u) (hp:h.objs.size<=a) (hn:H a = none):Un fs ex H (upd H a o) h h' where
 keep:=λb u q _ _ _=>k b u q
 slot:=λb u q _ _ _=>⟨u.slots,k b u q⟩
 free:=λb u q n _=>by rw [zP (Nat.ne_of_lt (Nat.lt_of_lt_of_le (Heap.lt_size q) hp))]; exact n
 there:=λb u q _=>⟨u,k b u q⟩
 tups:=λb xs q=>by rw [zP (yE q hn)]; exact q
 frzs:=λb u xs q=>by rw [zP (yE q hn)]; exact q
 tbls:=λb ps q=>⟨#[],by rw [zP (yE q hn),q]; simp⟩
theorem Un.write (mu:Mut (H x)) (he:e = x\/H e = some (.own x)) (k:∀ b u,b≠e->h.get? b = some u->h'.get? b = some u) (heo:∃ u,h'.get? e = some u):Un fs ex H (upd H x o) h h':=by
 have hx:∀ b,H b = none->b≠x:=λb n z=>by subst z; rw [n] at mu; exact mu
 have hb:∀ b,H b = none->b≠e:=λb n z=>by
  subst z;rcases he with r | r
  ·exact hx b n r
  ·rw [n] at r; cases r
 have hm:∀ b u,H b = some u->¬ Mut (some u)->b≠x:=λb u q nm z=>by subst z; rw [q] at mu; exact nm mu
 refine ⟨λb u q n _ _=>k b u (hb b n) q,λb u q n _ _=>⟨u.slots,k b u (hb b n) q⟩,λb u q n _=>by rw [zP (hx b n)]; exact n,λb u q _=>?_,
  λb xs q=>by rw [zP (hm b _ q λz=>z)]; exact q,λb u xs q=>by rw [zP (hm b _ q λz=>z)]; exact q,λb ps q=>⟨#[],by rw [zP (hm b _ q λz=>z),q]; simp⟩⟩
 by_cases hbe:b = e
 ·subst hbe; exact heo
 ·exact ⟨u,k b u hbe q⟩
end

def trk (h:Heap) (H:Hp):List Addr:=(List.range h.objs.size).filter λa=>(H a).isSome
def zOl (h:Heap) (H:Hp):Heap:=PySem.W.hideAll h (trk h H)
theorem zN7 (h:Heap) (H:Hp):(zOl h H).objs.size = h.objs.size:=PySem.W.hideAll_size _ _
theorem zPk {h:Heap} {H:Hp} {b:Addr} {o:Obj} (e:h.get? b = some o) (n:H b = none):(zOl h H).get? b = some o :=
 PySem.W.hideAll_get _ e λhm=>by
  have q:(H b).isSome = true:=(List.mem_filter.mp hm).2;rw [n] at q; simp at q
theorem zR2 {h:Heap} {H:Hp} {b:Addr} {o:Obj} (e:(zOl h H).get? b = some o):h.get? b = some o/\H b = none:=by
 have e':h.get? b = some o:=PySem.W.of_hideAll (trk h H) e;refine ⟨e',?_⟩;cases q:H b with
 | none=>rfl
 | some x =>
  have hm:b∈trk h H:=List.mem_filter.mpr ⟨List.mem_range.mpr (Heap.lt_size e'),by simp [q]⟩;have z:(zOl h H).get? b = none:=PySem.W.hideAll_none (trk h H) hm;rw [z] at e; cases e

end L2

namespace L2
open PySem PySem.Spec PyProof.Rows

structure Mod (K:PySem.W.Frag) (mg:Str->Option Value) (base:Heap):Prop where
 kin:K.In base
 glob:base.Ns mainGlobals mg
 blt:∃ mb,base.Ns builtinsNs mb/\∀ x:Str,x ≠ "__name__" -> mb x = bootBuiltins x
 nolimit:base.NoLimit

structure Cx where
 prog:Program
 w:World
 K:PySem.W.Frag
 mg:Str->Option Value
 base:Heap
 A:Around
 N:List Str
 s₀:Shared
 H₀:Hp
 env:Env
 outer:List Env
 stack:List Env
 ex:List Addr
 fn:Str->Bool
 calm:Bool
 pn:List (Addr × Obj)
 xe:Value->Shared->Prop
def frs (l:List Env):List Addr:=l.filterMap (·.frame)
abbrev Cx.fs (X:Cx):List Addr:=frs X.outer

def Vis (sc:Scope) (x:Str):Prop:=sc.names.lookup x = some .local\/sc.names.lookup x = some .cell\/sc.names.lookup x = some .free
def Loc (sc:Scope) (x:Str):Prop:=sc.names.lookup x = some .local\/sc.names.lookup x = some .cell
def Look (env:Env) (h:Heap) (m:Str->Option Value) (x:Str) (u:Value):Prop :=
 (env.kindOf x = some .local/\m x = some u)\/((env.kindOf x = some .cell\/env.kindOf x = some .free)/\∃ c,env.cells.lookup x = some c/\h.IsCell c (some u))

structure Cx.Ok (X:Cx):Prop where
 mod:Mod X.K X.mg X.base
 kind:X.env.scope.kind = .function
 glob:X.env.globals = mainGlobals
 blt:X.env.builtins = builtinsNs
 above:X.s₀.heap.objs.size<=X.env.locals
 inj:∀ x y c,X.env.cells.lookup x = some c->X.env.cells.lookup y = some c->x = y
 has:∀ x,(X.env.kindOf x = some .cell\/X.env.kindOf x = some .free)->∃ c,X.env.cells.lookup x = some c
 cab:∀ x c,X.fn x = true->X.env.cells.lookup x = some c->X.s₀.heap.objs.size<=c
 hd:X.calm = true->X.A.handled = none
 frames:X.A.frames = some X.stack
 stk:X.stack = X.outer\/(X.stack = X.env :: X.outer/\X.env.frame = some X.env.locals)
 exf:∀ b∈X.ex,b≠X.env.locals/\∀ x c,X.env.cells.lookup x = some c->c≠b
 bs:∀ b o,X.base.get? b = some o->X.s₀.heap.get? b = some o/\X.H₀ b = none
 bsz:X.base.objs.size<=X.s₀.heap.objs.size
 noex:∀ b o,X.base.get? b = some o->b ∉ X.ex
 exfs:∀ b∈X.ex,b ∉ X.fs
 funs:X.s₀.heap.FunFrames X.base X.outer
 frf:∀ b∈X.fs,X.H₀ b = none

structure Inv (X:Cx) (pins:List (Addr × Obj)) (σ:List (Option V)) (H:Hp) (s:Shared):Prop where
 ok:X.Ok
 os:s.os = X.s₀.os
 bare:AllBare s.gens
 base:Un X.fs X.ex X.H₀ H X.s₀.heap s.heap
 loc:∃ m,s.heap.Ns X.env.locals m/\∀ (i:Nat) (x:Str) (v:V),X.N[i]? = some x->σ[i]? = some (some v)->Vis X.env.scope x->∃ u,uN v u/\Look X.env s.heap m x u
 cell:∀ x c,X.env.cells.lookup x = some c->∃ v,s.heap.IsCell c v
 free:H X.env.locals = none
 freeC:∀ x c,X.env.cells.lookup x = some c->H c = none
 pin:∀ p∈X.pn ++ pins,s.heap.get? p.1 = some p.2/\H p.1 = none/\p.1≠X.env.locals/\p.1 ∉ X.fs/\∀ v,p.2.data≠.cell v
 hok:HOk X.prog X.w H s.heap
 len:σ.length = X.N.length

section
variable {X:Cx} {pins:List (Addr × Obj)} {σ:List (Option V)} {H H':Hp} {s:Shared} {h':Heap}

theorem Cx.Ok.nofr (ok:X.Ok) {b:Addr} {o:Obj} (e:X.base.get? b = some o):b ∉ X.fs:=λhb=>by
 have:=(ok.funs.mem hb).1;rw [e] at this; cases this
theorem Inv.bs (I:Inv X pins σ H s):∀ b o,X.base.get? b = some o->s.heap.get? b = some o/\H b = none:=λb o e =>
 ⟨I.base.keep b o (I.ok.bs b o e).1 (I.ok.bs b o e).2 (I.ok.nofr e) (I.ok.noex b o e),I.base.free b o (I.ok.bs b o e).1 (I.ok.bs b o e).2 (I.ok.noex b o e)⟩
theorem Inv.bk (I:Inv X pins σ H s):∀ b o,X.base.get? b = some o->s.heap.get? b = some o:=λb o e=>(I.bs b o e).1
theorem Inv.mod (I:Inv X pins σ H s):Mod X.K X.mg X.base:=I.ok.mod
theorem Inv.kIn (I:Inv X pins σ H s):X.K.In s.heap:=I.ok.mod.kin.keeps I.bk
theorem Inv.nolimit (I:Inv X pins σ H s):s.heap.NoLimit:=I.ok.mod.nolimit.keeps I.bk
theorem Inv.lt (I:Inv X pins σ H s):X.env.locals < s.heap.objs.size:=let ⟨_,hn,_⟩:=I.loc; hn.lt
theorem Inv.sz (I:Inv X pins σ H s):X.s₀.heap.objs.size<=s.heap.objs.size:=Nat.le_trans I.ok.above (Nat.le_of_lt I.lt)
theorem Inv.nofs (I:Inv X pins σ H s) {a:Addr} (h:s.heap.objs.size<=a):a ∉ X.fs:=λhb=>by
 obtain ⟨_,o,ho,_⟩:=I.ok.funs.mem hb;exact absurd (Nat.lt_of_lt_of_le (Heap.lt_size ho) (Nat.le_trans I.sz h)) (Nat.lt_irrefl _)
theorem Inv.cne (I:Inv X pins σ H s):∀ x c,X.env.cells.lookup x = some c->c≠X.env.locals:=λx c e z=>by
 obtain ⟨v,o,ho,hd⟩:=I.cell x c e;obtain ⟨m,⟨o',es,ep,ho',hd',_⟩,_⟩:=I.loc;rw [z,ho'] at ho; cases ho; rw [hd'] at hd; cases hd
theorem Inv.funs (I:Inv X pins σ H s):s.heap.FunFrames X.base X.outer:=by
 have all:∀ (l:List Env),(∀ b∈frs l,b∈X.fs)->X.s₀.heap.FunFrames X.base l->s.heap.FunFrames X.base l:=by
  intro l
  induction l with
  | nil=>intro _ _; trivial
  | cons env r ih =>
   intro hs hl;obtain ⟨hk,⟨L,o,hf,hn,ho,hd⟩,hr⟩:=hl;have hL:L∈X.fs:=hs L (by unfold frs; rw [List.filterMap_cons,hf]; exact List.mem_cons_self);obtain ⟨sl,e⟩:=I.base.slot L o ho (I.ok.frf L hL) hL λz=>I.ok.exfs L z hL;exact ⟨hk,⟨L,_,hf,hn,e,hd⟩,ih (λb hb=>hs b (by unfold frs; rw [List.filterMap_cons,hf]; exact List.mem_cons_of_mem _ hb)) hr⟩
 exact all X.outer (λ_ hb=>hb) I.ok.funs

theorem Inv.stack (I:Inv X pins σ H s):s.heap.FunFrames X.base X.stack:=by
 rcases I.ok.stk with e | ⟨e,hf⟩
 ·rw [e]; exact I.funs
 ·rw [e];obtain ⟨m,hn,_⟩:=I.loc;refine .cons (by rw [I.ok.kind]; decide) hf hn ?_ I.funs;exact Heap.get?_none_of_le (Nat.le_trans I.ok.bsz I.ok.above)
theorem Inv.stkSub (I:Inv X pins σ H s):∀ b∈frs X.stack,b∈X.env.locals :: X.fs:=λb hb=>by
 rcases I.ok.stk with e | ⟨e,hf⟩
 ·rw [e] at hb; exact List.mem_cons_of_mem _ hb
 ·rw [e] at hb;unfold frs at hb;rw [List.filterMap_cons,hf] at hb;exact hb
theorem Inv.stkFree (I:Inv X pins σ H s):∀ b∈frs X.stack,H b = none:=λb hb=>by
 rcases List.mem_cons.mp (I.stkSub b hb) with e | hb
 ·rw [e]; exact I.free
 ·obtain ⟨_,o,ho,_⟩:=I.ok.funs.mem hb;exact I.base.free b o ho (I.ok.frf b hb) λz=>I.ok.exfs b z hb

theorem Inv.step {g':Array GenState} {t':Nat} {d':Drawn} {ch:List Addr} (I:Inv X pins σ H s)
  (hch:∀ b∈ch,(b∈X.ex\/X.s₀.heap.objs.size<=b)/\b≠X.env.locals/\(∀ x c,X.env.cells.lookup x = some c->c≠b)/\∀ p∈X.pn ++ pins,p.1≠b)
  (keep:∀ b o,b≠X.env.locals->b ∉ X.fs->b ∉ ch->s.heap.get? b = some o->H b = none->h'.get? b = some o)
  (slot:∀ b o,b≠X.env.locals->b∈X.fs->b ∉ ch->s.heap.get? b = some o->H b = none->∃ sl,h'.get? b = some { o with slots:=sl }) (free:∀ b o,b ∉ ch->s.heap.get? b = some o->H b = none->H' b = none)
  (there:∀ b o,b ∉ ch->s.heap.get? b = some o->∃ o',h'.get? b = some o')
  (tups:∀ b xs,H b = some (.tup xs)->H' b = some (.tup xs)) (frzs:∀ b o u,H b = some (.frz o u)->H' b = some (.frz o u)) (tbls:∀ b ps,H b = some (.tbl ps)->∃ more,H' b = some (.tbl (ps ++ more)))
  (ns:∀ m,s.heap.Ns X.env.locals m->h'.Ns X.env.locals m) (hok:HOk X.prog X.w H' h') (hg:AllBare g') :
  Inv X pins σ H' { s with heap:=h',gens:=g',drawn:=d',toks:=t' }:=by
 have neL:∀ b o,X.s₀.heap.get? b = some o->b≠X.env.locals:=λb o e=>Nat.ne_of_lt (Nat.lt_of_lt_of_le (Heap.lt_size e) I.ok.above);have neC:∀ b o,X.s₀.heap.get? b = some o->b ∉ X.ex->b ∉ ch:=λb o e hx hb=>by
  rcases (hch b hb).1 with z | z
  ·exact hx z
  ·exact absurd (Nat.lt_of_lt_of_le (Heap.lt_size e) z) (Nat.lt_irrefl _)
 have cellK:∀ x c,X.env.cells.lookup x = some c->∀ v,s.heap.IsCell c v->h'.IsCell c v:=λx c e v ⟨o,ho,hd⟩=>by
  have nch:c ∉ ch:=λz=>(hch c z).2.2.1 x c e rfl;by_cases hc:c∈X.fs
  ·obtain ⟨sl,q⟩:=slot c o (I.cne x c e) hc nch ho (I.freeC x c e);exact ⟨_,q,hd⟩
  ·exact ⟨o,keep c o (I.cne x c e) hc nch ho (I.freeC x c e),hd⟩
 refine ⟨I.ok,I.os,hg,⟨λb o e n hb hx=>?_,λb o e n hb hx=>?_,λb o e n hx=>?_,λb o e hx=>?_,λb xs e=>tups b xs (I.base.tups b xs e),λb o xs e=>frzs b o xs (I.base.frzs b o xs e),λb ps e=>?_⟩,?_,λx c e=>?_,?_,λx c e=>?_,λp hp=>?_,hok,I.len⟩
 ·exact keep b o (neL b o e) hb (neC b o e hx) (I.base.keep b o e n hb hx) (I.base.free b o e n hx)
 ·obtain ⟨sl,e1⟩:=I.base.slot b o e n hb hx;obtain ⟨sl',e2⟩:=slot b _ (neL b o e) hb (neC b o e hx) e1 (I.base.free b o e n hx);exact ⟨sl',e2⟩
 ·obtain ⟨o',e1⟩:=I.base.there b o e hx;exact free b o' (neC b o e hx) e1 (I.base.free b o e n hx)
 ·obtain ⟨o',e1⟩:=I.base.there b o e hx;exact there b o' (neC b o e hx) e1
 ·obtain ⟨m1,e1⟩:=I.base.tbls b ps e;obtain ⟨m2,e2⟩:=tbls b _ e1;exact ⟨m1 ++ m2,by rw [e2,Array.append_assoc]⟩
 ·obtain ⟨m,hn,hl⟩:=I.loc;refine ⟨m,ns m hn,λi x v e1 e2 e3=>?_⟩;obtain ⟨u,r,l⟩:=hl i x v e1 e2 e3;refine ⟨u,r,?_⟩;rcases l with l | ⟨k,c,e,z⟩
  ·exact .inl l
  ·exact .inr ⟨k,c,e,cellK x c e _ z⟩
 ·obtain ⟨v,z⟩:=I.cell x c e;exact ⟨v,cellK x c e v z⟩
 ·obtain ⟨m,⟨o,_,_,ho,_⟩,_⟩:=I.loc;exact free _ o (λz=>(hch _ z).2.1 rfl) ho I.free
 ·obtain ⟨v,o,ho,hd⟩:=I.cell x c e;exact free c o (λz=>(hch c z).2.2.1 x c e rfl) ho (I.freeC x c e)
 ·obtain ⟨e,n,ne,nf,d⟩:=I.pin p hp;have nch:p.1 ∉ ch:=λz=>(hch p.1 z).2.2.2 p hp rfl;exact ⟨keep p.1 p.2 ne nf nch e n,free p.1 p.2 nch e n,ne,nf,d⟩
theorem Inv.un {t':Nat} (I:Inv X pins σ H s) (u:Un X.fs [] H H' s.heap h') (hok:HOk X.prog X.w H' h'):Inv X pins σ H' { s with heap:=h',toks:=t' }:=by
 obtain ⟨m,⟨o,es,ep,ho,r⟩,_⟩:=id I.loc;obtain ⟨sl,hL⟩:=u.any ho I.free (by simp);exact I.step (g':=s.gens) (d':=s.drawn) (ch:=[]) (λ_ z=>nomatch z) (λb o _ hb _ e n=>u.keep b o e n hb (by simp)) (λb o _ hb _ e n=>u.slot b o e n hb (by simp)) (λb o _ e n=>u.free b o e n (by simp)) (λb o _ e=>u.there b o e (by simp)) u.tups u.frzs u.tbls (λm' hm=>by
  obtain ⟨o',es',ep',ho',r'⟩:=hm;rw [ho] at ho'; cases ho';exact ⟨_,es',ep',hL,r'⟩) hok I.bare
theorem Inv.call {g':Array GenState} {t':Nat} {d':Drawn} {ch:List Addr} (I:Inv X pins σ H s) (u:Un (frs X.stack) ch H H' s.heap h') (hok:HOk X.prog X.w H' h') (hg:AllBare g')
  (hch:∀ b∈ch,(b∈X.ex\/X.s₀.heap.objs.size<=b)/\b≠X.env.locals/\(∀ x c,X.env.cells.lookup x = some c->c≠b)/\∀ p∈X.pn ++ pins,p.1≠b) :
  Inv X pins σ H' { s with heap:=h',gens:=g',drawn:=d',toks:=t' }:=by
 obtain ⟨m,⟨o,es,ep,ho,r⟩,_⟩:=id I.loc;obtain ⟨sl,hL⟩:=u.any ho I.free λz=>(hch _ z).2.1 rfl;exact I.step (ch:=ch) hch (λb o hL hb hc e n=>u.keep b o e n (λz=>(List.mem_cons.mp (I.stkSub b z)).elim hL hb) hc) (λb o _ _ hc e n=>u.any e n hc) (λb o hc e n=>u.free b o e n hc) (λb o hc e=>u.there b o e hc) u.tups u.frzs u.tbls (λm' hm=>by
  obtain ⟨o',es',ep',ho',r'⟩:=hm;rw [ho] at ho'; cases ho';exact ⟨_,es',ep',hL,r'⟩) hok hg
theorem Inv.turned {t':Nat} {it:Addr} (I:Inv X pins σ H s) (k:∀ b o,b≠it->s.heap.get? b = some o->h'.get? b = some o) (hn:H it = none) (hL:it≠X.env.locals)
  (h1:it∈X.ex\/X.s₀.heap.objs.size<=it) (h2:∀ x c,X.env.cells.lookup x = some c->c≠it) (h3:∀ p∈X.pn ++ pins,p.1≠it):Inv X pins σ H { s with heap:=h',toks:=t' }:=by
 have nit:∀ b u,H b = some u->b≠it:=λb u e z=>by rw [z,hn] at e; cases e
 refine I.step (g':=s.gens) (d':=s.drawn) (ch:=[it]) (λb hb=>?_) (λb o _ _ hc e _=>k b o (λz=>hc (by simp [z])) e) (λb o _ _ hc e _=>⟨o.slots,k b o (λz=>hc (by simp [z])) e⟩) (λ_ _ _ _ n=>n)
  (λb o hc e=>⟨o,k b o (λz=>hc (by simp [z])) e⟩) (λ_ _ e=>e) (λ_ _ _ e=>e) (λb ps e=>⟨#[],by rw [e]; simp⟩) (λm hm=>?_) (λb u e=>?_) I.bare
 ·have e:b = it:=by simpa using hb
  subst e;exact ⟨h1,hL,h2,h3⟩
 ·obtain ⟨o,es,ep,ho,r⟩:=hm;exact ⟨o,es,ep,k _ o (Ne.symm hL) ho,r⟩
 ·refine (I.hok b u e).stay (λc v hc q=>k c v ?_ q) (λ_ q=>q) λ_ _ q=>q;rcases hc with z | z
  ·rw [z]; exact nit b u e
  ·exact nit c _ z
theorem Inv.tok (I:Inv X pins σ H s) (t:Nat):Inv X pins σ H { s with toks:=t }:=I.un (h':=s.heap) (t':=t) Un.refl I.hok
theorem Inv.kept {t':Nat} (I:Inv X pins σ H s) (k:∀ b u,s.heap.get? b = some u->h'.get? b = some u):Inv X pins σ H { s with heap:=h',toks:=t' }:=I.un (Un.kept k) (I.hok.kept k)
theorem Inv.laid {a:Addr} {o:HO} {t':Nat} (I:Inv X pins σ H s) (k:∀ b u,s.heap.get? b = some u->h'.get? b = some u) (hp:s.heap.objs.size<=a) (new:vN X.prog X.w (upd H a o) h' a o) :
  Inv X pins σ (upd H a o) { s with heap:=h',toks:=t' }:=I.un (Un.laid k hp (I.hok.fresh hp)) (I.hok.laid k hp new)
theorem Inv.write {x e:Addr} {o:HO} {t':Nat} (I:Inv X pins σ H s) (mu:Mut (H x)) (he:e = x\/H e = some (.own x)) (k:∀ b u,b≠e->s.heap.get? b = some u->h'.get? b = some u) (heo:∃ u,h'.get? e = some u)
  (new:vN X.prog X.w (upd H x o) h' x o):Inv X pins σ (upd H x o) { s with heap:=h',toks:=t' }:=I.un (Un.write mu he k heo) (I.hok.write mu he k heo new)
theorem Inv.pins_of {pins':List (Addr × Obj)} (I:Inv X pins σ H s) (h:∀ p∈pins',s.heap.get? p.1 = some p.2/\H p.1 = none/\p.1≠X.env.locals/\p.1 ∉ X.fs/\∀ v,p.2.data≠.cell v):Inv X pins' σ H s :=
 ⟨I.ok,I.os,I.bare,I.base,I.loc,I.cell,I.free,I.freeC,λp hp=>(List.mem_append.mp hp).elim (λz=>I.pin p (List.mem_append_left _ z)) (h p),I.hok,I.len⟩

theorem zJw {N:List Str} (hN:N.Nodup) {i j:Nat} {x:Str} (a:N[i]? = some x) (b:N[j]? = some x):i = j:=by
 obtain ⟨h1,e1⟩:=List.getElem?_eq_some_iff.mp a;obtain ⟨h2,e2⟩:=List.getElem?_eq_some_iff.mp b;exact (List.getElem_inj hN).mp (e1.trans e2.symm)

theorem zHo {M:Model} {A:Around} {E:Value->Shared->Prop} {i:Nat} {x:Str} {v:V} {u:Value} {Q:Unit->Shared->Prop} (I:Inv X pins σ H s) (hN:X.N.Nodup) (hi:X.N[i]? = some x) (hx:Loc X.env.scope x) (r:uN v u)
  (h:∀ s',Inv X pins (σ.set i (some v)) H s'->(∃ a,Heap.SameBut a s.heap s'.heap/\(a = X.env.locals\/X.env.cells.lookup x = some a))->Q () s') (hf:X.fn x = true\/X.env.scope.names.lookup x = some .local:=by first | exact .inl rfl | exact .inr rfl | assumption):wpAny M A (storeName X.env x u) Q E s:=by
 obtain ⟨m,hn,hl⟩:=id I.loc;have hcls:(X.env.scope.kind == .class || (X.env.scope.kind == .module && X.env.locals != X.env.globals)) = false:=by rw [I.ok.kind]; rfl
 have hiσ:i < σ.length:=by rw [I.len]; exact (List.getElem?_eq_some_iff.mp hi).1
 have cne:=I.cne;have tracked:∀ {a:Addr} {h':Heap},(∃ o,s.heap.get? a = some o/\H a = none)->Heap.SameBut a s.heap h'->HOk X.prog X.w H h':=λ{a h'} ha hs b ob e=>by
  obtain ⟨_,_,hfree⟩:=ha;refine (I.hok b ob e).stay (λc w' hc q=>(hs.2 c ?_).trans q) (λ_ q=>q) λ_ _ q=>q;rintro rfl;rcases hc with rfl | hc
  ·rw [hfree] at e; cases e
  ·rw [hfree] at hc; cases hc
 rcases hx with hk | hk
 ·refine wpAny_storeName_local hk hn (λh' hn' hs=>?_) hcls;obtain ⟨oL,_,_,hoL,_⟩:=id hn;refine h _ ⟨I.ok,I.os,I.bare,⟨λb o e n hb hx=>?_,λb o e n hb hx=>?_,I.base.free,λb o e hx=>?_,I.base.tups,I.base.frzs,I.base.tbls⟩,⟨_,hn',λj y v' e1 e2 e3=>?_⟩,λy c e=>?_,I.free,I.freeC,λp hp=>?_,tracked ⟨oL,hoL,I.free⟩ hs,by simpa using I.len⟩ ⟨_,hs,.inl rfl⟩
  ·exact (hs.2 b (Nat.ne_of_lt (Nat.lt_of_lt_of_le (Heap.lt_size e) I.ok.above))).trans (I.base.keep b o e n hb hx)
  ·obtain ⟨sl,e1⟩:=I.base.slot b o e n hb hx;exact ⟨sl,(hs.2 b (Nat.ne_of_lt (Nat.lt_of_lt_of_le (Heap.lt_size e) I.ok.above))).trans e1⟩
  ·obtain ⟨o',e1⟩:=I.base.there b o e hx;exact ⟨o',(hs.2 b (Nat.ne_of_lt (Nat.lt_of_lt_of_le (Heap.lt_size e) I.ok.above))).trans e1⟩
  ·by_cases hj:j = i
   ·subst hj;rw [hi] at e1; cases e1;rw [List.getElem?_set_self hiσ] at e2;cases e2;exact ⟨u,r,.inl ⟨hk,by simp⟩⟩
   ·rw [List.getElem?_set_ne (Ne.symm hj)] at e2;obtain ⟨u',r',q⟩:=hl j y v' e1 e2 e3;refine ⟨u',r',?_⟩;rcases q with ⟨k,e⟩ | ⟨k,c,e,z⟩
    ·refine .inl ⟨k,?_⟩;have:y≠x:=λe=>hj (zJw hN e1 (e ▸ hi));simp [this,e]
    ·exact .inr ⟨k,c,e,z.sameBut hs (cne y c e)⟩
  ·obtain ⟨w',z⟩:=I.cell y c e;exact ⟨w',z.sameBut hs (cne y c e)⟩
  ·obtain ⟨e,n,ne,nf,d⟩:=I.pin p hp;exact ⟨(hs.2 p.1 ne).trans e,n,ne,nf,d⟩
 ·have hfn:X.fn x = true:=by
   rcases hf with z | z
   ·exact z
   ·rw [z] at hk; cases hk
  obtain ⟨c,hc⟩:=I.ok.has x (.inl hk);obtain ⟨w',z⟩:=I.cell x c hc;refine wpAny_storeName_cell I.ok.kind hk hc z (λh' hc' hs=>?_);obtain ⟨oc,hoc,hocd⟩:=id z;refine h { s with heap:=h' } ⟨I.ok,I.os,I.bare,⟨λb o e n hb hx=>?_,λb o e n hb hx=>?_,I.base.free,λb o e hx=>?_,I.base.tups,I.base.frzs,I.base.tbls⟩,⟨m,hn.sameBut hs (Ne.symm (cne x c hc)),λj y v' e1 e2 e3=>?_⟩,λy c' e=>?_,I.free,I.freeC,λp hp=>?_,tracked ⟨oc,hoc,I.freeC x c hc⟩ hs,by simpa using I.len⟩ ⟨c,hs,.inr hc⟩
  ·exact (hs.2 b (Nat.ne_of_lt (Nat.lt_of_lt_of_le (Heap.lt_size e) (I.ok.cab x c hfn hc)))).trans (I.base.keep b o e n hb hx)
  ·obtain ⟨sl,e1⟩:=I.base.slot b o e n hb hx;exact ⟨sl,(hs.2 b (Nat.ne_of_lt (Nat.lt_of_lt_of_le (Heap.lt_size e) (I.ok.cab x c hfn hc)))).trans e1⟩
  ·obtain ⟨o',e1⟩:=I.base.there b o e hx;exact ⟨o',(hs.2 b (Nat.ne_of_lt (Nat.lt_of_lt_of_le (Heap.lt_size e) (I.ok.cab x c hfn hc)))).trans e1⟩
  ·by_cases hj:j = i
   ·subst hj;rw [hi] at e1; cases e1;rw [List.getElem?_set_self hiσ] at e2;cases e2;exact ⟨u,r,.inr ⟨.inl hk,c,hc,hc'⟩⟩
   ·rw [List.getElem?_set_ne (Ne.symm hj)] at e2;obtain ⟨u',r',q⟩:=hl j y v' e1 e2 e3;refine ⟨u',r',?_⟩;rcases q with q | ⟨k,c',e,z'⟩
    ·exact .inl q
    ·refine .inr ⟨k,c',e,z'.sameBut hs ?_⟩;rintro rfl;exact hj (zJw hN e1 (I.ok.inj _ _ _ e hc ▸ hi))
  ·by_cases hcc:c' = c
   ·subst hcc; exact ⟨_,hc'⟩
   ·obtain ⟨w2,z2⟩:=I.cell y c' e;exact ⟨w2,z2.sameBut hs hcc⟩
  ·obtain ⟨e,n,ne,nf,d⟩:=I.pin p hp;refine ⟨(hs.2 p.1 ?_).trans e,n,ne,nf,d⟩;intro q;rw [q,hoc] at e;have q':oc = p.2:=Option.some.inj e;exact d w' (by rw [<- q']; exact hocd)
theorem zAx {M:Model} {A:Around} {E:Value->Shared->Prop} {i:Nat} {x:Str} {v:V} {u:Value} {Q:Unit->Shared->Prop} (I:Inv X pins σ H s) (hN:X.N.Nodup) (hi:X.N[i]? = some x) (hx:Loc X.env.scope x) (r:uN v u)
  (h:∀ s',Inv X pins (σ.set i (some v)) H s'->Q () s') (hf:X.fn x = true\/X.env.scope.names.lookup x = some .local:=by first | exact .inl rfl | exact .inr rfl | assumption):wpAny M A (storeName X.env x u) Q E s :=
 zHo I hN hi hx r (λs' I' _=>h s' I') hf
theorem Inv.call' {s':Shared} {ch:List Addr} (I:Inv X pins σ H s) (ho:s'.os = s.os) (u:Un (frs X.stack) ch H H' s.heap s'.heap) (hok:HOk X.prog X.w H' s'.heap) (hg:AllBare s'.gens)
  (hch:∀ b∈ch,(b∈X.ex\/X.s₀.heap.objs.size<=b)/\b≠X.env.locals/\(∀ x c,X.env.cells.lookup x = some c->c≠b)/\∀ p∈X.pn ++ pins,p.1≠b):Inv X pins σ H' s':=by
 obtain ⟨h',g',d',t',o'⟩:=s';have e:o' = s.os:=ho;subst e;exact I.call (g':=g') (t':=t') (d':=d') u hok hg hch
end

abbrev XK:=Value->Option Addr->Hp->Prop
abbrev St:=List (Option V)
abbrev VK:=V->Hp->Prop
abbrev TE:=St->Hp->VK->Prop
abbrev TT:=St->Hp->(Bool->Hp->Prop)->Prop
abbrev TA:=St->Hp->(List V->Hp->Prop)->Prop
structure zPp where
 nx:St->Hp->Prop
 rt:VK
 bk:St->Hp->Prop:=λ_ _=>False
 ct:St->Hp->Prop:=λ_ _=>False
abbrev TS:=zPp->St->Hp->Prop

def EP (X:Cx) (pins:List (Addr × Obj)) (σ:St) (Q:VK) (u:Value) (s':Shared):Prop:=∃ v H',Inv X pins σ H' s'/\uN v u/\Q v H'
def TP (X:Cx) (pins:List (Addr × Obj)) (σ:St) (Q:Bool->Hp->Prop) (b:Bool) (s':Shared):Prop:=∃ H',Inv X pins σ H' s'/\Q b H'
def AP (X:Cx) (pins:List (Addr × Obj)) (σ:St) (Q:List V->Hp->Prop) (us:List Value) (s':Shared):Prop:=∃ vs H',Inv X pins σ H' s'/\xI vs us/\Q vs H'
def SP (X:Cx) (pins:List (Addr × Obj)) (D:zPp) (f:Flow) (s':Shared):Prop :=
 match f with
 | .next=>∃ σ' H',Inv X pins σ' H' s'/\D.nx σ' H'
 | .brk=>∃ σ' H',Inv X pins σ' H' s'/\D.bk σ' H'
 | .cont=>∃ σ' H',Inv X pins σ' H' s'/\D.ct σ' H'
 | .ret u=>∃ v σ' H',Inv X pins σ' H' s'/\uN v u/\D.rt v H'

def PE (X:Cx) (e:Expr) (t:TE):Prop :=
 ∀ (pins:List (Addr × Obj)) (s:Shared) (σ:St) (H:Hp) (Q:VK),Inv X pins σ H s->t σ H Q->wpAny (model X.prog X.w) X.A (eval e X.env) (EP X pins σ Q) X.xe s
def PT (X:Cx) (e:Expr) (t:TT):Prop :=
 ∀ (pins:List (Addr × Obj)) (s:Shared) (σ:St) (H:Hp) (Q:Bool->Hp->Prop),Inv X pins σ H s->t σ H Q->wpAny (model X.prog X.w) X.A (isTrue e X.env (eval e X.env)) (TP X pins σ Q) X.xe s
def PW (X:Cx) (e:Expr) (t:TT):Prop :=
 ∀ (whole:Sem Value) (pins:List (Addr × Obj)) (s:Shared) (σ:St) (H:Hp) (Q:Bool->Hp->Prop),Inv X pins σ H s->t σ H Q->wpAny (model X.prog X.w) X.A (isTrue e X.env whole) (TP X pins σ Q) X.xe s
theorem PW.pt {X:Cx} {e:Expr} {t:TT} (h:PW X e t):PT X e t:=h _
def PA (X:Cx) (es:List Expr) (t:TA):Prop :=
 ∀ (pos:Pos) (pins:List (Addr × Obj)) (s:Shared) (σ:St) (H:Hp) (Q:List V->Hp->Prop),Inv X pins σ H s->t σ H Q->wpAny (model X.prog X.w) X.A (spliced (backTo pos (starEach es X.env))) (AP X pins σ Q) X.xe s
def PS (X:Cx) (st:Stmt) (t:TS):Prop :=
 ∀ (pins:List (Addr × Obj)) (s:Shared) (σ:St) (H:Hp) (D:zPp),Inv X pins σ H s->t D σ H->wpAny (model X.prog X.w) X.A (exec st X.env) (SP X pins D) X.xe s
def PSs (X:Cx) (st:List Stmt) (t:TS):Prop :=
 ∀ (pins:List (Addr × Obj)) (s:Shared) (σ:St) (H:Hp) (D:zPp),Inv X pins σ H s->t D σ H->wpAny (model X.prog X.w) X.A (execs st X.env) (SP X pins D) X.xe s
theorem thn {α:Type} {t:Sem α} {Q Q':α->Shared->Prop} {M:Model} {A:Around} {E:Value->Shared->Prop} {s:Shared} (h:wpAny M A t Q E s) (hQ:∀ a s,Q a s->Q' a s):wpAny M A t Q' E s:=wpAny_mono h hQ λ_ _ x=>x
end L2

namespace L2
open PySem PySem.Spec PyProof.Rows
section
variable {X:Cx}

theorem bin {a b:Expr} {ta tb:TE} (ha:PE X a ta) (hb:PE X b tb) {pins:List (Addr × Obj)} {s:Shared} {σ:St} {H:Hp} {R:V->V->Hp->Prop} (I:Inv X pins σ H s) (h:ta σ H λx H1=>tb σ H1 λy H2=>R x y H2)
  {α:Type} {Q:α->Shared->Prop} {f:Value->Value->Sem α}
  (hf:∀ v u s2 x y H2,Inv X pins σ H2 s2->uN x v->uN y u->R x y H2->wpAny (model X.prog X.w) X.A (f v u) Q X.xe s2) :
  wpAny (model X.prog X.w) X.A (eval a X.env) (λv s₁=>wpAny (model X.prog X.w) X.A (eval b X.env) (λu s₂=>wpAny (model X.prog X.w) X.A (f v u) Q X.xe s₂) X.xe s₁) X.xe s:=by
 refine thn (ha pins s σ H _ I h) λv s1 ⟨x,H1,I1,r1,q1⟩=>?_;refine thn (hb pins s1 σ H1 _ I1 q1) λu s2 ⟨y,H2,I2,r2,q2⟩=>?_;exact hf v u s2 x y H2 I2 r1 r2 q2

inductive TVar (i:Nat) (σ:St) (H:Hp) (Q:VK):Prop where
 | mk (v:V) (e:σ[i]? = some (some v)) (q:Q v H)
def zT4 (i:Nat):TE:=λσ H Q=>TVar i σ H Q
def tC (v:V):TE:=λ_ H Q=>Q v H
theorem zTj {i:Nat} {x:Str} {pos:Pos} (hN:X.N[i]? = some x) (hv:Vis X.env.scope x) (hd:(x == ("__debug__" : Str)) = false:=by decide) (hcd:(x == ("__classdict__" : Str)) = false:=by decide):PE X (.Name x pos) (zT4 i):=by
 intro pins s σ H Q I h;obtain ⟨v,e,h⟩:=h;obtain ⟨m,hn,hl⟩:=I.loc;obtain ⟨u,r,l⟩:=hl i x v hN e hv;have fin:EP X pins σ Q u s:=⟨v,H,I,r,h⟩;rcases l with ⟨hk,hm⟩ | ⟨hk,c,hc,hcell⟩
 ·exact wpAny_Name (wpAny_loadName_local I.ok.kind hk hn hm fin) hd
 ·rcases hk with hk | hk
  ·exact wpAny_Name (wpAny_loadName_cell I.ok.kind hk hc hcell fin) hd
  ·exact wpAny_Name (wpAny_loadName_free I.ok.kind hk hc hcell fin hcd) hd
theorem zC {i j pos} : PE X (.Constant (.int i) j pos) (tC (.int i)):=λ_ _ _ H _ I h=>wpAny_Constant_int ⟨.int i,H,I.tok _,⟨_,rfl⟩,h⟩
theorem zDt {b j pos} : PE X (.Constant (.bool b) j pos) (tC (.bl b)):=λ_ _ _ H _ I h=>Constant_bool ⟨.bl b,H,I,rfl,h⟩
theorem xJ {j pos} : PE X (.Constant .none j pos) (tC .non):=λ_ _ _ H _ I h=>Constant_none ⟨.non,H,I,rfl,h⟩
theorem zAb {x j pos} : PE X (.Constant (.str x) j pos) (tC (.str x)):=λ_ _ _ H _ I h=>Calls.Constant_str ⟨.str x,H,I.tok _,⟨_,rfl⟩,h⟩

def Gl (X:Cx) (x:Str):Prop:=X.env.kindOf x = some .globalImplicit
theorem zQ3 {E:Value->Shared->Prop} {pins:List (Addr × Obj)} {s:Shared} {σ:St} {H:Hp} {x:Str} {u:Value} {pos:Pos} {Q:Value->Shared->Prop} (I:Inv X pins σ H s) (hg:Gl X x) (hm:X.mg x = some u) (h:Q u s)
  (hd:(x == ("__debug__" : Str)) = false:=by decide):wpAny (model X.prog X.w) X.A (eval (.Name x pos) X.env) Q E s :=
 Calls.Name_function_global I.ok.kind hg (Calls.loadGlobal_global (by rw [I.ok.glob]; exact I.mod.glob.keeps I.bk) hm h) hd
theorem zE2 {E:Value->Shared->Prop} {pins:List (Addr × Obj)} {s:Shared} {σ:St} {H:Hp} {x:Str} {u:Value} {pos:Pos} {Q:Value->Shared->Prop} (I:Inv X pins σ H s) (hg:Gl X x) (hm:X.mg x = none) (hv:bootBuiltins x = some u) (h:Q u s)
  (hn:x ≠ "__name__" := by decide) (hd:(x == ("__debug__" : Str)) = false:=by decide):wpAny (model X.prog X.w) X.A (eval (.Name x pos) X.env) Q E s:=by
 obtain ⟨mb,h1,h2⟩:=I.mod.blt;exact Calls.Name_function_global I.ok.kind hg (Calls.loadGlobal_builtin (by rw [I.ok.glob]; exact I.mod.glob.keeps I.bk) hm (by rw [I.ok.blt]; exact h1.keeps I.bk) ((h2 x hn).trans hv) h) hd
variable {a b:Expr} {ta tb:TE} {pos:Pos}
def PC (X:Cx) (op:CmpOp) (a b:Expr) (t:TE):Prop :=
 ∀ (pins:List (Addr × Obj)) (s:Shared) (σ:St) (H:Hp) (Q:VK),Inv X pins σ H s->t σ H Q ->
  wpAny (model X.prog X.w) X.A (eval a X.env) (λv s₁=>wpAny (model X.prog X.w) X.A (eval b X.env) (λu s₂=>wpAny (model X.prog X.w) X.A (compareOp op v u) (EP X pins σ Q) X.xe s₂) X.xe s₁) X.xe s
def tB (t:TE):TT:=λσ H Q=>t σ H λx H1=>∃ c,x = .bl c/\Q c H1
theorem pt_cmp {op:CmpOp} {t:TE} (h:PC X op a b t) (h1:behindInMarks op b = false:=by first | exact nobehind _ (by decide) (by decide) | rfl):PT X (.Compare a [op] [b] pos) (tB t):=by
 intro pins s σ H Q I hw;refine wpAny_isTrue_Compare1 (thn (h pins s σ H _ I hw) λv s1 h1=>thn h1 λu s2 h2=>thn h2 λc s3 ⟨x,H1,I1,r1,q1⟩=>?_) h1;obtain ⟨d,rfl,q⟩:=q1;cases r1;exact wpAny_truthy_bool ⟨H1,I1,q⟩
theorem tN {e:Expr} {t:TE} (h:PE X e t) (he:∀ whole,isTrue e X.env whole = (do let v <- whole; standAt e.pos; holding [v] (truthy v)):=by intro _; rfl):PT X e (tB t):=by
 intro pins s σ H Q I hw;refine isTrue_plain (thn (h pins s σ H _ I hw) λv s1 ⟨x,H1,I1,r1,q1⟩=>?_) (he _);obtain ⟨d,rfl,q⟩:=q1;cases r1;exact wpAny_truthy_bool ⟨H1,I1,q⟩

variable {tA tB':TT} {rest:List Expr}
def tAnd (t u:TT):TT:=λσ H Q=>t σ H λc H1=>if c = true then u σ H1 Q else Q false H1
def tOr (t u:TT):TT:=λσ H Q=>t σ H λc H1=>if c = true then Q true H1 else u σ H1 Q
def tNot (t:TT):TT:=λσ H Q=>t σ H λc H1=>Q (!c) H1
theorem uH (ha:PT X a tA):PW X (.BoolOp .And [a] pos) tA:=by
 intro wh pins s σ H Q I h;refine isTrue_and (thn (ha pins s σ H Q I h) λc s1 e=>?_);cases c with
 | true=>exact isTrue_and_nil e
 | false=>exact e
theorem zP1 (ha:PT X a tA):PW X (.BoolOp .Or [a] pos) tA:=by
 intro wh pins s σ H Q I h;refine isTrue_or (thn (ha pins s σ H Q I h) λc s1 e=>?_);cases c with
 | false=>exact isTrue_or_nil e
 | true=>exact e
theorem tT (ha:PT X a tA) (hb:PW X (.BoolOp .And (b :: rest) pos) tB'):PW X (.BoolOp .And (a :: b :: rest) pos) (tAnd tA tB'):=by
 intro wh pins s σ H Q I h;refine isTrue_and (thn (ha pins s σ H _ I h) λc s1 ⟨H1,I1,q1⟩=>?_);cases c with
 | true=>exact hb wh pins s1 σ H1 Q I1 q1
 | false=>exact ⟨H1,I1,q1⟩
theorem zT6 (ha:PT X a tA) (hb:PW X (.BoolOp .Or (b :: rest) pos) tB'):PW X (.BoolOp .Or (a :: b :: rest) pos) (tOr tA tB'):=by
 intro wh pins s σ H Q I h;refine isTrue_or (thn (ha pins s σ H _ I h) λc s1 ⟨H1,I1,q1⟩=>?_);cases c with
 | true=>exact ⟨H1,I1,q1⟩
 | false=>exact hb wh pins s1 σ H1 Q I1 q1
theorem zAy (ha:PT X a tA):PT X (.UnaryOp .Not a pos) (tNot tA):=by
 intro pins s σ H Q I h;exact isTrue_not (ha pins s σ H (λc H1=>Q (!c) H1) I h)
def tAndV (ta tb:TE):TE:=λσ H Q=>ta σ H λx H1=>∃ c,x = .bl c/\if c = true then tb σ H1 Q else Q (.bl false) H1
def tOrV (ta tb:TE):TE:=λσ H Q=>ta σ H λx H1=>∃ c,x = .bl c/\if c = true then Q (.bl true) H1 else tb σ H1 Q
theorem zN6 {op} {t:TE} (h:PE X a t):PE X (.BoolOp op [a] pos) t:=λpins s σ H Q I hw=>BoolOp_one (h pins s σ H Q I hw)
theorem zSp (ha:PE X a ta) (hb:PE X (.BoolOp .And (b :: rest) pos) tb):PE X (.BoolOp .And (a :: b :: rest) pos) (tAndV ta tb):=by
 intro pins s σ H Q I h;refine BoolOp_and (thn (ha pins s σ H _ I h) λv s1 ⟨x,H1,I1,r1,q1⟩=>?_);obtain ⟨c,rfl,q1⟩:=q1;cases r1;refine wpAny_truthy_bool ?_;cases c with
 | true=>exact hb pins s1 σ H1 Q I1 q1
 | false=>exact ⟨.bl false,H1,I1,rfl,q1⟩
theorem pe_or (ha:PE X a ta) (hb:PE X (.BoolOp .Or (b :: rest) pos) tb):PE X (.BoolOp .Or (a :: b :: rest) pos) (tOrV ta tb):=by
 intro pins s σ H Q I h;refine BoolOp_or (thn (ha pins s σ H _ I h) λv s1 ⟨x,H1,I1,r1,q1⟩=>?_);obtain ⟨c,rfl,q1⟩:=q1;cases r1;refine wpAny_truthy_bool ?_;cases c with
 | false=>exact hb pins s1 σ H1 Q I1 q1
 | true=>exact ⟨.bl true,H1,I1,rfl,q1⟩
def tIf (t:TT) (ta tb:TE):TE:=λσ H Q=>t σ H λc H1=>if c = true then ta σ H1 Q else tb σ H1 Q
theorem zPt {c:Expr} (hc:PT X c tA) (ha:PE X a ta) (hb:PE X b tb):PE X (.IfExp c a b pos) (tIf tA ta tb):=by
 intro pins s σ H Q I h;refine wpAny_IfExp (thn (hc pins s σ H _ I h) λd s1 ⟨H1,I1,q1⟩=>?_);cases d with
 | true=>exact ha pins s1 σ H1 Q I1 q1
 | false=>exact hb pins s1 σ H1 Q I1 q1
end
end L2

namespace L2
open PySem PySem.Spec PyProof.Rows

def SqL (K:PySem.W.Frag) (H:Hp) (a:Addr) (xs:List V):Prop :=
 Rd H a (.lst xs) \/
  ∃ (o:Obj) (its:Array Value) (n:Nat),K.lookup a = some o/\o.cls = .type "list" /\ o.dict = none/\o.data = .seq its n/\its.size<=sizeLine/\xI xs its.toList
def SqT (K:PySem.W.Frag) (H:Hp) (a:Addr) (xs:List V):Prop :=
 Rd H a (.tup xs) \/
  ∃ (o:Obj) (its:Array Value) (n:Nat),K.lookup a = some o/\o.cls = .type "tuple" /\ o.data = .seq its n/\its.size<=sizeLine/\xI xs its.toList
def absV:Value->Option V
 | .none=>some .non
 | .bool b=>some (.bl b)
 | .int i _=>some (.int i)
 | .str x _=>some (.str x)
 | .bytes b _=>some (.byt b)
 | .float b _=>some (.flt b)
 | .ref a=>some (.ref a)
 | .type n=>some (.ty n)
 | _=>none
theorem uN.abs {x:V} {u:Value} (r:uN x u):absV u = some x:=by
 cases x with
 | non=>cases r; rfl
 | bl _=>cases r; rfl
 | int _=>obtain ⟨t,rfl⟩:=r; rfl
 | str _=>obtain ⟨t,rfl⟩:=r; rfl
 | byt _=>obtain ⟨t,rfl⟩:=r; rfl
 | flt _=>obtain ⟨t,rfl⟩:=r; rfl
 | ref _=>cases r; rfl
 | ty _=>cases r; rfl
theorem uN.inj {x y:V} {u:Value} (r:uN x u) (q:uN y u):x = y:=Option.some.inj (r.abs.symm.trans q.abs)
theorem xI.inj:∀ {xs ys:List V} {us:List Value},xI xs us->xI ys us->xs = ys
 | _,_,_,.nil,.nil=>rfl
 | _,_,_,.cons r t,.cons r' t'=>by rw [r.inj r',xI.inj t t']
section
variable {X:Cx} {pins:List (Addr × Obj)} {σ:St} {H:Hp} {s:Shared} {a:Addr} {xs ys:List V}
theorem SqL.of {K:PySem.W.Frag} (h:H a = some (.lst xs)):SqL K H a xs:=.inl (.inl h)
theorem SqT.of {K:PySem.W.Frag} (h:H a = some (.tup xs)):SqT K H a xs:=.inl (.inl h)
theorem Inv.list (I:Inv X pins σ H s) (h:SqL X.K H a xs):∃ its:List Value,xI xs its/\PlainL s.heap a its.toArray/\xs.length<=sizeLine:=by
 rcases h with h | ⟨o,its,n,hk,hc,hd,hs,hz,r⟩
 ·obtain ⟨z,its,n,r,e⟩:=h.ok I.hok;exact ⟨its,r,⟨_,n,e,rfl,rfl,rfl⟩,z⟩
 ·refine ⟨its.toList,r,⟨o,n,I.kIn a o hk,hc,hd,by simpa using hs⟩,?_⟩;have e:=r.length;simp only [Array.length_toList] at e;omega
theorem Inv.tuple (I:Inv X pins σ H s) (h:SqT X.K H a xs):∃ its:List Value,xI xs its/\IsTup s.heap a its.toArray/\xs.length<=sizeLine:=by
 rcases h with h | ⟨o,its,n,hk,hc,hs,hz,r⟩
 ·obtain ⟨z,its,r,p⟩:=h.ok I.hok;exact ⟨its,r,p,z⟩
 ·refine ⟨its.toList,r,⟨o,I.kIn a o hk,hc,n,by simpa using hs⟩,?_⟩;have e:=r.length;simp only [Array.length_toList] at e;omega
theorem Inv.list_inj (I:Inv X pins σ H s) (h:SqL X.K H a xs) (h':SqL X.K H a ys):xs = ys:=by
 obtain ⟨its,r,⟨o,n,e,_,_,d⟩,_⟩:=I.list h;obtain ⟨its',r',⟨o',n',e',_,_,d'⟩,_⟩:=I.list h';rw [e] at e'; cases e';rw [d] at d';injection d' with d1 _
 have:its = its':=by simpa using congrArg Array.toList d1
 subst this;exact r.inj r'
theorem Inv.tuple_inj (I:Inv X pins σ H s) (h:SqT X.K H a xs) (h':SqT X.K H a ys):xs = ys:=by
 obtain ⟨its,r,⟨o,e,_,n,d⟩,_⟩:=I.tuple h;obtain ⟨its',r',⟨o',e',_,n',d'⟩,_⟩:=I.tuple h';rw [e] at e'; cases e';rw [d] at d';injection d' with d1 _
 have:its = its':=by simpa using congrArg Array.toList d1
 subst this;exact r.inj r'
end

abbrev Cx.wish (X:Cx) (E:Value->Shared->Prop):Cx:={ X with xe:=E }
abbrev Cx.nox (X:Cx):Cx:=X.wish λ_ _=>False
theorem Cx.Ok.wish {X:Cx} (ok:X.Ok) (E:Value->Shared->Prop):(X.wish E).Ok :=
 ⟨ok.mod,ok.kind,ok.glob,ok.blt,ok.above,ok.inj,ok.has,ok.cab,ok.hd,ok.frames,ok.stk,ok.exf,ok.bs,ok.bsz,ok.noex,ok.exfs,ok.funs,ok.frf⟩
theorem Cx.Ok.unwish {X:Cx} {E:Value->Shared->Prop} (ok:(X.wish E).Ok):X.Ok :=
 ⟨ok.mod,ok.kind,ok.glob,ok.blt,ok.above,ok.inj,ok.has,ok.cab,ok.hd,ok.frames,ok.stk,ok.exf,ok.bs,ok.bsz,ok.noex,ok.exfs,ok.funs,ok.frf⟩
section
variable {X:Cx} {pins:List (Addr × Obj)} {σ:St} {H:Hp} {s:Shared} {E:Value->Shared->Prop}
theorem Inv.wish (I:Inv X pins σ H s) (E:Value->Shared->Prop):Inv (X.wish E) pins σ H s:=⟨I.ok.wish E,I.os,I.bare,I.base,I.loc,I.cell,I.free,I.freeC,I.pin,I.hok,I.len⟩
theorem Inv.unwish (I:Inv (X.wish E) pins σ H s):Inv X pins σ H s:=⟨I.ok.unwish,I.os,I.bare,I.base,I.loc,I.cell,I.free,I.freeC,I.pin,I.hok,I.len⟩
theorem SP.unwish {D:zPp} {f:Flow} {s':Shared} (h:SP (X.wish E) pins D f s'):SP X pins D f s':=by
 cases f with
 | next=>obtain ⟨σ',H',I,q⟩:=h; exact ⟨σ',H',I.unwish,q⟩
 | brk=>obtain ⟨σ',H',I,q⟩:=h; exact ⟨σ',H',I.unwish,q⟩
 | cont=>obtain ⟨σ',H',I,q⟩:=h; exact ⟨σ',H',I.unwish,q⟩
 | ret u=>obtain ⟨v,σ',H',I,r,q⟩:=h; exact ⟨v,σ',H',I.unwish,r,q⟩
theorem PSs.nox {st:List Stmt} {t:TS} (h:PSs X.nox st t):PSs X st t:=λpins s σ H D I hw =>
 wpAny_mono (h pins s σ H D (I.wish _) hw) (λ_ _ q=>q.unwish) λ_ _ z=>False.elim z
end

section
variable {X:Cx} {st:Stmt} {rest:List Stmt} {t u:TS} {e:Expr} {te:TE} {pos:Pos}
def tNext:TS:=λD σ H=>D.nx σ H
def tSeq (t u:TS):TS:=λD σ H=>t { D with nx:=u D } σ H
theorem zY:PSs X [] tNext:=λ_ _ σ H _ I h=>wpAny_execs_nil ⟨σ,H,I,h⟩
theorem zF (h1:PS X st t) (h2:PSs X rest u):PSs X (st :: rest) (tSeq t u):=by
 intro pins s σ H D I h;refine wpAny_execs_cons (thn (h1 pins s σ H { D with nx:=u D } I h) λf s1 q=>?_);cases f with
 | next =>
  obtain ⟨σ',H',I',q⟩:=q;exact h2 pins s1 σ' H' D I' q
 | ret v=>exact q
 | brk=>exact q
 | cont=>exact q
theorem zJ (h1:PS X st t):PSs X [st] t:=by
 intro pins s σ H D I h;refine wpAny_execs_cons (thn (h1 pins s σ H D I h) λf s1 q=>?_);cases f with
 | next=>exact wpAny_execs_nil q
 | ret v=>exact q
 | brk=>exact q
 | cont=>exact q
theorem Inv.quiet {pins:List (Addr × Obj)} {σ:St} {H:Hp} {s:Shared} (I:Inv X pins σ H s):interactive X.env = false:=by simp [interactive,I.ok.kind]
def tDrop (te:TE):TS:=λD σ H=>te σ H λ_ H1=>D.nx σ H1
theorem qH (he:PE X e te) (hs:swapsWith e none pos.line X.env = pure false:=by rfl):PS X (.Expr e pos) (tDrop te):=by
 intro pins s σ H D I h;exact wpAny_Expr_any (thn (he pins s σ H _ I h) λv s1 ⟨x,H1,I1,r1,q1⟩=>⟨σ,H1,I1,q1⟩) I.quiet hs
def tRet (te:TE):TS:=λD σ H=>te σ H D.rt
theorem zR (he:PE X e te):PS X (.Return (some e) pos) (tRet te):=by
 intro pins s σ H D I h;exact wpAny_Return_some (thn (he pins s σ H _ I h) λv s1 ⟨x,H1,I1,r1,q1⟩=>⟨x,σ,H1,I1,r1,q1⟩)
def tIfS (c:TT) (t u:TS):TS:=λD σ H=>c σ H λb H1=>if b = true then t D σ H1 else u D σ H1
theorem xC {c:Expr} {a b:List Stmt} {tc:TT} (hc:PT X c tc) (ha:PSs X a t) (hb:PSs X b u):PS X (.If c a b pos) (tIfS tc t u):=by
 intro pins s σ H D I h;refine wpAny_If (thn (hc pins s σ H _ I h) λd s1 ⟨H1,I1,q1⟩=>?_);cases d with
 | true=>exact ha pins s1 σ H1 D I1 q1
 | false=>exact hb pins s1 σ H1 D I1 q1
end

abbrev TG:=V->St->Hp->(St->Hp->Prop)->Prop
abbrev TGs:=List V->St->Hp->(St->Hp->Prop)->Prop
def PG (X:Cx) (target:Expr) (t:TG):Prop :=
 ∀ (pins:List (Addr × Obj)) (s:Shared) (σ:St) (H:Hp) (v:V) (u:Value) (Q:St->Hp->Prop),Inv X pins σ H s->uN v u->t v σ H Q ->
  wpAny (model X.prog X.w) X.A (assign target X.env u) (λ_ s'=>∃ σ' H',Inv X pins σ' H' s'/\Q σ' H') X.xe s
def PGs (X:Cx) (ts:List Expr) (t:TGs):Prop :=
 ∀ (pins:List (Addr × Obj)) (s:Shared) (σ:St) (H:Hp) (vs:List V) (us:List Value) (Q:St->Hp->Prop),Inv X pins σ H s->xI vs us->t vs σ H Q ->
  wpAny (model X.prog X.w) X.A (assignInOrder ((assignEach ts X.env).map (·.2)) us) (λ_ s'=>∃ σ' H',Inv X pins σ' H' s'/\Q σ' H') X.xe s
abbrev zUc:=V->V->V->Hp->(Hp->Prop)->Prop
def PSet (X:Cx) (t:zUc):Prop :=
 ∀ (pins:List (Addr × Obj)) (s:Shared) (σ:St) (H:Hp) (o i v:V) (ov iv u:Value) (Q:Hp->Prop),Inv X pins σ H s->uN o ov->uN i iv->uN v u->t o i v H Q ->
  wpAny (model X.prog X.w) X.A (setItem ov iv u) (λ_ s'=>∃ H',Inv X pins σ H' s'/\Q H') X.xe s
section
variable {X:Cx} {pos:Pos}
def zPz (i:Nat):TG:=λv σ H Q=>Q (σ.set i (some v)) H
theorem zQ {i:Nat} {x:Str} (hN:X.N.Nodup) (hi:X.N[i]? = some x) (hx:Loc X.env.scope x) (hf:X.fn x = true\/X.env.scope.names.lookup x = some .local:=by first | exact .inl rfl | exact .inr rfl | assumption):PG X (.Name x pos) (zPz i):=by
 intro pins s σ H v u Q I r h;exact wpAny_assign_Name (zAx I hN hi hx r (λs' I'=>⟨_,H,I',h⟩) hf)
def gNil:TGs:=λvs σ H Q=>vs = []/\Q σ H
def gCons (t:TG) (u:TGs):TGs:=λvs σ H Q=>∃ v r,vs = v :: r/\t v σ H λσ' H'=>u r σ' H' Q
theorem vH:PGs X [] gNil:=by
 intro pins s σ H vs us Q I r h;obtain ⟨e,h⟩:=h;subst e;cases r;exact assignInOrder_nil ⟨σ,H,I,h⟩
theorem yA {e:Expr} {es:List Expr} {t:TG} {u:TGs} (h1:PG X e t) (h2:PGs X es u)
  (hs:(assignEach (e :: es) X.env).map (·.2) = assign e X.env :: (assignEach es X.env).map (·.2):=by rfl):PGs X (e :: es) (gCons t u):=by
 intro pins s σ H vs us Q I r h;obtain ⟨v,vr,e1,h⟩:=h;subst e1;cases r with
 | cons r rr =>
  rw [hs];refine assignInOrder_cons (thn (h1 pins s σ H _ _ _ I r h) λ_ s1 ⟨σ1,H1,I1,q1⟩=>?_);exact h2 pins s1 σ1 H1 _ _ Q I1 rr q1
def gTup (K:PySem.W.Frag) (n:Nat) (t:TGs):TG:=λv σ H Q=>∃ a xs,v = .ref a/\SqT K H a xs/\xs.length = n/\t xs σ H Q
theorem rM {es:List Expr} {k:Nat} {t:TGs} {n:Nat} (hc:X.calm = true) (h:PGs X es t)
  (hn:(assignEach es X.env).length = n:=by rfl) (hst:(assignEach es X.env).findIdx? (·.1) = none:=by rfl):PG X (.Tuple es k pos) (gTup X.K n t):=by
 intro pins s σ H v u Q I r hw;obtain ⟨a,xs,e1,hq,hl,hw⟩:=hw;subst e1;cases r;obtain ⟨its,rv,ht,hz⟩:=I.tuple hq;refine assign_Tuple_tuple (I.ok.hd hc) ht (by simp [hn,<- hl,rv.length]) hst λh' hx=>?_;have I1:Inv X pins σ H { s with heap:=h' }:=I.kept (t':=s.toks) λb o e=>hx b o (Nat.ne_of_lt (Heap.lt_size e)) e;exact h pins _ σ H xs _ Q I1 (by simpa using rv) hw
def gSub (to ti:TE) (t:zUc):TG:=λv σ H Q=>to σ H λo H1=>ti σ H1 λi H2=>t o i v H2 λH3=>Q σ H3
theorem zTo {o i:Expr} {to ti:TE} {t:zUc} (ho:PE X o to) (hi:PE X i ti) (hs:PSet X t)
  (ha:∀ v,assign (.Subscript o i pos) X.env v = (do
   let ov <- holding [v] (eval o X.env)
   let iv <- holding [v,ov] (eval i X.env)
   standAt pos
   holding [v,ov,iv] (setItem ov iv v)
   release [v,ov,iv] []):=by intro _; rfl):PG X (.Subscript o i pos) (gSub to ti t):=by
 intro pins s σ H v u Q I r h;rw [ha];refine wpAny_bind (wpAny_holding (thn (ho pins s σ H _ I h) λov s1 ⟨x,H1,I1,r1,q1⟩=>?_));refine wpAny_bind (wpAny_holding (thn (hi pins s1 σ H1 _ I1 q1) λiv s2 ⟨y,H2,I2,r2,q2⟩=>?_));refine wpAny_bind (wpAny_standAt (wpAny_bind (wpAny_holding (thn (hs pins s2 σ H2 x y v ov iv u _ I2 r1 r2 r q2) λ_ s3 ⟨H3,I3,q3⟩=>?_))));exact wpAny_release ⟨σ,H3,I3,q3⟩
def zUe (te:TE) (g:TG):TS:=λD σ H=>te σ H λx H1=>g x σ H1 D.nx
theorem zDl {tg e:Expr} {te:TE} {g:TG} (he:PE X e te) (hg:PG X tg g) (hs:swapsWithSole [tg] e pos.line X.env = pure false:=by rfl) (hw:swappedStores [tg] e X.env = pure none:=by rfl)
  (h1:(assignEach [tg] X.env).map (·.2) = [assign tg X.env]:=by rfl):PS X (.Assign [tg] e pos) (zUe te g):=by
 intro pins s σ H D I h;refine wpAny_Assign_stores (thn (he pins s σ H _ I h) λv s1 ⟨x,H1,I1,r1,q1⟩=>?_) hs hw;rw [h1];exact thn (hg pins s1 σ H1 x v _ I1 r1 q1) λ_ s2 q=>q
theorem zT {i:Nat} {x:Str} {e:Expr} {te:TE} {pos':Pos} (hN:X.N.Nodup) (hi:X.N[i]? = some x) (hx:Loc X.env.scope x) (he:PE X e te) (hs:swapsWith e (some (.Name x pos')) pos.line X.env = pure false:=by rfl) (hf:X.fn x = true\/X.env.scope.names.lookup x = some .local:=by first | exact .inl rfl | exact .inr rfl | assumption) :
  PS X (.Assign [.Name x pos'] e pos) (zUe te (zPz i)):=by
 intro pins s σ H D I h;refine wpAny_Assign_Name (thn (he pins s σ H _ I h) λv s1 ⟨y,H1,I1,r1,q1⟩=>?_) hs;exact zAx I1 hN hi hx r1 (λs2 I2=>⟨_,H1,I2,q1⟩) hf
end

section
variable {X:Cx} {pos:Pos}
def zP9 (c:TT) (tb:TS):TS:=λD σ H=>∃ W:Nat->St->Hp->Prop,(∃ m,W m σ H)/\∀ m σ H,W m σ H ->
 c σ H λb H1=>if b = true then ∃ N:St->Hp->Prop,(∀ σ' H',N σ' H'->∃ m',m' < m/\W m' σ' H')/\tb { D with nx:=N,ct:=N,bk:=D.nx } σ H1 else D.nx σ H1
theorem zC0 {c:Expr} {body:List Stmt} {tc:TT} {tb:TS} (hp:PassesOwn (model X.prog X.w) X.A X.env X.xe) (hc:PT X c tc) (hb:PSs X body tb):PS X (.While c body [] pos) (zP9 tc tb):=by
 intro pins s σ H D I h;obtain ⟨W,⟨m0,w0⟩,turn⟩:=h;refine wpAny_While (codeAny_whileLoop (λn s'=>∃ σ' H',Inv X pins σ' H' s'/\W n σ' H') ?_ m0 ⟨σ,H,I,w0⟩);rintro n s1 ⟨σ1,H1,I1,w1⟩;refine wpAny_passesOwn hp (thn (hc pins s1 σ1 H1 _ I1 (turn n σ1 H1 w1)) λb s2 ⟨H2,I2,q2⟩=>?_);cases b with
 | true =>
  obtain ⟨N,hN,q2⟩:=q2;rw [if_pos rfl];refine wpAny_passesOwn hp (thn (hb pins s2 σ1 H2 _ I2 q2) λf s3 q3=>?_);cases f with
  | next =>
   obtain ⟨σ3,H3,I3,n3⟩:=q3;obtain ⟨m',hm,w3⟩:=hN σ3 H3 n3;exact ⟨m',hm,σ3,H3,I3,w3⟩
  | cont =>
   obtain ⟨σ3,H3,I3,n3⟩:=q3;obtain ⟨m',hm,w3⟩:=hN σ3 H3 n3;exact ⟨m',hm,σ3,H3,I3,w3⟩
  | brk=>exact q3
  | ret v=>exact q3
 | false =>
  rw [if_neg Bool.false_ne_true];exact wpAny_execs_nil ⟨σ1,H2,I2,q2⟩
end

structure It where
 go:Nat->Hp->Prop
 yld:Nat->Hp->V->Hp->Prop
 stop:Nat->Hp->Prop
def zLd (X:Cx) (pins:List (Addr × Obj)) (H:Hp) (b:Addr):Prop :=
 H b = none/\b≠X.env.locals/\b ∉ X.fs/\(b∈X.ex\/X.s₀.heap.objs.size<=b)/\(∀ x c,X.env.cells.lookup x = some c->c≠b)/\∀ p∈X.pn ++ pins,p.1≠b
theorem Inv.fpOk {X:Cx} {pins:List (Addr × Obj)} {σ:St} {H H':Hp} {s:Shared} {b:Addr} (I:Inv X pins σ H s) (hb:s.heap.objs.size<=b) (hn:H' b = none):zLd X pins H' b:=by
 refine ⟨hn,Nat.ne_of_gt (Nat.lt_of_lt_of_le I.lt hb),I.nofs hb,.inr (Nat.le_trans I.sz hb),λx c e z=>?_,λp hp z=>?_⟩
 ·obtain ⟨v,q⟩:=I.cell x c e;exact absurd (Nat.lt_of_lt_of_le q.lt (by rw [z]; exact hb)) (Nat.lt_irrefl _)
 ·exact absurd (Nat.lt_of_lt_of_le (Heap.lt_size (I.pin p hp).1) (by rw [z]; exact hb)) (Nat.lt_irrefl _)
structure zTz (P:Program) (w:World) (K:PySem.W.Frag) (tg:Expr) (J:It) (fp:List Addr) (it:Addr) (tn:Nat->Heap->Prop):Prop where
 mem:it∈fp
 obj:∀ i h,tn i h->∀ b∈fp,∃ o,h.get? b = some o/\∀ v,o.data≠.cell v
 keep:∀ i h h',tn i h->(∀ b∈fp,∀ o,h.get? b = some o->h'.get? b = some o)->tn i h'
 item:∀ (X:Cx),X.prog = P->X.w = w->X.K = K->X.calm = true->∀ (i:Nat) (pins:List (Addr × Obj)) (s:Shared) (σ:St) (H:Hp) (E:Value->Shared->Prop),Inv X pins σ H s->(∀ b∈fp,zLd X pins H b)->tn i s.heap->J.go i H ->
  wpAny (model P w) X.A (pyNext (.ref it)) (λr s1=>∃ u,r = some u /\
   wpAny (model P w) X.A (letOwnedTupleGo tg (.ref it) u) (λ_ s2=>∃ x H',Inv X pins σ H' s2/\uN x u/\J.yld i H x H'/\tn (i + 1) s2.heap/\∀ b∈fp,H' b = none) E s1) E s
 done:∀ (X:Cx),X.prog = P->X.w = w->X.K = K->X.calm = true->∀ (i:Nat) (pins:List (Addr × Obj)) (s:Shared) (σ:St) (H:Hp) (E:Value->Shared->Prop),Inv X pins σ H s->(∀ b∈fp,zLd X pins H b)->tn i s.heap->J.stop i H ->
  wpAny (model P w) X.A (pyNext (.ref it)) (λr s1=>r = none/\Inv X pins σ H s1) E s
 self:∀ (A:Around) (i:Nat) (s:Shared) (Q:Value->Shared->Prop) (E:Value->Shared->Prop),tn i s.heap->Q (.ref it) s->wpAny (model P w) A (pyIter (.ref it)) Q E s
abbrev TI:=St->Hp->(It->Hp->Prop)->Prop
def PIE (X:Cx) (pins:List (Addr × Obj)) (σ:St) (tg:Expr) (R:It->Hp->Prop) (itv:Value) (s2:Shared):Prop :=
 ∃ (it:Addr) (fp:List Addr) (tn:Nat->Heap->Prop) (J:It) (H':Hp),itv = .ref it/\Inv X pins σ H' s2/\zTz X.prog X.w X.K tg J fp it tn/\tn 0 s2.heap/\(∀ b∈fp,zLd X pins H' b)/\R J H'
def PI (X:Cx) (tg iter:Expr) (wi:TI):Prop :=
 ∀ (pins:List (Addr × Obj)) (s:Shared) (σ:St) (H:Hp) (R:It->Hp->Prop),Inv X pins σ H s->wi σ H R ->
  wpAny (model X.prog X.w) X.A (eval iter X.env) (λv s1=>wpAny (model X.prog X.w) X.A (pyIter v) (PIE X pins σ tg R) X.xe s1) X.xe s

theorem zO5 {M:Model} {A:Around} {E:Value->Shared->Prop} {s:Shared} {tg:Expr} {it:Addr} {u:Value} {o:Obj} {n:String} {vs:Array Value} {Q:Unit->Shared->Prop} (ho:s.heap.get? it = some o) (hc:o.cls = .type n) (hd:o.data = .fields vs)
  (hn:["enumerate", "zip", "dict_itemiterator", "dict_reverseitemiterator", "odict_iterator", "itertools.zip_longest", "itertools.pairwise"].contains n = false) (hQ:Q () s):wpAny M A (letOwnedTupleGo tg (.ref it) u) Q E s:=by
 unfold letOwnedTupleGo;cases tg <;> first
  | exact wpAny_pure hQ
  | (cases u <;> first
    | exact wpAny_pure hQ
    | (refine wpAny_bind (wpAny_load ho ?_)
       rw [hc,hd];show wpAny M A (if (["enumerate", "zip", "dict_itemiterator", "dict_reverseitemiterator", "odict_iterator", "itertools.zip_longest", "itertools.pairwise"].contains n && vs[0]? == some (rawInt _)) = true then _ else _) Q E s;rw [if_neg (by intro h; rw [hn,Bool.false_and] at h; cases h)];exact wpAny_pure hQ))

def Itl (K:PySem.W.Frag) (a:Addr):It :=
 ⟨λi H=>∃ xs x,SqL K H a xs/\xs[i]? = some x,λi H x H'=>H' = H/\∀ xs,SqL K H a xs->xs[i]? = some x,λi H=>∃ xs,SqL K H a xs/\xs.length<=i⟩
def Itt (K:PySem.W.Frag) (a:Addr):It :=
 ⟨λi H=>∃ xs x,SqT K H a xs/\xs[i]? = some x,λi H x H'=>H' = H/\∀ xs,SqT K H a xs->xs[i]? = some x,λi H=>∃ xs,SqT K H a xs/\xs.length<=i⟩
def Itr (lo:Int) (n:Nat):It:=⟨λi _=>i < n,λi H x H'=>H' = H/\x = .int (lo + i),λi _=>n<=i⟩
theorem zG2 {P:Program} {w:World} {K:PySem.W.Frag} {tg:Expr} (a it:Addr):zTz P w K tg (Itl K a) [it] it (λi h=>h.IsListIter it a i) where
 mem:=by simp
 obj:=λi h st b hb=>by
  have e:b = it:=by simpa using hb
  subst e;obtain ⟨o,e,c,d⟩:=st;exact ⟨o,e,λv z=>by rw [d] at z; cases z⟩
 keep:=λi h h' st k=>st.at λo e=>k it (by simp) o e
 item:=by
  intro X hP hw hK hc i pins s σ H E I hf st hg;subst hP hw hK;obtain ⟨xs,x,hq,hx⟩:=hg;obtain ⟨its,rv,p,hz⟩:=I.list hq;obtain ⟨u,hu,ru⟩:=rv.get hx;obtain ⟨f0,f1,f2,f3,f4,f5⟩:=hf it (by simp);refine wpAny_pyNext_list_item st p.isList (x:=u) (by simpa using hu) λh' st' sb=>?_;have I1:Inv X pins σ H { s with heap:=h' }:=I.turned (t':=s.toks) (λb o hb e=>(sb.2 b hb).trans e) f0 f1 f3 f4 f5;obtain ⟨o,e,c,d⟩:=id st';exact ⟨u,rfl,zO5 (s:={ s with heap:=h' }) e c d (by decide) ⟨x,H,I1,ru,⟨rfl,λys hy=>by rw [I.list_inj hy hq]; exact hx⟩,st',λb hb=>(hf b hb).1⟩⟩
 done:=by
  intro X hP hw hK hc i pins s σ H E I hf st hg;subst hP hw hK;obtain ⟨xs,hq,hx⟩:=hg;obtain ⟨its,rv,p,hz⟩:=I.list hq;obtain ⟨f0,f1,f2,f3,f4,f5⟩:=hf it (by simp);have hl:=rv.length;exact wpAny_pyNext_list_end (I.ok.hd hc) st p.isList (by simp; omega) λh' eb=>⟨rfl,I.turned (t':=s.toks) (λb o hb e=>eb b o hb e) f0 f1 f3 f4 f5⟩
 self:=λ_ _ _ _ _ st h=>wpAny_pyIter_listiter st h
theorem zJ9 {P:Program} {w:World} {K:PySem.W.Frag} {tg:Expr} (a it:Addr):zTz P w K tg (Itt K a) [it] it (λi h=>h.IsTupleIter it a i) where
 mem:=by simp
 obj:=λi h st b hb=>by
  have e:b = it:=by simpa using hb
  subst e;obtain ⟨o,e,c,d⟩:=st;exact ⟨o,e,λv z=>by rw [d] at z; cases z⟩
 keep:=λi h h' st k=>st.at λo e=>k it (by simp) o e
 item:=by
  intro X hP hw hK hc i pins s σ H E I hf st hg;subst hP hw hK;obtain ⟨xs,x,hq,hx⟩:=hg;obtain ⟨its,rv,p,hz⟩:=I.tuple hq;obtain ⟨u,hu,ru⟩:=rv.get hx;obtain ⟨f0,f1,f2,f3,f4,f5⟩:=hf it (by simp);refine wpAny_pyNext_tuple_item st (show s.heap.IsTuple a its.toArray from p) (x:=u) (by simpa using hu) λh' st' sb=>?_;have I1:Inv X pins σ H { s with heap:=h' }:=I.turned (t':=s.toks) (λb o hb e=>(sb.2 b hb).trans e) f0 f1 f3 f4 f5;obtain ⟨o,e,c,d⟩:=id st';exact ⟨u,rfl,zO5 (s:={ s with heap:=h' }) e c d (by decide) ⟨x,H,I1,ru,⟨rfl,λys hy=>by rw [I.tuple_inj hy hq]; exact hx⟩,st',λb hb=>(hf b hb).1⟩⟩
 done:=by
  intro X hP hw hK hc i pins s σ H E I hf st hg;subst hP hw hK;obtain ⟨xs,hq,hx⟩:=hg;obtain ⟨its,rv,p,hz⟩:=I.tuple hq;obtain ⟨f0,f1,f2,f3,f4,f5⟩:=hf it (by simp);have hl:=rv.length;exact wpAny_pyNext_tuple_end (I.ok.hd hc) st (show s.heap.IsTuple a its.toArray from p) (by simp; omega) λh' eb=>⟨rfl,I.turned (t':=s.toks) (λb o hb e=>eb b o hb e) f0 f1 f3 f4 f5⟩
 self:=λ_ _ _ _ _ st h=>wpAny_pyIter_tupleiter st h
theorem zK3 {P:Program} {w:World} {K:PySem.W.Frag} {tg:Expr} (it:Addr) (lo:Int) (n:Nat):zTz P w K tg (Itr lo n) [it] it (λi h=>IsRangeIter h it (lo + (i:Nat) * 1) ((n:Int) - (i:Nat)) 1) where
 mem:=by simp
 obj:=λi h st b hb=>by
  have e:b = it:=by simpa using hb
  subst e;exact ⟨_,st,λv z=>by
   have z':Data.fields _ = Data.cell v:=z;cases z'⟩
 keep:=λi h h' st k=>k it (by simp) _ st
 item:=by
  intro X hP hw hK hc i pins s σ H E I hf st hg;subst hP hw hK;obtain ⟨f0,f1,f2,f3,f4,f5⟩:=hf it (by simp);have W:=Walks.range (prog:=X.prog) (w:=X.w) (I.ok.hd hc) it lo 1 n;refine W.item i s _ _ hg st λv h' tk hv st' kk=>?_;obtain ⟨t,rfl⟩:=hv;have I1:Inv X pins σ H { s with heap:=h',toks:=tk }:=I.turned (λb o hb e=>kk b o (by simpa using hb) e) f0 f1 f3 f4 f5;refine ⟨_,rfl,zO5 (s:={ s with heap:=h',toks:=tk }) (n := "range_iterator") st' rfl rfl (by decide) ⟨.int (lo + i),H,I1,⟨t,?_⟩,⟨rfl,rfl⟩,st',λb hb=>(hf b hb).1⟩⟩;rw [Int.mul_one]
 done:=by
  intro X hP hw hK hc i pins s σ H E I hf st hg;subst hP hw hK;obtain ⟨f0,f1,f2,f3,f4,f5⟩:=hf it (by simp);exact wpAny_pyNext_range_end (I.ok.hd hc) st (by have:n<=i:=hg; omega) λh' eb=>⟨rfl,I.turned (t':=s.toks) (λb o hb e=>eb b o hb e) f0 f1 f3 f4 f5⟩
 self:=λ_ _ _ _ _ st h=>wpAny_pyIter_rangeiter st h
end L2

namespace L2
open PySem PySem.Spec PyProof.Rows
section
variable {X:Cx} {tg:Expr}
def iList (K:PySem.W.Frag) (tl:TE):TI:=λσ H R=>tl σ H λx H1=>∃ a,x = .ref a/\(∃ xs,SqL K H1 a xs)/\R (Itl K a) H1
theorem zIr {l:Expr} {tl:TE} (hl:PE X l tl):PI X tg l (iList X.K tl):=by
 intro pins s σ H R I h;refine thn (hl pins s σ H _ I h) λv s1 ⟨x,H1,I1,r1,q1⟩=>?_;obtain ⟨a,e,⟨xs,hq⟩,q⟩:=q1;subst e;cases r1;obtain ⟨its,rv,p,hz⟩:=I1.list hq;refine wpAny_pyIter_list p.isList ?_;refine ⟨s1.heap.objs.size,[s1.heap.objs.size],_,_,H1,rfl,I1.kept (t':=s1.toks) λb o e=>Heap.get?_push_of_some _ e,zG2 a _,⟨_,Heap.get?_push_size _ rfl,rfl,rfl⟩,λb hb=>?_,q⟩;have e:b = s1.heap.objs.size:=by simpa using hb
 subst e;exact I1.fpOk (Nat.le_refl _) (I1.hok.fresh (Nat.le_refl _))
theorem zI9 {pins:List (Addr × Obj)} {σ:St} {H:Hp} {s:Shared} {R:It->Hp->Prop} {E:Value->Shared->Prop} {lo hi:Int} {t u v:Tok} {tk:Nat} (I:Inv X pins σ H s) (h1 : -(2 ^ 62)<=lo) (h2:lo < 2 ^ 62) (h3 : -(2 ^ 62)<=hi) (h4:hi < 2 ^ 62)
  (q:R (Itr lo (hi - lo).toNat) H):wpAny (model X.prog X.w) X.A (pyIter (.ref s.heap.objs.size)) (PIE X pins σ tg R) E { s with heap:=s.heap.push { cls:=.type "range", data:=.fields #[.int lo t,.int hi u,.int 1 v] },toks:=tk }:=by
 refine wpAny_pyIter_range (IsRange.new ..) (small_one h1 h2 h3 h4) ?_;have I1:Inv X pins σ H { s with heap:=s.heap.push { cls:=.type "range", data:=.fields #[.int lo t,.int hi u,.int 1 v] },toks:=tk }:=I.kept λb o e=>Heap.get?_push_of_some _ e;refine ⟨(s.heap.push { cls:=.type "range", data:=.fields #[.int lo t,.int hi u,.int 1 v] }).objs.size,[(s.heap.push { cls:=.type "range", data:=.fields #[.int lo t,.int hi u,.int 1 v] }).objs.size],_,_,H,rfl,
  I1.kept (t':=tk) λb o e=>Heap.get?_push_of_some _ e,zK3 _ lo (hi - lo).toNat,?_,λb hb=>?_,q⟩
 ·have e1:lo + ((0:Nat):Int) * 1 = lo:=by simp
  have e2:(((hi - lo).toNat:Nat):Int) - ((0:Nat):Int) = Builtin.Range.rangeSize lo hi 1:=by rw [rangeSize_one]; split <;> omega
  show IsRangeIter _ _ (lo + ((0:Nat):Int) * 1) ((((hi - lo).toNat:Nat):Int) - ((0:Nat):Int)) 1;rw [e1,e2];exact Heap.get?_push_size _ rfl
 ·have e:b = (s.heap.push { cls:=.type "range", data:=.fields #[.int lo t,.int hi u,.int 1 v] }).objs.size:=by simpa using hb
  subst e;exact I1.fpOk (Nat.le_refl _) (I1.hok.fresh (Nat.le_refl _))
def iRng1 (ta:TA):TI:=λσ H R=>ta σ H λvs H1=>∃ j:Int,vs = [.int j]/\-(2 ^ 62)<=j/\j < 2 ^ 62/\R (Itr 0 j.toNat) H1
def iRng2 (ta:TA):TI:=λσ H R=>ta σ H λvs H1=>∃ i j:Int,vs = [.int i,.int j]/\(-(2 ^ 62)<=i/\i < 2 ^ 62/\-(2 ^ 62)<=j/\j < 2 ^ 62)/\R (Itr i (j - i).toNat) H1
theorem uG {a:Expr} {ta:TA} {p pos:Pos} (hg:Gl X "range") (hm:X.mg "range" = none) (ha:PA X [a] ta) (hs:starEach [a] X.env = [(false,eval a X.env)]:=by rfl):PI X tg (.Call (.Name "range" p) [a] [] pos) (iRng1 ta):=by
 intro pins s σ H R I h;refine Call_ (zE2 I hg hm boot_range (PyProof.Rows.callWith_type1 (thn (ha pos pins s σ H _ I h) λus s1 ⟨vs,H1,I1,r1,q1⟩=>?_) hs rfl));obtain ⟨j,e,q1,q2,q⟩:=q1;subst e;cases r1 with
 | cons r rr =>
  cases rr;obtain ⟨t,rfl⟩:=r;exact call_range_1 (zI9 I1 (by omega) (by omega) q1 q2 (by simpa using q))
theorem zLr {a b:Expr} {ta:TA} {p pos:Pos} (hg:Gl X "range") (hm:X.mg "range" = none) (ha:PA X [a,b] ta) (hs:starEach [a,b] X.env = [(false,eval a X.env),(false,eval b X.env)]:=by rfl) (hs2:starEach [b] X.env = [(false,eval b X.env)]:=by rfl) :
  PI X tg (.Call (.Name "range" p) [a,b] [] pos) (iRng2 ta):=by
 intro pins s σ H R I h;refine Call_ (zE2 I hg hm boot_range (PyProof.Rows.callWith_type1 (thn (ha pos pins s σ H _ I h) λus s1 ⟨vs,H1,I1,r1,q1⟩=>?_) (by rw [hs,hs2]) (by rw [hs2]; rfl)));obtain ⟨i,j,e,⟨q1,q2,q3,q4⟩,q⟩:=q1;subst e;cases r1 with
 | cons r rr =>
  cases rr with
  | cons r' rr =>
   cases rr;obtain ⟨t,rfl⟩:=r;obtain ⟨t',rfl⟩:=r';exact call_range_2 (zI9 I1 q1 q2 q3 q4 q)

def tFor (wi:TI) (g:TG) (tb:TS):TS:=λD σ H=>wi σ H λJ H1=>∃ W:Nat->Nat->St->Hp->Prop,(∃ m,W 0 m σ H1)/\∀ i m σ H,W i m σ H ->
 (J.stop i H/\D.nx σ H)\/(J.go i H/\∃ N:St->Hp->Prop,(∀ σ' H',N σ' H'->∃ m',m' < m/\W (i + 1) m' σ' H')/\∀ x H',J.yld i H x H'->g x σ H' λσ2 H2=>tb { D with nx:=N,ct:=N,bk:=D.nx } σ2 H2)
def zC9 (fp:List Addr) (h:Heap):List (Addr × Obj):=fp.filterMap λb=>(h.get? b).map λo=>(b,o)
theorem uA {fp:List Addr} {h:Heap} {b:Addr} {o:Obj} (hb:b∈fp) (e:h.get? b = some o):(b,o)∈zC9 fp h:=List.mem_filterMap.mpr ⟨b,hb,by rw [e]; rfl⟩
theorem zN1 {fp:List Addr} {h:Heap} {p:Addr × Obj} (hp:p∈zC9 fp h):p.1∈fp/\h.get? p.1 = some p.2:=by
 obtain ⟨b,hb,e⟩:=List.mem_filterMap.mp hp;cases q:h.get? b with
 | none=>rw [q] at e; cases e
 | some o =>
  rw [q] at e;have e':(b,o) = p:=Option.some.inj e;subst e';exact ⟨hb,q⟩
theorem Inv.pinned {pins:List (Addr × Obj)} {σ:St} {H:Hp} {s:Shared} {fp:List Addr} (I:Inv X pins σ H s) (hf:∀ b∈fp,zLd X pins H b) (ho:∀ b∈fp,∃ o,s.heap.get? b = some o/\∀ v,o.data≠.cell v):Inv X (pins ++ zC9 fp s.heap) σ H s :=
 I.pins_of λp hp=>(List.mem_append.mp hp).elim (λz=>I.pin p (List.mem_append_right _ z)) λz=>by
  obtain ⟨hb,e⟩:=zN1 z;obtain ⟨f0,f1,f2,_⟩:=hf p.1 hb;obtain ⟨o,e',d⟩:=ho p.1 hb;rw [e] at e'; cases e';exact ⟨e,f0,f1,f2,d⟩
theorem Inv.unpinned {pins pl:List (Addr × Obj)} {σ:St} {H:Hp} {s:Shared} (I:Inv X (pins ++ pl) σ H s):Inv X pins σ H s:=I.pins_of λp hp=>I.pin p (List.mem_append_right _ (List.mem_append_left _ hp))
theorem wD {iter:Expr} {body:List Stmt} {wi:TI} {g:TG} {tb:TS} {pos:Pos} (hp:PassesOwn (model X.prog X.w) X.A X.env X.xe) (hc:X.calm = true) (hi:PI X tg iter wi) (hg:PG X tg g) (hb:PSs X body tb)
  (hs:∀ x,foldedSetIterable iter X.env x = pure x:=by intro _; rfl):PS X (.For tg iter body [] pos) (tFor wi g tb):=by
 intro pins s σ H D I h;refine wpAny_For (thn (hi pins s σ H _ I h) λv s1 h1=>thn h1 λitv s2 h2=>?_) hs;obtain ⟨it,fp,tn,J,H2,e,I2,T,st2,f2,W,⟨m0,w0⟩,turn⟩:=h2;subst e;have stat:∀ {H':Hp},(∀ b∈fp,H' b = none)->∀ b∈fp,zLd X pins H' b:=λhn b hb=>⟨hn b hb,(f2 b hb).2⟩;refine codeAny_forLoop_any (λn s'=>∃ i σ' H',Inv X pins σ' H' s'/\tn i s'.heap/\(∀ b∈fp,H' b = none)/\W i n σ' H') ?_ m0 ⟨0,σ,H2,I2,st2,λb hb=>(f2 b hb).1,w0⟩;rintro n s3 ⟨i,σ3,H3,I3,st3,fr3,w3⟩;rcases turn i n σ3 H3 w3 with ⟨stop,qn⟩ | ⟨go,N,hN,step⟩
 ·refine wpAny_passesOwn hp (thn (T.done X rfl rfl rfl hc i pins s3 σ3 H3 X.xe I3 (stat fr3) st3 stop) λr s4 ⟨hr,I4⟩=>?_);subst hr;exact wpAny_execs_nil ⟨σ3,H3,I4,qn⟩
 ·refine wpAny_passesOwn hp (thn (T.item X rfl rfl rfl hc i pins s3 σ3 H3 X.xe I3 (stat fr3) st3 go) λr s4 ⟨u,hr,h4⟩=>?_);subst hr;refine wpAny_passesOwn hp (thn h4 λ_ s5 ⟨x,H5,I5,r5,y5,st5,fr5⟩=>?_);have I5':=I5.pinned (stat fr5) (T.obj _ _ st5);refine wpAny_passesOwn hp (thn (hg _ s5 σ3 H5 x u _ I5' r5 (step x H5 y5)) λ_ s6 ⟨σ6,H6,I6,q6⟩=>?_);refine wpAny_passesOwn hp (thn (hb _ s6 σ6 H6 _ I6 q6) λf s7 q7=>?_);have again:∀ {σ7:St} {H7:Hp},Inv X (pins ++ zC9 fp s5.heap) σ7 H7 s7->N σ7 H7->∃ m,m < n/\∃ i σ' H',Inv X pins σ' H' s7/\tn i s7.heap/\(∀ b∈fp,H' b = none)/\W i m σ' H':=λ{σ7 H7} I7 n7=>by
   obtain ⟨m',hm,w7⟩:=hN σ7 H7 n7;refine ⟨m',hm,i + 1,σ7,H7,I7.unpinned,T.keep _ _ _ st5 λb hb o e=>(I7.pin (b,o) (List.mem_append_right _ (List.mem_append_right _ (uA hb e)))).1,λb hb=>?_,w7⟩;obtain ⟨o,e,d⟩:=T.obj _ _ st5 b hb;exact (I7.pin (b,o) (List.mem_append_right _ (List.mem_append_right _ (uA hb e)))).2.1
  cases f with
  | next=>obtain ⟨σ7,H7,I7,n7⟩:=q7; exact again I7 n7
  | cont=>obtain ⟨σ7,H7,I7,n7⟩:=q7; exact again I7 n7
  | brk=>obtain ⟨σ7,H7,I7,q7⟩:=q7; exact ⟨σ7,H7,I7.unpinned,q7⟩
  | ret v=>obtain ⟨x7,σ7,H7,I7,r7,q7⟩:=q7; exact ⟨x7,σ7,H7,I7.unpinned,r7,q7⟩
end

theorem xL {K:PySem.W.Frag} {a:Addr} {xs:List V} {g:TG} {tb:TS} {D:zPp} {σ:St} {H:Hp} (Pv:Nat->St->Hp->Prop) (h0:Pv 0 σ H) (hl:∀ i σ H,i<=xs.length->Pv i σ H->SqL K H a xs)
  (hs:∀ i x σ H,xs[i]? = some x->Pv i σ H->g x σ H λσ2 H2=>tb { D with nx:=Pv (i + 1),ct:=Pv (i + 1),bk:=D.nx } σ2 H2) (hd:∀ σ H,Pv xs.length σ H->D.nx σ H) :
  ∃ W:Nat->Nat->St->Hp->Prop,(∃ m,W 0 m σ H)/\∀ i m σ H,W i m σ H ->
   ((Itl K a).stop i H/\D.nx σ H)\/((Itl K a).go i H/\∃ N:St->Hp->Prop,(∀ σ' H',N σ' H'->∃ m',m' < m/\W (i + 1) m' σ' H')/\∀ x H',(Itl K a).yld i H x H'->g x σ H' λσ2 H2=>tb { D with nx:=N,ct:=N,bk:=D.nx } σ2 H2):=by
 refine ⟨λi m σ H=>m = xs.length - i/\i<=xs.length/\Pv i σ H,⟨xs.length,by simp,Nat.zero_le _,h0⟩,?_⟩;rintro i m σ H ⟨rfl,hi,p⟩;have q:=hl i σ H hi p;by_cases hlt:i < xs.length
 ·refine .inr ⟨⟨xs,xs[i],q,by simp [hlt]⟩,Pv (i + 1),λσ' H' p'=>⟨xs.length - (i + 1),by omega,rfl,hlt,p'⟩,λx H' y=>?_⟩;obtain ⟨e,y⟩:=y;subst e;exact hs i x σ _ (y xs q) p
 ·have e:i = xs.length:=by omega
  subst e;exact .inl ⟨⟨xs,q,Nat.le_refl _⟩,hd σ H p⟩
theorem zRy {K:PySem.W.Frag} {a:Addr} {xs:List V} {g:TG} {tb:TS} {D:zPp} {σ:St} {H:Hp} (Pv:Nat->St->Hp->Prop) (h0:Pv 0 σ H) (hl:∀ i σ H,i<=xs.length->Pv i σ H->SqT K H a xs)
  (hs:∀ i x σ H,xs[i]? = some x->Pv i σ H->g x σ H λσ2 H2=>tb { D with nx:=Pv (i + 1),ct:=Pv (i + 1),bk:=D.nx } σ2 H2) (hd:∀ σ H,Pv xs.length σ H->D.nx σ H) :
  ∃ W:Nat->Nat->St->Hp->Prop,(∃ m,W 0 m σ H)/\∀ i m σ H,W i m σ H ->
   ((Itt K a).stop i H/\D.nx σ H)\/((Itt K a).go i H/\∃ N:St->Hp->Prop,(∀ σ' H',N σ' H'->∃ m',m' < m/\W (i + 1) m' σ' H')/\∀ x H',(Itt K a).yld i H x H'->g x σ H' λσ2 H2=>tb { D with nx:=N,ct:=N,bk:=D.nx } σ2 H2):=by
 refine ⟨λi m σ H=>m = xs.length - i/\i<=xs.length/\Pv i σ H,⟨xs.length,by simp,Nat.zero_le _,h0⟩,?_⟩;rintro i m σ H ⟨rfl,hi,p⟩;have q:=hl i σ H hi p;by_cases hlt:i < xs.length
 ·refine .inr ⟨⟨xs,xs[i],q,by simp [hlt]⟩,Pv (i + 1),λσ' H' p'=>⟨xs.length - (i + 1),by omega,rfl,hlt,p'⟩,λx H' y=>?_⟩;obtain ⟨e,y⟩:=y;subst e;exact hs i x σ _ (y xs q) p
 ·have e:i = xs.length:=by omega
  subst e;exact .inl ⟨⟨xs,q,Nat.le_refl _⟩,hd σ H p⟩
theorem tH {lo:Int} {n:Nat} {g:TG} {tb:TS} {D:zPp} {σ:St} {H:Hp} (Pv:Nat->St->Hp->Prop) (h0:Pv 0 σ H)
  (hs:∀ i σ H,i < n->Pv i σ H->g (.int (lo + i)) σ H λσ2 H2=>tb { D with nx:=Pv (i + 1),ct:=Pv (i + 1),bk:=D.nx } σ2 H2) (hd:∀ σ H,Pv n σ H->D.nx σ H) :
  ∃ W:Nat->Nat->St->Hp->Prop,(∃ m,W 0 m σ H)/\∀ i m σ H,W i m σ H ->
   ((Itr lo n).stop i H/\D.nx σ H)\/((Itr lo n).go i H/\∃ N:St->Hp->Prop,(∀ σ' H',N σ' H'->∃ m',m' < m/\W (i + 1) m' σ' H')/\∀ x H',(Itr lo n).yld i H x H'->g x σ H' λσ2 H2=>tb { D with nx:=N,ct:=N,bk:=D.nx } σ2 H2):=by
 refine ⟨λi m σ H=>m = n - i/\i<=n/\Pv i σ H,⟨n,by simp,Nat.zero_le _,h0⟩,?_⟩;rintro i m σ H ⟨rfl,hi,p⟩;by_cases hlt:i < n
 ·refine .inr ⟨hlt,Pv (i + 1),λσ' H' p'=>⟨n - (i + 1),by omega,rfl,hlt,p'⟩,λx H' y=>?_⟩;obtain ⟨e,y⟩:=y;subst e y;exact hs i σ _ hlt p
 ·have e:i = n:=by omega
  subst e;exact .inl ⟨Nat.le_refl _,hd σ H p⟩
theorem zBf {c:TT} {tb:TS} {D:zPp} {σ:St} {H:Hp} (Pv:St->Hp->Prop) (μ:St->Hp->Nat) (h0:Pv σ H)
  (hs:∀ σ H,Pv σ H->c σ H λb H1=>if b = true then tb { D with nx:=λσ' H'=>Pv σ' H'/\μ σ' H' < μ σ H,ct:=λσ' H'=>Pv σ' H'/\μ σ' H' < μ σ H,bk:=D.nx } σ H1 else D.nx σ H1)
  (mono:∀ σ H Q Q',(∀ b H1,Q b H1->Q' b H1)->c σ H Q->c σ H Q'):zP9 c tb D σ H:=by
 refine ⟨λm σ H=>m = μ σ H/\Pv σ H,⟨_,rfl,h0⟩,?_⟩;rintro m σ H ⟨rfl,p⟩;refine mono σ H _ _ (λb H1 q=>?_) (hs σ H p);cases b with
 | true=>exact ⟨_,λσ' H' ⟨p',l⟩=>⟨_,l,rfl,p'⟩,q⟩
 | false=>exact q
end L2

namespace L2
open PySem PySem.Spec PyProof.Rows

abbrev R2:=V->V->Hp->VK->Prop
def OpR (X:Cx) (f:Value->Value->Sem Value) (r:R2):Prop :=
 ∀ (pins:List (Addr × Obj)) (s:Shared) (σ:St) (H:Hp) (x y:V) (v u:Value) (Q:VK),Inv X pins σ H s->uN x v->uN y u->r x y H Q ->
  wpAny (model X.prog X.w) X.A (f v u) (EP X pins σ Q) X.xe s
def UnR (X:Cx) (f:Value->Sem Value) (r:V->Hp->VK->Prop):Prop :=
 ∀ (pins:List (Addr × Obj)) (s:Shared) (σ:St) (H:Hp) (x:V) (v:Value) (Q:VK),Inv X pins σ H s->uN x v->r x H Q ->
  wpAny (model X.prog X.w) X.A (f v) (EP X pins σ Q) X.xe s
def zB2 (X:Cx) (f:Value) (r:List V->Hp->VK->Prop):Prop :=
 ∀ (pins:List (Addr × Obj)) (s:Shared) (σ:St) (H:Hp) (xs:List V) (us:List Value) (Q:VK),Inv X pins σ H s->xI xs us->r xs H Q ->
  wpAny (model X.prog X.w) X.A (call f us) (EP X pins σ Q) X.xe s
def TruR (X:Cx) (r:V->Hp->(Bool->Hp->Prop)->Prop):Prop :=
 ∀ (pins:List (Addr × Obj)) (s:Shared) (σ:St) (H:Hp) (x:V) (v:Value) (Q:Bool->Hp->Prop),Inv X pins σ H s->uN x v->r x H Q ->
  wpAny (model X.prog X.w) X.A (truthy v) (TP X pins σ Q) X.xe s

def tOp (r:R2) (ta tb:TE):TE:=λσ H Q=>ta σ H λx H1=>tb σ H1 λy H2=>r x y H2 Q
def tUn (r:V->Hp->VK->Prop) (ta:TE):TE:=λσ H Q=>ta σ H λx H1=>r x H1 Q
inductive RI (C:Int->Int->Prop) (g:Int->Int->V) (x y:V) (H:Hp) (Q:VK):Prop where
 | mk (i j:Int) (ex:x = .int i) (ey:y = .int j) (c:C i j) (q:Q (g i j) H)
def rI (C:Int->Int->Prop) (g:Int->Int->V):R2:=λx y H Q=>RI C g x y H Q
inductive RI0 (g:Int->Int->V) (x y:V) (H:Hp) (Q:VK):Prop where
 | mk (i j:Int) (ex:x = .int i) (ey:y = .int j) (q:Q (g i j) H)
def rI0 (g:Int->Int->V):R2:=λx y H Q=>RI0 g x y H Q
inductive RU (g:Int->V) (x:V) (H:Hp) (Q:VK):Prop where
 | mk (i:Int) (ex:x = .int i) (q:Q (g i) H)
def rU (g:Int->V):V->Hp->VK->Prop:=λx H Q=>RU g x H Q

section
variable {X:Cx} {a b c:Expr} {ta tb tc:TE} {pos:Pos}

theorem zUg (ha:PE X a ta) (hb:PE X b tb) {pins:List (Addr × Obj)} {s:Shared} {σ:St} {H:Hp} {R:V->V->Hp->Prop} (I:Inv X pins σ H s)
  (h:ta σ H λx H1=>tb σ H1 λy H2=>R x y H2) {Q:Value->Shared->Prop} {f:Value->Value->Sem Value}
  (hf:∀ v u s2 x y H2,Inv X pins σ H2 s2->uN x v->uN y u->R x y H2->wpAny (model X.prog X.w) X.A (f v u) Q X.xe s2) :
  wpAny (model X.prog X.w) X.A (eval a X.env) (λv s₁=>wpAny (model X.prog X.w) X.A (eval b X.env) (λu s₂=>wpAny (model X.prog X.w) X.A (f v u) Q X.xe s₂) X.xe s₁) X.xe s:=by
 refine thn (ha pins s σ H _ I h) λv s1 ⟨x,H1,I1,r1,q1⟩=>?_;refine thn (hb pins s1 σ H1 _ I1 q1) λu s2 ⟨y,H2,I2,r2,q2⟩=>?_;exact hf v u s2 x y H2 I2 r1 r2 q2

theorem zN {op:Operator} {r:R2} (ho:OpR X (binaryOp op) r) (ha:PE X a ta) (hb:PE X b tb):PE X (.BinOp a op b pos) (tOp r ta tb):=by
 intro pins s σ H Q I h;exact wpAny_BinOp (zUg ha hb I h λv u s2 x y H2 I2 rx ry q=>ho pins s2 σ H2 x y v u Q I2 rx ry q)
theorem zKq {op:UnaryOp} {r:V->Hp->VK->Prop} (ho:UnR X (unaryOp op) r) (ha:PE X a ta):PE X (.UnaryOp op a pos) (tUn r ta):=by
 intro pins s σ H Q I h;exact UnaryOp_ (thn (ha pins s σ H _ I h) λv s1 ⟨x,H1,I1,r1,q1⟩=>ho pins s1 σ H1 x v Q I1 r1 q1)
theorem opI {f:Value->Value->Sem Value} {C:Int->Int->Prop} {g:Int->Int->Int}
  (rule:∀ (i j:Int) (t u:Tok) (s:Shared) (Q:Value->Shared->Prop) (E:Value->Shared->Prop),C i j->Q (.int (g i j) s.toks) { s with toks:=s.toks + 1 }->wpAny (model X.prog X.w) X.A (f (.int i t) (.int j u)) Q E s) :
  OpR X f (rI C λi j=>.int (g i j)):=by
 intro pins s σ H x y v u Q I rx ry h;obtain ⟨i,j,rfl,rfl,hc,q⟩:=h;obtain ⟨t,rfl⟩:=rx;obtain ⟨t',rfl⟩:=ry;exact rule i j t t' s _ _ hc ⟨.int (g i j),H,I.tok _,⟨_,rfl⟩,q⟩
theorem opI0 {f:Value->Value->Sem Value} {g:Int->Int->Int}
  (rule:∀ (i j:Int) (t u:Tok) (s:Shared) (Q:Value->Shared->Prop) (E:Value->Shared->Prop),Q (.int (g i j) s.toks) { s with toks:=s.toks + 1 }->wpAny (model X.prog X.w) X.A (f (.int i t) (.int j u)) Q E s) :
  OpR X f (rI0 λi j=>.int (g i j)):=by
 intro pins s σ H x y v u Q I rx ry h;obtain ⟨i,j,rfl,rfl,q⟩:=h;obtain ⟨t,rfl⟩:=rx;obtain ⟨t',rfl⟩:=ry;exact rule i j t t' s _ _ ⟨.int (g i j),H,I.tok _,⟨_,rfl⟩,q⟩
theorem zUj {f:Value->Value->Sem Value} {g:Int->Int->Bool}
  (rule:∀ (i j:Int) (t u:Tok) (s:Shared) (Q:Value->Shared->Prop) (E:Value->Shared->Prop),Q (.bool (g i j)) s->wpAny (model X.prog X.w) X.A (f (.int i t) (.int j u)) Q E s) :
  OpR X f (rI0 λi j=>.bl (g i j)):=by
 intro pins s σ H x y v u Q I rx ry h;obtain ⟨i,j,rfl,rfl,q⟩:=h;obtain ⟨t,rfl⟩:=rx;obtain ⟨t',rfl⟩:=ry;exact rule i j t t' s _ _ ⟨.bl (g i j),H,I,rfl,q⟩

def CPow (i j:Int):Prop:=0<=j/\j<=1000000/\i.natAbs < 2 ^ 64
def zSj (i j:Int):Prop:=(-(2 ^ 64) < i/\i < 2 ^ 64)\/(-(2 ^ 64) < j/\j < 2 ^ 64)
theorem zSj.ok {i j:Int} (h:zSj i j):IntMulOk i j:=by
 rcases h with ⟨h1,h2⟩ | ⟨h1,h2⟩
 ·exact .of_left (intBits_le_64 h1 h2)
 ·exact .of_right (intBits_le_64 h1 h2)
theorem xO:OpR X (binaryOp .Add) (rI0 λi j=>.int (i + j)):=opI0 λ_ _ _ _ _ _ _ q=>add_int q
theorem xZ:OpR X (binaryOp .Sub) (rI0 λi j=>.int (i - j)):=opI0 λ_ _ _ _ _ _ _ q=>sub_int q
theorem yM:OpR X (binaryOp .Mult) (rI zSj λi j=>.int (i * j)):=opI λ_ _ _ _ _ _ _ hc q=>mul_int q hc.ok
theorem yQ:OpR X (binaryOp .Mod) (rI (λ_ j=>0 < j) λi j=>.int (i % j)):=opI λi j _ _ _ _ _ hc q=>by
 have h1:(0:Int) < j:=hc;exact mod_int' (by omega) (by rw [Int.fmod_eq_emod_of_nonneg i (by omega)]; exact q)
theorem zNv:OpR X (binaryOp .Pow) (rI CPow λi j=>.int (i ^ j.toNat)):=opI λ_ _ _ _ _ _ _ hc q=>pow_int_small hc.1 hc.2.1 hc.2.2 q
theorem unI {f:Value->Sem Value} {g:Int->Int}
  (rule:∀ (i:Int) (t:Tok) (s:Shared) (Q:Value->Shared->Prop) (E:Value->Shared->Prop),Q (.int (g i) s.toks) { s with toks:=s.toks + 1 }->wpAny (model X.prog X.w) X.A (f (.int i t)) Q E s) :
  UnR X f (rU λi=>.int (g i)):=by
 intro pins s σ H x v Q I rx h;obtain ⟨i,rfl,q⟩:=h;obtain ⟨t,rfl⟩:=rx;exact rule i t s _ _ ⟨.int (g i),H,I.tok _,⟨_,rfl⟩,q⟩
theorem zE8:UnR X (unaryOp .USub) (rU λi=>.int (-i)):=unI λ_ _ _ _ _ q=>neg_int q
end

def scal:V->V->Bool
 | .non,.non=>true | .non,.int _=>true | .int _,.non=>true | .non,.bl _=>true | .bl _,.non=>true | .non,.str _=>true | .str _,.non=>true
 | .int _,.int _=>true | .bl _,.bl _=>true | .str _,.str _=>true | .byt _,.byt _=>true
 | .int _,.str _=>true | .str _,.int _=>true | .bl _,.str _=>true | .str _,.bl _=>true
 | _,_=>false
def rEq:R2:=λx y H Q=>scal x y = true/\Q (.bl (decide (x = y))) H
def rNe:R2:=λx y H Q=>scal x y = true/\Q (.bl (!decide (x = y))) H

theorem zL8 {i j:Int} : decide (V.int i = V.int j) = (i == j):=by
 rw [Bool.eq_iff_iff];simp
theorem zQn {i j:Bool} : decide (V.bl i = V.bl j) = (i == j):=by
 rw [Bool.eq_iff_iff];simp
theorem zNj {i j:Str} : decide (V.str i = V.str j) = (i == j):=by
 rw [Bool.eq_iff_iff];simp
theorem zMf {i j:Array UInt8} : decide (V.byt i = V.byt j) = (i.toList == j.toList):=by
 rw [Bool.eq_iff_iff];cases i;cases j;simp

section
variable {X:Cx} {a b c:Expr} {ta tb tc:TE} {pos:Pos}
theorem yU {pins:List (Addr × Obj)} {σ:St} {H:Hp} {s:Shared} {Q:VK} {k k':Bool} (I:Inv X pins σ H s) (q:Q (.bl k) H) (e:k = k'):EP X pins σ Q (.bool k') s:=by
 subst e;exact ⟨.bl k,H,I,rfl,q⟩
theorem tX:OpR X (compareOp .Eq) rEq:=by
 intro pins s σ H x y v u Q I rx ry h;obtain ⟨hs,q⟩:=h;cases x with
 | non =>
  cases rx;cases y with
  | non=>cases ry; exact PySem.EqNone.eq_none_none (yU I q (by simp))
  | bl j=>cases ry; exact PySem.EqNone.eq_none_bool (yU I q (by simp))
  | int j=>obtain ⟨t',rfl⟩:=ry; exact PySem.EqNone.eq_none_int (yU I q (by simp))
  | str j=>obtain ⟨t',rfl⟩:=ry; exact PySem.EqNone.eq_none_str (yU I q (by simp))
  | _=>exact absurd (show false = true from hs) Bool.false_ne_true
 | bl i =>
  cases rx;cases y with
  | non=>cases ry; exact PySem.EqNone.eq_bool_none (yU I q (by simp))
  | bl j=>cases ry; exact eq_bool (yU I q zQn)
  | str j=>obtain ⟨t',rfl⟩:=ry; exact PySem.EqMixed.eq_bool_str (yU I q (by simp))
  | _=>exact absurd (show false = true from hs) Bool.false_ne_true
 | int i =>
  obtain ⟨t,rfl⟩:=rx;cases y with
  | non=>cases ry; exact PySem.EqNone.eq_int_none (yU I q (by simp))
  | int j=>obtain ⟨t',rfl⟩:=ry; exact eq_int (yU I q zL8)
  | str j=>obtain ⟨t',rfl⟩:=ry; exact PySem.EqMixed.eq_int_str (yU I q (by simp))
  | _=>exact absurd (show false = true from hs) Bool.false_ne_true
 | str i =>
  obtain ⟨t,rfl⟩:=rx;cases y with
  | non=>cases ry; exact PySem.EqNone.eq_str_none (yU I q (by simp))
  | bl j=>cases ry; exact PySem.EqMixed.eq_str_bool (yU I q (by simp))
  | int j=>obtain ⟨t',rfl⟩:=ry; exact PySem.EqMixed.eq_str_int (yU I q (by simp))
  | str j=>obtain ⟨t',rfl⟩:=ry; exact eq_str (yU I q zNj)
  | _=>exact absurd (show false = true from hs) Bool.false_ne_true
 | byt i =>
  obtain ⟨t,rfl⟩:=rx;cases y with
  | byt j=>obtain ⟨t',rfl⟩:=ry; exact PySem.W.eq_bytes (yU I q zMf)
  | _=>exact absurd (show false = true from hs) Bool.false_ne_true
 | _=>cases y <;> exact absurd (show false = true from hs) Bool.false_ne_true
theorem zRr:OpR X (compareOp .NotEq) rNe:=by
 intro pins s σ H x y v u Q I rx ry h;obtain ⟨hs,q⟩:=h;cases x with
 | non =>
  cases rx;cases y with
  | non=>cases ry; exact PySem.EqNone.ne_none_none (yU I q (by simp))
  | bl j=>cases ry; exact PySem.EqNone.ne_none_bool (yU I q (by simp))
  | int j=>obtain ⟨t',rfl⟩:=ry; exact PySem.EqNone.ne_none_int (yU I q (by simp))
  | str j=>obtain ⟨t',rfl⟩:=ry; exact PySem.EqNone.ne_none_str (yU I q (by simp))
  | _=>exact absurd (show false = true from hs) Bool.false_ne_true
 | bl i =>
  cases rx;cases y with
  | non=>cases ry; exact PySem.EqNone.ne_bool_none (yU I q (by simp))
  | bl j=>cases ry; exact ne_bool (yU I q (congrArg not zQn))
  | str j=>obtain ⟨t',rfl⟩:=ry; exact PySem.EqMixed.ne_bool_str (yU I q (by simp))
  | _=>exact absurd (show false = true from hs) Bool.false_ne_true
 | int i =>
  obtain ⟨t,rfl⟩:=rx;cases y with
  | non=>cases ry; exact PySem.EqNone.ne_int_none (yU I q (by simp))
  | int j=>obtain ⟨t',rfl⟩:=ry; exact ne_int (yU I q (congrArg not zL8))
  | str j=>obtain ⟨t',rfl⟩:=ry; exact PySem.EqMixed.ne_int_str (yU I q (by simp))
  | _=>exact absurd (show false = true from hs) Bool.false_ne_true
 | str i =>
  obtain ⟨t,rfl⟩:=rx;cases y with
  | non=>cases ry; exact PySem.EqNone.ne_str_none (yU I q (by simp))
  | bl j=>cases ry; exact PySem.EqMixed.ne_str_bool (yU I q (by simp))
  | int j=>obtain ⟨t',rfl⟩:=ry; exact PySem.EqMixed.ne_str_int (yU I q (by simp))
  | str j=>obtain ⟨t',rfl⟩:=ry; exact ne_str (yU I q (congrArg not zNj))
  | _=>exact absurd (show false = true from hs) Bool.false_ne_true
 | byt i =>
  obtain ⟨t,rfl⟩:=rx;cases y with
  | byt j=>obtain ⟨t',rfl⟩:=ry; exact PySem.W.ne_bytes (yU I q (congrArg not zMf))
  | _=>exact absurd (show false = true from hs) Bool.false_ne_true
 | _=>cases y <;> exact absurd (show false = true from hs) Bool.false_ne_true

theorem zGq:OpR X (compareOp .Lt) (rI0 λi j=>.bl (decide (i < j))):=zUj λ_ _ _ _ _ _ _ q=>lt_int q
theorem zQs:OpR X (compareOp .LtE) (rI0 λi j=>.bl (decide (i<=j))):=zUj λ_ _ _ _ _ _ _ q=>le_int q
theorem zC6:OpR X (compareOp .Gt) (rI0 λi j=>.bl (decide (j < i))):=zUj λ_ _ _ _ _ _ _ q=>gt_int q
theorem zB4:OpR X (compareOp .Is) (λx y H Q=>y = .non/\Q (.bl (decide (x = .non))) H):=by
 intro pins s σ H x y v u Q I rx ry h;obtain ⟨rfl,q⟩:=h;cases ry;refine is_none_gen (yU I q ?_);cases x <;> first
  | (cases rx; rfl)
  | (obtain ⟨t,rfl⟩:=rx; rfl)
theorem zAj:OpR X (compareOp .IsNot) (λx y H Q=>y = .non/\Q (.bl (!decide (x = .non))) H):=by
 intro pins s σ H x y v u Q I rx ry h;obtain ⟨rfl,q⟩:=h;cases ry;refine isnot_none_gen (yU I q ?_);cases x <;> first
  | (cases rx; rfl)
  | (obtain ⟨t,rfl⟩:=rx; rfl)

theorem zX (b:Expr) {op:CmpOp} (h:op≠.In:=by decide) (h2:op≠.NotIn:=by decide):behindInMarks op b = false:=by
 have e1:(op == CmpOp.In) = false:=by cases op <;> first | rfl | exact absurd rfl h
 have e2:(op == CmpOp.NotIn) = false:=by cases op <;> first | rfl | exact absurd rfl h2
 cases b <;> simp [behindInMarks,e1,e2]
theorem tW {op:CmpOp} {r:R2} (ho:OpR X (compareOp op) r) (ha:PE X a ta) (hb:PE X b tb) (hm:behindInMarks op b = false):PE X (.Compare a [op] [b] pos) (tOp r ta tb):=by
 intro pins s σ H Q I h;exact wpAny_Compare1 (zUg ha hb I h λv u s2 x y H2 I2 rx ry q=>ho pins s2 σ H2 x y v u Q I2 rx ry q) hm
def zPh (t:TE):TT:=λσ H Q=>t σ H λx H'=>∃ k,x = .bl k/\Q k H'
theorem zU {op:CmpOp} {r:R2} (ho:OpR X (compareOp op) r) (ha:PE X a ta) (hb:PE X b tb) (hm:behindInMarks op b = false):PT X (.Compare a [op] [b] pos) (zPh (tOp r ta tb)):=by
 intro pins s σ H Q I h;refine wpAny_isTrue_Compare1 (thn (ha pins s σ H _ I h) λv s1 ⟨x,H1,I1,r1,q1⟩=>thn (hb pins s1 σ H1 _ I1 q1) λu s2 ⟨y,H2,I2,r2,q2⟩ =>
  thn (ho pins s2 σ H2 x y v u _ I2 r1 r2 q2) λc s3 ⟨z,H3,I3,r3,k,e,q3⟩=>?_) hm
 subst e;cases r3;exact wpAny_truthy_bool ⟨H3,I3,q3⟩
def TruV (K:PySem.W.Frag) (x:V) (H:Hp) (k:Bool):Prop :=
 match x with
 | .non=>k = false
 | .bl b=>k = b
 | .int i=>k = (i != 0)
 | .str y=>y.length<=sizeLine/\k = ((y.length:Int) != 0)
 | .byt y=>y.size<=sizeLine/\k = ((y.size:Int) != 0)
 | .ref p=>(∃ xs,SqL K H p xs/\k = !xs.isEmpty)\/(∃ xs,SqT K H p xs/\k = !xs.isEmpty)\/∃ kvs,H p = some (.dK kvs)/\k = !kvs.isEmpty
 | _=>False
theorem zKi {κ:Type} {kvs:List (κ × V)} {vs:List (κ × Value)} (r:KV kvs vs):(!vs.isEmpty) = !kvs.isEmpty:=by
 cases r <;> rfl
theorem zE1 {xs:List V} {its:List Value} (r:xI xs its):(!its.toArray.isEmpty) = !xs.isEmpty:=by
 cases r <;> simp
theorem zHe:(sizeLine:Nat) < 2 ^ 63:=by rw [sizeLine_eq]; decide
theorem zTk:TruR X (λx H Q=>∃ k,TruV X.K x H k/\Q k H):=by
 intro pins s σ H x v Q I rx h;obtain ⟨k,e,q⟩:=h;have hl:=zHe;have hs:sizeLine = 16777216:=sizeLine_eq;cases x with
 | non =>
  cases rx;have e':k = false:=e;subst e';exact truthy_none ⟨H,I,q⟩
 | bl b =>
  cases rx;have e':k = b:=e;subst e';exact wpAny_truthy_bool ⟨H,I,q⟩
 | int i =>
  obtain ⟨t,rfl⟩:=rx;have e':k = (i != 0):=e;subst e';exact PySem.P.truthy_int ⟨H,I,q⟩
 | str y =>
  obtain ⟨t,rfl⟩:=rx;obtain ⟨hy,e'⟩:y.length<=sizeLine/\k = ((y.length:Int) != 0):=e;subst e';exact PySem.P.truthy_str (by omega) ⟨H,I.tok _,q⟩
 | byt y =>
  obtain ⟨t,rfl⟩:=rx;obtain ⟨hy,e'⟩:y.size<=sizeLine/\k = ((y.size:Int) != 0):=e;subst e';exact PySem.W.truthy_bytes (by omega) ⟨H,I.tok _,q⟩
 | ref p =>
  cases rx;have e':(∃ xs,SqL X.K H p xs/\k = !xs.isEmpty)\/(∃ xs,SqT X.K H p xs/\k = !xs.isEmpty)\/∃ kvs,H p = some (.dK kvs)/\k = !kvs.isEmpty:=e;rcases e' with ⟨xs,hx,e'⟩ | ⟨xs,hx,e'⟩ | ⟨kvs,hx,e'⟩
  ·subst e';obtain ⟨its,r,pl,hz⟩:=I.list hx;have hlen:=r.length;exact wpAny_truthy_list pl.isList (by simp only [List.size_toArray]; omega) ⟨H,I.tok _,by rw [zE1 r]; exact q⟩
  ·subst e';obtain ⟨its,r,pl,hz⟩:=I.tuple hx;have hlen:=r.length;exact truthy_tuple pl (by simp only [List.size_toArray]; omega) ⟨H,I.tok _,by rw [zE1 r]; exact q⟩
  ·subst e';obtain ⟨hz,hS,vs,r,m⟩:kvs.length<=sizeLine/\(p == sysModules) = false/\∃ vs,KV kvs vs/\s.heap.DictOf (uF X.prog X.w) p vs:=I.hok p _ hx;have hlen:kvs.length = vs.length:=Paired.length r;exact wpAny_truthy_dict hS m (by omega) ⟨H,I.tok _,by rw [zKi r]; exact q⟩
 | _=>exact (show False from e).elim
theorem zM2 {x:V} {us:List Value} (r:xI [x] us):∃ u,us = [u]/\uN x u:=by
 cases r with
 | cons r1 r2=>cases r2; exact ⟨_,rfl,r1⟩
theorem uZ:zB2 X (.builtin "abs") (λxs H Q=>∃ i,xs = [.int i]/\Q (.int (if i < 0 then -i else i)) H):=by
 intro pins s σ H xs us Q I r h;obtain ⟨i,rfl,q⟩:=h;obtain ⟨u,rfl,t,rfl⟩:=zM2 r;exact call_abs_int λu tk=>⟨.int (if i < 0 then -i else i),H,I.tok _,⟨_,rfl⟩,q⟩
end
end L2

namespace L2
open PySem PySem.Spec PyProof.Rows

structure ObjM (h:Heap) (x dx C:Addr) (mA:Str->Option Value):Prop where
 obj:h.get? x = some (PySem.W.instObj C dx)
 ns:h.Ns1 dx mA
 ne:dx≠x

section
variable {prog:Program} {w:World} {A:Around} {E:Value->Shared->Prop} {s:Shared} {K:PySem.W.Frag} {x dx C f:Addr} {mA:Str->Option Value} {name:Str} {v:Value}

end

theorem zOg.some_of {v:V} {o:Option Value} (r:zOg (some v) o):∃ u,o = some u/\uN v u:=by
 cases o with
 | none=>exact (show False from r).elim
 | some u=>exact ⟨u,rfl,r⟩

structure Cls (K:PySem.W.Frag) (C:Addr):Prop where
 pg:PySem.W.plainGet K C Str.empty = true
 hd:PySem.W.hasDictIn K C = true
 po:PySem.W.plainOver K C = true
 sa:PySem.W.findIn K (.ref C) "__setattr__" = some (some (.builtin "object.__setattr__"))
structure Con (K:PySem.W.Frag) (C:Addr) (f:Str) (v:V) (u:Value):Prop where
 at_:PySem.W.findIn K (.ref C) f = some (some u)
 rel:uN v u
 get:PySem.W.specialIn K u "__get__" = some none
 cp:PySem.W.copiedNames.contains f = false
structure Meth (K:PySem.W.Frag) (C:Addr) (m:Str) (f:Addr):Prop where
 at_:PySem.W.findIn K (.ref C) m = some (some (.ref f))
 fn:PySem.W.isFn K (.ref f) = true
 kp:PySem.W.keepIn K (.ref f) = true

section
variable {X:Cx} {pins:List (Addr × Obj)} {σ:St} {H:Hp} {s:Shared} {a C dx:Addr} {fs:List (Str × V)} {f:Str} {v:V} {A:Around} {E:Value->Shared->Prop}

end


section
variable {X:Cx} {pins:List (Addr × Obj)} {σ:St} {H:Hp} {s:Shared} {A:Around} {E:Value->Shared->Prop} {Q:Value->Shared->Prop} {c:Value} {b:Bool}
inductive TyOf (K:PySem.W.Frag) (H:Hp):V->Value->Prop where
 | non:TyOf K H .non (.type "NoneType")
 | bl (x:Bool):TyOf K H (.bl x) (.type "bool")
 | int (i:Int):TyOf K H (.int i) (.type "int")
 | str (x:Str):TyOf K H (.str x) (.type "str")
 | flt (x:UInt64):TyOf K H (.flt x) (.type "float")
 | lst {a:Addr} {xs:List V} (e:H a = some (.lst xs)):TyOf K H (.ref a) (.type "list")
 | frz {a:Addr} {o:Obj} {xs:List V} (e:H a = some (.frz o (.lst xs))):TyOf K H (.ref a) (.type "list")
 | tup {a:Addr} {xs:List V} (e:H a = some (.tup xs)):TyOf K H (.ref a) (.type "tuple")
 | dK {a:Addr} {kvs:List (Key × V)} (e:H a = some (.dK kvs)):TyOf K H (.ref a) (.type "dict")
 | dT {a:Addr} {kvs:List (List Key × V)} (e:H a = some (.dT kvs)):TyOf K H (.ref a) (.type "dict")
 | ins {a C dx:Addr} {fs:List (Str × V)} (e:H a = some (.ins C dx fs)) (cl:Cls K C) (ha:PySem.W.findIn K (.ref C) "__class__" = some (some (.builtin "object.__class__")))
   (hn:PySem.W.specialIn K (.builtin "object.__class__") "__get__" = some (some (.builtin "getset_descriptor.__get__"))) (htk:PySem.W.takesIn K (.builtin "object.__class__") = some true)
   (hm:PySem.W.mroIn K C (.type "object") = some true):TyOf K H (.ref a) (.ref C)
end
end L2

namespace L2
open PySem PySem.Spec PyProof.Rows

structure Room (k:Nat) (A:Around):Prop where
 hd:A.handled = none
 dp:A.depth + 3 * k + 5 < recursionLimit
 un:A.units + 16 * k + 200 < cLine
theorem Room.mono {j k:Nat} {A:Around} (r:Room k A) (h:j<=k):Room j A:=⟨r.hd,by have:=r.dp; omega,by have:=r.un; omega⟩
theorem Room.deeper {k:Nat} {A:Around} (r:Room (k + 1) A) (env:Env):Room k (A.deeper env) :=
 ⟨r.hd,by have:=r.dp; show A.depth + 1 + 3 * k + 5 < _; omega,by have:=r.un; show A.units + 3 + 16 * k + 200 < _; omega⟩
theorem Room.in1 {k:Nat} {A:Around} (r:Room (k + 1) A):Room k A.in1 :=
 ⟨r.hd,by have:=r.dp; show A.depth + 3 * k + 5 < _; omega,by have:=r.un; show A.units + 1 + 16 * k + 200 < _; omega⟩
theorem Room.depth {k:Nat} {A:Around} (r:Room k A):A.depth < recursionLimit:=by have:=r.dp; omega
theorem Room.units {k:Nat} {A:Around} (r:Room k A):A.units + 64 < cLine:=by have:=r.un; omega
theorem Room.units0 {k:Nat} {A:Around} (r:Room k A):A.units < cLine:=by have:=r.un; omega

def zUh:TA:=λ_ H Q=>Q [] H
def zQ0 (ta:TE) (tr:TA):TA:=λσ H Q=>ta σ H λx H1=>tr σ H1 λxs H2=>Q (x :: xs) H2
section
variable {X:Cx} {e:Expr} {es:List Expr} {te:TE} {t:TA} {pos:Pos}
theorem zD:PA X [] zUh:=λ_ _ _ _ H Q I h=>Calls.spliced_nil ⟨[],H,I,.nil,h⟩
theorem zA (ha:PE X e te) (hr:PA X es t) (hs:starEach (e :: es) X.env = (false,eval e X.env) :: starEach es X.env:=by rfl):PA X (e :: es) (zQ0 te t):=by
 intro pos pins s σ H Q I h;rw [hs];show wpAny _ _ (spliced ((false,eval e X.env) :: backTo pos (starEach es X.env))) _ _ s;refine Calls.spliced_cons (thn (ha pins s σ H _ I h) λu s1 ⟨x,H1,I1,r1,q1⟩=>?_);exact thn (hr pos pins s1 σ H1 _ I1 q1) λus s2 ⟨xs,H2,I2,r2,q2⟩=>⟨x :: xs,H2,I2,.cons r1 r2,q2⟩

def tTup (t:TA):TE:=λσ H Q=>t σ H λxs H1=>xs.length<=sizeLine/\∀ p,H1 p = none->Q (.ref p) (upd H1 p (.tup xs))
def tLst (t:TA):TE:=λσ H Q=>t σ H λxs H1=>xs.length<=sizeLine/\∀ p,H1 p = none->Q (.ref p) (upd H1 p (.lst xs))
theorem xE {x1} (h:PA X es t):PE X (.Tuple es x1 pos) (tTup t):=by
 intro pins s σ H Q I hq;refine wpAny_Tuple_spliced (thn (h pos pins s σ H _ I hq) λus s1 ⟨xs,H1,I1,r,z,q⟩=>⟨by rw [<- r.length]; exact z,?_⟩);have hf:H1 s1.heap.objs.size = none:=I1.hok.fresh (Nat.le_refl _);refine ⟨.ref s1.heap.objs.size,upd H1 s1.heap.objs.size (.tup xs),I1.laid (t':=s1.toks) (λb u e=>Heap.get?_push_of_some _ e) (Nat.le_refl _) ?_,rfl,q _ hf⟩;exact ⟨z,us,r,⟨_,Heap.get?_push_size _ rfl,rfl,_,rfl⟩⟩
theorem wE (h:PA X es t):PE X (.List es pos) (tLst t):=by
 intro pins s σ H Q I hq;refine wpAny_List_spliced (thn (h pos pins s σ H _ I hq) λus s1 ⟨xs,H1,I1,r,z,q⟩=>⟨by rw [<- r.length]; exact z,?_⟩);have hf:H1 s1.heap.objs.size = none:=I1.hok.fresh (Nat.le_refl _);refine ⟨.ref s1.heap.objs.size,upd H1 s1.heap.objs.size (.lst xs),I1.laid (t':=s1.toks) (λb u e=>Heap.get?_push_of_some _ e) (Nat.le_refl _) ?_,rfl,q _ hf⟩;exact ⟨z,us,0,r,Heap.get?_push_size _ rfl⟩
end

abbrev Sp:=List V->Hp->VK->XK->Prop
abbrev CXT:=List Env->Hp->Shared->XK->Value->Shared->Prop

structure zOp (P:Program) (w:World) (K:PySem.W.Frag) (mg:Str->Option Value) (base:Heap) (A:Around) (outer:List Env) (s:Shared) (H:Hp):Prop where
 frames:A.frames = some outer
 mod:Mod K mg base
 bs:∀ b o,base.get? b = some o->s.heap.get? b = some o/\H b = none
 bsz:base.objs.size<=s.heap.objs.size
 funs:s.heap.FunFrames base outer
 frf:∀ b∈frs outer,H b = none
 hok:HOk P w H s.heap
 bare:AllBare s.gens
def CE (outer:List Env) (P:Program) (w:World) (H:Hp) (s:Shared) (Q:VK) (u:Value) (s':Shared):Prop :=
 ∃ v H',s'.os = s.os/\AllBare s'.gens/\Un (frs outer) [] H H' s.heap s'.heap/\HOk P w H' s'.heap/\uN v u/\Q v H'
def CR (CX:CXT) (outer:List Env) (P:Program) (w:World) (H:Hp) (s:Shared) (Q:VK) (E:XK) (r:Result) (s':Shared):Prop :=
 match r with
 | .ok (.ret u)=>CE outer P w H s Q u s'
 | .ok _=>False
 | .error e=>CX outer H s E e s'
structure wL (P:Program) (w:World) (K:PySem.W.Frag) (mg:Str->Option Value) (base:Heap) (CX:CXT) (k:Nat) (f:Addr) (fd:FuncData) (ps:List Str) (sp:Sp):Prop where
 len:∀ vs H Q E,sp vs H Q E->vs.length = ps.length
 run:∀ (A:Around) (outer:List Env) (s:Shared) (H:Hp) (args:Args) (us:List Value) (vs:List V) (Q:VK) (E:XK),Room k A->zOp P w K mg base A outer s H->BindsTo s fd args (ps.zip us)->xI vs us->sp vs H Q E ->
  codeAny (model P w) A (.call (.ref f) args) (CR CX outer P w H s Q E) s
theorem zOp.in1 {P:Program} {w:World} {K:PySem.W.Frag} {mg:Str->Option Value} {base:Heap} {A:Around} {outer:List Env} {s:Shared} {H:Hp} (e:zOp P w K mg base A outer s H) :
  zOp P w K mg base A.in1 outer s H:=⟨e.frames,e.mod,e.bs,e.bsz,e.funs,e.frf,e.hok,e.bare⟩

section
variable {X:Cx} {pins:List (Addr × Obj)} {σ:St} {H:Hp} {s s':Shared}
theorem Inv.env0 (I:Inv X pins σ H s):zOp X.prog X.w X.K X.mg X.base X.A X.stack s H :=
 ⟨I.ok.frames,I.ok.mod,I.bs,Nat.le_trans I.ok.bsz I.sz,I.stack,I.stkFree,I.hok,I.bare⟩
theorem Inv.after {Q:VK} {u:Value} (I:Inv X pins σ H s) (h:CE X.stack X.prog X.w H s Q u s'):EP X pins σ Q u s':=by
 obtain ⟨v,H',os,bare,un,hok,r,q⟩:=h;obtain ⟨hh,g,d,t,os'⟩:=s';obtain rfl:os' = s.os:=os;exact ⟨v,H',I.call (h':=hh) (g':=g) (d':=d) (t':=t) (ch:=[]) un hok bare (λb z=>absurd z (by simp)),r,q⟩
end

def zRt (sp:Sp) (dvs:List V) (E:XK) (t:TA):TE:=λσ H Q=>t σ H λvs H1=>sp (vs ++ dvs) H1 Q E
def zHk (K:PySem.W.Frag) (fd:FuncData) (ps:List Str) (ds:List Value):Prop :=
 ∀ (s:Shared) (us:List Value),K.In s.heap->(us ++ ds).length = ps.length->BindsTo s fd ⟨us,[]⟩ (ps.zip (us ++ ds))
theorem zHk.all {K:PySem.W.Frag} {fd:FuncData} {ps:List Str} (h:∀ us:List Value,us.length = ps.length->bindArgs fd ⟨us,[]⟩ = pure (ps.zip us)):zHk K fd ps []:=λs us _ hl=>by
 rw [List.append_nil] at hl ⊢;exact .of_eq (h us hl)

def zLh (CX:CXT) (X:Cx) (E:XK):Prop:=∀ (pins:List (Addr × Obj)) (σ:St) (H:Hp) (s:Shared) (e:Value) (s':Shared),Inv X pins σ H s->CX X.stack H s E e s'->X.xe e s'

section
variable {X:Cx} {CX:CXT} {k:Nat} {f C:Addr} {fd:FuncData} {ps:List Str} {sp:Sp} {dvs:List V} {ds:List Value} {E:XK} {x m:Str} {p pos apos:Pos} {e o:Expr} {es:List Expr} {ta:TE} {t:TA}

theorem zSk {pins:List (Addr × Obj)} {σ:St} {H:Hp} {s:Shared} {Q:VK} {us:List Value} {vs:List V} (F:wL X.prog X.w X.K X.mg X.base CX k f fd ps sp) (hr:Room k X.A) (hb:zHk X.K fd ps ds) (hd:xI dvs ds) (hx:zLh CX X E)
  (I:Inv X pins σ H s) (r:xI vs us) (h:sp (vs ++ dvs) H Q E):wpAny (model X.prog X.w) X.A (call (.ref f) us) (EP X pins σ Q) X.xe s:=by
 have r2:xI (vs ++ dvs) (us ++ ds):=r.append hd;have hl:(us ++ ds).length = ps.length:=by rw [<- r2.length]; exact F.len _ _ _ _ h
 refine wpAny_call (codeAny_mono (F.run X.A X.stack s H ⟨us,[]⟩ (us ++ ds) (vs ++ dvs) Q E hr I.env0 (hb s us I.kIn hl) r2 h) λr s' hq=>?_);cases r with
 | error e=>exact hx pins σ H s e s' I hq
 | ok fl =>
  cases fl with
  | ret u=>exact I.after hq
  | next=>exact False.elim hq
  | brk=>exact False.elim hq
  | cont=>exact False.elim hq

theorem zRc (F:wL X.prog X.w X.K X.mg X.base CX k f fd ps sp) (hr:Room k X.A) (hg:Gl X x) (hm:X.mg x = some (.ref f)) (hk:PySem.W.keepIn X.K (.ref f) = true) (hb:zHk X.K fd ps ds) (hd:xI dvs ds) (hx:zLh CX X E)
  (ha:PA X (e :: es) t) (hdb:(x == ("__debug__" : Str)) = false:=by decide) (he:starEach (e :: es) X.env = (false,eval e X.env) :: starEach es X.env:=by rfl) (hpl:(backTo pos (starEach es X.env)).any (·.1) = false:=by rfl) :
  PE X (.Call (.Name x p) (e :: es) [] pos) (zRt sp dvs E t):=by
 intro pins s σ H Q I h;refine wpAny_Call_Name_kw (zQ3 I hg hm ?_ hdb);refine PySem.W.callWith_K (h₀:=X.base) I.ok.mod.kin hk (thn (ha pos pins s σ H _ I h) λus s1 ⟨vs,H1,I1,r,q⟩=>⟨I1.kIn,?_⟩) he hpl;exact zSk F hr hb hd hx I1 r q
structure Mk (K:PySem.W.Frag) (C f:Addr):Prop where
 makes:PySem.W.makesIn K C = true
 init:PySem.W.findIn K (.ref C) "__init__" = some (some (.ref f))
 fn:PySem.W.isFn K (.ref f) = true
 kp:PySem.W.keepIn K (.ref C) = true

end

def PK (X:Cx) (kws:List Keyword) (t:TA):Prop :=
 ∀ (pos:Pos) (pins:List (Addr × Obj)) (s:Shared) (σ:St) (H:Hp) (Q:List V->Hp->Prop),Inv X pins σ H s->t σ H Q->wpAny (model X.prog X.w) X.A (evalAll ((backToKw pos (keywordEach kws X.env)).map (·.2))) (AP X pins σ Q) X.xe s
section
variable {X:Cx} {CX:CXT} {k:Nat} {f C:Addr} {fd:FuncData} {ps ks:List Str} {sp:Sp} {E:XK} {x m:Str} {p pos apos kpos:Pos} {e o:Expr} {es:List Expr} {kws:List Keyword} {te ta:TE} {t tk:TA} {nm:Option Str}
theorem zTt:PK X [] zUh:=λ_ _ _ _ H Q I h=>wpAny_evalAll_nil ⟨[],H,I,.nil,h⟩
theorem zQ2 (ha:PE X e te) (hr:PK X kws t):PK X (⟨nm,e,kpos⟩ :: kws) (zQ0 te t):=by
 intro pos pins s σ H Q I h;show wpAny _ _ (evalAll ((do let v <- eval e X.env; standAt pos; pure v) :: (backToKw pos (keywordEach kws X.env)).map (·.2))) _ _ s;refine wpAny_evalAll_cons (wpAny_bind (thn (ha pins s σ H _ I h) λu s1 ⟨x,H1,I1,r1,q1⟩=>wpAny_bind (wpAny_standAt (wpAny_pure ?_))));exact thn (hr pos pins s1 σ H1 _ I1 q1) λus s2 ⟨xs,H2,I2,r2,q2⟩=>⟨x :: xs,H2,I2,.cons r1 r2,q2⟩

structure KBinds (K:PySem.W.Frag) (fd:FuncData) (ps ks:List Str) (g:List Value->List Value->List Value) (gV:List V->List V->List V):Prop where
 to:∀ (s:Shared) (us ws:List Value),K.In s.heap->(g us ws).length = ps.length->BindsTo s fd ⟨us,ks.zip ws⟩ (ps.zip (g us ws))
 rel:∀ {vs:List V} {us:List Value} {zs:List V} {ws:List Value},xI vs us->xI zs ws->xI (gV vs zs) (g us ws)
variable {g:List Value->List Value->List Value} {gV:List V->List V->List V}
end

structure zS (N P:List Str) (sc:Scope):Prop where
 kind:sc.kind = .function
 co:sc.isCoroutine = false
 gen:sc.isGenerator = false
 nd:N.Nodup
 pre:N.take P.length = P
 par:∀ x∈P,sc.names.lookup x = some .local\/sc.names.lookup x = some .cell
 nofree:∀ y∈sc.names,y.2≠.free

theorem zGr {kindOf:Str->Option NameKind} {x:Str} : ∀ {binds:List (Str × Value)} {m:Str->Option Value},(∀ v,(x,v) ∉ binds)->bindL kindOf binds m x = m x
 | [],_,_=>rfl
 | (n,v) :: r,m,h=>by
  unfold bindL;rw [zGr λw hw=>h w (List.mem_cons_of_mem _ hw)];split
  ·have:x≠n:=by rintro rfl; exact h v List.mem_cons_self
   simp [this]
  ·rfl
theorem zG5 {kindOf:Str->Option NameKind} {x:Str} : ∀ {binds:List (Str × Value)} {m:Str->Option Value},(∀ v,(x,v) ∉ binds)->bindC kindOf binds m x = m x
 | [],_,_=>rfl
 | (n,v) :: r,m,h=>by
  unfold bindC;rw [zG5 λw hw=>h w (List.mem_cons_of_mem _ hw)];split
  ·rfl
  ·have:x≠n:=by rintro rfl; exact h v List.mem_cons_self
   simp [this]
theorem zGl {kindOf:Str->Option NameKind} {x:Str} {v:Value} : ∀ {P:List Str} {vs:List Value} {i:Nat} {m:Str->Option Value},P.Nodup->P[i]? = some x->vs[i]? = some v->kindOf x = some .local ->
  bindL kindOf (P.zip vs) m x = some v
 | [],_,_,_,_,h,_,_=>by simp at h
 | _ :: _,[],_,_,_,_,h,_=>by simp at h
 | p :: P,w :: vs,0,m,nd,h1,h2,hk=>by
  simp at h1 h2; subst h1; subst h2;show bindL kindOf ((p,w) :: P.zip vs) m p = _;unfold bindL;rw [zGr λv hv=>(List.nodup_cons.mp nd).1 (List.of_mem_zip hv).1,if_pos hk];simp
 | p :: P,w :: vs,i + 1,m,nd,h1,h2,hk=>by
  show bindL kindOf ((p,w) :: P.zip vs) m x = _;unfold bindL;exact zGl (i:=i) (List.nodup_cons.mp nd).2 (by simpa using h1) (by simpa using h2) hk
theorem zHm {kindOf:Str->Option NameKind} {x:Str} {v:Value} : ∀ {P:List Str} {vs:List Value} {i:Nat} {m:Str->Option Value},P.Nodup->P[i]? = some x->vs[i]? = some v->kindOf x≠some .local ->
  bindC kindOf (P.zip vs) m x = some v
 | [],_,_,_,_,h,_,_=>by simp at h
 | _ :: _,[],_,_,_,_,h,_=>by simp at h
 | p :: P,w :: vs,0,m,nd,h1,h2,hk=>by
  simp at h1 h2; subst h1; subst h2;show bindC kindOf ((p,w) :: P.zip vs) m p = _;unfold bindC;rw [zG5 λv hv=>(List.nodup_cons.mp nd).1 (List.of_mem_zip hv).1,if_neg hk];simp
 | p :: P,w :: vs,i + 1,m,nd,h1,h2,hk=>by
  show bindC kindOf ((p,w) :: P.zip vs) m x = _;unfold bindC;exact zHm (i:=i) (List.nodup_cons.mp nd).2 (by simpa using h1) (by simpa using h2) hk

def start (N:List Str) (vs:List V):St:=vs.map some ++ List.replicate (N.length - vs.length) none

def cxOf (CX:CXT) (P:Program) (w:World) (K:PySem.W.Frag) (mg:Str->Option Value) (base:Heap) (N:List Str) (qual:Str) (scope:Scope) (f:Addr) (cd:Value) (A:Around) (outer:List Env) (s:Shared) (H:Hp) (E:XK):Cx where
 prog:=P
 w:=w
 K:=K
 mg:=mg
 base:=base
 A:=A.deeper (envOfC qual scope s.heap.objs.size f cd)
 N:=N
 s₀:=s
 H₀:=H
 env:=envOfC qual scope s.heap.objs.size f cd
 outer:=outer
 stack:=envOfC qual scope s.heap.objs.size f cd :: outer
 ex:=[]
 calm:=true
 fn:=λ_=>true
 pn:=[]
 xe:=λe s'=>wpAny (model P w) (A.deeper (envOfC qual scope s.heap.objs.size f cd)) (leaving (envOfC qual scope s.heap.objs.size f cd) e) (λ_ s''=>CX outer H s E e s'') (λe' s''=>CX outer H s E e' s'') s'

theorem zJx {sc:Scope} {n:Nat} {x:Str} (h:sc.names.lookup x = some .cell):∃ c,(cellsFrom n sc.names []).lookup x = some c:=by
 have q:=PySem.W.cellsFrom_some sc.names n [] (.inl h);exact Option.isSome_iff_exists.mp q

theorem zN5 {CX:CXT} {P:Program} {w:World} {K:PySem.W.Frag} {mg:Str->Option Value} {base:Heap} {N ps:List Str} {qual:Str} {scope:Scope} {f:Addr} {cd:Value} {A:Around} {outer:List Env} {s s1:Shared} {H:Hp} {E:XK} {us:List Value} {vs:List V}
  (S:zS N ps scope) (hd:A.handled = none) (e0:zOp P w K mg base A outer s H) (hl:vs.length = ps.length) (r:xI vs us)
  (x:InCallC s s.heap.objs.size (bindL (envOfC qual scope s.heap.objs.size f cd).kindOf (ps.zip us) λ_=>none) (cellsFrom (s.heap.objs.size + 1) scope.names []) (bindC (envOfC qual scope s.heap.objs.size f cd).kindOf (ps.zip us) λ_=>none) s1) :
  Inv (cxOf CX P w K mg base N qual scope f cd A outer s H E) [] (start N vs) H s1:=by
 have hpl:ps.length<=N.length:=by have:=congrArg List.length S.pre; rw [List.length_take] at this; omega
 obtain ⟨h1,tk,rfl,hk⟩:=x.done;have noA:∀ b:Addr,b ∉ (cxOf CX P w K mg base N qual scope f cd A outer s H E).ex:=λb z=>absurd (show b∈([]:List Addr) from z) (by simp);refine ⟨⟨e0.mod,S.kind,rfl,rfl,Nat.le_refl _,λy z c h1 h2=>?_,λy hy=>?_,λy c _ h=>?_,λ_=>hd,Around.frames_deeper e0.frames,.inr ⟨rfl,rfl⟩,λb z=>absurd z (noA b),e0.bs,e0.bsz,λb _ _=>noA b,λb z=>absurd z (noA b),e0.funs,e0.frf⟩,
  rfl,e0.bare,Un.kept hk,⟨_,x.toInCall.ns,λi y v h1 h2 h3=>?_⟩,λy c h=>⟨_,x.cell y c h⟩,e0.hok.fresh (Nat.le_refl _),λy c h=>?_,λp hp=>absurd (show p∈([]:List (Addr × Obj)) from hp) (by simp),e0.hok.kept hk,?_⟩
 ·exact name_of_addr x.apart (PySem.mem_of_lookup h1) (PySem.mem_of_lookup h2)
 ·have hy:scope.names.lookup y = some .cell\/scope.names.lookup y = some .free:=hy;rcases hy with hy | hy
  ·exact zJx hy
  ·exact absurd rfl (S.nofree _ (PySem.mem_of_lookup hy))
 ·exact Nat.le_of_lt (x.above y c (PySem.mem_of_lookup h))
 ·have hi:i < vs.length:=by
   unfold start at h2;by_cases hi:i < vs.length
   ·exact hi
   ·rw [List.getElem?_append_right (by simpa using hi)] at h2;rw [List.getElem?_replicate] at h2;split at h2 <;> cases h2
  have ha:vs[i]? = some v:=by
   unfold start at h2;rw [List.getElem?_append_left (by simpa using hi),List.getElem?_map] at h2;cases e:vs[i]? with
   | none=>rw [e] at h2; cases h2
   | some a=>rw [e] at h2; cases h2; rfl
  obtain ⟨u,hu,rv⟩:=r.get ha;have hp:ps[i]? = some y:=by
   rw [<- S.pre,List.getElem?_take_of_lt (by omega)]; exact h1
  have ndP:ps.Nodup:=by rw [<- S.pre]; exact S.nd.sublist (List.take_sublist _ _)
  refine ⟨u,rv,?_⟩;rcases S.par y (List.mem_of_getElem? hp) with k | k
  ·exact .inl ⟨k,zGl ndP hp hu k⟩
  ·obtain ⟨c,e⟩:=zJx (n:=s.heap.objs.size + 1) k;refine .inr ⟨.inl k,c,e,?_⟩;have q:=x.cell y c e;rw [zHm ndP hp hu (by show scope.names.lookup y≠_; rw [k]; decide)] at q;exact q
 ·exact e0.hok.fresh (Nat.le_of_lt (x.above y c (PySem.mem_of_lookup h)))
 ·unfold start;show _ = N.length;rw [List.length_append,List.length_map,List.length_replicate];omega

theorem zT7 {CX:CXT} {P:Program} {w:World} {K:PySem.W.Frag} {mg:Str->Option Value} {base:Heap} {k:Nat} {f:Addr} {name qual:Str} {params:Arguments} {body:List Stmt} {scope:Scope} {dV kV doc pm cdv ct oc:Value} {an od:Option Addr}
  {osl:Array (Option Value)} {N ps:List Str} {sp:Sp} (lk:K.lookup f = some ⟨oc,od,.func (PySem.W.fnOf name qual params body scope dV kV doc pm an cdv ct),osl⟩) (hcd:PySem.W.codeIn K cdv qual = true) (S:zS N ps scope)
  (len:∀ vs H Q E,sp vs H Q E->vs.length = ps.length)
  (hbody:∀ (A:Around) (outer:List Env) (s:Shared) (H:Hp) (vs:List V) (Q:VK) (E:XK),Room k (A.deeper (envOfC qual scope s.heap.objs.size f cdv))->sp vs H Q E ->
   ∃ t,PSs (cxOf CX P w K mg base N qual scope f cdv A outer s H E) body t/\t { nx:=λ_ H'=>Q .non H',rt:=Q } (start N vs) H) :
  wL P w K mg base CX (k + 1) f (PySem.W.fnOf name qual params body scope dV kV doc pm an cdv ct) ps sp:=by
 refine ⟨len,λA outer s H args us vs Q E hr e0 hb r hsp=>?_⟩;have hl:=len _ _ _ _ hsp;have KX:K.In s.heap:=e0.mod.kin.keeps λb o e=>(e0.bs b o e).1;have lim:s.heap.NoLimit:=e0.mod.nolimit.keeps λb o e=>(e0.bs b o e).1;have hkind:∀ y∈ps.zip us,scope.names.lookup y.1 = some .local\/(scope.names.lookup y.1 = some .cell/\((cellsFrom (s.heap.objs.size + 1) scope.names []).lookup y.1).isSome = true):=λ⟨n,v⟩ hy=>by
  rcases S.par n (List.of_mem_zip hy).1 with q | q
  ·exact .inl q
  ·exact .inr ⟨q,PySem.W.cellsFrom_some _ _ _ (.inl q)⟩
 refine codeAny_call_function hr.depth (KX _ _ lk) rfl S.co S.gen rfl (PySem.W.codeRec_of KX hcd) (hb _ _ _ _ ?_);refine wpAny_newFunctionEnv_cells S.kind hkind λenv he s1 x=>?_;subst he;refine ⟨lim.keeps x.toInCall.keep,codeAny_func ?_⟩;obtain ⟨t,ht,hq⟩:=hbody A outer s H vs Q E (hr.deeper _) hsp;have I:Inv (cxOf CX P w K mg base N qual scope f cdv A outer s H E) [] (start N vs) H s1:=zN5 S hr.hd e0 hl r x;refine wpAny_mono (ht [] s1 (start N vs) H _ I hq) (λfl s' hs=>?_) λe s' hs=>hs;have fin:∀ {σ':St} {H':Hp} {v:V} {u:Value},Inv (cxOf CX P w K mg base N qual scope f cdv A outer s H E) [] σ' H' s'->uN v u->Q v H'->CE outer P w H s Q u s' :=
  λ{σ' H' v u} J rv q=>⟨v,H',J.os,J.bare,J.base,J.hok,rv,q⟩
 cases fl with
 | ret u =>
  obtain ⟨v,σ',H',J,rv,q⟩:=hs;exact fin J rv q
 | next =>
  obtain ⟨σ',H',J,q⟩:=hs;exact fin (v:=V.non) (u:=Value.none) J rfl q
 | brk =>
  obtain ⟨_,_,_,q⟩:=hs;exact False.elim q
 | cont =>
  obtain ⟨_,_,_,q⟩:=hs;exact False.elim q
end L2

namespace L2
open PySem PySem.Spec PyProof.Rows
section
variable {X:Cx} {x:Str} {p pos:Pos} {e:Expr} {es:List Expr} {t:TA} {id T:String} {r:List V->Hp->VK->Prop}

def tCB (r:List V->Hp->VK->Prop) (t:TA):TE:=λσ H Q=>t σ H λvs H1=>r vs H1 Q
theorem zW (hc:zB2 X (.builtin id) r) (hg:Gl X x) (hm:X.mg x = none) (hv:bootBuiltins x = some (.builtin id)) (ha:PA X (e :: es) t) (hn:x ≠ "__name__" := by decide) (hdb:(x == ("__debug__" : Str)) = false:=by decide)
  (he:starEach (e :: es) X.env = (false,eval e X.env) :: starEach es X.env:=by rfl) (hpl:(backTo pos (starEach es X.env)).any (·.1) = false:=by rfl):PE X (.Call (.Name x p) (e :: es) [] pos) (tCB r t):=by
 intro pins s σ H Q I h;refine wpAny_Call_Name_kw (zE2 I hg hm hv ?_ hn hdb);exact PyProof.Rows.callWith_builtin1 (thn (ha pos pins s σ H _ I h) λus s1 ⟨vs,H1,I1,r1,q1⟩=>hc pins s1 σ H1 vs us Q I1 r1 q1) he hpl
theorem xA (hc:zB2 X (.type T) r) (hg:Gl X x) (hm:X.mg x = none) (hv:bootBuiltins x = some (.type T)) (ha:PA X (e :: es) t) (hn:x ≠ "__name__" := by decide) (hdb:(x == ("__debug__" : Str)) = false:=by decide)
  (he:starEach (e :: es) X.env = (false,eval e X.env) :: starEach es X.env:=by rfl) (hpl:(backTo pos (starEach es X.env)).any (·.1) = false:=by rfl):PE X (.Call (.Name x p) (e :: es) [] pos) (tCB r t):=by
 intro pins s σ H Q I h;refine wpAny_Call_Name_kw (zE2 I hg hm hv ?_ hn hdb);exact PyProof.Rows.callWith_type1 (thn (ha pos pins s σ H _ I h) λus s1 ⟨vs,H1,I1,r1,q1⟩=>hc pins s1 σ H1 vs us Q I1 r1 q1) he hpl
end
end L2

namespace HT
open PySem PyProof.Rows

def lexLt:List Int->List Int->Bool
 | [],[]=>false
 | [],_ :: _=>true
 | _ :: _,[]=>false
 | x :: xs,y :: ys=>if x = y then lexLt xs ys else decide (x < y)
theorem lexLt_cons (x y:Int) (xs ys:List Int):lexLt (x :: xs) (y :: ys) = if x = y then lexLt xs ys else decide (x < y):=rfl
theorem zF2:lexLt [] [] = false:=rfl
theorem zEi (y:Int) (ys:List Int):lexLt [] (y :: ys) = true:=rfl
theorem zEk (x:Int) (xs:List Int):lexLt (x :: xs) [] = false:=rfl

theorem zPc (A:Around) (s:Shared) (a:Int) (t:Tok) (c:Int) (u:Tok):∃ e,SeqAt.EqAt A s (.int a t) (.int c u) e/\(e = true↔a = c) :=
 ⟨(a == c),SeqAt.EqAt.int_int a t c u,by simp⟩
theorem zPm (A:Around) (s:Shared) (a:Int) (t:Tok) (c:Int) (u:Tok) (prog:Program) (w:World) (E:Value->Shared->Prop) (Q:Value->Shared->Prop) (h:Q (.bool (decide (a < c))) s) :
  wpAny (model prog w) A (richCompare .Lt (.int a t) (.int c u)) Q E s :=
 (PyProof.Rows.lt_int h:wpAny (model prog w) A (compareOp .Lt (.int a t) (.int c u)) Q E s)

section
open PySem.SeqAt
open PySem.AutoSeq1 (wpAny_loadPart')
open PySem.MeetsSeq PySem.MeetsSeq2 PySem.MeetsSeq3

theorem tuple_lt_ints (l b:Addr) (items items2:Array Value) (n n2:Nat) (dd dd2:Option Addr) (sl sl2:Array (Option Value)) (ns ms:List Int) (hi:IntsAre items.toList ns) (hj:IntsAre items2.toList ms) :
  Meets (Builtin.«tuple.__lt__» ⟨[.ref l,.ref b],[]⟩)
   (λ_ R s=>s.heap.get? l = some { cls:=.type "tuple", dict:=dd,data:=.seq items n,slots:=sl }/\s.heap.get? b = some { cls:=.type "tuple", dict:=dd2,data:=.seq items2 n2,slots:=sl2 } /\
    R (.ok (.ret (.bool (lexLt ns ms)))) s) :=
 .of_wp λprog w A R s h=>by
  obtain ⟨hp,g,d,tk,os⟩:=s; obtain ⟨hl,hb,h⟩:=h;have f2:=AutoSeq1.sub_tuple_tuple;have z1:items.size = ns.length:=by rw [<- hi.length]; simp
  have z2:items2.size = ms.length:=by rw [<- hj.length]; simp
  wp_walk using wpAny_loadPart' hl,wpAny_loadPart' hb,wpAny_forIn_list _ (λrest b s'=>b.1 = none/\s' = ⟨hp,g,d,tk,os⟩/\∃ (vs ws:List Value) (ns' ms':List Int),rest = vs.zip ws /\
   IntsAre vs ns'/\IntsAre ws ms'/\ns'.length + items2.size = ms'.length + items.size/\R (.ok (.ret (.bool (lexLt ns' ms')))) ⟨hp,g,d,tk,os⟩) _
  case turn =>
   rintro ⟨y,x⟩ rest b s' ⟨hb',rfl,vs,ws,ns',ms',hz,hvi,hwi,hlen,hR⟩;cases hvi with
   | nil=>rw [List.zip_nil_left] at hz; cases hz
   | cons a t hvi' =>
    cases hwi with
    | nil=>rw [List.zip_nil_right] at hz; cases hz
    | cons c u hwi' =>
     rw [List.zip_cons_cons] at hz;injection hz with hyx hrest
     injection hyx with hy hx
     subst hy hx;rw [lexLt_cons] at hR;simp only [List.length_cons] at hlen;obtain ⟨e,he,hiff⟩:=zPc A.in1 ⟨hp,g,d,tk,os⟩ a t c u;refine wpAny_bind (he prog w _ _ ?_);cases e with
     | true =>
      rw [if_pos (hiff.mp rfl)] at hR
      wp_walk
      exact ⟨rfl,rfl,_,_,_,_,hrest,hvi',hwi',by omega,hR⟩
     | false =>
      rw [if_neg (λq=>absurd (hiff.mpr q) Bool.false_ne_true)] at hR;have hri:=zPm A.in1 ⟨hp,g,d,tk,os⟩ a t c u prog w
      wp_walk using hri
      exact ⟨_,rfl,by simpa using hR⟩
  case fin =>
   rintro ⟨b1,b2⟩ s' ⟨hb',rfl,vs,ws,ns',ms',hz,hvi,hwi,hlen,hR⟩;simp only at hb';subst hb';have hv:lexLt ns' ms' = decide (items.size < items2.size):=by
    cases hvi with
    | nil =>
     cases hwi with
     | nil =>
      simp only [List.length_nil] at hlen;rw [zF2];exact (decide_eq_false (by omega)).symm
     | cons c u hw =>
      simp only [List.length_nil,List.length_cons] at hlen;rw [zEi];exact (decide_eq_true (by omega)).symm
    | cons a t hv =>
     cases hwi with
     | nil =>
      simp only [List.length_nil,List.length_cons] at hlen;rw [zEk];exact (decide_eq_false (by omega)).symm
     | cons c u hw =>
      rw [List.zip_cons_cons] at hz;cases hz
   rw [hv] at hR
   wp_walk
   exact ⟨_,rfl,by simpa [Builtin.Tuple.tupleCompareSizes] using hR⟩
  case h =>
   exact ⟨rfl,rfl,items.toList,items2.toList,ns,ms,rfl,hi,hj,by omega,h⟩
end

section
variable {prog:Program} {w:World} {A:Around} {E:Value->Shared->Prop} {s:Shared}

theorem lt_tupInts {l b:Addr} {items items2:Array Value} {ns ms:List Int} {Q:Value->Shared->Prop} (hl:IsTup s.heap l items) (hb:IsTup s.heap b items2) (hi:IntsAre items.toList ns) (hj:IntsAre items2.toList ms)
  (hu:A.units < cLine) (h:Q (.bool (lexLt ns ms)) s):wpAny (model prog w) A (compareOp .Lt (.ref l) (.ref b)) Q E s:=by
 obtain ⟨⟨cls,dd,data,sl⟩,ho,hc,n,hd⟩:=id hl;obtain ⟨⟨cls2,dd2,data2,sl2⟩,ho2,hc2,n2,hd2⟩:=id hb;simp only at hc hd hc2 hd2;subst hc hd hc2 hd2;exact richCompare_meets_room (op:=.Lt) ⟨_,ho,rfl⟩ ⟨_,ho2,rfl⟩ PySem.F.slot_tuple_lt PySem.F.entry_tuple_lt (PySem.F.args_tuple_lt_2 _ _) (tuple_lt_ints l b items items2 n n2 dd dd2 sl sl2 ns ms hi hj)
  ⟨ho,ho2,show Value.bool (lexLt ns ms)≠Value.notImplemented/\Q (.bool (lexLt ns ms)) s from ⟨(λx=>nomatch x),h⟩⟩ hu

def sIx (n d:Nat):Option Int->Nat
 | none=>d
 | some v=>if v < 0 then (v + (n:Int)).toNat else min v.toNat n
theorem sIx_nat (n d k:Nat):sIx n d (some (k:Int)) = min k n:=by
 show (if (k:Int) < 0 then ((k:Int) + (n:Int)).toNat else min (k:Int).toNat n) = min k n;rw [if_neg (by omega),Int.toNat_natCast]
end
end HT

namespace L2
open PySem PySem.Spec PyProof.Rows

abbrev TO:=St->Hp->(Option Int->Hp->Prop)->Prop
def PO (X:Cx) (e:Option Expr) (t:TO):Prop :=
 ∀ (pins:List (Addr × Obj)) (s:Shared) (σ:St) (H:Hp) (Q:Option Int->Hp->Prop),Inv X pins σ H s->t σ H Q ->
  wpAny (model X.prog X.w) X.A (evalPart e X.env) (λu s'=>∃ o H',Inv X pins σ H' s'/\IsPart u o/\Q o H') X.xe s
def zQp:TO:=λ_ H Q=>Q none H
def tPart (t:TE):TO:=λσ H Q=>t σ H λx H1=>∃ i,x = .int i/\Q (some i) H1

theorem sV {ns:List Int} : ∀ {us:List Value},xI (ns.map V.int) us->IntsAre us ns:=by
 induction ns with
 | nil=>intro us r; rw [List.map_nil] at r; cases r; exact .nil
 | cons n ns ih =>
  intro us r;rw [List.map_cons] at r;cases r with
  | cons r1 r2 =>
   obtain ⟨t,e⟩:=r1;subst e;exact .cons n t (ih r2)

section
variable {X:Cx} {e:Expr} {te:TE} {lo hi:Option Expr} {tl th:TO} {pos p2:Pos}

theorem wK:PO X none zQp:=by
 intro pins s σ H Q I h;rw [evalPart_none];exact wpAny_pure ⟨none,H,I,.none,h⟩
theorem wH (h:PE X e te):PO X (some e) (tPart te):=by
 intro pins s σ H Q I hw;rw [evalPart_some];refine thn (h pins s σ H _ I hw) λu s1 ⟨x,H1,I1,r1,q1⟩=>?_;obtain ⟨i,rfl,q⟩:=q1;obtain ⟨t,rfl⟩:=r1;exact ⟨some i,H1,I1,.int i t,q⟩

def SlR (X:Cx) (r:V->Option Int->Option Int->Hp->VK->Prop):Prop :=
 ∀ (pins:List (Addr × Obj)) (s:Shared) (σ:St) (H:Hp) (x:V) (v vl vu:Value) (lo hi:Option Int) (sl:Addr) (Q:VK),Inv X pins σ H s->uN x v->s.heap.IsSliceOf sl vl vu .none->IsPart vl lo->IsPart vu hi->r x lo hi H Q ->
  ∃ T id,typeLookup (.type T) "__getitem__" = pure (some (.builtin id))/\s.TypeIs v T/\wpAny (model X.prog X.w) X.A (getItem v (.ref sl)) (EP X pins σ Q) X.xe s
def tSl (r:V->Option Int->Option Int->Hp->VK->Prop) (te:TE) (tl th:TO):TE:=λσ H Q=>te σ H λx H1=>tl σ H1 λl H2=>th σ H2 λu H3=>r x l u H3 Q
theorem xG {r:V->Option Int->Option Int->Hp->VK->Prop} (hr:SlR X r) (he:PE X e te) (hl:PO X lo tl) (hu:PO X hi th):PE X (.Subscript e (.Slice lo hi none p2) pos) (tSl r te tl th):=by
 intro pins s σ H Q I h;refine Subscript_ (thn (he pins s σ H _ I h) λv s1 ⟨x,H1,I1,r1,q1⟩=>?_);refine wpAny_Slice (thn (hl pins s1 σ H1 _ I1 q1) λvl s2 ⟨l,H2,I2,pl,q2⟩=>thn (hu pins s2 σ H2 _ I2 q2) λvu s3 ⟨u,H3,I3,pu,q3⟩=>?_);rw [evalPart_none];refine wpAny_pure ?_;have I4:Inv X pins σ H3 { s3 with heap:=s3.heap.push { cls:=.type "slice", data:=.fields #[vl,vu,.none] } }:=I3.kept (t':=s3.toks) λb ob q=>Heap.get?_push_of_some _ q;obtain ⟨T,id,hT,ht,hg⟩:=hr pins { s3 with heap:=s3.heap.push { cls:=.type "slice", data:=.fields #[vl,vu,.none] } } σ H3 x v vl vu l u s3.heap.objs.size Q I4 r1 (Heap.IsSliceOf.new ..) pl pu q3;show wpAny (model X.prog X.w) X.A (subscriptTail e (.Slice lo hi none p2) v (.ref s3.heap.objs.size)) (EP X pins σ Q) X.xe { s3 with heap:=s3.heap.push { cls:=.type "slice", data:=.fields #[vl,vu,.none] } };exact tail_any (ops:=[.ref s3.heap.objs.size,v]) ht hT hg (by with_unfolding_all rfl)

def rO (xs:List V) (lo hi:Option Int):List V:=(xs.drop (HT.sIx xs.length 0 lo)).take (HT.sIx xs.length xs.length hi - HT.sIx xs.length 0 lo)
theorem zIk (xs:List V) (lo hi:Option Int):(rO xs lo hi).length<=xs.length:=by
 unfold rO;rw [List.length_take,List.length_drop];omega
end
end L2

namespace L2
open PySem PySem.Spec PyProof.Rows

def ixN (n:Nat) (i:Int):Option Nat:=if 0<=i then (if i < n then some i.toNat else none) else if -(n:Int)<=i then some (i + n).toNat else none
def atI {α:Type} (xs:List α) (i:Int):Option α:=(ixN xs.length i).bind λj=>xs[j]?
theorem zN0 {n:Nat} {i:Int} {j:Nat} (h:ixN n i = some j):seqIndex? i n = some j/\j < n/\-(n:Int)<=i/\i < n:=by
 unfold ixN at h;by_cases h0:0<=i
 ·rw [if_pos h0] at h;by_cases h1:i < n
  ·rw [if_pos h1] at h;have e:i.toNat = j:=Option.some.inj h;exact ⟨by rw [seqIndex_of h0 h1,e],by omega,by omega,h1⟩
  ·rw [if_neg h1] at h; cases h
 ·rw [if_neg h0] at h;by_cases h1 : -(n:Int)<=i
  ·rw [if_pos h1] at h;have e:(i + n).toNat = j:=Option.some.inj h;exact ⟨by rw [seqIndex_neg (by omega) h1,e],by omega,h1,by omega⟩
  ·rw [if_neg h1] at h; cases h
theorem zM3 {α:Type} {xs:List α} {i:Int} {v:α} (h:atI xs i = some v):∃ j,seqIndex? i xs.length = some j/\xs[j]? = some v/\j < xs.length/\-(xs.length:Int)<=i/\i < xs.length:=by
 unfold atI at h;cases e:ixN xs.length i with
 | none=>rw [e] at h; cases h
 | some j =>
  rw [e] at h;obtain ⟨h1,h2,h3,h4⟩:=zN0 e;exact ⟨j,h1,h,h2,h3,h4⟩
theorem tZ {α:Type} {xs:List α} {j:Nat} {v:α} (h:xs[j]? = some v):atI xs (j:Int) = some v:=by
 have hj:j < xs.length:=(List.getElem?_eq_some_iff.mp h).1;have e:ixN xs.length (j:Int) = some j:=by
  unfold ixN;rw [if_pos (by omega),if_pos (by omega)]; simp
 unfold atI; rw [e]; exact h
def zQ4 (b:Expr):Prop:=∀ o i,subscripted b false o i = operate [o,i] (getItem o i)
def IxR (X:Cx) (r:R2):Prop :=
 ∀ (value slice:Expr) (pins:List (Addr × Obj)) (s:Shared) (σ:St) (H:Hp) (x y:V) (v u:Value) (Q:VK),Inv X pins σ H s->uN x v->uN y u->r x y H Q ->
  subscripted slice false v u = operate [v,u] (getItem v u)->wpAny (model X.prog X.w) X.A (subscriptTail value slice v u) (EP X pins σ Q) X.xe s
def MtR (X:Cx) (id:String) (r:V->List V->Hp->VK->Prop):Prop :=
 ∀ (pins:List (Addr × Obj)) (s:Shared) (σ:St) (H:Hp) (x:V) (xs:List V) (v:Value) (us:List Value) (Q:VK),Inv X pins σ H s->uN x v->xI xs us->r x xs H Q ->
  wpAny (model X.prog X.w) X.A (call (.builtin id) (v :: us)) (EP X pins σ Q) X.xe s
section
variable {X:Cx} {a b:Expr} {ta tb:TE} {pos:Pos}
theorem zO {r:R2} (hr:IxR X r) (ha:PE X a ta) (hb:PE X b tb) (hs:zQ4 b):PE X (.Subscript a b pos) (tOp r ta tb):=by
 intro pins s σ H Q I h;exact Subscript_ (zUg ha hb I h λv u s2 x y H2 I2 rx ry q=>hr a b pins s2 σ H2 x y v u Q I2 rx ry q (hs _ _))

def rIxL (K:PySem.W.Frag):R2:=λx y H Q=>∃ p xs i v,x = .ref p/\y = .int i/\SqL K H p xs/\atI xs i = some v/\Q v H
def rIxT (K:PySem.W.Frag):R2:=λx y H Q=>∃ p xs i v,x = .ref p/\y = .int i/\SqT K H p xs/\atI xs i = some v/\Q v H
theorem zRd:IxR X (rIxL X.K):=by
 intro value slice pins s σ H x y v u Q I rx ry h hs;obtain ⟨p,xs,i,z,rfl,rfl,hq,he,q⟩:=h;cases rx;obtain ⟨t,rfl⟩:=ry;obtain ⟨its,r,pl,hz⟩:=I.list hq;obtain ⟨j,h1,h2,h3,h4,h5⟩:=zM3 he;obtain ⟨w,ew,rw'⟩:=r.get h2;have hl:=r.length;have hn:=zHe;have fin:EP X pins σ Q w s:=⟨z,H,I,rw',q⟩;by_cases h0:0<=i
 ·have hj:i.toNat = j:=by
   rw [seqIndex_of h0 h5] at h1;exact Option.some.inj h1
  exact item_listR pl.isList h0 (by omega) (by rw [hj]; simpa using ew) fin hs
 ·have hj:(i + (its.toArray.size:Int)).toNat = j:=by
   rw [seqIndex_neg (by omega) h4] at h1;rw [List.size_toArray,<- hl];exact Option.some.inj h1
  exact subscriptTail_builtinR (x:=w) pl.isList.typeIs slot_list_getitem.lookup
   (wpAny_getItem_list_neg (Q:=λr s'=>r = w/\EP X pins σ Q r s') pl.isList (by omega) (by rw [List.size_toArray] <;> omega) (by omega) (by rw [hj]; simpa using ew) ⟨rfl,fin⟩) hs
theorem zSm:IxR X (rIxT X.K):=by
 intro value slice pins s σ H x y v u Q I rx ry h hs;obtain ⟨p,xs,i,z,rfl,rfl,hq,he,q⟩:=h;cases rx;obtain ⟨t,rfl⟩:=ry;obtain ⟨its,r,pl,hz⟩:=I.tuple hq;obtain ⟨j,h1,h2,h3,h4,h5⟩:=zM3 he;obtain ⟨w,ew,rw'⟩:=r.get h2;have hl:=r.length;have hn:=zHe;have fin:EP X pins σ Q w s:=⟨z,H,I,rw',q⟩;exact subscriptTail_builtinR (x:=w) pl.typeIs slot_tuple_getitem.lookup
  (getItem_tuple (j:=j) (Q:=λr s'=>r = w/\EP X pins σ Q r s') pl (by omega) (by omega) (by rw [List.size_toArray,<- hl]; exact h1) (by simpa using ew) ⟨rfl,fin⟩) hs
theorem zKz (its:List Value) (n j:Nat) (u:Value):Obj.mapSeq (·.setIfInBounds j u) { cls:=.type "list", data:=.seq its.toArray n } = { cls:=.type "list", data:=.seq (its.set j u).toArray n }:=by
 simp [Obj.mapSeq]
theorem Inv.lst {pins:List (Addr × Obj)} {σ:St} {H:Hp} {s:Shared} {p:Addr} {xs:List V} (I:Inv X pins σ H s) (h:H p = some (.lst xs)) :
  ∃ (its:List Value) (n:Nat),xI xs its/\s.heap.get? p = some { cls:=.type "list", data:=.seq its.toArray n }/\xs.length<=sizeLine:=by
 obtain ⟨z,its,n,r,e⟩:=I.hok p _ h;exact ⟨its,n,r,e,z⟩
theorem Inv.lstUpd {pins:List (Addr × Obj)} {σ:St} {H:Hp} {s:Shared} {p:Addr} {xs ys:List V} {its its':List Value} {n n':Nat} {f:Obj->Obj} (I:Inv X pins σ H s) (h:H p = some (.lst xs))
  (ho:s.heap.get? p = some { cls:=.type "list", data:=.seq its.toArray n }) (hf:f { cls:=.type "list", data:=.seq its.toArray n } = { cls:=.type "list", data:=.seq its'.toArray n' }) (r:xI ys its') (hz:ys.length<=sizeLine) (t:Nat) :
  Inv X pins σ (upd H p (.lst ys)) { s with heap:=s.heap.update p f,toks:=t }:=by
 have e:(s.heap.update p f).get? p = some { cls:=.type "list", data:=.seq its'.toArray n' }:=by
  rw [Heap.get?_update_self f ho (by rw [hf] <;> rfl),hf]
 refine I.write (x:=p) (e:=p) (by rw [h]; trivial) (.inl rfl) (λb u hb q=>(Heap.get?_update_other _ _ (Ne.symm hb)).trans q) ⟨_,e⟩ ?_;exact ⟨hz,its',n',r,e⟩
def rSetL:V->V->V->Hp->(Hp->Prop)->Prop:=λo i v H Q=>∃ p xs k j,o = .ref p/\i = .int k/\H p = some (.lst xs)/\ixN xs.length k = some j/\Q (upd H p (.lst (xs.set j v)))
theorem zOy:PSet X rSetL:=by
 intro pins s σ H o i v ov iv u Q I ro ri rv h;obtain ⟨p,xs,k,j,rfl,rfl,hp,hj,q⟩:=h;cases ro;obtain ⟨t,rfl⟩:=ri;obtain ⟨its,n,r,ho,hz⟩:=I.lst hp;obtain ⟨h1,h2,h3,h4⟩:=zN0 hj;have hl:=r.length;have hn:=zHe;have I':Inv X pins σ (upd H p (.lst (xs.set j v))) { s with heap:=s.heap.update p (Obj.mapSeq (·.setIfInBounds j u)) } :=
  I.lstUpd hp ho (zKz its n j u) (r.set rv j) (by rw [List.length_set]; exact hz) s.toks
 by_cases h0:0<=k
 ·have hk:k.toNat = j:=by
   rw [seqIndex_of h0 h4] at h1;exact Option.some.inj h1
  exact PySem.W.ki_setAt ho h0 (by omega) (by rw [List.size_toArray,<- hl]; exact h4) (by rw [hk]; exact ⟨_,I',q⟩)
 ·have hk:(k + (its.toArray.size:Int)).toNat = j:=by
   rw [seqIndex_neg (by omega) h3] at h1;rw [List.size_toArray,<- hl];exact Option.some.inj h1
  exact PySem.W.ki_setBack ho (by omega) (by rw [List.size_toArray,<- hl]; exact h3) (by omega) (by rw [hk]; exact ⟨_,I',q⟩)

theorem zGx (lo hi:Option Int) (n:Nat):(sliceBounds lo hi none n).1 = ((HT.sIx n 0 lo:Nat):Int)/\(sliceBounds lo hi none n).2.1 = ((HT.sIx n n hi:Nat):Int)/\(sliceBounds lo hi none n).2.2 = 1:=by
 refine ⟨?_,?_,rfl⟩
 ·cases lo with
  | none=>simp [sliceBounds,HT.sIx]
  | some i =>
   simp only [sliceBounds,HT.sIx,Option.getD_none,show (1:Int) > 0 by decide,if_true];by_cases h:i < 0
   ·simp only [h,if_true] <;> omega
   ·simp only [h,if_false] <;> omega
 ·cases hi with
  | none=>simp [sliceBounds,HT.sIx]
  | some i =>
   simp only [sliceBounds,HT.sIx,Option.getD_none,show (1:Int) > 0 by decide,if_true];by_cases h:i < 0
   ·simp only [h,if_true] <;> omega
   ·simp only [h,if_false] <;> omega
theorem zF9 (its:List Value) (lo hi:Option Int):slicePick its.toArray lo hi none = ((its.drop (HT.sIx its.length 0 lo)).take (HT.sIx its.length its.length hi - HT.sIx its.length 0 lo)).toArray:=by
 obtain ⟨h1,h2,h3⟩:=zGx lo hi its.toArray.size;unfold slicePick;rw [h1,h2,h3];simp only [sliceRange_one,pick_run,List.size_toArray] <;> rfl
def rSlL (K:PySem.W.Frag):V->Option Int->Option Int->Hp->VK->Prop:=λx lo hi H Q=>∃ a xs,x = .ref a/\SqL K H a xs/\∀ p,H p = none->Q (.ref p) (upd H p (.lst (rO xs lo hi)))
theorem wG:SlR X (rSlL X.K):=by
 intro pins s σ H x v vl vu lo hi sl Q I rx hs pl pu h;obtain ⟨a,xs,rfl,hx,q⟩:=h;cases rx;obtain ⟨its,r,ht,hz⟩:=I.list hx;have hlen:=r.length;refine ⟨"list", _,slot_list_getitem.lookup,ht.isList.typeIs,?_⟩;refine wpAny_getItem_list_slice ht.isList hs pl pu .none (by simp) ?_ (by rw [List.size_toArray] <;> omega);rw [zF9,<- hlen];refine ⟨.ref s.heap.objs.size,_,I.laid (t':=s.toks) (o:=.lst (rO xs lo hi)) (λb ob q=>Heap.get?_push_of_some _ q) (Nat.le_refl _) ?_,rfl,q _ (I.hok.fresh (Nat.le_refl _))⟩;exact ⟨Nat.le_trans (zIk xs lo hi) hz,_,0,(r.drop (HT.sIx xs.length 0 lo)).take (HT.sIx xs.length xs.length hi - HT.sIx xs.length 0 lo),Heap.get?_push_size _ rfl⟩

def zHw:V->Bool
 | .non=>true
 | .bl _=>true
 | .int _=>true
 | .str _=>true
 | _=>false
def eqV:V->V->Bool
 | .non,.non=>true
 | .bl a,.bl b=>a == b
 | .bl a,.int b=>(if a then 1 else 0) == b
 | .int a,.bl b=>a == (if b then 1 else 0)
 | .int a,.int b=>a == b
 | .str a,.str b=>a == b
 | _,_=>false
theorem zTb {A:Around} {s:Shared} {y x:V} {u v:Value} (ry:uN y u) (rx:uN x v) (fy:zHw y = true) (fx:zHw x = true):SeqAt.EqAt A s u v (eqV y x):=by
 cases y with
 | non =>
  cases ry;cases x with
  | non=>cases rx; exact SeqAt.EqAt.same _
  | bl b=>cases rx; exact SeqAt.EqAt.none_bool b
  | int b=>obtain ⟨t,rfl⟩:=rx; exact SeqAt.EqAt.none_int b t
  | str b=>obtain ⟨t,rfl⟩:=rx; exact SeqAt.EqAt.none_str b t
  | _=>exact absurd (show false = true from fx) Bool.false_ne_true
 | bl a =>
  cases ry;cases x with
  | non=>cases rx; exact SeqAt.EqAt.bool_none a
  | bl b=>cases rx; exact SeqAt.EqAt.bool_bool a b
  | int b=>obtain ⟨t,rfl⟩:=rx; exact SeqAt.EqAt.bool_int a b t
  | str b=>obtain ⟨t,rfl⟩:=rx; exact SeqAt.EqAt.bool_str a b t
  | _=>exact absurd (show false = true from fx) Bool.false_ne_true
 | int a =>
  obtain ⟨t',rfl⟩:=ry;cases x with
  | non=>cases rx; exact SeqAt.EqAt.int_none a t'
  | bl b=>cases rx; exact SeqAt.EqAt.int_bool a t' b
  | int b=>obtain ⟨t,rfl⟩:=rx; exact SeqAt.EqAt.int_int a t' b t
  | str b=>obtain ⟨t,rfl⟩:=rx; exact SeqAt.EqAt.int_str a t' b t
  | _=>exact absurd (show false = true from fx) Bool.false_ne_true
 | str a =>
  obtain ⟨t',rfl⟩:=ry;cases x with
  | non=>cases rx; exact SeqAt.EqAt.str_none a t'
  | bl b=>cases rx; exact SeqAt.EqAt.str_bool a t' b
  | int b=>obtain ⟨t,rfl⟩:=rx; exact SeqAt.EqAt.str_int a t' b t
  | str b=>obtain ⟨t,rfl⟩:=rx; exact SeqAt.EqAt.str_str a t' b t
  | _=>exact absurd (show false = true from fx) Bool.false_ne_true
 | _=>exact absurd (show false = true from fy) Bool.false_ne_true
def eqU (x:V) (u:Value):Bool:=match u with
 | .none=>eqV .non x
 | .bool b=>eqV (.bl b) x
 | .int i _=>eqV (.int i) x
 | .str z _=>eqV (.str z) x
 | _=>false
theorem zQg {x y:V} {u:Value} (r:uN y u) (f:zHw y = true):eqU x u = eqV y x:=by
 cases y with
 | non=>cases r; rfl
 | bl b=>cases r; rfl
 | int i=>obtain ⟨t,rfl⟩:=r; rfl
 | str z=>obtain ⟨t,rfl⟩:=r; rfl
 | _=>exact absurd (show false = true from f) Bool.false_ne_true
theorem zId {x:V} : ∀ {xs:List V} {us:List Value},xI xs us->xs.all zHw = true->us.any (eqU x) = xs.any λy=>eqV y x
 | _,_,.nil,_=>rfl
 | y :: xs,u :: us,.cons r t,f=>by
  rw [List.all_cons,Bool.and_eq_true] at f;rw [List.any_cons,List.any_cons,zQg r f.1,zId t f.2]
theorem zFq {A:Around} {s:Shared} {x:V} {v:Value} (rx:uN x v) (fx:zHw x = true):∀ {xs:List V} {us:List Value},xI xs us->xs.all zHw = true->∀ u∈us,SeqAt.EqAt A s u v (eqU x u)
 | _,_,.nil,_=>λu hu=>by cases hu
 | y :: xs,u :: us,.cons r t,f=>λu' hu=>by
  rw [List.all_cons,Bool.and_eq_true] at f;rcases List.mem_cons.mp hu with rfl | hu
  ·rw [zQg r f.1]; exact zTb r rx f.1 fx
  ·exact zFq rx fx t f.2 u' hu
def inV (x:V) (xs:List V):Bool:=xs.any λy=>eqV y x
def rIn (K:PySem.W.Frag) (neg:Bool):R2:=λx y H Q=>∃ p xs,y = .ref p/\(SqL K H p xs\/SqT K H p xs)/\zHw x = true/\xs.all zHw = true/\Q (.bl (if neg then !inV x xs else inV x xs)) H
theorem zNh:OpR X (compareOp .In) (rIn X.K false):=by
 intro pins s σ H x y v u Q I rx ry h;obtain ⟨p,xs,rfl,hq,fx,fs,q⟩:=h;cases ry;rcases hq with hq | hq
 ·obtain ⟨its,r,pl,hz⟩:=I.list hq;refine SeqAt.in_listAt (eqU x) pl.isList (λw hw=>zFq rx fx r fs w (by simpa using hw)) ⟨.bl _,H,I,rfl,?_⟩;rw [show its.toArray.any (eqU x) = its.any (eqU x) by simp,zId r fs];exact q
 ·obtain ⟨its,r,pl,hz⟩:=I.tuple hq;refine SeqAt.in_tupleAt (eqU x) pl (λw hw=>zFq rx fx r fs w (by simpa using hw)) ⟨.bl _,H,I,rfl,?_⟩;rw [show its.toArray.any (eqU x) = its.any (eqU x) by simp,zId r fs];exact q
theorem zV:zB2 X (.builtin "len") (λxs H Q=>∃ p ys,xs = [.ref p]/\(SqL X.K H p ys\/SqT X.K H p ys)/\Q (.int ys.length) H):=by
 intro pins s σ H xs us Q I r h;obtain ⟨p,ys,rfl,hq,q⟩:=h;obtain ⟨u,rfl,rx⟩:=zM2 r;cases rx;have hn:=zHe;rcases hq with hq | hq
 ·obtain ⟨its,r',pl,hz⟩:=I.list hq;have hlen:=r'.length;exact Calls.call_len_list pl.isList (by simp only [List.size_toArray] <;> omega) ⟨.int ys.length,H,I.tok _,⟨s.toks + 1,by rw [List.size_toArray,hlen]⟩,q⟩
 ·obtain ⟨its,r',pl,hz⟩:=I.tuple hq;have hlen:=r'.length;exact len_tuple pl (by simp only [List.size_toArray] <;> omega) ⟨.int ys.length,H,I.tok _,⟨s.toks + 1,by rw [List.size_toArray,hlen]⟩,q⟩
theorem yT:zB2 X (.type "list") (λxs H Q=>∃ p ys,xs = [.ref p]/\(SqL X.K H p ys\/SqT X.K H p ys)/\∀ l,H l = none->Q (.ref l) (upd H l (.lst ys))):=by
 intro pins s σ H xs us Q I r h;obtain ⟨p,ys,rfl,hq,q⟩:=h;obtain ⟨u,rfl,rx⟩:=zM2 r;cases rx;have fin:∀ (its:List Value),xI ys its->ys.length<=sizeLine->∀ (h':Heap) (c':Nat),(∀ b o',s.heap.get? b = some o'->h'.get? b = some o') ->
   h'.get? s.heap.objs.size = some { cls:=.type "list", dict:=none,data:=.seq its.toArray c',slots:=#[] }->EP X pins σ Q (.ref s.heap.objs.size) { s with heap:=h' }:=λits r' hz h' c' kp e =>
  ⟨.ref s.heap.objs.size,_,I.laid (t':=s.toks) kp (Nat.le_refl _) (show vN X.prog X.w _ h' _ (.lst ys) from ⟨hz,its,c',r',e⟩),rfl,q _ (I.hok.fresh (Nat.le_refl _))⟩
 rcases hq with hq | hq
 ·obtain ⟨its,r',pl,hz⟩:=I.list hq;have hlen:=r'.length;obtain ⟨o,ho,hc,n,hd⟩:=pl.isList;exact call_list_seq p (.inl rfl) ho hc hd (λh' c' kp e=>fin its r' hz h' c' kp e) (by simp only [List.size_toArray] <;> omega)
 ·obtain ⟨its,r',pl,hz⟩:=I.tuple hq;have hlen:=r'.length;obtain ⟨o,ho,hc,n,hd⟩:=pl;exact call_list_seq p (.inr rfl) ho hc hd (λh' c' kp e=>fin its r' hz h' c' kp e) (by simp only [List.size_toArray] <;> omega)
theorem zAw:zB2 X (.type "tuple") (λxs H Q=>∃ p ys,xs = [.ref p]/\((SqL X.K H p ys/\∀ l,H l = none->Q (.ref l) (upd H l (.tup ys)))\/(SqT X.K H p ys/\Q (.ref p) H))):=by
 intro pins s σ H xs us Q I r h;obtain ⟨p,ys,rfl,h⟩:=h;obtain ⟨u,rfl,rx⟩:=zM2 r;cases rx;rcases h with ⟨hq,q⟩ | ⟨hq,q⟩
 ·obtain ⟨its,r',pl,hz⟩:=I.list hq;have hlen:=r'.length;refine call_tuple_list pl.isList (λh' kp=>?_) (by simp only [List.size_toArray] <;> omega);have I1:Inv X pins σ H { s with heap:=h' }:=I.kept (t':=s.toks) kp;have I2:Inv X pins σ (upd H h'.objs.size (.tup ys)) { s with heap:=h'.push { cls:=.type "tuple", data:=.seq its.toArray } } :=
   I1.laid (t':=s.toks) (λb o e=>Heap.get?_push_of_some _ e) (Nat.le_refl _) (show vN X.prog X.w _ _ _ (.tup ys) from ⟨hz,its,r',IsTup.new _ _⟩)
  exact ⟨.ref h'.objs.size,_,I2,rfl,q _ (I1.hok.fresh (Nat.le_refl _))⟩
 ·obtain ⟨its,r',pl,hz⟩:=I.tuple hq;exact call_tuple_same pl ⟨.ref p,H,I,rfl,q⟩

def tyV (K:PySem.W.Frag) (T:String) (x:V) (H:Hp):Prop:=match x with
 | .str _=>T = "str"
 | .int _=>T = "int"
 | .ref p=>(T = "list" /\ ∃ xs,SqL K H p xs)\/(T = "tuple" /\ ∃ o,K.lookup p = some o/\o.cls = .type "tuple" /\ o.dict = none) \/
   (T = "dict" /\ ((∃ kvs,H p = some (.dK kvs))\/∃ kvs,H p = some (.dT kvs)))\/(T = "set" /\ ∃ S n,H p = some (.set S n))
 | _=>False
theorem zT8 {pins:List (Addr × Obj)} {σ:St} {H:Hp} {s:Shared} {T:String} {x:V} {v:Value} (I:Inv X pins σ H s) (r:uN x v) (ty:tyV X.K T x H) :
  s.TypeIs v T/\∀ a,v = .ref a->∃ ob,s.heap.get? a = some ob/\ob.dict = none:=by
 cases x with
 | str z =>
  obtain ⟨t,rfl⟩:=r;cases (show T = "str" from ty);exact ⟨typeIs_str s z t,λ_ e=>nomatch e⟩
 | int i =>
  obtain ⟨t,rfl⟩:=r;cases (show T = "int" from ty);exact ⟨typeIs_int s i t,λ_ e=>nomatch e⟩
 | ref p =>
  cases r;rcases ty with ⟨rfl,xs,hq⟩ | ⟨rfl,o,hk,hc,hd⟩ | ⟨rfl,hk⟩ | ⟨rfl,S,n,hk⟩
  ·obtain ⟨its,_,pl,_⟩:=I.list hq;refine ⟨pl.isList.typeIs,λa e=>?_⟩;cases e;obtain ⟨o,n,e,c,hd,_⟩:=pl;exact ⟨o,e,hd⟩
  ·refine ⟨⟨o,I.kIn p o hk,hc⟩,λa e=>?_⟩;cases e;exact ⟨o,I.kIn _ o hk,hd⟩
  ·have z:∃ o,s.heap.get? p = some o/\o.ExactDict:=by
    rcases hk with ⟨kvs,hk⟩ | ⟨kvs,hk⟩
    ·obtain ⟨_,_,_,_,o,_,_,e,ex,_⟩:=I.hok p _ hk;exact ⟨o,e,ex⟩
    ·obtain ⟨_,_,_,_,o,_,_,e,ex,_⟩:=I.hok p _ hk;exact ⟨o,e,ex⟩
   obtain ⟨o,e,ex⟩:=z;refine ⟨⟨o,e,ex.1⟩,λa e2=>?_⟩;cases e2;exact ⟨o,e,ex.2.1⟩
  ·obtain ⟨o,_,_,_,e,ex,_⟩:=I.hok p _ hk;refine ⟨⟨o,e,ex.1⟩,λa e2=>?_⟩;cases e2;exact ⟨o,e,ex.2.1⟩
 | _=>exact False.elim ty
def tBM (K:PySem.W.Frag) (T:String) (r:V->List V->Hp->VK->Prop) (to:TE) (t:TA):TE:=λσ H Q=>to σ H λx H1=>tyV K T x H1/\t σ H1 λxs H2=>r x xs H2 Q
variable {o e:Expr} {es:List Expr} {to:TE} {t:TA} {name:Str} {apos cpos:Pos} {T id:String} {r:V->List V->Hp->VK->Prop}
theorem zHi (pa:PlainAttrs T) (slot:Slot T name id) (hty:typeOf (.builtin id) = pure (.type "method_descriptor")) (hm:MtR X id r) (ho:PE X o to) (ha:PA X (e :: es) t)
  (hbase:attributeBase o name X.env (eval o X.env) = eval o X.env:=by rfl)
  (hfew:((backTo cpos (starEach (e :: es) X.env)).all (λx=>!x.1) && (backToKw cpos (keywordEach [] X.env)).all (λx=>x.1.isSome)
   && decide ((e :: es).length + ([]:List Keyword).length + (if ([]:List Keyword).isEmpty then 0 else 1) < 30)) = true:=by rfl)
  (hline:(apos.endLine == cpos.line) = true:=by rfl) (hs:starEach (e :: es) X.env = (false,eval e X.env) :: starEach es X.env:=by rfl) (hplain:(backTo cpos (starEach es X.env)).any (·.1) = false:=by rfl) :
  PE X (.Call (.Attribute o name apos) (e :: es) [] cpos) (tBM X.K T r to t):=by
 intro pins s σ H Q I h;refine wpAny_Call_method_late hbase hfew hline rfl (thn (ho pins s σ H _ I h) λv s1 ⟨x,H1,I1,r1,ty,q1⟩=>?_);obtain ⟨h1,h2⟩:=zT8 I1 r1 ty;refine ⟨T,id,pa,slot,hty,h1,h2,?_⟩;have hA:=ha cpos pins s1 σ H1 _ I1 q1;rw [hs] at hA ⊢;refine Calls.callWith_builtin (by show (false || (backTo cpos (starEach es X.env)).any (·.1)) = false; rw [hplain] <;> rfl) (Calls.evalArgs_plain ?_);exact thn hA λus s2 ⟨vs,H2,I2,r2,q2⟩=>hm pins s2 σ H2 x vs v us Q I2 r1 r2 q2
end
end L2

namespace L2
open PySem PySem.Spec PyProof.Rows

def MtM (X:Cx) (id:String) (r:V->List V->Hp->VK->Prop):Prop :=
 ∀ (pins:List (Addr × Obj)) (s:Shared) (σ:St) (H:Hp) (x:V) (xs:List V) (v:Value) (us:List Value) (Q:VK),Inv X pins σ H s->uN x v->xI xs us->r x xs H Q ->
  wpAny (model X.prog X.w) X.A (call (.builtin id) (v :: us)) (EP X pins σ Q) X.xe s

theorem xI.one:∀ {x:V} {us:List Value},xI [x] us->∃ u,us = [u]/\uN x u
 | _,_,.cons r .nil=>⟨_,rfl,r⟩
theorem xI.zero:∀ {us:List Value},xI [] us->us = []
 | _,.nil=>rfl
section
variable {X:Cx} {pins:List (Addr × Obj)} {σ:St} {H:Hp} {s:Shared} {l b:Addr} {xs ys zs:List V}

theorem Inv.lset {its its':List Value} {n:Nat} {f:Array Value->Array Value} {t':Nat} (I:Inv X pins σ H s) (hH:H l = some (.lst xs))
  (e:s.heap.get? l = some { cls:=.type "list", data:=.seq its.toArray n }) (hf:f its.toArray = its'.toArray) (hv:xI ys its') (hz:ys.length<=sizeLine) :
  Inv X pins σ (upd H l (.lst ys)) { s with heap:=s.heap.update l (Obj.mapSeq f),toks:=t' }:=by
 have q:=PySem.IsL.update e f;rw [hf] at q;refine I.write (x:=l) (e:=l) (by rw [hH]; exact trivial) (.inl rfl) (λb' u hb hu=>(Heap.get?_update_other s.heap (Obj.mapSeq f) (Ne.symm hb)).trans hu) ⟨_,q⟩ ?_;exact ⟨hz,its',_,hv,q⟩
theorem Inv.lnew {its:List Value} {t':Nat} (I:Inv X pins σ H s) (hv:xI ys its) (hz:ys.length<=sizeLine) :
  Inv X pins σ (upd H s.heap.objs.size (.lst ys)) { s with heap:=s.heap.push { cls:=.type "list", data:=.seq its.toArray },toks:=t' } :=
 I.laid (λ_ _ q=>Heap.get?_push_of_some _ q) (Nat.le_refl _) ⟨hz,its,0,hv,Heap.get?_push_size _ rfl⟩
theorem Inv.fresh (I:Inv X pins σ H s):H s.heap.objs.size = none:=I.hok.fresh (Nat.le_refl _)
theorem Inv.lstM (I:Inv X pins σ H s) (hH:H l = some (.lst xs)):xs.length<=sizeLine/\∃ (its:List Value) (n:Nat),xI xs its/\xs.length = its.length/\s.heap.get? l = some { cls:=.type "list", data:=.seq its.toArray n }:=by
 obtain ⟨z,its,n,r,e⟩:=I.hok l _ hH;exact ⟨z,its,n,r,r.length,e⟩

theorem zOz {n:Nat} (h:n<=sizeLine):Builtin.List.listTooLong n = false:=by
 unfold Builtin.List.listTooLong;exact decide_eq_false (by omega)
end

section
variable {X:Cx}

def zRa:V->List V->Hp->VK->Prop:=λx vs H Q=>∃ l xs y,x = .ref l/\vs = [y]/\H l = some (.lst xs)/\xs.length < sizeLine/\Q .non (upd H l (.lst (xs ++ [y])))
theorem wS:MtM X "list.append" zRa:=by
 intro pins s σ H x vs v us Q I rx rv h;obtain ⟨l,xs,y,rfl,rfl,hH,hz,q⟩:=h;cases rx;obtain ⟨u,rfl,ru⟩:=rv.one;obtain ⟨z,its,n,r,hl,e⟩:=I.lstM hH;refine call_meets F.slot_list_append ⟨_,e,rfl⟩ F.entry_list_append (F.args_list_append_2 _ _) (PySem.list_append l its.toArray n u (by rw [List.size_toArray]; omega)) ⟨e,?_⟩;refine ⟨.non,_,I.lset (its':=its ++ [u]) hH e (by simp) (r.append (.cons ru .nil)) ?_,rfl,q⟩;rw [List.length_append,List.length_singleton];omega

def zRo:V->List V->Hp->VK->Prop:=λx vs H Q=>∃ l b xs zs,x = .ref l/\vs = [.ref b]/\H l = some (.lst xs)/\H b = some (.lst zs)/\xs.length + zs.length<=sizeLine/\Q .non (upd H l (.lst (xs ++ zs)))
theorem zNi:MtM X "list.extend" zRo:=by
 intro pins s σ H x vs v us Q I rx rv h;obtain ⟨l,b,xs,zs,rfl,rfl,hH,hB,hz,q⟩:=h;cases rx;obtain ⟨u,rfl,ru⟩:=rv.one;cases ru;obtain ⟨z,its,n,r,hl,e⟩:=I.lstM hH;obtain ⟨z2,its2,n2,r2,hl2,e2⟩:=I.lstM hB;have hsz:its.toArray.size + its2.toArray.size<=sizeLine:=by rw [List.size_toArray,List.size_toArray]; omega
 have hlong:¬ (!its.toArray.isEmpty && Builtin.List.listTooLong (its.toArray.size + its2.toArray.size)) = true:=by
  rw [zOz hsz,Bool.and_false];exact Bool.false_ne_true
 refine call_meets F.slot_list_extend ⟨_,e,rfl⟩ F.entry_list_extend (F.args_list_extend_2 _ _)
  (AutoSeq1.list_extend_list_list_0 l its.toArray n b its2.toArray n2 hlong (by rw [List.size_toArray]; omega) (by omega)) ⟨e,e2,?_⟩
 refine ⟨.non,_,I.lset (its':=its ++ its2) hH e (by simp) (r.append r2) ?_,rfl,q⟩;rw [List.length_append];omega

def rCat:R2:=λx y H Q=>∃ l b xs zs,x = .ref l/\y = .ref b/\H l = some (.lst xs)/\H b = some (.lst zs)/\xs.length + zs.length<=sizeLine/\∀ p,H p = none->Q (.ref p) (upd H p (.lst (xs ++ zs)))
theorem zDj:OpR X (binaryOp .Add) rCat:=by
 intro pins s σ H x y v u Q I rx ry h;obtain ⟨l,b,xs,zs,rfl,rfl,hH,hB,hz,q⟩:=h;cases rx;cases ry;obtain ⟨z,its,n,r,hl,e⟩:=I.lstM hH;obtain ⟨z2,its2,n2,r2,hl2,e2⟩:=I.lstM hB;refine PySem.P.add_list e e2 ?_ (by rw [List.size_toArray,List.size_toArray]; omega);have ea:its.toArray ++ its2.toArray = (its ++ its2).toArray:=by simp
 rw [ea];exact ⟨.ref _,_,I.lnew (t':=s.toks) (r.append r2) (by rw [List.length_append]; omega),rfl,q _ I.fresh⟩
end


end L2

namespace Att
open PySem PySem.W PySem.Calls PyProof.Rows

theorem zD1 {P:Params} {h:Heap} : ∀ (ns:List Int) (vs:List Value),WellAll P h vs (ns.map WData.int)->IntsAre vs ns:=by
 intro ns
 induction ns with
 | nil =>
  intro vs w;rw [List.map_nil] at w;cases w;exact .nil
 | cons n ns ih =>
  intro vs w;rw [List.map_cons] at w;cases w with
  | cons a b =>
   cases a;exact .cons _ _ (ih _ b)

theorem zNz {l:OpenLaw} {n:Nat} (hn:l.most = some n) {P:Params} {h:Heap} {args:List WData} {vals:List Value}
  (hpre:l.row.toRowW.claim.pre args = true) (hwl:WellAll P h vals args) :
  ∃ a vs ns,vals = [Value.ref a]/\args = [WData.list (ns.map WData.int)]/\h.get? a = some { cls:=.type "list", data:=.seq vs.toArray }/\IntsAre vs ns/\ns.length<=n:=by
 have hsh:WShape.hasAll [] args [.list .int] = true:=(pre_splitW hpre).1;have hc:l.pre.holds [] { args:=args } = true:=(pre_splitW hpre).2;obtain ⟨d,r,rfl,h1,h2⟩:=hasAllW_cons hsh;obtain rfl:=hasAllW_nil h2;obtain ⟨xs,rfl,h3⟩:=hasW_list h1;obtain ⟨ns,rfl⟩:=items_int h3;have hlen:ns.length<=n:=by
  unfold OpenLaw.pre at hc;have h4:(WTm.not (.lt (.lit (.int (n:Int))) (.len (.arg 0)))).holds [] { args:=[.list (ns.map .int)] } = true:=by
   have h4:=(holds_andW hc).1;rw [hn] at h4;exact h4
  have h5:=condW_of h4 (w_not (w_lt w_lit (w_len_list (w_arg rfl))));rw [List.length_map] at h5;refine Nat.le_of_not_lt λq=>?_;have q':(n:Int) < ((ns.length:Nat):Int):=by omega
  first
   | (rw [decide_eq_true q'] at h5; exact absurd h5 (by decide))
   | (simp at h5; omega)
 cases hwl with
 | cons w1 w2 =>
  cases w2;cases w1 with
  | list ho hall=>exact ⟨_,_,ns,rfl,rfl,ho,zD1 ns _ hall,hlen⟩

theorem zNu (l:OpenLaw) (args:List WData):l.row.toRowW.claim.post args (.bool true) args = true :=
 postW_of (r:=l.row.toRowW) (X:=(true == true))
  (show WShape.has [] (.bool true) .bool = true by first | rfl | decide | simp [WShape.has,WShape.arms,WShape.armsAll])
  (show (WTm.eq .res (.lit (.bool true))).value [] { args:=args,res:=some (.bool true),after:=args } = some (.bool (true == true)) from w_eq_bool (w_res rfl) w_lit) rfl

theorem attach_call {l:OpenLaw} {n:Nat} {q:Program} {loose:List Str} {XP:(Str->Option Value)->Heap->Prop} {YP:World->Heap->Prop} {d:DefRec}
  (hn:l.most = some n) (hdf:d.params.defaults = [])
  (call:∀ (w:World) (s₀ s₁:Shared) (mg mb:Str->Option Value) (fa:Addr) (o:Obj) (pm cd doc:Value) (a:Addr) (vs:List Value) (ns:List Int),
   Ground q loose [] XP w s₀ mg mb s₁.heap->YP w s₁.heap ->
   s₁.heap.get? fa = some o->o.data = .func (docDef d.name d.params d.body d.scope pm cd doc)->s₁.heap.CodeRec cd d.name->mg d.name = some (.ref fa) ->
   s₁.heap.get? a = some { cls:=.type "list", data:=.seq vs.toArray }->IntsAre vs ns->ns.length<=n->s₁.gens = #[] ->
   codeAny (model l.prog w) callerA (.call (.ref fa) ⟨[.ref a],[]⟩) (λr s'=>r = .ok (.ret (.bool true))/\OldK s₁.heap s'.heap/\s'.os = s₁.os/\AllBare s'.gens) s₁) :
  WalkO q loose XP YP l.row.toRowW d [] (λf vs=>PySem.call f vs):=by
 intro w s₀ s₁ mg mb G Y fa o pm cd doc dV kV ho hd hcd hD hmg hg args vals as hpre hlay hrd hwl hlo;obtain rfl:dV = .none:=Dflts.none hD hdf;obtain rfl:kV = .none:=Dflts.noKw hD;obtain ⟨a,vs,ns,rfl,rfl,hobj,hints,hlen⟩:=zNz hn hpre hwl;refine enter_call (codeAny_mono (call w s₀ s₁ mg mb fa o pm cd doc a vs ns G Y ho (fd_plain hd) hcd hmg hobj hints hlen hg) λr s' hq=>?_);obtain ⟨rfl,h2,h3,h4⟩:=hq;exact ⟨.inl ⟨.bool true,.bool true,[],rfl,λ_=>rfl,.bool true,zNu l _,λ_=>⟨List.Pairwise.nil,λ_ hm=>(nomatch hm)⟩⟩,h2,h3,h4⟩

section
variable {prog:Program} {w:World} {A:Around} {E:Value->Shared->Prop} {s:Shared} {K:Frag}

end
end Att

namespace L2
open PySem PySem.Spec PyProof.Rows

theorem zEb:∀ {vs:List Value} {ns:List Int},IntsAre vs ns->xI (ns.map V.int) vs
 | _,_,.nil=>.nil
 | _,_,.cons n t h=>.cons ⟨t,rfl⟩ (zEb h)

end L2

namespace L2
open PySem PySem.Spec PyProof.Rows

end L2

namespace L2
open PySem PySem.Spec PyProof.Rows


abbrev CX0:CXT:=λ_ _ _ _ _ _=>False
abbrev E0:XK:=λ_ _ _=>False
theorem pass0 {X:Cx} : zLh CX0 X E0:=λ_ _ _ _ _ _ _ h=>h.elim

structure Fun (K:PySem.W.Frag) (x qual:Str) (st:Stmt) (f:Addr) (fd:FuncData):Prop where
 ex:∃ (oc:Value) (od:Option Addr) (kV doc pm:Value) (an:Option Addr) (cdv ct:Value) (osl:Array (Option Value)),
  fd = PySem.W.fnOf x qual (vJ st) (uJ st) (zM st) .none kV doc pm an cdv ct/\K.lookup f = some ⟨oc,od,.func fd,osl⟩/\PySem.W.codeIn K cdv qual = true
 kp:PySem.W.keepIn K (.ref f) = true
section
variable {P:Program} {w:World} {K:PySem.W.Frag} {mg:Str->Option Value} {base:Heap}
theorem Fun.ok {x qual:Str} {st:Stmt} {f:Addr} {fd:FuncData} {N ps:List Str} {k:Nat} {sp:Sp} (F:Fun K x qual st f fd) (S:zS N ps (zM st)) (len:∀ vs H Q E,sp vs H Q E->vs.length = ps.length)
  (hbody:∀ (cdv:Value) (A:Around) (outer:List Env) (s:Shared) (H:Hp) (vs:List V) (Q:VK) (E:XK),Room k (A.deeper (envOfC qual (zM st) s.heap.objs.size f cdv))->sp vs H Q E ->
   ∃ t,PSs (cxOf CX0 P w K mg base N qual (zM st) f cdv A outer s H E).nox (uJ st) t/\t { nx:=λ_ H'=>Q .non H',rt:=Q } (start N vs) H):wL P w K mg base CX0 (k + 1) f fd ps sp:=by
 obtain ⟨oc,od,kV,doc,pm,an,cdv,ct,osl,rfl,lk,hcd⟩:=F.ex;refine zT7 lk hcd S len λA outer s H vs Q E hr hsp=>?_;obtain ⟨t,h,q⟩:=hbody cdv A outer s H vs Q E hr hsp;exact ⟨t,h.nox,q⟩
theorem Fun.binds {x qual:Str} {st:Stmt} {f:Addr} {fd:FuncData} {ps:List Str} (F:Fun K x qual st f fd)
  (h:∀ (kV doc pm:Value) (an:Option Addr) (cdv ct:Value) (us:List Value),us.length = ps.length->bindArgs (PySem.W.fnOf x qual (vJ st) (uJ st) (zM st) .none kV doc pm an cdv ct) ⟨us,[]⟩ = pure (ps.zip us)):zHk K fd ps []:=by
 obtain ⟨oc,od,kV,doc,pm,an,cdv,ct,osl,rfl,lk,hcd⟩:=F.ex;exact .all (h kV doc pm an cdv ct)
theorem zTa {x qual:Str} {st:Stmt} {f:Addr} {oc:Value} {od an:Option Addr} {osl:Array (Option Value)} {kV doc pm cdv ct:Value} (l:K.lookup f = some ⟨oc,od,.func (PySem.W.fnOf x qual (vJ st) (uJ st) (zM st) .none kV doc pm an cdv ct),osl⟩)
  (c:PySem.W.codeIn K cdv qual = true) (k:PySem.W.keepIn K (.ref f) = true):Fun K x qual st f (PySem.W.fnOf x qual (vJ st) (uJ st) (zM st) .none kV doc pm an cdv ct):=⟨⟨oc,od,kV,doc,pm,an,cdv,ct,osl,rfl,l,c⟩,k⟩
end
theorem yB {n:Nat} (h:n<=1000):n < sizeLine:=Nat.lt_of_le_of_lt h (by decide)

section
variable {X:Cx}
theorem pv (i:Nat) {x:Str} {pos:Pos} (hN:X.N[i]? = some x:=by rfl) (hv:Vis X.env.scope x:=by first | exact Or.inl rfl | exact Or.inr (Or.inl rfl) | exact Or.inr (Or.inr rfl)) (hd:(x == ("__debug__" : Str)) = false:=by decide)
  (hcd:(x == ("__classdict__" : Str)) = false:=by decide):PE X (.Name x pos) (zT4 i):=zTj hN hv hd hcd
end

theorem vD {A B:Prop} (h:B):if false = true then A else B:=by
 rw [if_neg Bool.false_ne_true];exact h
theorem zCb {A B:Prop} (h:A):if true = true then A else B:=by
 rw [if_pos rfl];exact h
def yG (H H':Hp):Prop:=∀ b o,H b = some o->H' b = some o
theorem yG.refl (H:Hp):yG H H:=λ_ _ h=>h
theorem yG.trans {H H1 H2:Hp} (a:yG H H1) (b:yG H1 H2):yG H H2:=λc o h=>b c o (a c o h)
theorem yG.free {H H':Hp} (e:yG H H') {l:Addr} (h:H' l = Option.none):H l = Option.none:=by
 cases q:H l with
 | none=>rfl
 | some o =>
  rw [e l o q] at h;cases h
theorem yG.seq {K:PySem.W.Frag} {H H':Hp} {a:Addr} {xs:List V} (e:yG H H') (h:SqL K H a xs):SqL K H' a xs:=by
 rcases h with (h | ⟨o,h⟩) | h
 ·exact .inl (.inl (e _ _ h))
 ·exact .inl (.inr ⟨o,e _ _ h⟩)
 ·exact .inr h

end L2

namespace Sea
def yI (ns:List Int):Nat:=ns.foldl (λg n=>Nat.gcd g n.natAbs) 0
theorem zH0 (ns:List Int) (n:Int):yI (ns ++ [n]) = Nat.gcd (yI ns) n.natAbs:=by
 unfold yI;rw [List.foldl_append];rfl
theorem zJy:∀ (ns:List Int) (g:Nat),ns.foldl (λg n=>Nat.gcd g n.natAbs) g ∣ g/\∀ n∈ns,ns.foldl (λg n=>Nat.gcd g n.natAbs) g ∣ n.natAbs
 | [],g=>⟨Nat.dvd_refl g,λ_ h=>nomatch h⟩
 | x :: r,g=>by
  obtain ⟨h1,h2⟩:=zJy r (Nat.gcd g x.natAbs);refine ⟨Nat.dvd_trans h1 (Nat.gcd_dvd_left _ _),λn hn=>?_⟩;rcases List.mem_cons.mp hn with e | e
  ·rw [e];exact Nat.dvd_trans h1 (Nat.gcd_dvd_right _ _)
  ·exact h2 n e
theorem qN {ns:List Int} {n:Int} (h:n∈ns):yI ns ∣ n.natAbs:=(zJy ns 0).2 n h
theorem wT {ns:List Int} {n:Int} (h:n∈ns):(yI ns:Int) ∣ n:=Int.ofNat_dvd_left.mpr (qN h)
theorem zJ1 {d:Nat} : ∀ (ns:List Int) (g:Nat),d ∣ g->(∀ n∈ns,d ∣ n.natAbs)->d ∣ ns.foldl (λg n=>Nat.gcd g n.natAbs) g
 | [],_,h,_=>h
 | x :: r,g,h,hr=>zJ1 r _ (Nat.dvd_gcd h (hr x List.mem_cons_self)) λn hn=>hr n (List.mem_cons_of_mem _ hn)
theorem zO9 {d:Nat} {ns:List Int} (h:∀ n∈ns,d ∣ n.natAbs):d ∣ yI ns:=zJ1 ns 0 (Nat.dvd_zero d) h
theorem wU {ns:List Int} {n:Int} (h:n∈ns) (h0:n≠0):0 < yI ns:=by
 rcases Nat.eq_zero_or_pos (yI ns) with e | e
 ·have q:=qN h;rw [e,Nat.zero_dvd] at q;omega
 ·exact e
theorem zDd {ns:List Int} {n:Int} (h:n∈ns) (h0:n≠0):(yI ns:Int)<=n.natAbs:=by
 have q:=Nat.le_of_dvd (by omega) (qN h);omega
def tJ (ns:List Int):List Int:=ns.map λn=>n / (yI ns:Int)
theorem yR {ns:List Int} {n:Int} (h:n∈ns):n / (yI ns:Int) * (yI ns:Int) = n:=Int.ediv_mul_cancel (wT h)
theorem zDr {ns:List Int} (h:0 < yI ns):yI (tJ ns) = 1:=by
 have key:yI ns * yI (tJ ns) ∣ yI ns:=by
  refine zO9 λn hn=>?_;have h1:yI (tJ ns) ∣ (n / (yI ns:Int)).natAbs:=qN (List.mem_map.mpr ⟨n,hn,rfl⟩);obtain ⟨c,hc⟩:=h1;have h2:=congrArg Int.natAbs (yR hn);rw [Int.natAbs_mul,Int.natAbs_natCast,hc] at h2;rw [<- h2];exact ⟨c,by rw [Nat.mul_comm,Nat.mul_assoc]⟩
 obtain ⟨c,hc⟩:=key;have h3:yI ns * (yI (tJ ns) * c) = yI ns * 1:=by
  rw [<- Nat.mul_assoc,<- hc,Nat.mul_one]
 have h4:=Nat.eq_of_mul_eq_mul_left h h3;exact Nat.dvd_one.mp ⟨c,h4.symm⟩
theorem zJg (x y:Int):yI [x,y] = Nat.gcd x.natAbs y.natAbs:=by
 show Nat.gcd (Nat.gcd 0 x.natAbs) y.natAbs = _;rw [Nat.gcd_zero_left]
theorem zJ8 (x y z:Int):yI [x,y,z] = Nat.gcd (Nat.gcd x.natAbs y.natAbs) z.natAbs:=by
 show Nat.gcd (Nat.gcd (Nat.gcd 0 x.natAbs) y.natAbs) z.natAbs = _;rw [Nat.gcd_zero_left]
theorem zJf (ns:List Int):yI (ns.map λn=>-n) = yI ns:=by
 have key:∀ (l:List Int) (g:Nat),(l.map λn=>-n).foldl (λg n=>Nat.gcd g n.natAbs) g = l.foldl (λg n=>Nat.gcd g n.natAbs) g:=by
  intro l
  induction l with
  | nil=>intro g; rfl
  | cons x r ih =>
   intro g;show (r.map λn=>-n).foldl _ (Nat.gcd g (-x).natAbs) = r.foldl _ (Nat.gcd g x.natAbs);rw [ih,Int.natAbs_neg]
 exact key ns 0
theorem zI7 {a b:Int} (ha:0<=a) (hb:0 < b):Nat.gcd b.toNat (a % b).toNat = Nat.gcd a.toNat b.toNat:=by
 obtain ⟨m,rfl⟩:=Int.eq_ofNat_of_zero_le ha;obtain ⟨n,rfl⟩:=Int.eq_ofNat_of_zero_le (Int.le_of_lt hb);have e:((m:Int) % (n:Int)).toNat = m % n:=by
  rw [<- Int.natCast_emod];rfl
 show Nat.gcd n ((m:Int) % (n:Int)).toNat = Nat.gcd m n;rw [e,Nat.gcd_comm m n,Nat.gcd_rec n m,Nat.gcd_comm]
theorem zQd (i:Int):(if i < 0 then -i else i) = (i.natAbs:Int):=by
 split <;> omega
end Sea
namespace Sea
structure rP (t b x y:Int):Prop where
 pos:1<=y
 low:Nat.gcd x.natAbs y.natAbs = 1
 eq:x * b = y * t
 xle:x.natAbs<=t.natAbs
 yle:y.natAbs<=b.natAbs
theorem wZ (n:Int) {g:Int} (hg:0 < g) (h:g ∣ n):(n / g).natAbs<=n.natAbs:=by
 obtain ⟨c,hc⟩:=h;subst hc;rw [Int.mul_ediv_cancel_left c (by omega),Int.natAbs_mul];exact Nat.le_mul_of_pos_left _ (by omega)
theorem zK7 (t:Int) {b:Int} (hb:b≠0):∃ x y:Int,(tJ (if b < 0 then [t,b].map (λn=>-n) else [t,b])) = [x,y]/\rP t b x y:=by
 have key:∀ (t b:Int),0 < b->∃ x y:Int,tJ [t,b] = [x,y]/\rP t b x y:=λt b hb=>by
  have gp:0 < yI [t,b]:=wU (n:=b) (by simp) (by omega);have e1:=yR (ns:=[t,b]) (n:=t) (by simp);have e2:=yR (ns:=[t,b]) (n:=b) (by simp);have gI:(0:Int) < (yI [t,b]:Int):=by omega
  refine ⟨t / (yI [t,b]:Int),b / (yI [t,b]:Int),rfl,?_,?_,?_,wZ t gI (wT (by simp)),wZ b gI (wT (by simp))⟩
  ·exact Int.ediv_pos_of_pos_of_dvd hb (Int.le_of_lt gI) (wT (by simp))
  ·have h3:=zDr gp;rw [<- zJg];exact h3
  ·generalize (yI [t,b]:Int) = g at e1 e2
   calc t / g * b = t / g * (b / g * g):=by rw [e2]
    _ = b / g * (t / g * g):=by rw [<- Int.mul_assoc,<- Int.mul_assoc,Int.mul_comm (t / g)]
    _ = b / g * t:=by rw [e1]
 by_cases h:b < 0
 ·rw [if_pos h];obtain ⟨x,y,e,p⟩:=key (-t) (-b) (by omega);refine ⟨x,y,e,p.pos,p.low,?_,by have:=p.xle; omega,by have:=p.yle; omega⟩;have q:=p.eq;rw [Int.mul_neg,Int.mul_neg] at q;omega
 ·rw [if_neg h];exact key t b (by omega)
end Sea
namespace Sea
theorem zG (a b:Int) {m n:Nat} (ha:a.natAbs<=m) (hb:b.natAbs<=n):(a * b).natAbs<=m * n:=by
 rw [Int.natAbs_mul];exact Nat.mul_le_mul ha hb
theorem zTy {b:Int} (h:b.natAbs<=10 ^ 40):b.natAbs < 10 ^ 500:=Nat.lt_of_le_of_lt h (by decide +kernel)
theorem zGs {c b x y:Int} (p:rP (0 * c) b x y):x = 0/\y = 1:=by
 have h1:=p.xle;rw [Int.zero_mul] at h1;have hx:x = 0:=by
  have:(0:Int).natAbs = 0:=rfl;omega
 have h2:=p.low;rw [hx] at h2;have h3:y.natAbs = 1:=by
  have e:Nat.gcd (0:Int).natAbs y.natAbs = y.natAbs:=Nat.gcd_zero_left _;omega
 have h4:=p.pos;exact ⟨hx,by omega⟩
end Sea
namespace Sea
theorem zD7 {X Y:Int} (h:X≠0\/Y≠0):∃ x y:Int,tJ [X,Y] = [x,y]/\0 < yI [X,Y]/\(yI [X,Y]<=X.natAbs\/yI [X,Y]<=Y.natAbs)/\Nat.gcd x.natAbs y.natAbs = 1/\x * Y - y * X = 0/\0 < x * X + y * Y/\x.natAbs<=X.natAbs/\y.natAbs<=Y.natAbs:=by
 have gp:0 < yI [X,Y]:=by
  rcases h with h | h
  ·exact wU (n:=X) (by simp) h
  ·exact wU (n:=Y) (by simp) h
 have gI:(0:Int) < (yI [X,Y]:Int):=by omega
 have e1:=yR (ns:=[X,Y]) (n:=X) (by simp);have e2:=yR (ns:=[X,Y]) (n:=Y) (by simp);refine ⟨X / (yI [X,Y]:Int),Y / (yI [X,Y]:Int),rfl,gp,?_,?_,?_,?_,wZ X gI (wT (by simp)),wZ Y gI (wT (by simp))⟩
 ·rcases h with h | h
  ·exact .inl (Nat.le_of_dvd (by omega) (qN (by simp)))
  ·exact .inr (Nat.le_of_dvd (by omega) (qN (by simp)))
 ·rw [<- zJg];exact zDr gp
 ·generalize (yI [X,Y]:Int) = g at e1 e2;generalize X / g = x at e1;generalize Y / g = y at e2;rw [<- e1,<- e2,<- Int.mul_assoc,<- Int.mul_assoc,Int.mul_comm x y];omega
 ·generalize (yI [X,Y]:Int) = g at e1 e2 gI;have f1:0<=X / g * X:=by
   have:X / g * X = X / g * (X / g) * g:=by rw [Int.mul_assoc,e1]
   rw [this];exact Int.mul_nonneg (by rw [<- Int.natAbs_mul_self]; exact Int.natCast_nonneg _) (Int.le_of_lt gI)
  have f2:0<=Y / g * Y:=by
   have:Y / g * Y = Y / g * (Y / g) * g:=by rw [Int.mul_assoc,e2]
   rw [this];exact Int.mul_nonneg (by rw [<- Int.natAbs_mul_self]; exact Int.natCast_nonneg _) (Int.le_of_lt gI)
  rcases h with h | h
  ·have:X / g * X≠0:=Int.mul_ne_zero (λz=>h (by rw [<- e1,z,Int.zero_mul])) h;omega
  ·have:Y / g * Y≠0:=Int.mul_ne_zero (λz=>h (by rw [<- e2,z,Int.zero_mul])) h;omega
end Sea
namespace Sea
end Sea
namespace Sea
def upL (X Y W:Int):List Int:=if W < 0 then [-X,-Y,-W] else [X,Y,W]
theorem zRl {X Y W:Int} (h:W≠0):upL (-X) (-Y) (-W) = upL X Y W:=by
 unfold upL;by_cases c:W < 0
 ·rw [if_pos c,if_neg (by omega)]
 ·rw [if_neg c,if_pos (by omega),Int.neg_neg,Int.neg_neg,Int.neg_neg]
structure zNx (X Y W x y w:Int):Prop where
 pos:1<=w
 low:Nat.gcd (Nat.gcd x.natAbs y.natAbs) w.natAbs = 1
 ex:x * W = X * w
 ey:y * W = Y * w
 xle:x.natAbs<=X.natAbs
 yle:y.natAbs<=Y.natAbs
 wle:w.natAbs<=W.natAbs
theorem zJe {X Y W:Int} (h:0 < W):∃ x y w:Int,tJ [X,Y,W] = [x,y,w]/\zNx X Y W x y w:=by
 have gp:0 < yI [X,Y,W]:=wU (n:=W) (by simp) (by omega);have gI:(0:Int) < (yI [X,Y,W]:Int):=by omega
 have e1:=yR (ns:=[X,Y,W]) (n:=X) (by simp);have e2:=yR (ns:=[X,Y,W]) (n:=Y) (by simp);have e3:=yR (ns:=[X,Y,W]) (n:=W) (by simp);have lo:=zDr gp;refine ⟨X / (yI [X,Y,W]:Int),Y / (yI [X,Y,W]:Int),W / (yI [X,Y,W]:Int),rfl,Int.ediv_pos_of_pos_of_dvd h (Int.le_of_lt gI) (wT (by simp)),?_,?_,?_,wZ X gI (wT (by simp)),wZ Y gI (wT (by simp)),wZ W gI (wT (by simp))⟩
 ·rw [<- zJ8];exact lo
 ·generalize (yI [X,Y,W]:Int) = g at e1 e3;generalize X / g = x at e1;generalize W / g = w at e3;rw [<- e1,<- e3,Int.mul_assoc,Int.mul_comm g w]
 ·generalize (yI [X,Y,W]:Int) = g at e2 e3;generalize Y / g = y at e2;generalize W / g = w at e3;rw [<- e2,<- e3,Int.mul_assoc,Int.mul_comm g w]
theorem zAv {X Y W:Int} (h:W≠0):∃ x y w:Int,tJ (upL X Y W) = [x,y,w]/\zNx X Y W x y w:=by
 unfold upL;by_cases c:W < 0
 ·rw [if_pos c];obtain ⟨x,y,w,e,p⟩:=zJe (X:=-X) (Y:=-Y) (W:=-W) (by omega);refine ⟨x,y,w,e,p.pos,p.low,?_,?_,by have:=p.xle; omega,by have:=p.yle; omega,by have:=p.wle; omega⟩
  ·have q:=p.ex;rw [Int.mul_neg,Int.neg_mul] at q;omega
  ·have q:=p.ey;rw [Int.mul_neg,Int.neg_mul] at q;omega
 ·rw [if_neg c];exact zJe (by omega)
theorem zFk {A B C X Y W x y w:Int} (h:W≠0) (p:zNx X Y W x y w) (e:A * X + B * Y = C * W):A * x + B * y = C * w:=by
 refine Int.eq_of_mul_eq_mul_right h ?_;have e1:(A * x + B * y) * W = A * (x * W) + B * (y * W):=by rw [Int.add_mul,Int.mul_assoc,Int.mul_assoc]
 have e2:A * (X * w) + B * (Y * w) = (A * X + B * Y) * w:=by rw [Int.add_mul,Int.mul_assoc,Int.mul_assoc]
 rw [e1,p.ex,p.ey,e2,e,Int.mul_assoc,Int.mul_comm W w,<- Int.mul_assoc]
theorem zOf (A1 B1 C1 A2 B2 C2:Int):A1 * (C1 * B2 - B1 * C2) + B1 * (A1 * C2 - C1 * A2) = C1 * (A1 * B2 - B1 * A2):=by
 simp only [Int.mul_sub,Int.mul_comm,Int.mul_left_comm];omega
theorem zLi (A1 B1 C1 A2 B2 C2:Int):A2 * (C1 * B2 - B1 * C2) + B2 * (A1 * C2 - C1 * A2) = C2 * (A1 * B2 - B1 * A2):=by
 simp only [Int.mul_sub,Int.mul_comm,Int.mul_left_comm];omega
end Sea
namespace Sea
end Sea

namespace Sea
theorem zFf {a b:Int} (h:a≠0\/b≠0):1<=a * a + b * b:=by
 have s1:0<=a * a:=by rw [<- Int.natAbs_mul_self]; exact Int.natCast_nonneg _
 have s2:0<=b * b:=by rw [<- Int.natAbs_mul_self]; exact Int.natCast_nonneg _
 rcases h with h | h
 ·have:a * a≠0:=Int.mul_ne_zero h h;omega
 ·have:b * b≠0:=Int.mul_ne_zero h h;omega
end Sea
namespace Sea
end Sea

namespace Sea
abbrev SpT:=Nat × Int × Int × Int
def ahB (s t:SpT):Bool:=if s.2.1 * t.2.2.2 - t.2.1 * s.2.2.2 = 0 then decide (s.2.2.1 * t.2.2.2 < t.2.2.1 * s.2.2.2) else decide (s.2.1 * t.2.2.2 - t.2.1 * s.2.2.2 < 0)
def xD:List SpT->List SpT->List SpT
 | xs,[]=>xs
 | xs,o :: r=>xs.takeWhile (λx=>!ahB o x) ++ o :: xD (xs.dropWhile λx=>!ahB o x) r
theorem rD:∀ (ys xs:List SpT),(xD xs ys).Perm (xs ++ ys)
 | [],xs=>by rw [xD,List.append_nil]
 | o :: r,xs=>by
  rw [xD];have h:=rD r (xs.dropWhile λx=>!ahB o x);have e:xs.takeWhile (λx=>!ahB o x) ++ xs.dropWhile (λx=>!ahB o x) = xs:=List.takeWhile_append_dropWhile;refine ((h.cons o).append_left _).trans ?_;conv=>rhs; rw [<- e]
  rw [List.append_assoc];refine List.Perm.append_left _ ?_;exact (List.perm_middle).symm
def qY:Nat->List SpT->List SpT
 | 0,xs=>xs
 | n + 1,xs=>if xs.length < 2 then xs else xD (qY n (xs.take (xs.length / 2))) (qY n (xs.drop (xs.length / 2)))
theorem uU:∀ (n:Nat) (xs:List SpT),(qY n xs).Perm xs
 | 0,_=>List.Perm.refl _
 | n + 1,xs=>by
  rw [qY];split
  ·exact List.Perm.refl _
  ·refine (rD _ _).trans (((uU n _).append (uU n _)).trans ?_);rw [List.take_append_drop]
end Sea

namespace L2
open PySem PySem.Spec PyProof.Rows

structure CC where
 C:Addr
 s:Shared
 H:Hp
 fp:List Addr

def qD (env:Env):List (Str × NameKind)->List (Str × Addr)->List (Str × Addr)
 | [],cs=>cs
 | (n,k) :: r,cs=>qD env r (if (k == NameKind.free) = true then (n,(env.cells.lookup n).getD 0) :: cs else cs)
theorem zIw {scope:Scope} {env:Env} (h:∀ x∈scope.names,x.2 = .free->∃ c,env.cells.lookup x.1 = some c):closureFor scope env = pure (qD env scope.names []):=by
 simp only [closureFor];have key:∀ (names:List (Str × NameKind)) (cs:List (Str × Addr)),(∀ x∈names,x.2 = .free->∃ c,env.cells.lookup x.1 = some c) ->
  (forIn names cs (λ(x:Str × NameKind) (r:List (Str × Addr))=>match x with | (name,kind)=>if (kind == NameKind.free) = true then (do let a <- cellOf env name; pure (ForInStep.yield ((name,a) :: r))) else pure (ForInStep.yield r)):Sem (List (Str × Addr))) = pure (qD env names cs):=by
  intro names
  induction names with
  | nil=>intro cs _; rfl
  | cons x r ih =>
   intro cs hx;obtain ⟨n,k⟩:=x;rw [List.forIn_cons];have hr:=ih (if (k == NameKind.free) = true then (n,(env.cells.lookup n).getD 0) :: cs else cs) λy hy=>hx y (List.mem_cons_of_mem _ hy);by_cases hk:(k == NameKind.free) = true
   ·obtain ⟨c,hc⟩:=hx (n,k) List.mem_cons_self (by simpa using hk);have e:cellOf env n = pure c:=by unfold cellOf; rw [hc]
    rw [if_pos hk] at hr;have hc':env.cells.lookup n = some c:=hc;rw [hc'] at hr;show (((if (k == NameKind.free) = true then (do let a <- cellOf env n; pure (ForInStep.yield ((n,a) :: cs))) else pure (ForInStep.yield cs)):Sem _) >>= _) = _;rw [if_pos hk,e];refine Eq.trans ?_ (hr.trans ?_)
    ·rfl
    ·rw [qD,if_pos hk,hc']
   ·rw [if_neg hk] at hr;show (((if (k == NameKind.free) = true then (do let a <- cellOf env n; pure (ForInStep.yield ((n,a) :: cs))) else pure (ForInStep.yield cs)):Sem _) >>= _) = _;rw [if_neg hk];refine Eq.trans ?_ (hr.trans ?_)
    ·rfl
    ·rw [qD,if_neg hk]
 exact congrArg (λ(z:Sem (List (Str × Addr)))=>z >>= λcs=>pure cs) (key scope.names [] h)
theorem tD {env:Env} : ∀ (names:List (Str × NameKind)) (cs:List (Str × Addr)),(∀ x∈names,x.2 = .free->∃ c,env.cells.lookup x.1 = some c) ->
  (∀ x c,cs.lookup x = some c->env.cells.lookup x = some c)->∀ x c,(qD env names cs).lookup x = some c->env.cells.lookup x = some c
 | [],_,_,hc=>hc
 | (n,k) :: r,cs,h,hc=>by
  refine tD r _ (λy hy=>h y (List.mem_cons_of_mem _ hy)) λx c=>?_;by_cases hk:(k == NameKind.free) = true
  ·rw [if_pos hk];obtain ⟨d,hd⟩:=h (n,k) List.mem_cons_self (by simpa using hk);have hd':env.cells.lookup n = some d:=hd;intro e;rw [List.lookup_cons] at e;cases hx:x == n with
   | true =>
    rw [hx,hd'] at e;have ex:x = n:=by simpa using hx
    rw [ex,hd'];exact e
   | false =>
    rw [hx] at e;exact hc x c e
  ·rw [if_neg hk];exact hc x c
theorem zDx {env:Env} : ∀ (names:List (Str × NameKind)) (cs:List (Str × Addr)) (x:Str),((x,NameKind.free)∈names\/∃ c,cs.lookup x = some c)->∃ c,(qD env names cs).lookup x = some c
 | [],_,_,h=>h.elim (λz=>nomatch z) id
 | (n,k) :: r,cs,x,h=>by
  refine zDx r _ x ?_;by_cases hk:(k == NameKind.free) = true
  ·rw [if_pos hk];cases hx:x == n with
   | true=>exact .inr ⟨_,by rw [List.lookup_cons,hx]⟩
   | false =>
    rcases h with h | ⟨c,h⟩
    ·rcases List.mem_cons.mp h with e | e
     ·injection e with e1 _
      subst e1;simp at hx
     ·exact .inl e
    ·exact .inr ⟨c,by rw [List.lookup_cons,hx]; exact h⟩
  ·rw [if_neg hk];rcases h with h | h
   ·rcases List.mem_cons.mp h with e | e
    ·injection e with _ e2
     subst e2;exact absurd rfl hk
    ·exact .inl e
   ·exact .inr h
theorem zCf {env:Env} : ∀ {names:List (Str × NameKind)} {x:Str},names.lookup x = some .free ->
  (names.map λ(n,k)=>if (k == NameKind.free && env.scope.kind == .function && env.kindOf n == some .cell) then (n,NameKind.cell) else (n,k)).lookup x = some .cell \/
  (names.map λ(n,k)=>if (k == NameKind.free && env.scope.kind == .function && env.kindOf n == some .cell) then (n,NameKind.cell) else (n,k)).lookup x = some .free
 | [],_,h=>by simp at h
 | (n,k) :: r,x,h=>by
  have ih:=@zCf env r x;show List.lookup x ((if (k == NameKind.free && env.scope.kind == .function && env.kindOf n == some .cell) = true then (n,NameKind.cell) else (n,k)) :: _) = _\/List.lookup x ((if (k == NameKind.free && env.scope.kind == .function && env.kindOf n == some .cell) = true then (n,NameKind.cell) else (n,k)) :: _) = _;by_cases hc:(k == NameKind.free && env.scope.kind == .function && env.kindOf n == some .cell) = true
  ·rw [if_pos hc];cases hx:x == n with
   | true=>exact .inl (by rw [List.lookup_cons,hx])
   | false =>
    rw [List.lookup_cons,hx] at h;rw [List.lookup_cons,hx];exact ih h
  ·rw [if_neg hc];cases hx:x == n with
   | true =>
    rw [List.lookup_cons,hx] at h;exact .inr (by rw [List.lookup_cons,hx]; exact h)
   | false =>
    rw [List.lookup_cons,hx] at h;rw [List.lookup_cons,hx];exact ih h
theorem qE {env:Env} : ∀ {names:List (Str × NameKind)} {x:Str} {j:NameKind},(∀ y∈names,y.2≠.cell)->(j = .cell\/j = .free) ->
  (names.map λ(n,k)=>if (k == NameKind.free && env.scope.kind == .function && env.kindOf n == some .cell) then (n,NameKind.cell) else (n,k)).lookup x = some j->(x,NameKind.free)∈names
 | [],_,_,_,_,h=>by simp at h
 | (n,k) :: r,x,j,hn,hj,h=>by
  have ih:=@qE env r x j (λy hy=>hn y (List.mem_cons_of_mem _ hy)) hj;have hk0:k≠.cell:=hn (n,k) List.mem_cons_self
  replace h:List.lookup x ((if (k == NameKind.free && env.scope.kind == .function && env.kindOf n == some .cell) = true then (n,NameKind.cell) else (n,k)) :: (r.map λ(n,k)=>if (k == NameKind.free && env.scope.kind == .function && env.kindOf n == some .cell) then (n,NameKind.cell) else (n,k))) = some j:=h
  by_cases hc:(k == NameKind.free && env.scope.kind == .function && env.kindOf n == some .cell) = true
  ·rw [if_pos hc] at h;have hf:k = .free:=by
    simp only [Bool.and_eq_true] at hc;simpa using hc.1.1
   cases hx:x == n with
   | true =>
    have ex:x = n:=by simpa using hx
    subst ex;rw [<- hf];exact List.mem_cons_self
   | false =>
    rw [List.lookup_cons,hx] at h;exact List.mem_cons_of_mem _ (ih h)
  ·rw [if_neg hc] at h;cases hx:x == n with
   | true =>
    rw [List.lookup_cons,hx] at h;have ex:x = n:=by simpa using hx
    have ek:k = j:=Option.some.inj h;subst ex;rcases hj with hj | hj
    ·exact absurd (ek.trans hj) hk0
    ·rw [<- hj,<- ek];exact List.mem_cons_self
   | false =>
    rw [List.lookup_cons,hx] at h;exact List.mem_cons_of_mem _ (ih h)

def xB (X:Cx) (N:List Str) (scope:Scope) (c:CC):Cx where
 prog:=X.prog
 w:=X.w
 K:=X.K
 mg:=X.mg
 base:=X.base
 A:=X.A
 N:=N
 s₀:=c.s
 H₀:=c.H
 env:=compEnvC scope (qD X.env scope.names []) c.C X.env
 outer:=X.stack
 stack:=X.stack
 ex:=c.fp
 fn:=λ_=>false
 calm:=X.calm
 pn:=[]
 xe:=λ_ _=>False

def zFa (X:Cx) (scope:Scope):List (Str × Nat)->Prop
 | []=>True
 | p :: r=>(X.N[p.2]? = some p.1/\scope.names.lookup p.1 = some .free/\(X.env.kindOf p.1 = some .cell\/X.env.kindOf p.1 = some .free))/\zFa X scope r
theorem zFa.mem {X:Cx} {scope:Scope} : ∀ {caps:List (Str × Nat)},zFa X scope caps->∀ p∈caps,X.N[p.2]? = some p.1/\scope.names.lookup p.1 = some .free/\(X.env.kindOf p.1 = some .cell\/X.env.kindOf p.1 = some .free)
 | [],_,_,h=>nomatch h
 | q :: r,h,p,hp=>by
  rcases List.mem_cons.mp hp with e | e
  ·rw [e]; exact h.1
  ·exact zFa.mem h.2 p e
structure tG (X:Cx) (caps:List (Str × Nat)) (scope:Scope):Prop where
 kind:scope.kind = .function
 nocell:∀ y∈scope.names,y.2≠.cell
 loc:∀ y∈scope.names,y.2 = .local->scope.names.lookup y.1 = some .local
 clos:(scope.names.all λx=>!(x.2 == .free) || (X.env.cells.lookup x.1).isSome) = true
 cap:zFa X scope caps
theorem tG.cells {X:Cx} {caps:List (Str × Nat)} {scope:Scope} (S:tG X caps scope):∀ x∈scope.names,x.2 = .free->∃ c,X.env.cells.lookup x.1 = some c:=λx hx hf=>by
 have h:=List.all_eq_true.mp S.clos x hx;rw [hf] at h;simp only [Bool.or_eq_true] at h;rcases h with h | h
 ·exact absurd h (by decide)
 ·exact Option.isSome_iff_exists.mp h

def zGm (caps:List (Str × Nat)) (nt:Nat) (σ:St):St:=List.replicate nt none ++ caps.map λp=>(σ[p.2]?).join

def zSf (Y:Cx) (ifs:List Expr) (t:TT):Prop :=
 ∀ (pins:List (Addr × Obj)) (s:Shared) (σ:St) (H:Hp) (Q:Bool->Hp->Prop),Inv Y pins σ H s->t σ H Q ->
  wpAny (model Y.prog Y.w) Y.A (forIn ifs true λc r=>if r = true then do let ok <- isTrue c Y.env (eval c Y.env); pure (ForInStep.yield ok) else pure (ForInStep.yield r)) (TP Y pins σ Q) Y.xe s
def zRz:TT:=λ_ H Q=>Q true H
theorem xT {Y:Cx} : zSf Y [] zRz:=λ_ _ _ H _ I h=>wpAny_tests_nil ⟨H,I,h⟩
theorem zFo {Y:Cx} {c:Expr} {t:TT} (h:PT Y c t):zSf Y [c] t:=λpins s σ H Q I q=>wpAny_tests_one (h pins s σ H Q I q)

def zBz (J:It) (D:Addr) (g:TG) (tt:TT) (te:TE) (σ0:St) (H1:Hp) (Q:VK):Prop :=
 ∃ W:Nat->Nat->St->List V->Hp->Prop,(∃ m,W 0 m σ0 [] (upd H1 D (.lst [])))/\∀ i m σ ys H,W i m σ ys H->H D = some (.lst ys) /\
  ((J.stop i H/\Q (.ref D) H)\/(J.go i H/\∃ N:St->List V->Hp->Prop,(∀ σ' zs H',N σ' zs H'->∃ m',m' < m/\W (i + 1) m' σ' zs H')/\∀ x H',J.yld i H x H'->g x σ H' λσ2 H2=>tt σ2 H2 λb H3 =>
   if b = true then te σ2 H3 λy H4=>H4 D = some (.lst ys)/\ys.length < sizeLine/\N σ2 (ys ++ [y]) (upd H4 D (.lst (ys ++ [y]))) else N σ2 ys H3))
def zR0 (nt:Nat) (caps:List (Str × Nat)) (wi:TI) (g:CC->TG) (tt:CC->TT) (te:CC->TE):TE:=λσ H Q =>
 wi σ H λJ H1=>∀ (c:CC) (D:Addr),H1 D = none->zBz J D (g c) (tt c) (te c) (zGm caps nt σ) H1 Q

theorem zGd {α:Type} {t:Sem α} {Q Q':α->Shared->Prop} {M:Model} {A:Around} {E:Value->Shared->Prop} {s:Shared} (h:wpAny M A t Q (λ_ _=>False) s) (hQ:∀ a s,Q a s->Q' a s):wpAny M A t Q' E s:=wpAny_mono h hQ λ_ _ x=>x.elim
theorem Un.same {fs ex:List Addr} {H H':Hp} {h h1 h2:Heap} {C:Addr} (u:Un fs ex H H' h h1) (sb:Heap.SameBut C h1 h2) (hC:h.get? C = none):Un fs ex H H' h h2:=by
 have ne:∀ b o,h.get? b = some o->b≠C:=λb o e z=>by rw [z,hC] at e; cases e
 refine ⟨λb o e n hb hx=>(sb.2 b (ne b o e)).trans (u.keep b o e n hb hx),λb o e n hb hx=>?_,u.free,λb o e hx=>?_,u.tups,u.frzs,u.tbls⟩
 ·obtain ⟨sl,q⟩:=u.slot b o e n hb hx;exact ⟨sl,(sb.2 b (ne b o e)).trans q⟩
 ·obtain ⟨o',q⟩:=u.there b o e hx;exact ⟨o',(sb.2 b (ne b o e)).trans q⟩
theorem HOk.same {P:Program} {w:World} {H:Hp} {h h':Heap} {C:Addr} (k:HOk P w H h) (sb:Heap.SameBut C h h') (hC:H C = none):HOk P w H h':=λb o e=>by
 refine (k b o e).stay (λc v hc q=>(sb.2 c ?_).trans q) (λ_ q=>q) λ_ _ q=>q;rintro rfl;rcases hc with z | z
 ·rw [z,e] at hC; cases hC
 ·rw [hC] at z; cases z

section
variable {X:Cx} {T:List Str} {caps:List (Str × Nat)} {scope:Scope} {elt target iter:Expr} {ifs:List Expr} {pos:Pos} {wi:TI} {g:CC->TG} {tt:CC->TT} {te:CC->TE}

theorem zBt {pins:List (Addr × Obj)} {σ:St} {H2:Hp} {s2:Shared} {fp:List Addr} {C D:Addr} {h1:Heap} {tk:Nat} {m:Str->Option Value} (S:tG X caps scope) (I2:Inv X pins σ H2 s2) (f2:∀ b∈fp,zLd X pins H2 b)
  (hfp:∀ b∈fp,b < s2.heap.objs.size) (hD:s2.heap.objs.size<=D) (hC:s2.heap.objs.size<=C) (hDC:C≠D) (old:∀ b o,s2.heap.get? b = some o->h1.get? b = some o)
  (acc:∃ n,h1.get? D = some { cls:=.type "list", data:=.seq ([]:List Value).toArray n }) (hn:h1.Ns C m) :
  Inv (xB X (T ++ caps.map (·.1)) scope ⟨C,s2,H2,fp⟩) [] (zGm caps T.length σ) (upd H2 D (.lst [])) { s2 with heap:=h1,toks:=tk }:=by
 have cs:=tD (env:=X.env) scope.names [] S.cells (λ_ _ z=>by cases z);have cellOld:∀ x c,X.env.cells.lookup x = some c->c < s2.heap.objs.size:=λx c e=>by
  obtain ⟨v,q⟩:=I2.cell x c e;exact q.lt
 have stkNo:∀ b∈fp,b ∉ frs X.stack:=λb hb z=>by
  rcases List.mem_cons.mp (I2.stkSub b z) with e | e
  ·exact (f2 b hb).2.1 e
  ·exact (f2 b hb).2.2.1 e
 have fr:H2 D = none:=I2.hok.fresh hD;refine ⟨⟨I2.ok.mod,S.kind,I2.ok.glob,I2.ok.blt,hC,λx y c e1 e2=>I2.ok.inj x y c (cs x c e1) (cs y c e2),λx hx=>?_,λ_ _ z=>absurd (show false = true from z) Bool.false_ne_true,I2.ok.hd,I2.ok.frames,.inl rfl,λb hb=>⟨?_,λx c e=>(f2 b hb).2.2.2.2.1 x c (cs x c e)⟩,
  λb o e=>I2.bs b o e,Nat.le_trans I2.ok.bsz I2.sz,λb o e hb=>?_,stkNo,I2.stack,I2.stkFree⟩,rfl,I2.bare,?_,⟨m,hn,λi x v e1 e2 e3=>?_⟩,λx c e=>?_,?_,λx c e=>?_,λp hp=>absurd (show p∈([]:List (Addr × Obj)) from hp) (by simp),?_,?_⟩
 ·have hx':(x,NameKind.free)∈scope.names:=by
   rcases hx with z | z
   ·exact qE S.nocell (.inl rfl) z
   ·exact qE S.nocell (.inr rfl) z
  exact zDx scope.names [] x (.inl hx')
 ·exact Nat.ne_of_lt (Nat.lt_of_lt_of_le (hfp b hb) hC)
 ·rcases (f2 b hb).2.2.2.1 with z | z
  ·exact I2.ok.noex b o e z
  ·exact absurd (Nat.lt_of_lt_of_le (Heap.lt_size (show X.base.get? b = some o from e)) (Nat.le_trans I2.ok.bsz z)) (Nat.lt_irrefl _)
 ·exact Un.laid old hD fr
 ·have hlt:¬ i < T.length:=λhi=>by
   unfold zGm at e2;rw [List.getElem?_append_left (by simpa using hi),List.getElem?_replicate,if_pos hi] at e2;cases e2
  have hge:T.length<=i:=Nat.le_of_not_lt hlt;have e1':(T ++ caps.map (·.1))[i]? = some x:=e1;rw [List.getElem?_append_right hge,List.getElem?_map] at e1';unfold zGm at e2;rw [List.getElem?_append_right (by simpa using hge),List.length_replicate,List.getElem?_map] at e2;cases hp:caps[i - T.length]? with
  | none=>rw [hp] at e1'; cases e1'
  | some p =>
   rw [hp] at e1' e2;have ex:p.1 = x:=Option.some.inj e1';have ev:(σ[p.2]?).join = some v:=Option.some.inj e2;obtain ⟨hN,hf,hk⟩:=S.cap.mem p (List.mem_of_getElem? hp);have ev':σ[p.2]? = some (some v):=by
    cases hq:σ[p.2]? with
    | none=>rw [hq] at ev; cases ev
    | some o =>
     rw [hq] at ev;exact congrArg some ev
   obtain ⟨m2,_,hl2⟩:=I2.loc;obtain ⟨u,ru,l⟩:=hl2 p.2 p.1 v hN ev' (hk.elim (λz=>.inr (.inl z)) λz=>.inr (.inr z));refine ⟨u,ru,.inr ⟨?_,?_⟩⟩
   ·rw [<- ex];exact zCf (env:=X.env) hf
   ·rcases l with ⟨kl,_⟩ | ⟨_,c,ec,hcell⟩
    ·rcases hk with z | z <;> (rw [kl] at z; cases z)
    ·obtain ⟨d,hd⟩:=zDx (env:=X.env) scope.names [] p.1 (.inl (PySem.mem_of_lookup hf));have hd':=cs p.1 d hd;rw [ec] at hd';cases hd';obtain ⟨o,ho,hod⟩:=hcell;exact ⟨c,by rw [<- ex]; exact hd,o,old c o ho,hod⟩
 ·obtain ⟨v,o,ho,hd⟩:=I2.cell x c (cs x c e);exact ⟨v,o,old c o ho,hd⟩
 ·show upd H2 D (.lst []) C = none;rw [zP hDC];exact I2.hok.fresh hC
 ·show upd H2 D (.lst []) c = none;rw [zP (Nat.ne_of_lt (Nat.lt_of_lt_of_le (cellOld x c (cs x c e)) hD))];exact I2.freeC x c (cs x c e)
 ·obtain ⟨n,e⟩:=acc;exact I2.hok.laid old hD ⟨Nat.zero_le _,[],n,.nil,e⟩
 ·show (zGm caps T.length σ).length = (T ++ caps.map (·.1)).length;unfold zGm;rw [List.length_append,List.length_append,List.length_map,List.length_map,List.length_replicate]

theorem vI (S:tG X caps scope) (hc:X.calm = true) (hi:PI X target iter wi) (hg:∀ c,PG (xB X (T ++ caps.map (·.1)) scope c) target (g c)) (ht:∀ c,zSf (xB X (T ++ caps.map (·.1)) scope c) ifs (tt c)) (he:∀ c,PE (xB X (T ++ caps.map (·.1)) scope c) elt (te c))
  (hs:∀ x,foldedSetIterable iter X.env x = pure x:=by intro _; rfl):PE X (.ListComp elt [⟨target,iter,ifs,0⟩] scope pos) (zR0 T.length caps wi g tt te):=by
 intro pins s σ H Q I h;rw [eval_ListComp];refine wpAny_comprehension_free (use:=none) rfl hs (zIw S.cells) S.kind S.loc (thn (hi pins s σ H _ I h) λv s1 h1=>thn h1 λitv s2 h2=>?_);obtain ⟨it,fp,tn,J,H2,e,I2,TT,st2,f2,q2⟩:=h2;subst e;refine wpAny_newObj_type (wpAny_newFunctionEnv S.nocell (by intro y hy; simp at hy) (λh1 hn hsb=>?_) S.kind);dsimp only at hn hsb ⊢;generalize hg2:s2.heap.push { cls:=.type "list", dict:=none,data:=.seq ([]:List Value).toArray } = G at hn hsb ⊢;have hCv:G.objs.size = s2.heap.objs.size + 1:=by rw [<- hg2,Heap.size_push]
 have hDC:G.objs.size≠s2.heap.objs.size:=by rw [hCv]; exact Nat.succ_ne_self _
 have hCle:s2.heap.objs.size<=G.objs.size:=by rw [hCv]; exact Nat.le_succ _
 have old:∀ b o,s2.heap.get? b = some o->h1.get? b = some o:=λb o e=>hsb.extBut b o (Nat.ne_of_lt (Nat.lt_of_lt_of_le (Heap.lt_size e) hCle)) (Heap.get?_push_of_some _ (hg2 ▸ Heap.get?_push_of_some _ e));have hacc:∃ n,h1.get? s2.heap.objs.size = some { cls:=.type "list", data:=.seq ([]:List Value).toArray n }:=⟨_,hsb.extBut _ _ (Ne.symm hDC) (Heap.get?_push_of_some _ (hg2 ▸ Heap.get?_push_size _ rfl))⟩;have hfp:∀ b∈fp,b < s2.heap.objs.size:=λb hb=>by
  obtain ⟨o,e,_⟩:=TT.obj _ _ st2 b hb;exact Heap.lt_size e
 have cs:=tD (env:=X.env) scope.names [] S.cells (λ_ _ z=>by cases z);have I0:=zBt (T:=T) (tk:=s2.toks + ([]:List (Str × Value)).length) S I2 f2 hfp (Nat.le_refl _) hCle hDC old hacc hn;have st0:tn 0 h1:=TT.keep _ _ _ st2 λb _ o e=>old b o e;obtain ⟨W,⟨m0,w0⟩,turn⟩:=q2 ⟨G.objs.size,s2,H2,fp⟩ s2.heap.objs.size (I2.hok.fresh (Nat.le_refl _));have fr0:∀ b∈fp,upd H2 s2.heap.objs.size (.lst []) b = none:=λb hb=>by
  rw [zP (Nat.ne_of_lt (hfp b hb))];exact (f2 b hb).1
 have stat:∀ {H':Hp},(∀ b∈fp,H' b = none)->∀ b∈fp,zLd (xB X (T ++ caps.map (·.1)) scope ⟨G.objs.size,s2,H2,fp⟩) [] H' b:=λ{H'} hn' b hb =>
  ⟨hn' b hb,Nat.ne_of_lt (Nat.lt_of_lt_of_le (hfp b hb) hCle),I0.ok.exfs b hb,.inl hb,λx c e=>(f2 b hb).2.2.2.2.1 x c (cs x c e),λp hp=>absurd (show p∈([]:List (Addr × Obj)) from hp) (by simp)⟩
 have loop:codeAny (model X.prog X.w) X.A (.compLoop (.ListComp elt [⟨target,iter,ifs,0⟩] scope pos) 0 (.ref it) (.ref s2.heap.objs.size) (compEnvC scope (qD X.env scope.names []) G.objs.size X.env))
   (compPost (model X.prog X.w) X.A X.xe none (EP X pins σ Q) (.ref s2.heap.objs.size) G.objs.size) { s2 with heap:=h1,toks:=s2.toks + ([]:List (Str × Value)).length }:=by
  refine codeAny_loop rfl (λn s'=>∃ i σ' ys H',Inv (xB X (T ++ caps.map (·.1)) scope ⟨G.objs.size,s2,H2,fp⟩) [] σ' H' s'/\tn i s'.heap/\(∀ b∈fp,H' b = none)/\W i n σ' ys H') (λn s3 hI=>?_) m0 ⟨0,_,[],_,I0,st0,fr0,w0⟩;obtain ⟨i,σ3,ys,H3,I3,st3,fr3,w3⟩:=hI;show wpAny _ X.A ((compTurn (.ListComp elt [⟨target,iter,ifs,0⟩] scope pos) 0 (.ref it) (.ref s2.heap.objs.size) (compEnvC scope (qD X.env scope.names []) G.objs.size X.env)).onRaise (λx=>do noteFrame x (compEnvC scope (qD X.env scope.names []) G.objs.size X.env); theTreesLotGoes x)) _ _ s3;refine wpAny_noted ?_;rw [compTurn_list];refine wpAny_bind (wpAny_standAt (wpAny_bind ?_));obtain ⟨hD3,turn3⟩:=turn i n σ3 ys H3 w3;rcases turn3 with ⟨stop,qn⟩ | ⟨go,N,hN,step⟩
  ·refine zGd (TT.done (xB X (T ++ caps.map (·.1)) scope ⟨G.objs.size,s2,H2,fp⟩) rfl rfl rfl hc i [] s3 σ3 H3 _ I3 (stat fr3) st3 stop) λr s4 ⟨hr,I4⟩=>?_;subst hr;refine wpAny_pure ?_;show ∃ m,s4.heap.Ns G.objs.size m/\∀ h',Heap.SameBut G.objs.size s4.heap h'->EP X pins σ Q (.ref s2.heap.objs.size) { s4 with heap:=h' };obtain ⟨m4,hn4,_⟩:=I4.loc;refine ⟨m4,hn4,λh' sb=>⟨.ref s2.heap.objs.size,H3,?_,rfl,qn⟩⟩;refine I2.call' (s':={ s4 with heap:=h' }) (ch:=fp) I4.os (Un.same I4.base sb (Heap.get?_none_of_le hCle)) (HOk.same I4.hok sb I4.free) I4.bare λb hb=>?_;obtain ⟨_,f1,_,f3,f4,f5⟩:=f2 b hb;exact ⟨f3,f1,f4,f5⟩
  ·refine zGd (TT.item (xB X (T ++ caps.map (·.1)) scope ⟨G.objs.size,s2,H2,fp⟩) rfl rfl rfl hc i [] s3 σ3 H3 _ I3 (stat fr3) st3 go) λr s4 ⟨u,hr,h4⟩=>?_;subst hr;refine wpAny_bind (zGd h4 λ_ s5 ⟨x,H5,I5,r5,y5,st5,fr5⟩=>?_);have I5':=I5.pinned (stat fr5) (TT.obj _ _ st5);refine wpAny_bind (zGd (hg _ _ s5 σ3 H5 x u _ I5' r5 (step x H5 y5)) λ_ s6 ⟨σ6,H6,I6,q6⟩=>?_);have again:∀ {s7:Shared} {σ7:St} {zs:List V} {H7:Hp},Inv (xB X (T ++ caps.map (·.1)) scope ⟨G.objs.size,s2,H2,fp⟩) ([] ++ zC9 fp s5.heap) σ7 H7 s7->N σ7 zs H7 ->
     ∃ m,m < n/\∃ i σ' ys H',Inv (xB X (T ++ caps.map (·.1)) scope ⟨G.objs.size,s2,H2,fp⟩) [] σ' H' s7/\tn i s7.heap/\(∀ b∈fp,H' b = none)/\W i m σ' ys H':=λ{s7 σ7 zs H7} I7 n7=>by
    obtain ⟨m',hm,w7⟩:=hN σ7 zs H7 n7;refine ⟨m',hm,i + 1,σ7,zs,H7,I7.unpinned,TT.keep _ _ _ st5 λb hb o e=>(I7.pin (b,o) (List.mem_append_right _ (List.mem_append_right _ (uA hb e)))).1,λb hb=>?_,w7⟩;obtain ⟨o,e,d⟩:=TT.obj _ _ st5 b hb;exact (I7.pin (b,o) (List.mem_append_right _ (List.mem_append_right _ (uA hb e)))).2.1
   refine wpAny_bind (zGd (ht _ _ s6 σ6 H6 _ I6 q6) λok s7 ⟨H7,I7,q7⟩=>?_);cases ok with
   | false=>exact wpAny_pure ⟨rfl,again I7 q7⟩
   | true =>
    refine wpAny_bind (wpAny_bind (zGd (he _ _ s7 σ6 H7 _ I7 q7) λy s8 ⟨yv,H8,I8,r8,hD8,hl8,q8⟩=>?_));refine wpAny_bind (zGd (wS _ s8 σ6 H8 (.ref s2.heap.objs.size) [yv] (.ref s2.heap.objs.size) [y] (λ_ H9=>N σ6 (ys ++ [yv]) H9) I8 rfl (.cons r8 .nil) ⟨_,ys,yv,rfl,rfl,hD8,hl8,q8⟩) λ_ s9 ⟨_,H9,I9,_,q9⟩=>?_);exact wpAny_pure (wpAny_pure ⟨rfl,again I9 q9⟩)
 exact codeAny_compStart_list loop (TT.self _ 0 _ _ _ st0 loop)
end
end L2

namespace L2
open PySem PySem.Spec PyProof.Rows

theorem wQ:bootBuiltins "len" = some (.builtin "len"):=by decide +kernel
theorem qZ:bootBuiltins "abs" = some (.builtin "abs"):=by decide +kernel
theorem zQe:bootBuiltins "all" = some (.builtin "all"):=by decide +kernel
theorem zTn:bootBuiltins "min" = some (.builtin "min"):=by decide +kernel
theorem uV:bootBuiltins "list" = some (.type "list"):=by decide +kernel
theorem zJb:bootBuiltins "tuple" = some (.type "tuple"):=by decide +kernel
def Has (P:Program) (w:World) (K:PySem.W.Frag) (mg:Str->Option Value) (base:Heap) (x:Str) (n:Nat) (ps:List Str) (sp:Sp):Prop :=
 ∃ (f:Addr) (fd:FuncData),wL P w K mg base CX0 n f fd ps sp/\zHk K fd ps []/\PySem.W.keepIn K (.ref f) = true/\mg x = some (.ref f)
section
variable {X:Cx} {x:Str} {p pos:Pos} {e:Expr} {es:List Expr} {t:TA} {n:Nat} {ps:List Str} {sp:Sp}
theorem zH (h:Has X.prog X.w X.K X.mg X.base x n ps sp) (hr:Room n X.A) (hg:Gl X x) (ha:PA X (e :: es) t) (hdb:(x == ("__debug__" : Str)) = false:=by decide)
  (he:starEach (e :: es) X.env = (false,eval e X.env) :: starEach es X.env:=by rfl) (hpl:(backTo pos (starEach es X.env)).any (·.1) = false:=by rfl):PE X (.Call (.Name x p) (e :: es) [] pos) (zRt sp [] E0 t):=by
 obtain ⟨f,fd,F,b,k,m⟩:=h;exact zRc F hr hg m k b .nil pass0 ha hdb he hpl
end

section
variable {X:Cx}
def zAm (i j:Int):Prop:=0 < j/\j.natAbs < 2 ^ 4096
theorem rK:OpR X (binaryOp .FloorDiv) (rI zAm λi j=>.int (i / j)):=opI λi j _ _ _ _ _ hc q=>by
 have h1:(0:Int) < j:=hc.1;have h3:j.natAbs.log2 < 9000:=Nat.lt_trans ((Nat.log2_lt (by omega)).mpr hc.2) (by decide);exact floordiv_int (by omega) (by rw [Int.fdiv_eq_ediv_of_nonneg i (by omega)]; exact q) (.inl (PyProof.noPylong_of_log2 h3))
theorem zAm.of {i j:Int} (h:0 < j) (h2:j < 10 ^ 600):zAm i j:=by
 refine ⟨h,?_⟩;have e:(10:Nat) ^ 600 < 2 ^ 4096:=by decide +kernel
 omega
def zB3 (i j:Int):Prop:=i.natAbs < 2 ^ 4096/\j.natAbs < 2 ^ 4096
theorem zFd {i:Int} (h:i.natAbs < 2 ^ 4096):Builtin.Int.intBits i<=2 ^ 20:=by
 unfold Builtin.Int.intBits;split
 ·exact Nat.zero_le _
 ·have q:i.natAbs.log2 < 4096:=by
   rcases Nat.eq_zero_or_pos i.natAbs with h0 | hp
   ·rw [h0]; decide
   ·exact (Nat.log2_lt (Nat.ne_of_gt hp)).mpr h
  have e:(2:Nat) ^ 20 = 1048576:=by decide
  omega
theorem xH:OpR X (binaryOp .Mult) (rI zB3 λi j=>.int (i * j)):=opI λ_ _ _ _ _ _ _ hc q=>mul_int q (IntMulOk.of_bits (zFd hc.1) (zFd hc.2))

def Sq (K:PySem.W.Frag) (H:Hp) (p:Addr) (xs:List V):Prop:=SqL K H p xs\/SqT K H p xs
inductive RIx (K:PySem.W.Frag) (x y:V) (H:Hp) (Q:VK):Prop where
 | mk (p:Addr) (xs:List V) (i:Int) (v:V) (ex:x = .ref p) (ey:y = .int i) (sq:Sq K H p xs) (at':atI xs i = some v) (q:Q v H)
def rIxA (K:PySem.W.Frag):R2:=λx y H Q=>RIx K x y H Q
theorem zL:IxR X (rIxA X.K):=by
 intro value slice pins s σ H x y v u Q I rx ry q hs;obtain ⟨p,xs,i,z,e1,e2,hq,ha,q⟩:=q;rcases hq with hq | hq
 ·exact zRd value slice pins s σ H x y v u Q I rx ry ⟨p,xs,i,z,e1,e2,hq,ha,q⟩ hs
 ·exact zSm value slice pins s σ H x y v u Q I rx ry ⟨p,xs,i,z,e1,e2,hq,ha,q⟩ hs
def iSeq (K:PySem.W.Frag) (tl:TE):TI:=λσ H R=>tl σ H λx H1=>∃ a,x = .ref a/\(((∃ xs,SqL K H1 a xs)/\R (Itl K a) H1)\/((∃ xs,SqT K H1 a xs)/\R (Itt K a) H1))
theorem xU {tg l:Expr} {tl:TE} (hl:PE X l tl):PI X tg l (iSeq X.K tl):=by
 intro pins s σ H R I h;refine thn (hl pins s σ H _ I h) λv s1 ⟨x,H1,I1,r1,q1⟩=>?_;obtain ⟨a,e,q⟩:=q1;subst e;cases r1;have own:∀ b,b∈[s1.heap.objs.size]->zLd X pins H1 b:=λb hb=>by
  rw [List.mem_singleton] at hb;subst hb;exact I1.fpOk (Nat.le_refl _) (I1.hok.fresh (Nat.le_refl _))
 rcases q with ⟨⟨xs,hq⟩,q⟩ | ⟨⟨xs,hq⟩,q⟩
 ·obtain ⟨its,rv,p,hz⟩:=I1.list hq;exact wpAny_pyIter_list p.isList ⟨s1.heap.objs.size,[s1.heap.objs.size],_,_,H1,rfl,I1.kept (t':=s1.toks) λb o e=>Heap.get?_push_of_some _ e,zG2 a _,⟨_,Heap.get?_push_size _ rfl,rfl,rfl⟩,own,q⟩
 ·obtain ⟨its,rv,p,hz⟩:=I1.tuple hq;exact wpAny_pyIter_tuple (show s1.heap.IsTuple a its.toArray from p) ⟨s1.heap.objs.size,[s1.heap.objs.size],_,_,H1,rfl,I1.kept (t':=s1.toks) λb o e=>Heap.get?_push_of_some _ e,zJ9 a _,⟨_,Heap.get?_push_size _ rfl,rfl,rfl⟩,own,q⟩
end

section
variable {K:PySem.W.Frag} {a D:Addr} {xs:List V} {g:TG} {tt:TT} {te:TE} {σ0:St} {H1:Hp} {Q:VK}
theorem zDy (Pv:Nat->St->List V->Hp->Prop) (h0:Pv 0 σ0 [] (upd H1 D (.lst []))) (hl:∀ i σ ys H,i<=xs.length->Pv i σ ys H->SqL K H a xs/\H D = some (.lst ys))
  (hs:∀ i x σ ys H,xs[i]? = some x->Pv i σ ys H->g x σ H λσ2 H2=>tt σ2 H2 λb H3 =>
   if b = true then te σ2 H3 λy H4=>H4 D = some (.lst ys)/\ys.length < sizeLine/\Pv (i + 1) σ2 (ys ++ [y]) (upd H4 D (.lst (ys ++ [y]))) else Pv (i + 1) σ2 ys H3)
  (hd:∀ σ ys H,Pv xs.length σ ys H->Q (.ref D) H):zBz (Itl K a) D g tt te σ0 H1 Q:=by
 refine ⟨λi m σ ys H=>m = xs.length - i/\i<=xs.length/\Pv i σ ys H,⟨xs.length,by simp,Nat.zero_le _,h0⟩,?_⟩;rintro i m σ ys H ⟨rfl,hi,p⟩;obtain ⟨q,qd⟩:=hl i σ ys H hi p;refine ⟨qd,?_⟩;by_cases hlt:i < xs.length
 ·refine .inr ⟨⟨xs,xs[i],q,by simp [hlt]⟩,Pv (i + 1),λσ' zs H' z=>⟨xs.length - (i + 1),by omega,rfl,hlt,z⟩,λx H' y=>?_⟩;obtain ⟨e,y⟩:=y;subst e;exact hs i x σ ys _ (y xs q) p
 ·have e:i = xs.length:=by omega
  subst e;exact .inl ⟨⟨xs,q,Nat.le_refl _⟩,hd σ ys H p⟩
theorem zOv (Pv:Nat->St->List V->Hp->Prop) (h0:Pv 0 σ0 [] (upd H1 D (.lst []))) (hl:∀ i σ ys H,i<=xs.length->Pv i σ ys H->SqT K H a xs/\H D = some (.lst ys))
  (hs:∀ i x σ ys H,xs[i]? = some x->Pv i σ ys H->g x σ H λσ2 H2=>tt σ2 H2 λb H3 =>
   if b = true then te σ2 H3 λy H4=>H4 D = some (.lst ys)/\ys.length < sizeLine/\Pv (i + 1) σ2 (ys ++ [y]) (upd H4 D (.lst (ys ++ [y]))) else Pv (i + 1) σ2 ys H3)
  (hd:∀ σ ys H,Pv xs.length σ ys H->Q (.ref D) H):zBz (Itt K a) D g tt te σ0 H1 Q:=by
 refine ⟨λi m σ ys H=>m = xs.length - i/\i<=xs.length/\Pv i σ ys H,⟨xs.length,by simp,Nat.zero_le _,h0⟩,?_⟩;rintro i m σ ys H ⟨rfl,hi,p⟩;obtain ⟨q,qd⟩:=hl i σ ys H hi p;refine ⟨qd,?_⟩;by_cases hlt:i < xs.length
 ·refine .inr ⟨⟨xs,xs[i],q,by simp [hlt]⟩,Pv (i + 1),λσ' zs H' z=>⟨xs.length - (i + 1),by omega,rfl,hlt,z⟩,λx H' y=>?_⟩;obtain ⟨e,y⟩:=y;subst e;exact hs i x σ ys _ (y xs q) p
 ·have e:i = xs.length:=by omega
  subst e;exact .inl ⟨⟨xs,q,Nat.le_refl _⟩,hd σ ys H p⟩
theorem zE4 {lo:Int} {n:Nat} (Pv:Nat->St->List V->Hp->Prop) (h0:Pv 0 σ0 [] (upd H1 D (.lst []))) (hl:∀ i σ ys H,i<=n->Pv i σ ys H->H D = some (.lst ys))
  (hs:∀ i σ ys H,i < n->Pv i σ ys H->g (.int (lo + i)) σ H λσ2 H2=>tt σ2 H2 λb H3 =>
   if b = true then te σ2 H3 λy H4=>H4 D = some (.lst ys)/\ys.length < sizeLine/\Pv (i + 1) σ2 (ys ++ [y]) (upd H4 D (.lst (ys ++ [y]))) else Pv (i + 1) σ2 ys H3)
  (hd:∀ σ ys H,Pv n σ ys H->Q (.ref D) H):zBz (Itr lo n) D g tt te σ0 H1 Q:=by
 refine ⟨λi m σ ys H=>m = n - i/\i<=n/\Pv i σ ys H,⟨n,by simp,Nat.zero_le _,h0⟩,?_⟩;rintro i m σ ys H ⟨rfl,hi,p⟩;have qd:=hl i σ ys H hi p;refine ⟨qd,?_⟩;by_cases hlt:i < n
 ·refine .inr ⟨hlt,Pv (i + 1),λσ' zs H' z=>⟨n - (i + 1),by omega,rfl,hlt,z⟩,λx H' y=>?_⟩;obtain ⟨e,y⟩:=y;subst e y;exact hs i σ ys _ hlt p
 ·have e:i = n:=by omega
  subst e;exact .inl ⟨Nat.le_refl _,hd σ ys H p⟩
end
section
variable {K:PySem.W.Frag} {a D:Addr} {xs:List V} {g:TG} {te:TE} {σ0:St} {H1:Hp} {Q:VK}
theorem uC (Pv:Nat->St->List V->Hp->Prop) (h0:Pv 0 σ0 [] (upd H1 D (.lst []))) (hl:∀ i σ ys H,i<=xs.length->Pv i σ ys H->SqL K H a xs/\H D = some (.lst ys))
  (hs:∀ i x σ ys H,xs[i]? = some x->Pv i σ ys H->g x σ H λσ2 H2=>te σ2 H2 λy H4=>H4 D = some (.lst ys)/\ys.length < sizeLine/\Pv (i + 1) σ2 (ys ++ [y]) (upd H4 D (.lst (ys ++ [y]))))
  (hd:∀ σ ys H,Pv xs.length σ ys H->Q (.ref D) H):zBz (Itl K a) D g zRz te σ0 H1 Q:=zDy Pv h0 hl (λi x σ ys H e p=>hs i x σ ys H e p) hd
theorem zGo (Pv:Nat->St->List V->Hp->Prop) (h0:Pv 0 σ0 [] (upd H1 D (.lst []))) (hl:∀ i σ ys H,i<=xs.length->Pv i σ ys H->SqT K H a xs/\H D = some (.lst ys))
  (hs:∀ i x σ ys H,xs[i]? = some x->Pv i σ ys H->g x σ H λσ2 H2=>te σ2 H2 λy H4=>H4 D = some (.lst ys)/\ys.length < sizeLine/\Pv (i + 1) σ2 (ys ++ [y]) (upd H4 D (.lst (ys ++ [y]))))
  (hd:∀ σ ys H,Pv xs.length σ ys H->Q (.ref D) H):zBz (Itt K a) D g zRz te σ0 H1 Q:=zOv Pv h0 hl (λi x σ ys H e p=>hs i x σ ys H e p) hd
theorem zDu {lo:Int} {n:Nat} (Pv:Nat->St->List V->Hp->Prop) (h0:Pv 0 σ0 [] (upd H1 D (.lst []))) (hl:∀ i σ ys H,i<=n->Pv i σ ys H->H D = some (.lst ys))
  (hs:∀ i σ ys H,i < n->Pv i σ ys H->g (.int (lo + i)) σ H λσ2 H2=>te σ2 H2 λy H4=>H4 D = some (.lst ys)/\ys.length < sizeLine/\Pv (i + 1) σ2 (ys ++ [y]) (upd H4 D (.lst (ys ++ [y]))))
  (hd:∀ σ ys H,Pv n σ ys H->Q (.ref D) H):zBz (Itr lo n) D g zRz te σ0 H1 Q:=zE4 Pv h0 hl (λi σ ys H e p=>hs i σ ys H e p) hd
end
end L2

namespace L2
open PySem PySem.Spec PyProof.Rows
theorem zL4:∀ bs:List Bool,(List.range bs.length).all (λi=>(bs[i]?).getD true) = bs.all id:=by
 intro bs;rw [Bool.eq_iff_iff,List.all_eq_true,List.all_eq_true];constructor
 ·intro h b hb;obtain ⟨i,hi,e⟩:=List.getElem_of_mem hb;have q:=h i (List.mem_range.mpr hi);rw [List.getElem?_eq_getElem hi,e] at q;exact q
 ·intro h i hi;have hi':=List.mem_range.mp hi;rw [List.getElem?_eq_getElem hi'];exact h _ (List.getElem_mem hi')
theorem zO7 {bs:List Bool} {its:List Value} (r:xI (bs.map V.bl) its) {i:Nat} {v:Value} (h:its[i]? = some v):v = .bool ((bs[i]?).getD true):=by
 have hl:=r.length;rw [List.length_map] at hl;have hi:i < its.length:=(List.getElem?_eq_some_iff.mp h).1;have hb:i < bs.length:=by omega
 obtain ⟨u,hu,ru⟩:=r.get (i:=i) (x:=.bl bs[i]) (by rw [List.getElem?_map,List.getElem?_eq_getElem hb]; rfl);rw [hu] at h;cases h;rw [List.getElem?_eq_getElem hb];exact ru
section
variable {X:Cx}
theorem zHc (hc:X.calm = true):zB2 X (.builtin "all") (λxs H Q=>∃ (p:Addr) (bs:List Bool),xs = [.ref p]/\SqL X.K H p (bs.map V.bl)/\Q (.bl (bs.all id)) H):=by
 intro pins s σ H xs us Q I r h;obtain ⟨p,bs,rfl,hq,q⟩:=h;obtain ⟨u,rfl,ru⟩:=xI.one r;cases ru;obtain ⟨its,rv,pl,hz⟩:=I.list hq;have plt:p < s.heap.objs.size:=by
  obtain ⟨_,e,_⟩:=pl.isList;exact Heap.lt_size e
 refine call_all_walk (wpAny_pyIter_list pl.isList ?_);refine ⟨s.heap.objs.size,_,_,_,_,_,λi=>(bs[i]?).getD true,rfl,Walks.list (A:=X.A.in1) (show X.A.in1.handled = none from I.ok.hd hc) _ p (Nat.ne_of_lt plt) its.toArray,⟨⟨_,Heap.get?_push_size _ rfl,rfl,rfl⟩,Heap.IsList.push pl.isList _⟩,λi v s Q E hP hQ=>?_,λh' tk k=>?_⟩
 ·have e:=zO7 rv (by simpa using hP);subst e;exact wpAny_truthy_bool hQ
 ·have e:(List.range its.toArray.size).all (λi=>(bs[i]?).getD true) = bs.all id:=by
   have hl:=rv.length;rw [List.length_map] at hl;rw [List.size_toArray,<- hl];exact zL4 bs
  rw [e];exact ⟨.bl (bs.all id),H,I.kept (t':=tk) λb o z=>k b o (λw=>by rw [List.mem_singleton] at w; exact Nat.lt_irrefl _ (w ▸ Heap.lt_size z)) (Heap.get?_push_of_some _ z),rfl,q⟩
end
end L2

namespace L2
open PySem PySem.Spec PyProof.Rows

end L2

namespace L2
open PySem PySem.Spec PyProof.Rows
end L2

namespace L2
open PySem PySem.Spec PyProof.Rows
theorem ifD {p A B:Prop} [Decidable p] (h1:p->A) (h2:¬ p->B):if decide p = true then A else B:=by
 by_cases h:p
 ·rw [if_pos (decide_eq_true h)]; exact h1 h
 ·rw [if_neg (by rw [decide_eq_false h]; exact Bool.false_ne_true)]; exact h2 h
theorem ifN {p A B:Prop} [Decidable p] (h1:¬ p->A) (h2:p->B):if (!decide p) = true then A else B:=by
 by_cases h:p
 ·rw [if_neg (by rw [decide_eq_true h]; exact Bool.false_ne_true)]; exact h2 h
 ·rw [if_pos (by rw [decide_eq_false h]; rfl)]; exact h1 h
theorem ifE {x y:Int} {A B:Prop} (h1:x = y->A) (h2:x≠y->B):if decide (V.int x = V.int y) = true then A else B :=
 ifD (λh=>h1 (V.int.inj h)) λh=>h2 λe=>h (congrArg V.int e)
theorem zUd {x y:Int} {A B:Prop} (h1:x≠y->A) (h2:x = y->B):if (!decide (V.int x = V.int y)) = true then A else B :=
 ifN (λh=>h1 λe=>h (congrArg V.int e)) λh=>h2 (V.int.inj h)
theorem zE {H:Hp} {p:Addr} (h:H p = none) (o:HO):yG H (upd H p o):=λb u q=>by rw [zP (yE q h)]; exact q
theorem Sq.same {K:PySem.W.Frag} {H H':Hp} {a:Addr} {xs:List V} (h:Sq K H a xs) (e:yG H H'):Sq K H' a xs:=by
 rcases h with h | h
 ·exact .inl (e.seq h)
 ·refine .inr ?_;rcases h with h | h
  ·rcases h with h | ⟨o,h⟩
   ·exact .inl (.inl (e _ _ h))
   ·exact .inl (.inr ⟨o,e _ _ h⟩)
  ·exact .inr h
theorem uP {ns:List Int} {i:Nat} {x:V} (h:(ns.map V.int)[i]? = some x):∃ n,ns[i]? = some n/\x = .int n:=by
 rw [List.getElem?_map] at h;cases e:ns[i]? with
 | none=>rw [e] at h; cases h
 | some n=>rw [e] at h; exact ⟨n,rfl,(Option.some.inj h).symm⟩
theorem yW {α:Type} {l:List α} {i:Nat} {x:α} (h:l[i]? = some x):l.take (i + 1) = l.take i ++ [x]:=by
 rw [List.take_succ,h]; rfl
theorem small {n:Nat} (h:n<=1000):n<=sizeLine:=Nat.le_of_lt (yB h)
theorem SqT.same {K:PySem.W.Frag} {H H':Hp} {a:Addr} {xs:List V} (h:SqT K H a xs) (e:yG H H'):SqT K H' a xs:=by
 rcases h with h | h
 ·rcases h with h | ⟨o,h⟩
  ·exact .inl (.inl (e _ _ h))
  ·exact .inl (.inr ⟨o,e _ _ h⟩)
 ·exact .inr h
def zIy (t:TT):Prop:=∀ (σ:St) (H:Hp) (Q Q':Bool->Hp->Prop),(∀ b H1,Q b H1->Q' b H1)->t σ H Q->t σ H Q'
def zEl (t:TE):Prop:=∀ (σ:St) (H:Hp) (Q Q':VK),(∀ b H1,Q b H1->Q' b H1)->t σ H Q->t σ H Q'
def zNp (t:TA):Prop:=∀ (σ:St) (H:Hp) (Q Q':List V->Hp->Prop),(∀ b H1,Q b H1->Q' b H1)->t σ H Q->t σ H Q'
def zRq (r:R2):Prop:=∀ (x y:V) (H:Hp) (Q Q':VK),(∀ b H1,Q b H1->Q' b H1)->r x y H Q->r x y H Q'
def zTc (r:List V->Hp->VK->Prop):Prop:=∀ (xs:List V) (H:Hp) (Q Q':VK),(∀ b H1,Q b H1->Q' b H1)->r xs H Q->r xs H Q'
theorem zAa {i:Nat} : zEl (zT4 i):=λ_ _ _ _ hq ⟨v,e,z⟩=>⟨v,e,hq _ _ z⟩
theorem mo_c {v:V} : zEl (tC v):=λ_ _ _ _ hq z=>hq _ _ z
theorem zMk {r:R2} {ta tb:TE} (hr:zRq r) (ha:zEl ta) (hb:zEl tb):zEl (tOp r ta tb):=λσ _ _ _ hq z=>ha σ _ _ _ (λ_ _ z=>hb σ _ _ _ (λ_ _ z=>hr _ _ _ _ _ hq z) z) z
theorem zO1 {g:Int->Int->V} : zRq (rI0 g):=λ_ _ _ _ _ hq ⟨i,j,e1,e2,z⟩=>⟨i,j,e1,e2,hq _ _ z⟩
theorem zT0 {K:PySem.W.Frag} : zRq (rIxA K):=λ_ _ _ _ _ hq ⟨p,xs,i,v,a,b,c,d,z⟩=>⟨p,xs,i,v,a,b,c,d,hq _ _ z⟩
theorem zF0 {t:TE} (h:zEl t):zIy (zPh t):=λσ _ _ _ hq z=>h σ _ _ _ (λ_ _ ⟨k,e,z⟩=>⟨k,e,hq _ _ z⟩) z
theorem mo_b {t:TE} (h:zEl t):zIy (tB t):=λσ _ _ _ hq z=>h σ _ _ _ (λ_ _ ⟨k,e,z⟩=>⟨k,e,hq _ _ z⟩) z
theorem zSu {t:TT} (h:zIy t):zIy (tNot t):=λσ _ _ _ hq z=>h σ _ _ _ (λ_ _ z=>hq _ _ z) z
theorem zQk {t u:TT} (h:zIy t) (h':zIy u):zIy (tAnd t u):=λσ _ _ _ hq z=>h σ _ _ _ (λb _ z=>by
 cases b with
 | true=>exact h' σ _ _ _ hq z
 | false=>exact hq _ _ z) z
theorem zJp:zNp zUh:=λ_ _ _ _ hq z=>hq _ _ z
theorem zDg {te:TE} {ta:TA} (h:zEl te) (h':zNp ta):zNp (zQ0 te ta):=λσ _ _ _ hq z=>h σ _ _ _ (λ_ _ z=>h' σ _ _ _ (λ_ _ z=>hq _ _ z) z) z
theorem zRh {r:List V->Hp->VK->Prop} {t:TA} (hr:zTc r) (h:zNp t):zEl (tCB r t):=λσ _ _ _ hq z=>h σ _ _ _ (λ_ _ z=>hr _ _ _ _ hq z) z
theorem zNd {K:PySem.W.Frag} : zTc (λxs H Q=>∃ p ys,xs = [.ref p]/\(SqL K H p ys\/SqT K H p ys)/\Q (.int ys.length) H):=λ_ _ _ _ hq ⟨p,ys,e,s,z⟩=>⟨p,ys,e,s,hq _ _ z⟩
theorem zC4 (ns:List Int) (lo hi:Option Int):rO (ns.map V.int) lo hi = ((ns.drop (HT.sIx ns.length 0 lo)).take (HT.sIx ns.length ns.length hi - HT.sIx ns.length 0 lo)).map V.int:=by
 unfold rO;rw [List.length_map,List.map_take,List.map_drop]
theorem ifTF {b:Bool} {A B:Prop} (h1:b = true->A) (h2:b = false->B):if b = true then A else B:=by
 cases b with
 | true=>exact h1 rfl
 | false=>exact h2 rfl
end L2

namespace L2
open PySem PySem.Spec PyProof.Rows
end L2
namespace L2
open PySem
theorem vZ {rows:List Int} {P:Int->Prop} (bd:∀ x∈rows,P x) {k:Int} (k0:0<=k) (k1:k < rows.length):∃ v:Int,atI (rows.map V.int) k = some (.int v)/\P v:=by
 have hk:k.toNat < rows.length:=by omega
 refine ⟨rows[k.toNat],?_,bd _ (List.getElem_mem hk)⟩;have q:atI (rows.map V.int) ((k.toNat:Nat):Int) = some (.int rows[k.toNat]):=tZ (by rw [List.getElem?_map,List.getElem?_eq_getElem hk] <;> rfl);rw [show ((k.toNat:Nat):Int) = k from by omega] at q;exact q
end L2
namespace L2
theorem zB3.of {i j:Int} (hi:i.natAbs<=10 ^ 100) (hj:j.natAbs<=10 ^ 100):zB3 i j :=
 ⟨Nat.lt_of_le_of_lt hi (by decide +kernel),Nat.lt_of_le_of_lt hj (by decide +kernel)⟩
theorem zQ7 {n:Nat} (h:n<=10 ^ 40):n<=10 ^ 100:=Nat.le_trans h (by decide +kernel)
end L2

namespace L2
open PySem PySem.Spec PyProof.Rows
section
variable {X:Cx} {T:List Str} {caps:List (Str × Nat)} {scope:Scope} {elt target iter:Expr} {ifs:List Expr} {pos cpos:Pos} {wi:TI} {g:CC->TG} {tt:CC->TT} {te:CC->TE}
theorem zPd (S:tG X caps scope) (hc:X.calm = true) (hi:PI X target iter wi) (hg:∀ c,PG (xB X (T ++ caps.map (·.1)) scope c) target (g c)) (ht:∀ c,zSf (xB X (T ++ caps.map (·.1)) scope c) ifs (tt c)) (he:∀ c,PE (xB X (T ++ caps.map (·.1)) scope c) elt (te c))
  {use:Option (Value->Sem Unit)} {Qv:Value->Shared->Prop} {pins:List (Addr × Obj)} {s:Shared} {σ:St} {H:Hp} {Q:VK} (I:Inv X pins σ H s) (h:zR0 T.length caps wi g tt te σ H Q)
  (hfin:∀ (D C:Addr) (s4:Shared) (H3:Hp),Inv X pins σ H3 s4->Q (.ref D) H3->∀ m,s4.heap.Ns C m->H3 C = none->C≠X.env.locals->X.s₀.heap.objs.size<=C->(∀ x c,X.env.cells.lookup x = some c->c≠C)->(∀ p∈X.pn ++ pins,p.1≠C)->compPost (model X.prog X.w) X.A X.xe use Qv (.ref D) C (.ok .next) s4)
  (hs:∀ x,foldedSetIterable iter X.env x = pure x:=by intro _; rfl) :
  wpAny (model X.prog X.w) X.A (comprehension (.ListComp elt [⟨target,iter,ifs,0⟩] scope pos) scope X.env cpos (newList []) false (eval iter X.env) use) Qv X.xe s:=by
 refine wpAny_comprehension_free (use:=use) rfl hs (zIw S.cells) S.kind S.loc (thn (hi pins s σ H _ I h) λv s1 h1=>thn h1 λitv s2 h2=>?_);obtain ⟨it,fp,tn,J,H2,e,I2,TT,st2,f2,q2⟩:=h2;subst e;refine wpAny_newObj_type (wpAny_newFunctionEnv S.nocell (by intro y hy; simp at hy) (λh1 hn hsb=>?_) S.kind);dsimp only at hn hsb ⊢;generalize hg2:s2.heap.push { cls:=.type "list", dict:=none,data:=.seq ([]:List Value).toArray } = G at hn hsb ⊢;have hCv:G.objs.size = s2.heap.objs.size + 1:=by rw [<- hg2,Heap.size_push]
 have hDC:G.objs.size≠s2.heap.objs.size:=by rw [hCv]; exact Nat.succ_ne_self _
 have hCle:s2.heap.objs.size<=G.objs.size:=by rw [hCv]; exact Nat.le_succ _
 have old:∀ b o,s2.heap.get? b = some o->h1.get? b = some o:=λb o e=>hsb.extBut b o (Nat.ne_of_lt (Nat.lt_of_lt_of_le (Heap.lt_size e) hCle)) (Heap.get?_push_of_some _ (hg2 ▸ Heap.get?_push_of_some _ e));have hacc:∃ n,h1.get? s2.heap.objs.size = some { cls:=.type "list", data:=.seq ([]:List Value).toArray n }:=⟨_,hsb.extBut _ _ (Ne.symm hDC) (Heap.get?_push_of_some _ (hg2 ▸ Heap.get?_push_size _ rfl))⟩;have hfp:∀ b∈fp,b < s2.heap.objs.size:=λb hb=>by
  obtain ⟨o,e,_⟩:=TT.obj _ _ st2 b hb;exact Heap.lt_size e
 have cs:=tD (env:=X.env) scope.names [] S.cells (λ_ _ z=>by cases z);have I0:=zBt (T:=T) (tk:=s2.toks + ([]:List (Str × Value)).length) S I2 f2 hfp (Nat.le_refl _) hCle hDC old hacc hn;have st0:tn 0 h1:=TT.keep _ _ _ st2 λb _ o e=>old b o e;obtain ⟨W,⟨m0,w0⟩,turn⟩:=q2 ⟨G.objs.size,s2,H2,fp⟩ s2.heap.objs.size (I2.hok.fresh (Nat.le_refl _));have fr0:∀ b∈fp,upd H2 s2.heap.objs.size (.lst []) b = none:=λb hb=>by
  rw [zP (Nat.ne_of_lt (hfp b hb))];exact (f2 b hb).1
 have stat:∀ {H':Hp},(∀ b∈fp,H' b = none)->∀ b∈fp,zLd (xB X (T ++ caps.map (·.1)) scope ⟨G.objs.size,s2,H2,fp⟩) [] H' b:=λ{H'} hn' b hb =>
  ⟨hn' b hb,Nat.ne_of_lt (Nat.lt_of_lt_of_le (hfp b hb) hCle),I0.ok.exfs b hb,.inl hb,λx c e=>(f2 b hb).2.2.2.2.1 x c (cs x c e),λp hp=>absurd (show p∈([]:List (Addr × Obj)) from hp) (by simp)⟩
 have loop:codeAny (model X.prog X.w) X.A (.compLoop (.ListComp elt [⟨target,iter,ifs,0⟩] scope pos) 0 (.ref it) (.ref s2.heap.objs.size) (compEnvC scope (qD X.env scope.names []) G.objs.size X.env))
   (compPost (model X.prog X.w) X.A X.xe use Qv (.ref s2.heap.objs.size) G.objs.size) { s2 with heap:=h1,toks:=s2.toks + ([]:List (Str × Value)).length }:=by
  refine codeAny_loop rfl (λn s'=>∃ i σ' ys H',Inv (xB X (T ++ caps.map (·.1)) scope ⟨G.objs.size,s2,H2,fp⟩) [] σ' H' s'/\tn i s'.heap/\(∀ b∈fp,H' b = none)/\W i n σ' ys H') (λn s3 hI=>?_) m0 ⟨0,_,[],_,I0,st0,fr0,w0⟩;obtain ⟨i,σ3,ys,H3,I3,st3,fr3,w3⟩:=hI;show wpAny _ X.A ((compTurn (.ListComp elt [⟨target,iter,ifs,0⟩] scope pos) 0 (.ref it) (.ref s2.heap.objs.size) (compEnvC scope (qD X.env scope.names []) G.objs.size X.env)).onRaise (λx=>do noteFrame x (compEnvC scope (qD X.env scope.names []) G.objs.size X.env); theTreesLotGoes x)) _ _ s3;refine wpAny_noted ?_;rw [compTurn_list];refine wpAny_bind (wpAny_standAt (wpAny_bind ?_));obtain ⟨hD3,turn3⟩:=turn i n σ3 ys H3 w3;rcases turn3 with ⟨stop,qn⟩ | ⟨go,N,hN,step⟩
  ·refine zGd (TT.done (xB X (T ++ caps.map (·.1)) scope ⟨G.objs.size,s2,H2,fp⟩) rfl rfl rfl hc i [] s3 σ3 H3 _ I3 (stat fr3) st3 stop) λr s4 ⟨hr,I4⟩=>?_;subst hr;refine wpAny_pure ?_;obtain ⟨m4,hn4,_⟩:=I4.loc;have J4:Inv X pins σ H3 s4:=by
    refine I2.call' (s':=s4) (ch:=fp) I4.os I4.base I4.hok I4.bare λb hb=>?_;obtain ⟨_,f1,_,f3,f4,f5⟩:=f2 b hb;exact ⟨f3,f1,f4,f5⟩
   refine hfin _ G.objs.size s4 H3 J4 qn m4 hn4 I4.free (Nat.ne_of_gt (Nat.lt_of_lt_of_le I2.lt hCle)) (Nat.le_trans I2.sz hCle) (λx c e z=>?_) (λp hp z=>?_)
   ·obtain ⟨v,qq⟩:=I2.cell x c e;exact absurd (Nat.lt_of_lt_of_le qq.lt (by rw [z]; exact hCle)) (Nat.lt_irrefl _)
   ·exact absurd (Nat.lt_of_lt_of_le (Heap.lt_size (I2.pin p hp).1) (by rw [z]; exact hCle)) (Nat.lt_irrefl _)
  ·refine zGd (TT.item (xB X (T ++ caps.map (·.1)) scope ⟨G.objs.size,s2,H2,fp⟩) rfl rfl rfl hc i [] s3 σ3 H3 _ I3 (stat fr3) st3 go) λr s4 ⟨u,hr,h4⟩=>?_;subst hr;refine wpAny_bind (zGd h4 λ_ s5 ⟨x,H5,I5,r5,y5,st5,fr5⟩=>?_);have I5':=I5.pinned (stat fr5) (TT.obj _ _ st5);refine wpAny_bind (zGd (hg _ _ s5 σ3 H5 x u _ I5' r5 (step x H5 y5)) λ_ s6 ⟨σ6,H6,I6,q6⟩=>?_);have again:∀ {s7:Shared} {σ7:St} {zs:List V} {H7:Hp},Inv (xB X (T ++ caps.map (·.1)) scope ⟨G.objs.size,s2,H2,fp⟩) ([] ++ zC9 fp s5.heap) σ7 H7 s7->N σ7 zs H7 ->
     ∃ m,m < n/\∃ i σ' ys H',Inv (xB X (T ++ caps.map (·.1)) scope ⟨G.objs.size,s2,H2,fp⟩) [] σ' H' s7/\tn i s7.heap/\(∀ b∈fp,H' b = none)/\W i m σ' ys H':=λ{s7 σ7 zs H7} I7 n7=>by
    obtain ⟨m',hm,w7⟩:=hN σ7 zs H7 n7;refine ⟨m',hm,i + 1,σ7,zs,H7,I7.unpinned,TT.keep _ _ _ st5 λb hb o e=>(I7.pin (b,o) (List.mem_append_right _ (List.mem_append_right _ (uA hb e)))).1,λb hb=>?_,w7⟩;obtain ⟨o,e,d⟩:=TT.obj _ _ st5 b hb;exact (I7.pin (b,o) (List.mem_append_right _ (List.mem_append_right _ (uA hb e)))).2.1
   refine wpAny_bind (zGd (ht _ _ s6 σ6 H6 _ I6 q6) λok s7 ⟨H7,I7,q7⟩=>?_);cases ok with
   | false=>exact wpAny_pure ⟨rfl,again I7 q7⟩
   | true =>
    refine wpAny_bind (wpAny_bind (zGd (he _ _ s7 σ6 H7 _ I7 q7) λy s8 ⟨yv,H8,I8,r8,hD8,hl8,q8⟩=>?_));refine wpAny_bind (zGd (wS _ s8 σ6 H8 (.ref s2.heap.objs.size) [yv] (.ref s2.heap.objs.size) [y] (λ_ H9=>N σ6 (ys ++ [yv]) H9) I8 rfl (.cons r8 .nil) ⟨_,ys,yv,rfl,rfl,hD8,hl8,q8⟩) λ_ s9 ⟨_,H9,I9,_,q9⟩=>?_);exact wpAny_pure (wpAny_pure ⟨rfl,again I9 q9⟩)
 exact codeAny_compStart_list loop (TT.self _ 0 _ _ _ st0 loop)
theorem zBv {i:Nat} {y:Str} {py spos:Pos} (hN:X.N.Nodup) (hy:X.N[i]? = some y) (hloc:X.env.scope.names.lookup y = some .local) (S:tG X caps scope) (hc:X.calm = true) (hi:PI X target iter wi) (hg:∀ c,PG (xB X (T ++ caps.map (·.1)) scope c) target (g c)) (ht:∀ c,zSf (xB X (T ++ caps.map (·.1)) scope c) ifs (tt c)) (he:∀ c,PE (xB X (T ++ caps.map (·.1)) scope c) elt (te c))
  (hsw:swapsWith (.ListComp elt [⟨target,iter,ifs,0⟩] scope pos) (some (.Name y py)) spos.line X.env = pure true:=by rfl) (hs:∀ x,foldedSetIterable iter X.env x = pure x:=by intro _; rfl) :
  PS X (.Assign [.Name y py] (.ListComp elt [⟨target,iter,ifs,0⟩] scope pos) spos) (zUe (zR0 T.length caps wi g tt te) (zPz i)):=by
 intro pins s σ H D I h;rw [exec_Assign_Name_used _ _ _ _ hsw];refine wpAny_bind (wpAny_standAt (wpAny_bind ?_));show wpAny _ X.A (do let _ <- comprehension (.ListComp elt [⟨target,iter,ifs,0⟩] scope pos) scope X.env _ (newList []) false (eval iter X.env) (some (assign (.Name y py) X.env))) _ _ s;refine wpAny_bind (wpAny_mono (zPd (Qv:=λ_ s'=>SP X pins D .next s') S hc hi hg ht he I h (λD' C s4 H3 J4 q4 m4 hn4 hC hL hS hcell hpin=>?_) hs) (λ_ s' hq=>wpAny_pure (wpAny_pure hq)) λ_ _ e=>e);show wpAny (model X.prog X.w) X.A (assign (.Name y py) X.env (.ref D')) (λ_ s''=>∃ m,s''.heap.Ns C m/\∀ h',Heap.SameBut C s''.heap h'->SP X pins D .next { s'' with heap:=h' }) X.xe s4;refine wpAny_assign_Name (zHo J4 hN hy (.inl hloc) (v:=.ref D') rfl (λs5 J5 hb=>?_) (.inr hloc));obtain ⟨a,sb,ha⟩:=hb;have hCa:C≠a:=by
  rcases ha with z | z
  ·rw [z]; exact hL
  ·exact λe=>hcell y a z e.symm
 refine ⟨m4,hn4.sameBut sb hCa,λh' sb'=>⟨_,H3,?_,q4⟩⟩;exact J5.turned (t':=s5.toks) (λb o hb e=>(sb'.2 b hb).trans e) hC hL (.inr hS) hcell hpin
end
end L2

namespace L2
open PySem PySem.Spec PyProof.Rows
theorem zGp:bootBuiltins "enumerate" = some (.type "enumerate"):=by decide +kernel
def Ite (K:PySem.W.Frag) (l:Addr):It :=
 ⟨λk H=>∃ xs x,SqL K H l xs/\xs[k]? = some x,
   λk H v H'=>∃ T x,v = .ref T/\H T = none/\H' = upd H T (.tup [.int k,x])/\∀ xs,SqL K H l xs->xs[k]? = some x,
   λk H=>∃ xs,SqL K H l xs/\xs.length<=k⟩
theorem zLv {P:Program} {w:World} {K:PySem.W.Frag} {elts:List Expr} {kt:Nat} {pt:Pos} {e it l:Addr} (hne:e≠it) :
  zTz P w K (.Tuple elts kt pt) (Ite K l) [e,it] e (λk h=>(∃ old,IsEnum h e it k old)/\h.IsListIter it l k) where
 mem:=by simp
 obj:=λk h st b hb=>by
  obtain ⟨⟨old,he⟩,h1⟩:=st;obtain ⟨o1,g1,_,d1⟩:=h1;simp only [List.mem_cons,List.not_mem_nil,or_false] at hb;rcases hb with rfl | rfl
  ·exact ⟨_,he,λv z=>by cases z⟩
  ·exact ⟨_,g1,λv z=>by rw [d1] at z; cases z⟩
 keep:=λk h h' st kp=>by
  obtain ⟨⟨old,he⟩,h1⟩:=st;exact ⟨⟨old,kp e (by simp) _ he⟩,h1.at λo z=>kp it (by simp) o z⟩
 item:=by
  intro X hP hw hK hc k pins s σ H E I hf st hg;subst hP hw hK;obtain ⟨⟨old,he⟩,h1⟩:=st;obtain ⟨xs,x,q1,hx⟩:=hg;obtain ⟨its,r1,p1,_⟩:=I.list q1;obtain ⟨u1,e1,v1⟩:=r1.get hx;have fresh:H s.heap.objs.size = none:=I.hok.fresh (Nat.le_refl _);refine wpAny_pyNext_enum_item he h1 p1.isList (by simpa using e1) hne λh' z1 j1 t1 _ kp=>?_;refine ⟨_,rfl,wpAny_letOwnedTupleGo_enum z1 λh2' z2 sb=>?_⟩;have kp2:∀ c o,c ∉ [e,it]->s.heap.get? c = some o->h2'.get? c = some o:=λc o hc q=>by
   simp only [List.mem_cons,List.not_mem_nil,or_false,not_or] at hc;exact sb.extBut c o hc.1 (kp c o hc.1 hc.2 q)
  have neT:∀ b o,s.heap.get? b = some o->b≠s.heap.objs.size:=λb o q=>Nat.ne_of_lt (Heap.lt_size q);have neH:∀ b o,H b = some o->b ∉ [e,it]:=λb o q hb=>by
   rw [(hf b hb).1] at q;cases q
  have upn:∀ b o,H b = some o->upd H s.heap.objs.size (.tup [.int k,x]) b = some o:=λb o q=>by
   rw [zP (yE q fresh)];exact q
  refine ⟨.ref s.heap.objs.size,upd H s.heap.objs.size (.tup [.int k,x]),?_,rfl,⟨_,x,rfl,fresh,rfl,λzs hz'=>by rw [I.list_inj hz' q1]; exact hx⟩,?_,λb hb=>?_⟩
  ·refine Inv.step (s:=s) (h':=h2') (g':=s.gens) (d':=s.drawn) (t':=s.toks + 1) (ch:=[e,it]) I (λb hb=>?_) (λb o _ _ hc q _=>kp2 b o hc q) (λb o _ _ hc q _=>⟨o.slots,kp2 b o hc q⟩) (λb o _ q n=>?_) (λb o hc q=>⟨o,kp2 b o hc q⟩)
    (λb zs q=>upn b _ q) (λb o zs q=>upn b _ q) (λb ps q=>⟨#[],by rw [upn b _ q]; simp⟩) (λm hm=>?_) (λb o q=>?_) I.bare
   ·obtain ⟨_,f1,_,f3,f4,f5⟩:=hf b hb;exact ⟨f3,f1,f4,f5⟩
   ·rw [zP (neT b o q)];exact n
   ·obtain ⟨o,es,ep,ho,r⟩:=hm;refine ⟨o,es,ep,kp2 _ o (λhb=>?_) ho,r⟩;exact (hf _ hb).2.1 rfl
   ·by_cases hb:b = s.heap.objs.size
    ·subst hb;rw [zB] at q;cases q;exact ⟨by show 2<=sizeLine; decide,[_,u1],.cons ⟨_,rfl⟩ (.cons v1 .nil),_,sb.extBut _ _ (Nat.ne_of_gt (Heap.lt_size he)) t1,rfl,_,rfl⟩
    ·rw [zP hb] at q;refine (I.hok b o q).stay (λc u hc z=>kp2 c u ?_ z) (λc z=>upn c _ z) λc zs z=>upn c _ z;rcases hc with hc | hc
     ·rw [hc]; exact neH b o q
     ·exact neH c _ hc
  ·exact ⟨⟨_,z2⟩,j1.at λo z=>sb.extBut _ o (Ne.symm hne) z⟩
  ·obtain ⟨o,q,_⟩:∃ o,s.heap.get? b = some o/\True:=by
    obtain ⟨o1,g1,_⟩:=h1;simp only [List.mem_cons,List.not_mem_nil,or_false] at hb;rcases hb with rfl | rfl
    ·exact ⟨_,he,trivial⟩
    ·exact ⟨_,g1,trivial⟩
   rw [zP (neT b o q)];exact (hf b hb).1
 done:=by
  intro X hP hw hK hc k pins s σ H E I hf st hg;subst hP hw hK;obtain ⟨⟨old,he⟩,h1⟩:=st;obtain ⟨xs,q1,hend⟩:=hg;obtain ⟨its,r1,p1,_⟩:=I.list q1;have l1':=r1.length;refine wpAny_pyNext_enum_end (I.ok.hd hc) he h1 p1.isList (Array.getElem?_eq_none (by rw [List.size_toArray]; omega)) λh' eb=>⟨rfl,?_⟩;obtain ⟨f0,f1,f2,f3,f4,f5⟩:=hf it (by simp);exact I.turned (t':=s.toks) (λb o hb q=>eb b o hb q) f0 f1 f3 f4 f5
 self:=λ_ _ _ _ _ st h=>by
  obtain ⟨⟨old,he⟩,_⟩:=st;exact wpAny_pyIter_enum he h
section
variable {X:Cx}
def iEnum (K:PySem.W.Frag) (ta:TA):TI:=λσ H R=>ta σ H λvs H1=>∃ (l:Addr) (xs:List V),vs = [.ref l]/\H1 l = some (.lst xs)/\R (Ite K l) H1
theorem zQv {elts:List Expr} {kt:Nat} {pt:Pos} {a:Expr} {ta:TA} {p pos:Pos} (hg:Gl X "enumerate") (hm:X.mg "enumerate" = none) (ha:PA X [a] ta) (hs:starEach [a] X.env = [(false,eval a X.env)]:=by rfl) :
  PI X (.Tuple elts kt pt) (.Call (.Name "enumerate" p) [a] [] pos) (iEnum X.K ta):=by
 intro pins s σ H R I h;refine Call_ (zE2 I hg hm zGp (PyProof.Rows.callWith_type1 (thn (ha pos pins s σ H _ I h) λus s1 ⟨vs,H1,I1,r1,q1⟩=>?_) hs rfl));obtain ⟨l,xs,e,hl,q⟩:=q1;subst e;obtain ⟨u1,rfl,v1⟩:=xI.one r1;cases v1;obtain ⟨_,its,n,_,_,eo⟩:=I1.lstM hl;refine call_enumerate_1 eo λh' he hi _ kp=>?_;refine wpAny_pyIter_enum he ?_;refine ⟨_,_,_,_,H1,rfl,I1.kept (t':=s1.toks) kp,zLv (Nat.succ_ne_self _),⟨⟨_,he⟩,hi⟩,λb hb=>?_,q⟩;have hge:s1.heap.objs.size<=b:=by
  simp only [List.mem_cons,List.not_mem_nil,or_false] at hb;rcases hb with rfl | rfl <;> omega
 exact I1.fpOk hge (I1.hok.fresh hge)
end
section
variable {K:PySem.W.Frag} {l D:Addr} {xs:List V} {g:TG} {tt:TT} {te:TE} {σ0:St} {H1:Hp} {Q:VK}
theorem zLt (Pv:Nat->St->List V->Hp->Prop) (h0:Pv 0 σ0 [] (upd H1 D (.lst []))) (hl:∀ i σ zs H,Pv i σ zs H->SqL K H l xs/\H D = some (.lst zs))
  (hs:∀ i x T σ zs H,xs[i]? = some x->H T = none->Pv i σ zs H->g (.ref T) σ (upd H T (.tup [.int i,x])) λσ2 H2=>tt σ2 H2 λb H3 =>
   if b = true then te σ2 H3 λz H4=>H4 D = some (.lst zs)/\zs.length < sizeLine/\Pv (i + 1) σ2 (zs ++ [z]) (upd H4 D (.lst (zs ++ [z]))) else Pv (i + 1) σ2 zs H3)
  (hd:∀ σ zs H,Pv xs.length σ zs H->Q (.ref D) H):zBz (Ite K l) D g tt te σ0 H1 Q:=by
 refine ⟨λi m σ zs H=>m = xs.length - i/\i<=xs.length/\Pv i σ zs H,⟨_,rfl,Nat.zero_le _,h0⟩,?_⟩;rintro i m σ zs H ⟨rfl,hi,p⟩;obtain ⟨q1,qd⟩:=hl i σ zs H p;refine ⟨qd,?_⟩;by_cases hlt:i < xs.length
 ·refine .inr ⟨⟨xs,xs[i],q1,by simp [hlt]⟩,Pv (i + 1),λσ' zs' H' z=>⟨xs.length - (i + 1),by omega,rfl,hlt,z⟩,λv H' y=>?_⟩;obtain ⟨T,x,rfl,hT,rfl,y1⟩:=y;exact hs i x T σ zs H (y1 xs q1) hT p
 ·have e:i = xs.length:=by omega
  subst e;exact .inl ⟨⟨xs,q1,Nat.le_refl _⟩,hd σ zs H p⟩
end
end L2

namespace L2
open PySem PySem.Spec PyProof.Rows
theorem rV:∀ {rs:List Addr} {us:List Value},xI (rs.map V.ref) us->us = rs.map Value.ref
 | [],_,r=>by cases r; rfl
 | a :: rs,_,r=>by
  cases r with
  | cons r1 r2 =>
   cases r1;rw [rV r2];rfl
theorem yG.putNew {H H4:Hp} {D:Addr} {o:HO} (s:yG H H4) (h:H D = none):yG H (upd H4 D o):=λb u q=>by
 rw [zP (yE q h)];exact s _ _ q
abbrev Pr:=Addr × Int × Int
abbrev zA4 (ps:List Pr):List V:=(ps.map (·.1)).map V.ref
def PrOk (H:Hp) (M:Nat) (ps:List Pr):Prop:=∀ t∈ps,H t.1 = some (.tup [.int t.2.1,.int t.2.2])/\t.2.1.natAbs<=M/\t.2.2.natAbs<=M
theorem zFy (ps:List Pr):(zA4 ps).length = ps.length:=by simp [zA4]
theorem zE3:∀ {xs ys:List Int},xs.map V.int = ys.map V.int->xs = ys
 | [],[],_=>rfl
 | [],_ :: _,h=>nomatch h
 | _ :: _,[],h=>nomatch h
 | x :: xs,y :: ys,h=>by
  rw [List.map_cons,List.map_cons] at h;injection h with h1 h2
  rw [V.int.inj h1,zE3 h2]
end L2

namespace PySem.W
open PySem PySem.Calls PyProof.Rows
def vP {α:Type} (n:Nat) (lt:Nat->Nat->Bool):KasT α->(α->Prop)->Prop
 | .ret a,Q=>Q a
 | .ask i j k,Q=>i < n/\j < n/\vP n lt (k (lt i j)) Q
theorem vP.bind {α β:Type} {n:Nat} {lt:Nat->Nat->Bool} {f:α->KasT β} {Q:β->Prop} : ∀ {t:KasT α},vP n lt t (λa=>vP n lt (f a) Q)->vP n lt (t.bind f) Q
 | .ret _,h=>h
 | .ask _ _ _,h=>⟨h.1,h.2.1,vP.bind h.2.2⟩
theorem vP.wp {α:Type} {n:Nat} {lt:Nat->Nat->Bool} {cmp:Nat->Nat->(Bool->Shared->Prop)->Shared->Prop} {P:α->Prop} {Q:α->Shared->Prop} {s:Shared}
  (hc:∀ i j (C:Bool->Shared->Prop),i < n->j < n->C (lt i j) s->cmp i j C s) (hq:∀ a,P a->Q a s):∀ {t:KasT α},vP n lt t P->t.kasWp cmp Q s
 | .ret a,h=>hq a h
 | .ask i j _,h=>hc i j _ h.1 h.2.1 (vP.wp hc hq h.2.2)
section
variable {O:KeyOrd} (key:Nat->O.α)
def KP (p:Array Nat) (i:Nat):O.α:=key (p.getD i 0)
def SoT (p:Array Nat) (k:Nat):Prop:=∀ i j,i<=j->j < k->O.kle (KP key p i) (KP key p j)
def NiT (p:Array Nat) (k:Nat):Prop:=∀ i j,i<=j->j < k->O.kle (KP key p j) (KP key p i)
structure PIn (n:Nat) (p:Array Nat):Prop where
 perm:p.Perm (List.toArray (List.range n))
variable {key} {n:Nat}
theorem PIn.size {p:Array Nat} (h:PIn n p):p.size = n:=by rw [h.perm.size_eq]; simp
theorem PIn.lt {p:Array Nat} (h:PIn n p) {i:Nat} (hi:i < n):p.getD i 0 < n:=by
 have hs:=h.size;have e:p.getD i 0 = p[i]'(by omega):=by simp [Array.getD,show i < p.size by omega]
 rw [e];have hm:p[i]'(by omega)∈p.toList:=by simp
 have:=(Array.perm_iff_toList_perm.mp h.perm).mem_iff.mp hm;simpa using this
theorem PIn.rev {p:Array Nat} (h:PIn n p) (i j:Nat):PIn n (kas_rev p i j):=⟨(mirror_perm _ _ _ _).trans h.perm⟩
theorem PIn.bub {p:Array Nat} (h:PIn n p) (i j:Nat):PIn n (bubble p i j):=⟨(bubble_perm _ _ _).trans h.perm⟩
theorem zBo {p q:Array Nat} {i j:Nat} (h:p[i]? = q[j]?):KP key p i = KP key q j:=by
 unfold KP; rw [Array.getD_eq_getD_getElem?,Array.getD_eq_getD_getElem?,h]
theorem zP2 {p:Array Nat} {src d:Nat} (hs:src < p.size) (hd:d<=src) (k:Nat) :
  KP key (bubble p src d) k = if k = src - d then KP key p src else if src - d < k/\k<=src then KP key p (k - 1) else KP key p k:=by
 have e:=getElem?_bubble hs d hd k;split
 ·rename_i h; rw [if_pos h] at e; exact zBo e
 ·rename_i h
  rw [if_neg h] at e;split
  ·rename_i h2; rw [if_pos h2] at e; exact zBo e
  ·rename_i h2; rw [if_neg h2] at e; exact zBo e
theorem zLg {p:Array Nat} {i j:Nat} (hj:j<=p.size) (k:Nat):KP key (kas_rev p i j) k = if i<=k/\k < j then KP key p (i + j - 1 - k) else KP key p k:=by
 have e:=getElem?_mirror_all (i:=i) hj k;split
 ·rename_i h; rw [if_pos h] at e; exact zBo e
 ·rename_i h; rw [if_neg h] at e; exact zBo e
theorem qF {p:Array Nat} {i j:Nat} (hj:j<=p.size) (he:∀ k,i<=k->k < j->KP key p k = KP key p (j - 1)) (k:Nat):KP key (kas_rev p i j) k = KP key p k:=by
 rw [zLg hj];split
 ·rw [he _ (by omega) (by omega),he k (by omega) (by omega)]
 ·rfl
abbrev ltK (key:Nat->O.α) (i j:Nat):Bool:=O.blt (key i) (key j)

theorem zSe {p:Array Nat} : SoT key p 1:=by
 intro i j hij hj;have e:i = j:=by omega
 subst e;exact KeyOrd.kle_refl _
theorem zIl {p:Array Nat} (hp:PIn n p) {Q:Nat->Prop} : ∀ (f a:Nat),1<=a->a + f<=n->SoT key p a ->
  (∀ m,a<=m->m<=a + f->SoT key p m->(m = a + f\/O.klt (KP key p m) (KP key p (m - 1)))->Q m)->vP n (ltK key) (kas_asc p f a) Q
 | 0,a,_,_,hs,q=>q a (Nat.le_refl _) (by omega) hs (.inl rfl)
 | f + 1,a,h1,hn,hs,q=>by
  refine ⟨hp.lt (by omega),hp.lt (by omega),?_⟩;dsimp only;by_cases hl:ltK key (p.getD a 0) (p.getD (a - 1) 0) = true
  ·rw [if_pos hl];exact q a (Nat.le_refl _) (by omega) hs (.inr hl)
  ·rw [if_neg hl];refine zIl hp f (a + 1) (by omega) (by omega) (λi j hij hj=>?_) λm m1 m2 hm ho=>q m (by omega) (by omega) hm (ho.imp (by omega) id);by_cases hja:j < a
   ·exact hs i j hij hja
   ·have hj':j = a:=by omega
    subst hj';by_cases hi:i = j
    ·subst hi; exact KeyOrd.kle_refl _
    ·exact KeyOrd.kle_trans (hs i (j - 1) (by omega) (by omega)) (KeyOrd.kle_of_not_klt hl)

theorem zGf {p:Array Nat} (hp:PIn n p) {m:Nat} {Q:Nat × Array Nat->Prop} (h1:1<=m) (hm:m<=n) (hs:NiT key p m)
  (q:∀ k p',PIn n p'->1<=k->k<=n->SoT key p' k->Q (k,p')):vP n (ltK key) (kas_tail3 m n p) Q:=by
 have hz:m<=p.size:=by rw [hp.size]; exact hm
 refine vP.bind (zIl (hp.rev 0 m) (n - m) m h1 (by omega) (λi j hij hj=>?_) λk k1 k2 hk _=>q k _ (hp.rev 0 m) (by omega) (by omega) hk);rw [zLg hz,zLg hz,if_pos (by omega),if_pos (by omega)];exact hs _ _ (by omega) (by omega)

theorem zCt {Q:Array Nat × Nat × Nat->Prop} : ∀ (f:Nat) (p:Array Nat) (a e:Nat),PIn n p->1<=a->a + f = n->NiT key p a->e + 1<=a->(∀ i,a - (e + 1)<=i->i < a->KP key p i = KP key p (a - 1)) ->
  (∀ p' m e',PIn n p'->1<=m->m<=n->NiT key p' m->e' + 1<=m->(∀ i,m - (e' + 1)<=i->i < m->KP key p' i = KP key p' (m - 1))->Q (p',m,e'))->vP n (ltK key) (kas_desc f p a e) Q
 | 0,p,a,e,hp,h1,hf,hs,he,heq,q=>q p a e hp h1 (by omega) hs he heq
 | f + 1,p,a,e,hp,h1,hf,hs,he,heq,q=>by
  have hz:a<=p.size:=by rw [hp.size]; omega
  refine ⟨hp.lt (by omega),hp.lt (by omega),?_⟩;dsimp only;by_cases hl:ltK key (p.getD a 0) (p.getD (a - 1) 0) = true
  ·rw [if_pos hl];have step:∀ p',(∀ k,KP key p' k = KP key p k)->NiT key p' (a + 1):=by
    intro p' hk i j hij hj;rw [hk,hk];by_cases hja:j < a
    ·exact hs i j hij hja
    ·have hj':j = a:=by omega
     subst hj';by_cases hi:i = j
     ·subst hi; exact KeyOrd.kle_refl _
     ·exact KeyOrd.kle_trans (KeyOrd.kle_of_klt hl) (hs i (j - 1) (by omega) (by omega))
   split
   ·exact zCt f _ (a + 1) 0 (hp.rev _ _) (by omega) (by omega) (step _ (qF hz heq)) (by omega) (λi i1 i2=>by congr 1; omega) q
   ·exact zCt f p (a + 1) 0 hp (by omega) (by omega) (step _ λ_=>rfl) (by omega) (λi i1 i2=>by congr 1; omega) q
  ·rw [if_neg hl];refine ⟨hp.lt (by omega),hp.lt (by omega),?_⟩;dsimp only;by_cases hg:ltK key (p.getD (a - 1) 0) (p.getD a 0) = true
   ·rw [if_pos hg];exact q p a e hp h1 (by omega) hs he heq
   ·rw [if_neg hg];have ee:KP key p a = KP key p (a - 1):=KeyOrd.kle_antisymm (KeyOrd.kle_of_not_klt hg) (KeyOrd.kle_of_not_klt hl);refine zCt f p (a + 1) (e + 1) hp (by omega) (by omega) (λi j hij hj=>?_) (by omega) (λi i1 i2=>?_) q
    ·by_cases hja:j < a
     ·exact hs i j hij hja
     ·have hj':j = a:=by omega
      subst hj';by_cases hi:i = j
      ·subst hi; exact KeyOrd.kle_refl _
      ·rw [ee]; exact hs i (j - 1) (by omega) (by omega)
    ·rw [show a + 1 - 1 = a by omega];by_cases hi:i = a
     ·rw [hi]
     ·rw [ee]; exact heq i (by omega) (by omega)

theorem zB9 {p:Array Nat} (hp:PIn n p) {m:Nat} {Q:Nat × Array Nat->Prop} (hm:m + 1<=n) (hs:NiT key p (m + 1))
  (q:∀ k p',PIn n p'->1<=k->k<=n->SoT key p' k->Q (k,p')):vP n (ltK key) (kas_descPart m n p) Q:=by
 refine vP.bind (zCt (n - (m + 1)) p (m + 1) 0 hp (by omega) (by omega) hs (by omega) (λi i1 i2=>by congr 1; omega) λp' k e hp' k1 k2 hs' he heq=>?_);have hz:k<=p'.size:=by rw [hp'.size]; exact k2
 dsimp only;split
 ·refine zGf (hp'.rev _ _) k1 k2 (λi j hij hj=>?_) q;rw [qF hz heq,qF hz heq];exact hs' i j hij hj
 ·exact zGf hp' k1 k2 hs' q

theorem zLn {p:Array Nat} (hp:PIn n p) {Q:Nat × Array Nat->Prop} (hn:1<=n)
  (q:∀ k p',PIn n p'->1<=k->k<=n->SoT key p' k->Q (k,p')):vP n (ltK key) (kas_count n p) Q:=by
 refine vP.bind (zIl hp (n - 1) 1 (Nat.le_refl _) (by omega) zSe λm m1 m2 hm ho=>?_);have hz:m<=p.size:=by rw [hp.size]; omega
 by_cases hmn:m = n
 ·rw [if_pos (by simpa using hmn)];exact q m p hp m1 (by omega) hm
 ·rw [if_neg (by simpa using hmn)];have hlt:O.klt (KP key p m) (KP key p (m - 1)):=ho.resolve_left (by omega);split
  ·refine ⟨hp.lt (by omega),hp.lt (by omega),?_⟩;dsimp only;by_cases hr:ltK key (p.getD 0 0) (p.getD (m - 1) 0) = true
   ·rw [if_pos hr];exact q m p hp m1 (by omega) hm
   ·rw [if_neg hr];have hall:∀ k,0<=k->k < m->KP key p k = KP key p (m - 1):=by
     intro k _ hk;have a1:=hm 0 k (by omega) hk;have a2:=hm k (m - 1) (by omega) (by omega);exact KeyOrd.kle_antisymm a2 (KeyOrd.kle_trans (KeyOrd.kle_of_not_klt hr) a1)
    refine zB9 (hp.rev _ _) (by omega) (λi j hij hj=>?_) q;rw [qF hz hall,qF hz hall];by_cases hjm:j < m
    ·rw [hall i (by omega) (by omega),hall j (by omega) hjm]; exact KeyOrd.kle_refl _
    ·have hj':j = m:=by omega
     subst hj';by_cases hi:i = j
     ·subst hi; exact KeyOrd.kle_refl _
     ·rw [hall i (by omega) (by omega)]; exact KeyOrd.kle_of_klt hlt
  ·have hm1:m = 1:=by omega
   subst hm1;refine zB9 hp (by omega) (λi j hij hj=>?_) q;by_cases hi:i = j
   ·subst hi; exact KeyOrd.kle_refl _
   ·have hi0:i = 0:=by omega
    have hj1:j = 1:=by omega
    subst hi0; subst hj1;exact KeyOrd.kle_of_klt hlt

theorem zDa {p:Array Nat} (hp:PIn n p) {k:Nat} (hk:k < n) (hs:SoT key p k) {Q:Nat->Prop}
  (q:∀ l,l<=k->(∀ i,i < l->O.kle (KP key p i) (KP key p k))->(∀ i,l<=i->i < k->O.klt (KP key p k) (KP key p i))->Q l):∀ (f l r:Nat),l<=r->r<=k->r - l<=f ->
   (∀ i,i < l->O.kle (KP key p i) (KP key p k))->(∀ i,r<=i->i < k->O.klt (KP key p k) (KP key p i))->vP n (ltK key) (kas_place p k f l r) Q
 | 0,l,r,h1,h2,h3,lo,hi=>q l (by omega) lo (by rw [show l = r by omega]; exact hi)
 | f + 1,l,r,h1,h2,h3,lo,hi=>by
  show vP n (ltK key) (if l >= r then _ else _) Q;by_cases hlr:l >= r
  ·rw [if_pos hlr];exact q l (by omega) lo (by rw [show l = r by omega]; exact hi)
  ·rw [if_neg hlr];refine ⟨hp.lt hk,hp.lt (by omega),?_⟩;dsimp only;by_cases hl:ltK key (p.getD k 0) (p.getD ((l + r) / 2) 0) = true
   ·rw [if_pos hl];exact zDa hp hk hs q f l ((l + r) / 2) (by omega) (by omega) (by omega) lo λi i1 i2=>KeyOrd.klt_of_klt_of_kle hl (hs _ _ i1 i2)
   ·rw [if_neg hl];exact zDa hp hk hs q f ((l + r) / 2 + 1) r (by omega) h2 (by omega) (λi i1=>KeyOrd.kle_trans (hs i ((l + r) / 2) (by omega) (by omega)) (KeyOrd.kle_of_not_klt hl)) hi

theorem zNo {Q:Array Nat->Prop} (q:∀ p',PIn n p'->SoT key p' n->Q p'):∀ (f:Nat) (p:Array Nat) (k:Nat),PIn n p->k + f = n->SoT key p k->vP n (ltK key) (kas_bin f p k) Q
 | 0,p,k,hp,h,hs=>q p hp (by rw [<- h]; exact hs)
 | f + 1,p,k,hp,h,hs=>by
  have hks:k < p.size:=by rw [hp.size]; omega
  refine vP.bind (zDa hp (by omega) hs (λl hl lo hi=>?_) k 0 k (by omega) (by omega) (by omega) (λi hi=>absurd hi (by omega)) (λi h1 h2=>absurd h2 (by omega)));refine zNo q f _ (k + 1) (hp.bub _ _) (by omega) λi j hij hj=>?_;rw [zP2 hks (by omega),zP2 hks (by omega),show k - (k - l) = l by omega]
  repeat' split
  all_goals first
   | (exfalso; omega)
   | exact KeyOrd.kle_refl _
   | exact lo _ (by omega)
   | exact KeyOrd.kle_of_klt (hi _ (by omega) (by omega))
   | exact hs _ _ (by omega) (by omega)

theorem zOm {Q:Array Nat->Prop} (hn:2<=n) (q:∀ p',PIn n p'->SoT key p' n->Q p'):vP n (ltK key) (kas_sort n) Q:=by
 refine vP.bind (zLn ⟨Array.Perm.refl _⟩ (by omega) λk p hp k1 k2 hs=>?_);dsimp only;split
 ·rw [show max k 1 = k by omega];exact zNo q (n - k) p k hp (by omega) hs
 ·exact q p hp (by rw [show n = k by omega]; exact hs)
end
end PySem.W

namespace PySem.W
open PySem PySem.Calls PyProof.Rows
section
variable {prog:Program} {w:World} {A:Around} {E:Value->Shared->Prop} {s:Shared}
def wI (h:Heap) (a:Addr) (vs:List Value):Heap:=((h.update a (Obj.mapSeq λ_=>#[])).push (seqObj "tuple" vs.toArray 0)).push (seqObj "list" #[] 0)
theorem zC8 {h:Heap} {a b:Addr} {vs:List Value} (hb:b≠a) {o:Obj} (e:h.get? b = some o):(wI h a vs).get? b = some o:=by
 unfold wI;refine Heap.get?_push_of_some _ (Heap.get?_push_of_some _ ?_);rw [Heap.get?_update_ne _ _ _ _ hb];exact e
theorem zKa {a:Addr} {vs:List Value} {n:Nat} {κ:SortKind} {G:List Value->Prop} {P:PySem.Fin->Shared->Prop} (ho:s.heap.get? a = some (seqObj "list" vs.toArray n)) (h64:vs.length < 64)
  (hk:2<=vs.length->∀ Q:SortKind->Shared->Prop,Q κ { s with heap:=wI s.heap a vs }->wpAny (model prog w) A (keyKind' vs.toArray) Q E { s with heap:=wI s.heap a vs })
  (ask:2<=vs.length->(kas_sort vs.length).kasWp (kas_ask prog w A κ vs) (λp s'=>s' = { s with heap:=wI s.heap a vs }/\G (p.toList.map λi=>vs.getD i Value.none)) { s with heap:=wI s.heap a vs })
  (few:vs.length < 2->G vs)
  (h:∀ out:List Value,out.length = vs.length->G out->P (.done (.ret .none)) { s with heap:=sortedHeap s.heap a vs out.toArray }) :
  wpAny (model prog w) A (Builtin.«list.sort» ⟨[.ref a],[]⟩) P E s:=by
 have ha:a < s.heap.objs.size:=Heap.lt_size ho;obtain ⟨e1,ho1⟩:∃ e1,(s.heap.update a (Obj.mapSeq λ_=>(#[]:Array Value))).get? a = some (seqObj "list" #[] e1):=⟨_,get?_update_seq ho λ_=>#[]⟩;have ho3:(wI s.heap a vs).get? a = some (seqObj "list" #[] e1):=Heap.get?_push_of_some _ (Heap.get?_push_of_some _ ho1);rw [list_sort_plain];refine wpAny_bind (listItems_at ho rfl ?_);refine wpAny_bind (listUpdate_at ho rfl ?_ (by rw [List.size_toArray,sizeLine_eq]; omega) (Nat.zero_le _));refine wpAny_bind (seqEpoch_at ho1 rfl ?_);refine wpAny_bind (wpAny_newTuple ?_ (by show vs.length<=_; rw [sizeLine_eq]; omega));refine wpAny_bind (wpAny_newList ?_ (Nat.zero_le _));refine wpAny_holding ?_;show wpAny (model prog w) A _ P E { s with heap:=wI s.heap a vs };dsimp only;by_cases h2:vs.toArray.size < 2
 ·rw [if_pos h2,if_pos h2];rw [List.size_toArray] at h2;refine wpAny_bind (wpAny_pure ?_);rw [StateT.run_pure];refine wpAny_bind (wpAny_pure ?_);dsimp only;refine wpAny_bind (seqEpoch_at ho3 rfl ?_);have hout:(vs.toArray.zip vs.toArray).map (·.2) = vs.toArray:=by
   apply Array.toList_inj.mp;rw [Array.toList_map,Array.toList_zip];exact List.map_snd_zip (Nat.le_refl _)
  refine wpAny_bind (listUpdate_at ho3 rfl ?_ (Nat.zero_le _) (by
   refine Nat.le_trans (Nat.le_of_eq ((congrArg Array.size hout).trans List.size_toArray)) ?_;rw [sizeLine_eq]; omega))
  simp only [bne_self_eq_false,Bool.false_eq_true,if_false];refine wpAny_pure ?_;have hq:=h vs rfl (few h2);rw [<- hout] at hq;exact hq
 ·rw [if_neg h2,if_neg h2];rw [List.size_toArray] at h2;have h2':2<=vs.length:=by omega
  refine wpAny_bind (hk h2' _ ?_);refine wpAny_bind (wpAny_mono (kat_run (E:=E) (Q:=λst' s'=>s' = { s with heap:=wI s.heap a vs }/\∃ p:Array Nat,p.size = vs.length/\arrOf st' = p.map (kas_item (vs.toArray.zip vs.toArray))/\failedOf st' = none/\G (p.toList.map λi=>vs.getD i Value.none))
   rfl h2' h64 (λp' st' s' a1 a2 a3 a4=>⟨a4.1,p',a1,a2,a3,a4.2⟩) (ask h2')) ?_ λ_ _ e=>e)
  rintro ⟨⟨⟩,st'⟩ s' ⟨rfl,p,hp,har,hf,hg⟩;dsimp only;have hout:=kat_snds rfl har;have hsz:(p.toList.map λi=>vs.getD i Value.none).length = vs.length:=by rw [List.length_map,Array.length_toList,hp]
  rw [hout];refine wpAny_bind (seqEpoch_at ho3 rfl ?_);refine wpAny_bind (listUpdate_at ho3 rfl ?_ (Nat.zero_le _) (by rw [List.size_toArray,hsz,sizeLine_eq]; omega));rw [hf];simp only [bne_self_eq_false,Bool.false_eq_true,if_false];exact wpAny_pure (h _ hsz hg)
def xQ (h:Heap) (vs:List Value):Heap:=((h.push (seqObj "list" #[] 0)).update h.objs.size (Obj.mapSeq (· ++ vs.toArray))).push (seqObj "list" vs.toArray 0)
theorem zAk {h:Heap} {b:Addr} {vs:List Value} {o:Obj} (e:h.get? b = some o):(xQ h vs).get? b = some o:=by
 have hlt:b < h.objs.size:=Heap.lt_size e;unfold xQ;refine Heap.get?_push_of_some _ ?_;rw [Heap.get?_update_ne _ _ _ _ (Nat.ne_of_lt hlt),Heap.get?_push_ne _ _ _ (Nat.ne_of_lt hlt)];exact e
theorem zMi {l:Addr} {vs:List Value} {κ:SortKind} {G:List Value->Prop} {Q:Value->Shared->Prop} (hl:s.heap.IsList l vs.toArray) (h64:vs.length < 64)
  (hk:2<=vs.length->∀ s':Shared,(∀ b o,s.heap.get? b = some o->s'.heap.get? b = some o)->∀ (E':Value->Shared->Prop) (Q:SortKind->Shared->Prop),Q κ s'->wpAny (model prog w) A.in1.in1 (keyKind' vs.toArray) Q E' s')
  (ask:2<=vs.length->∀ s':Shared,(∀ b o,s.heap.get? b = some o->s'.heap.get? b = some o)->(kas_sort vs.length).kasWp (kas_ask prog w A.in1.in1 κ vs) (λp s''=>s'' = s'/\G (p.toList.map λi=>vs.getD i Value.none)) s')
  (few:vs.length < 2->G vs)
  (h:∀ out:List Value,out.length = vs.length->G out->Q (.ref (s.heap.objs.size + 1)) { s with heap:=sortedAll s.heap vs out.toArray }) :
  wpAny (model prog w) A (call (.builtin "sorted") [.ref l]) Q E s:=by
 refine Calls.call_function_entry kind_sorted plain_sorted entry_sorted (args_sorted1 _) ?_;unfold Builtin.«sorted»;refine wpAny_bind (m:=checkCount "sorted" 1 1 _) (wpAny_pure ?_);refine wpAny_bind (collect_list hl ?_ (by rw [sizeLine_eq]; omega));refine wpAny_bind (wpAny_newList ?_ (by rw [sizeLine_eq]; omega));have hsz:((s.heap.push (seqObj "list" #[] 0)).update s.heap.objs.size (Obj.mapSeq (· ++ vs.toArray))).objs.size = s.heap.objs.size + 1:=by
  rw [Heap.size_update,size_push']
 have hoL:(xQ s.heap vs).get? (s.heap.objs.size + 1) = some (seqObj "list" vs.toArray 0):=by
  unfold xQ;rw [<- hsz]; exact Heap.get?_push_size _ rfl
 have keep:∀ b o,s.heap.get? b = some o->(wI (xQ s.heap vs) (s.heap.objs.size + 1) vs).get? b = some o:=λb o e=>by
  have hlt:b < s.heap.objs.size:=Heap.lt_size e;exact zC8 (Nat.ne_of_lt (Nat.lt_succ_of_lt hlt)) (zAk e)
 show wpAny _ _ _ _ _ { s with heap:=xQ s.heap vs };rw [hsz];refine wpAny_bind (wpAny_holding (wpAny_call_entry slot_list_sort ⟨_,hoL,rfl⟩ entry_list_sort ?body (args_list_sort _)))
 case body =>
  exact zKa (s:={ s with heap:=xQ s.heap vs }) hoL h64 (λh2 Q' hq=>hk h2 _ keep _ Q' hq) (λh2=>ask h2 _ keep) few λout hz hg=>⟨_,rfl,wpAny_pure ⟨_,rfl,h out hz hg⟩⟩
end
end PySem.W

namespace L2
open PySem PySem.Spec PyProof.Rows PySem.W
theorem zGh:∀ a:List Int,HT.lexLt a a = false
 | []=>rfl
 | x :: xs=>by rw [HT.lexLt_cons,if_pos rfl]; exact zGh xs
theorem zJi:∀ a b c:List Int,HT.lexLt a b = true->HT.lexLt b c = true->HT.lexLt a c = true
 | [],[],_,h,_=>nomatch h
 | [],_ :: _,[],_,h=>nomatch h
 | [],_ :: _,_ :: _,_,_=>rfl
 | _ :: _,[],_,h,_=>nomatch h
 | _ :: _,_ :: _,[],_,h=>nomatch h
 | x :: xs,y :: ys,z :: zs,h1,h2=>by
  rw [HT.lexLt_cons] at h1 h2 ⊢;by_cases e1:x = y
  ·rw [if_pos e1] at h1;by_cases e2:y = z
   ·rw [if_pos e2] at h2;rw [if_pos (e1.trans e2)];exact zJi xs ys zs h1 h2
   ·rw [if_neg e2] at h2;rw [if_neg (by omega),e1];exact h2
  ·rw [if_neg e1] at h1;have g1:=of_decide_eq_true h1;by_cases e2:y = z
   ·rw [if_neg (by omega),<- e2];exact h1
   ·rw [if_neg e2] at h2;have g2:=of_decide_eq_true h2;rw [if_neg (by omega)];exact decide_eq_true (by omega)
theorem zJk:∀ a b c:List Int,HT.lexLt a c = true->HT.lexLt a b = true\/HT.lexLt b c = true
 | [],_,[],h=>nomatch h
 | [],[],_ :: _,_=>.inr rfl
 | [],_ :: _,_ :: _,_=>.inl rfl
 | _ :: _,_,[],h=>nomatch h
 | _ :: _,[],_ :: _,_=>.inr rfl
 | x :: xs,y :: ys,z :: zs,h=>by
  rw [HT.lexLt_cons] at h ⊢;rw [HT.lexLt_cons];by_cases e1:x = y
  ·by_cases e2:y = z
   ·rw [if_pos (e1.trans e2)] at h;rw [if_pos e1,if_pos e2];exact zJk xs ys zs h
   ·rw [if_neg (by omega)] at h;right;rw [if_neg e2,<- e1];exact h
  ·by_cases e2:y = z
   ·rw [if_neg (by omega)] at h;left;rw [if_neg e1,e2];exact h
   ·rw [if_neg e1,if_neg e2];by_cases g:x < y
    ·exact .inl (decide_eq_true g)
    ·right;by_cases e3:x = z
     ·exact decide_eq_true (by omega)
     ·rw [if_neg e3] at h;have:=of_decide_eq_true h;exact decide_eq_true (by omega)
theorem zG0:∀ a b:List Int,HT.lexLt a b = false->HT.lexLt b a = false->a = b
 | [],[],_,_=>rfl
 | [],_ :: _,h,_=>nomatch h
 | _ :: _,[],_,h=>nomatch h
 | x :: xs,y :: ys,h1,h2=>by
  rw [HT.lexLt_cons] at h1 h2;by_cases e:x = y
  ·rw [if_pos e] at h1;rw [if_pos e.symm] at h2;rw [e,zG0 xs ys h1 h2]
  ·rw [if_neg e] at h1;rw [if_neg (λz=>e z.symm)] at h2;have g1:=of_decide_eq_false h1;have g2:=of_decide_eq_false h2;omega
def ordL:KeyOrd where
 α:=List Int
 blt:=HT.lexLt
 irrefl:=zGh
 trans:=zJi
 negTrans:=zJk
 total:=zG0
def zOh (h:Heap) (v:Value) (ns:List Int):Prop:=∃ (a:Addr) (o:Obj) (n:Nat) (its:List Value),v = .ref a/\h.get? a = some o/\o.cls = .type "tuple" /\ o.data = .seq its.toArray n/\xI (ns.map V.int) its
theorem zOh.keep {h h':Heap} {v:Value} {t:List Int} (e:zOh h v t) (k:∀ b o,h.get? b = some o->h'.get? b = some o):zOh h' v t:=by
 obtain ⟨a,o,n,its,e1,e2,e3⟩:=e;exact ⟨a,o,n,its,e1,k _ _ e2,e3⟩
section
variable {prog:Program} {w:World} {A:Around} {E:Value->Shared->Prop} {s:Shared}
theorem zJh {C:Bool->Shared->Prop} : ∀ {ns ms:List Int} {us ws:List Value} (_:xI (ns.map V.int) us) (_:xI (ms.map V.int) ws) (_:ns.length = ms.length) (i:Nat) (_:C (HT.lexLt ns ms) s),KatLex prog w A true false C (us.zip ws) i s
 | [],[],_,_,r1,r2,_,i,h=>by
  cases r1;cases r2;exact kat_nil h
 | [],_ :: _,_,_,_,_,hl,_,_=>nomatch hl
 | _ :: _,[],_,_,_,_,hl,_,_=>nomatch hl
 | x :: xs,y :: ys,_,_,r1,r2,hl,i,h=>by
  cases r1 with
  | cons p1 q1 =>
   cases r2 with
   | cons p2 q2 =>
    obtain ⟨t,rfl⟩:=p1;obtain ⟨t',rfl⟩:=p2;rw [List.zip_cons_cons];refine kat_cons (wpAny_eqBool_int ?_);rw [HT.lexLt_cons] at h;by_cases e:x = y
    ·rw [if_pos e] at h;rw [show (x == y) = true from by simpa using e];exact kat_yes (zJh q1 q2 (by simpa using hl) (i + 1) h)
    ·rw [if_neg e] at h;rw [show (x == y) = false from by simpa using e];refine kat_no ?_;cases i with
     | zero=>exact oneLt_int h
     | succ i=>exact kat_one _ _ (wpAny_lt_int h)
theorem zQu {u v:Value} {a b:List Int} {C:Bool->Shared->Prop} (hu:zOh s.heap u a) (hv:zOh s.heap v b) (hl:a.length = b.length) (h:C (HT.lexLt a b) s):wpAny (model prog w) A (keyLt' (tuples' true) u v) C E s:=by
 obtain ⟨p,o,n,us,rfl,ho,_,hd,r1⟩:=hu;obtain ⟨q,o',n',ws,rfl,ho',_,hd',r2⟩:=hv;refine kat_lt ho hd ho' hd' ?_;have l1:=r1.length;have l2:=r2.length;rw [List.length_map] at l1 l2;rw [show decide (us.toArray.size < ws.toArray.size) = false from decide_eq_false (by rw [List.size_toArray,List.size_toArray]; omega)];exact zJh r1 r2 hl 0 h
theorem zNr {h:Heap} : ∀ (vs:List Value),(∀ v∈vs,∃ x xs,zOh h v (x :: xs))->∃ fs:List Value,KatTups h vs fs/\fs.length = vs.length/\∀ v∈fs,∃ i t,v = Value.int i t
 | [],_=>⟨[],.nil,rfl,λ_ hv=>absurd hv (List.not_mem_nil)⟩
 | v :: vs,hv=>by
  obtain ⟨fs,a1,a2,a3⟩:=zNr vs λu hu=>hv u (.tail _ hu);obtain ⟨x,xs,p,o,n,its,rfl,ho,hc,hd,r⟩:=hv v (.head _);cases r with
  | cons p1 q1 =>
   obtain ⟨t,rfl⟩:=p1;refine ⟨.int x t :: fs,KatTups.cons ho hc hd rfl a1,by rw [List.length_cons,List.length_cons,a2],λu hu=>?_⟩;rcases List.mem_cons.mp hu with rfl | hu
   ·exact ⟨_,_,rfl⟩
   ·exact a3 u hu
theorem zIp {l:Addr} {vs:List Value} {ks:List (List Int)} {m:Nat} {Q:Value->Shared->Prop} (hl:s.heap.IsList l vs.toArray) (h64:vs.length < 64) (hT:∀ i,i < vs.length->zOh s.heap (vs.getD i Value.none) (ks.getD i [])/\(ks.getD i []).length = m + 1)
  (h:∀ is:List Nat,is.Perm (List.range vs.length)->(is.map λi=>ks.getD i []).Pairwise (λa b=>HT.lexLt b a = false) ->
   Q (.ref (s.heap.objs.size + 1)) { s with heap:=sortedAll s.heap vs (is.map λi=>vs.getD i Value.none).toArray }) :
  wpAny (model prog w) A (call (.builtin "sorted") [.ref l]) Q E s:=by
 refine zMi (κ:=tuples' true) (G:=λout=>∃ is:List Nat,is.Perm (List.range vs.length)/\(is.map λi=>ks.getD i []).Pairwise (λa b=>HT.lexLt b a = false)/\out = is.map λi=>vs.getD i Value.none)
  hl h64 (λh2 s' kp E' Q' hq=>?_) (λh2 s' kp=>?_) (λh2=>?_) λout hz ⟨is,p1,p2,e⟩=>by rw [e]; exact h is p1 p2
 ·obtain ⟨fs,a1,a2,a3⟩:=zNr (h:=s'.heap) vs λv hv=>by
   obtain ⟨i,hi,rfl⟩:=List.getElem_of_mem hv;obtain ⟨e,en⟩:=hT i hi;have e':=e.keep kp;rw [show vs.getD i Value.none = vs[i] by simp [hi]] at e';cases ek:ks.getD i [] with
   | nil=>rw [ek] at en; cases en
   | cons x xs=>rw [ek] at e'; exact ⟨x,xs,e'⟩
  refine kat_kind (T:=Value.type "int") a1 (by omega) (λv hv=>?_) rfl (by first | exact hq | (rw [show (Value.type "int" != Value.type "tuple") = true from by first | decide | simp]; exact hq));obtain ⟨i,t,rfl⟩:=a3 v hv;exact .now
 ·refine vP.wp (n:=vs.length) (lt:=ltK (O:=ordL) λi=>ks.getD i []) (λi j C hi hj hc=>?_) (λp hp=>⟨rfl,hp⟩) (zOm (O:=ordL) (key:=λi=>ks.getD i []) h2 λp hp hs=>?_)
  ·exact zQu ((hT i hi).1.keep kp) ((hT j hj).1.keep kp) (by rw [(hT i hi).2,(hT j hj).2]) hc
  ·refine ⟨p.toList,by simpa using Array.perm_iff_toList_perm.mp hp.perm,?_,rfl⟩;rw [List.pairwise_map,List.pairwise_iff_getElem];intro i j hi hj hij;have hi':i < p.size:=by simpa using hi
   have hj':j < p.size:=by simpa using hj
   have q:=hs i j (Nat.le_of_lt hij) (by rw [<- hp.size]; exact hj');unfold KP at q;rw [show p.getD i 0 = p.toList[i] by simp [Array.getD,hi'],show p.getD j 0 = p.toList[j] by simp [Array.getD,hj']] at q;exact q
 ·refine ⟨List.range vs.length,.refl _,?_,?_⟩
  ·rw [List.pairwise_map,List.pairwise_iff_getElem];intro i j hi hj hij;rw [List.length_range] at hj;omega
  ·refine List.ext_getElem (by simp) λi h1 h3=>?_;rw [List.getElem_map,List.getElem_range];simp [h1]
end
theorem zEm {α β:Type} (f:α->β) (d:α) (e:β) (xs:List α):((List.range xs.length).map λi=>f (xs.getD i d)) = xs.map f:=by
 refine List.ext_getElem (by simp) λi h1 h2=>?_;have hi:i < xs.length:=by simpa using h1
 rw [List.getElem_map,List.getElem_range,List.getElem_map];simp [hi]
theorem vX:∀ rs:List Addr,xI (rs.map V.ref) (rs.map Value.ref)
 | []=>.nil
 | _ :: rs=>.cons rfl (vX rs)
section
variable {X:Cx}
theorem rW:bootBuiltins "sorted" = some (.builtin "sorted"):=by decide +kernel
theorem zHv:zB2 X (.builtin "sorted") (λxs H Q=>∃ (l:Addr) (ts:List (Addr × List Int)) (m:Nat),xs = [.ref l]/\SqL X.K H l ((ts.map (·.1)).map V.ref)/\ts.length < 64/\(∀ t∈ts,H t.1 = some (.tup (t.2.map V.int))/\t.2.length = m + 1) /\
  ∀ (p:Addr) (us:List (Addr × List Int)),H p = none->us.Perm ts->us.Pairwise (λa b=>HT.lexLt b.2 a.2 = false)->Q (.ref p) (upd H p (.lst ((us.map (·.1)).map V.ref)))):=by
 intro pins s σ H xs us Q I r h;obtain ⟨l,ts,m,rfl,hq,h64,hts,q⟩:=h;obtain ⟨u,rfl,ru⟩:=xI.one r;cases ru;obtain ⟨its,rv,pl,hz⟩:=I.list hq;have ei:=rV rv;subst ei;have hn:((ts.map (·.1)).map Value.ref).length = ts.length:=by rw [List.length_map,List.length_map]
 refine zIp (ks:=ts.map (·.2)) (m:=m) pl.isList (by rw [hn]; exact h64) (λi hi=>?_) λis hp hs=>?_
 ·rw [hn] at hi;have ht:=hts ts[i] (List.getElem_mem hi);have e1:((ts.map (·.1)).map Value.ref).getD i Value.none = Value.ref ts[i].1:=by simp [hi]
  have e2:(ts.map (·.2)).getD i [] = ts[i].2:=by simp [hi]
  rw [e1,e2];refine ⟨?_,ht.2⟩;obtain ⟨its,r1,⟨o,e,c,n,d⟩,_⟩:=I.tuple (SqT.of ht.1);exact ⟨_,o,n,its,rfl,e,c,d,r1⟩
 ·rw [hn] at hp;have lt:∀ i∈is,i < ts.length:=λi hi=>List.mem_range.mp (hp.mem_iff.mp hi)
  let d:Addr × List Int:=(0,[])
  have pm:(is.map λi=>ts.getD i d).Perm ts:=by
   have z:=hp.map λi=>ts.getD i d;have e:=zEm (λt:Addr × List Int=>t) d d ts;rw [show (List.range ts.length).map (λi=>ts.getD i d) = ts from by simpa using e] at z;exact z
  have e1:(is.map λi=>((ts.map (·.1)).map Value.ref).getD i Value.none) = ((is.map λi=>ts.getD i d).map (·.1)).map Value.ref:=by
   simp only [List.map_map];refine List.map_congr_left λi hi=>?_;have:=lt i hi;simp [this]
  have e2:(is.map λi=>(ts.map (·.2)).getD i []) = (is.map λi=>ts.getD i d).map (·.2):=by
   rw [List.map_map];refine List.map_congr_left λi hi=>?_;have:=lt i hi;simp [this]
  rw [e2,List.pairwise_map] at hs;rw [e1];obtain ⟨e,at'⟩:=sortedAll_at s.heap ((ts.map (·.1)).map Value.ref) (((is.map λi=>ts.getD i d).map (·.1)).map Value.ref).toArray;have fr:H (s.heap.objs.size + 1) = none:=I.hok.fresh (Nat.le_succ _);refine ⟨.ref (s.heap.objs.size + 1),_,I.laid (t':=s.toks) (a:=s.heap.objs.size + 1) (o:=.lst (((is.map λi=>ts.getD i d).map (·.1)).map V.ref)) (λb ob q=>sortedAll_old q) (Nat.le_succ _) ?_,rfl,q _ _ fr pm hs⟩;refine ⟨?_,_,e,vX _,at'⟩;rw [List.length_map,List.length_map,pm.length_eq];exact Nat.le_trans (Nat.le_of_lt h64) (by rw [sizeLine_eq]; decide)
end
end L2
namespace L2
open PySem PySem.Spec PyProof.Rows
end L2

namespace Sea
open PySem L2
theorem zRp {a b c p q r:Int} (hp:0 < p) (hq:0 < q) (hr:0 < r) (h1:a * q<=b * p) (h2:b * r<=c * q):a * r<=c * p:=by
 have e1:=Int.mul_le_mul_of_nonneg_right h1 (Int.le_of_lt hr);have e2:=Int.mul_le_mul_of_nonneg_right h2 (Int.le_of_lt hp);have e3:a * q * r = a * r * q:=Int.mul_right_comm a q r;have e4:b * p * r = b * r * p:=Int.mul_right_comm b p r;have e5:c * q * p = c * p * q:=Int.mul_right_comm c q p;exact Int.le_of_mul_le_mul_right (by omega) hq
theorem zP6 {a b c p q r:Int} (hp:0 < p) (hq:0 < q) (hr:0 < r) (h1:a * q < b * p) (h2:b * r<=c * q):a * r < c * p:=by
 have e1:=Int.mul_lt_mul_of_pos_right h1 hr;have e2:=Int.mul_le_mul_of_nonneg_right h2 (Int.le_of_lt hp);have e3:a * q * r = a * r * q:=Int.mul_right_comm a q r;have e4:b * p * r = b * r * p:=Int.mul_right_comm b p r;have e5:c * q * p = c * p * q:=Int.mul_right_comm c q p;exact Int.lt_of_mul_lt_mul_right (by omega) (Int.le_of_lt hq)
theorem zTm {a b c p q r:Int} (hp:0 < p) (hq:0 < q) (hr:0 < r) (h1:a * q<=b * p) (h2:b * r < c * q):a * r < c * p:=by
 have e1:=Int.mul_le_mul_of_nonneg_right h1 (Int.le_of_lt hr);have e2:=Int.mul_lt_mul_of_pos_right h2 hp;have e3:a * q * r = a * r * q:=Int.mul_right_comm a q r;have e4:b * p * r = b * r * p:=Int.mul_right_comm b p r;have e5:c * q * p = c * p * q:=Int.mul_right_comm c q p;exact Int.lt_of_mul_lt_mul_right (by omega) (Int.le_of_lt hq)
def leS (s t:SpT):Prop:=ahB t s = false
theorem zFu (s t:SpT):leS s t↔s.2.1 * t.2.2.2 < t.2.1 * s.2.2.2\/(s.2.1 * t.2.2.2 = t.2.1 * s.2.2.2/\s.2.2.1 * t.2.2.2<=t.2.2.1 * s.2.2.2):=by
 unfold leS ahB;by_cases h:t.2.1 * s.2.2.2 - s.2.1 * t.2.2.2 = 0
 ·rw [if_pos h,decide_eq_false_iff_not];omega
 ·rw [if_neg h,decide_eq_false_iff_not];omega
theorem zEf {s t:SpT} (h:ahB s t = true):leS s t:=by
 rw [zFu];unfold ahB at h;by_cases e:s.2.1 * t.2.2.2 - t.2.1 * s.2.2.2 = 0
 ·rw [if_pos e] at h;have:=of_decide_eq_true h;omega
 ·rw [if_neg e] at h;have:=of_decide_eq_true h;omega
theorem zNw {s t u:SpT} (hs:0 < s.2.2.2) (ht:0 < t.2.2.2) (hu:0 < u.2.2.2) (h1:leS s t) (h2:leS t u):leS s u:=by
 rw [zFu] at h1 h2 ⊢;rcases h1 with h1 | ⟨h1,g1⟩
 ·left;rcases h2 with h2 | ⟨h2,g2⟩
  ·exact zP6 hs ht hu h1 (Int.le_of_lt h2)
  ·exact zP6 hs ht hu h1 (Int.le_of_eq h2)
 ·rcases h2 with h2 | ⟨h2,g2⟩
  ·left;exact zTm hs ht hu (Int.le_of_eq h1) h2
  ·right;refine ⟨Int.le_antisymm (zRp hs ht hu (Int.le_of_eq h1) (Int.le_of_eq h2)) ?_,zRp hs ht hu g1 g2⟩;have z:=zRp (a:=u.2.1) (b:=t.2.1) (c:=s.2.1) hu ht hs (Int.le_of_eq h2.symm) (Int.le_of_eq h1.symm);exact z
def zR3 (xs:List SpT):Prop:=∀ t∈xs,0 < t.2.2.2
theorem zC7 {p:SpT->Bool} : ∀ {xs:List SpT} {x:SpT},x∈xs.takeWhile p->p x = true/\x∈xs
 | [],_,h=>nomatch h
 | y :: ys,x,h=>by
  by_cases hy:p y = true
  ·rw [List.takeWhile_cons_of_pos hy] at h;rcases List.mem_cons.mp h with rfl | h
   ·exact ⟨hy,List.mem_cons_self ..⟩
   ·exact ⟨(zC7 h).1,List.mem_cons_of_mem _ (zC7 h).2⟩
  ·rw [List.takeWhile_cons_of_neg hy] at h;exact nomatch h
theorem zFg {p:SpT->Bool} : ∀ {xs:List SpT},xs.dropWhile p = []\/∃ y ys,xs.dropWhile p = y :: ys/\p y = false
 | []=>.inl rfl
 | y :: ys=>by
  by_cases hy:p y = true
  ·rw [List.dropWhile_cons_of_pos hy];exact zFg
  ·rw [List.dropWhile_cons_of_neg hy];exact .inr ⟨y,ys,rfl,by simpa using hy⟩
theorem zDp:∀ (ys xs:List SpT),zR3 xs->zR3 ys->xs.Pairwise leS->ys.Pairwise leS->(xD xs ys).Pairwise leS
 | [],xs,_,_,hx,_=>by rw [xD]; exact hx
 | o :: r,xs,wx,wy,hx,hy=>by
  rw [xD];have wo:0 < o.2.2.2:=wy o (List.mem_cons_self ..);have wr:zR3 r:=λt ht=>wy t (List.mem_cons_of_mem _ ht);obtain ⟨hor,hr⟩:=List.pairwise_cons.mp hy;have sd:(xs.dropWhile λx=>!ahB o x).Sublist xs:=List.dropWhile_sublist _;have st:(xs.takeWhile λx=>!ahB o x).Sublist xs:=List.takeWhile_sublist _;have wd:zR3 (xs.dropWhile λx=>!ahB o x):=λt ht=>wx t (sd.subset ht);have ih:=zDp r (xs.dropWhile λx=>!ahB o x) wd wr (hx.sublist sd) hr;have od:∀ y∈xs.dropWhile (λx=>!ahB o x),leS o y:=λy hyd=>by
   rcases zFg (p:=λx=>!ahB o x) (xs:=xs) with e | ⟨z,zs,e,hz⟩
   ·rw [e] at hyd;exact nomatch hyd
   ·have hz':ahB o z = true:=by simpa using hz
    have pw:=hx.sublist sd;rw [e] at hyd pw;rcases List.mem_cons.mp hyd with rfl | h
    ·exact zEf hz'
    ·have wz:0 < z.2.2.2:=wd z (by rw [e]; exact List.mem_cons_self ..);have wy':0 < y.2.2.2:=wd y (by rw [e]; exact List.mem_cons_of_mem _ h);exact zNw wo wz wy' (zEf hz') ((List.pairwise_cons.mp pw).1 y h)
  have om:∀ y∈xD (xs.dropWhile λx=>!ahB o x) r,leS o y:=λy hym=>by
   rcases List.mem_append.mp ((rD r _).mem_iff.mp hym) with h | h
   ·exact od y h
   ·exact hor y h
  rw [List.pairwise_append];refine ⟨hx.sublist st,List.pairwise_cons.mpr ⟨om,ih⟩,λa ha b hb=>?_⟩;obtain ⟨pa,ma⟩:=zC7 ha;have la:leS a o:=by
   show ahB o a = false;simpa using pa
  rcases List.mem_cons.mp hb with rfl | hb
  ·exact la
  ·have wb:0 < b.2.2.2:=by
    rcases List.mem_append.mp ((rD r _).mem_iff.mp hb) with h | h
    ·exact wd b h
    ·exact wr b h
   exact zNw (wx a ma) wo wb la (om b hb)
theorem zBq:∀ (n:Nat) (xs:List SpT),xs.length<=2 ^ n->zR3 xs->(qY n xs).Pairwise leS
 | 0,xs,h,_=>by
  rw [qY]
  match xs,h with
  | [],_=>exact .nil
  | [x],_=>exact List.pairwise_singleton ..
  | _ :: _ :: _,h=>rw [List.length_cons,List.length_cons] at h; omega
 | n + 1,xs,h,w=>by
  rw [qY];split
  ·rename_i h2
   match xs,h2 with
   | [],_=>exact .nil
   | [x],_=>exact List.pairwise_singleton ..
   | _ :: _ :: _,h=>rw [List.length_cons,List.length_cons] at h; omega
  ·have e:2 ^ (n + 1) = 2 ^ n * 2:=Nat.pow_succ 2 n;have w1:zR3 (xs.take (xs.length / 2)):=λt ht=>w t (List.mem_of_mem_take ht);have w2:zR3 (xs.drop (xs.length / 2)):=λt ht=>w t (List.mem_of_mem_drop ht);refine zDp _ _ (λt ht=>w1 t ((uU n _).mem_iff.mp ht)) (λt ht=>w2 t ((uU n _).mem_iff.mp ht)) (zBq n _ (by rw [List.length_take]; omega) w1) (zBq n _ (by rw [List.length_drop]; omega) w2)
end Sea

namespace L2
open PySem PySem.Spec PyProof.Rows
section
variable {κ:Type} [DecidableEq κ]
def zEr (kvs:List (κ × V)) (k:κ):Option V:=(kvs.find? λkv=>decide (kv.1 = k)).map (·.2)
def zEh (kvs:List (κ × V)) (k:κ) (v:V):List (κ × V) :=
 if (kvs.any λkv=>decide (kv.1 = k)) = true then kvs.map (λkv=>if kv.1 = k then (kv.1,v) else kv) else kvs ++ [(k,v)]
theorem uM {p:κ × V} {r:List (κ × V)} {k:κ} (e:p.1 = k):zEr (p :: r) k = some p.2:=by simp [zEr,List.find?_cons,e]
theorem uD {p:κ × V} {r:List (κ × V)} {k:κ} (e:¬ p.1 = k):zEr (p :: r) k = zEr r k:=by simp [zEr,List.find?_cons,e]
theorem zCp (k:κ):∀ kvs:List (κ × V),(kvs.any λkv=>decide (kv.1 = k)) = (zEr kvs k).isSome
 | []=>rfl
 | p :: r=>by
  rw [List.any_cons];by_cases e:p.1 = k
  ·simp only [uM e,decide_eq_true e,Bool.true_or,Option.isSome_some]
  ·rw [uD e,decide_eq_false e,Bool.false_or]; exact zCp k r
theorem zJr (k j:κ) (y:V):∀ kvs:List (κ × V),zEr (kvs.map λkv=>if kv.1 = k then (kv.1,y) else kv) j = (zEr kvs j).map λx=>if j = k then y else x
 | []=>rfl
 | p :: r=>by
  have ih:=zJr k j y r;rw [List.map_cons];by_cases h:p.1 = k
  ·rw [if_pos h];by_cases e:p.1 = j
   ·rw [uM (p:=(p.1,y)) e,uM e,Option.map_some,if_pos (e.symm.trans h)]
   ·rw [uD (p:=(p.1,y)) e,uD e,ih]
  ·rw [if_neg h];by_cases e:p.1 = j
   ·rw [uM (p:=p) e,uM e,Option.map_some,if_neg (λz=>h (e.trans z))]
   ·rw [uD (p:=p) e,uD e,ih]
theorem zGu (k j:κ) (y:V):∀ kvs:List (κ × V),zEr kvs k = none->zEr (kvs ++ [(k,y)]) j = if j = k then some y else zEr kvs j
 | [],_=>by
  by_cases e:k = j
  ·rw [if_pos e.symm]; exact uM (p:=(k,y)) e
  ·rw [if_neg (λz=>e z.symm)]; exact uD (p:=(k,y)) e
 | p :: r,hn=>by
  rw [List.cons_append];have hk:¬ p.1 = k:=λz=>by rw [uM z] at hn; cases hn
  rw [uD hk] at hn;have ih:=zGu k j y r hn;by_cases e:p.1 = j
  ·rw [uM e,uM e,if_neg (λz=>hk (e.trans z))]
  ·rw [uD e,uD e,ih]
theorem zJn (kvs:List (κ × V)) (k j:κ) (y:V):zEr (zEh kvs k y) j = if j = k then some y else zEr kvs j:=by
 unfold zEh;by_cases a:(kvs.any λkv=>decide (kv.1 = k)) = true
 ·rw [if_pos a,zJr];rw [zCp] at a;by_cases e:j = k
  ·obtain ⟨x,hx⟩:=Option.isSome_iff_exists.mp a;rw [if_pos e,e,hx,Option.map_some,if_pos rfl]
  ·rw [if_neg e];cases zEr kvs j with
   | none=>rfl
   | some x=>rw [Option.map_some,if_neg e]
 ·rw [if_neg a];refine zGu k j y kvs ?_;rw [zCp] at a;cases q:zEr kvs k with
  | none=>rfl
  | some x=>rw [q] at a; exact (a rfl).elim
theorem zEc (kvs:List (κ × V)) (k:κ) (v:V):(zEh kvs k v).length<=kvs.length + 1:=by
 unfold zEh;split
 ·rw [List.length_map]; omega
 ·rw [List.length_append,List.length_cons,List.length_nil]; omega
theorem zOg.isSome_eq {o:Option V} {u:Option Value} (r:zOg o u):o.isSome = u.isSome:=by
 cases o with
 | none=>cases u with
  | none=>rfl
  | some _=>exact (show False from r).elim
 | some _=>cases u with
  | none=>exact (show False from r).elim
  | some _=>rfl
theorem KV.val {kvs:List (κ × V)} {vs:List (κ × Value)} (r:KV kvs vs) (k:κ):zOg (zEr kvs k) (valueAt vs k):=by
 unfold KV at r
 induction r with
 | nil=>exact True.intro
 | @cons p q ps qs h t ih =>
  obtain ⟨h1,h2⟩:=h;by_cases e:p.1 = k
  ·have e':q.1 = k:=h1.symm.trans e;have b:valueAt (q :: qs) k = some q.2:=by simp [valueAt,List.find?_cons,e']
   rw [uM e,b]; exact h2
  ·have e':¬ q.1 = k:=λz=>e (h1.trans z);have b:valueAt (q :: qs) k = valueAt qs k:=by simp [valueAt,List.find?_cons,e']
   rw [uD e,b]; exact ih
theorem KV.any {kvs:List (κ × V)} {vs:List (κ × Value)} (r:KV kvs vs) (k:κ):(kvs.any λkv=>decide (kv.1 = k)) = vs.any λkv=>decide (kv.1 = k):=by
 unfold KV at r
 induction r with
 | nil=>rfl
 | cons h t ih=>rw [List.any_cons,List.any_cons,ih,h.1]
theorem KV.repl {kvs:List (κ × V)} {vs:List (κ × Value)} (r:KV kvs vs) (k:κ) {y:V} {u:Value} (ry:uN y u) :
  KV (kvs.map λkv=>if kv.1 = k then (kv.1,y) else kv) (vs.map λkv=>if kv.1 = k then (kv.1,u) else kv):=by
 unfold KV at r ⊢
 induction r with
 | nil=>exact .nil
 | @cons p q ps qs h t ih =>
  rw [List.map_cons,List.map_cons];refine .cons ?_ ih;obtain ⟨h1,h2⟩:=h;by_cases e:p.1 = k
  ·rw [if_pos e,if_pos (h1.symm.trans e)]; exact ⟨h1,ry⟩
  ·rw [if_neg e,if_neg (λz=>e (h1.trans z))]; exact ⟨h1,h2⟩
theorem KV.put {kvs:List (κ × V)} {vs:List (κ × Value)} (r:KV kvs vs) (k:κ) {y:V} {u:Value} (ry:uN y u):KV (zEh kvs k y) (stored vs k u):=by
 unfold zEh stored;rw [r.any k];by_cases e:(vs.any λkv=>decide (kv.1 = k)) = true
 ·rw [if_pos e,if_pos e]; exact r.repl k ry
 ·rw [if_neg e,if_neg e]; exact Paired.snoc r ⟨rfl,ry⟩
theorem KV.length {kvs:List (κ × V)} {vs:List (κ × Value)} (r:KV kvs vs):kvs.length = vs.length:=Paired.length r
end


theorem zQy {P:Program} {w:World} {k:Key} {u:Value} (r:uN (kV k) u):(uF P w).is k u = true:=by
 cases k with
 | inl i=>obtain ⟨t,e⟩:=(show ∃ t,u = Value.int i t from r); subst e; exact zIb P w i t
 | inr x=>obtain ⟨t,e⟩:=(show ∃ t,u = Value.str x t from r); subst e; exact zH9 P w x t
theorem zGz {P:Program} {w:World} : ∀ {ks:List Key} {us:List Value},xI (ks.map kV) us->ItemsAre (uF P w) ks us
 | [],_,r=>by rw [List.map_nil] at r; cases r; exact .nil
 | k :: ks,_,r=>by
  rw [List.map_cons] at r;cases r with
  | cons h t=>exact .cons (zQy h) (zGz t)

abbrev KT (H:Hp):List (List Key × V)->List (List Key × Addr × Value)->Prop:=Paired λp q=>p.1 = q.1/\H q.2.1 = some (.tup (p.1.map kV))/\uN p.2 q.2.2
theorem KT.val {H:Hp} {kvs:List (List Key × V)} {xs:List (List Key × Addr × Value)} (r:KT H kvs xs) (k:List Key):zOg (zEr kvs k) ((atKey xs k).map (·.2)):=by
 induction r with
 | nil=>exact True.intro
 | @cons p q ps qs h t ih =>
  obtain ⟨h1,_,h2⟩:=h;by_cases e:p.1 = k
  ·have e':q.1 = k:=h1.symm.trans e;have b:atKey (q :: qs) k = some q.2:=by simp [atKey,List.find?_cons,e']
   rw [uM e,b]; exact h2
  ·have e':¬ q.1 = k:=λz=>e (h1.trans z);have b:atKey (q :: qs) k = atKey qs k:=by simp [atKey,List.find?_cons,e']
   rw [uD e,b]; exact ih
theorem KT.repl {H:Hp} {kvs:List (List Key × V)} {xs:List (List Key × Addr × Value)} (r:KT H kvs xs) (k:List Key) {y:V} {u:Value} (ry:uN y u) :
  KT H (kvs.map λkv=>if kv.1 = k then (kv.1,y) else kv) (xs.map (putAt k u)):=by
 induction r with
 | nil=>exact .nil
 | @cons p q ps qs h t ih =>
  rw [List.map_cons,List.map_cons];refine .cons ?_ ih;obtain ⟨h1,h2,h3⟩:=h;unfold putAt;by_cases e:p.1 = k
  ·rw [if_pos e,if_pos (h1.symm.trans e)]; exact ⟨h1,h2,ry⟩
  ·rw [if_neg e,if_neg (λz=>e (h1.trans z))]; exact ⟨h1,h2,h3⟩
theorem KT.put {H:Hp} {kvs:List (List Key × V)} {xs:List (List Key × Addr × Value)} (r:KT H kvs xs) (k:List Key) {b:Addr} {y:V} {u:Value} (hb:H b = some (.tup (k.map kV))) (ry:uN y u) :
  KT H (zEh kvs k y) (storedH xs k b u):=by
 have e:(kvs.any λkv=>decide (kv.1 = k)) = (atKey xs k).isSome:=by
  rw [zCp,(r.val k).isSome_eq,Option.isSome_map]
 unfold zEh storedH;rw [e];by_cases q:(atKey xs k).isSome = true
 ·rw [if_pos q,if_pos q]; exact r.repl k ry
 ·rw [if_neg q,if_neg q]; exact Paired.snoc r ⟨rfl,hb,ry⟩
theorem KT.keeps {H H':Hp} {kvs:List (List Key × V)} {xs:List (List Key × Addr × Value)} (r:KT H kvs xs) (ht:∀ b ys,H b = some (.tup ys)->H' b = some (.tup ys)):KT H' kvs xs :=
 Paired.mapP r λ_ _ z=>⟨z.1,ht _ _ z.2.1,z.2.2⟩

section
variable {P:Program} {w:World} {H:Hp} {h:Heap} {a:Addr}
theorem zS2 {u:HO} (ok:HOk P w H h) (e:Rd H a u):vN P w H h a u:=e.ok ok
theorem zRi {kvs:List (Key × V)} (ok:HOk P w H h) (e:Rd H a (.dK kvs)):kvs.length<=sizeLine/\(a == sysModules) = false/\∃ vs,KV kvs vs/\h.DictOf (uF P w) a vs :=
 show vN P w H h a (.dK kvs) from zS2 ok e
theorem dk_of {kvs:List (Key × V)} (ok:HOk P w H h) (e:H a = some (.dK kvs)):kvs.length<=sizeLine/\(a == sysModules) = false/\∃ vs,KV kvs vs/\h.DictOf (uF P w) a vs:=zRi ok (.inl e)
theorem zMe {ks:List Key} (ok:HOk P w H h) (e:H a = some (.tup (ks.map kV))):(tupleKind (uF P w)).is h ks a:=by
 obtain ⟨_,its,r,o,h1,h2,n,h3⟩:=(show vN P w H h a (.tup (ks.map kV)) from ok a _ e);exact ⟨o,its.toArray,n,h1,h2,h3,by simpa using zGz r⟩
theorem zQx {kvs:List (List Key × V)} (ok:HOk P w H h) (e:Rd H a (.dT kvs)):kvs.length<=sizeLine/\(a == sysModules) = false /\
  ∃ xs,KT H kvs xs/\h.DictOfH (tupleKind (uF P w)) a xs:=by
 obtain ⟨z,y,xs,r,o,es,ep,h1,h2,h3,h4,h5⟩:=(show vN P w H h a (.dT kvs) from zS2 ok e);refine ⟨z,y,xs,r,o,es,ep,h1,h2,h3,h4,λx hx=>?_,h5⟩;have all:∀ {l:List (List Key × V)} {m:List (List Key × Addr × Value)},KT H l m->∀ x∈m,(tupleKind (uF P w)).is h x.1 x.2.1:=by
  intro l m q
  induction q with
  | nil=>intro x hx; exact nomatch hx
  | @cons p q ps qs hq t ih =>
   intro x hx;rcases List.mem_cons.mp hx with e | hx
   ·subst e;exact zMe ok (by rw [<- hq.1]; exact hq.2.1)
   ·exact ih x hx
 exact all r x hx
theorem zSd {kvs:List (List Key × V)} (ok:HOk P w H h) (e:H a = some (.dT kvs)):kvs.length<=sizeLine/\(a == sysModules) = false /\
  ∃ xs,KT H kvs xs/\h.DictOfH (tupleKind (uF P w)) a xs:=zQx ok (.inl e)
end

def zSi (H:Hp) (a:Addr) (y:V) (r:Option V):Prop :=
 (∃ kvs k,Rd H a (.dK kvs)/\y = kV k/\r = zEr kvs k)\/∃ kvs k b,Rd H a (.dT kvs)/\y = .ref b/\H b = some (.tup (k.map kV))/\r = zEr kvs k
def zQh (H:Hp) (a:Addr) (y v:V) (H':Hp):Prop :=
 (∃ kvs k,H a = some (.dK kvs)/\y = kV k/\kvs.length < sizeLine/\H' = upd H a (.dK (zEh kvs k v))) \/
 ∃ kvs k b,H a = some (.dT kvs)/\y = .ref b/\H b = some (.tup (k.map kV))/\kvs.length < sizeLine/\H' = upd H a (.dT (zEh kvs k v))
theorem zSi.t {H:Hp} {a b:Addr} {kvs:List (List Key × V)} {k:List Key} (e:H a = some (.dT kvs)) (eb:H b = some (.tup (k.map kV))):zSi H a (.ref b) (zEr kvs k):=.inr ⟨kvs,k,b,.inl e,rfl,eb,rfl⟩
theorem zQh.t {H:Hp} {a b:Addr} {kvs:List (List Key × V)} {k:List Key} {v:V} (e:H a = some (.dT kvs)) (eb:H b = some (.tup (k.map kV))) (hl:kvs.length < sizeLine) :
  zQh H a (.ref b) v (upd H a (.dT (zEh kvs k v))):=.inr ⟨kvs,k,b,e,rfl,eb,hl,rfl⟩


section
variable {X:Cx} {pins:List (Addr × Obj)} {σ:St} {H:Hp} {s:Shared} {a:Addr} {y v:V} {u r:Value} {o:Option V} {A:Around} {E:Value->Shared->Prop}

theorem Inv.big (I:Inv X pins σ H s):sysModules < s.heap.objs.size:=by
 have h:mainGlobals < s.heap.objs.size:=(I.mod.glob.keeps I.bk).lt;exact Nat.lt_trans (by decide) h

theorem zNt {Q:Value->Shared->Prop} (hu:A.units + 1 < cLine) (I:Inv X pins σ H s) (g:zSi H a y (some v)) (ry:uN y u) (h:∀ w' s',Inv X pins σ H s'->uN v w'->Q w' s') :
  wpAny (model X.prog X.w) A (getItem (.ref a) u) Q E s:=by
 rcases g with ⟨kvs,k,e,ey,l⟩ | ⟨kvs,k,b,e,ey,eb,l⟩
 ·subst ey;obtain ⟨z,hd,vs,rel,dd⟩:=zRi I.hok e;obtain ⟨w',hw,rw'⟩:=zOg.some_of (v:=v) (o:=valueAt vs k) (by rw [l]; exact rel.val k);exact wpAny_getItem_of (zQy ry) dd.mapOf hw (h w' _ (I.tok _) rw')
 ·subst ey;cases (show u = Value.ref b from ry);obtain ⟨z,hd,xs,rel,dd⟩:=zQx I.hok e;obtain ⟨w',hw,rw'⟩:=zOg.some_of (v:=v) (o:=(atKey xs k).map (·.2)) (by rw [l]; exact rel.val k);obtain ⟨p,hp,hp2⟩:=Option.map_eq_some_iff.mp hw;refine wpAny_getItem_heap (tupleKind_room_in1 hu) (zMe I.hok eb) dd hp ?_;rw [hp2];exact h w' _ (I.tok _) rw'
theorem zLj {h':Heap} {t':Nat} {ob:HO} (I:Inv X pins σ H s) (mu:Mut (H a)) (hs:Heap.SameBut a s.heap h') (he:∃ q,h'.get? a = some q) (new:vN X.prog X.w (upd H a ob) h' a ob) :
  Inv X pins σ (upd H a ob) { s with heap:=h',toks:=t' } :=
 I.write (x:=a) (e:=a) mu (.inl rfl) (λb q hb z=>(hs.2 b hb).trans z) he new
theorem zTu {P:Program} {w:World} {H':Hp} {h':Heap} {kvs:List (Key × V)} {vs:List (Key × Value)} (z:kvs.length<=sizeLine) (hd:(a == sysModules) = false) (rel:KV kvs vs) (dd:h'.DictOf (uF P w) a vs) :
  vN P w H' h' a (.dK kvs):=⟨z,hd,vs,rel,dd⟩
theorem zN4 {H':Hp} {Q:Unit->Shared->Prop} (hu:A.units + 1 < cLine) (I:Inv X pins σ H s) (g:zQh H a y v H') (ry:uN y u) (rv:uN v r) (h:∀ s',Inv X pins σ H' s'->Q () s') :
  wpAny (model X.prog X.w) A (setItem (.ref a) u r) Q E s:=by
 rcases g with ⟨kvs,k,e,ey,l,eH⟩ | ⟨kvs,k,b,e,ey,eb,l,eH⟩
 ·subst ey eH;obtain ⟨z,hd,vs,rel,dd⟩:=dk_of I.hok e;have hz:vs.length<=sizeLine:=by rw [<- rel.length]; exact z
  have hl:(zEh kvs k v).length<=sizeLine:=by have:=zEc kvs k v; omega
  refine wpAny_setItem_pairs (hsz:=hz) (zQy ry) dd λh' dd' hs=>h _ ?_;have he:∃ q,h'.get? a = some q:=let ⟨q,_,_,hq,_⟩:=dd'; ⟨q,hq⟩;exact zLj I (by rw [e]; exact True.intro) hs he (zTu hl hd (rel.put k rv) dd')
 ·subst ey eH;cases (show u = Value.ref b from ry);obtain ⟨z,hd,xs,rel,dd⟩:=zSd I.hok e;have hz:xs.length<=sizeLine:=by rw [<- Paired.length rel]; exact z
  have hl:(zEh kvs k v).length<=sizeLine:=by have:=zEc kvs k v; omega
  refine wpAny_setItem_heap (hsz:=hz) (tupleKind_room_in1 hu) (zMe I.hok eb) dd λh' dd' hs=>h _ ?_;obtain ⟨q,es,ep,hq,h2,h3,h4,_,h5⟩:=dd';refine zLj I (by rw [e]; exact True.intro) hs ⟨q,hq⟩ ⟨hl,hd,_,(rel.put k eb rv).keeps λc ys ec=>?_,q,es,ep,hq,h2,h3,h4,h5⟩;rw [zP (sZ ec e (λz=>nomatch z))];exact ec
end



def NoSl (i:Expr):Prop:=∀ ov iv,subscripted i false ov iv = operate [ov,iv] (getItem ov iv)
theorem zRv {prog:Program} {w:World} {A:Around} {E:Value->Shared->Prop} {s:Shared} {env:Env} {value slice:Expr} {pos:Pos} {T id:String} {Q:Value->Shared->Prop}
  (hl:typeLookup (.type T) "__getitem__" = pure (some (.builtin id))) (hs:NoSl slice)
  (h:wpAny (model prog w) A (eval value env) (λo s₁=>wpAny (model prog w) A (eval slice env) (λi s₂=>s₂.TypeIs o T/\wpAny (model prog w) A (getItem o i) Q E s₂) E s₁) E s) :
  wpAny (model prog w) A (eval (.Subscript value slice pos) env) Q E s:=by
 refine Subscript_ (wpAny_mono h (λo s₁ h₁=>wpAny_mono h₁ (λi s₂ h₂=>?_) λ_ _ x=>x) λ_ _ x=>x);obtain ⟨hT,h₂⟩:=h₂;unfold subscriptTail;refine wpAny_bind ?_;rw [getitemInPython_of_ne hT.not_modules];refine wpAny_bind (wpAny_specialOf hT hl ?_);have fin:wpAny (model prog w) A (subscripted slice false o i) (λr s₃=>wpAny (model prog w) A (letTemporaryGo value o r >>= λ_=>pure r) Q E s₃) E s₂:=by
  rw [hs o i];exact wpAny_operating (wpAny_mono h₂ (λr s₃ h₃=>wpAny_bind (wpAny_letTemporaryGo (wpAny_pure h₃))) λ_ _ x=>x)
 first
  | exact wpAny_pure (wpAny_bind fin)
  | exact wpAny_bind (wpAny_pure (wpAny_bind fin))
  | exact wpAny_bind fin

theorem zH3 {X:Cx} {pins:List (Addr × Obj)} {σ:St} {H:Hp} {s:Shared} {a:Addr} {y:V} {o:Option V} (I:Inv X pins σ H s) (g:zSi H a y o):s.TypeIs (.ref a) "dict" := by
 rcases g with ⟨kvs,k,e,_,_⟩ | ⟨kvs,k,b,e,_,_,_⟩
 ·obtain ⟨_,_,vs,_,dd⟩:=zRi I.hok e;exact dd.typeIs
 ·obtain ⟨_,_,xs,_,dd⟩:=zQx I.hok e;exact dd.typeIs
def tDGet (td ty:TE):TE:=λσ H Q=>td σ H λx H1=>ty σ H1 λy H2=>∃ a v,x = .ref a/\zSi H2 a y (some v)/\Q v H2
def sDPut (td ty tv:TE):TS:=λD σ H=>tv σ H λv H1=>td σ H1 λx H2=>ty σ H2 λy H3=>∃ a H4,x = .ref a/\zQh H3 a y v H4/\D.nx σ H4
section
variable {X:Cx} {o i e value:Expr} {pos pos' tpos:Pos} {td ty tv:TE}
theorem zQt (hu:X.A.units + 1 < cLine) (ho:PE X o td) (hi:PE X i ty) (hs:NoSl i):PE X (.Subscript o i pos) (tDGet td ty):=by
 intro pins s σ H Q I h;refine zRv PySem.F.slot_dict_getitem.lookup hs (thn (ho pins s σ H _ I h) λu s1 ⟨x,H1,I1,rx,q1⟩=>thn (hi pins s1 σ H1 _ I1 q1) λiv s2 ⟨y,H2,I2,ry,a,v,ex,g,q2⟩=>?_);subst ex;obtain rfl:u = Value.ref a:=rx;exact ⟨zH3 I2 g,zNt hu I2 g ry λw' s3 I3 rw'=>⟨v,H2,I3,rw',q2⟩⟩
theorem zFl (hu:X.A.units + 1 < cLine) (ho:PE X o td) (hi:PE X i ty) (hv:PE X value tv) (hs:swapsWith value (some (.Subscript o i pos')) pos.line X.env = pure false) :
  PS X (.Assign [.Subscript o i pos'] value pos) (sDPut td ty tv):=by
 intro pins s σ H D I h;refine wpAny_Assign_Subscript (thn (hv pins s σ H _ I h) λr s1 ⟨v,H1,I1,rv,q1⟩=>thn (ho pins s1 σ H1 _ I1 q1) λu s2 ⟨x,H2,I2,rx,q2⟩=>thn (hi pins s2 σ H2 _ I2 q2) λiv s3 ⟨y,H3,I3,ry,a,H4,ex,g,q3⟩=>?_) hs;subst ex;obtain rfl:u = Value.ref a:=rx;exact zN4 hu I3 g ry rv λs4 I4=>⟨σ,H4,I4,q3⟩
end


theorem zO4 {P:Program} {w:World} {H:Hp} (h:Heap) (hb:sysModules < h.objs.size):vN P w H (h.push { cls:=.type "dict", data:=.dict #[] }) h.objs.size (.dT []) :=
 ⟨Nat.zero_le _,beq_eq_false_iff_ne.mpr (Ne.symm (Nat.ne_of_lt hb)),[],.nil,_,#[],0,Heap.get?_push_size _ rfl,⟨rfl,rfl,rfl⟩,rfl,rfl,List.nodup_nil⟩
def zS1:TE:=λ_ H Q=>∀ p,H p = none->Q (.ref p) (upd H p (.dT []))
section
variable {X:Cx} {pos:Pos}
theorem zCx:PE X (.Dict [] [] pos) zS1:=λpins s σ H Q I h =>
 wpAny_Dict_empty ⟨.ref s.heap.objs.size,_,I.laid (a:=s.heap.objs.size) (o:=.dT []) (t':=s.toks) (λ_ _ q=>Heap.get?_push_of_some _ q) (Nat.le_refl _) (zO4 s.heap I.big),rfl,h _ (I.hok.fresh (Nat.le_refl _))⟩
end

end L2

namespace L2
open PySem PySem.Spec PyProof.Rows
def zLc (h:Heap) (a:Addr) (rows:Array DictEntry) (age:Nat):Prop:=∃ ob,h.get? a = some ob/\ob.ExactDict/\ob.data = .dict rows age
theorem zLc.at {h h':Heap} {a:Addr} {rows:Array DictEntry} {age:Nat} (x:zLc h a rows age) (e:∀ ob,h.get? a = some ob->h'.get? a = some ob):zLc h' a rows age:=let ⟨ob,g,r⟩:=x; ⟨ob,e _ g,r⟩
theorem zLc.typeIs {z:Shared} {a:Addr} {rows:Array DictEntry} {age:Nat} (x:zLc z.heap a rows age):z.TypeIs (.ref a) "dict" := let ⟨ob,g,c,_⟩:=x; ⟨ob,g,c.1⟩
section
variable {prog:Program} {w:World} {A:Around} {E:Value->Shared->Prop} {z:Shared} {it a:Addr} {rows:Array DictEntry} {age k:Nat}
theorem zI4 {R:Value->Shared->Prop} (hs:(a == sysModules) = false) (x:zLc z.heap a rows age) (hR:R (.ref z.heap.objs.size) { z with heap:=z.heap.push { cls:=.type "dict_keyiterator", data:=.fields #[.ref a,.int 0 0,.int rows.size 0,.int age 0] } }) :
  wpAny (model prog w) A (pyIter (.ref a)) R E z:=by
 have ty:=x.typeIs;obtain ⟨ob,g,_,dat⟩:=x;refine wpAny_pyIter_slot ty F.slot_dict_iter (wpAny_call_entry F.slot_dict_iter ty F.entry_dict_iter ?walk (F.args_dict_iter_1 _))
 case walk =>
  unfold Builtin.«dict.__iter__» Builtin.Dict.dictSlotNone;refine wpAny_bind (wpAny_bind (wpAny_notOrdered_dict ty (show wpAny _ _ (pure (Value.ref a)) _ _ z from wpAny_pure ?_)));show wpAny _ _ (Builtin.Dict.showsAll a >>= _) _ _ z;unfold Builtin.Dict.showsAll;rw [if_neg (by rw [hs]; decide)];refine wpAny_bind (wpAny_pure (wpAny_bind (wpAny_dictEntries g dat (wpAny_bind (wpAny_dictEpoch g dat ?_)))));refine wpAny_bind (wpAny_newObj_type (wpAny_pure ⟨_,rfl, "dict_keyiterator", _,⟨_,Heap.get?_push_size _ rfl,rfl⟩,F.slot_dict_keyiterator_next.lookup,?_⟩));simpa [rawInt] using hR
theorem zJt {R:Option Value->Shared->Prop} (ki:z.heap.IsKeyIter it a k rows.size age) (x:zLc z.heap a rows age) (hk:k < rows.size)
  (hR:∀ h',h'.IsKeyIter it a (k + 1) rows.size age->Heap.SameBut it z.heap h'->R (some rows[k].key) { z with heap:=h' }):wpAny (model prog w) A (pyNext (.ref it)) R E z:=by
 have ty:=ki.typeIs;obtain ⟨oi,gi,ci,di⟩:=id ki;obtain ⟨ob,g,_,dat⟩:=x;unfold pyNext;refine wpAny_bind (wpAny_attempt (wpAny_callSpecial?_slot (name:=Str.ofString "__next__") ty F.slot_dict_keyiterator_next (wpAny_call_entry F.slot_dict_keyiterator_next ty F.entry_dict_keyiterator_next ?walk (F.args_dict_keyiterator_next_1 _))))
 case walk =>
  refine wpAny_bind (wpAny_pure (wpAny_bind (wpAny_bind ?_)))
  first | refine wpAny_bind (wpAny_typeNameOfWhole_keyiter ty (wpAny_pure (wpAny_bind (wpAny_fieldsOf gi di ?_)))) | refine wpAny_bind (wpAny_typeNameOf_keyiter ty (wpAny_pure (wpAny_bind (wpAny_fieldsOf gi di ?_))))
  simp only [show Builtin.Dict_items.ownsTuple "dict_keyiterator" = false by decide,Bool.false_eq_true,if_false];show wpAny _ _ (if (Value.ref a == Value.none) = true then _ else _) _ _ z;rw [if_neg (show ¬ ((Value.ref a == Value.none) = true) from Bool.false_ne_true)];refine wpAny_bind (wpAny_pure (wpAny_bind (wpAny_dictEntries g dat ?_)));rw [if_neg (by simp)];refine wpAny_bind (wpAny_pure (wpAny_bind (wpAny_dictEpoch g dat ?_)));rw [if_neg (by simp)];refine wpAny_pure ?_;simp only [show ¬ ((k:Int) < 0) from by omega,if_false,Int.toNat_natCast,Array.getElem?_eq_getElem hk];refine wpAny_bind ?_
  first | refine wpAny_bind (wpAny_typeNameOfWhole_keyiter ty (wpAny_pure (wpAny_bind (wpAny_isOneOf_keyiter ty ?_)))) | refine wpAny_bind (wpAny_typeNameOf_keyiter ty (wpAny_pure (wpAny_bind (wpAny_isOneOf_keyiter ty ?_))))
  show wpAny _ _ (setField (.ref it) 1 (rawInt ((k:Int) + 1)) >>= _) _ _ z;refine wpAny_bind (wpAny_setField gi di (by simp) ?_);have ki':(z.heap.update it (Obj.mapFields (·.setIfInBounds 1 (rawInt ((k:Int) + 1))))).IsKeyIter it a (k + 1) rows.size age :=
   ⟨_,Heap.get?_update_self _ gi (Obj.isFreed_of_fields (Obj.data_mapFields di _)),(Obj.cls_mapFields ..).trans ci,by rw [Obj.data_mapFields di]; simp [rawInt]⟩
  refine wpAny_bind (wpAny_holding (wpAny_bind (wpAny_isOneOf_keyiter (s:={ z with heap:=z.heap.update it (Obj.mapFields (·.setIfInBounds 1 (rawInt ((k:Int) + 1)))) }) ki'.typeIs ?_)));show wpAny _ _ (pure rows[k].key) _ _ _;exact wpAny_pure (wpAny_pure ⟨_,rfl,wpAny_pure (hR _ ki' (Heap.SameBut.update ..))⟩)
theorem zMb {R:Option Value->Shared->Prop} (hh:A.handled = none) (ki:z.heap.IsKeyIter it a k rows.size age) (x:zLc z.heap a rows age) (hk:rows.size<=k)
  (hR:∀ h',Heap.ExtBut it z.heap h'->R none { z with heap:=h' }):wpAny (model prog w) A (pyNext (.ref it)) R E z:=by
 have ty:=ki.typeIs;obtain ⟨oi,gi,ci,di⟩:=id ki;obtain ⟨ob,g,_,dat⟩:=x;unfold pyNext;refine wpAny_bind (wpAny_attempt (wpAny_callSpecial?_slot (name:=Str.ofString "__next__") ty F.slot_dict_keyiterator_next (wpAny_call_entry F.slot_dict_keyiterator_next ty F.entry_dict_keyiterator_next ?walk (F.args_dict_keyiterator_next_1 _))))
 case walk =>
  refine wpAny_bind (wpAny_pure (wpAny_bind (wpAny_bind ?_)))
  first | refine wpAny_bind (wpAny_typeNameOfWhole_keyiter ty (wpAny_pure (wpAny_bind (wpAny_fieldsOf gi di ?_)))) | refine wpAny_bind (wpAny_typeNameOf_keyiter ty (wpAny_pure (wpAny_bind (wpAny_fieldsOf gi di ?_))))
  simp only [show Builtin.Dict_items.ownsTuple "dict_keyiterator" = false by decide,Bool.false_eq_true,if_false];show wpAny _ _ (if (Value.ref a == Value.none) = true then _ else _) _ _ z;rw [if_neg (show ¬ ((Value.ref a == Value.none) = true) from Bool.false_ne_true)];refine wpAny_bind (wpAny_pure (wpAny_bind (wpAny_dictEntries g dat ?_)));rw [if_neg (by simp)];refine wpAny_bind (wpAny_pure (wpAny_bind (wpAny_dictEpoch g dat ?_)));rw [if_neg (by simp)];refine wpAny_pure ?_;simp only [show ¬ ((k:Int) < 0) from by omega,if_false,Int.toNat_natCast,Array.getElem?_eq_none hk];refine wpAny_bind ?_
  first | refine wpAny_bind (wpAny_typeNameOfWhole_keyiter ty (wpAny_pure ?_)) | refine wpAny_bind (wpAny_typeNameOf_keyiter ty (wpAny_pure ?_))
  show wpAny _ _ (setField (.ref it) 0 .none >>= _) _ _ z;refine wpAny_bind (wpAny_setField gi di (by simp) (show wpAny _ _ (newExc (.type "StopIteration") [] >>= _) _ _ _ from wpAny_bind ?_));simp only [newExc,newTuple];refine wpAny_bind (wpAny_newObj_type (wpAny_bind (m:=firstArgMember _ _) (wpAny_of_eq (a:=Value.none) (by first | rfl | (simp only [firstArgMember]; rfl)) (wpAny_newObj_type ?_ (by size_fits)))) (by size_fits));simp only [raiseNew];refine wpAny_bind (wpAny_handled ?_);rw [show A.in1.handled = none from hh];refine wpAny_bind (wpAny_pure (wpAny_throw ?_));refine wpAny_bind (wpAny_isInstance (T := "StopIteration") (b:=true) ⟨_,Heap.get?_push_size _ rfl,rfl⟩ isSubtype_stop ?_);exact wpAny_pure (hR _ (((Heap.SameBut.update ..).extBut.push _).push _))
theorem zM5 (hh:A.handled = none) (hne:a≠it):Walks prog w A it [it,a] [it] rows.size (λi v=>∃ h:i < rows.size,v = rows[i].key) (λi h=>h.IsKeyIter it a i rows.size age/\zLc h a rows age) where
 sub:=λb hb=>by simp at hb; simp [hb]
 frame:=λ_ _ _ st hk=>⟨st.1.at λo e=>hk it (by simp) o e,st.2.at λo e=>hk a (by simp) o e⟩
 item:=λi s Q E hi st hQ=>zJt st.1 st.2 hi λh' ki' hs' =>
  hQ _ h' s.toks ⟨hi,rfl⟩ ⟨ki',st.2.at λo e=>hs'.extBut a o hne e⟩ λb o hb e=>hs'.extBut b o (λh=>hb (by simp [h])) e
 done:=λs Q E st hQ=>zMb hh st.1 st.2 (Nat.le_refl _) λh' he'=>hQ h' s.toks λb o hb e=>he' b o (λh=>hb (by simp [h])) e
 self:=λ_ _ _ _ st hQ=>wpAny_pyIter_keyiter st.1 hQ
theorem zRf (hs:(a == sysModules) = false):PySem.W.KdlSrc prog w "dict" a a rows.size (λi v=>∃ h:i < rows.size,v = rows[i].key) (λh=>zLc h a rows age) where
 type:=λ_ x=>x.typeIs
 there:=λ_ x=>let ⟨_,g,_⟩:=x; ⟨Heap.lt_size g,Heap.lt_size g⟩
 keep:=λ_ _ x hk=>x.at λo e=>hk a (.inl rfl) o e
 notList:=by decide
 notTuple:=by decide
 hint:=λ_ _ _ _ x hq=>PySem.W.kdl_hint_dict x.typeIs hq
 iter:=λ_ s hh x=>⟨_,_,(λ_ _ hq=>zI4 hs x hq),zM5 hh (let ⟨_,g,_⟩:=x; Nat.ne_of_lt (Heap.lt_size g)),⟨⟨_,Heap.get?_push_size _ rfl,rfl,rfl⟩,x.at λo e=>Heap.get?_push_of_some _ e⟩⟩
end
section
variable {X:Cx}
theorem rT (hc:X.calm = true):zB2 X (.type "list") (λxs H Q=>∃ (d:Addr) (kvs:List (List Key × V)),xs = [.ref d]/\H d = some (.dT kvs) /\
  ∀ (p:Addr) (ts:List (Addr × List Key)),H p = none->ts.map (·.2) = kvs.map (·.1)->(∀ t∈ts,H t.1 = some (.tup (t.2.map kV)))->Q (.ref p) (upd H p (.lst ((ts.map (·.1)).map V.ref)))):=by
 intro pins s σ H xs us Q I r h;obtain ⟨d,kvs,rfl,hd,q⟩:=h;obtain ⟨u,rfl,ru⟩:=xI.one r;cases ru;obtain ⟨hz,hsm,ys,rel,ob,es,age,g,ex,dat,hes,hjunk⟩:=zSd I.hok hd;have hsz:es.size = ys.length:=size_of_entries hes;have hlen:kvs.length = ys.length:=Paired.length rel;refine PySem.W.kdl_call (zRf (rows:=es) (age:=age) hsm) (show X.A.handled = none from I.ok.hd hc) ⟨ob,g,ex,dat⟩ (by rw [hsz,<- hlen]; exact hz) λh' tk acc c keep at' its=>?_;have eqs:acc.toList = ((ys.map λy=>(y.2.1,y.1)).map (·.1)).map Value.ref:=by
  refine List.ext_getElem? λj=>?_;by_cases hj:j < ys.length
  ·have ja:j < acc.size:=by rw [its.1,hsz]; exact hj
   obtain ⟨hj',e⟩:=its.2 j acc[j] (by simp [ja]);have ek:=entry_at hes j;rw [Array.getElem?_eq_getElem hj',List.getElem?_eq_getElem hj,Option.map_some] at ek;have ev:es[j].key = Value.ref ys[j].2.1:=by rw [Option.some.inj ek]; rfl
   rw [Array.getElem?_toList,Array.getElem?_eq_getElem ja,e,ev,List.getElem?_map,List.getElem?_map,List.getElem?_map,List.getElem?_eq_getElem hj];rfl
  ·rw [List.getElem?_eq_none (by rw [Array.length_toList,its.1,hsz]; omega),List.getElem?_eq_none (by simp; omega)]
 have props:(ys.map λy=>(y.2.1,y.1)).map (·.2) = kvs.map (·.1)/\∀ t∈ys.map (λy=>(y.2.1,y.1)),H t.1 = some (.tup (t.2.map kV)):=by
  clear hes hsz hlen q eqs hd hz hjunk
  induction rel with
  | nil=>exact ⟨rfl,λt ht=>nomatch ht⟩
  | @cons p y ps zs hp t ih =>
   refine ⟨by rw [List.map_cons,List.map_cons,List.map_cons,ih.1,hp.1],λt' ht'=>?_⟩;rcases List.mem_cons.mp ht' with e | ht'
   ·subst e;show H y.2.1 = some (.tup (y.1.map kV));rw [<- hp.1];exact hp.2.1
   ·exact ih.2 t' ht'
 have fr:H s.heap.objs.size = none:=I.hok.fresh (Nat.le_refl _);refine ⟨.ref s.heap.objs.size,_,I.laid (t':=tk) (a:=s.heap.objs.size) (o:=.lst (((ys.map λy=>(y.2.1,y.1)).map (·.1)).map V.ref)) keep (Nat.le_refl _) ?_,rfl,q _ _ fr props.1 props.2⟩;refine ⟨by rw [List.length_map,List.length_map,List.length_map,<- hlen]; exact hz,_,c,vX _,?_⟩;rw [<- eqs,Array.toArray_toList];exact at'
end
end L2

namespace Sea
open PySem L2
abbrev Sd:=Addr × Int × Int × Int
abbrev zK (ss:List Sd):List V:=(ss.map (·.1)).map V.ref
def rR (H:Hp) (ss:List Sd):Prop:=∀ t∈ss,H t.1 = some (.tup [.int t.2.1,.int t.2.2.1,.int t.2.2.2])/\(t.2.1≠0\/t.2.2.1≠0)/\t.2.1.natAbs<=10 ^ 9/\t.2.2.1.natAbs<=10 ^ 9/\t.2.2.2.natAbs<=10 ^ 13
theorem rR.same {H H':Hp} {ss:List Sd} (h:rR H ss) (s:yG H H'):rR H' ss:=λt ht=>⟨s _ _ (h t ht).1,(h t ht).2⟩
theorem zI (ss:List Sd):(zK ss).length = ss.length:=by simp [zK]
theorem xP {ss:List Sd} {i:Nat} {v:V} (h:(zK ss)[i]? = some v):∃ t,ss[i]? = some t/\v = .ref t.1/\i < ss.length:=by
 rw [List.getElem?_map,List.getElem?_map] at h;cases e:ss[i]? with
 | none=>rw [e] at h; cases h
 | some t=>rw [e] at h; exact ⟨t,rfl,(Option.some.inj h).symm,(List.getElem?_eq_some_iff.mp e).1⟩
theorem yY {ss:List Sd} {i:Nat} {k:Int} (e:k = i) (h:i < ss.length):∃ t,t∈ss/\ss[i]? = some t/\atI (zK ss) k = some (.ref t.1):=by
 refine ⟨ss[i],List.getElem_mem h,List.getElem?_eq_getElem h,?_⟩;rw [e];exact tZ (by rw [List.getElem?_map,List.getElem?_map,List.getElem?_eq_getElem h] <;> rfl)
def vG (ss:List Sd) (x y:Int):Bool:=ss.all λt=>decide (t.2.1 * x + t.2.2.1 * y<=0)
def WK (ss:List Sd) (n:Nat) (k:List Int):Prop:=∃ j t,j < n/\ss[j]? = some t/\((k = tJ [-t.2.2.1,t.2.1]/\vG ss (-t.2.2.1) t.2.1 = true)\/(k = tJ [t.2.2.1,-t.2.1]/\vG ss t.2.2.1 (-t.2.1) = true))
theorem zR5 (ss:List Sd) (k:List Int):¬ WK ss 0 k:=λ⟨_,_,h,_⟩=>absurd h (Nat.not_lt_zero _)
theorem zR9 {ss:List Sd} {n:Nat} {t:Sd} (h:ss[n]? = some t) (k:List Int):WK ss (n + 1) k↔WK ss n k\/(k = tJ [-t.2.2.1,t.2.1]/\vG ss (-t.2.2.1) t.2.1 = true)\/(k = tJ [t.2.2.1,-t.2.1]/\vG ss t.2.2.1 (-t.2.1) = true):=by
 constructor
 ·rintro ⟨j,u,hj,hu,r⟩;by_cases e:j = n
  ·subst e;rw [h] at hu;cases hu;exact .inr r
  ·exact .inl ⟨j,u,by omega,hu,r⟩
 ·rintro (⟨j,u,hj,hu,r⟩ | r)
  ·exact ⟨j,u,by omega,hu,r⟩
  ·exact ⟨n,t,by omega,h,r⟩
theorem zPq {ss:List Sd} {x y g:Int} (hg:0 < g):vG ss (x * g) (y * g) = vG ss x y:=by
 unfold vG
 congr 1
 funext t
 refine decide_eq_decide.mpr ?_;have e:t.2.1 * (x * g) + t.2.2.1 * (y * g) = (t.2.1 * x + t.2.2.1 * y) * g:=by rw [Int.add_mul,Int.mul_assoc,Int.mul_assoc]
 rw [e];constructor
 ·intro h;by_cases c:t.2.1 * x + t.2.2.1 * y<=0
  ·exact c
  ·have:=Int.mul_pos (show 0 < t.2.1 * x + t.2.2.1 * y by omega) hg;omega
 ·intro h;have:=Int.mul_nonneg (show 0<=-(t.2.1 * x + t.2.2.1 * y) by omega) (Int.le_of_lt hg);rw [Int.neg_mul] at this;omega
theorem gcd2 {x y:Int} (n:x≠0\/y≠0) (m0:x.natAbs<=10 ^ 9) (m1:y.natAbs<=10 ^ 9):0 < yI [x,y]/\(yI [x,y]:Int) < 10 ^ 600:=by
 have gp:0 < yI [x,y]:=by
  rcases n with n | n
  ·exact wU (n:=x) (by simp) n
  ·exact wU (n:=y) (by simp) n
 have z:(yI [x,y]:Int)<=10 ^ 9:=by
  rcases n with n | n
  ·have:=zDd (ns:=[x,y]) (n:=x) (by simp) n;omega
  ·have:=zDd (ns:=[x,y]) (n:=y) (by simp) n;omega
 exact ⟨gp,Int.lt_of_le_of_lt z (by decide +kernel)⟩
theorem zI0 {ss:List Sd} {x y:Int} (gp:0 < yI [x,y]):vG ss (x / (yI [x,y]:Int)) (y / (yI [x,y]:Int)) = vG ss x y:=by
 have gI:(0:Int) < (yI [x,y]:Int):=by omega
 have e1:=yR (ns:=[x,y]) (n:=x) (by simp);have e2:=yR (ns:=[x,y]) (n:=y) (by simp);have z:=zPq (ss:=ss) (x:=x / (yI [x,y]:Int)) (y:=y / (yI [x,y]:Int)) gI;rw [e1,e2] at z;exact z.symm
def zCj (ns:List Int):List Key:=ns.map Sum.inl
theorem qA (ns:List Int):(zCj ns).map kV = ns.map V.int:=by
 unfold zCj;rw [List.map_map];rfl
theorem zJc {a b:List Int} (h:zCj a = zCj b):a = b:=by
 have z:=congrArg (List.map kV) h;rw [qA,qA] at z;exact zE3 z
structure zI5 (kvs:List (List Key × V)) (ks:List (List Int)):Prop where
 keys:kvs.map (·.1) = ks.map zCj
 nodup:ks.Nodup
theorem zI5.nil:zI5 [] []:=⟨rfl,List.nodup_nil⟩
theorem zI5.put {kvs:List (List Key × V)} {ks:List (List Int)} (h:zI5 kvs ks) (k:List Int) (v:V):∃ ks',zI5 (zEh kvs (zCj k) v) ks'/\(∀ x,x∈ks'↔x∈ks\/x = k)/\ks'.length<=ks.length + 1:=by
 have hm:∀ kv∈kvs,∃ x∈ks,kv.1 = zCj x:=λkv hkv=>by
  have z:kv.1∈ks.map zCj:=by rw [<- h.keys]; exact List.mem_map_of_mem hkv
  obtain ⟨x,hx,e⟩:=List.mem_map.mp z;exact ⟨x,hx,e.symm⟩
 unfold zEh;by_cases c:(kvs.any λkv=>decide (kv.1 = zCj k)) = true
 ·rw [if_pos c];obtain ⟨kv,hkv,e⟩:=List.any_eq_true.mp c;obtain ⟨x,hx,ex⟩:=hm kv hkv;have exk:x = k:=zJc (ex.symm.trans (of_decide_eq_true e));refine ⟨ks,⟨?_,h.nodup⟩,λy=>⟨.inl,λz=>z.elim id λz=>by rw [z,<- exk]; exact hx⟩,Nat.le_succ _⟩;rw [List.map_map,<- h.keys];refine List.map_congr_left λa _=>?_;show (if a.1 = zCj k then (a.1,v) else a).1 = a.1;split <;> rfl
 ·rw [if_neg c];have nk:k ∉ ks:=λhk=>c (by
   have z:zCj k∈kvs.map (·.1):=by rw [h.keys]; exact List.mem_map_of_mem hk
   obtain ⟨kv,hkv,e⟩:=List.mem_map.mp z;exact List.any_eq_true.mpr ⟨kv,hkv,decide_eq_true e⟩)
  refine ⟨ks ++ [k],⟨by rw [List.map_append,List.map_append,h.keys]; rfl,?_⟩,λy=>by rw [List.mem_append,List.mem_singleton],by rw [List.length_append]; exact Nat.le_refl _⟩;rw [List.nodup_append];refine ⟨h.nodup,by simp,λa ha b hb=>?_⟩;rw [List.mem_singleton] at hb;intro e;exact nk (hb ▸ e ▸ ha)
theorem zI5.len {kvs:List (List Key × V)} {ks:List (List Int)} (h:zI5 kvs ks):kvs.length = ks.length:=by
 have z:=congrArg List.length h.keys;rwa [List.length_map,List.length_map] at z
theorem zI5.refs {H:Hp} {kvs:List (List Key × V)} {ks:List (List Int)} {ts:List (Addr × List Key)} (h:zI5 kvs ks) (e:ts.map (·.2) = kvs.map (·.1)) (ht:∀ t∈ts,H t.1 = some (.tup (t.2.map kV))) :
  ∃ us:List (Addr × List Int),us.map (·.1) = ts.map (·.1)/\us.map (·.2) = ks/\∀ u∈us,H u.1 = some (.tup (u.2.map V.int)):=by
 rw [h.keys] at e;clear h
 induction ts generalizing ks with
 | nil =>
  cases ks with
  | nil=>exact ⟨[],rfl,rfl,λu hu=>nomatch hu⟩
  | cons k ks=>exact absurd e (by simp)
 | cons t ts ih =>
  cases ks with
  | nil=>exact absurd e (by simp)
  | cons k ks =>
   rw [List.map_cons,List.map_cons] at e;injection e with e1 e2
   obtain ⟨us,h1,h2,h3⟩:=ih e2 λt' ht'=>ht t' (List.mem_cons_of_mem _ ht');refine ⟨(t.1,k) :: us,by rw [List.map_cons,List.map_cons,h1],by rw [List.map_cons,h2],λu hu=>?_⟩;rcases List.mem_cons.mp hu with rfl | hu
   ·have z:=ht t (List.mem_cons_self ..);rw [e1,qA] at z;exact z
   ·exact h3 u hu
structure zTx (H:Hp) (l:Addr) (ss:List Sd) (us:List (Addr × List Int)):Prop where
 at':H l = some (.lst ((us.map (·.1)).map V.ref))
 all:∀ u∈us,H u.1 = some (.tup (u.2.map V.int))
 rises:(us.map (·.2)).Pairwise (λa b=>HT.lexLt b a = false)
 nodup:(us.map (·.2)).Nodup
 mem:∀ k,k∈us.map (·.2)↔WK ss ss.length k
 few:us.length<=80
structure zLa (H0:Hp) (D:Addr) (ss:List Sd) (H:Hp):Prop where
 same:yG H0 H
 new:H0 D = none
 at':H D = some (.lst (zK ss))
 all:rR H ss
theorem zLa.app {H0 H H2:Hp} {D p:Addr} {ss:List Sd} {a b c:Int} (P:zLa H0 D ss H) (s:yG H H2) (hp:H p = none) (ep:H2 p = some (.tup [.int a,.int b,.int c])) (n:a≠0\/b≠0) (ma:a.natAbs<=10 ^ 9) (mb:b.natAbs<=10 ^ 9) (mc:c.natAbs<=10 ^ 13) :
  zLa H0 D (ss ++ [(p,a,b,c)]) (upd H2 D (.lst (zK ss ++ [.ref p]))):=by
 have npD:p≠D:=λe=>by rw [e,P.at'] at hp; cases hp
 refine ⟨(P.same.trans s).putNew P.new,P.new,by rw [zB]; simp [zK],λt ht=>?_⟩;rcases List.mem_append.mp ht with h | h
 ·obtain ⟨h1,h2⟩:=P.all t h;refine ⟨?_,h2⟩;rw [zP (sZ h1 P.at' (by intro z; cases z))];exact s _ _ h1
 ·rw [List.mem_singleton] at h;subst h;refine ⟨?_,n,ma,mb,mc⟩;show upd H2 D _ p = _;rw [zP npD];exact ep
theorem cutS {ok:Addr->List Sd->Hp->Prop} {G:Prop} {R:Addr->List Sd->Hp->Prop} (h1:(∀ D ss H,ok D ss H->R D ss H)->G) (h2:∀ D ss H,ok D ss H->R D ss H):G:=h1 h2
end Sea

namespace Sea
open PySem L2
theorem zCd {i j:Int} (h:i.natAbs<=10 ^ 18):zSj i j:=.inl ⟨by omega,by omega⟩
abbrev P3:=Int × Int × Int
abbrev wN (qs:List (Addr × P3)):List V:=(qs.map (·.1)).map V.ref
def zD8 (H:Hp) (qs:List (Addr × P3)):Prop:=∀ t∈qs,H t.1 = some (.tup [.int t.2.1,.int t.2.2.1,.int t.2.2.2])/\0 < t.2.2.2/\Nat.gcd (Nat.gcd t.2.1.natAbs t.2.2.1.natAbs) t.2.2.2.natAbs = 1
theorem zD8.same {H H':Hp} {qs:List (Addr × P3)} (h:zD8 H qs) (s:yG H H'):zD8 H' qs:=λt ht=>⟨s _ _ (h t ht).1,(h t ht).2⟩
def sv (t p:P3):Int:=t.1 * p.1 + t.2.1 * p.2.1 - t.2.2 * p.2.2
def tn (e s:P3):Int:=e.1 * s.2.1 - e.2.1 * s.1
def dl (e p q:P3):Int:=e.1 * (p.2.1 * q.2.2 - q.2.1 * p.2.2) - e.2.1 * (p.1 * q.2.2 - q.1 * p.2.2)
theorem zQf (a b u v X Y:Int):(a * a + b * b) * (u * X + v * Y) = (a * Y - b * X) * (a * v - b * u) + (a * X + b * Y) * (a * u + b * v):=by
 simp only [Int.mul_sub,Int.sub_mul,Int.mul_add,Int.add_mul,Int.mul_comm,Int.mul_left_comm];omega
theorem zD4 (s p q:P3):sv s p * q.2.2 - sv s q * p.2.2 = s.1 * (p.1 * q.2.2 - q.1 * p.2.2) + s.2.1 * (p.2.1 * q.2.2 - q.2.1 * p.2.2):=by
 unfold sv;simp only [Int.mul_sub,Int.sub_mul,Int.add_mul,Int.mul_add,Int.mul_comm,Int.mul_left_comm];omega
theorem zMz {e p q:P3} (hp:sv e p = 0) (hq:sv e q = 0) (s:P3):(e.1 * e.1 + e.2.1 * e.2.1) * (sv s p * q.2.2 - sv s q * p.2.2) = dl e p q * tn e s:=by
 have z:=zD4 e p q;rw [hp,hq,Int.zero_mul,Int.zero_mul,Int.sub_self] at z;rw [zD4 s p q,zQf,<- z,Int.zero_mul,Int.add_zero];rfl
theorem zIt {x y h:Int} (hh:h * h = 1):(x * h) * (y * h) = x * y:=by
 have e:(x * h) * (y * h) = x * y * (h * h):=by simp only [Int.mul_comm,Int.mul_left_comm]
 rw [e,hh,Int.mul_one]
theorem zF4 {e p q:P3} {h:Int} (hh:h * h = 1) (hN:0 < e.1 * e.1 + e.2.1 * e.2.1) (hp:sv e p = 0) (hq:sv e q = 0) (pw:0 < p.2.2) (qw:0 < q.2.2) (s:P3) (hs:(dl e p q * h) * (tn e s * h)<=0) (hv:sv s q<=0):sv s p<=0:=by
 have k:=zMz hp hq s;rw [<- zIt (x:=dl e p q) (y:=tn e s) hh] at k;rw [<- k] at hs;have h1:sv s p * q.2.2 - sv s q * p.2.2<=0:=by
  by_cases c:sv s p * q.2.2 - sv s q * p.2.2<=0
  ·exact c
  ·have:=Int.mul_pos hN (show 0 < sv s p * q.2.2 - sv s q * p.2.2 by omega);omega
 have h2:sv s q * p.2.2<=0:=by
  have:=Int.mul_nonneg (show 0<=-sv s q by omega) (Int.le_of_lt pw);rw [Int.neg_mul] at this;omega
 by_cases c:sv s p<=0
 ·exact c
 ·have:=Int.mul_pos (show 0 < sv s p by omega) qw;omega
theorem zFp {e p q s:P3} {h:Int} (hh:h * h = 1) (hN:0 < e.1 * e.1 + e.2.1 * e.2.1) (hp:sv e p = 0) (hq:sv e q = 0) (pw:0 < p.2.2) (h0:sv s p = 0) (hv:sv s q<=0) (ht:0 < tn e s * h):0<=dl e p q * h:=by
 have k:=zMz hp hq s;rw [h0,Int.zero_mul,<- zIt (x:=dl e p q) (y:=tn e s) hh] at k;have h2:0<=-sv s q * p.2.2:=Int.mul_nonneg (by omega) (Int.le_of_lt pw);rw [Int.neg_mul] at h2;have h3:=Int.mul_nonneg (Int.le_of_lt hN) (show 0<=0 - sv s q * p.2.2 by omega);rw [k] at h3;by_cases c:0<=dl e p q * h
 ·exact c
 ·have:=Int.mul_pos (show 0 < -(dl e p q * h) by omega) ht;rw [Int.neg_mul] at this;omega
theorem zQw {e p q s:P3} {h:Int} (hh:h * h = 1) (hN:0 < e.1 * e.1 + e.2.1 * e.2.1) (hp:sv e p = 0) (hq:sv e q = 0) (pw:0 < p.2.2) (h0:sv s p = 0) (hv:0 < sv s q) (ht:0 < tn e s * h):dl e p q * h<=0:=by
 have k:=zMz hp hq s;rw [h0,Int.zero_mul,<- zIt (x:=dl e p q) (y:=tn e s) hh] at k;have h2:=Int.mul_pos hv pw;have h3:=Int.mul_nonneg (Int.le_of_lt hN) (show 0<=sv s q * p.2.2 by omega);have h4:(e.1 * e.1 + e.2.1 * e.2.1) * (0 - sv s q * p.2.2) = -((e.1 * e.1 + e.2.1 * e.2.1) * (sv s q * p.2.2)):=by rw [Int.zero_sub,Int.mul_neg]
 rw [h4] at k;by_cases c:dl e p q * h<=0
 ·exact c
 ·have:=Int.mul_pos (show 0 < dl e p q * h by omega) ht;omega
def pt3 (l:List Int):P3:=match l with
 | [x,y,w]=>(x,y,w)
 | _=>(0,0,1)
def crL (e s:P3):List Int:=tJ (upL (e.2.2 * s.2.1 - e.2.1 * s.2.2) (e.1 * s.2.2 - e.2.2 * s.1) (e.1 * s.2.1 - e.2.1 * s.1))
def ftL (t:P3):List Int:=tJ (upL (t.1 * t.2.2) (t.2.1 * t.2.2) (t.1 * t.1 + t.2.1 * t.2.1))
structure zNg (l:List Int) (p:P3):Prop where
 list:l = [p.1,p.2.1,p.2.2]
 pos:0 < p.2.2
 low:Nat.gcd (Nat.gcd p.1.natAbs p.2.1.natAbs) p.2.2.natAbs = 1
theorem wJ {e s:P3} (h:tn e s≠0):zNg (crL e s) (pt3 (crL e s))/\sv e (pt3 (crL e s)) = 0/\sv s (pt3 (crL e s)) = 0:=by
 obtain ⟨x,y,w,el,sp⟩:=zAv (X:=e.2.2 * s.2.1 - e.2.1 * s.2.2) (Y:=e.1 * s.2.2 - e.2.2 * s.1) (W:=e.1 * s.2.1 - e.2.1 * s.1) h;have e1:crL e s = [x,y,w]:=el;rw [e1];refine ⟨⟨rfl,by have:=sp.pos; show 0 < w; omega,sp.low⟩,?_,?_⟩
 ·have z:=zFk (A:=e.1) (B:=e.2.1) (C:=e.2.2) h sp (zOf e.1 e.2.1 e.2.2 s.1 s.2.1 s.2.2);show e.1 * x + e.2.1 * y - e.2.2 * w = 0;omega
 ·have z:=zFk (A:=s.1) (B:=s.2.1) (C:=s.2.2) h sp (zLi e.1 e.2.1 e.2.2 s.1 s.2.1 s.2.2);show s.1 * x + s.2.1 * y - s.2.2 * w = 0;omega
theorem wF {t:P3} (h:t.1≠0\/t.2.1≠0):0 < t.1 * t.1 + t.2.1 * t.2.1:=zFf h
theorem zKf {t:P3} (h:t.1≠0\/t.2.1≠0):zNg (ftL t) (pt3 (ftL t))/\sv t (pt3 (ftL t)) = 0:=by
 have hw:=wF h;obtain ⟨x,y,w,el,sp⟩:=zAv (X:=t.1 * t.2.2) (Y:=t.2.1 * t.2.2) (W:=t.1 * t.1 + t.2.1 * t.2.1) (by omega);have e1:ftL t = [x,y,w]:=el;rw [e1];refine ⟨⟨rfl,by have:=sp.pos; show 0 < w; omega,sp.low⟩,?_⟩;have z:=zFk (A:=t.1) (B:=t.2.1) (C:=t.2.2) (show t.1 * t.1 + t.2.1 * t.2.1≠0 by omega) sp (by simp only [Int.mul_add,Int.mul_comm,Int.mul_left_comm]);show t.1 * x + t.2.1 * y - t.2.2 * w = 0;omega
def inW (ss:List Sd) (p:P3):Prop:=∀ t∈ss,sv t.2 p<=0
def zCg (ss:List Sd) (e:P3) (h:Int):Option Nat->Prop
 | none=>∀ t∈ss,tn e t.2 * h<=0
 | some j=>∃ t,ss[j]? = some t/\0 < tn e t.2 * h/\∀ u∈ss,0 < tn e u.2 * h->sv u.2 (pt3 (crL e t.2))<=0
theorem yH {x h:Int} (h0:0 < x * h):x≠0:=λz=>by rw [z,Int.zero_mul] at h0; exact absurd h0 (by decide)
theorem zCa {ss:List Sd} {e z:P3} {h:Int} {j:Nat} {t:Sd} (hh:h * h = 1) (hN:0 < e.1 * e.1 + e.2.1 * e.2.1) (hz:sv e z = 0) (zw:0 < z.2.2) (wz:inW ss z) (gt:ss[j]? = some t) (h0:0 < tn e t.2 * h) (ha:∀ u∈ss,0 < tn e u.2 * h->sv u.2 (pt3 (crL e t.2))<=0):inW ss (pt3 (crL e t.2)):=λu hu=>by
 obtain ⟨sp,c1,c2⟩:=wJ (yH h0);by_cases hp:0 < tn e u.2 * h
 ·exact ha u hu hp
 ·have d0:=zFp hh hN c1 hz sp.pos c2 (wz t (List.mem_of_getElem? gt)) h0;refine zF4 hh hN c1 hz sp.pos zw u.2 ?_ (wz u hu);have:=Int.mul_nonneg d0 (show 0<=-(tn e u.2 * h) by omega);rw [Int.mul_neg] at this;omega
theorem zHd {ss:List Sd} {e z p:P3} (hN:0 < e.1 * e.1 + e.2.1 * e.2.1) (hz:sv e z = 0) (zw:0 < z.2.2) (wz:inW ss z) (hp:sv e p = 0) (pw:0 < p.2.2) (n1:zCg ss e 1 none) (n2:zCg ss e (-1) none):inW ss p:=λu hu=>by
 have e1:=n1 u hu;have e2:=n2 u hu;rw [Int.mul_one] at e1;have e0:tn e u.2 = 0:=by
  rw [Int.mul_neg,Int.mul_one] at e2;omega
 refine zF4 (h:=1) (by decide) hN hp hz pw zw u.2 ?_ (wz u hu);rw [e0,Int.zero_mul,Int.mul_zero];exact Int.le_refl _
theorem zL9 (t p z:P3) (b a:Int):sv t (b * p.1 + a * z.1,b * p.2.1 + a * z.2.1,b * p.2.2 + a * z.2.2) = b * sv t p + a * sv t z:=by
 unfold sv;simp only [Int.mul_sub,Int.mul_add,Int.mul_comm,Int.mul_left_comm];omega
theorem zMo {ss:List Sd} {e p z:P3} (wp:inW ss p) (wz:inW ss z) (pw:0 < p.2.2) (zw:0 < z.2.2) (hp:0 < sv e p) (hz:sv e z<=0):∃ m:P3,sv e m = 0/\0 < m.2.2/\inW ss m:=by
 refine ⟨(-sv e z * p.1 + sv e p * z.1,-sv e z * p.2.1 + sv e p * z.2.1,-sv e z * p.2.2 + sv e p * z.2.2),?_,?_,λt ht=>?_⟩
 ·rw [zL9,Int.neg_mul,Int.mul_comm (sv e p)];omega
 ·have h1:=Int.mul_nonneg (show 0<=-sv e z by omega) (Int.le_of_lt pw);have h2:=Int.mul_pos hp zw;show 0 < -sv e z * p.2.2 + sv e p * z.2.2;omega
 ·rw [zL9];have h1:=Int.mul_nonneg (show 0<=-sv e z by omega) (show 0<=-sv t.2 p by have:=wp t ht; omega);have h2:=Int.mul_nonneg (Int.le_of_lt hp) (show 0<=-sv t.2 z by have:=wz t ht; omega);rw [Int.mul_neg] at h1 h2;omega
end Sea

namespace L2
open PySem PySem.Spec PyProof.Rows
end L2
namespace Sea
open PySem L2
theorem zLl {e s:P3} (h:tn e s≠0):crL e s = crL s e:=by
 unfold crL;have e1:s.2.2 * e.2.1 - s.2.1 * e.2.2 = -(e.2.2 * s.2.1 - e.2.1 * s.2.2):=by rw [Int.mul_comm s.2.2,Int.mul_comm s.2.1]; omega
 have e2:s.1 * e.2.2 - s.2.2 * e.1 = -(e.1 * s.2.2 - e.2.2 * s.1):=by rw [Int.mul_comm s.1,Int.mul_comm s.2.2]; omega
 have e3:s.1 * e.2.1 - s.2.1 * e.1 = -(e.1 * s.2.1 - e.2.1 * s.1):=by rw [Int.mul_comm s.1,Int.mul_comm s.2.1]; omega
 rw [e1,e2,e3,zRl (show e.1 * s.2.1 - e.2.1 * s.1≠0 from h)]
end Sea

namespace Sea
open PySem L2
theorem zBx (e p q:P3):dl e p q = -dl e q p:=by
 unfold dl;simp only [Int.mul_sub];omega
theorem zSq {a b X Y:Int} (hN:0 < a * a + b * b) (h1:a * X + b * Y = 0) (h2:a * Y - b * X = 0):X = 0/\Y = 0:=by
 have e1:(a * a + b * b) * X = a * (a * X + b * Y) - b * (a * Y - b * X):=by
  simp only [Int.mul_sub,Int.mul_add,Int.add_mul,Int.mul_comm,Int.mul_left_comm];omega
 have e2:(a * a + b * b) * Y = b * (a * X + b * Y) + a * (a * Y - b * X):=by
  simp only [Int.mul_sub,Int.mul_add,Int.add_mul,Int.mul_comm,Int.mul_left_comm];omega
 rw [h1,h2,Int.mul_zero,Int.mul_zero] at e1 e2;constructor
 ·rcases Int.mul_eq_zero.mp e1 with z | z
  ·omega
  ·exact z
 ·rcases Int.mul_eq_zero.mp e2 with z | z
  ·omega
  ·exact z
theorem zEu {e p q:P3} (hN:0 < e.1 * e.1 + e.2.1 * e.2.1) (hp:sv e p = 0) (hq:sv e q = 0) (hd:dl e p q = 0):p.1 * q.2.2 = q.1 * p.2.2/\p.2.1 * q.2.2 = q.2.1 * p.2.2:=by
 have z:=zD4 e p q;rw [hp,hq,Int.zero_mul,Int.zero_mul,Int.sub_self] at z;have w:=zSq hN z.symm hd;omega
theorem zE5 {x y w x2 y2 v:Int} (hv:0 < v) (h1:x * v = x2 * w) (h2:y * v = y2 * w) (low:Nat.gcd (Nat.gcd x.natAbs y.natAbs) w.natAbs = 1):w.natAbs ∣ v.natAbs:=by
 have d1:w.natAbs ∣ v.natAbs * x.natAbs:=by
  rw [<- Int.natAbs_mul,Int.mul_comm,h1,Int.natAbs_mul];exact Nat.dvd_mul_left _ _
 have d2:w.natAbs ∣ v.natAbs * y.natAbs:=by
  rw [<- Int.natAbs_mul,Int.mul_comm,h2,Int.natAbs_mul];exact Nat.dvd_mul_left _ _
 have d3:w.natAbs ∣ v.natAbs * w.natAbs:=Nat.dvd_mul_left _ _;have d:=Nat.dvd_gcd (Nat.dvd_gcd d1 d2) d3;rw [Nat.gcd_mul_left,Nat.gcd_mul_left,low,Nat.mul_one] at d;exact d
theorem uK {p q:P3} (pp:0 < p.2.2) (pq:0 < q.2.2) (lp:Nat.gcd (Nat.gcd p.1.natAbs p.2.1.natAbs) p.2.2.natAbs = 1) (lq:Nat.gcd (Nat.gcd q.1.natAbs q.2.1.natAbs) q.2.2.natAbs = 1) (h1:p.1 * q.2.2 = q.1 * p.2.2) (h2:p.2.1 * q.2.2 = q.2.1 * p.2.2):p = q:=by
 have d1:=zE5 pq h1 h2 lp;have d2:=zE5 pp h1.symm h2.symm lq;have e:=Nat.dvd_antisymm d1 d2;have ew:p.2.2 = q.2.2:=by omega
 rw [ew] at h1 h2;have e1:=Int.eq_of_mul_eq_mul_right (by omega) h1;have e2:=Int.eq_of_mul_eq_mul_right (by omega) h2;exact Prod.ext e1 (Prod.ext e2 ew)
def Cor (ss:List Sd) (P:P3):Prop:=∃ t∈ss,∃ u∈ss,tn t.2 u.2≠0/\P = pt3 (crL t.2 u.2)/\inW ss P
def zEp (ss:List Sd) (e:P3) (h:Int) (qs:List P3):Prop:=zCg ss e h none\/∃ (j:Nat) (t:Sd),ss[j]? = some t/\0 < tn e t.2 * h/\(∀ u∈ss,0 < tn e u.2 * h->sv u.2 (pt3 (crL e t.2))<=0)/\pt3 (crL e t.2)∈qs
theorem zEp.app {ss:List Sd} {e:P3} {h:Int} {qs rs:List P3} (f:zEp ss e h qs):zEp ss e h (qs ++ rs):=by
 rcases f with f | ⟨j,t,g,p,a,m⟩
 ·exact .inl f
 ·exact .inr ⟨j,t,g,p,a,List.mem_append_left _ m⟩
theorem zRe {ss:List Sd} {e:P3} {s:Sd} {h:Int} {qs:List P3} (hh:h * h = 1) (hN:0 < e.1 * e.1 + e.2.1 * e.2.1) (hs:s∈ss) (hp:0 < tn e s.2 * h) (hw:inW ss (pt3 (crL e s.2))) (f:zEp ss e h qs):pt3 (crL e s.2)∈qs:=by
 rcases f with f | ⟨j,t,g,p,a,m⟩
 ·have:=f s hs;omega
 ·obtain ⟨s1,o1,o2⟩:=wJ (yH hp);obtain ⟨s2,r1,r2⟩:=wJ (yH p);have d1:=zFp hh hN o1 r1 s1.pos o2 (a s hs hp) hp;have d2:=zFp hh hN r1 o1 s2.pos r2 (hw t (List.mem_of_getElem? g)) p;rw [zBx,Int.neg_mul] at d2;have d0:dl e (pt3 (crL e s.2)) (pt3 (crL e t.2)) * h = 0:=by omega
  have d3:dl e (pt3 (crL e s.2)) (pt3 (crL e t.2)) = 0:=by
   have z:dl e (pt3 (crL e s.2)) (pt3 (crL e t.2)) * h * h = 0:=by rw [d0,Int.zero_mul]
   rw [Int.mul_assoc,hh,Int.mul_one] at z;exact z
  obtain ⟨x1,x2⟩:=zEu hN o1 r1 d3;rw [uK s1.pos s2.pos s1.low s2.low x1 x2];exact m
theorem zQz {x:Int} (h:x≠0):∃ k:Int,(k = 1\/k = -1)/\k * k = 1/\0 < x * k:=by
 by_cases c:0 < x
 ·exact ⟨1,.inl rfl,by decide,by omega⟩
 ·exact ⟨-1,.inr rfl,by decide,by omega⟩
theorem zJd {e s:P3} (h:tn e s≠0) (b1:e.1.natAbs<=10 ^ 9) (b2:e.2.1.natAbs<=10 ^ 9) (b3:e.2.2.natAbs<=10 ^ 13) (c1:s.1.natAbs<=10 ^ 9) (c2:s.2.1.natAbs<=10 ^ 9) (c3:s.2.2.natAbs<=10 ^ 13) :
  (pt3 (crL e s)).1.natAbs<=10 ^ 40/\(pt3 (crL e s)).2.1.natAbs<=10 ^ 40/\(pt3 (crL e s)).2.2.natAbs<=10 ^ 40:=by
 obtain ⟨x,y,w,el,sp⟩:=zAv (X:=e.2.2 * s.2.1 - e.2.1 * s.2.2) (Y:=e.1 * s.2.2 - e.2.2 * s.1) (W:=e.1 * s.2.1 - e.2.1 * s.1) h;have e1:crL e s = [x,y,w]:=el;rw [e1];have z1:=zG e.2.2 s.2.1 b3 c2;have z2:=zG e.2.1 s.2.2 b2 c3;have z3:=zG e.1 s.2.2 b1 c3;have z4:=zG e.2.2 s.1 b3 c1;have z5:=zG e.1 s.2.1 b1 c2;have z6:=zG e.2.1 s.1 b2 c1;have x1:=sp.xle;have x2:=sp.yle;have x3:=sp.wle;refine ⟨?_,?_,?_⟩
 ·show x.natAbs<=10 ^ 40;omega
 ·show y.natAbs<=10 ^ 40;omega
 ·show w.natAbs<=10 ^ 40;omega
theorem zJo {α:Type} [DecidableEq α]:∀ {xs ys:List α},xs.Nodup->(∀ a∈xs,a∈ys)->xs.length<=ys.length
 | [],_,_,_=>Nat.zero_le _
 | x :: xs,ys,hx,h=>by
  have hx':=List.nodup_cons.mp hx;have m:x∈ys:=h x (List.mem_cons_self ..);have z:=zJo (ys:=ys.erase x) hx'.2 λa ha=>by
   have ne:a≠x:=λe=>hx'.1 (by rw [<- e]; exact ha);exact (List.mem_erase_of_ne ne).mpr (h a (List.mem_cons_of_mem _ ha))
  have:=List.length_erase_of_mem m;have hp:0 < ys.length:=List.length_pos_of_mem m;rw [List.length_cons];omega
end Sea

namespace Sea
open PySem L2
def zBa (x:Int):Int:=if x < 0 then -x else x
def yZ (a b:Int):Int:=zBa a + zBa b
theorem sP {a b:Int} (h:a≠0\/b≠0):0 < yZ a b:=by
 unfold yZ zBa;split <;> split <;> omega
theorem par {e1 e2 s1 s2:Int} (h:e1 * s2 = e2 * s1) (hs:e2 * s2<=0):zBa e2 * s1 + zBa s2 * e1 = 0:=by
 unfold zBa;rw [Int.mul_comm e1 s2] at h;by_cases c:e2 < 0
 ·rw [if_pos c];by_cases d:s2 < 0
  ·have:=Int.mul_pos_of_neg_of_neg c d;omega
  ·rw [if_neg d,Int.neg_mul];omega
 ·rw [if_neg c];by_cases d:s2 < 0
  ·rw [if_pos d,Int.neg_mul];omega
  ·rw [if_neg d];have z:e2 * s2 = 0:=by
    have:=Int.mul_nonneg (show 0<=e2 by omega) (show 0<=s2 by omega);omega
   rcases Int.mul_eq_zero.mp z with z | z
   ·rw [z,Int.zero_mul] at h;rw [z,Int.zero_mul,h];rfl
   ·rw [z,Int.zero_mul] at h;rw [z,Int.zero_mul,<- h];rfl
theorem zE7 {x y:Int} (h:x + y < 0) (hp:0<=x * y):x<=0/\y<=0:=by
 by_cases cx:x<=0
 ·by_cases cy:y<=0
  ·exact ⟨cx,cy⟩
  ·by_cases c0:x = 0
   ·omega
   ·have:=Int.mul_neg_of_neg_of_pos (show x < 0 by omega) (show 0 < y by omega);omega
 ·by_cases cy:y < 0
  ·have:=Int.mul_neg_of_pos_of_neg (show 0 < x by omega) cy;omega
  ·omega
theorem zTl (x:Int):0<=x * x:=by
 by_cases h:0<=x
 ·exact Int.mul_nonneg h h
 ·exact Int.le_of_lt (Int.mul_pos_of_neg_of_neg (by omega) (by omega))
theorem zPj {e s f P:P3} (ht:tn e s = 0) (hN:0 < e.1 * e.1 + e.2.1 * e.2.1) (he:e.1≠0\/e.2.1≠0) (fw:0 < f.2.2) (pw:0 < P.2.2) (h1:sv e f = 0) (h2:0 < sv s f) (h3:sv s P<=0) (h4:0 < sv e P) :
  yZ e.1 e.2.1 * s.1 + yZ s.1 s.2.1 * e.1 = 0/\yZ e.1 e.2.1 * s.2.1 + yZ s.1 s.2.1 * e.2.1 = 0/\yZ e.1 e.2.1 * s.2.2 + yZ s.1 s.2.1 * e.2.2 < 0:=by
 have d1:=zD4 e P f;have d2:=zD4 s P f;rw [h1,Int.zero_mul] at d1;have p1:=Int.mul_pos h4 fw;have p2:=Int.mul_pos h2 pw;have p3:sv s P * f.2.2<=0:=by
  have:=Int.mul_nonneg (show 0<=-sv s P by omega) (Int.le_of_lt fw);rw [Int.neg_mul] at this;omega
 have k:=zQf e.1 e.2.1 s.1 s.2.1 (P.1 * f.2.2 - f.1 * P.2.2) (P.2.1 * f.2.2 - f.2.1 * P.2.2);rw [<- d1,<- d2,show e.1 * s.2.1 - e.2.1 * s.1 = 0 from ht,Int.mul_zero,Int.zero_add] at k;have n1:(e.1 * e.1 + e.2.1 * e.2.1) * (sv s P * f.2.2 - sv s f * P.2.2) < 0:=Int.mul_neg_of_pos_of_neg hN (by omega);rw [k] at n1;have dot:e.1 * s.1 + e.2.1 * s.2.1 < 0:=by
  by_cases c:e.1 * s.1 + e.2.1 * s.2.1 < 0
  ·exact c
  ·have:=Int.mul_nonneg (show 0<=sv e P * f.2.2 - 0 by omega) (show 0<=e.1 * s.1 + e.2.1 * s.2.1 by omega);omega
 have cr:e.1 * s.2.1 = e.2.1 * s.1:=by unfold tn at ht; omega
 have pr:0<=(e.1 * s.1) * (e.2.1 * s.2.1):=by
  have e0:(e.1 * s.1) * (e.2.1 * s.2.1) = (e.1 * s.2.1) * (e.2.1 * s.1):=by simp only [Int.mul_comm,Int.mul_left_comm]
  rw [e0,<- cr];exact zTl _
 obtain ⟨o1,o2⟩:=zE7 dot pr;have a1:=par (e1:=e.1) (e2:=e.1) (s1:=s.1) (s2:=s.1) rfl o1;have a2:=par (e1:=e.1) (e2:=e.2.1) (s1:=s.1) (s2:=s.2.1) cr o2;have a3:=par (e1:=e.2.1) (e2:=e.1) (s1:=s.2.1) (s2:=s.1) cr.symm o1;have a4:=par (e1:=e.2.1) (e2:=e.2.1) (s1:=s.2.1) (s2:=s.2.1) rfl o2;have z1:yZ e.1 e.2.1 * s.1 + yZ s.1 s.2.1 * e.1 = 0:=by
  unfold yZ;rw [Int.add_mul,Int.add_mul];omega
 have z2:yZ e.1 e.2.1 * s.2.1 + yZ s.1 s.2.1 * e.2.1 = 0:=by
  unfold yZ;rw [Int.add_mul,Int.add_mul];omega
 refine ⟨z1,z2,?_⟩;have up:=sP he;generalize yZ e.1 e.2.1 = u at z1 z2 up ⊢;generalize yZ s.1 s.2.1 = v at z1 z2 ⊢;have q:(u * s.2.2 + v * e.2.2) * f.2.2 = (u * s.1 + v * e.1) * f.1 + (u * s.2.1 + v * e.2.1) * f.2.1 - u * sv s f - v * sv e f:=by
  unfold sv;simp only [Int.mul_sub,Int.mul_add,Int.add_mul,Int.mul_comm,Int.mul_left_comm];omega
 rw [z1,z2,h1,Int.zero_mul,Int.zero_mul,Int.mul_zero] at q;have q2:=Int.mul_pos up h2;by_cases c:u * s.2.2 + v * e.2.2 < 0
 ·exact c
 ·have:=Int.mul_nonneg (show 0<=u * s.2.2 + v * e.2.2 by omega) (Int.le_of_lt fw);omega
structure zPg (ss:List Sd) (j:Nat) (e:Sd) (P:P3):Prop where
 at':ss[j]? = some e
 pos:0 < P.2.2
 ahead:inW (ss.take j) P
 out:0 < sv e.2 P
 no:∀ z:P3,sv e.2 z = 0->0 < z.2.2->¬ inW (ss.take j) z
theorem zPg.none {ss:List Sd} {j:Nat} {e:Sd} {P:P3} (S:zPg ss j e P) (z:P3) (zw:0 < z.2.2):¬ inW ss z:=λwz=>by
 obtain ⟨m,m1,m2,m3⟩:=zMo S.ahead (λu hu=>wz u (List.mem_of_mem_take hu)) S.pos zw S.out (wz e (List.mem_of_getElem? S.at'));exact S.no m m1 m2 m3
theorem zHs {e p f s:P3} (hN:0 < e.1 * e.1 + e.2.1 * e.2.1) (hp:sv e p = 0) (hf:sv e f = 0) (pw:0 < p.2.2) (fw:0 < f.2.2) (ht:tn e s = 0) (hs:sv s f<=0):sv s p<=0:=by
 refine zF4 (h:=1) (by decide) hN hp hf pw fw s ?_ hs;rw [ht,Int.zero_mul,Int.mul_zero];exact Int.le_refl _
theorem zCs {x h:Int} : x * -h = -(x * h):=Int.mul_neg _ _
theorem zJs {ss:List Sd} {e f:P3} {h:Int} (hh:h * h = 1) (hN:0 < e.1 * e.1 + e.2.1 * e.2.1) (hf:sv e f = 0) (fw:0 < f.2.2) (no:∀ z:P3,sv e z = 0->0 < z.2.2->¬ inW ss z) (bes:∀ t∈ss,tn e t.2 = 0->sv t.2 f<=0) {r:Option Nat} (n:zCg ss e h none) (o:zCg ss e (-h) r):False:=by
 cases r with
 | none =>
  refine no f hf fw λt ht=>bes t ht ?_;have a:=n t ht;have b:=o t ht;rw [zCs] at b;have z:tn e t.2 * h = 0:=by omega
  rcases Int.mul_eq_zero.mp z with z | z
  ·exact z
  ·rw [z] at hh;exact absurd hh (by decide)
 | some j =>
  obtain ⟨t,gt,hp,ha⟩:=o;obtain ⟨sp,c1,c2⟩:=wJ (yH hp);refine no _ c1 sp.pos λu hu=>?_;by_cases c:0 < tn e u.2 * -h
  ·exact ha u hu c
  ·have a:=n u hu;rw [zCs] at c;have z:tn e u.2 * h = 0:=by omega
   rcases Int.mul_eq_zero.mp z with z | z
   ·exact zHs hN c1 hf sp.pos fw z (bes u hu z)
   ·rw [z] at hh;exact absurd hh (by decide)
theorem three {ss:List Sd} {e f P:P3} {a b:Sd} {h:Int} (hh:h * h = 1) (hN:0 < e.1 * e.1 + e.2.1 * e.2.1) (hf:sv e f = 0) (fw:0 < f.2.2) (no:∀ z:P3,sv e z = 0->0 < z.2.2->¬ inW ss z) (bes:∀ t∈ss,tn e t.2 = 0->sv t.2 f<=0)
  (ma:a∈ss) (mb:b∈ss) (ha:0 < tn e a.2 * h) (hb:0 < tn e b.2 * -h) (ta:∀ u∈ss,0 < tn e u.2 * h->sv u.2 (pt3 (crL e a.2))<=0) (tb:∀ u∈ss,0 < tn e u.2 * -h->sv u.2 (pt3 (crL e b.2))<=0)
  (pw:0 < P.2.2) (wP:inW ss P) (oP:0 < sv e P) :
  0 < tn b.2 e * h/\0 < tn e a.2 * h/\0 < tn a.2 b.2 * h/\(tn b.2 e * a.2.2.2 + tn e a.2 * b.2.2.2 + tn a.2 b.2 * e.2.2) * h < 0:=by
 obtain ⟨sa,a1,a2⟩:=wJ (yH ha);obtain ⟨sb,b1,b2⟩:=wJ (yH hb);have hh' : -h * -h = 1:=by rw [Int.neg_mul_neg]; exact hh
 have outb:0 < sv b.2 (pt3 (crL e a.2)):=by
  by_cases c:0 < sv b.2 (pt3 (crL e a.2))
  ·exact c
  ·refine absurd ?_ (no _ a1 sa.pos);have d:=zFp hh' hN b1 a1 sb.pos b2 (show sv b.2 (pt3 (crL e a.2))<=0 by omega) hb;intro u hu;by_cases c1:0 < tn e u.2 * h
   ·exact ta u hu c1
   ·by_cases c2:0 < tn e u.2 * -h
    ·refine zF4 hh' hN a1 b1 sa.pos sb.pos u.2 ?_ (tb u hu c2);rw [zBx,Int.neg_mul] ;have:=Int.mul_nonneg d (Int.le_of_lt c2);rw [Int.neg_mul];omega
    ·rw [zCs] at c2;have z:tn e u.2 * h = 0:=by omega
     rcases Int.mul_eq_zero.mp z with z | z
     ·exact zHs hN a1 hf sa.pos fw z (bes u hu z)
     ·rw [z] at hh;exact absurd hh (by decide)
 have A:0 < tn b.2 e * h:=by
  rw [zCs] at hb;have z:tn b.2 e = -tn e b.2:=by unfold tn; rw [Int.mul_comm b.2.1,Int.mul_comm b.2.2.1]; omega
  rw [z,Int.neg_mul];omega
 have S:∀ z:P3,tn b.2 e * sv a.2 z + tn e a.2 * sv b.2 z + tn a.2 b.2 * sv e z = -((tn b.2 e * a.2.2.2 + tn e a.2 * b.2.2.2 + tn a.2 b.2 * e.2.2) * z.2.2):=λz=>by
  unfold tn sv;simp only [Int.mul_sub,Int.sub_mul,Int.mul_add,Int.add_mul,Int.mul_comm,Int.mul_left_comm];omega
 have k1:=S (pt3 (crL e a.2));rw [a1,a2,Int.mul_zero,Int.mul_zero,Int.zero_add,Int.add_zero] at k1;have k2:=S P;generalize tn b.2 e * a.2.2.2 + tn e a.2 * b.2.2.2 + tn a.2 b.2 * e.2.2 = M at k1 k2 ⊢;have m1:M * h < 0:=by
  have p:=Int.mul_pos ha outb;have e1:tn e a.2 * h * sv b.2 (pt3 (crL e a.2)) = -(M * h * (pt3 (crL e a.2)).2.2):=by
   rw [Int.mul_right_comm,k1,Int.neg_mul,Int.mul_right_comm]
  rw [e1] at p;by_cases c:M * h < 0
  ·exact c
  ·have:=Int.mul_nonneg (show 0<=M * h by omega) (Int.le_of_lt sa.pos);omega
 refine ⟨A,ha,?_,m1⟩;have e2:tn b.2 e * h * sv a.2 P + tn e a.2 * h * sv b.2 P + tn a.2 b.2 * h * sv e P = -(M * h * P.2.2):=by
  have z:(tn b.2 e * sv a.2 P + tn e a.2 * sv b.2 P + tn a.2 b.2 * sv e P) * h = -(M * P.2.2) * h:=by rw [k2]
  rw [Int.neg_mul,Int.mul_right_comm M] at z;rw [<- z,Int.add_mul,Int.add_mul,Int.mul_right_comm,Int.mul_right_comm (tn e a.2),Int.mul_right_comm (tn a.2 b.2)]
 have x1:=Int.mul_nonneg (Int.le_of_lt A) (show 0<=-sv a.2 P by have:=wP a ma; omega);have x2:=Int.mul_nonneg (Int.le_of_lt ha) (show 0<=-sv b.2 P by have:=wP b mb; omega);have x3:=Int.mul_pos (show 0 < -(M * h) by omega) pw;rw [Int.mul_neg] at x1 x2;rw [Int.neg_mul] at x3;by_cases c:0 < tn a.2 b.2 * h
 ·exact c
 ·have:=Int.mul_nonneg (show 0<=-(tn a.2 b.2 * h) by omega) (Int.le_of_lt oP);rw [Int.neg_mul] at this;omega
theorem xN {x h:Int} (hh:h = 1\/h = -1) (hx:0 < x * h):zBa x = x * h:=by
 unfold zBa;rcases hh with rfl | rfl
 ·rw [if_neg (by omega)];omega
 ·rw [if_pos (by omega)];omega
theorem zJ7 (a b e:P3):tn b e * a.1 + tn e a * b.1 + tn a b * e.1 = 0/\tn b e * a.2.1 + tn e a * b.2.1 + tn a b * e.2.1 = 0:=by
 unfold tn;constructor
 ·simp only [Int.sub_mul,Int.mul_sub,Int.mul_comm,Int.mul_left_comm];omega
 ·simp only [Int.sub_mul,Int.mul_sub,Int.mul_comm,Int.mul_left_comm];omega
def zIo (ss:List Sd) (cs:List (Int × Int)):Prop :=
 (∃ (i j:Nat) (u v:Int) (s t:Sd),cs = [((i:Int),u),((j:Int),v)]/\i < j/\ss[i]? = some s/\ss[j]? = some t/\0 < u/\0 < v/\u<=10 ^ 19/\v<=10 ^ 19 /\
  u * s.2.1 + v * t.2.1 = 0/\u * s.2.2.1 + v * t.2.2.1 = 0/\u * s.2.2.2 + v * t.2.2.2 < 0) \/
 ∃ (i j k:Nat) (u v x:Int) (s t r:Sd),cs = [((i:Int),u),((j:Int),v),((k:Int),x)]/\i < j/\j < k/\ss[i]? = some s/\ss[j]? = some t/\ss[k]? = some r/\0 < u/\0 < v/\0 < x/\u<=10 ^ 19/\v<=10 ^ 19/\x<=10 ^ 19 /\
  u * s.2.1 + v * t.2.1 + x * r.2.1 = 0/\u * s.2.2.1 + v * t.2.2.1 + x * r.2.2.1 = 0/\u * s.2.2.2 + v * t.2.2.2 + x * r.2.2.2 < 0
theorem zUb {x g:Int} (hg:0 < g) (h:x * g = 0):x = 0:=by
 rcases Int.mul_eq_zero.mp h with z | z
 ·exact z
 ·omega
theorem n_of {x g:Int} (hg:0 < g) (h:x * g < 0):x < 0:=by
 by_cases c:x < 0
 ·exact c
 ·have:=Int.mul_nonneg (show 0<=x by omega) (Int.le_of_lt hg);omega
theorem zQl {ws:List Int} {n:Int} (h:n∈ws) (h0:0 < n) (hb:n<=10 ^ 30):0 < yI ws/\(yI ws:Int) < 10 ^ 600:=by
 refine ⟨wU h (by omega),?_⟩;have h1:=zDd h (show n≠0 by omega);exact Int.lt_of_le_of_lt (show (yI ws:Int)<=10 ^ 30 by omega) (by decide +kernel)
theorem zDc {ws:List Int} {n:Int} (h:n∈ws) (h0:0 < n):0 < n / (yI ws:Int)/\n / (yI ws:Int)<=n:=by
 have gp:=wU h (show n≠0 by omega);have e:=yR h;have p:0 < n / (yI ws:Int):=by
  by_cases c:0 < n / (yI ws:Int)
  ·exact c
  ·have:=Int.mul_nonneg (show 0<=-(n / (yI ws:Int)) by omega) (show (0:Int)<=(yI ws:Int) by omega);rw [Int.neg_mul] at this;omega
 refine ⟨p,?_⟩;have:=Int.mul_le_mul_of_nonneg_left (show (1:Int)<=(yI ws:Int) by omega) (Int.le_of_lt p);omega
theorem zLq {ss:List Sd} {i j:Nat} {s t:Sd} {U V:Int} (hij:i < j) (gs:ss[i]? = some s) (gt:ss[j]? = some t) (hU:0 < U) (hV:0 < V) (bU:U<=10 ^ 19) (bV:V<=10 ^ 19)
  (z1:U * s.2.1 + V * t.2.1 = 0) (z2:U * s.2.2.1 + V * t.2.2.1 = 0) (z3:U * s.2.2.2 + V * t.2.2.2 < 0):zIo ss ([(i:Int),(j:Int)].zip (tJ [U,V])):=by
 have mU:U∈[U,V]:=by simp
 have mV:V∈[U,V]:=by simp
 have gp:(0:Int) < (yI [U,V]:Int):=by have:=wU mU (show U≠0 by omega); omega
 have pU:=zDc mU hU;have pV:=zDc mV hV;have eU:=yR mU;have eV:=yR mV;have sum:∀ a b:Int,(U / (yI [U,V]:Int) * a + V / (yI [U,V]:Int) * b) * (yI [U,V]:Int) = U * a + V * b:=λa b=>by
  rw [Int.add_mul,Int.mul_right_comm,eU,Int.mul_right_comm,eV]
 refine .inl ⟨i,j,U / (yI [U,V]:Int),V / (yI [U,V]:Int),s,t,rfl,hij,gs,gt,pU.1,pV.1,Int.le_trans pU.2 bU,Int.le_trans pV.2 bV,?_,?_,?_⟩
 ·exact zUb gp (by rw [sum]; exact z1)
 ·exact zUb gp (by rw [sum]; exact z2)
 ·exact n_of gp (by rw [sum]; exact z3)
theorem zIa {ss:List Sd} {i j k:Nat} {s t r:Sd} {U V X:Int} (hij:i < j) (hjk:j < k) (gs:ss[i]? = some s) (gt:ss[j]? = some t) (gr:ss[k]? = some r) (hU:0 < U) (hV:0 < V) (hX:0 < X) (bU:U<=10 ^ 19) (bV:V<=10 ^ 19) (bX:X<=10 ^ 19)
  (z1:U * s.2.1 + V * t.2.1 + X * r.2.1 = 0) (z2:U * s.2.2.1 + V * t.2.2.1 + X * r.2.2.1 = 0) (z3:U * s.2.2.2 + V * t.2.2.2 + X * r.2.2.2 < 0):zIo ss ([(i:Int),(j:Int),(k:Int)].zip (tJ [U,V,X])):=by
 have mU:U∈[U,V,X]:=by simp
 have mV:V∈[U,V,X]:=by simp
 have mX:X∈[U,V,X]:=by simp
 have gp:(0:Int) < (yI [U,V,X]:Int):=by have:=wU mU (show U≠0 by omega); omega
 have pU:=zDc mU hU;have pV:=zDc mV hV;have pX:=zDc mX hX;have eU:=yR mU;have eV:=yR mV;have eX:=yR mX;have sum:∀ a b c:Int,(U / (yI [U,V,X]:Int) * a + V / (yI [U,V,X]:Int) * b + X / (yI [U,V,X]:Int) * c) * (yI [U,V,X]:Int) = U * a + V * b + X * c:=λa b c=>by
  rw [Int.add_mul,Int.add_mul,Int.mul_right_comm,eU,Int.mul_right_comm,eV,Int.mul_right_comm,eX]
 refine .inr ⟨i,j,k,U / (yI [U,V,X]:Int),V / (yI [U,V,X]:Int),X / (yI [U,V,X]:Int),s,t,r,rfl,hij,hjk,gs,gt,gr,pU.1,pV.1,pX.1,Int.le_trans pU.2 bU,Int.le_trans pV.2 bV,Int.le_trans pX.2 bX,?_,?_,?_⟩
 ·exact zUb gp (by rw [sum]; exact z1)
 ·exact zUb gp (by rw [sum]; exact z2)
 ·exact n_of gp (by rw [sum]; exact z3)
theorem sum2 {u v:Int} {s t z:P3} (h1:u * s.1 + v * t.1 = 0) (h2:u * s.2.1 + v * t.2.1 = 0):u * sv s z + v * sv t z = -((u * s.2.2 + v * t.2.2) * z.2.2):=by
 have e:u * sv s z + v * sv t z = (u * s.1 + v * t.1) * z.1 + (u * s.2.1 + v * t.2.1) * z.2.1 - (u * s.2.2 + v * t.2.2) * z.2.2:=by
  unfold sv;simp only [Int.mul_sub,Int.mul_add,Int.add_mul,Int.mul_comm,Int.mul_left_comm];omega
 rw [e,h1,h2,Int.zero_mul,Int.zero_mul];omega
theorem sum3 {u v x:Int} {s t r z:P3} (h1:u * s.1 + v * t.1 + x * r.1 = 0) (h2:u * s.2.1 + v * t.2.1 + x * r.2.1 = 0):u * sv s z + v * sv t z + x * sv r z = -((u * s.2.2 + v * t.2.2 + x * r.2.2) * z.2.2):=by
 have e:u * sv s z + v * sv t z + x * sv r z = (u * s.1 + v * t.1 + x * r.1) * z.1 + (u * s.2.1 + v * t.2.1 + x * r.2.1) * z.2.1 - (u * s.2.2 + v * t.2.2 + x * r.2.2) * z.2.2:=by
  unfold sv;simp only [Int.mul_sub,Int.mul_add,Int.add_mul,Int.mul_comm,Int.mul_left_comm];omega
 rw [e,h1,h2,Int.zero_mul,Int.zero_mul];omega
theorem zHf {u x:Int} (hu:0 < u) (hx:x<=0):u * x<=0:=by
 have:=Int.mul_nonneg (Int.le_of_lt hu) (show 0<=-x by omega);rw [Int.mul_neg] at this;omega
theorem zIo.no {ss:List Sd} {cs:List (Int × Int)} (h:zIo ss cs) (z:P3) (zw:0 < z.2.2):¬ inW ss z:=λwz=>by
 rcases h with ⟨i,j,u,v,s,t,_,_,gs,gt,hu,hv,_,_,z1,z2,z3⟩ | ⟨i,j,k,u,v,x,s,t,r,_,_,_,gs,gt,gr,hu,hv,hx,_,_,_,z1,z2,z3⟩
 ·have e:=sum2 (z:=z) (s:=s.2) (t:=t.2) z1 z2;have a1:=zHf hu (wz s (List.mem_of_getElem? gs));have a2:=zHf hv (wz t (List.mem_of_getElem? gt));have a3:=Int.mul_neg_of_neg_of_pos z3 zw;omega
 ·have e:=sum3 (z:=z) (s:=s.2) (t:=t.2) (r:=r.2) z1 z2;have a1:=zHf hu (wz s (List.mem_of_getElem? gs));have a2:=zHf hv (wz t (List.mem_of_getElem? gt));have a4:=zHf hx (wz r (List.mem_of_getElem? gr));have a3:=Int.mul_neg_of_neg_of_pos z3 zw;omega
def zLe (ss:List Sd) (P:P3):Prop:=P = (0,0,1)\/(∃ t∈ss,P = pt3 (ftL t.2))\/∃ t∈ss,∃ u∈ss,tn t.2 u.2≠0/\P = pt3 (crL t.2 u.2)
theorem sU {e:P3} {h:Int} (hh:h * h = 1) (hN:0 < e.1 * e.1 + e.2.1 * e.2.1):∀ ss:List Sd,(∀ t∈ss,tn e t.2 * h<=0)\/∃ t∈ss,0 < tn e t.2 * h/\∀ u∈ss,0 < tn e u.2 * h->sv u.2 (pt3 (crL e t.2))<=0
 | []=>.inl λ_ h=>nomatch h
 | s :: ss=>by
  by_cases hs:0 < tn e s.2 * h
  ·obtain ⟨sp1,r1,r2⟩:=wJ (yH hs);rcases sU hh hN ss with n | ⟨t,mt,ht,a⟩
   ·refine .inr ⟨s,List.mem_cons_self ..,hs,λu hu hp=>?_⟩;rcases List.mem_cons.mp hu with rfl | hu
    ·exact Int.le_of_eq r2
    ·have:=n u hu;omega
   ·obtain ⟨sp0,q1,q2⟩:=wJ (yH ht);by_cases hin:sv s.2 (pt3 (crL e t.2))<=0
    ·refine .inr ⟨t,List.mem_cons_of_mem _ mt,ht,λu hu hp=>?_⟩;rcases List.mem_cons.mp hu with rfl | hu
     ·exact hin
     ·exact a u hu hp
    ·have d1:=zQw hh hN r1 q1 sp1.pos r2 (show 0 < sv s.2 (pt3 (crL e t.2)) by omega) hs;refine .inr ⟨s,List.mem_cons_self ..,hs,λu hu hp=>?_⟩;rcases List.mem_cons.mp hu with rfl | hu
     ·exact Int.le_of_eq r2
     ·refine zF4 hh hN r1 q1 sp1.pos sp0.pos u.2 ?_ (a u hu hp);have:=Int.mul_nonneg (show 0<=-(dl e (pt3 (crL e s.2)) (pt3 (crL e t.2)) * h) by omega) (Int.le_of_lt hp);rw [Int.neg_mul] at this;omega
  ·rcases sU hh hN ss with n | ⟨t,mt,ht,a⟩
   ·refine .inl λu hu=>?_;rcases List.mem_cons.mp hu with rfl | hu
    ·omega
    ·exact n u hu
   ·refine .inr ⟨t,List.mem_cons_of_mem _ mt,ht,λu hu hp=>?_⟩;rcases List.mem_cons.mp hu with rfl | hu
    ·exact absurd hp hs
    ·exact a u hu hp
theorem zHz {ss:List Sd} {e:P3} (he:e.1≠0\/e.2.1≠0) {m:P3} (hm:sv e m = 0) (mw:0 < m.2.2) (wm:inW ss m):∃ P:P3,0 < P.2.2/\inW ss P/\sv e P = 0/\(P = pt3 (ftL e)\/∃ t∈ss,tn e t.2≠0/\P = pt3 (crL e t.2)):=by
 have hN:=wF he;obtain ⟨sf,f1⟩:=zKf he;have one:∀ h:Int,h * h = 1->(∀ t∈ss,tn e t.2 * h<=0)\/∃ P:P3,0 < P.2.2/\inW ss P/\sv e P = 0/\(P = pt3 (ftL e)\/∃ t∈ss,tn e t.2≠0/\P = pt3 (crL e t.2)):=λh hh=>by
  rcases sU hh hN ss with n | ⟨t,mt,ht,a⟩
  ·exact .inl n
  ·obtain ⟨sp,c1,c2⟩:=wJ (yH ht);obtain ⟨j,gj⟩:=List.getElem?_of_mem mt;exact .inr ⟨pt3 (crL e t.2),sp.pos,zCa hh hN hm mw wm gj ht a,c1,.inr ⟨t,mt,yH ht,rfl⟩⟩
 rcases one 1 (by decide) with n1 | r
 ·rcases one (-1) (by decide) with n2 | r
  ·exact ⟨pt3 (ftL e),sf.pos,zHd hN hm mw wm f1 sf.pos n1 n2,f1,.inl rfl⟩
  ·exact r
 ·exact r
theorem zLe.cons {ss:List Sd} {P:P3} (s:Sd) (h:zLe ss P):zLe (s :: ss) P:=by
 rcases h with h | ⟨t,ht,h⟩ | ⟨t,ht,u,hu,h⟩
 ·exact .inl h
 ·exact .inr (.inl ⟨t,List.mem_cons_of_mem _ ht,h⟩)
 ·exact .inr (.inr ⟨t,List.mem_cons_of_mem _ ht,u,List.mem_cons_of_mem _ hu,h⟩)
theorem zMr:∀ {ss:List Sd},(∀ t∈ss,t.2.1≠0\/t.2.2.1≠0)->∀ z:P3,0 < z.2.2->inW ss z->∃ P:P3,zLe ss P/\0 < P.2.2/\inW ss P
 | [],_,_,_,_=>⟨(0,0,1),.inl rfl,by decide,λ_ h=>nomatch h⟩
 | s :: ss,hn,z,zw,wz=>by
  obtain ⟨P,cP,pw,wP⟩:=zMr (λt ht=>hn t (List.mem_cons_of_mem _ ht)) z zw λt ht=>wz t (List.mem_cons_of_mem _ ht);by_cases hin:sv s.2 P<=0
  ·refine ⟨P,cP.cons s,pw,λt ht=>?_⟩;rcases List.mem_cons.mp ht with rfl | ht
   ·exact hin
   ·exact wP t ht
  ·obtain ⟨m,m1,m2,m3⟩:=zMo wP (λt ht=>wz t (List.mem_cons_of_mem _ ht)) pw zw (show 0 < sv s.2 P by omega) (wz s (List.mem_cons_self ..));obtain ⟨R,rw',wR,oR,cR⟩:=zHz (hn s (List.mem_cons_self ..)) m1 m2 m3;refine ⟨R,?_,rw',λt ht=>?_⟩
   ·rcases cR with h | ⟨t,ht,h1,h2⟩
    ·exact .inr (.inl ⟨s,List.mem_cons_self ..,h⟩)
    ·exact .inr (.inr ⟨s,List.mem_cons_self ..,t,List.mem_cons_of_mem _ ht,h1,h2⟩)
   ·rcases List.mem_cons.mp ht with rfl | ht
    ·exact Int.le_of_eq oR
    ·exact wR t ht
end Sea

namespace L2
open PySem PySem.Spec PyProof.Rows PySem.W
section
variable {X:Cx}
theorem zHx:zB2 X (.builtin "sorted") (λxs H Q=>∃ (l:Addr) (ns:List Int),xs = [.ref l]/\SqL X.K H l (ns.map V.int)/\ns.length < 64 /\
  ∀ (p:Addr) (ms:List Int),H p = none->ms.Perm ns->ms.Pairwise (·<=·)->Q (.ref p) (upd H p (.lst (ms.map V.int)))):=by
 intro pins s σ H xs us Q I r h;obtain ⟨l,ns,rfl,hq,h64,q⟩:=h;obtain ⟨u,rfl,ru⟩:=xI.one r;cases ru;obtain ⟨its,rv,pl,hz⟩:=I.list hq;have hn:=rv.length;rw [List.length_map] at hn;refine sorted_ints (ns:=ns) pl.isList (sV rv) (by omega) λout ms a1 a2 a3=>?_;obtain ⟨e,at'⟩:=sortedAll_at s.heap its out;have fr:H (s.heap.objs.size + 1) = none:=I.hok.fresh (Nat.le_succ _);refine ⟨.ref (s.heap.objs.size + 1),_,I.laid (t':=s.toks) (a:=s.heap.objs.size + 1) (o:=.lst (ms.map V.int)) (λb ob q=>sortedAll_old q) (Nat.le_succ _) ?_,rfl,q _ ms fr a2 a3⟩;refine ⟨?_,out.toList,e,zEb a1,by simpa using at'⟩;rw [List.length_map,a2.length_eq];exact Nat.le_trans (Nat.le_of_lt h64) (by rw [sizeLine_eq]; decide)
end
theorem zM9 {ns:List Int} {i:Nat} {k:Int} (e:k = i) (h:i < ns.length):∃ n,ns[i]? = some n/\atI (ns.map V.int) k = some (.int n):=by
 refine ⟨ns[i],List.getElem?_eq_getElem h,?_⟩;rw [e];exact tZ (by rw [List.getElem?_map,List.getElem?_eq_getElem h] <;> rfl)
theorem zJ6 {a b:Int} {ms:List Int} (h:ms.Perm [a,b]) (s:ms.Pairwise (·<=·)):(ms = [a,b]/\a<=b)\/(ms = [b,a]/\b<=a):=by
 match ms,h,s,h.length_eq with
 | [c,d],h,s,_ =>
  have le:c<=d:=by simpa using s
  have mc:c∈[a,b]:=h.mem_iff.mp (List.mem_cons_self ..);rw [List.mem_cons,List.mem_singleton] at mc;rcases mc with rfl | rfl
  ·have z:=List.perm_cons c |>.mp h
   have e:=List.perm_singleton.mp z;cases e;exact .inl ⟨rfl,le⟩
  ·have z:=List.perm_cons c |>.mp (h.trans (List.Perm.swap c a []))
   have e:=List.perm_singleton.mp z;cases e;exact .inr ⟨rfl,le⟩
def zP8 (H:Hp) (cs:List Pr):Prop:=∀ t∈cs,H t.1 = some (.tup [.int t.2.1,.int t.2.2])
theorem zP8.same {H H':Hp} {cs:List Pr} (h:zP8 H cs) (s:yG H H'):zP8 H' cs:=λt ht=>s _ _ (h t ht)
end L2

namespace Sea
open PySem L2
theorem zUa {a b x y u v:Int} (hn:a≠0\/b≠0) (h1:a * x + b * y = 0) (h2:a * u + b * v = 0):x * v - y * u = 0:=by
 have e1:a * (x * v - y * u) = (a * x + b * y) * v - (a * u + b * v) * y:=by
  simp only [Int.mul_sub,Int.add_mul,Int.mul_add,Int.mul_comm,Int.mul_left_comm];omega
 have e2:b * (x * v - y * u) = (a * u + b * v) * x - (a * x + b * y) * u:=by
  simp only [Int.mul_sub,Int.add_mul,Int.mul_add,Int.mul_comm,Int.mul_left_comm];omega
 rw [h1,h2,Int.zero_mul,Int.zero_mul,Int.sub_self] at e1 e2;rcases hn with h | h
 ·exact (Int.mul_eq_zero.mp e1).resolve_left h
 ·exact (Int.mul_eq_zero.mp e2).resolve_left h
theorem zOn {x y u v:Int} (h1:Nat.gcd x.natAbs y.natAbs = 1) (h2:Nat.gcd u.natAbs v.natAbs = 1) (h:x * v - y * u = 0) (hp:0 < x * u + y * v):x = u/\y = v:=by
 have e:x.natAbs * v.natAbs = y.natAbs * u.natAbs:=by
  rw [<- Int.natAbs_mul,<- Int.natAbs_mul]
  congr 1
  omega
 have d1:x.natAbs ∣ u.natAbs:=Nat.Coprime.dvd_of_dvd_mul_left (m:=y.natAbs) h1 (by rw [<- e]; exact Nat.dvd_mul_right _ _);have d2:u.natAbs ∣ x.natAbs:=Nat.Coprime.dvd_of_dvd_mul_right (n:=v.natAbs) h2 (by rw [e]; exact Nat.dvd_mul_left _ _);have h1':Nat.gcd y.natAbs x.natAbs = 1:=by rw [Nat.gcd_comm]; exact h1
 have h2':Nat.gcd v.natAbs u.natAbs = 1:=by rw [Nat.gcd_comm]; exact h2
 have d3:y.natAbs ∣ v.natAbs:=Nat.Coprime.dvd_of_dvd_mul_left (m:=x.natAbs) h1' (by rw [e]; exact Nat.dvd_mul_right _ _);have d4:v.natAbs ∣ y.natAbs:=Nat.Coprime.dvd_of_dvd_mul_right (n:=u.natAbs) h2' (by rw [<- e]; exact Nat.dvd_mul_left _ _);have ex:=Nat.dvd_antisymm d1 d2;have ey:=Nat.dvd_antisymm d3 d4;have sx:x = u\/x = -u:=by omega
 have sy:y = v\/y = -v:=by omega
 have q1:0<=u * u:=by
  by_cases c:0<=u
  ·exact Int.mul_nonneg c c
  ·exact Int.le_of_lt (Int.mul_pos_of_neg_of_neg (by omega) (by omega))
 have q2:0<=v * v:=by
  by_cases c:0<=v
  ·exact Int.mul_nonneg c c
  ·exact Int.le_of_lt (Int.mul_pos_of_neg_of_neg (by omega) (by omega))
 rcases sx with rfl | rfl
 ·rcases sy with rfl | rfl
  ·exact ⟨rfl,rfl⟩
  ·rw [Int.neg_mul,Int.mul_comm v] at h;have z:x * v = 0:=by omega
   rcases Int.mul_eq_zero.mp z with z | z
   ·rw [z,Int.zero_mul,Int.neg_mul] at hp;omega
   ·rw [z];exact ⟨rfl,rfl⟩
 ·rcases sy with rfl | rfl
  ·rw [Int.neg_mul,Int.mul_comm y] at h;have z:u * y = 0:=by omega
   rcases Int.mul_eq_zero.mp z with z | z
   ·rw [z];exact ⟨rfl,rfl⟩
   ·rw [z,Int.zero_mul,Int.neg_mul] at hp;omega
  ·rw [Int.neg_mul,Int.neg_mul] at hp;omega
structure wY (ss:List Sd) (x y:Int):Prop where
 low:Nat.gcd x.natAbs y.natAbs = 1
 way:∀ t∈ss,t.2.1 * x + t.2.2.1 * y<=0
 edge:∃ t∈ss,(t.2.1≠0\/t.2.2.1≠0)/\t.2.1 * x + t.2.2.1 * y = 0
theorem zEd {a b p q:Int} (h:a * p + b * q = 0) (hp:p<=0) (hq:q<=0) (hab:0 < a * b):p = 0/\q = 0:=by
 have ha:a≠0:=λz=>by rw [z,Int.zero_mul] at hab; omega
 have hb:b≠0:=λz=>by rw [z,Int.mul_zero] at hab; omega
 by_cases c:0 < a
 ·have cb:0 < b:=by
   by_cases d:0 < b
   ·exact d
   ·have:=Int.mul_neg_of_pos_of_neg c (show b < 0 by omega);omega
  have z1:=Int.mul_nonneg (Int.le_of_lt c) (show 0<=-p by omega);have z2:=Int.mul_nonneg (Int.le_of_lt cb) (show 0<=-q by omega);rw [Int.mul_neg] at z1 z2;exact ⟨(Int.mul_eq_zero.mp (show a * p = 0 by omega)).resolve_left ha,(Int.mul_eq_zero.mp (show b * q = 0 by omega)).resolve_left hb⟩
 ·have cb:b < 0:=by
   by_cases d:b < 0
   ·exact d
   ·have:=Int.mul_neg_of_neg_of_pos (show a < 0 by omega) (show 0 < b by omega);omega
  have z1:=Int.mul_nonneg (show 0<=-a by omega) (show 0<=-p by omega);have z2:=Int.mul_nonneg (show 0<=-b by omega) (show 0<=-q by omega);rw [Int.neg_mul_neg] at z1 z2;exact ⟨(Int.mul_eq_zero.mp (show a * p = 0 by omega)).resolve_left ha,(Int.mul_eq_zero.mp (show b * q = 0 by omega)).resolve_left hb⟩
theorem zUi (a b x1 y1 x2 y2 x3 y3:Int):(x2 * y3 - y2 * x3) * (a * x1 + b * y1) + (x3 * y1 - y3 * x1) * (a * x2 + b * y2) + (x1 * y2 - y1 * x2) * (a * x3 + b * y3) = 0:=by
 simp only [Int.mul_sub,Int.sub_mul,Int.add_mul,Int.mul_add,Int.mul_comm,Int.mul_left_comm];omega
theorem zJm {x y:Int} (h:Nat.gcd x.natAbs y.natAbs = 1):x≠0\/y≠0:=by
 by_cases c:x = 0
 ·right;intro z;rw [c,z] at h;exact absurd h (by decide)
 ·exact .inl c
theorem wY.contra {ss:List Sd} {x1 y1 x2 y2 x3 y3:Int} (w1:wY ss x1 y1) (w2:wY ss x2 y2) (w3:wY ss x3 y3) (h:x1 * y2 - y1 * x2 = 0) (hn:x1 * x2 + y1 * y2 < 0):x1 * y3 - y1 * x3 = 0:=by
 obtain ⟨t,mt,nt,et⟩:=w3.edge;have p1:=w1.way t mt;have p2:=w2.way t mt;have hN:=zFf (zJm w1.low);have e:(x1 * x1 + y1 * y1) * (t.2.1 * x2 + t.2.2.1 * y2) = (x1 * x2 + y1 * y2) * (t.2.1 * x1 + t.2.2.1 * y1) + (x1 * y2 - y1 * x2) * (t.2.2.1 * x1 - t.2.1 * y1):=by
  simp only [Int.mul_sub,Int.sub_mul,Int.add_mul,Int.mul_add,Int.mul_comm,Int.mul_left_comm];omega
 rw [h,Int.zero_mul,Int.add_zero] at e;have z1:=Int.mul_nonneg (show 0<=x1 * x1 + y1 * y1 by omega) (show 0<=-(t.2.1 * x2 + t.2.2.1 * y2) by omega);have z2:=Int.mul_nonneg (show 0<=-(x1 * x2 + y1 * y2) by omega) (show 0<=-(t.2.1 * x1 + t.2.2.1 * y1) by omega);rw [Int.mul_neg] at z1;rw [Int.neg_mul_neg] at z2;have z:t.2.1 * x1 + t.2.2.1 * y1 = 0:=(Int.mul_eq_zero.mp (show (x1 * x2 + y1 * y2) * (t.2.1 * x1 + t.2.2.1 * y1) = 0 by omega)).resolve_left (by omega);exact zUa nt z et
theorem zTp {x y u v:Int} (h:x * v - y * u = 0) (n1:x≠0\/y≠0) (n2:u≠0\/v≠0):x * u + y * v≠0:=λz=>by
 have e:(x * x + y * y) * (u * u + v * v) = (x * u + y * v) * (x * u + y * v) + (x * v - y * u) * (x * v - y * u):=by
  simp only [Int.mul_sub,Int.sub_mul,Int.add_mul,Int.mul_add,Int.mul_comm,Int.mul_left_comm];omega
 rw [h,z,Int.zero_mul,Int.add_zero] at e;have q1:=zFf n1;have q2:=zFf n2;have:=Int.mul_pos (show 0 < x * x + y * y by omega) (show 0 < u * u + v * v by omega);omega
theorem wY.same {ss:List Sd} {x1 y1 x2 y2:Int} (w1:wY ss x1 y1) (w2:wY ss x2 y2) (d:¬ (x1 = x2/\y1 = y2)) (h:x1 * y2 - y1 * x2 = 0):x1 * x2 + y1 * y2 < 0:=by
 have:=zTp h (zJm w1.low) (zJm w2.low);by_cases c:0 < x1 * x2 + y1 * y2
 ·exact absurd (zOn w1.low w2.low h c) d
 ·omega
theorem zKw {ss:List Sd} {x1 y1 x2 y2 x3 y3:Int} (w1:wY ss x1 y1) (w2:wY ss x2 y2) (w3:wY ss x3 y3) (d12:¬ (x1 = x2/\y1 = y2)) (d13:¬ (x1 = x3/\y1 = y3)) (d23:¬ (x2 = x3/\y2 = y3)):False:=by
 have par:∀ {x1 y1 x2 y2 x3 y3:Int},wY ss x1 y1->wY ss x2 y2->wY ss x3 y3->¬ (x1 = x2/\y1 = y2)->¬ (x1 = x3/\y1 = y3)->¬ (x2 = x3/\y2 = y3)->x1 * y2 - y1 * x2≠0:=λ{x1 y1 x2 y2 x3 y3} w1 w2 w3 d12 d13 d23 h=>by
  have n12:=w1.same w2 d12 h;have h13:=w1.contra w2 w3 h n12;have n13:=w1.same w3 d13 h13;have hN:=zFf (zJm w1.low);have e:(x1 * x1 + y1 * y1) * (x2 * x3 + y2 * y3) = (x1 * x2 + y1 * y2) * (x1 * x3 + y1 * y3) + (x1 * y2 - y1 * x2) * (x1 * y3 - y1 * x3):=by
   simp only [Int.mul_sub,Int.sub_mul,Int.add_mul,Int.mul_add,Int.mul_comm,Int.mul_left_comm];omega
  have e2:(x1 * x1 + y1 * y1) * (x2 * y3 - y2 * x3) = (x1 * x2 + y1 * y2) * (x1 * y3 - y1 * x3) - (x1 * y2 - y1 * x2) * (x1 * x3 + y1 * y3):=by
   simp only [Int.mul_sub,Int.sub_mul,Int.add_mul,Int.mul_add,Int.mul_comm,Int.mul_left_comm];omega
  rw [h,h13,Int.zero_mul,Int.add_zero] at e;rw [h,h13,Int.zero_mul,Int.mul_zero,Int.sub_self] at e2;have z:=(Int.mul_eq_zero.mp e2).resolve_left (by omega);have n23:=w2.same w3 d23 z;have p:=Int.mul_pos_of_neg_of_neg n12 n13;have q:=Int.mul_neg_of_pos_of_neg (show 0 < x1 * x1 + y1 * y1 by omega) n23;omega
 have sw:∀ x y u v:Int,x * v - y * u = -(u * y - v * x):=λx y u v=>by rw [Int.mul_comm u,Int.mul_comm v]; omega
 have a0:x2 * y3 - y2 * x3≠0:=par w2 w3 w1 d23 (λz=>d12 ⟨z.1.symm,z.2.symm⟩) (λz=>d13 ⟨z.1.symm,z.2.symm⟩);have b0:x3 * y1 - y3 * x1≠0:=par w3 w1 w2 (λz=>d13 ⟨z.1.symm,z.2.symm⟩) (λz=>d23 ⟨z.1.symm,z.2.symm⟩) d12;have c0:x1 * y2 - y1 * x2≠0:=par w1 w2 w3 d12 d13 d23;obtain ⟨t1,m1,n1,e1⟩:=w1.edge;obtain ⟨t2,m2,n2,e2⟩:=w2.edge;obtain ⟨t3,m3,n3,e3⟩:=w3.edge;have r1:=zUi t1.2.1 t1.2.2.1 x1 y1 x2 y2 x3 y3;have r2:=zUi t2.2.1 t2.2.2.1 x1 y1 x2 y2 x3 y3;have r3:=zUi t3.2.1 t3.2.2.1 x1 y1 x2 y2 x3 y3;rw [e1,Int.mul_zero,Int.zero_add] at r1;rw [e2,Int.mul_zero,Int.add_zero] at r2;rw [e3,Int.mul_zero,Int.add_zero] at r3;have k1:¬ 0 < (x3 * y1 - y3 * x1) * (x1 * y2 - y1 * x2):=λp=>by
  have z:=zEd r1 (w2.way t1 m1) (w3.way t1 m1) p;exact c0 (zUa n1 e1 z.1)
 have k2:¬ 0 < (x2 * y3 - y2 * x3) * (x1 * y2 - y1 * x2):=λp=>by
  have z:=zEd r2 (w1.way t2 m2) (w3.way t2 m2) p;exact c0 (zUa n2 z.1 e2)
 have k3:¬ 0 < (x2 * y3 - y2 * x3) * (x3 * y1 - y3 * x1):=λp=>by
  have z:=zEd r3 (w1.way t3 m3) (w2.way t3 m3) p;exact c0 (zUa n3 z.1 z.2)
 generalize x2 * y3 - y2 * x3 = a at *;generalize x3 * y1 - y3 * x1 = b at *;generalize x1 * y2 - y1 * x2 = c at *;have sg:∀ {p q:Int},p≠0->q≠0->¬ 0 < p * q->(0 < p/\q < 0)\/(p < 0/\0 < q):=λ{p q} hp hq h=>by
  by_cases cp:0 < p
  ·by_cases cq:0 < q
   ·exact absurd (Int.mul_pos cp cq) h
   ·exact .inl ⟨cp,by omega⟩
  ·by_cases cq:0 < q
   ·exact .inr ⟨by omega,cq⟩
   ·exact absurd (Int.mul_pos_of_neg_of_neg (by omega) (by omega)) h
 have s1:=sg b0 c0 k1;have s2:=sg a0 c0 k2;have s3:=sg a0 b0 k3;omega
theorem WK.dir {ss:List Sd} {n:Nat} {k:List Int} (hn:∀ t∈ss,t.2.1≠0\/t.2.2.1≠0) (h:WK ss n k):∃ x y:Int,k = [x,y]/\wY ss x y:=by
 obtain ⟨j,t,_,gt,h⟩:=h;have mt:=List.mem_of_getElem? gt;have nt:=hn t mt;have one:∀ X Y:Int,(X≠0\/Y≠0)->t.2.1 * X + t.2.2.1 * Y = 0->k = tJ [X,Y]->vG ss X Y = true->∃ x y:Int,k = [x,y]/\wY ss x y:=λX Y nXY e ek hw=>by
  obtain ⟨x,y,exy,gp,_,low,_⟩:=zD7 nXY;have ex:x = X / (yI [X,Y]:Int)/\y = Y / (yI [X,Y]:Int):=by
   have z:[X / (yI [X,Y]:Int),Y / (yI [X,Y]:Int)] = [x,y]:=exy;cases z;exact ⟨rfl,rfl⟩
  refine ⟨x,y,ek.trans exy,low,λu hu=>?_,t,mt,nt,?_⟩
  ·have z:=zI0 (ss:=ss) gp;rw [hw,<- ex.1,<- ex.2] at z;exact of_decide_eq_true (List.all_eq_true.mp z u hu)
  ·have g0:(0:Int) < (yI [X,Y]:Int):=by omega
   have eX:=yR (ns:=[X,Y]) (n:=X) (by simp);have eY:=yR (ns:=[X,Y]) (n:=Y) (by simp);rw [<- ex.1] at eX;rw [<- ex.2] at eY;have z:(t.2.1 * x + t.2.2.1 * y) * (yI [X,Y]:Int) = 0:=by
    rw [Int.add_mul,Int.mul_assoc,Int.mul_assoc,eX,eY];exact e
   rcases Int.mul_eq_zero.mp z with z | z
   ·exact z
   ·omega
 rcases h with ⟨e,hw⟩ | ⟨e,hw⟩
 ·exact one _ _ (by omega) (by rw [Int.mul_neg,Int.mul_comm t.2.2.1]; omega) e hw
 ·exact one _ _ (by omega) (by rw [Int.mul_neg,Int.mul_comm t.2.2.1]; omega) e hw
theorem zPf {ss:List Sd} {n:Nat} {ks:List (List Int)} (hn:∀ t∈ss,t.2.1≠0\/t.2.2.1≠0) (nd:ks.Nodup) (h:∀ k∈ks,WK ss n k):ks.length<=2:=by
 match ks,nd,h with
 | [],_,_=>exact Nat.zero_le _
 | [_],_,_=>exact (by decide:1<=2)
 | [_,_],_,_=>exact Nat.le_refl 2
 | a :: b :: c :: r,nd,h =>
  obtain ⟨x1,y1,rfl,w1⟩:=(h a (by simp)).dir hn;obtain ⟨x2,y2,rfl,w2⟩:=(h b (by simp)).dir hn;obtain ⟨x3,y3,rfl,w3⟩:=(h c (by simp)).dir hn;simp only [List.nodup_cons,List.mem_cons,not_or] at nd;exact (zKw w1 w2 w3 (λz=>nd.1.1 (by rw [z.1,z.2])) (λz=>nd.1.2.1 (by rw [z.1,z.2])) (λz=>nd.2.1.1 (by rw [z.1,z.2]))).elim
end Sea

namespace Sea
open PySem L2
def dt (s g:P3):Int:=s.1 * g.1 + s.2.1 * g.2.1
theorem zAf (s t:P3):tn s t = -tn t s:=by
 unfold tn;rw [Int.mul_comm s.1,Int.mul_comm s.2.1];omega
theorem zIc (s:P3):tn s s = 0:=by
 unfold tn;rw [Int.mul_comm];omega
theorem zM4 (t e g:P3):tn t e * (g.1 * g.1 + g.2.1 * g.2.1) = tn t g * dt e g + tn g e * dt t g:=by
 unfold tn dt;simp only [Int.mul_sub,Int.sub_mul,Int.mul_add,Int.add_mul,Int.mul_comm,Int.mul_left_comm];omega
theorem zTv (t u e g:P3):tn t u * tn e g = tn t e * tn u g + tn t g * tn e u:=by
 unfold tn;simp only [Int.mul_sub,Int.sub_mul,Int.mul_comm,Int.mul_left_comm];omega
theorem uO {x y:Int} (h:0 < x * y) (hy:0 < y):0 < x:=by
 by_cases c:0 < x
 ·exact c
 ·have:=Int.mul_nonneg (show 0<=-x by omega) (Int.le_of_lt hy);rw [Int.neg_mul] at this;omega
theorem zF7 {α:Type} {p q:α->Bool} : ∀ {l:List α},(∀ a∈l,p a = true->q a = true)->(∃ a∈l,q a = true/\p a = false)->l.countP p < l.countP q
 | [],_,⟨_,h,_⟩=>nomatch h
 | x :: l,h,⟨a,ha,q1,p1⟩=>by
  have le:l.countP p<=l.countP q:=List.countP_mono_left λb hb=>h b (List.mem_cons_of_mem _ hb);rw [List.countP_cons,List.countP_cons];rcases List.mem_cons.mp ha with rfl | ha
  ·rw [q1,p1];simp;omega
  ·have z:=zF7 (λb hb=>h b (List.mem_cons_of_mem _ hb)) ⟨a,ha,q1,p1⟩;by_cases hx:p x = true
   ·rw [hx,h x (List.mem_cons_self ..) hx];omega
   ·have hx':p x = false:=by simpa using hx
    rw [hx',if_neg (by decide)];omega
structure zH5 (ss:List Sd) (g:P3):Prop where
 nz:∀ t∈ss,t.2.1≠0\/t.2.2.1≠0
 gz:g.1≠0\/g.2.1≠0
 ways:∀ t∈ss,∀ h:Int,(h = 1\/h = -1)->(∀ s∈ss,tn t.2 s.2 * h<=0)->tn t.2 g * h<=0
 lead:¬ ∀ s∈ss,dt s.2 g<=0
 one:∀ t∈ss,tn t.2 g = 0->0 < dt t.2 g->∀ P:P3,0 < P.2.2->sv t.2 P = 0->¬ inW ss P
theorem zH5.right {ss:List Sd} {g:P3} (B:zH5 ss g) (two:∀ t∈ss,0 < tn t.2 g->∃ e∈ss,0 < tn t.2 e.2/\(∀ u∈ss,0 < tn t.2 u.2->sv u.2 (pt3 (crL t.2 e.2))<=0)/\¬ (0 < tn g e.2/\inW ss (pt3 (crL t.2 e.2)))) :
  ∀ (n:Nat) (t:Sd),t∈ss->0 < tn t.2 g->ss.countP (λu=>decide (0 < tn u.2 g) && decide (0 < tn t.2 u.2)) < n->∀ P:P3,0 < P.2.2->sv t.2 P = 0->inW ss P->False
 | 0,_,_,_,h,_,_,_,_=>absurd h (Nat.not_lt_zero _)
 | n + 1,t,mt,ht,hc,P,pw,oP,wP=>by
  have hN:=wF (B.nz t mt);obtain ⟨e,me,he,ha,hno⟩:=two t mt ht;obtain ⟨j,gj⟩:=List.getElem?_of_mem me;have w1:=zCa (h:=1) (by decide) hN oP pw wP gj (by omega) (λu hu hp=>ha u hu (by omega));obtain ⟨sp,c1,c2⟩:=wJ (show tn t.2 e.2≠0 by omega);have hge:¬ 0 < tn g e.2:=λz=>hno ⟨z,w1⟩;have an:=zAf g e.2;by_cases h0:tn g e.2 = 0
  ·have k:=zM4 t.2 e.2 g;rw [h0,Int.zero_mul,Int.add_zero] at k;have p:=Int.mul_pos he (wF B.gz);rw [k,Int.mul_comm] at p;exact B.one e me (by omega) (uO p ht) _ sp.pos c2 w1
  ·have heg:0 < tn e.2 g:=by omega
   refine zH5.right B two n e me heg (Nat.lt_of_lt_of_le (zF7 (q:=λu=>decide (0 < tn u.2 g) && decide (0 < tn t.2 u.2)) (λu hu hp=>?_) ⟨e,me,?_,?_⟩) (Nat.le_of_lt_succ hc)) _ sp.pos c2 w1
   ·rw [Bool.and_eq_true,decide_eq_true_iff,decide_eq_true_iff] at hp ⊢;refine ⟨hp.1,?_⟩;have k:=zTv t.2 u.2 e.2 g;have p1:=Int.mul_pos he hp.1;have p2:=Int.mul_pos ht hp.2;exact uO (y:=tn e.2 g) (by omega) heg
   ·rw [decide_eq_true heg,decide_eq_true he];rfl
   ·rw [decide_eq_false (p:=0 < tn e.2 e.2) (by rw [zIc]; decide),Bool.and_false]
theorem zH5.left {ss:List Sd} {g:P3} (B:zH5 ss g) (rt:∀ t∈ss,0 < tn t.2 g->∀ P:P3,0 < P.2.2->sv t.2 P = 0->inW ss P->False) :
  ∀ (n:Nat) (t:Sd),t∈ss->0 < tn g t.2->ss.countP (λu=>decide (0 < tn g u.2) && decide (0 < tn u.2 t.2)) < n->∀ P:P3,0 < P.2.2->sv t.2 P = 0->inW ss P->False
 | 0,_,_,_,h,_,_,_,_=>absurd h (Nat.not_lt_zero _)
 | n + 1,t,mt,ht,hc,P,pw,oP,wP=>by
  have hN:=wF (B.nz t mt);have at':=zAf t.2 g;rcases sU (h:=-1) (by decide) hN ss with no | ⟨e,me,he,ha⟩
  ·have:=B.ways t mt (-1) (.inr rfl) no;omega
  ·obtain ⟨j,gj⟩:=List.getElem?_of_mem me;have w1:=zCa (h:=-1) (by decide) hN oP pw wP gj he ha;obtain ⟨sp,c1,c2⟩:=wJ (yH he);have a1:=zAf t.2 e.2;have a2:=zAf g e.2;have het:0 < tn e.2 t.2:=by omega
   by_cases h1:0 < tn e.2 g
   ·exact rt e me h1 _ sp.pos c2 w1
   ·by_cases h0:tn e.2 g = 0
    ·have k:=zM4 e.2 t.2 g;rw [h0,Int.zero_mul,Int.zero_add] at k;have p:=Int.mul_pos het (wF B.gz);rw [k,Int.mul_comm] at p;exact B.one e me h0 (uO p ht) _ sp.pos c2 w1
    ·have hge:0 < tn g e.2:=by omega
     refine zH5.left B rt n e me hge (Nat.lt_of_lt_of_le (zF7 (q:=λu=>decide (0 < tn g u.2) && decide (0 < tn u.2 t.2)) (λu hu hp=>?_) ⟨e,me,?_,?_⟩) (Nat.le_of_lt_succ hc)) _ sp.pos c2 w1
     ·rw [Bool.and_eq_true,decide_eq_true_iff,decide_eq_true_iff] at hp ⊢;refine ⟨hp.1,?_⟩;have k:=zTv u.2 t.2 e.2 g;have p1:=Int.mul_pos hp.2 ht;have p2:=Int.mul_pos hp.1 het;have e1:tn u.2 t.2 * tn g e.2 = tn u.2 e.2 * tn g t.2 + tn g u.2 * tn e.2 t.2:=by
       have b1:=zAf e.2 g;have b2:=zAf u.2 g;rw [b1,at',b2,Int.mul_neg,Int.mul_neg,Int.neg_mul] at k;omega
      exact uO (y:=tn g e.2) (by omega) hge
     ·rw [decide_eq_true hge,decide_eq_true het];rfl
     ·rw [decide_eq_false (p:=0 < tn e.2 e.2) (by rw [zIc]; decide),Bool.and_false]
theorem zTd {ss:List Sd} {g:P3} (B:zH5 ss g) (two:∀ t∈ss,0 < tn t.2 g->∃ e∈ss,0 < tn t.2 e.2/\(∀ u∈ss,0 < tn t.2 u.2->sv u.2 (pt3 (crL t.2 e.2))<=0)/\¬ (0 < tn g e.2/\inW ss (pt3 (crL t.2 e.2))))
  {z:P3} (zw:0 < z.2.2) (wz:inW ss z):False:=by
 have rt:∀ t∈ss,0 < tn t.2 g->∀ P:P3,0 < P.2.2->sv t.2 P = 0->inW ss P->False:=λt mt ht=>B.right two _ t mt ht (Nat.lt_succ_self _);have lf:∀ t∈ss,0 < tn g t.2->∀ P:P3,0 < P.2.2->sv t.2 P = 0->inW ss P->False:=λt mt ht=>B.left rt _ t mt ht (Nat.lt_succ_self _)
 let e0:P3:=(g.2.1 * z.2.2,-(g.1 * z.2.2),g.2.1 * z.1 - g.1 * z.2.1)
 have o0:sv e0 z = 0:=by
  show g.2.1 * z.2.2 * z.1 + -(g.1 * z.2.2) * z.2.1 - (g.2.1 * z.1 - g.1 * z.2.1) * z.2.2 = 0;simp only [Int.sub_mul,Int.mul_sub,Int.neg_mul,Int.mul_neg,Int.mul_comm,Int.mul_left_comm];omega
 have t0:∀ t:P3,tn e0 t = dt t g * z.2.2:=λt=>by
  show g.2.1 * z.2.2 * t.2.1 - -(g.1 * z.2.2) * t.1 = (t.1 * g.1 + t.2.1 * g.2.1) * z.2.2;simp only [Int.add_mul,Int.mul_add,Int.neg_mul,Int.mul_neg,Int.mul_comm,Int.mul_left_comm];omega
 have n0:e0.1≠0\/e0.2.1≠0:=by
  rcases B.gz with h | h
  ·right;show -(g.1 * z.2.2)≠0;have:=Int.mul_ne_zero h (show z.2.2≠0 by omega);omega
  ·left;exact Int.mul_ne_zero h (by omega)
 have hN:=wF n0;rcases sU (h:=1) (by decide) hN ss with no | ⟨t,mt,ht,ha⟩
 ·refine B.lead λs hs=>?_;have:=no s hs;rw [t0,Int.mul_one] at this;by_cases c:dt s.2 g<=0
  ·exact c
  ·have:=Int.mul_pos (show 0 < dt s.2 g by omega) zw;omega
 ·obtain ⟨j,gj⟩:=List.getElem?_of_mem mt;have w1:=zCa (h:=1) (by decide) hN o0 zw wz gj ht ha;obtain ⟨sp,c1,c2⟩:=wJ (yH ht);have hd:0 < dt t.2 g:=by
   rw [t0,Int.mul_one] at ht;exact uO ht zw
  have an:=zAf g t.2;by_cases h1:0 < tn t.2 g
  ·exact rt t mt h1 _ sp.pos c2 w1
  ·by_cases h0:tn t.2 g = 0
   ·exact B.one t mt h0 hd _ sp.pos c2 w1
   ·exact lf t mt (by omega) _ sp.pos c2 w1
end Sea

namespace L2
open PySem PySem.Spec PyProof.Rows PySem.W
def zQm (h:Heap) (v:Value) (x:Int):Prop:=∃ (a:Addr) (o:Obj) (n:Nat) (t:Tok) (rest:List Value),v = .ref a/\h.get? a = some o/\o.cls = .type "tuple" /\ o.data = .seq (Value.int x t :: rest).toArray n
theorem zQm.keep {h h':Heap} {v:Value} {x:Int} (e:zQm h v x) (k:∀ b o,h.get? b = some o->h'.get? b = some o):zQm h' v x:=by
 obtain ⟨a,o,n,t,r,e1,e2,e3⟩:=e;exact ⟨a,o,n,t,r,e1,k _ _ e2,e3⟩
theorem zPb:kas_sort 2 = .ask 1 0 λc=>if c = true then .ret #[1,0] else .ret #[0,1]:=by
 have e:kas_sort 2 = .ask 1 0 λc=>match c with | true=>.ret #[1,0] | false=>.ret #[0,1]:=by
  unfold kas_sort;show KasT.ask 1 0 _ = _
  congr 1
  funext c
  cases c <;> rfl
 rw [e]
 congr 1
 funext c
 cases c <;> rfl
section
variable {prog:Program} {w:World} {A:Around} {E:Value->Shared->Prop} {s:Shared}
theorem zMd {u v:Value} {x y:Int} {C:Bool->Shared->Prop} (hu:zQm s.heap u x) (hv:zQm s.heap v y) (hn:x≠y) (h:C (decide (x < y)) s):wpAny (model prog w) A (keyLt' (tuples' true) u v) C E s:=by
 obtain ⟨p,o,n,t,us,rfl,ho,_,hd⟩:=hu;obtain ⟨q,o',n',t',ws,rfl,ho',_,hd'⟩:=hv;refine kat_lt ho hd ho' hd' ?_;show KatLex prog w A true _ C ((Value.int x t,Value.int y t') :: us.zip ws) 0 s;refine kat_cons (wpAny_eqBool_int ?_);rw [show (x == y) = false from by simpa using hn];exact kat_no (oneLt_int h)
theorem zKp {l:Addr} {u v:Value} {x y:Int} {Q:Value->Shared->Prop} (hl:s.heap.IsList l [u,v].toArray) (hu:zQm s.heap u x) (hv:zQm s.heap v y) (hn:x≠y)
  (h:Q (.ref (s.heap.objs.size + 1)) { s with heap:=sortedAll s.heap [u,v] (if y < x then [v,u] else [u,v]).toArray }) :
  wpAny (model prog w) A (call (.builtin "sorted") [.ref l]) Q E s:=by
 refine zMi (κ:=tuples' true) (G:=λout=>out = if y < x then [v,u] else [u,v]) hl (by show 2 < 64; decide) (λh2 s' kp E' Q' hq=>?_) (λh2 s' kp=>?_) (λh2=>absurd (show 2 < 2 from h2) (by decide)) λout hz e=>by rw [e]; exact h
 ·have hu':=hu.keep kp;have hv':=hv.keep kp;obtain ⟨p,o,n,t,us,e1,ho,hc,hd⟩:=hu';obtain ⟨q,o',n',t',ws,e2,ho',hc',hd'⟩:=hv';have a1:KatTups s'.heap [u,v] [.int x t,.int y t']:=by
   rw [e1,e2];exact KatTups.cons ho hc hd rfl (KatTups.cons ho' hc' hd' rfl .nil)
  refine kat_kind (T:=Value.type "int") a1 (by show 0 < 2; decide) (λz hz=>?_) rfl (by first | exact hq | (rw [show (Value.type "int" != Value.type "tuple") = true from by first | decide | simp]; exact hq));rcases List.mem_cons.mp hz with rfl | hz
  ·exact .now
  ·rw [List.mem_singleton] at hz;rw [hz];exact .now
 ·rw [show [u,v].length = 2 from rfl,zPb];show kas_ask prog w A.in1.in1 (tuples' true) [u,v] 1 0 _ s';refine zMd (hv.keep kp) (hu.keep kp) (λz=>hn z.symm) ?_;by_cases c:y < x
  ·rw [decide_eq_true c,if_pos c];exact ⟨rfl,rfl⟩
  ·rw [decide_eq_false c,if_neg c];exact ⟨rfl,rfl⟩
end
section
variable {X:Cx}
theorem zG9:zB2 X (.builtin "sorted") (λxs H Q=>∃ (l a b:Addr) (x y:Int) (us ws:List V),xs = [.ref l]/\SqL X.K H l [.ref a,.ref b]/\H a = some (.tup (.int x :: us))/\H b = some (.tup (.int y :: ws))/\x≠y /\
  ∀ p:Addr,H p = none->Q (.ref p) (upd H p (.lst (if y < x then [.ref b,.ref a] else [.ref a,.ref b])))):=by
 intro pins s σ H xs us Q I r h;obtain ⟨l,a,b,x,y,us',ws',rfl,hq,ha,hb,hn,q⟩:=h;obtain ⟨u,rfl,ru⟩:=xI.one r;cases ru;obtain ⟨its,rv,pl,hz⟩:=I.list hq;have ei:=rV (rs:=[a,b]) rv;subst ei;have tf:∀ {a:Addr} {x:Int} {us:List V},H a = some (.tup (.int x :: us))->zQm s.heap (.ref a) x:=λ{a x us} ha=>by
  obtain ⟨its,r1,⟨o,e,c,n,d⟩,_⟩:=I.tuple (SqT.of ha);cases r1 with
  | cons p1 q1 =>
   obtain ⟨t,rfl⟩:=p1;exact ⟨_,o,n,t,_,rfl,e,c,d⟩
 refine zKp (u:=.ref a) (v:=.ref b) pl.isList (tf ha) (tf hb) hn ?_;have fr:H (s.heap.objs.size + 1) = none:=I.hok.fresh (Nat.le_succ _);by_cases c:y < x
 ·rw [if_pos c];have q':=q _ fr;rw [if_pos c] at q';obtain ⟨e,at'⟩:=sortedAll_at s.heap [.ref a,.ref b] [Value.ref b,Value.ref a].toArray;exact ⟨.ref (s.heap.objs.size + 1),_,I.laid (t':=s.toks) (a:=s.heap.objs.size + 1) (o:=.lst [.ref b,.ref a]) (λb ob q=>sortedAll_old q) (Nat.le_succ _) ⟨(by show 2<=sizeLine; rw [sizeLine_eq]; decide),_,e,vX [b,a],at'⟩,rfl,q'⟩
 ·rw [if_neg c];have q':=q _ fr;rw [if_neg c] at q';obtain ⟨e,at'⟩:=sortedAll_at s.heap [.ref a,.ref b] [Value.ref a,Value.ref b].toArray;exact ⟨.ref (s.heap.objs.size + 1),_,I.laid (t':=s.toks) (a:=s.heap.objs.size + 1) (o:=.lst [.ref a,.ref b]) (λb ob q=>sortedAll_old q) (Nat.le_succ _) ⟨(by show 2<=sizeLine; rw [sizeLine_eq]; decide),_,e,vX [a,b],at'⟩,rfl,q'⟩
def tOrT (K:PySem.W.Frag) (ta tb:TE):TE:=λσ H Q=>ta σ H λx H1=>∃ k,TruV K x H1 k/\if k = true then Q x H1 else tb σ H1 Q
theorem zT5 {a b:Expr} {rest:List Expr} {pos:Pos} {ta tb:TE} (ha:PE X a ta) (hb:PE X (.BoolOp .Or (b :: rest) pos) tb):PE X (.BoolOp .Or (a :: b :: rest) pos) (tOrT X.K ta tb):=by
 intro pins s σ H Q I h;refine BoolOp_or (thn (ha pins s σ H _ I h) λv s1 ⟨x,H1,I1,r1,q1⟩=>?_);obtain ⟨k,tk,q1⟩:=q1;refine thn (zTk pins s1 σ H1 x v (λc H2=>H2 = H1/\c = k) I1 r1 ⟨k,tk,rfl,rfl⟩) λc s2 ⟨H2,I2,e,ec⟩=>?_;subst e ec;cases c with
 | false=>exact hb pins s2 σ H2 Q I2 q1
 | true=>exact ⟨x,H2,I2,r1,q1⟩
end
end L2

namespace Sea
open PySem L2
def Far (ss:List Sd) (g P:P3) (ws:List (Int × Int × Int)):Prop :=
 (∃ (i:Nat) (p q:Int) (s:Sd),ws = [((i:Int),p,q)]/\ss[i]? = some s/\0 < p/\0 < q/\p<=10 ^ 19/\q<=10 ^ 19/\Nat.gcd p.natAbs q.natAbs = 1/\p * s.2.1 = q * g.1/\p * s.2.2.1 = q * g.2.1/\sv s.2 P = 0) \/
 ∃ (i j:Nat) (p q p' q':Int) (s t:Sd),ws = [((i:Int),p,q),((j:Int),p',q')]/\i < j/\ss[i]? = some s/\ss[j]? = some t/\(0 < p/\0 < q/\p<=10 ^ 19/\q<=10 ^ 19/\Nat.gcd p.natAbs q.natAbs = 1)/\(0 < p'/\0 < q'/\p'<=10 ^ 19/\q'<=10 ^ 19/\Nat.gcd p'.natAbs q'.natAbs = 1) /\
  p * s.2.1 * q' + p' * t.2.1 * q = q * q' * g.1/\p * s.2.2.1 * q' + p' * t.2.2.1 * q = q * q' * g.2.1/\sv s.2 P = 0/\sv t.2 P = 0
theorem zPn (x:Int):zBa (-x) = zBa x:=by
 unfold zBa;split <;> split <;> omega
theorem zPe {s g:P3} (ht:tn s g = 0) (hd:0 < dt s g):yZ g.1 g.2.1 * s.1 = yZ s.1 s.2.1 * g.1/\yZ g.1 g.2.1 * s.2.1 = yZ s.1 s.2.1 * g.2.1:=by
 have cr:g.1 * s.2.1 = g.2.1 * s.1:=by
  unfold tn at ht;rw [Int.mul_comm g.1,Int.mul_comm g.2.1];rw [Int.mul_comm s.1,Int.mul_comm s.2.1] at ht;rw [Int.mul_comm s.2.1 g.1,Int.mul_comm s.1 g.2.1];omega
 have pr:0<=(g.1 * -s.1) * (g.2.1 * -s.2.1):=by
  have e0:(g.1 * -s.1) * (g.2.1 * -s.2.1) = (g.1 * s.2.1) * (g.2.1 * s.1):=by
   simp only [Int.mul_neg,Int.neg_mul,Int.neg_neg,Int.mul_comm,Int.mul_left_comm]
  rw [e0,<- cr];exact zTl _
 obtain ⟨o1,o2⟩:=zE7 (show g.1 * -s.1 + g.2.1 * -s.2.1 < 0 by
  unfold dt at hd;rw [Int.mul_neg,Int.mul_neg,Int.mul_comm g.1,Int.mul_comm g.2.1];omega) pr
 have cn:g.1 * -s.2.1 = g.2.1 * -s.1:=by rw [Int.mul_neg,Int.mul_neg,cr]
 have a1:=par (e1:=g.1) (e2:=g.1) (s1:=-s.1) (s2:=-s.1) rfl o1;have a2:=par (e1:=g.1) (e2:=g.2.1) (s1:=-s.1) (s2:=-s.2.1) cn o2;have a3:=par (e1:=g.2.1) (e2:=g.1) (s1:=-s.2.1) (s2:=-s.1) cn.symm o1;have a4:=par (e1:=g.2.1) (e2:=g.2.1) (s1:=-s.2.1) (s2:=-s.2.1) rfl o2;rw [zPn,Int.mul_neg] at a1 a2 a3 a4;unfold yZ;constructor
 ·rw [Int.add_mul,Int.add_mul];omega
 ·rw [Int.add_mul,Int.add_mul];omega
theorem zNa {x y k:Int} (hk:k≠0) (h:x * k = y * k):x = y:=Int.eq_of_mul_eq_mul_right hk h
theorem zFt {t b x y:Int} (pt:rP t b x y) (ht:0 < t) (hb:0 < b):0 < x/\0 < y:=by
 have hy:=pt.pos;refine ⟨?_,by omega⟩;have e:=pt.eq;have p:=Int.mul_pos (show 0 < y by omega) ht;rw [<- e] at p;exact uO p hb
theorem zRb {ss:List Sd} {g P:P3} {i:Nat} {s:Sd} {x y:Int} (gs:ss[i]? = some s) (ns:s.2.1≠0\/s.2.2.1≠0) (ng:g.1≠0\/g.2.1≠0) (ht:tn s.2 g = 0) (hd:0 < dt s.2 g) (pt:rP (yZ g.1 g.2.1) (yZ s.2.1 s.2.2.1) x y) (b1:yZ g.1 g.2.1<=10 ^ 19) (b2:yZ s.2.1 s.2.2.1<=10 ^ 19) (on:sv s.2 P = 0):Far ss g P [((i:Int),x,y)]:=by
 obtain ⟨e1,e2⟩:=zPe ht hd;have pS:=sP ns;have pG:=sP ng;obtain ⟨px,py⟩:=zFt pt pG pS;have xl:=pt.xle;have yl:=pt.yle;have e:=pt.eq;refine .inl ⟨i,x,y,s,rfl,gs,px,py,by omega,by omega,pt.low,?_,?_,on⟩
 ·refine zNa (k:=yZ s.2.1 s.2.2.1) (by omega) ?_;rw [Int.mul_right_comm,e,Int.mul_assoc,show yZ g.1 g.2.1 * s.2.1 = yZ s.2.1 s.2.2.1 * g.1 from e1,Int.mul_assoc,Int.mul_comm g.1]
 ·refine zNa (k:=yZ s.2.1 s.2.2.1) (by omega) ?_;rw [Int.mul_right_comm,e,Int.mul_assoc,show yZ g.1 g.2.1 * s.2.2.1 = yZ s.2.1 s.2.2.1 * g.2.1 from e2,Int.mul_assoc,Int.mul_comm g.2.1]
theorem zPl (s t g:P3):tn g t * s.1 + tn s g * t.1 = tn s t * g.1/\tn g t * s.2.1 + tn s g * t.2.1 = tn s t * g.2.1:=by
 unfold tn;constructor
 ·simp only [Int.sub_mul,Int.mul_sub,Int.mul_comm,Int.mul_left_comm];omega
 ·simp only [Int.sub_mul,Int.mul_sub,Int.mul_comm,Int.mul_left_comm];omega
theorem zLz {p q p' q' A B W a b c:Int} (hW:W≠0) (h1:p * W = q * A) (h2:p' * W = q' * B) (h:A * a + B * b = W * c):p * a * q' + p' * b * q = q * q' * c:=by
 refine zNa hW ?_;have e:(p * a * q' + p' * b * q) * W = p * W * (a * q') + p' * W * (b * q):=by
  simp only [Int.add_mul,Int.mul_add,Int.mul_comm,Int.mul_left_comm]
 rw [e,h1,h2];have e2:q * A * (a * q') + q' * B * (b * q) = q * q' * (A * a + B * b):=by
  simp only [Int.mul_add,Int.add_mul,Int.mul_comm,Int.mul_left_comm]
 rw [e2,h];simp only [Int.mul_comm,Int.mul_left_comm]
theorem zQ9 {ss:List Sd} {g P:P3} {i j:Nat} {s t:Sd} {p q p' q':Int} (gs:ss[i]? = some s) (gt:ss[j]? = some t) (hW:0 < tn s.2 t.2) (hA:0 < tn g t.2) (hB:0 < tn s.2 g) (p1:rP (tn g t.2) (tn s.2 t.2) p q) (p2:rP (tn s.2 g) (tn s.2 t.2) p' q')
  (bA:tn g t.2<=10 ^ 19) (bB:tn s.2 g<=10 ^ 19) (bW:tn s.2 t.2<=10 ^ 19) (o1:sv s.2 P = 0) (o2:sv t.2 P = 0) (hij:i≠j):Far ss g P (if j < i then [((j:Int),p',q'),((i:Int),p,q)] else [((i:Int),p,q),((j:Int),p',q')]):=by
 obtain ⟨c1,c2⟩:=zPl s.2 t.2 g;obtain ⟨a1,a2⟩:=zFt p1 hA hW;obtain ⟨a3,a4⟩:=zFt p2 hB hW;have x1:=p1.xle;have x2:=p1.yle;have x3:=p2.xle;have x4:=p2.yle;have k1:=zLz (show tn s.2 t.2≠0 by omega) p1.eq p2.eq c1;have k2:=zLz (show tn s.2 t.2≠0 by omega) p1.eq p2.eq c2;have w1:0 < p/\0 < q/\p<=10 ^ 19/\q<=10 ^ 19/\Nat.gcd p.natAbs q.natAbs = 1:=⟨a1,a2,by omega,by omega,p1.low⟩;have w2:0 < p'/\0 < q'/\p'<=10 ^ 19/\q'<=10 ^ 19/\Nat.gcd p'.natAbs q'.natAbs = 1:=⟨a3,a4,by omega,by omega,p2.low⟩;by_cases c:j < i
 ·rw [if_pos c];refine .inr ⟨j,i,p',q',p,q,t,s,rfl,c,gt,gs,w2,w1,?_,?_,o2,o1⟩
  ·rw [Int.mul_comm q' q];have z:p * s.2.1 * q' + p' * t.2.1 * q = q * q' * g.1:=k1;omega
  ·rw [Int.mul_comm q' q];have z:p * s.2.2.1 * q' + p' * t.2.2.1 * q = q * q' * g.2.1:=k2;omega
 ·rw [if_neg c];exact .inr ⟨i,j,p,q,p',q',s,t,rfl,by omega,gs,gt,w1,w2,k1,k2,o1,o2⟩
theorem zNq {a b c x y w:Int} (h:a * x + b * y - c * w = 0):a * x + b * y = c * w:=by omega
theorem zPx {t:P3} (h:t.1≠0\/t.2.1≠0) (b1:t.1.natAbs<=10 ^ 9) (b2:t.2.1.natAbs<=10 ^ 9) (b3:t.2.2.natAbs<=10 ^ 13):(pt3 (ftL t)).1.natAbs<=10 ^ 40/\(pt3 (ftL t)).2.1.natAbs<=10 ^ 40/\(pt3 (ftL t)).2.2.natAbs<=10 ^ 40:=by
 have hw:=wF h;obtain ⟨x,y,w,el,sp⟩:=zAv (X:=t.1 * t.2.2) (Y:=t.2.1 * t.2.2) (W:=t.1 * t.1 + t.2.1 * t.2.1) (by omega);have e1:ftL t = [x,y,w]:=el;rw [e1];have z1:=zG t.1 t.2.2 b1 b3;have z2:=zG t.2.1 t.2.2 b2 b3;have z3:=zG t.1 t.1 b1 b1;have z4:=zG t.2.1 t.2.1 b2 b2;have x1:=sp.xle;have x2:=sp.yle;have x3:=sp.wle;refine ⟨?_,?_,?_⟩
 ·show x.natAbs<=10 ^ 40;omega
 ·show y.natAbs<=10 ^ 40;omega
 ·show w.natAbs<=10 ^ 40;omega
theorem zLe.small {ss:List Sd} {P:P3} (c:zLe ss P) (sm:∀ t∈ss,(t.2.1≠0\/t.2.2.1≠0)/\t.2.1.natAbs<=10 ^ 9/\t.2.2.1.natAbs<=10 ^ 9/\t.2.2.2.natAbs<=10 ^ 13):P.1.natAbs<=10 ^ 40/\P.2.1.natAbs<=10 ^ 40/\P.2.2.natAbs<=10 ^ 40:=by
 rcases c with rfl | ⟨t,mt,rfl⟩ | ⟨t,mt,u,mu,h,rfl⟩
 ·exact ⟨by decide,by decide,by decide⟩
 ·obtain ⟨n,b1,b2,b3⟩:=sm t mt;exact zPx n b1 b2 b3
 ·obtain ⟨_,b1,b2,b3⟩:=sm t mt;obtain ⟨_,d1,d2,d3⟩:=sm u mu;exact zJd h b1 b2 b3 d1 d2 d3
end Sea

namespace Sea
open PySem L2
theorem Far.most {ss:List Sd} {g P:P3} {ws:List (Int × Int × Int)} (h:Far ss g P ws) {z:P3} (zw:0 < z.2.2) (pw:0 < P.2.2) (wz:inW ss z):(g.1 * z.1 + g.2.1 * z.2.1) * P.2.2<=(g.1 * P.1 + g.2.1 * P.2.1) * z.2.2:=by
 have fin:∀ {X Y k:Int},0 < k->X * k<=Y * k->X<=Y:=λhk h=>Int.le_of_mul_le_mul_right h hk;rcases h with ⟨i,p,q,s,rfl,gs,hp,hq,_,_,_,e1,e2,on⟩ | ⟨i,j,p,q,p',q',s,t,rfl,hij,gs,gt,⟨hp,hq,_⟩,⟨hp',hq',_⟩,e1,e2,o1,o2⟩
 ·refine fin hq ?_;have a1:(g.1 * z.1 + g.2.1 * z.2.1) * P.2.2 * q = p * (s.2.1 * z.1 + s.2.2.1 * z.2.1) * P.2.2:=by
   have z1:(g.1 * z.1 + g.2.1 * z.2.1) * P.2.2 * q = (q * g.1 * z.1 + q * g.2.1 * z.2.1) * P.2.2:=by
    simp only [Int.add_mul,Int.mul_add,Int.mul_comm,Int.mul_left_comm]
   rw [z1,<- e1,<- e2];simp only [Int.add_mul,Int.mul_add,Int.mul_comm,Int.mul_left_comm]
  have a2:(g.1 * P.1 + g.2.1 * P.2.1) * z.2.2 * q = p * (s.2.1 * P.1 + s.2.2.1 * P.2.1) * z.2.2:=by
   have z1:(g.1 * P.1 + g.2.1 * P.2.1) * z.2.2 * q = (q * g.1 * P.1 + q * g.2.1 * P.2.1) * z.2.2:=by
    simp only [Int.add_mul,Int.mul_add,Int.mul_comm,Int.mul_left_comm]
   rw [z1,<- e1,<- e2];simp only [Int.add_mul,Int.mul_add,Int.mul_comm,Int.mul_left_comm]
  have o:=zNq (show s.2.1 * P.1 + s.2.2.1 * P.2.1 - s.2.2.2 * P.2.2 = 0 from on);have wi:s.2.1 * z.1 + s.2.2.1 * z.2.1 - s.2.2.2 * z.2.2<=0:=wz s (List.mem_of_getElem? gs);rw [a1,a2,o];have b1:p * (s.2.1 * z.1 + s.2.2.1 * z.2.1) * P.2.2<=p * (s.2.2.2 * z.2.2) * P.2.2:=Int.mul_le_mul_of_nonneg_right (Int.mul_le_mul_of_nonneg_left (by omega) (Int.le_of_lt hp)) (Int.le_of_lt pw);refine Int.le_trans b1 (Int.le_of_eq ?_);simp only [Int.mul_comm,Int.mul_left_comm]
 ·refine fin (Int.mul_pos hq hq') ?_;have key:∀ v:P3,(g.1 * v.1 + g.2.1 * v.2.1) * (q * q') = p * q' * (s.2.1 * v.1 + s.2.2.1 * v.2.1) + p' * q * (t.2.1 * v.1 + t.2.2.1 * v.2.1):=λv=>by
   have z1:(g.1 * v.1 + g.2.1 * v.2.1) * (q * q') = (q * q' * g.1) * v.1 + (q * q' * g.2.1) * v.2.1:=by
    simp only [Int.add_mul,Int.mul_add,Int.mul_comm,Int.mul_left_comm]
   rw [z1,<- e1,<- e2];simp only [Int.add_mul,Int.mul_add,Int.mul_comm,Int.mul_left_comm];omega
  rw [Int.mul_right_comm,key z,Int.mul_right_comm (g.1 * P.1 + g.2.1 * P.2.1),key P];have oa:=zNq (show s.2.1 * P.1 + s.2.2.1 * P.2.1 - s.2.2.2 * P.2.2 = 0 from o1);have ob:=zNq (show t.2.1 * P.1 + t.2.2.1 * P.2.1 - t.2.2.2 * P.2.2 = 0 from o2);have wi:s.2.1 * z.1 + s.2.2.1 * z.2.1 - s.2.2.2 * z.2.2<=0:=wz s (List.mem_of_getElem? gs);have wj:t.2.1 * z.1 + t.2.2.1 * z.2.1 - t.2.2.2 * z.2.2<=0:=wz t (List.mem_of_getElem? gt);rw [oa,ob];have c1:=Int.mul_le_mul_of_nonneg_left (show s.2.1 * z.1 + s.2.2.1 * z.2.1<=s.2.2.2 * z.2.2 by omega) (Int.le_of_lt (Int.mul_pos hp hq'));have c2:=Int.mul_le_mul_of_nonneg_left (show t.2.1 * z.1 + t.2.2.1 * z.2.1<=t.2.2.2 * z.2.2 by omega) (Int.le_of_lt (Int.mul_pos hp' hq));have b1:=Int.mul_le_mul_of_nonneg_right (Int.add_le_add c1 c2) (Int.le_of_lt pw);refine Int.le_trans b1 (Int.le_of_eq ?_);simp only [Int.add_mul,Int.mul_add,Int.mul_comm,Int.mul_left_comm]
structure FarNums (x y m:Int) (P:P3):Prop where
 a1:(-x * P.2.2).natAbs<=10 ^ 60
 a2:(-y * P.2.2).natAbs<=10 ^ 60
 top:(x * P.1 + y * P.2.1).natAbs<=10 ^ 60
 t0:(-(x * P.1 + y * P.2.1)).natAbs<=10 ^ 60
 t1:(-(x * P.1 + y * P.2.1) - 1).natAbs<=10 ^ 60
 u1:(-x * P.2.2 * m).natAbs<=10 ^ 60
 u2:(-y * P.2.2 * m).natAbs<=10 ^ 60
 u3:(-(x * P.1 + y * P.2.1) * m - 1).natAbs<=10 ^ 60
 nw : -x * P.2.2≠0\/-y * P.2.2≠0
 nm : -x * P.2.2 * m≠0\/-y * P.2.2 * m≠0
 wd:P.2.2.natAbs<=10 ^ 60
end Sea

namespace L2
open PySem PySem.Spec PyProof.Rows

theorem vO {x:Str} : ∀ (names:List (Str × NameKind)) (n:Nat) (acc:List (Str × Addr)),((x,NameKind.cell)∈names\/∃ c,acc.lookup x = some c)->∃ c,(cellsFrom n names acc).lookup x = some c
 | [],_,_,h=>h.elim (λz=>nomatch z) id
 | (y,k) :: r,n,acc,h=>by
  unfold cellsFrom;by_cases hk:(k == NameKind.cell) = true
  ·rw [if_pos hk];refine vO r (n + 1) ((y,n) :: acc) ?_;cases hx:x == y with
   | true=>exact .inr ⟨n,by rw [List.lookup_cons,hx]⟩
   | false =>
    rcases h with h | ⟨c,h⟩
    ·rcases List.mem_cons.mp h with e | e
     ·injection e with e1 _
      subst e1;simp at hx
     ·exact .inl e
    ·exact .inr ⟨c,by rw [List.lookup_cons,hx]; exact h⟩
  ·rw [if_neg hk];refine vO r n acc ?_;rcases h with h | h
   ·rcases List.mem_cons.mp h with e | e
    ·injection e with _ e2
     subst e2;exact absurd rfl hk
    ·exact .inl e
   ·exact .inr h
theorem tO:∀ (names:List (Str × NameKind)) (h:Heap) (acc:List (Str × Addr)) (x:Str) (c:Addr),(cellsFrom h.objs.size names acc).lookup x = some c ->
  (h.objs.size<=c/\(pushCells h names).IsCell c none/\(x,NameKind.cell)∈names)\/acc.lookup x = some c
 | [],_,_,_,_,e=>.inr e
 | (y,k) :: r,h,acc,x,c,e=>by
  unfold cellsFrom at e;unfold pushCells;by_cases hk:(k == NameKind.cell) = true
  ·rw [if_pos hk] at e;rw [if_pos hk];have sz:(h.push { cls:=.type "cell", data:=.cell none }).objs.size = h.objs.size + 1:=Heap.size_push ..;rcases tO r (h.push { cls:=.type "cell", data:=.cell none }) ((y,h.objs.size) :: acc) x c (by rw [sz]; exact e) with ⟨a,b,m⟩ | e'
   ·exact .inl ⟨by rw [sz] at a; exact Nat.le_of_succ_le a,b,List.mem_cons_of_mem _ m⟩
   ·rw [List.lookup_cons] at e';cases hx:x == y with
    | true =>
     rw [hx] at e';have ec:h.objs.size = c:=Option.some.inj e';have ex:x = y:=by simpa using hx
     have ek:k = NameKind.cell:=by simpa using hk
     subst ec ex ek;exact .inl ⟨Nat.le_refl _,⟨_,pushCells_keeps r _ _ _ (Heap.get?_push_size _ rfl),rfl⟩,List.mem_cons_self⟩
    | false =>
     rw [hx] at e';exact .inr e'
  ·rw [if_neg hk] at e;rw [if_neg hk];rcases tO r h acc x c e with ⟨a,b,m⟩ | e'
   ·exact .inl ⟨a,b,List.mem_cons_of_mem _ m⟩
   ·exact .inr e'
theorem rA:∀ (names:List (Str × NameKind)) (n:Nat) (acc:List (Str × Addr)),(∀ x y c,acc.lookup x = some c->acc.lookup y = some c->x = y)->(∀ x c,acc.lookup x = some c->c < n) ->
  ∀ x y c,(cellsFrom n names acc).lookup x = some c->(cellsFrom n names acc).lookup y = some c->x = y
 | [],_,_,hi,_=>hi
 | (z,k) :: r,n,acc,hi,hl=>by
  unfold cellsFrom;by_cases hk:(k == NameKind.cell) = true
  ·rw [if_pos hk];refine rA r (n + 1) ((z,n) :: acc) (λx y c e1 e2=>?_) λx c e=>?_
   ·rw [List.lookup_cons] at e1 e2;cases hx:x == z with
    | true =>
     rw [hx] at e1;cases hy:y == z with
     | true=>rw [show x = z by simpa using hx,show y = z by simpa using hy]
     | false =>
      rw [hy] at e2;have:=hl y c e2;rw [<- Option.some.inj e1] at this;exact absurd this (Nat.lt_irrefl _)
    | false =>
     rw [hx] at e1;cases hy:y == z with
     | true =>
      rw [hy] at e2;have:=hl x c e1;rw [<- Option.some.inj e2] at this;exact absurd this (Nat.lt_irrefl _)
     | false =>
      rw [hy] at e2;exact hi x y c e1 e2
   ·rw [List.lookup_cons] at e;cases hx:x == z with
    | true=>rw [hx] at e; rw [<- Option.some.inj e]; exact Nat.lt_succ_self _
    | false=>rw [hx] at e; exact Nat.lt_succ_of_lt (hl x c e)
  ·rw [if_neg hk];exact rA r n acc hi hl
def zDn (scope:Scope) (x:Str):Bool:=scope.names.any λy=>y.1 == x && y.2 == .cell
structure OwnScope (X:Cx) (caps:List (Str × Nat)) (scope:Scope):Prop where
 kind:scope.kind = .function
 dis:(scope.names.all λx=>!(x.2 == .free) || !zDn scope x.1) = true
 loc:∀ y∈scope.names,y.2 = .local->scope.names.lookup y.1 = some .local
 clos:(scope.names.all λx=>!(x.2 == .free) || (X.env.cells.lookup x.1).isSome) = true
 cap:zFa X scope caps
section
variable {X:Cx} {T:List Str} {caps:List (Str × Nat)} {scope:Scope} {elt target iter:Expr} {ifs:List Expr} {pos cpos:Pos} {wi:TI} {g:CC->TG} {tt:CC->TT} {te:CC->TE}

def rEqE (K:PySem.W.Frag):R2:=λx y H Q=>∃ (a b:Addr) (rs:List Addr),x = .ref a/\y = .ref b/\SqL K H a (rs.map V.ref)/\SqL K H b []/\Q (.bl rs.isEmpty) H
theorem zSr (hu:X.A.units < cLine):OpR X (compareOp .Eq) (rEqE X.K):=by
 intro pins s σ H x y v u Q I rx ry h;obtain ⟨a,b,rs,rfl,rfl,h1,h2,q⟩:=h;cases rx;cases ry;obtain ⟨us,r1,p1,_⟩:=I.list h1;obtain ⟨ws,r2,p2,_⟩:=I.list h2;have e1:=rV r1;have e2:=xI.zero r2;subst e1 e2;cases rs with
 | nil =>
  refine SeqAt.RcAt.lists (e:=λ_=>true) p1.isList p2.isList rfl hu (λj g _=>absurd g (by simp)) X.prog X.w _ _ ?_;exact ⟨.bl true,H,I,rfl,q⟩
 | cons r rs =>
  refine SeqAt.RcAt.lists_lengths p1.isList p2.isList (by simp) hu X.prog X.w _ _ ?_;exact ⟨.bl false,H,I,rfl,q⟩
end
end L2

namespace Sea
open PySem L2
def InC (ss:List Sd) (x y:Int):Prop:=∀ t∈ss,t.2.1 * x + t.2.2.1 * y<=0
theorem zFm {ss:List Sd} {x y:Int} : vG ss x y = true↔InC ss x y:=by
 unfold vG InC;rw [List.all_eq_true];exact ⟨λh t ht=>of_decide_eq_true (h t ht),λh t ht=>decide_eq_true (h t ht)⟩
theorem rJ {p q:Int} (hp:0 < p) (h:p * q<=0):q<=0:=by
 refine Int.not_lt.mp λhq=>?_;have:=Int.mul_pos hp hq;omega
theorem qT {a b m n:Int} (h:a * m + b * n = 0) (u v:Int):(a * a + b * b) * (u * m + v * n) = (a * n - b * m) * (v * a - u * b):=by
 have e:(a * a + b * b) * (u * m + v * n) - (a * n - b * m) * (v * a - u * b) = (a * m + b * n) * (a * u + b * v):=by
  simp only [Int.mul_sub,Int.sub_mul,Int.add_mul,Int.mul_add,Int.mul_comm,Int.mul_left_comm,Int.mul_assoc];omega
 rw [h,Int.zero_mul] at e;omega
theorem zRs {a b:Int} (h:a≠0\/b≠0):0 < a * a + b * b:=zFf h
theorem zH1 {ss:List Sd} {t:Sd} {m n:Int} (nt:t.2.1≠0\/t.2.2.1≠0) (h:t.2.1 * m + t.2.2.1 * n = 0) (hm:m≠0\/n≠0) (hc:InC ss m n):InC ss (-t.2.2.1) t.2.1\/InC ss t.2.2.1 (-t.2.1):=by
 have pos:=zRs nt;have nl:t.2.1 * n - t.2.2.1 * m≠0:=λz=>by
  have e1:=qT h 1 0;have e2:=qT h 0 1;rw [z,Int.zero_mul (0 * t.2.1 - 1 * t.2.2.1)] at e1;rw [z,Int.zero_mul (1 * t.2.1 - 0 * t.2.2.1)] at e2;have f1:m = 0:=by
   rcases Int.mul_eq_zero.mp e1 with q | q
   ·omega
   ·omega
  have f2:n = 0:=by
   rcases Int.mul_eq_zero.mp e2 with q | q
   ·omega
   ·omega
  rcases hm with q | q
  ·exact q f1
  ·exact q f2
 rcases Int.lt_or_gt_of_ne nl with l | l
 ·refine .inr λu hu=>?_;have e:=qT h u.2.1 u.2.2.1;have hl:(t.2.1 * t.2.1 + t.2.2.1 * t.2.2.1) * (u.2.1 * m + u.2.2.1 * n)<=0:=Int.mul_nonpos_of_nonneg_of_nonpos (Int.le_of_lt pos) (hc u hu);rw [e] at hl;have e2:(t.2.1 * n - t.2.2.1 * m) * (u.2.2.1 * t.2.1 - u.2.1 * t.2.2.1) = (-(t.2.1 * n - t.2.2.1 * m)) * (u.2.1 * t.2.2.1 + u.2.2.1 * -t.2.1):=by
   rw [Int.neg_mul,<- Int.mul_neg]
   congr 1
   rw [Int.mul_neg];omega
  rw [e2] at hl;exact rJ (by omega) hl
 ·refine .inl λu hu=>?_;have e:=qT h u.2.1 u.2.2.1;have hl:(t.2.1 * t.2.1 + t.2.2.1 * t.2.2.1) * (u.2.1 * m + u.2.2.1 * n)<=0:=Int.mul_nonpos_of_nonneg_of_nonpos (Int.le_of_lt pos) (hc u hu);rw [e] at hl;have e2:u.2.2.1 * t.2.1 - u.2.1 * t.2.2.1 = u.2.1 * -t.2.2.1 + u.2.2.1 * t.2.1:=by
   rw [Int.mul_neg];omega
  rw [e2] at hl;exact rJ l hl
theorem zGg {t:Sd} : InC [t] (-t.2.2.1) t.2.1:=λu hu=>by
 rw [List.mem_singleton.mp hu];have:t.2.1 * -t.2.2.1 + t.2.2.1 * t.2.1 = 0:=by rw [Int.mul_neg,Int.mul_comm t.2.2.1]; omega
 omega
theorem InC.cons {s:Sd} {r:List Sd} {x y:Int} (h1:s.2.1 * x + s.2.2.1 * y<=0) (h2:InC r x y):InC (s :: r) x y:=λt ht=>by
 rcases List.mem_cons.mp ht with e | e
 ·rw [e]; exact h1
 ·exact h2 t e
theorem InC.tail {s:Sd} {r:List Sd} {x y:Int} (h:InC (s :: r) x y):InC r x y:=λt ht=>h t (List.mem_cons_of_mem _ ht)
theorem zEa {x y:Int} (hxy:x≠0\/y≠0):∀ {ss:List Sd},(∀ t∈ss,t.2.1≠0\/t.2.2.1≠0)->ss≠[]->InC ss x y->∃ t∈ss,InC ss (-t.2.2.1) t.2.1\/InC ss t.2.2.1 (-t.2.1)
 | [],_,h,_=>absurd rfl h
 | [t],_,_,_=>⟨t,List.mem_singleton.mpr rfl,.inl zGg⟩
 | s :: s2 :: r,hn,_,hd=>by
  obtain ⟨t,mt,ht⟩:=zEa hxy (ss:=s2 :: r) (λt mt=>hn t (List.mem_cons_of_mem _ mt)) (by simp) hd.tail;have mt':t∈s :: s2 :: r:=List.mem_cons_of_mem _ mt;have ns:=hn s List.mem_cons_self;have one:∀ f g:Int,InC (s2 :: r) f g->(InC (s :: s2 :: r) f g\/InC (s :: s2 :: r) (-f) (-g))\/∃ t∈s :: s2 :: r,InC (s :: s2 :: r) (-t.2.2.1) t.2.1\/InC (s :: s2 :: r) t.2.2.1 (-t.2.1):=λf g hf=>by
   by_cases hs:s.2.1 * f + s.2.2.1 * g<=0
   ·exact .inl (.inl (hf.cons hs))
   have hp:0 < s.2.1 * f + s.2.2.1 * g:=by omega
   have hsd:=hd s List.mem_cons_self;have eS:s.2.1 * ((s.2.1 * f + s.2.2.1 * g) * x - (s.2.1 * x + s.2.2.1 * y) * f) + s.2.2.1 * ((s.2.1 * f + s.2.2.1 * g) * y - (s.2.1 * x + s.2.2.1 * y) * g) = 0:=by
    simp only [Int.mul_sub,Int.add_mul,Int.mul_add,Int.mul_comm,Int.mul_left_comm,Int.mul_assoc];omega
   have hm:InC (s :: s2 :: r) ((s.2.1 * f + s.2.2.1 * g) * x - (s.2.1 * x + s.2.2.1 * y) * f) ((s.2.1 * f + s.2.2.1 * g) * y - (s.2.1 * x + s.2.2.1 * y) * g):=by
    refine InC.cons (Int.le_of_eq eS) λu hu=>?_;have e:u.2.1 * ((s.2.1 * f + s.2.2.1 * g) * x - (s.2.1 * x + s.2.2.1 * y) * f) + u.2.2.1 * ((s.2.1 * f + s.2.2.1 * g) * y - (s.2.1 * x + s.2.2.1 * y) * g)
      = (s.2.1 * f + s.2.2.1 * g) * (u.2.1 * x + u.2.2.1 * y) + (-(s.2.1 * x + s.2.2.1 * y)) * (u.2.1 * f + u.2.2.1 * g):=by
     simp only [Int.mul_sub,Int.add_mul,Int.mul_add,Int.neg_mul,Int.mul_neg,Int.neg_add,Int.mul_comm,Int.mul_left_comm,Int.mul_assoc];omega
    rw [e];have z1:=Int.mul_nonpos_of_nonneg_of_nonpos (Int.le_of_lt hp) (hd.tail u hu);have z2:=Int.mul_nonpos_of_nonneg_of_nonpos (a:=-(s.2.1 * x + s.2.2.1 * y)) (by omega) (hf u hu);omega
   by_cases hz:(s.2.1 * f + s.2.2.1 * g) * x - (s.2.1 * x + s.2.2.1 * y) * f = 0/\(s.2.1 * f + s.2.2.1 * g) * y - (s.2.1 * x + s.2.2.1 * y) * g = 0
   ·-- the other way of f
    refine .inl (.inr λu hu=>?_);have ne:s.2.1 * x + s.2.2.1 * y≠0:=λz=>by
     have h1:=hz.1;have h2:=hz.2;rw [z,Int.zero_mul,Int.sub_zero] at h1 h2;rcases hxy with q | q
     ·exact (Int.mul_eq_zero.mp h1).elim (λe=>by omega) q
     ·exact (Int.mul_eq_zero.mp h2).elim (λe=>by omega) q
    have lt:s.2.1 * x + s.2.2.1 * y < 0:=by omega
    have e:(-(s.2.1 * x + s.2.2.1 * y)) * (u.2.1 * -f + u.2.2.1 * -g) = (s.2.1 * f + s.2.2.1 * g) * (u.2.1 * x + u.2.2.1 * y):=by
     have a1:(s.2.1 * f + s.2.2.1 * g) * x = (s.2.1 * x + s.2.2.1 * y) * f:=by omega
     have a2:(s.2.1 * f + s.2.2.1 * g) * y = (s.2.1 * x + s.2.2.1 * y) * g:=by omega
     have b1:(s.2.1 * f + s.2.2.1 * g) * (u.2.1 * x + u.2.2.1 * y) = u.2.1 * ((s.2.1 * f + s.2.2.1 * g) * x) + u.2.2.1 * ((s.2.1 * f + s.2.2.1 * g) * y):=by
      rw [Int.mul_add,Int.mul_left_comm,Int.mul_left_comm (s.2.1 * f + s.2.2.1 * g) u.2.2.1]
     have b2:(-(s.2.1 * x + s.2.2.1 * y)) * (u.2.1 * -f + u.2.2.1 * -g) = u.2.1 * ((s.2.1 * x + s.2.2.1 * y) * f) + u.2.2.1 * ((s.2.1 * x + s.2.2.1 * y) * g):=by
      rw [Int.mul_neg,Int.mul_neg,<- Int.neg_add,Int.neg_mul_neg,Int.mul_add,Int.mul_left_comm,Int.mul_left_comm (s.2.1 * x + s.2.2.1 * y) u.2.2.1]
     rw [b1,b2,a1,a2]
    have z:=Int.mul_nonpos_of_nonneg_of_nonpos (Int.le_of_lt hp) (hd u hu);rw [<- e] at z;exact rJ (by omega) z
   ·refine .inr ⟨s,List.mem_cons_self,zH1 ns eS ?_ hm⟩;by_cases h1:(s.2.1 * f + s.2.2.1 * g) * x - (s.2.1 * x + s.2.2.1 * y) * f = 0
    ·exact .inr λh2=>hz ⟨h1,h2⟩
    ·exact .inl h1
  rcases ht with h | h
  ·rcases one _ _ h with (q | q) | q
   ·exact ⟨t,mt',.inl q⟩
   ·rw [Int.neg_neg] at q;exact ⟨t,mt',.inr q⟩
   ·exact q
  ·rcases one _ _ h with (q | q) | q
   ·exact ⟨t,mt',.inr q⟩
   ·rw [Int.neg_neg] at q;exact ⟨t,mt',.inl q⟩
   ·exact q
theorem zP4 {ss:List Sd} (hn:∀ t∈ss,t.2.1≠0\/t.2.2.1≠0) (ne:ss≠[]) (h:∀ k,¬ WK ss ss.length k) {x y:Int} (hxy:x≠0\/y≠0):vG ss x y = false:=by
 cases e:vG ss x y with
 | false=>rfl
 | true =>
  obtain ⟨t,mt,ht⟩:=zEa hxy hn ne (zFm.mp e);obtain ⟨j,hj,ej⟩:=List.getElem_of_mem mt;have gj:ss[j]? = some t:=by rw [List.getElem?_eq_getElem hj,ej]
  rcases ht with q | q
  ·exact absurd ⟨j,t,hj,gj,.inl ⟨rfl,zFm.mpr q⟩⟩ (h _)
  ·exact absurd ⟨j,t,hj,gj,.inr ⟨rfl,zFm.mpr q⟩⟩ (h _)
end Sea

namespace Sea
open PySem L2
theorem zCy {a b:Int} {m n:Nat} (h1:a.natAbs<=m) (h2:b.natAbs<=n):yZ a b<=((m + n:Nat):Int):=by
 unfold yZ zBa;split <;> split <;> omega
structure PIb (t:TE) (σ:St) (i:Int) (n:Nat):Prop where
 rd:∀ (H:Hp) (Q:VK),Q (.int i) H->t σ H Q
 le:i.natAbs<=n
abbrev zSy (xs:List (Addr × List Pr)):List V:=(xs.map (·.1)).map V.ref
structure Leads (G:Hp) (lo:Addr) (M:Nat) (xs:List (Addr × List Pr)):Prop where
 at':G lo = some (.lst (zSy xs))
 all:∀ u∈xs,u.1≠lo/\G u.1 = some (.lst (zA4 u.2))/\PrOk G M u.2
end Sea

namespace L2
open PySem PySem.Spec PyProof.Rows PySem.W
def cdO (c:Addr) (qual:Str):HO:=.ext λh=>h.CodeRec (.ref c) qual
def fnO (f:Addr) (name qual:Str) (params:Arguments) (body:List Stmt) (scope:Scope) (clos:List (Str × Addr)) (c':Addr):HO :=
 .ext λh=>∃ doc pm ctv,h.get? f = some (fnMade name qual params body scope clos doc pm c' ctv)
def zSb (P:Addr) (pos:Pos) (qual:Str) (H:Hp):Prop:=∃ ps:Array Value,H P = some (.tbl ps)/\TriplesOk ps.toList/\(codeAmong pos ps.toList = none\/∃ c',codeAmong pos ps.toList = some (.ref c')/\H c' = some (cdO c' qual))
structure zIf (base:Heap) (mg:Str->Option Value) (c P:Addr):Prop where
 code:CodeHd base c P
 blt:∃ bm ob,mg "__builtins__" = some (.ref bm)/\bm≠builtinsNs/\bm≠mainGlobals/\base.get? bm = some ob/\ob.cls = .type "module" /\ ob.dict = some builtinsNs/\ob.data = .plain
theorem zS7 {P:Program} {w:World} {H:Hp} {h:Heap} {c:Addr} {qual:Str} (r:h.CodeRec (.ref c) qual):vN P w H h c (cdO c qual):=by
 obtain ⟨c',o,vs,t,e,ho,hd,hv⟩:=id r;cases e;refine ⟨r,⟨o,ho⟩,λh1 h2 r1 k=>?_⟩;obtain ⟨_,o,vs,t,e,ho,hd,hv⟩:=r1;cases e;exact ⟨_,o,vs,t,rfl,k _ ho,hd,hv⟩
theorem zQj {P:Program} {w:World} {H:Hp} {h:Heap} {f c':Addr} {name qual:Str} {params:Arguments} {body:List Stmt} {scope:Scope} {clos:List (Str × Addr)} {doc pm ctv:Value} (e:h.get? f = some (fnMade name qual params body scope clos doc pm c' ctv)) :
  vN P w H h f (fnO f name qual params body scope clos c') :=
 ⟨⟨doc,pm,ctv,e⟩,⟨_,e⟩,λ_ _ ⟨d,p,v,e⟩ k=>⟨d,p,v,k _ e⟩⟩
def tDef (i:Nat) (P:Addr) (pos:Pos) (name qual:Str) (params:Arguments) (body:List Stmt) (scope:Scope) (clos:List (Str × Addr)):TS:=λD σ H=>zSb P pos qual H /\
 ∀ (f c':Addr) (H':Hp),H f = none->f≠P->H' f = some (fnO f name qual params body scope clos c')->H' c' = some (cdO c' qual)->zSb P pos qual H'->(∀ b o,b≠P->H b = some o->H' b = some o)->D.nx (σ.set i (some (.ref f))) H'
section
variable {X:Cx}
theorem zSs {i:Nat} {name:Str} {params:Arguments} {body:List Stmt} {scope:Scope} {pos:Pos} {c P:Addr} {clos:List (Str × Addr)} (N:zIf X.base X.mg c P) (hcd:X.env.code = .ref c) (hcl:closureFor scope X.env = pure clos)
  (hN:X.N.Nodup) (hi:X.N[i]? = some name) (hx:Loc X.env.scope name) (hd0:params.defaults = []:=by rfl) (hk0:params.kw_defaults = []:=by rfl) (ha:annTrees params none X.env = []:=by rfl)
  (hf:X.fn name = true\/X.env.scope.names.lookup name = some .local:=by first | exact .inl rfl | exact .inr rfl | assumption) :
  PS X (.FunctionDef name params body [] none [] scope none name pos) (tDef i P pos name (qualnameIn X.env name name) params body scope clos):=by
 intro pins s σ H D I h;obtain ⟨⟨ps,eP,tr,hc⟩,h⟩:=h;have hP:s.heap.get? P = some (tabObj ps):=I.hok P _ eP;have hns:s.heap.Ns mainGlobals X.mg:=I.ok.mod.glob.keeps I.bk;have hgP:mainGlobals≠P:=λz=>by
  obtain ⟨o,es,ep,e,d,_⟩:=id hns;rw [z,hP] at e;cases e;cases d
 have hb:s.heap.BuiltinsAt X.mg P:=by
  obtain ⟨bm,ob,b1,b2,b3,b4,b5,b6,b7⟩:=N.blt;refine ⟨bm,ob,b1,b2,b3,λz=>?_,I.bk _ _ b4,b5,b6,b7⟩;have e:=I.bk _ _ b4;rw [z,hP] at e;cases e;cases b5
 refine nestDef_K hd0 hk0 ha ?_;rcases hc with hn | ⟨c',hc',ec'⟩
 ·refine makeFunction_K (mg:=X.mg) hcl I.ok.glob hns hcd (N.code.keeps I.bk) hP tr hn hgP hb λc' ctv doc h' tk hx' hge hlt hrec htb=>?_
  let o:Obj:=fnMade name (qualnameIn X.env name name) params body scope clos doc ((X.mg "__name__").getD .none) c' ctv
  let ps2:=ps ++ #[rawInt pos.line,rawInt pos.col,.ref c']
  let H3:=upd (upd (upd H P (.tbl ps2)) c' (cdO c' (qualnameIn X.env name name))) h'.objs.size (fnO h'.objs.size name (qualnameIn X.env name name) params body scope clos c')
  have hPlt:P < s.heap.objs.size:=Heap.lt_size hP;have hcf:c'≠h'.objs.size:=Nat.ne_of_lt hlt;have nc:∀ b,b < s.heap.objs.size->b≠c':=λb hb=>Nat.ne_of_lt (Nat.lt_of_lt_of_le hb hge);have nf:∀ b,b < s.heap.objs.size->b≠h'.objs.size:=λb hb=>Nat.ne_of_lt (Nat.lt_of_lt_of_le hb (Nat.le_trans hge (Nat.le_of_lt hlt)));have ff:H h'.objs.size = none:=I.hok.fresh (Nat.le_trans hge (Nat.le_of_lt hlt));have fP:h'.objs.size≠P:=λz=>absurd hPlt (by rw [<- z]; exact Nat.not_lt_of_ge (Nat.le_trans hge (Nat.le_of_lt hlt)));have cP:c'≠P:=(nc P hPlt).symm;have up:∀ b,b < s.heap.objs.size->b≠P->H3 b = H b:=λb hb hbP=>by
   show upd (upd (upd H P _) c' _) h'.objs.size _ b = _;rw [zP (nf b hb),zP (nc b hb),zP hbP]
  have lt:∀ b u,H b = some u->b < s.heap.objs.size:=λb u e=>I.hok.lt e;have kp:∀ b u,b≠P->s.heap.get? b = some u->(h'.push o).get? b = some u:=λb u hb e=>Heap.get?_push_of_some _ (hx' b u hb e);have eP3:H3 P = some (.tbl ps2):=by
   show upd (upd (upd H P _) c' _) h'.objs.size _ P = _;rw [zP fP.symm,zP cP.symm,zB]
  have ec3:H3 c' = some (cdO c' (qualnameIn X.env name name)):=by
   show upd (upd (upd H P _) c' _) h'.objs.size _ c' = _;rw [zP hcf,zB]
  have ef3:H3 h'.objs.size = some (fnO h'.objs.size name (qualnameIn X.env name name) params body scope clos c'):=zB;have keep3:∀ b u,b≠P->H b = some u->H3 b = some u:=λb u hb e=>by rw [up b (lt b u e) hb]; exact e
  have I3:Inv X pins σ H3 { s with heap:=h'.push o,toks:=tk }:=by
   refine I.un (h':=h'.push o) (t':=tk) ⟨λb u e n _ _=>?_,λb u e n _ _=>?_,λb u e n _=>?_,λb u e _=>?_,λb xs e=>?_,λb u v e=>?_,λb qs e=>?_⟩ λa u e=>?_
   ·exact kp b u (λz=>by rw [z,eP] at n; cases n) e
   ·exact ⟨u.slots,kp b u (λz=>by rw [z,eP] at n; cases n) e⟩
   ·rw [up b (Heap.lt_size e) (λz=>by rw [z,eP] at n; cases n)]; exact n
   ·by_cases hb:b = P
    ·rw [hb]; exact ⟨_,Heap.get?_push_of_some _ htb⟩
    ·exact ⟨u,kp b u hb e⟩
   ·exact keep3 b _ (λz=>by rw [z,eP] at e; cases e) e
   ·exact keep3 b _ (λz=>by rw [z,eP] at e; cases e) e
   ·by_cases hb:b = P
    ·rw [hb,eP] at e;cases e;exact ⟨_,by rw [hb]; exact eP3⟩
    ·exact ⟨#[],by rw [keep3 b _ hb e]; simp⟩
   ·by_cases h1:a = h'.objs.size
    ·rw [h1,ef3] at e;cases e;rw [h1];exact zQj (Heap.get?_push_size _ rfl)
    ·by_cases h2:a = c'
     ·rw [h2,ec3] at e;cases e;rw [h2];obtain ⟨d,ob,vs,t,e1,ho,r⟩:=hrec;cases e1;exact zS7 ⟨_,ob,vs,t,rfl,Heap.get?_push_of_some _ ho,r⟩
     ·by_cases h3:a = P
      ·rw [h3,eP3] at e;cases e;rw [h3];exact Heap.get?_push_of_some _ htb
      ·have e':H a = some u:=by
        have z:upd (upd (upd H P (.tbl ps2)) c' (cdO c' (qualnameIn X.env name name))) h'.objs.size (fnO h'.objs.size name (qualnameIn X.env name name) params body scope clos c') a = some u:=e;rwa [zP h1,zP h2,zP h3] at z
       refine (I.hok a u e').stay (λb v hb q=>kp b v (λz=>?_) q) (λb q=>keep3 b _ (λz=>by rw [z,eP] at q; cases q) q) λb xs q=>keep3 b _ (λz=>by rw [z,eP] at q; cases q) q;rcases hb with hb | hb
       ·exact h3 (by rw [<- hb]; exact z)
       ·rw [z,eP] at hb; cases hb
  refine zAx I3 hN hi hx (v:=.ref h'.objs.size) rfl (λs' I'=>⟨_,_,I',h _ c' H3 ff fP ef3 ec3 ⟨ps2,eP3,?_,.inr ⟨c',?_,ec3⟩⟩ keep3⟩) hf
  ·show TriplesOk (ps ++ #[rawInt pos.line,rawInt pos.col,.ref c']).toList;rw [Array.toList_append];exact TriplesOk_snoc _ _ _ _ tr
  ·show codeAmong pos (ps ++ #[rawInt pos.line,rawInt pos.col,.ref c']).toList = _;rw [Array.toList_append];exact codeAmong_snoc _ tr hn
 ·refine makeFunction_hit (mg:=X.mg) hcl I.ok.glob hns hcd (N.code.keeps I.bk) hP tr hc' hb λctv doc h' tk hk hsz=>?_;have ff:H h'.objs.size = none:=I.hok.fresh hsz;have fP:h'.objs.size≠P:=λz=>absurd (Heap.lt_size hP) (by rw [<- z]; exact Nat.not_lt_of_ge hsz);have keep3:∀ b u,b≠P->H b = some u->upd H h'.objs.size (fnO h'.objs.size name (qualnameIn X.env name name) params body scope clos c') b = some u:=λb u _ e=>by rw [zP (yE e ff)]; exact e
  have I3:=I.laid (a:=h'.objs.size) (o:=fnO h'.objs.size name (qualnameIn X.env name name) params body scope clos c') (t':=tk) (h':=h'.push (fnMade name (qualnameIn X.env name name) params body scope clos doc ((X.mg "__name__").getD .none) c' ctv))
   (λb u e=>Heap.get?_push_of_some _ (hk b u e)) hsz (zQj (Heap.get?_push_size _ rfl))
  refine zAx I3 hN hi hx (v:=.ref h'.objs.size) rfl (λs' I'=>⟨_,_,I',h _ c' _ ff fP zB ?_ ⟨ps,?_,tr,.inr ⟨c',hc',?_⟩⟩ keep3⟩) hf
  ·rw [zP (yE ec' ff)]; exact ec'
  ·rw [zP fP.symm]; exact eP
  ·rw [zP (yE ec' ff)]; exact ec'
end
structure zAu (N:List Str) (x y:Str) (j:Nat) (sc:Scope):Prop where
 kind:sc.kind = .function
 co:sc.isCoroutine = false
 gen:sc.isGenerator = false
 nd:N.Nodup
 par:N[0]? = some x
 loc:sc.names.lookup x = some .local
 cap:N[j]? = some y
 fr:sc.names.lookup y = some .free
 own:zDn sc y = false
 only:(sc.names.all λz=>!(z.2 == .free) || z.1 == y) = true
def zEy (CX:CXT) (P:Program) (w:World) (K:PySem.W.Frag) (mg:Str->Option Value) (base:Heap) (N:List Str) (qual:Str) (scope:Scope) (f:Addr) (cd:Value) (clos:List (Str × Addr)) (A:Around) (outer:List Env) (s:Shared) (H:Hp) (E:XK):Cx where
 prog:=P
 w:=w
 K:=K
 mg:=mg
 base:=base
 A:=A.deeper (envX qual scope s.heap.objs.size f cd (cellsFrom (s.heap.objs.size + 1) scope.names clos))
 N:=N
 s₀:=s
 H₀:=H
 env:=envX qual scope s.heap.objs.size f cd (cellsFrom (s.heap.objs.size + 1) scope.names clos)
 outer:=outer
 stack:=envX qual scope s.heap.objs.size f cd (cellsFrom (s.heap.objs.size + 1) scope.names clos) :: outer
 ex:=[]
 calm:=true
 fn:=zDn scope
 pn:=[]
 xe:=λe s'=>wpAny (model P w) (A.deeper (envX qual scope s.heap.objs.size f cd (cellsFrom (s.heap.objs.size + 1) scope.names clos))) (leaving (envX qual scope s.heap.objs.size f cd (cellsFrom (s.heap.objs.size + 1) scope.names clos)) e) (λ_ s''=>CX outer H s E e s'') (λe' s''=>CX outer H s E e' s'') s'
def zHn (N:List Str) (j:Nat) (v:V):St:=(List.replicate N.length none).set j (some v)
theorem zK6 {CX:CXT} {P:Program} {w:World} {K:PySem.W.Frag} {mg:Str->Option Value} {base:Heap} {N:List Str} {qual x y:Str} {j:Nat} {scope:Scope} {f cc:Addr} {cd u:Value} {v:V} {A:Around} {outer:List Env} {s:Shared} {H:Hp} {E:XK}
  (S:zAu N x y j scope) (hd:A.handled = none) (e0:zOp P w K mg base A outer s H) (hc:s.heap.IsCell cc (some u)) (hH:H cc = none) (rv:uN v u) :
  Inv (zEy CX P w K mg base N qual scope f cd [(y,cc)] A outer s H E) [] (zHn N j v) H { s with heap:=pushCells (s.heap.push { cls:=.type "frame", data:=.dict #[] }) scope.names }:=by
 have sz:(s.heap.push { cls:=.type "frame", data:=.dict #[] }).objs.size = s.heap.objs.size + 1:=Heap.size_push ..;have cs:∀ (z:Str) (c:Addr),List.lookup z [(y,cc)] = some c->z = y/\c = cc:=λz c e=>by
  rw [List.lookup_cons] at e;cases hz:z == y with
  | true=>rw [hz] at e; exact ⟨by simpa using hz,(Option.some.inj e).symm⟩
  | false=>rw [hz] at e; cases e
 have old:∀ b o,s.heap.get? b = some o->(pushCells (s.heap.push { cls:=.type "frame", data:=.dict #[] }) scope.names).get? b = some o:=λb o e=>pushCells_keeps _ _ b o (Heap.get?_push_of_some _ e);have ltc:cc < s.heap.objs.size:=hc.lt;have ey:(cellsFrom (s.heap.objs.size + 1) scope.names [(y,cc)]).lookup y = some cc:=by
  obtain ⟨d,hd'⟩:=vO (x:=y) scope.names (s.heap.objs.size + 1) [(y,cc)] (.inr ⟨cc,by simp⟩);rcases tO scope.names (s.heap.push { cls:=.type "frame", data:=.dict #[] }) [(y,cc)] y d (by rw [sz]; exact hd') with ⟨_,_,m⟩ | z
  ·have h2:zDn scope y = true:=List.any_eq_true.mpr ⟨_,m,by simp⟩;rw [S.own] at h2;cases h2
  ·rw [hd',(cs y d z).2]
 have both:∀ z c,(cellsFrom (s.heap.objs.size + 1) scope.names [(y,cc)]).lookup z = some c ->
   (s.heap.objs.size + 1<=c/\(pushCells (s.heap.push { cls:=.type "frame", data:=.dict #[] }) scope.names).IsCell c none/\(z,NameKind.cell)∈scope.names)\/(z = y/\c = cc):=λz c e=>by
  rcases tO scope.names (s.heap.push { cls:=.type "frame", data:=.dict #[] }) [(y,cc)] z c (by rw [sz]; exact e) with q | q
  ·rw [sz] at q; exact .inl q
  ·exact .inr (cs z c q)
 have hn:(pushCells (s.heap.push { cls:=.type "frame", data:=.dict #[] }) scope.names).Ns s.heap.objs.size (λ_=>none):=(Heap.Ns.new s.heap (.type "frame")).keeps (pushCells_keeps _ _);have noA:∀ b:Addr,b ∉ (zEy CX P w K mg base N qual scope f cd [(y,cc)] A outer s H E).ex:=λb z=>absurd (show b∈([]:List Addr) from z) (by simp);have hjN:j < N.length:=(List.getElem?_eq_some_iff.mp S.cap).1;refine ⟨⟨e0.mod,S.kind,rfl,rfl,Nat.le_refl _,rA scope.names _ _ (λa b c e1 e2=>by rw [(cs a c e1).1,(cs b c e2).1]) (λa c e=>by rw [(cs a c e).2]; exact Nat.lt_succ_of_lt ltc),λz hz=>?_,λz c hf e=>?_,λ_=>hd,Around.frames_deeper e0.frames,.inr ⟨rfl,rfl⟩,λb z=>absurd z (noA b),e0.bs,e0.bsz,λb _ _=>noA b,λb z=>absurd z (noA b),e0.funs,e0.frf⟩,
  rfl,e0.bare,Un.kept old,⟨_,hn,λi z v' h1 h2 h3=>?_⟩,λz c e=>?_,e0.hok.fresh (Nat.le_refl _),λz c e=>?_,λp hp=>absurd (show p∈([]:List (Addr × Obj)) from hp) (by simp),e0.hok.kept old,?_⟩
 ·have hz:scope.names.lookup z = some .cell\/scope.names.lookup z = some .free:=hz;rcases hz with hz | hz
  ·exact vO scope.names _ _ (.inl (PySem.mem_of_lookup hz))
  ·have h:=List.all_eq_true.mp S.only _ (PySem.mem_of_lookup hz);have ezy:z = y:=by simpa using h
   rw [ezy];exact ⟨cc,ey⟩
 ·rcases both z c e with ⟨a,_,_⟩ | ⟨e1,_⟩
  ·exact Nat.le_of_succ_le a
  ·have h2:zDn scope z = true:=hf;rw [e1,S.own] at h2;cases h2
 ·unfold zHn at h2;by_cases hij:j = i
  ·subst hij;rw [List.getElem?_set_self (by rw [List.length_replicate]; exact hjN)] at h2;cases h2;have ez:z = y:=by
    have h1':N[j]? = some z:=h1;rw [S.cap] at h1';exact (Option.some.inj h1').symm
   subst ez;obtain ⟨o,ho,hdo⟩:=hc;exact ⟨u,rv,.inr ⟨.inr S.fr,cc,ey,o,old cc o ho,hdo⟩⟩
  ·rw [List.getElem?_set_ne hij,List.getElem?_replicate] at h2;split at h2 <;> cases h2
 ·rcases both z c e with ⟨_,q,_⟩ | ⟨_,e1⟩
  ·exact ⟨none,q⟩
  ·obtain ⟨o,ho,hdo⟩:=hc;rw [e1];exact ⟨_,o,old cc o ho,hdo⟩
 ·rcases both z c e with ⟨a,_,_⟩ | ⟨_,e1⟩
  ·exact e0.hok.fresh (Nat.le_of_succ_le a)
  ·rw [e1]; exact hH
 ·unfold zHn;rw [List.length_set,List.length_replicate];rfl
theorem zPy {CX:CXT} {P:Program} {w:World} {K:PySem.W.Frag} {mg:Str->Option Value} {base:Heap} {k:Nat} {N:List Str} {name qual x y:Str} {j:Nat} {params:Arguments} {body:List Stmt} {scope:Scope} {f cc c':Addr} {uc u:Value} {vc v:V} {A:Around} {outer:List Env} {s:Shared} {H:Hp} {Q:VK} {E:XK}
  (S:zAu N x y j scope) (hr:Room (k + 1) A) (e0:zOp P w K mg base A outer s H) (hc:s.heap.IsCell cc (some uc)) (hH:H cc = none) (rvc:uN vc uc) (rv:uN v u)
  (ef:H f = some (fnO f name qual params body scope [(y,cc)] c')) (ec:H c' = some (cdO c' qual))
  (hbind:∀ doc pm ctv,bindArgs (fnX name qual params body scope [(y,cc)] .none .none doc pm none (.ref c') ctv) ⟨[u],[]⟩ = pure [(x,u)])
  (hbody:Room k (A.deeper (envX qual scope s.heap.objs.size f (.ref c') (cellsFrom (s.heap.objs.size + 1) scope.names [(y,cc)]))) ->
   ∃ t,PSs (zEy CX P w K mg base N qual scope f (.ref c') [(y,cc)] A outer s H E) body t/\t { nx:=λ_ H'=>Q .non H',rt:=Q } ((zHn N j vc).set 0 (some v)) H) :
  codeAny (model P w) A (.call (.ref f) ⟨[u],[]⟩) (CR CX outer P w H s Q E) s:=by
 obtain ⟨⟨doc,pm,ctv,hfo⟩,_⟩:=e0.hok f _ ef;obtain ⟨hrec,_⟩:=e0.hok c' _ ec;refine codeAny_call_function hr.depth hfo rfl S.co S.gen rfl hrec ?_;rw [hbind];refine wpAny_pure ?_;simp only [newFunctionEnv,Option.isSome_none,Bool.false_eq_true,if_false];refine wpAny_bind (wpAny_alloc ?_);refine wpAny_bind (wpAny_layCells _ (λname kind cells=>by cases hkc:kind == NameKind.cell <;> simp [hkc]) _ _ _ _ ?_);rw [show ({ s with heap:=s.heap.push { cls:=.type "frame", data:=.dict #[] } } : Shared).heap.objs.size = s.heap.objs.size + 1 from Heap.size_push ..];have I0:=zK6 (CX:=CX) (qual:=qual) (f:=f) (cd:=.ref c') (E:=E) S hr.hd e0 hc hH rvc;rw [List.forIn_cons];refine wpAny_bind (wpAny_bind (wpAny_bind ?_));refine zAx (X:=zEy CX P w K mg base N qual scope f (.ref c') [(y,cc)] A outer s H E) I0 S.nd S.par (.inl S.loc) rv (λs1 I1=>wpAny_pure ?_) (.inr S.loc);dsimp only;rw [List.forIn_nil];refine wpAny_pure (wpAny_pure ⟨I1.nolimit,codeAny_func ?_⟩);obtain ⟨t,ht,hq⟩:=hbody (hr.deeper _);refine wpAny_mono (ht [] s1 _ H _ I1 hq) (λfl s' hs=>?_) λe s' hs=>hs;have fin:∀ {σ':St} {H':Hp} {v:V} {u:Value},Inv (zEy CX P w K mg base N qual scope f (.ref c') [(y,cc)] A outer s H E) [] σ' H' s'->uN v u->Q v H'->CE outer P w H s Q u s' :=
  λ{σ' H' v u} J rv q=>⟨v,H',J.os,J.bare,J.base,J.hok,rv,q⟩
 cases fl with
 | ret u =>
  obtain ⟨v,σ',H',J,rv,q⟩:=hs;exact fin J rv q
 | next =>
  obtain ⟨σ',H',J,q⟩:=hs;exact fin (v:=V.non) (u:=Value.none) J rfl q
 | brk =>
  obtain ⟨_,_,_,q⟩:=hs;exact False.elim q
 | cont =>
  obtain ⟨_,_,_,q⟩:=hs;exact False.elim q
end L2
namespace PySem.W
open PySem PySem.Calls PyProof.Rows
section
variable {prog:Program} {w:World} {A:Around} {E:Value->Shared->Prop} {s:Shared} {a kS:Addr} {vs:List Value} {kz:List Int} {keys:Array Value} {e e1:Nat} {P:PySem.Fin->Shared->Prop}
theorem zE0 {st:SortSt} (hoK:s.heap.get? kS = some (seqObj "list" keys e)) (hoA:s.heap.get? a = some (seqObj "list" #[] e1)) (hka:kS≠a)
  (hk:IntsAre keys.toList kz) (hlen:kz.length = vs.length) (h64:vs.length < 64) (hp:(arrOf st).Perm (keys.zip vs.toArray)) (hs:SortedTo (arrOf st) (arrOf st).size) (hfl:failedOf st = none)
  (h:∀ out:Array Value,out.size = vs.length->KskOut false kz vs out.toList->P (.done (.ret .none)) { s with heap:=(s.heap.update kS (Obj.mapSeq λ_=>#[])).update a (Obj.mapSeq λ_=>out) }) :
  wpAny (model prog w) A (ksk_tail a false e1 (.ref kS) st) P E s:=by
 have hsz:keys.size = vs.length:=by
  have h1:=hk.length;rw [Array.length_toList] at h1;omega
 have hsz2:((arrOf st).map (·.2)).size = vs.length:=by rw [Array.size_map,hp.size_eq,Array.size_zip,hsz,List.size_toArray,Nat.min_self]
 have s1:=Heap.SameBut.update s.heap kS (Obj.mapSeq λ_=>(#[]:Array Value));have na1:(s.heap.update kS (Obj.mapSeq λ_=>(#[]:Array Value))).get? a = some (seqObj "list" #[] e1):=(s1.2 a hka.symm).trans hoA;unfold ksk_tail
 try dsimp only
 refine wpAny_bind (listUpdate_at hoK rfl ?_ (by rw [hsz,sizeLine_eq]; omega) (Nat.zero_le _));refine wpAny_bind (wpAny_letGo ?_);refine wpAny_bind (seqEpoch_at na1 rfl ?_);refine wpAny_bind (listUpdate_at na1 rfl ?_ (Nat.zero_le _) (Nat.le_trans (Nat.le_of_eq hsz2) (by rw [sizeLine_eq]; omega)));rw [hfl];simp only [bne_self_eq_false,Bool.false_eq_true,if_false];refine wpAny_pure (h _ hsz2 ?_);have z:=ksk_out (b:=false) hk hp hs;simpa using z
theorem zMu (hoK:s.heap.get? kS = some (seqObj "list" keys e)) (hoA:s.heap.get? a = some (seqObj "list" #[] e1)) (hka:kS≠a)
  (hk:IntsAre keys.toList kz) (hlen:kz.length = vs.length) (h64:vs.length < 64)
  (h:∀ out:Array Value,out.size = vs.length->KskOut false kz vs out.toList->P (.done (.ret .none)) { s with heap:=(s.heap.update kS (Obj.mapSeq λ_=>#[])).update a (Obj.mapSeq λ_=>out) }) :
  wpAny (model prog w) A (ksk_end a false vs.toArray e1 (.ref kS) keys) P E s:=by
 have hsz:keys.size = vs.length:=by
  have h1:=hk.length;rw [Array.length_toList] at h1;omega
 have hzs:(keys.zip vs.toArray).size = vs.length:=by rw [Array.size_zip,hsz,List.size_toArray,Nat.min_self]
 unfold ksk_end;simp only [Bool.false_eq_true,if_false];by_cases h2:vs.toArray.size < 2
 ·rw [if_pos h2,if_pos h2];refine wpAny_bind (wpAny_pure ?_);rw [StateT.run_pure];refine wpAny_bind (wpAny_pure ?_)
  try dsimp only
  refine zE0 (st:=SortSt.mk' general' (keys.zip vs.toArray) #[] 7 none) hoK hoA hka hk hlen h64 (Array.Perm.refl _) ?_ rfl h;intro i j hij hj;have hj2:j < (keys.zip vs.toArray).size:=hj;rw [hzs] at hj2;rw [List.size_toArray] at h2;have:i = j:=by omega
  subst this;exact Int.le_refl _
 ·rw [if_neg h2,if_neg h2];rw [List.size_toArray] at h2;rw [ksk_kind hk (by rw [hsz]; omega)];refine wpAny_bind (wpAny_pure ?_);refine wpAny_bind (wpAny_mono (wpS_sortRuns (a₀:=keys.zip vs.toArray) (st:=SortSt.mk' oneType' (keys.zip vs.toArray) #[] 7 none)
   (Q:=λ_ st'=>(arrOf st').Perm (keys.zip vs.toArray)/\failedOf st' = none/\SortedTo (arrOf st') (keys.zip vs.toArray).size)
   (ksk_intKeys hk) ⟨Array.Perm.refl _,rfl,rfl,rfl⟩ (by rw [hzs]; omega) (by rw [hzs]; exact h64) λst' a1 a2 a3=>⟨a1,a2,a3⟩) ?_ λ_ _ e=>e)
  rintro ⟨⟨⟩,st'⟩ s' ⟨rfl,hp,hf,hs⟩
  try dsimp only
  exact zE0 hoK hoA hka hk hlen h64 hp (by rw [hp.size_eq]; exact hs) hf h
end
end PySem.W
namespace L2
open PySem PySem.Spec PyProof.Rows PySem.W
theorem zQo {rs:List Addr} {key:Addr->Int} {out:List Value} (h:KskOut false (rs.map key) (rs.map Value.ref) out):∃ us:List Addr,us.Perm rs/\us.Pairwise (λa b=>key a<=key b)/\out = us.map Value.ref:=by
 obtain ⟨ps,hp,rfl,hs⟩:=h;have ez:(rs.map key).zip (rs.map Value.ref) = rs.map λr=>(key r,Value.ref r):=by
  rw [List.zip_map,List.zip_eq_zipWith,List.zipWith_self,List.map_map];exact List.map_congr_left λ_ _=>rfl
 rw [ez] at hp
 let back:Value->Addr:=λv=>match v with | .ref a=>a | _=>0
 have eb:∀ p∈ps,p = (key (back p.2),Value.ref (back p.2)):=λp hpp=>by
  obtain ⟨r,_,rfl⟩:=List.mem_map.mp (hp.mem_iff.mp hpp);rfl
 refine ⟨ps.map λp=>back p.2,?_,?_,?_⟩
 ·have z:=hp.map λp=>back p.2;rw [List.map_map] at z;have e2:rs.map ((λp:Int × Value=>back p.2) ∘ λr=>(key r,Value.ref r)) = rs:=by
   refine Eq.trans (List.map_congr_left λr _=>?_) (List.map_id rs);rfl
  rw [e2] at z;exact z
 ·rw [List.pairwise_map];refine hs.imp_of_mem λ{p q} hpp hq hr=>?_;have hr':p.1<=q.1:=by simpa using hr
  have e1:p.1 = key (back p.2):=congrArg Prod.fst (eb p hpp);have e2:q.1 = key (back q.2):=congrArg Prod.fst (eb q hq);rw [<- e1,<- e2];exact hr'
 ·rw [List.map_map];exact List.map_congr_left λp hpp=>congrArg Prod.snd (eb p hpp)
section
variable {X:Cx}
theorem zKh {pins:List (Addr × Obj)} {σ:St} {H:Hp} {s:Shared} {l f:Addr} {rs:List Addr} {key:Addr->Int} {Q:VK} (I:Inv X pins σ H s) (hl:SqL X.K H l (rs.map V.ref)) (h64:rs.length < 64)
  (turn:∀ r∈rs,∀ (pins':List (Addr × Obj)) (H1:Hp) (s1:Shared),yG H H1->Inv X pins' σ H1 s1->wpAny (model X.prog X.w) X.A.in1.in1 (call (.ref f) [.ref r]) (λu s2=>∃ t H2,u = .int (key r) t/\Inv X pins' σ H2 s2/\yG H1 H2) (λ_ _=>False) s1)
  (q:∀ (p:Addr) (us:List Addr) (H':Hp),H p = none->yG H H'->H' p = some (.lst (us.map V.ref))->us.Perm rs->us.Pairwise (λa b=>key a<=key b)->Q (.ref p) H') :
  wpAny (model X.prog X.w) X.A (call (.builtin "sorted") [.ref l] [(Str.ofString "key", .ref f)]) (EP X pins σ Q) X.xe s:=by
 obtain ⟨its,rv,pl,hz⟩:=I.list hl;have ei:=rV rv;subst ei;have hlenV:(rs.map Value.ref).length = rs.length:=List.length_map ..;refine call_function_entry_kw kind_sorted plain_sorted entry_sorted (ksk_s1 _ _) ?_;unfold Builtin.«sorted»;refine wpAny_bind (m:=checkCount "sorted" 1 1 _) (wpAny_pure ?_);refine wpAny_bind (collect_list pl.isList ?_ (by rw [hlenV,sizeLine_eq]; omega));refine wpAny_bind (wpAny_newList ?_ (by rw [hlenV,sizeLine_eq]; omega));have hsz:((s.heap.push (seqObj "list" #[] 0)).update s.heap.objs.size (Obj.mapSeq (· ++ (rs.map Value.ref).toArray))).objs.size = s.heap.objs.size + 1:=by
  rw [Heap.size_update,size_push']
 have hoL:(xQ s.heap (rs.map Value.ref)).get? (s.heap.objs.size + 1) = some (seqObj "list" (rs.map Value.ref).toArray 0):=by
  unfold xQ;rw [<- hsz]; exact Heap.get?_push_size _ rfl
 show wpAny _ _ _ _ _ { s with heap:=xQ s.heap (rs.map Value.ref) };rw [hsz];refine wpAny_bind (wpAny_holding (wpAny_call_entry_kw slot_list_sort ⟨_,hoL,rfl⟩ entry_list_sort ?body (ksk_l1 _ _)))
 case body =>
 show wpAny (model X.prog X.w) X.A.in1.in1 (Builtin.«list.sort» ⟨[.ref (s.heap.objs.size + 1)],[(Str.ofString "key", .ref f)]⟩) _ _ _;rw [ksk_t1];obtain ⟨e1,ho1⟩:∃ e1,((xQ s.heap (rs.map Value.ref)).update (s.heap.objs.size + 1) (Obj.mapSeq λ_=>(#[]:Array Value))).get? (s.heap.objs.size + 1) = some (seqObj "list" #[] e1):=⟨_,get?_update_seq hoL λ_=>#[]⟩;unfold ksk_tree;refine wpAny_bind (listItems_at hoL rfl ?_);refine wpAny_bind (listUpdate_at hoL rfl ?_ (by rw [List.size_toArray,hlenV,sizeLine_eq]; omega) (Nat.zero_le _));refine wpAny_bind (seqEpoch_at ho1 rfl ?_);refine wpAny_bind (wpAny_newTuple ?_ (by show (rs.map Value.ref).length<=_; rw [hlenV,sizeLine_eq]; omega));refine wpAny_bind (wpAny_newList ?_ (Nat.zero_le _));refine wpAny_holding ?_;dsimp only;generalize hh1:((xQ s.heap (rs.map Value.ref)).update (s.heap.objs.size + 1) (Obj.mapSeq λ_=>(#[]:Array Value))).push (seqObj "tuple" (rs.map Value.ref).toArray 0) = h1;have keep1:∀ b o,s.heap.get? b = some o->h1.get? b = some o:=λb o e=>by
  have hlt:b < s.heap.objs.size:=Heap.lt_size e;rw [<- hh1];refine Heap.get?_push_of_some _ ?_;rw [Heap.get?_update_ne _ _ _ _ (Nat.ne_of_lt (Nat.lt_succ_of_lt hlt))];exact zAk e
 have ea1:h1.get? (s.heap.objs.size + 1) = some (seqObj "list" #[] e1):=by rw [<- hh1]; exact Heap.get?_push_of_some _ ho1
 have hsz1:h1.objs.size = s.heap.objs.size + 3:=by
  rw [<- hh1,size_push',Heap.size_update];unfold xQ;rw [size_push',hsz]
 have fa:H (s.heap.objs.size + 1) = none:=I.hok.fresh (Nat.le_succ _);have fk:H h1.objs.size = none:=I.hok.fresh (by rw [hsz1]; omega);have hka:h1.objs.size≠s.heap.objs.size + 1:=by rw [hsz1]; omega
 have laL:s.heap.objs.size + 1≠X.env.locals:=Nat.ne_of_gt (Nat.lt_succ_of_lt I.lt);have I1:Inv X pins σ H { s with heap:=h1 }:=I.kept (t':=s.toks) keep1;have I2:Inv X (pins ++ [(s.heap.objs.size + 1,seqObj "list" #[] e1)]) σ (upd H h1.objs.size (.lst [])) { s with heap:=h1.push (seqObj "list" #[] 0) }:=by
  have J:=I1.laid (a:=h1.objs.size) (o:=.lst []) (t':=s.toks) (h':=h1.push (seqObj "list" #[] 0)) (λb u e=>Heap.get?_push_of_some _ e) (Nat.le_refl _) ⟨Nat.zero_le _,[],0,.nil,Heap.get?_push_size _ rfl⟩;refine J.pins_of λp hp=>?_;rcases List.mem_append.mp hp with hp | hp
  ·exact J.pin p (List.mem_append_right _ hp)
  ·rw [List.mem_singleton.mp hp];refine ⟨Heap.get?_push_of_some _ ea1,?_,laL,I.nofs (Nat.le_succ _),λv z=>nomatch z⟩;rw [zP hka.symm];exact fa
 have s2:yG H (upd H h1.objs.size (.lst [])):=zE fk _;show wpAny (model X.prog X.w) X.A.in1.in1 (ksk_rest (s.heap.objs.size + 1) (.ref f) false (rs.map Value.ref).toArray e1 (.ref h1.objs.size)) _ _ { s with heap:=h1.push (seqObj "list" #[] 0) };unfold ksk_rest;refine wpAny_bind (wpAny_rule ?_);rw [List.forIn_toArray];refine wpAny_bind (ksk_fold (λi s'=>∃ H',Inv X (pins ++ [(s.heap.objs.size + 1,seqObj "list" #[] e1)]) σ H' s'/\yG H H'/\H' h1.objs.size = some (.lst ((rs.take i).map λr=>V.int (key r)))) (rs.map Value.ref) 0 _ ⟨_,I2,s2,zB⟩ ?step ?done)
 case step =>
  rintro j x s' hx ⟨H1,J,sH,eK⟩;rw [Nat.zero_add] at eK ⊢;rw [List.getElem?_map] at hx;cases er:rs[j]? with
  | none=>rw [er] at hx; cases hx
  | some r =>
   rw [er] at hx;cases hx;have hj:j < rs.length:=(List.getElem?_eq_some_iff.mp er).1;refine wpAny_bind (wpAny_attempt (wpAny_mono (turn r (List.mem_of_getElem? er) _ H1 s' sH J) (λu s2 hu=>?_) λ_ _ hF=>hF.elim));obtain ⟨t,H2,rfl,J2,sH2⟩:=hu;dsimp only;have eK2:=sH2 _ _ eK;obtain ⟨zl,ks,n,rk,ek⟩:=J2.hok _ _ eK2;have lk:ks.length = j:=by
    have z:=rk.length;rw [List.length_map,List.length_take] at z;omega
   refine wpAny_bind (listUpdate_at ek rfl ?_ (by rw [List.size_toArray,lk,sizeLine_eq]; omega) (Nat.le_trans (Nat.le_of_eq (Array.size_push ..)) (by rw [List.size_toArray,lk,sizeLine_eq]; omega)));obtain ⟨c2,hc2⟩:∃ c2,(s2.heap.update h1.objs.size (Obj.mapSeq (·.push (.int (key r) t)))).get? h1.objs.size = some (seqObj "list" (ks.toArray.push (.int (key r) t)) c2):=⟨_,get?_update_seq ek (·.push (.int (key r) t))⟩;have et:(rs.take (j + 1)).map (λr=>V.int (key r)) = (rs.take j).map (λr=>V.int (key r)) ++ [V.int (key r)]:=by rw [List.take_add_one,er]; simp
   have J3:=J2.write (x:=h1.objs.size) (e:=h1.objs.size) (o:=.lst ((rs.take (j + 1)).map λr=>V.int (key r))) (t':=s2.toks) (h':=s2.heap.update h1.objs.size (Obj.mapSeq (·.push (.int (key r) t)))) (by rw [eK2]; exact trivial) (.inl rfl)
    (λb u hb e=>by rw [Heap.get?_update_ne _ _ _ _ hb]; exact e) ⟨_,hc2⟩ ⟨by rw [List.length_map,List.length_take,sizeLine_eq]; omega,ks ++ [.int (key r) t],c2,by rw [et]; exact rk.append (.cons ⟨t,rfl⟩ .nil),by rw [hc2]; simp [seqObj]⟩
   refine wpAny_pure ⟨rfl,_,J3,λb o e=>?_,zB⟩;rw [zP (yE e fk)];exact sH2 _ _ (sH _ _ e)
 case done =>
  rintro s3 ⟨H3,J,sH,eK⟩;rw [Nat.zero_add,hlenV,List.take_length] at eK;obtain ⟨zl,ks,n,rk,ek⟩:=J.hok _ _ eK
  try dsimp only
  refine wpAny_bind (listItems_at ek rfl ?_);obtain ⟨ea3,na3,_⟩:=J.pin (s.heap.objs.size + 1,seqObj "list" #[] e1) (List.mem_append_right _ (List.mem_append_right _ (List.mem_singleton.mpr rfl)));have hki:IntsAre ks.toArray.toList (rs.map key):=by
   rw [List.toList_toArray];refine sV ?_;rw [List.map_map];exact rk
  refine zMu (keys:=ks.toArray) (kz:=rs.map key) ek ea3 hka hki (by rw [List.length_map,List.length_map]) (by rw [hlenV]; exact h64) λout hout hko=>⟨_,rfl,wpAny_pure ⟨_,rfl,?_⟩⟩;obtain ⟨us,pm,pw,eo⟩:=zQo hko;have hb2:=Heap.SameBut.update s3.heap h1.objs.size (Obj.mapSeq λ_=>(#[]:Array Value));obtain ⟨c3,hc3⟩:∃ c3,(s3.heap.update h1.objs.size (Obj.mapSeq λ_=>(#[]:Array Value))).get? h1.objs.size = some (seqObj "list" #[] c3):=⟨_,get?_update_seq ek λ_=>#[]⟩;have J4:=J.write (x:=h1.objs.size) (e:=h1.objs.size) (o:=.lst []) (t':=s3.toks) (h':=s3.heap.update h1.objs.size (Obj.mapSeq λ_=>(#[]:Array Value))) (by rw [eK]; exact trivial) (.inl rfl)
   (λb u hb e=>(hb2.2 b hb).trans e) ⟨_,hc3⟩ ⟨Nat.zero_le _,[],c3,.nil,hc3⟩
  have na4:upd H3 h1.objs.size (.lst []) (s.heap.objs.size + 1) = none:=by rw [zP hka.symm]; exact na3
  have ea4:(s3.heap.update h1.objs.size (Obj.mapSeq λ_=>(#[]:Array Value))).get? (s.heap.objs.size + 1) = some (seqObj "list" #[] e1):=(hb2.2 _ hka.symm).trans ea3;obtain ⟨c4,hc4⟩:∃ c4,((s3.heap.update h1.objs.size (Obj.mapSeq λ_=>(#[]:Array Value))).update (s.heap.objs.size + 1) (Obj.mapSeq λ_=>out)).get? (s.heap.objs.size + 1) = some (seqObj "list" out c4):=⟨_,get?_update_seq ea4 λ_=>out⟩;have hb4:=Heap.SameBut.update (s3.heap.update h1.objs.size (Obj.mapSeq λ_=>(#[]:Array Value))) (s.heap.objs.size + 1) (Obj.mapSeq λ_=>out);have J4':Inv X pins σ (upd H3 h1.objs.size (.lst [])) { s3 with heap:=s3.heap.update h1.objs.size (Obj.mapSeq λ_=>(#[]:Array Value)) }:=J4.unpinned;have J5:Inv X pins σ (upd (upd H3 h1.objs.size (.lst [])) (s.heap.objs.size + 1) (.lst (us.map V.ref))) { s3 with heap:=(s3.heap.update h1.objs.size (Obj.mapSeq λ_=>(#[]:Array Value))).update (s.heap.objs.size + 1) (Obj.mapSeq λ_=>out) }:=by
   refine Inv.step (s:={ s3 with heap:=s3.heap.update h1.objs.size (Obj.mapSeq λ_=>(#[]:Array Value)) }) (h':=(s3.heap.update h1.objs.size (Obj.mapSeq λ_=>(#[]:Array Value))).update (s.heap.objs.size + 1) (Obj.mapSeq λ_=>out)) (H':=upd (upd H3 h1.objs.size (.lst [])) (s.heap.objs.size + 1) (.lst (us.map V.ref))) (g':=s3.gens) (t':=s3.toks) (d':=s3.drawn) (ch:=[s.heap.objs.size + 1]) J4' (λb hb=>?_) (λb o _ _ hc e _=>(hb4.2 b (λz=>hc (by simp [z]))).trans e) (λb o _ _ hc e _=>⟨o.slots,(hb4.2 b (λz=>hc (by simp [z]))).trans e⟩) (λb o hc _ n=>by rw [zP (λz=>hc (by simp [z]))]; exact n)
    (λb o hc e=>⟨o,(hb4.2 b (λz=>hc (by simp [z]))).trans e⟩) (λb xs e=>by rw [zP (yE e na4)]; exact e) (λb o u e=>by rw [zP (yE e na4)]; exact e) (λb ps e=>⟨#[],by rw [zP (yE e na4),e]; simp⟩) (λm hm=>hm.sameBut hb4 laL.symm) (λb u e=>?_) J4'.bare
   ·have eb:b = s.heap.objs.size + 1:=by simpa using hb
    subst eb;refine ⟨.inr (Nat.le_succ_of_le I.sz),laL,λx c e z=>?_,λp hp z=>?_⟩
    ·obtain ⟨v,qq⟩:=I.cell x c e;exact Nat.lt_irrefl _ (Nat.lt_of_lt_of_le qq.lt (by rw [z]; exact Nat.le_succ _))
    ·exact Nat.lt_irrefl _ (Nat.lt_of_lt_of_le (Heap.lt_size (I.pin p hp).1) (by rw [z]; exact Nat.le_succ _))
   ·by_cases hb:b = s.heap.objs.size + 1
    ·rw [hb,zB] at e;cases e;rw [hb];refine ⟨by rw [List.length_map,pm.length_eq,sizeLine_eq]; omega,us.map Value.ref,c4,vX us,?_⟩;rw [hc4,<- eo]
    ·rw [zP hb] at e;refine (J4'.hok b u e).stay (λc v hc q=>(hb4.2 c (λz=>?_)).trans q) (λc q=>by rw [zP (yE q na4)]; exact q) λc xs q=>by rw [zP (yE q na4)]; exact q
     rcases hc with hc | hc
     ·exact hb (by rw [<- hc]; exact z)
     ·rw [z,na4] at hc; cases hc
  refine ⟨.ref (s.heap.objs.size + 1),_,J5,rfl,q _ us _ fa (λb o e=>?_) zB pm pw⟩;rw [zP (yE e fa),zP (yE e fk)];exact sH _ _ e
end
def zTe (X:Cx) (σ:St) (H:Hp) (f:Addr) (rs:List Addr) (key:Addr->Int):Prop:=∀ r∈rs,∀ (pins':List (Addr × Obj)) (H1:Hp) (s1:Shared),yG H H1->Inv X pins' σ H1 s1 ->
 wpAny (model X.prog X.w) X.A.in1.in1 (call (.ref f) [.ref r]) (λu s2=>∃ t H2,u = .int (key r) t/\Inv X pins' σ H2 s2/\yG H1 H2) (λ_ _=>False) s1
def zSo (X:Cx) (ta tk:TA):TE:=λσ H Q=>ta σ H λxs H1=>tk σ H1 λys H2=>∃ (l f:Addr) (rs:List Addr) (key:Addr->Int),xs = [.ref l]/\ys = [.ref f]/\SqL X.K H2 l (rs.map V.ref)/\rs.length < 64/\zTe X σ H2 f rs key /\
 ∀ (p:Addr) (us:List Addr) (H':Hp),H2 p = none->yG H2 H'->H' p = some (.lst (us.map V.ref))->us.Perm rs->us.Pairwise (λa b=>key a<=key b)->Q (.ref p) H'
section
variable {X:Cx}
theorem zOs {e kf:Expr} {ta tk:TA} {p pos kpos:Pos} (hg:Gl X "sorted") (hm:X.mg "sorted" = none) (ha:PA X [e] ta) (hk:PK X [⟨some "key", kf,kpos⟩] tk)
  (he:backTo pos (starEach [e] X.env) = (false,eval e X.env) :: backTo pos (starEach [] X.env):=by rfl) (hpl:(backTo pos (starEach [e] X.env)).any (·.1) = false:=by rfl):PE X (.Call (.Name "sorted" p) [e] [⟨some "key", kf,kpos⟩] pos) (zSo X ta tk):=by
 intro pins s σ H Q I h;refine wpAny_Call_Name_kw (zE2 I hg hm rW ?_ (by decide) (by decide));refine callWith_kw (thn (ha pos pins s σ H _ I h) λus s1 ⟨xs,H1,I1,r1,q1⟩=>?_) he hpl;refine thn (hk pos pins s1 σ H1 _ I1 q1) λws s2 ⟨ys,H2,I2,r2,l,f,rs,key,ex,ey,hl,h64,ok,q⟩=>?_;subst ex ey;obtain ⟨u,rfl,ru⟩:=xI.one r1;obtain ⟨v,rfl,rv⟩:=xI.one r2;cases ru;cases rv;exact zKh I2 hl h64 ok q
theorem zO8 {σ:St} {H:Hp} {k j jy:Nat} {N:List Str} {name qual x y:Str} {params:Arguments} {body:List Stmt} {scope:Scope} {f cc c':Addr} {vc:V} {rs:List Addr} {key:Addr->Int}
  (S:zAu N x y j scope) (hr:Room (k + 3) X.A) (hcc:X.env.cells.lookup y = some cc) (hy:X.N[jy]? = some y) (hk:X.env.scope.names.lookup y = some .cell) (evc:σ[jy]? = some (some vc))
  (ef:H f = some (fnO f name qual params body scope [(y,cc)] c')) (ec:H c' = some (cdO c' qual))
  (hbind:∀ doc pm ctv u,bindArgs (fnX name qual params body scope [(y,cc)] .none .none doc pm none (.ref c') ctv) ⟨[u],[]⟩ = pure [(x,u)])
  (hbody:∀ r∈rs,∀ (A:Around) (outer:List Env) (s1:Shared) (H1:Hp),yG H H1->Room k (A.deeper (envX qual scope s1.heap.objs.size f (.ref c') (cellsFrom (s1.heap.objs.size + 1) scope.names [(y,cc)]))) ->
   ∃ t,PSs (zEy CX0 X.prog X.w X.K X.mg X.base N qual scope f (.ref c') [(y,cc)] A outer s1 H1 E0).nox body t/\t { nx:=λ_ H2=>V.non = .int (key r)/\yG H1 H2,rt:=λv H2=>v = .int (key r)/\yG H1 H2 } ((zHn N j vc).set 0 (some (.ref r))) H1):zTe X σ H f rs key:=by
 intro r hrr pins' H1 s1 sH J;obtain ⟨m,_,hl⟩:=J.loc;obtain ⟨u,ru,l⟩:=hl jy y vc hy evc (.inr (.inl hk));have hcell:s1.heap.IsCell cc (some u):=by
  rcases l with ⟨z,_⟩ | ⟨_,c,e,q⟩
  ·have z':X.env.scope.names.lookup y = some .local:=z;rw [hk] at z';cases z'
  ·rw [hcc] at e;cases e;exact q
 refine wpAny_call (codeAny_mono (zPy (CX:=CX0) (Q:=λv H2=>v = .int (key r)/\yG H1 H2) (E:=E0) (v:=.ref r) S hr.in1.in1 J.env0.in1.in1 hcell (J.freeC y cc hcc) ru rfl (sH _ _ ef) (sH _ _ ec) (λdoc pm ctv=>hbind doc pm ctv _) λhr2=>?_) λr' s' hq=>?_)
 ·obtain ⟨t,h,q⟩:=hbody r hrr X.A.in1.in1 X.stack s1 H1 sH hr2;exact ⟨t,h.nox,q⟩
 ·cases r' with
  | error e=>exact hq
  | ok fl =>
   cases fl with
   | ret w' =>
    obtain ⟨v,H2,J2,rv,e,s2⟩:=J.after hq;subst e;obtain ⟨t,rfl⟩:=rv;exact ⟨t,H2,rfl,J2,s2⟩
   | next=>exact False.elim hq
   | brk=>exact False.elim hq
   | cont=>exact False.elim hq
end
theorem zOd {P:Program} {w:World} {K:PySem.W.Frag} {mg mb:Str->Option Value} {CX:CXT} {k:Nat} {fa a c Pt:Addr} {fd:FuncData} {x:Str} {sp:Sp} {s₁:Shared} {vs:List Value} {ns:List Int}
  (KX:K.In s₁.heap) (hns:s₁.heap.Ns mainGlobals mg) (hb:s₁.heap.Ns builtinsNs mb) (hbb:∀ x:Str,x ≠ "__name__" -> mb x = bootBuiltins x) (hlim:s₁.heap.NoLimit) (hg:s₁.gens = #[])
  (ha:s₁.heap.get? a = some { cls:=.type "list", data:=.seq vs.toArray }) (hi:IntsAre vs ns) (hl:ns.length<=sizeLine) (hr:Room k callerA)
  (hC:CodeHd s₁.heap c Pt) (hT:s₁.heap.get? Pt = some (tabObj #[])) (hKT:K.lookup Pt = none)
  (hbm:∃ bm ob,mg "__builtins__" = some (.ref bm)/\bm≠builtinsNs/\bm≠mainGlobals/\s₁.heap.get? bm = some ob/\ob.cls = .type "module" /\ ob.dict = some builtinsNs/\ob.data = .plain)
  (F:∀ base:Heap,K.In base->base.Ns mainGlobals mg->zIf base mg c Pt->wL P w K mg base CX k fa fd [x] sp) (hbind:∀ (s:Shared) (u:Value),BindsTo s fd ⟨[u],[]⟩ [(x,u)])
  (hsp:∀ H:Hp,H Pt = some (.tbl #[])->SqL K H a (ns.map V.int)->sp [.ref a] H (λv _=>v = .bl true) λ_ _ _=>False)
  (hCX:∀ H e s',CX [] H s₁ (λ_ _ _=>False) e s'->False) :
  codeAny (model P w) callerA (.call (.ref fa) ⟨[.ref a],[]⟩) (λr s'=>r = .ok (.ret (.bool true))/\OldK s₁.heap s'.heap/\s'.os = s₁.os/\AllBare s'.gens) s₁:=by
 have rv:=zEb hi;have lenV:=hi.length;have haT:a≠Pt:=λz=>by rw [z,hT] at ha; cases ha
 have core:∀ H:Hp,(∀ b,H b = none\/((∃ o xs,H b = some (.frz o (.lst xs)))/\b = a)\/b = Pt)->H Pt = some (.tbl #[])->SqL K H a (ns.map V.int)->HOk P w H s₁.heap->(H a≠none->K.lookup a = none) ->
   codeAny (model P w) callerA (.call (.ref fa) ⟨[.ref a],[]⟩) (λr s'=>r = .ok (.ret (.bool true))/\OldK s₁.heap s'.heap/\s'.os = s₁.os/\AllBare s'.gens) s₁:=by
  intro H hO hPt hS hok hK;have base_of:∀ {b:Addr} {o:Obj},s₁.heap.get? b = some o->H b = none->(zOl s₁.heap H).get? b = some o:=λe n=>zPk e n;have no:∀ {b:Addr} {o:Obj},s₁.heap.get? b = some o->(∀ xs n,o.data≠.seq xs n)->o.cls≠.none->H b = none:=λ{b o} e d c=>by
   rcases hO b with z | ⟨_,z⟩ | z
   ·exact z
   ·rw [z,ha] at e; cases e; exact absurd rfl (d _ _)
   ·rw [z,hT] at e; cases e; exact absurd rfl c
  have noD:∀ {b:Addr} {o:Obj} {es:Array DictEntry} {ep:Nat},s₁.heap.get? b = some o->o.data = .dict es ep->H b = none:=λ{b o es ep} e d=>by
   rcases hO b with z | ⟨_,z⟩ | z
   ·exact z
   ·rw [z,ha] at e; cases e; cases d
   ·rw [z,hT] at e; cases e; cases d
  have nsK:∀ {b:Addr} {m:Str->Option Value},s₁.heap.Ns b m->(zOl s₁.heap H).Ns b m:=λ{b m} ⟨o,es,ep,e,d,r⟩=>⟨o,es,ep,base_of e (noD e d),d,r⟩;have hKb:K.In (zOl s₁.heap H):=λb o e=>base_of (KX b o e) (by
   rcases hO b with z | ⟨⟨ob,xs,z⟩,ez⟩ | z
   ·exact z
   ·rw [ez,hK (by rw [<- ez,z]; simp)] at e; cases e
   ·rw [z,hKT] at e; cases e)
  have hNB:zIf (zOl s₁.heap H) mg c Pt:=by
   refine ⟨?_,?_⟩
   ·obtain ⟨o,vs',file,tf,flags,tg,inF,text,tt,e1,e2,e3,r⟩:=hC;exact ⟨o,vs',file,tf,flags,tg,inF,text,tt,base_of e1 (no e1 (λxs n z=>by rw [e3] at z; cases z) (λz=>by rw [e2] at z; cases z)),e2,e3,r⟩
   ·obtain ⟨bm,ob,b1,b2,b3,b4,b5,b6,b7⟩:=hbm;exact ⟨bm,ob,b1,b2,b3,base_of b4 (no b4 (λxs n z=>by rw [b7] at z; cases z) (λz=>by rw [b5] at z; cases z)),b5,b6,b7⟩
  have hM:Mod K mg (zOl s₁.heap H):=⟨hKb,nsK hns,⟨mb,nsK hb,hbb⟩,let ⟨mc,h1,h2⟩:=hlim; ⟨mc,nsK h1,h2⟩⟩;have e0:zOp P w K mg (zOl s₁.heap H) callerA [] s₁ H:=⟨rfl,hM,λb o e=>zR2 e,Nat.le_of_eq (zN7 _ _),trivial,λb hb=>absurd (show b∈([]:List Addr) from hb) (by simp),hok,.of_eq hg⟩;refine codeAny_mono ((F _ hKb (nsK hns) hNB).run callerA [] s₁ H ⟨[.ref a],[]⟩ [.ref a] [.ref a] _ _ hr e0 (hbind s₁ (.ref a)) (.cons rfl .nil) (hsp H hPt hS)) λr s' h=>?_;cases r with
  | error e=>exact (hCX H e s' h).elim
  | ok fl =>
   cases fl with
   | next=>exact False.elim h
   | brk=>exact False.elim h
   | cont=>exact False.elim h
   | ret u =>
    obtain ⟨v,H',os,bare,un,hok',r',q⟩:=h;have q':v = .bl true:=q;subst q';obtain rfl:u = Value.bool true:=r';obtain ⟨more,eT⟩:=un.tbls Pt _ hPt;have eT':s'.heap.get? Pt = some (tabObj (#[] ++ more)):=hok' Pt _ eT;refine ⟨rfl,⟨λb o e=>?_,λb o e=>?_⟩,os,bare⟩
    ·rcases hO b with z | ⟨⟨ob,xs,z⟩,ez⟩ | z
     ·exact .inl (un.keep b o e z (by intro z; exact absurd (show b∈([]:List Addr) from z) (by simp)) (by simp))
     ·have z2:=un.frzs b ob _ z;obtain ⟨e1,_⟩:=hok b _ z;obtain ⟨e2,_⟩:=hok' b _ z2;rw [e] at e1; cases e1;exact .inl e2
     ·subst z;rw [hT] at e;cases e;exact .inr (.inl ⟨(hC.tab hT).isCodeTable,rfl,#[],more,rfl,eT'⟩)
    ·exact un.there b o e (by simp)
 cases hk:K.lookup a with
 | some o =>
  have e:=KX a o hk;rw [ha] at e;cases e;refine core (λb=>if b = Pt then some (.tbl #[]) else none) (λb=>?_) (if_pos rfl) (.inr ⟨_,vs.toArray,_,hk,rfl,rfl,rfl,by rw [List.size_toArray,lenV]; exact hl,by simpa using rv⟩) (λb u z=>?_) λz=>absurd (if_neg haT) z
  ·by_cases hb:b = Pt
   ·exact .inr (.inr hb)
   ·exact .inl (if_neg hb)
  ·by_cases hb:b = Pt
   ·have z':=(if_pos hb).symm.trans z;cases z';subst hb;exact hT
   ·have z':=(if_neg hb).symm.trans z;cases z'
 | none =>
  refine core (λb=>if b = a then some (.frz { cls:=.type "list", data:=.seq vs.toArray } (.lst (ns.map V.int))) else if b = Pt then some (.tbl #[]) else none) (λb=>?_) ((if_neg haT.symm).trans (if_pos rfl)) (.inl (.inr ⟨{ cls:=.type "list", data:=.seq vs.toArray },if_pos rfl⟩)) (λb u z=>?_) λ_=>hk
  ·by_cases hb:b = a
   ·exact .inr (.inl ⟨⟨_,_,if_pos hb⟩,hb⟩)
   ·by_cases hb2:b = Pt
    ·exact .inr (.inr hb2)
    ·exact .inl ((if_neg hb).trans (if_neg hb2))
  ·by_cases hb:b = a
   ·have z':=(if_pos hb).symm.trans z;cases z';subst hb;exact ⟨ha,by rw [List.length_map]; exact hl,vs,_,rv,ha⟩
   ·by_cases hb2:b = Pt
    ·have z':=((if_neg hb).trans (if_pos hb2)).symm.trans z;cases z';subst hb2;exact hT
    ·have z':=((if_neg hb).trans (if_neg hb2)).symm.trans z;cases z'
def zSw (s:Stmt):Pos:=match s with
 | .FunctionDef _ _ _ _ _ _ _ _ _ p=>p
 | _=>⟨0,0,0,0⟩
theorem Fun.okC {P:Program} {w:World} {K:PySem.W.Frag} {mg:Str->Option Value} {base:Heap} {x qual:Str} {st:Stmt} {f:Addr} {fd:FuncData} {N ps:List Str} {k:Nat} {sp:Sp} (F:Fun K x qual st f fd) (S:zS N ps (zM st)) (len:∀ vs H Q E,sp vs H Q E->vs.length = ps.length)
  (hbody:∀ (cdv:Value) (A:Around) (outer:List Env) (s:Shared) (H:Hp) (vs:List V) (Q:VK) (E:XK),fd.code = cdv->Room k (A.deeper (envOfC qual (zM st) s.heap.objs.size f cdv))->sp vs H Q E ->
   ∃ t,PSs (cxOf CX0 P w K mg base N qual (zM st) f cdv A outer s H E).nox (uJ st) t/\t { nx:=λ_ H'=>Q .non H',rt:=Q } (start N vs) H):wL P w K mg base CX0 (k + 1) f fd ps sp:=by
 obtain ⟨oc,od,kV,doc,pm,an,cdv,ct,osl,rfl,lk,hcd⟩:=F.ex;refine zT7 lk hcd S len λA outer s H vs Q E hr hsp=>?_;obtain ⟨t,h,q⟩:=hbody cdv A outer s H vs Q E rfl hr hsp;exact ⟨t,h.nox,q⟩
end L2

namespace Sea
open PySem L2
def wy (O A:P3):Int × Int:=(A.1 * O.2.2 - O.1 * A.2.2,A.2.1 * O.2.2 - O.2.1 * A.2.2)
def tn2 (a b:Int × Int):Int:=a.1 * b.2 - a.2 * b.1
def c3 (O A B:P3):Int:=O.1 * (A.2.1 * B.2.2 - B.2.1 * A.2.2) - O.2.1 * (A.1 * B.2.2 - B.1 * A.2.2) + O.2.2 * (A.1 * B.2.1 - B.1 * A.2.1)
theorem zN2 (O A B:P3):tn2 (wy O A) (wy O B) = O.2.2 * c3 O A B:=by
 unfold tn2 wy c3;grind
theorem zIs (O A B:P3):c3 O B A = -c3 O A B:=by
 unfold c3;grind
def fwd (a:Int × Int):Prop:=0 < a.1\/(a.1 = 0/\0 < a.2)
theorem qU {a b:Int} (ha:0 < a) (hb:b < 0):a * b < 0:=by
 have z:=Int.mul_lt_mul_of_pos_left hb ha;rwa [Int.mul_zero] at z
theorem zS4 {a b c:Int × Int} (ha:fwd a) (hb:fwd b) (hc:fwd c) (h1:0 < tn2 a b) (h2:0 < tn2 b c):0 < tn2 a c:=by
 obtain ⟨p1,q1⟩:=a;obtain ⟨p2,q2⟩:=b;obtain ⟨p3,q3⟩:=c;unfold fwd at ha hb hc;unfold tn2 at h1 h2 ⊢;dsimp only at ha hb hc h1 h2 ⊢;have id:(p1 * q3 - q1 * p3) * p2 = (p1 * q2 - q1 * p2) * p3 + (p2 * q3 - q2 * p3) * p1:=by grind
 have b0:0 < p2:=by
  rcases hb with h | ⟨h,h'⟩
  ·exact h
  ·subst h;rw [Int.zero_mul,Int.zero_sub] at h2;have p3n:0<=p3:=by omega
   have:=Int.mul_nonneg (Int.le_of_lt h') p3n;omega
 have a0:0 < p1:=by
  rcases ha with h | ⟨h,h'⟩
  ·exact h
  ·subst h;rw [Int.zero_mul,Int.zero_sub] at h1;have:=Int.mul_nonneg (Int.le_of_lt h') (Int.le_of_lt b0);omega
 have p3n:0<=p3:=by omega
 have z1:=Int.mul_nonneg (Int.le_of_lt h1) p3n;have z2:=Int.mul_pos h2 a0;have z3:0 < (p1 * q3 - q1 * p3) * p2:=by rw [id]; omega
 rcases Int.lt_trichotomy (p1 * q3 - q1 * p3) 0 with h | h | h
 ·have:=Int.mul_neg_of_neg_of_pos h b0;omega
 ·rw [h,Int.zero_mul] at z3;omega
 ·exact h
theorem zDw {s t:SpT} (h:ahB s t = true):fwd (wy s.2 t.2):=by
 have z:leS s t:=zEf h;have z2:¬ leS t s:=λq=>by unfold leS at q; rw [h] at q; cases q
 rw [zFu] at z z2;unfold fwd wy;dsimp only;omega
theorem zNe {e f p q:P3} (h:tn e f≠0) (hp:0 < p.2.2) (hq:0 < q.2.2) (e1:sv e p = 0) (e2:sv f p = 0) (e3:sv e q = 0) (e4:sv f q = 0):p.1 * q.2.2 = q.1 * p.2.2/\p.2.1 * q.2.2 = q.2.1 * p.2.2:=by
 unfold sv at e1 e2 e3 e4;unfold tn at h;have x1:(e.1 * f.2.1 - e.2.1 * f.1) * (p.1 * q.2.2 - q.1 * p.2.2) = 0:=by grind
 have x2:(e.1 * f.2.1 - e.2.1 * f.1) * (p.2.1 * q.2.2 - q.2.1 * p.2.2) = 0:=by grind
 have y1:=(Int.mul_eq_zero.mp x1).resolve_left h;have y2:=(Int.mul_eq_zero.mp x2).resolve_left h;omega
theorem rN {ss:List Sd} {P:P3} (c:Cor ss P):∃ e f:P3,tn e f≠0/\sv e P = 0/\sv f P = 0/\(∀ Q,inW ss Q->sv e Q<=0/\sv f Q<=0)/\inW ss P/\0 < P.2.2/\Nat.gcd (Nat.gcd P.1.natAbs P.2.1.natAbs) P.2.2.natAbs = 1:=by
 obtain ⟨t,ht,u,hu,h,rfl,w⟩:=c;obtain ⟨sp,o1,o2⟩:=wJ h;exact ⟨t.2,u.2,h,o1,o2,λQ hQ=>⟨hQ t ht,hQ u hu⟩,w,sp.pos,sp.low⟩
theorem zMw {ss:List Sd} {O A B:P3} (cO:Cor ss O) (cA:Cor ss A) (cB:Cor ss B) {l m n:Int} (hm:0 < m) (hn:0 < n) (e1:l * A.1 = m * B.1 + n * O.1) (e2:l * A.2.1 = m * B.2.1 + n * O.2.1) (e3:l * A.2.2 = m * B.2.2 + n * O.2.2):O = A:=by
 obtain ⟨e,f,hef,s1,s2,hw,_,pA,lA⟩:=rN cA;obtain ⟨_,_,_,_,_,_,wO,pO,lO⟩:=rN cO;obtain ⟨_,_,_,_,_,_,wB,_,_⟩:=rN cB;have key:∀ g:P3,sv g A = 0->sv g B<=0->sv g O<=0->sv g O = 0:=λg g1 g2 g3=>by
  have z:l * sv g A = m * sv g B + n * sv g O:=by unfold sv; grind
  rw [g1,Int.mul_zero] at z;have y1:=Int.mul_nonneg (Int.le_of_lt hm) (show 0<=-sv g B by omega);rw [Int.mul_neg] at y1;have y2:=Int.mul_nonneg (Int.le_of_lt hn) (show 0<=-sv g O by omega);rw [Int.mul_neg] at y2;have y3:n * sv g O = 0:=by omega
  exact (Int.mul_eq_zero.mp y3).resolve_left (by omega)
 obtain ⟨x1,x2⟩:=zNe hef pO pA (key e s1 (hw B wB).1 (hw O wO).1) (key f s2 (hw B wB).2 (hw O wO).2) s1 s2;exact uK pO pA lO lA x1 x2
theorem zJz {ss:List Sd} {O A B:P3} (cO:Cor ss O) (cA:Cor ss A) (cB:Cor ss B) (hA:O≠A) (hB:O≠B) (hAB:A≠B) {s t:Int} (hs:0 < s) (ht:0 < t) (e1:s * (wy O A).1 = t * (wy O B).1) (e2:s * (wy O A).2 = t * (wy O B).2):False:=by
 obtain ⟨_,_,_,_,_,_,_,pO,lO⟩:=rN cO;obtain ⟨_,_,_,_,_,_,_,pA,lA⟩:=rN cA;obtain ⟨_,_,_,_,_,_,_,pB,lB⟩:=rN cB;unfold wy at e1 e2;dsimp only at e1 e2;rcases Int.lt_trichotomy (s * A.2.2 - t * B.2.2) 0 with h | h | h
 ·exact hB (zMw (l:=t * O.2.2) (m:=s * O.2.2) (n:=t * B.2.2 - s * A.2.2) cO cB cA (Int.mul_pos hs pO) (by omega) (by grind) (by grind) (by grind))
 ·refine hAB (uK pA pB lA lB ?_ ?_)
  ·have z:O.2.2 * (s * A.1 - t * B.1) = 0:=by grind
   have z2:=(Int.mul_eq_zero.mp z).resolve_left (by omega);have z3:s * (A.1 * B.2.2 - B.1 * A.2.2) = 0:=by grind
   have z4:=(Int.mul_eq_zero.mp z3).resolve_left (by omega);omega
  ·have z:O.2.2 * (s * A.2.1 - t * B.2.1) = 0:=by grind
   have z2:=(Int.mul_eq_zero.mp z).resolve_left (by omega);have z3:s * (A.2.1 * B.2.2 - B.2.1 * A.2.2) = 0:=by grind
   have z4:=(Int.mul_eq_zero.mp z3).resolve_left (by omega);omega
 ·exact hA (zMw (l:=s * O.2.2) (m:=t * O.2.2) (n:=s * A.2.2 - t * B.2.2) cO cA cB (Int.mul_pos ht pO) h (by grind) (by grind) (by grind))
theorem zJv {ss:List Sd} {O A B:P3} (cO:Cor ss O) (cA:Cor ss A) (cB:Cor ss B) (hA:O≠A) (hB:O≠B) (hAB:A≠B) (fA:fwd (wy O A)) (fB:fwd (wy O B)):c3 O A B≠0:=λz=>by
 have z2:=zN2 O A B;rw [z,Int.mul_zero] at z2;unfold tn2 at z2;rcases fA with h | ⟨h,h'⟩
 ·rcases fB with k | ⟨k,k'⟩
  ·exact zJz (s:=(wy O B).1) (t:=(wy O A).1) cO cA cB hA hB hAB k h (Int.mul_comm _ _) (by grind)
  ·rw [k,Int.mul_zero] at z2;have:=Int.mul_pos h k';omega
 ·rcases fB with k | ⟨k,k'⟩
  ·rw [h,Int.zero_mul] at z2;have:=Int.mul_pos h' k;omega
  ·exact zJz (s:=(wy O B).2) (t:=(wy O A).2) cO cA cB hA hB hAB k' h' (by rw [h,k]; simp) (Int.mul_comm _ _)
def zP0 (O:P3) (qs:List P3) (B:P3):Nat:=(qs.filter λA=>decide (0 < tn2 (wy O A) (wy O B))).length
theorem filter_lt {α:Type} {p q:α->Bool} : ∀ {l:List α},(∀ a∈l,p a = true->q a = true)->(∃ a∈l,q a = true/\p a = false)->(l.filter p).length < (l.filter q).length
 | [],_,h=>by obtain ⟨a,h,_⟩:=h; cases h
 | x :: l,hpq,h=>by
  have le:∀ (l:List α),(∀ a∈l,p a = true->q a = true)->(l.filter p).length<=(l.filter q).length:=λl=>by
   induction l with
   | nil=>intro _; exact Nat.le_refl _
   | cons y l ih =>
    intro hl;have z:=ih λa ha=>hl a (.tail _ ha);rw [List.filter_cons,List.filter_cons];cases hp:p y with
    | true =>
     rw [hl y (.head _) hp,if_pos rfl,if_pos rfl,List.length_cons,List.length_cons];omega
    | false =>
     rw [if_neg (by decide)];split
     ·rw [List.length_cons]; omega
     ·exact z
  have le2:=le l λa ha=>hpq a (.tail _ ha);rw [List.filter_cons,List.filter_cons];obtain ⟨a,ha,hq,hp⟩:=h;rcases List.mem_cons.mp ha with e | ha
  ·subst e;rw [hq,hp,if_pos rfl,if_neg (by decide),List.length_cons];omega
  ·have ih:=filter_lt (l:=l) (λa ha=>hpq a (.tail _ ha)) ⟨a,ha,hq,hp⟩;cases hpx:p x with
   | true =>
    rw [hpq x (.head _) hpx,if_pos rfl,if_pos rfl,List.length_cons,List.length_cons];omega
   | false =>
    rw [if_neg (by decide)];split
    ·rw [List.length_cons]; omega
    ·exact ih
theorem zO0 (a:Int × Int):tn2 a a = 0:=by unfold tn2; grind
theorem zSn {O:P3} {qs:List P3} {A B:P3} (hq:∀ C∈qs,C = O\/fwd (wy O C)) (hA:A∈qs) (fA:fwd (wy O A)) (fB:fwd (wy O B)) (h:0 < tn2 (wy O A) (wy O B)):zP0 O qs A < zP0 O qs B:=by
 refine filter_lt (λC hC hp=>?_) ⟨A,hA,decide_eq_true h,?_⟩
 ·have hp':=of_decide_eq_true hp;rcases hq C hC with e | fC
  ·have z:wy O O = (0,0):=by unfold wy; rw [Int.sub_self,Int.sub_self]
   rw [e,z] at hp';unfold tn2 at hp';simp at hp'
  ·exact decide_eq_true (zS4 fC fA fB hp' h)
 ·rw [zO0];rfl
theorem zNf {ss:List Sd} {O:P3} {qs rs us:List P3} (cO:Cor ss O) (hq:∀ C∈qs,C = O\/fwd (wy O C)) (hr:∀ A∈rs,Cor ss A/\A∈qs/\O≠A/\fwd (wy O A)) (nd:us.Nodup) (pm:us.Perm rs) (pw:us.Pairwise λA B=>zP0 O qs A<=zP0 O qs B) :
  us.Pairwise λA B=>0 < c3 O A B:=by
 refine (List.Pairwise.and pw nd).imp_of_mem λ{A B} hA hB ⟨h,ne⟩=>?_;obtain ⟨cA,mA,oA,fA⟩:=hr A (pm.mem_iff.mp hA);obtain ⟨cB,mB,oB,fB⟩:=hr B (pm.mem_iff.mp hB);obtain ⟨_,_,_,_,_,_,_,pO,_⟩:=rN cO;have nz:=zJv cO cA cB oA oB ne fA fB;rcases Int.lt_trichotomy (c3 O A B) 0 with z | z | z
 ·have z2:0 < tn2 (wy O B) (wy O A):=by
   rw [zN2,zIs];exact Int.mul_pos pO (by omega)
  have:=zSn hq mB fB fA z2;omega
 ·exact absurd z nz
 ·exact z
end Sea

namespace Sea
open PySem L2
theorem zCu {e:P3} {h:Int} (hh:h * h = 1) (hN:0 < e.1 * e.1 + e.2.1 * e.2.1):∀ {ss:List Sd},(∃ t∈ss,0 < tn e t.2 * h)->∃ t∈ss,0 < tn e t.2 * h/\∀ u∈ss,0 < tn e u.2 * h->sv u.2 (pt3 (crL e t.2))<=0
 | [],h=>by obtain ⟨t,ht,_⟩:=h; cases ht
 | x :: r,hex=>by
  by_cases hr:∃ t∈r,0 < tn e t.2 * h
  ·obtain ⟨t,ht,tp,tm⟩:=zCu hh hN hr;by_cases hx:0 < tn e x.2 * h
   ·by_cases hs:sv x.2 (pt3 (crL e t.2))<=0
    ·refine ⟨t,.tail _ ht,tp,λu hu up=>?_⟩;rcases List.mem_cons.mp hu with rfl | hu
     ·exact hs
     ·exact tm u hu up
    ·refine ⟨x,.head _,hx,λu hu up=>?_⟩;obtain ⟨s1,o1,o2⟩:=wJ (yH hx);obtain ⟨s2,r1,r2⟩:=wJ (yH tp);rcases List.mem_cons.mp hu with rfl | hu
     ·rw [o2];exact Int.le_refl _
     ·have d:=zQw hh hN o1 r1 s1.pos o2 (by omega) hx;refine zF4 hh hN o1 r1 s1.pos s2.pos u.2 ?_ (tm u hu up);have z:=Int.mul_nonneg (show 0<=-(dl e (pt3 (crL e x.2)) (pt3 (crL e t.2)) * h) by omega) (Int.le_of_lt up);rw [Int.neg_mul] at z;omega
   ·refine ⟨t,.tail _ ht,tp,λu hu up=>?_⟩;rcases List.mem_cons.mp hu with rfl | hu
    ·exact absurd up hx
    ·exact tm u hu up
  ·obtain ⟨t,ht,tp⟩:=hex;rcases List.mem_cons.mp ht with rfl | ht
   ·refine ⟨t,.head _,tp,λu hu up=>?_⟩;rcases List.mem_cons.mp hu with rfl | hu
    ·rw [(wJ (yH tp)).2.2];exact Int.le_refl _
    ·exact absurd ⟨u,hu,up⟩ hr
   ·exact absurd ⟨t,ht,tp⟩ hr
theorem zHa {ss:List Sd} {e z:P3} (hN:0 < e.1 * e.1 + e.2.1 * e.2.1) (hz:sv e z = 0) (zw:0 < z.2.2) (wz:inW ss z) (h1:∃ t∈ss,0 < tn e t.2 * 1) (h2:∃ t∈ss,0 < tn e t.2 * (-1)) {g:P3}
  (hg:∀ t∈ss,tn e t.2≠0->inW ss (pt3 (crL e t.2))->sv g (pt3 (crL e t.2))<=0):sv g z<=0:=by
 obtain ⟨t,ht,tp,tm⟩:=zCu (by decide) hN h1;obtain ⟨u,hu,up,um⟩:=zCu (by decide) hN h2;obtain ⟨s1,o1,o2⟩:=wJ (yH tp);obtain ⟨s2,r1,r2⟩:=wJ (yH up);obtain ⟨i,hi,ei⟩:=List.getElem_of_mem ht;obtain ⟨j,hj,ej⟩:=List.getElem_of_mem hu;have w1:=zCa (by decide) hN hz zw wz (by rw [List.getElem?_eq_getElem hi,ei]) tp tm;have w2:=zCa (by decide) hN hz zw wz (by rw [List.getElem?_eq_getElem hj,ej]) up um;have g1:=hg t ht (yH tp) w1;have g2:=hg u hu (yH up) w2;have d1:=zFp (by decide) hN o1 hz s1.pos o2 (wz t ht) tp;have d2:=zFp (by decide) hN r1 hz s2.pos r2 (wz u hu) up;by_cases hg0:0<=tn e g
 ·refine zF4 (h:=1) (by decide) hN hz o1 zw s1.pos g ?_ g1;rw [zBx e z];have z1:=Int.mul_nonneg d1 (show 0<=tn e g * 1 by omega);rw [Int.neg_mul,Int.neg_mul];omega
 ·refine zF4 (h:=1) (by decide) hN hz r1 zw s2.pos g ?_ g2;rw [zBx e z];have z1:=Int.mul_nonneg d2 (show 0<=-(tn e g * 1) by omega);have e1:dl e (pt3 (crL e u.2)) z * (-1) * -(tn e g * 1) = dl e (pt3 (crL e u.2)) z * tn e g:=by grind
  have e2 : -dl e (pt3 (crL e u.2)) z * 1 * (tn e g * 1) = -(dl e (pt3 (crL e u.2)) z * tn e g):=by grind
  rw [e1] at z1;rw [e2];omega
theorem uQ {ss:List Sd} (hw:∀ x y:Int,(x≠0\/y≠0)->vG ss x y = false) {e:P3} (he:e.1≠0\/e.2.1≠0) {h:Int} (hh:h = 1\/h = -1):∃ t∈ss,0 < tn e t.2 * h:=by
 have z:=hw (-e.2.1 * h) (e.1 * h) (by rcases hh with rfl | rfl <;> omega);unfold vG at z;obtain ⟨t,ht,q⟩:=List.all_eq_false.mp z;refine ⟨t,ht,?_⟩;have q':¬ (t.2.1 * (-e.2.1 * h) + t.2.2.1 * (e.1 * h)<=0):=λy=>q (decide_eq_true y);have e1:t.2.1 * (-e.2.1 * h) + t.2.2.1 * (e.1 * h) = tn e t.2 * h:=by unfold tn; grind
 omega
theorem hull {ss:List Sd} (hn:∀ t∈ss,t.2.1≠0\/t.2.2.1≠0) (ne:ss≠[]) (hw:∀ x y:Int,(x≠0\/y≠0)->vG ss x y = false) {g:P3} (hg:∀ C,Cor ss C->sv g C<=0) {p:P3} (pw:0 < p.2.2) (wp:inW ss p):sv g p<=0:=by
 obtain ⟨t0,r,rfl⟩:=List.exists_cons_of_ne_nil ne;have n0:=hn t0 (.head _);have edge:∀ t∈t0 :: r,∀ q:P3,0 < q.2.2->sv t.2 q = 0->inW (t0 :: r) q->sv g q<=0:=λt ht q hq e1 wq=>by
  refine zHa (wF (hn t ht)) e1 hq wq (uQ hw (hn t ht) (.inl rfl)) (uQ hw (hn t ht) (.inr rfl)) λu hu htu hwu=>?_;exact hg _ ⟨t,ht,u,hu,htu,rfl,hwu⟩
 have h0:t0.2.1 * p.2.2≠0\/t0.2.2.1 * p.2.2≠0:=n0.imp (λz=>Int.mul_ne_zero z (by omega)) λz=>Int.mul_ne_zero z (by omega);refine zHa (e:=(t0.2.1 * p.2.2,t0.2.2.1 * p.2.2,t0.2.1 * p.1 + t0.2.2.1 * p.2.1)) (wF h0) (by unfold sv; grind) pw wp (uQ hw h0 (.inl rfl)) (uQ hw h0 (.inr rfl)) λu hu htu hwu=>?_;obtain ⟨s1,o1,o2⟩:=wJ htu;exact edge u hu _ s1.pos o2 hwu
def rt (A B:P3):P3:=(-(A.2.1 * B.2.2 - A.2.2 * B.2.1),A.1 * B.2.2 - A.2.2 * B.1,A.1 * B.2.1 - A.2.1 * B.1)
theorem zRk (A B p:P3):sv (rt A B) p = -c3 A B p:=by
 unfold sv rt c3;grind
theorem sC (A B C:P3):c3 B C A = c3 A B C:=by
 unfold c3;grind
theorem zNy (A B C:P3):c3 B A C = -c3 A B C:=by
 unfold c3;grind
theorem bary (g O A B p:P3):c3 O A B * sv g p = c3 A B p * sv g O + c3 B O p * sv g A + c3 O A p * sv g B:=by
 unfold c3 sv;grind
theorem zHq {ss:List Sd} {O A B C:P3} (cO:Cor ss O) (cA:Cor ss A) (cB:Cor ss B) (cC:Cor ss C) (hOB:O≠B) (h1:0 < c3 A C B) (h2:0<=c3 C O B) (h3:0<=c3 O A B) (hD:0 < c3 O A C):False:=by
 obtain ⟨e,f,hef,s1,s2,hw,_,pB,lB⟩:=rN cB;obtain ⟨_,_,_,_,_,_,wO,pO,lO⟩:=rN cO;obtain ⟨_,_,_,_,_,_,wA,_,_⟩:=rN cA;obtain ⟨_,_,_,_,_,_,wC,_,_⟩:=rN cC;have key:∀ g:P3,sv g B = 0->sv g O<=0->sv g A<=0->sv g C<=0->sv g O = 0:=λg g0 g1 g2 g3=>by
  have z:=bary g O A C B;rw [g0,Int.mul_zero] at z;have y1:=Int.mul_nonneg (Int.le_of_lt h1) (show 0<=-sv g O by omega);have y2:=Int.mul_nonneg h2 (show 0<=-sv g A by omega);have y3:=Int.mul_nonneg h3 (show 0<=-sv g C by omega);rw [Int.mul_neg] at y1 y2 y3;have y4:c3 A C B * sv g O = 0:=by omega
  exact (Int.mul_eq_zero.mp y4).resolve_left (by omega)
 obtain ⟨x1,x2⟩:=zNe hef pO pB (key e s1 (hw O wO).1 (hw A wA).1 (hw C wC).1) (key f s2 (hw O wO).2 (hw A wA).2 (hw C wC).2) s1 s2;exact hOB (uK pO pB lO lB x1 x2)
theorem zB0 {D x:Int} (hD:0 < D) (h:D * x<=0):x<=0:=by
 rcases Int.lt_or_le 0 x with z | z
 ·have:=Int.mul_pos hD z;omega
 ·exact z
structure Rg (ss:List Sd) (O:P3) (rest:List P3):Prop where
 nz:∀ t∈ss,t.2.1≠0\/t.2.2.1≠0
 ne:ss≠[]
 nw:∀ x y:Int,(x≠0\/y≠0)->vG ss x y = false
 mem:∀ P:P3,P∈O :: rest↔Cor ss P
 fw:∀ A∈rest,O≠A/\fwd (wy O A)
 left:rest.Pairwise λA B=>0 < c3 O A B
section
variable {ss:List Sd} {O:P3} {rest:List P3} {p:P3}
theorem Rg.cO (R:Rg ss O rest):Cor ss O:=(R.mem O).mp (.head _)
theorem Rg.cA (R:Rg ss O rest) {k:Nat} (hk:k < rest.length):Cor ss rest[k]:=(R.mem _).mp (.tail _ (List.getElem_mem hk))
theorem Rg.lt (R:Rg ss O rest) {i j:Nat} (hij:i < j) (hj:j < rest.length):0 < c3 O (rest[i]'(by omega)) rest[j]:=List.pairwise_iff_getElem.mp R.left i j (by omega) hj hij
theorem zLf (A B:P3):c3 A B A = 0:=by unfold c3; grind
theorem zKk (A B:P3):c3 A B B = 0:=by unfold c3; grind
theorem Rg.corner (R:Rg ss O rest) {C:P3} (cC:Cor ss C):C = O\/∃ k,∃ h:k < rest.length,C = rest[k]:=by
 rcases List.mem_cons.mp ((R.mem C).mpr cC) with e | h
 ·exact .inl e
 ·obtain ⟨k,hk,e⟩:=List.getElem_of_mem h;exact .inr ⟨k,hk,e.symm⟩
theorem Rg.hull (R:Rg ss O rest) {A B:P3} (h:∀ C,Cor ss C->0<=c3 A B C) (pw:0 < p.2.2) (wp:inW ss p):0<=c3 A B p:=by
 have z:=Sea.hull R.nz R.ne R.nw (g:=rt A B) (λC cC=>by rw [zRk]; have:=h C cC; omega) pw wp;rw [zRk] at z;omega
theorem Rg.fwd_in (R:Rg ss O rest) (two:2<=rest.length) (pw:0 < p.2.2) (wp:inW ss p):0<=c3 (rest[rest.length - 1]'(by omega)) O p/\0<=c3 O (rest[0]'(by omega)) p/\∀ k,(h:k + 1 < rest.length)->0<=c3 (rest[k]'(by omega)) rest[k + 1] p:=by
 refine ⟨R.hull (λC cC=>?_) pw wp,R.hull (λC cC=>?_) pw wp,λk h=>R.hull (λC cC=>?_) pw wp⟩
 ·rw [<- sC];rcases R.corner cC with rfl | ⟨k,hk,rfl⟩
  ·rw [<- sC,zLf];exact Int.le_refl _
  ·by_cases e:k = rest.length - 1
   ·subst e;rw [zKk];exact Int.le_refl _
   ·exact Int.le_of_lt (R.lt (by omega) (by omega))
 ·rcases R.corner cC with rfl | ⟨k,hk,rfl⟩
  ·rw [zLf];exact Int.le_refl _
  ·by_cases e:k = 0
   ·subst e;rw [zKk];exact Int.le_refl _
   ·exact Int.le_of_lt (R.lt (by omega) hk)
 ·have hAB:=R.lt (show k < k + 1 by omega) h;rcases R.corner cC with rfl | ⟨j,hj,rfl⟩
  ·rw [sC];exact Int.le_of_lt hAB
  ·by_cases e1:j = k
   ·subst e1;rw [zLf];exact Int.le_refl _
   ·by_cases e2:j = k + 1
    ·subst e2;rw [zKk];exact Int.le_refl _
    ·rcases Int.lt_or_le (c3 (rest[k]'(by omega)) rest[k + 1] rest[j]) 0 with z | z
     ·exfalso;by_cases lt:j < k
      ·refine zHq (O:=O) (A:=rest[j]) (B:=rest[k]'(by omega)) (C:=rest[k + 1]) R.cO (R.cA hj) (R.cA (by omega)) (R.cA h) (R.fw _ (List.getElem_mem _)).1 ?_ ?_ ?_ (R.lt (by omega) h)
       ·have e:c3 rest[j] rest[k + 1] (rest[k]'(by omega)) = -c3 (rest[k]'(by omega)) rest[k + 1] rest[j]:=by unfold c3; grind
        omega
       ·have e:c3 rest[k + 1] O (rest[k]'(by omega)) = c3 O (rest[k]'(by omega)) rest[k + 1]:=by unfold c3; grind
        omega
       ·exact Int.le_of_lt (R.lt lt (by omega))
      ·refine zHq (O:=O) (A:=rest[k]'(by omega)) (B:=rest[k + 1]) (C:=rest[j]) R.cO (R.cA (by omega)) (R.cA h) (R.cA hj) (R.fw _ (List.getElem_mem _)).1 ?_ ?_ (Int.le_of_lt hAB) (R.lt (by omega) hj)
       ·have e:c3 (rest[k]'(by omega)) rest[j] rest[k + 1] = -c3 (rest[k]'(by omega)) rest[k + 1] rest[j]:=by unfold c3; grind
        omega
       ·have e:c3 rest[j] O rest[k + 1] = c3 O rest[k + 1] rest[j]:=by unfold c3; grind
        have:=R.lt (show k + 1 < j by omega) hj;omega
     ·exact z
end
theorem Rg.one {ss:List Sd} {O p:P3} (R:Rg ss O []) (pw:0 < p.2.2):inW ss p↔(O.1 * p.2.2 = p.1 * O.2.2/\O.2.1 * p.2.2 = p.2.1 * O.2.2):=by
 obtain ⟨_,_,_,_,_,_,wO,pO,_⟩:=rN R.cO;constructor
 ·intro wp;have h:∀ g:P3,sv g O = 0->sv g p<=0:=λg hg=>Sea.hull R.nz R.ne R.nw (λC cC=>by
   rcases R.corner cC with rfl | ⟨k,hk,_⟩
   ·rw [hg]; exact Int.le_refl _
   ·cases hk) pw wp
  have a1:=h (O.2.2,0,O.1) (by unfold sv; grind);have a2:=h (-O.2.2,0,-O.1) (by unfold sv; grind);have a3:=h (0,O.2.2,O.2.1) (by unfold sv; grind);have a4:=h (0,-O.2.2,-O.2.1) (by unfold sv; grind);unfold sv at a1 a2 a3 a4;dsimp only at a1 a2 a3 a4;rw [Int.neg_mul,Int.neg_mul] at a2;rw [Int.neg_mul,Int.neg_mul] at a4;rw [Int.mul_comm p.1,Int.mul_comm p.2.1];omega
 ·rintro ⟨e1,e2⟩ t ht;have z:O.2.2 * sv t.2 p = p.2.2 * sv t.2 O:=by unfold sv; grind
  refine zB0 pO ?_;rw [z];have:=Int.mul_nonneg (Int.le_of_lt pw) (show 0<=-sv t.2 O by have:=wO t ht; omega);rw [Int.mul_neg] at this;omega
end Sea

namespace Sea
open PySem L2
def arS (O:P3) (r:Nat->P3):Nat->Int × Int
 | 0=>(0,1)
 | j + 1=>((arS O r j).1 * (r (j + 1)).2.2 + c3 O (r j) (r (j + 1)) * (arS O r j).2,(arS O r j).2 * (r j).2.2)
def arB (O:P3) (r:Nat->P3) (j:Nat):Int:=2 * O.2.2 * (arS O r j).2 * (r j).2.2
structure Fq (x y N B:Int):Prop where
 pos:1<=y
 low:Nat.gcd x.natAbs y.natAbs = 1
 eq:x * B = y * N
theorem Fq.yle {x y N B:Int} (f:Fq x y N B) (hB:B≠0):y.natAbs<=B.natAbs:=by
 have d:y.natAbs ∣ x.natAbs * B.natAbs:=by
  rw [<- Int.natAbs_mul,f.eq,Int.natAbs_mul];exact Nat.dvd_mul_right _ _
 have d2:=Nat.Coprime.dvd_of_dvd_mul_left (Nat.Coprime.symm f.low) d;exact Nat.le_of_dvd (by omega) d2
theorem Fq.xle {x y N B:Int} (f:Fq x y N B) (hB:B≠0):x.natAbs<=N.natAbs:=by
 by_cases hN:N = 0
 ·have z:=f.eq;rw [hN,Int.mul_zero] at z;have:=(Int.mul_eq_zero.mp z).resolve_right hB;rw [this];exact Nat.zero_le _
 ·have d:x.natAbs ∣ y.natAbs * N.natAbs:=by
   rw [<- Int.natAbs_mul,<- f.eq,Int.natAbs_mul];exact Nat.dvd_mul_right _ _
  have d2:=Nat.Coprime.dvd_of_dvd_mul_left f.low d;exact Nat.le_of_dvd (by omega) d2
theorem zM1 {x1 y1 x2 y2 x y N P w0 w w' c:Int} (hw0:0 < w0) (hw:0 < w) (hy1:1<=y1) (hy2:1<=y2) (e1:x1 * (2 * w0 * P * w) = y1 * N) (e2:x2 * (2 * w0 * w * w') = y2 * c) (e3:x * (y1 * y2) = y * (x1 * y2 + x2 * y1)) :
  x * (2 * w0 * (P * w) * w') = y * (N * w' + c * P):=by
 have k:(x * (2 * w0 * (P * w) * w') - y * (N * w' + c * P)) * (y1 * y2 * (2 * w0 * w)) = 0:=by
  have a1:x * (2 * w0 * (P * w) * w') * (y1 * y2 * (2 * w0 * w)) = (x * (y1 * y2)) * ((2 * w0 * P * w) * (2 * w0 * w * w')):=by grind
  have a2:y * (x1 * y2 + x2 * y1) * ((2 * w0 * P * w) * (2 * w0 * w * w')) = y * ((x1 * (2 * w0 * P * w)) * (y2 * (2 * w0 * w * w')) + (x2 * (2 * w0 * w * w')) * (y1 * (2 * w0 * P * w))):=by grind
  rw [Int.sub_mul,a1,e3,a2,e1,e2];grind
 have n1:y1 * y2 * (2 * w0 * w)≠0:=Int.mul_ne_zero (Int.mul_ne_zero (by omega) (by omega)) (Int.mul_ne_zero (by omega) (by omega));have:=(Int.mul_eq_zero.mp k).resolve_right n1;omega
theorem Fq.plus {O:P3} {r:Nat->P3} {j:Nat} {x1 y1 x2 y2 x y:Int} (hO:0 < O.2.2) (hr:0 < (r j).2.2) (f:Fq x1 y1 (arS O r j).1 (arB O r j)) (p2:rP (O.2.2 * c3 O (r j) (r (j + 1))) (2 * O.2.2 ^ 2 * (r j).2.2 * (r (j + 1)).2.2) x2 y2)
  (p:rP (x1 * y2 + x2 * y1) (y1 * y2) x y):Fq x y (arS O r (j + 1)).1 (arB O r (j + 1)):=by
 refine ⟨p.pos,p.low,?_⟩;have e2:x2 * (2 * O.2.2 * (r j).2.2 * (r (j + 1)).2.2) = y2 * c3 O (r j) (r (j + 1)):=by
  have z:=p2.eq;have k:(x2 * (2 * O.2.2 * (r j).2.2 * (r (j + 1)).2.2) - y2 * c3 O (r j) (r (j + 1))) * O.2.2 = 0:=by
   have a:x2 * (2 * O.2.2 ^ 2 * (r j).2.2 * (r (j + 1)).2.2) = x2 * (2 * O.2.2 * (r j).2.2 * (r (j + 1)).2.2) * O.2.2:=by grind
   rw [a] at z;rw [Int.sub_mul,z];grind
  have:=(Int.mul_eq_zero.mp k).resolve_right (by omega);omega
 exact zM1 hO hr f.pos p2.pos f.eq e2 p.eq
theorem zFj {O:P3} {r:Nat->P3} : ∀ j,(∀ i,i < j->0 < (r i).2.2)->0 < (arS O r j).2
 | 0,_=>(show (0:Int) < 1 by decide)
 | j + 1,h=>Int.mul_pos (zFj j λi hi=>h i (by omega)) (h j (by omega))
theorem zIm {O:P3} {r:Nat->P3} {j:Nat} (hO:0 < O.2.2) (h:∀ i,i<=j->0 < (r i).2.2):0 < arB O r j :=
 Int.mul_pos (Int.mul_pos (Int.mul_pos (by decide) hO) (zFj j λi hi=>h i (by omega))) (h j (Nat.le_refl _))
theorem zQa {O:P3} {r:Nat->P3} : ∀ j,(∀ i,i<=j->0 < (r i).2.2)->(∀ i,i < j->0<=c3 O (r i) (r (i + 1)))->0<=(arS O r j).1
 | 0,_,_=>(show (0:Int)<=0 by decide)
 | j + 1,h,hc=>by
  have z1:=Int.mul_nonneg (zQa j (λi hi=>h i (by omega)) λi hi=>hc i (by omega)) (Int.le_of_lt (h (j + 1) (Nat.le_refl _)));have z2:=Int.mul_nonneg (hc j (by omega)) (Int.le_of_lt (zFj (O:=O) (r:=r) j λi hi=>h i (by omega)));show 0<=(arS O r j).1 * (r (j + 1)).2.2 + c3 O (r j) (r (j + 1)) * (arS O r j).2;omega
structure zH7 (p:P3):Prop where
 x:p.1.natAbs<=10 ^ 23
 y:p.2.1.natAbs<=10 ^ 23
 w:p.2.2.natAbs<=10 ^ 19
 pos:0 < p.2.2
theorem zNn {O A B:P3} (hO:zH7 O) (hA:zH7 A) (hB:zH7 B):(c3 O A B).natAbs<=10 ^ 66:=by
 have e1:(10:Nat) ^ 23 * 10 ^ 19 = 10 ^ 42:=by decide +kernel
 have e2:(10:Nat) ^ 23 * 10 ^ 23 = 10 ^ 46:=by decide +kernel
 have e3:(10:Nat) ^ 23 * (10 ^ 42 + 10 ^ 42) = 2 * 10 ^ 65:=by decide +kernel
 have e4:(10:Nat) ^ 19 * (10 ^ 46 + 10 ^ 46) = 2 * 10 ^ 65:=by decide +kernel
 have z1:=zG A.2.1 B.2.2 hA.y hB.w;have z2:=zG B.2.1 A.2.2 hB.y hA.w;have z3:=zG A.1 B.2.2 hA.x hB.w;have z4:=zG B.1 A.2.2 hB.x hA.w;have z5:=zG A.1 B.2.1 hA.x hB.y;have z6:=zG B.1 A.2.1 hB.x hA.y;rw [e1] at z1 z2 z3 z4;rw [e2] at z5 z6;have y1:=zG O.1 (A.2.1 * B.2.2 - B.2.1 * A.2.2) hO.x (n:=10 ^ 42 + 10 ^ 42) (by omega);have y2:=zG O.2.1 (A.1 * B.2.2 - B.1 * A.2.2) hO.y (n:=10 ^ 42 + 10 ^ 42) (by omega);have y3:=zG O.2.2 (A.1 * B.2.1 - B.1 * A.2.1) hO.w (n:=10 ^ 46 + 10 ^ 46) (by omega);rw [e3] at y1 y2;rw [e4] at y3;have e5:6 * (10:Nat) ^ 65<=10 ^ 66:=by decide +kernel
 unfold c3;generalize O.1 * (A.2.1 * B.2.2 - B.2.1 * A.2.2) = a at y1 ⊢;generalize O.2.1 * (A.1 * B.2.2 - B.1 * A.2.2) = b at y2 ⊢;generalize O.2.2 * (A.1 * B.2.1 - B.1 * A.2.1) = d at y3 ⊢;clear z1 z2 z3 z4 z5 z6 e1 e2 e3 e4;generalize (10:Nat) ^ 65 = M at y1 y2 y3 e5;generalize (10:Nat) ^ 66 = M' at e5 ⊢;omega
theorem zF8 {O:P3} {r:Nat->P3} (hO:zH7 O):∀ j,(∀ i,i<=j->zH7 (r i))->(arS O r j).1.natAbs<=j * 10 ^ (66 + 19 * j)/\(arS O r j).2.natAbs<=10 ^ (19 * j)
 | 0,_=>⟨(show (0:Int).natAbs<=0 * 10 ^ (66 + 19 * 0) by decide),(show (1:Int).natAbs<=10 ^ (19 * 0) by decide)⟩
 | j + 1,h=>by
  obtain ⟨h1,h2⟩:=zF8 hO j λi hi=>h i (by omega);have z1:=zG (arS O r j).1 (r (j + 1)).2.2 h1 (h (j + 1) (Nat.le_refl _)).w;have z2:=zG (c3 O (r j) (r (j + 1))) (arS O r j).2 (zNn hO (h j (by omega)) (h (j + 1) (Nat.le_refl _))) h2;have z3:=zG (arS O r j).2 (r j).2.2 h2 (h j (by omega)).w;have e1:(10:Nat) ^ (66 + 19 * (j + 1)) = 10 ^ (66 + 19 * j) * 10 ^ 19:=by rw [<- Nat.pow_add]; congr 1
  have e2:(10:Nat) ^ (19 * (j + 1)) = 10 ^ (19 * j) * 10 ^ 19:=by rw [<- Nat.pow_add]; congr 1
  have e3:(10:Nat) ^ 66 * 10 ^ (19 * j) = 10 ^ (66 + 19 * j):=by rw [<- Nat.pow_add]
  have e4:(10:Nat) ^ (66 + 19 * j)<=10 ^ (66 + 19 * j) * 10 ^ 19:=Nat.le_mul_of_pos_right _ (by decide);refine ⟨?_,by rw [e2]; exact z3⟩;show ((arS O r j).1 * (r (j + 1)).2.2 + c3 O (r j) (r (j + 1)) * (arS O r j).2).natAbs<=(j + 1) * 10 ^ (66 + 19 * (j + 1));rw [e3] at z2;rw [Nat.mul_assoc] at z1;rw [e1,Nat.add_mul,Nat.one_mul];have t:=Int.natAbs_add_le ((arS O r j).1 * (r (j + 1)).2.2) (c3 O (r j) (r (j + 1)) * (arS O r j).2);omega
theorem zOe {O:P3} {r:Nat->P3} {j:Nat} (hO:zH7 O) (hj:j<=16) (h:∀ i,i<=j->zH7 (r i)):(arS O r j).1.natAbs<=10 ^ 372:=by
 have z:=(zF8 hO j h).1;refine Nat.le_trans z (Nat.le_trans (Nat.mul_le_mul hj (Nat.pow_le_pow_right (by decide) (show 66 + 19 * j<=370 by omega))) (by decide +kernel))
theorem zM6 {O:P3} {r:Nat->P3} {j:Nat} (hO:zH7 O) (hj:j<=16) (h:∀ i,i<=j->zH7 (r i)):(arB O r j).natAbs<=10 ^ 343:=by
 have z:=(zF8 hO j h).2;have z1:=zG (2 * O.2.2) (arS O r j).2 (m:=2 * 10 ^ 19) (by have:=hO.w; omega) (Nat.le_trans z (Nat.pow_le_pow_right (by decide) (show 19 * j<=304 by omega)));have z2:=zG (2 * O.2.2 * (arS O r j).2) (r j).2.2 z1 (h j (Nat.le_refl _)).w;exact Nat.le_trans z2 (by decide +kernel)
theorem zJj {ss:List Sd} {P:P3} (sm:∀ t∈ss,t.2.1.natAbs<=10 ^ 9/\t.2.2.1.natAbs<=10 ^ 9/\t.2.2.2.natAbs<=10 ^ 13) (c:Cor ss P):zH7 P:=by
 obtain ⟨e,he,s,hs,h,rfl,_⟩:=c;obtain ⟨b1,b2,b3⟩:=sm e he;obtain ⟨c1,c2,c3⟩:=sm s hs;obtain ⟨x,y,w,el,sp⟩:=zAv (X:=e.2.2.2 * s.2.2.1 - e.2.2.1 * s.2.2.2) (Y:=e.2.1 * s.2.2.2 - e.2.2.2 * s.2.1) (W:=e.2.1 * s.2.2.1 - e.2.2.1 * s.2.1) h;have e1:crL e.2 s.2 = [x,y,w]:=el;rw [e1];have z1:=zG e.2.2.2 s.2.2.1 b3 c2;have z2:=zG e.2.2.1 s.2.2.2 b2 c3;have z3:=zG e.2.1 s.2.2.2 b1 c3;have z4:=zG e.2.2.2 s.2.1 b3 c1;have z5:=zG e.2.1 s.2.2.1 b1 c2;have z6:=zG e.2.2.1 s.2.1 b2 c1;have x1:=sp.xle;have x2:=sp.yle;have x3:=sp.wle;have x4:=sp.pos;exact ⟨by show x.natAbs<=_; omega,by show y.natAbs<=_; omega,by show w.natAbs<=_; omega,by show 0 < w; omega⟩
theorem Rg.nodup {ss:List Sd} {O:P3} {rest:List P3} (R:Rg ss O rest):(O :: rest).Nodup:=by
 refine List.nodup_cons.mpr ⟨λh=>(R.fw O h).1 rfl,?_⟩;rw [List.nodup_iff_pairwise_ne] ;exact R.left.imp λ{A B} h e=>by
  rw [e,zKk] at h;exact absurd h (by decide)
end Sea

namespace L2
open PySem PySem.Spec PyProof.Rows
end L2

namespace PyProof.Rows
open PySem
abbrev zR7:Bool->Keyed->Array Keyed->Nat->Nat->Nat->StateT SortSt Sem (Option Nat):=sortPriv% PySem.Builtin.gallop
abbrev zO3:Array Keyed->Array Keyed->StateT SortSt Sem (Array Keyed):=sortPriv% PySem.Builtin.mergeLo
abbrev zO6:Array Keyed->Array Keyed->StateT SortSt Sem (Array Keyed):=sortPriv% PySem.Builtin.mergeHi
def zJ4 (prog:Program) (w:World) (A:Around) (s:Shared) (κ:SortKind) (ys:List Keyed):Prop :=
 ∀ x y:Keyed,x∈ys->y∈ys->∀ Q:Bool->Shared->Prop,(∀ b,Q b s)->wpAny (model prog w) A (keyLt' κ x.1 y.1) Q (λ_ _=>False) s
def zAp (st st':SortSt):Prop:=kindOf st' = kindOf st/\arrOf st' = arrOf st/\pendingOf st' = pendingOf st/\failedOf st' = failedOf st
theorem zAp.refl (st:SortSt):zAp st st:=⟨rfl,rfl,rfl,rfl⟩
theorem zAp.trans {a b c:SortSt} (h:zAp a b) (k:zAp b c):zAp a c:=⟨k.1.trans h.1,k.2.1.trans h.2.1,k.2.2.1.trans h.2.2.1,k.2.2.2.trans h.2.2.2⟩
section
variable {prog:Program} {w:World} {A:Around} {E:Value->Shared->Prop} {s:Shared} {st:SortSt} {κ:SortKind} {ys:List Keyed}
theorem vY {α:Type} {m:Sem α} {Q:α->SortSt->Prop} (h:wpAny (model prog w) A m (λa s'=>s' = s/\Q a st) E s):wpS (model prog w) A E s (liftM m:StateT SortSt Sem α) Q st:=by
 unfold wpS;show wpAny (model prog w) A ((StateT.lift m:StateT SortSt Sem α).run st) _ E s;rw [StateT.run_lift];exact wpAny_bind (wpAny_mono h (λa s' h'=>wpAny_pure h') λ_ _ e=>e)
theorem zD5 (ha:zJ4 prog w A s κ ys) (hk:kindOf st = κ) {x y:Keyed} (hx:x∈ys) (hy:y∈ys) {Q:Option Bool->SortSt->Prop} (h:∀ b,Q (some b) st):wpS (model prog w) A E s (lt' x y) Q st:=by
 rw [lt'_eq];refine wpS_bind (wpS_get ?_);rw [hk];refine wpS_bind (vY (wpAny_attempt (wpAny_mono (ha x y hx hy (λb s'=>s' = s) λb=>rfl) (λb s' e=>?_) λ_ _ e=>e.elim)));exact ⟨e,wpS_pure (h b)⟩
theorem yF {arr:Array Keyed} {i:Nat} (hi:i < arr.size) {Q:Keyed->SortSt->Prop} (h:Q arr[i] st):wpS (model prog w) A E s (elem' arr i) Q st:=by
 rw [elem'_eq,Array.getElem?_eq_getElem hi];exact wpS_pure h
theorem yS {α:Type} {c:Prop} [Decidable c] {m m':StateT SortSt Sem α} {Q:α->SortSt->Prop} (h1:c->wpS (model prog w) A E s m Q st) (h2:¬ c->wpS (model prog w) A E s m' Q st):wpS (model prog w) A E s (if c then m else m') Q st:=by
 split
 ·exact h1 (by assumption)
 ·exact h2 (by assumption)
theorem yP {α:Type} {x y:Nat} {m m':StateT SortSt Sem α} {Q:α->SortSt->Prop} (h1:x = y->wpS (model prog w) A E s m Q st) (h2:x≠y->wpS (model prog w) A E s m' Q st):wpS (model prog w) A E s (if (x == y) = true then m else m') Q st:=by
 refine yS (λe=>h1 (by simpa using e)) λe=>h2 (by simpa using e)
theorem vV (ha:zJ4 prog w A s κ ys) (hk:kindOf st = κ) {left:Bool} {key:Keyed} {arr:Array Keyed} {base n hint:Nat} (hkey:key∈ys) (harr:∀ i,i < n->∃ h:base + i < arr.size,arr[base + i]∈ys) (hh:hint < n)
  {Q:Option Nat->SortSt->Prop} (h:∀ k,k<=n->Q (some k) st):wpS (model prog w) A E s (zR7 left key arr base n hint) Q st:=by
 have bey:∀ (i:Nat),i < n->∀ {Q':Option Bool->SortSt->Prop},(∀ b,Q' (some b) st)->wpS (model prog w) A E s (do
   let x <- elem' arr (base + i)
   if left = true then lt' x key else do
    let r <- lt' key x
    pure (Option.map (λx=>!x) r)) Q' st:=λi hi {Q'} q=>by
  obtain ⟨h1,h2⟩:=harr i hi;refine wpS_bind (yF h1 ?_);cases left with
  | true=>exact zD5 ha hk h2 hkey q
  | false=>exact wpS_bind (zD5 ha hk hkey h2 λb=>wpS_pure (q _))
 refine wpS_bind (bey hint hh λright=>?_);dsimp only;cases right with
 | true =>
  simp only [if_true];refine wpS_bind (wpS_mono (wpS_forRange (I:=λ_ c st'=>st' = st/\∃ l o,c = (none,l,o)) (Q:=λc st'=>st' = st/\∃ l o,c = (none,l,o)) ?_ (λc st' hI=>hI) ⟨rfl,_,_,rfl⟩) ?_)
  ·rintro i c st' _ hi ⟨rfl,l,o,rfl⟩;dsimp only;split
   ·exact wpS_pure ⟨rfl,_,_,rfl⟩
   ·refine wpS_bind (bey (hint + o) (by omega) λb=>?_);cases b with
    | true=>exact wpS_pure ⟨rfl,_,_,rfl⟩
    | false=>exact wpS_pure ⟨rfl,_,_,rfl⟩
  ·rintro c st' ⟨rfl,l,o,rfl⟩;dsimp only;refine wpS_bind (wpS_mono (wpS_forRange (I:=λ_ c st''=>st'' = st'/\∃ lo hi,c = (none,lo,hi)/\hi<=n) (Q:=λc st''=>st'' = st'/\∃ lo hi,c = (none,lo,hi)/\hi<=n) ?_ (λc st' hI=>hI) ⟨rfl,_,_,rfl,by omega⟩) ?_)
   ·rintro i c st'' _ hi ⟨rfl,lo,hi',rfl,hle⟩;dsimp only;split
    ·exact wpS_pure ⟨rfl,_,_,rfl,hle⟩
    ·refine wpS_bind (bey _ (by omega) λb=>?_);cases b with
     | true=>exact wpS_pure ⟨rfl,_,_,rfl,hle⟩
     | false=>exact wpS_pure ⟨rfl,_,_,rfl,by omega⟩
   ·rintro c st'' ⟨rfl,lo,hi',rfl,hle⟩;exact wpS_pure (h _ hle)
 | false =>
  simp only [Bool.false_eq_true,if_false];refine wpS_bind (wpS_mono (wpS_forRange (I:=λ_ c st'=>st' = st/\∃ l o,c = (none,l,o)) (Q:=λc st'=>st' = st/\∃ l o,c = (none,l,o)) ?_ (λc st' hI=>hI) ⟨rfl,_,_,rfl⟩) ?_)
  ·rintro i c st' _ hi ⟨rfl,l,o,rfl⟩;dsimp only;split
   ·exact wpS_pure ⟨rfl,_,_,rfl⟩
   ·refine wpS_bind (bey (hint - o) (by omega) λb=>?_);cases b with
    | true=>exact wpS_pure ⟨rfl,_,_,rfl⟩
    | false=>exact wpS_pure ⟨rfl,_,_,rfl⟩
  ·rintro c st' ⟨rfl,l,o,rfl⟩;dsimp only;refine wpS_bind (wpS_mono (wpS_forRange (I:=λ_ c st''=>st'' = st'/\∃ lo hi,c = (none,lo,hi)/\hi<=n) (Q:=λc st''=>st'' = st'/\∃ lo hi,c = (none,lo,hi)/\hi<=n) ?_ (λc st' hI=>hI) ⟨rfl,_,_,rfl,by omega⟩) ?_)
   ·rintro i c st'' _ hi ⟨rfl,lo,hi',rfl,hle⟩;dsimp only;split
    ·exact wpS_pure ⟨rfl,_,_,rfl,hle⟩
    ·refine wpS_bind (bey _ (by omega) λb=>?_);cases b with
     | true=>exact wpS_pure ⟨rfl,_,_,rfl,hle⟩
     | false=>exact wpS_pure ⟨rfl,_,_,rfl,by omega⟩
   ·rintro c st'' ⟨rfl,lo,hi',rfl,hle⟩;exact wpS_pure (h _ hle)
end
structure zCk (x y out:Array Keyed) (ia ib:Nat):Prop where
 pm:out.toList.Perm (x.toList.take ia ++ y.toList.take ib)
 la:ia<=x.size
 lb:ib<=y.size
section
variable {x y out:Array Keyed} {ia ib:Nat}
theorem zG6 {z:Array Keyed} {i k:Nat} (h:i + k<=z.size):z.toList.take (i + k) = z.toList.take i ++ (z.extract i (i + k)).toList:=by
 rw [Array.toList_extract,List.extract_eq_take_drop,Nat.add_sub_cancel_left,List.take_add]
theorem zF6 {z:Array Keyed} {i:Nat} (h:i < z.size):z.toList.take (i + 1) = z.toList.take i ++ [z[i]]:=by
 rw [List.take_add_one,List.getElem?_eq_getElem (by rw [Array.length_toList]; exact h)];rfl
theorem zCk.b (t:zCk x y out ia ib) (h:ib < y.size):zCk x y (out.push y[ib]) ia (ib + 1):=by
 refine ⟨?_,t.la,h⟩;rw [Array.toList_push,zF6 h,<- List.append_assoc];exact t.pm.append_right _
theorem zCk.a (t:zCk x y out ia ib) (h:ia < x.size):zCk x y (out.push x[ia]) (ia + 1) ib:=by
 refine ⟨?_,h,t.lb⟩;rw [Array.toList_push,zF6 h];refine (t.pm.append_right _).trans ?_;rw [List.append_assoc,List.append_assoc];exact List.Perm.append_left _ List.perm_append_comm
theorem zCk.as (t:zCk x y out ia ib) {k:Nat} (h:ia + k<=x.size):zCk x y (out ++ x.extract ia (ia + k)) (ia + k) ib:=by
 refine ⟨?_,h,t.lb⟩;rw [Array.toList_append,zG6 h];refine (t.pm.append_right _).trans ?_;rw [List.append_assoc,List.append_assoc];exact List.Perm.append_left _ List.perm_append_comm
theorem zCk.bs (t:zCk x y out ia ib) {k:Nat} (h:ib + k<=y.size):zCk x y (out ++ y.extract ib (ib + k)) ia (ib + k):=by
 refine ⟨?_,t.la,h⟩;rw [Array.toList_append,zG6 h,<- List.append_assoc];exact t.pm.append_right _
theorem zMh (z:Array Keyed) (i:Nat):(z.extract i z.size).toList = z.toList.drop i:=by
 rw [Array.toList_extract,List.extract_eq_take_drop,List.take_of_length_le (by rw [List.length_drop,Array.length_toList]; exact Nat.le_refl _)]
theorem zCk.done (t:zCk x y out ia ib):(out ++ x.extract ia x.size ++ y.extract ib y.size).toList.Perm (x.toList ++ y.toList):=by
 rw [Array.toList_append,Array.toList_append,zMh,zMh];have h:(x.toList ++ y.toList) = (x.toList.take ia ++ x.toList.drop ia) ++ (y.toList.take ib ++ y.toList.drop ib):=by rw [List.take_append_drop,List.take_append_drop]
 rw [h];refine ((t.pm.append_right _).append_right _).trans ?_;simp only [List.append_assoc];refine List.Perm.append_left _ ?_;rw [<- List.append_assoc,<- List.append_assoc];exact List.perm_append_comm.append_right _
theorem zCk.last (t:zCk x y out ia ib):(out ++ y.extract ib y.size ++ x.extract ia x.size).toList.Perm (x.toList ++ y.toList):=by
 refine List.Perm.trans ?_ t.done;rw [Array.toList_append,Array.toList_append,Array.toList_append,Array.toList_append,List.append_assoc,List.append_assoc];exact List.Perm.append_left _ List.perm_append_comm
end
section
variable {prog:Program} {w:World} {A:Around} {E:Value->Shared->Prop} {s:Shared} {st:SortSt} {κ:SortKind} {ys:List Keyed}
theorem zEz {α:Type} {G:Prop} {code:Nat->StateT SortSt Sem α} {P:Nat->SortSt->Prop} {Q:α->SortSt->Prop} (use:(∀ n st2,P n st2->wpS (model prog w) A E s (code n) Q st2)->G) (H:∀ n st2,P n st2->wpS (model prog w) A E s (code n) Q st2):G:=use H
theorem qV {α:Type} {G:Prop} {code:Array Keyed->Nat->StateT SortSt Sem α} {P:Array Keyed->Nat->Prop} {Q:α->SortSt->Prop} (use:(∀ o n,P o n->wpS (model prog w) A E s (code o n) Q st)->G) (H:∀ o n,P o n->wpS (model prog w) A E s (code o n) Q st):G:=use H
theorem zIx (ha:zJ4 prog w A s κ ys) (hk:kindOf st = κ) {a b:Array Keyed} (hae:∀ u∈a.toList,u∈ys) (hbe:∀ u∈b.toList,u∈ys) (ha0:0 < a.size) (hb0:0 < b.size) {Q:Array Keyed->SortSt->Prop}
  (h:∀ out st',zAp st st'->out.toList.Perm (a.toList ++ b.toList)->Q out st'):wpS (model prog w) A E s (zO3 a b) Q st:=by
 have am:∀ i,(hi:i < a.size)->a[i]∈ys:=λi hi=>hae _ (by rw [<- Array.getElem_toList]; exact List.getElem_mem _);have bm:∀ i,(hi:i < b.size)->b[i]∈ys:=λi hi=>hbe _ (by rw [<- Array.getElem_toList]; exact List.getElem_mem _);refine wpS_bind (vY (wpAny_rule ⟨rfl,?_⟩));refine wpS_bind (yF hb0 ?_);have t0:zCk a b #[b[0]] 0 1:=⟨by rw [zF6 hb0]; simp,Nat.zero_le _,hb0⟩;refine yP (λe=>?_) (λnb1=>?_)
 ·exact wpS_pure (h _ _ (zAp.refl _) t0.done)
 refine yP (λe=>?_) (λna1=>?_)
 ·exact wpS_pure (h _ _ (zAp.refl _) t0.last)
 have nb1:1 < b.size:=Nat.lt_of_le_of_ne hb0 nb1;have na1:1 < a.size:=Nat.lt_of_le_of_ne ha0 na1;refine wpS_bind (wpS_get ?_);refine wpS_bind (wpS_mono (wpS_forRange (I:=λi c st'=>zAp st st'/\∃ out ia ib mg,c = (none,out,ia,ib,mg)/\zCk a b out ia ib/\ia + 1 < a.size/\ib < b.size/\i + 1<=ia + ib)
  (Q:=λc st'=>zAp st st'/\∃ r out ia ib mg,c = (some r,out,ia,ib,mg)/\r.toList.Perm (a.toList ++ b.toList)) ?_ ?_ ⟨zAp.refl _,_,_,_,_,rfl,t0,na1,nb1,Nat.le_refl _⟩) ?_)
 ·rintro i c st1 _ hi ⟨kp,out,ia,ib,mg,rfl,tk,la,lb,pr⟩;refine wpS_bind (wpS_mono (wpS_forRange (I:=λj c st'=>zAp st st'/\∃ out' ia' ib' ac bc,c = (none,out',ia',ib',ac,bc)/\zCk a b out' ia' ib'/\ia' + 1 < a.size/\ib' < b.size/\i + 1 + j<=ia' + ib')
   (Q:=λc st'=>zAp st st'/\∃ r out' ia' ib' ac bc,c = (r,out',ia',ib',ac,bc)/\((∃ z,r = some z/\z.toList.Perm (a.toList ++ b.toList))\/(r = none/\zCk a b out' ia' ib'/\ia' + 1 < a.size/\ib' < b.size/\i + 2<=ia' + ib'))) ?_ ?_ ⟨kp,_,_,_,_,_,rfl,tk,la,lb,by omega⟩) ?_)
  ·rintro j c st2 _ hj ⟨kp2,out,ia,ib,ac,bc,rfl,tk,la,lb,pr⟩;refine wpS_bind (yF lb (wpS_bind (yF (show ia < a.size by omega) (wpS_bind (zD5 ha (kp2.1.trans hk) (bm ib lb) (am ia (by omega)) λwin=>?_)))));cases win with
   | true =>
    refine wpS_bind (yF lb ?_);have tk':=tk.b lb;refine yP (λe1=>?_) (λe1=>?_)
    ·exact wpS_pure ⟨kp2,_,_,_,_,_,_,rfl,.inl ⟨_,rfl,tk'.done⟩⟩
    ·have lb':ib + 1 < b.size:=Nat.lt_of_le_of_ne lb e1;refine yS (λe2=>?_) (λe2=>?_)
     ·exact wpS_pure ⟨kp2,none,_,ia,ib + 1,0,bc + 1,rfl,.inr ⟨rfl,tk',la,lb',by omega⟩⟩
     ·exact wpS_pure ⟨kp2,_,ia,ib + 1,0,bc + 1,rfl,tk',la,lb',by omega⟩
   | false =>
    refine wpS_bind (yF (show ia < a.size by omega) ?_);have tk':=tk.a (show ia < a.size by omega);refine yP (λe1=>?_) (λe1=>?_)
    ·exact wpS_pure ⟨kp2,_,_,_,_,_,_,rfl,.inl ⟨_,rfl,tk'.last⟩⟩
    ·have la':ia + 1 + 1 < a.size:=Nat.lt_of_le_of_ne la e1;refine yS (λe2=>?_) (λe2=>?_)
     ·exact wpS_pure ⟨kp2,none,_,ia + 1,ib,ac + 1,0,rfl,.inr ⟨rfl,tk',la',lb,by omega⟩⟩
     ·exact wpS_pure ⟨kp2,_,ia + 1,ib,ac + 1,0,rfl,tk',la',lb,by omega⟩
  ·rintro c st2 ⟨_,out,ia,ib,ac,bc,rfl,_,h1,h2,h3⟩;exfalso;have:a.size + b.size<=max 0 (a.size + b.size):=Nat.le_max_right _ _;omega
  ·rintro c st2 ⟨kp2,r,out,ia,ib,ac,bc,rfl,hr⟩;rcases hr with ⟨z,rfl,pm⟩ | ⟨rfl,tk,la,lb,pr⟩
   ·exact wpS_pure ⟨kp2,_,_,_,_,_,rfl,pm⟩
   ·refine wpS_bind (vY (wpAny_rule ⟨rfl,?_⟩));refine wpS_bind (wpS_mono (wpS_forRange (I:=λ_ c st'=>zAp st st'/\∃ out' ia' ib' mg' ac' bc',c = (none,out',ia',ib',mg',ac',bc')/\zCk a b out' ia' ib'/\ia' + 1 < a.size/\ib' < b.size/\i + 2<=ia' + ib') (Q:=λc st'=>zAp st st'/\∃ r out' ia' ib' mg' ac' bc',c = (r,out',ia',ib',mg',ac',bc')/\((∃ z,r = some z/\z.toList.Perm (a.toList ++ b.toList))\/(r = none/\zCk a b out' ia' ib'/\ia' + 1 < a.size/\ib' < b.size/\i + 2<=ia' + ib'))) ?_ ?_ ⟨kp2,_,_,_,_,_,_,rfl,tk,la,lb,pr⟩) ?_)
    ·rintro j c st3 _ hj ⟨kp3,out,ia,ib,mg,ac,bc,rfl,tk,la,lb,pr⟩;dsimp only;revert mg;apply zEz (prog:=prog) (w:=w) (A:=A) (E:=E) (s:=s) (P:=λ_ st'=>zAp st st')
     case use =>
      intro H mg;refine yS (λe=>?_) (λe=>?_);rotate_left
      ·exact H mg _ kp3
      ·exact H _ _ kp3
     clear kp3 st3;intro mg st4 kp4;refine wpS_bind (wpS_modify ?_);refine wpS_bind (yF lb ?_);refine wpS_bind (vV ha ?g0 ?g1 ?g2 ?g3 (λk1 hk1=>?_))
     case g0=>exact kp4.1.trans hk
     case g1=>exact bm _ lb
     case g2=>exact (λi hi=>⟨by omega,am _ (by omega)⟩)
     case g3=>omega
     dsimp only;revert out ia;apply qV (prog:=prog) (w:=w) (A:=A) (E:=E) (s:=s) (P:=λout' ia'=>zCk a b out' ia' ib/\ia' + 1 < a.size/\i + 2<=ia' + ib)
     case use =>
      intro H out ia tk la pr hk1;refine yS (λe=>?_) (λe=>?_);rotate_left
      ·exact H out ia ⟨tk,la,pr⟩
      ·have tk':=tk.as (k:=k1) (by omega);refine yP (λe2=>?_) (λe2=>?_)
       ·exact wpS_pure ⟨kp4.trans ⟨rfl,rfl,rfl,rfl⟩,_,_,_,_,_,_,_,rfl,.inl ⟨_,rfl,tk'.last⟩⟩
       refine yP (λe3=>?_) (λe3=>?_)
       ·exact wpS_pure ⟨kp4.trans ⟨rfl,rfl,rfl,rfl⟩,_,_,_,_,_,_,_,rfl,.inl ⟨_,rfl,tk'.done⟩⟩
       exact H _ _ ⟨tk',by omega,by omega⟩
     rintro out ia' ⟨tk,la,q5⟩;refine wpS_bind (yF lb ?_);have tk6:=tk.b lb;refine yP (λe=>?_) (λe=>?_)
     ·exact wpS_pure ⟨kp4.trans ⟨rfl,rfl,rfl,rfl⟩,_,_,_,_,_,_,_,rfl,.inl ⟨_,rfl,tk6.done⟩⟩
     have la0:ia' < a.size:=by omega
     refine wpS_bind (yF la0 ?_);refine wpS_bind (vV ha ?g0 ?g1 ?g2 ?g3 (λk2 hk2=>?_))
     case g0=>exact kp4.1.trans hk
     case g1=>exact am _ la0
     case g2=>exact (λi hi=>⟨by omega,bm _ (by omega)⟩)
     case g3=>omega
     dsimp only;generalize out.push b[ib] = out2 at tk6 ⊢;clear tk;have lb6:ib + 1 < b.size:=by omega
     have q6:i + 3<=ia' + (ib + 1):=by omega
     clear lb e q5;generalize ib + 1 = ib2 at *;revert out2 ib2;apply qV (prog:=prog) (w:=w) (A:=A) (E:=E) (s:=s) (P:=λout' ib'=>zCk a b out' ia' ib'/\ib' < b.size/\i + 3<=ia' + ib')
     case use =>
      intro H;rintro out2 ib2
      intros
      rename_i hk2 tk6 lb6 q6
      refine yS (λe=>?_) (λe=>?_);rotate_left
      ·exact H out2 ib2 ⟨tk6,lb6,q6⟩
      ·have tk':=tk6.bs (k:=k2) (by omega);refine yP (λe2=>?_) (λe2=>?_)
       ·exact wpS_pure ⟨kp4.trans ⟨rfl,rfl,rfl,rfl⟩,_,_,_,_,_,_,_,rfl,.inl ⟨_,rfl,tk'.done⟩⟩
       exact H _ _ ⟨tk',by omega,by omega⟩
     rintro out ib' ⟨tk,lb7,q7⟩;refine wpS_bind (yF la0 ?_);have tk8:=tk.a la0;refine yP (λe=>?_) (λe=>?_)
     ·exact wpS_pure ⟨kp4.trans ⟨rfl,rfl,rfl,rfl⟩,_,_,_,_,_,_,_,rfl,.inl ⟨_,rfl,tk8.last⟩⟩
     refine yS (λe=>?_) (λe=>?_)
     ·exact wpS_pure ⟨kp4.trans ⟨rfl,rfl,rfl,rfl⟩,_,_,_,_,_,_,_,rfl,.inr ⟨rfl,tk8,by omega,lb7,by omega⟩⟩
     ·exact wpS_pure ⟨kp4.trans ⟨rfl,rfl,rfl,rfl⟩,_,_,_,_,_,_,rfl,tk8,by omega,lb7,by omega⟩
    ·rintro c st3 ⟨kp3,out,ia,ib,mg,ac,bc,rfl,tk,la,lb,pr⟩;exact ⟨kp3,_,_,_,_,_,_,_,rfl,.inr ⟨rfl,tk,la,lb,pr⟩⟩
    ·rintro c st3 ⟨kp3,r,out,ia,ib,mg,ac,bc,rfl,hr⟩;rcases hr with ⟨z,rfl,pm⟩ | ⟨rfl,tk,la,lb,pr⟩
     ·exact wpS_pure ⟨kp3,_,_,_,_,_,rfl,pm⟩
     ·refine wpS_bind (wpS_modify ?_);exact wpS_pure ⟨kp3.trans ⟨rfl,rfl,rfl,rfl⟩,_,_,_,_,rfl,tk,la,lb,by omega⟩
 ·rintro c st' ⟨_,out,ia,ib,mg,rfl,_,h1,h2,h3⟩;exfalso;have:a.size + b.size<=max 0 (a.size + b.size):=Nat.le_max_right _ _;omega
 ·rintro c st' ⟨kp,r,out,ia,ib,mg,rfl,pm⟩;exact wpS_pure (h _ _ kp pm)
end
structure zCi (x y out:Array Keyed) (na nb:Nat):Prop where
 pm:out.toList.Perm (x.toList.drop na ++ y.toList.drop nb)
 la:na<=x.size
 lb:nb<=y.size
section
variable {x y out:Array Keyed} {na nb:Nat}
theorem zF3 {z:Array Keyed} {i:Nat} (h:0 < i) (h2:i<=z.size):z.toList.drop (i - 1) = z[i - 1]'(by omega) :: z.toList.drop i:=by
 have e:i - 1 < z.toList.length:=by rw [Array.length_toList]; omega
 rw [List.drop_eq_getElem_cons e,show i - 1 + 1 = i by omega];rfl
theorem zA3 {z:Array Keyed} {i k:Nat} (h:k<=i):z.toList.drop k = (z.extract k i).toList ++ z.toList.drop i:=by
 rw [Array.toList_extract,List.extract_eq_take_drop];have e:=List.take_append_drop (i - k) (z.toList.drop k);rw [List.drop_drop,show k + (i - k) = i by omega] at e;exact e.symm
theorem zCi.a (t:zCi x y out na nb) (h:0 < na):zCi x y (out.push (x[na - 1]'(by have:=t.la; omega))) (na - 1) nb:=by
 have:=t.la;refine ⟨?_,by omega,t.lb⟩;rw [Array.toList_push,zF3 h t.la];refine (t.pm.append_right _).trans ?_;rw [List.cons_append];exact (List.perm_append_singleton _ _)
theorem zCi.b (t:zCi x y out na nb) (h:0 < nb):zCi x y (out.push (y[nb - 1]'(by have:=t.lb; omega))) na (nb - 1):=by
 have:=t.lb;refine ⟨?_,t.la,by omega⟩;rw [Array.toList_push,zF3 h t.lb];refine (t.pm.append_right _).trans ?_;rw [List.append_assoc];exact List.Perm.append_left _ (List.perm_append_singleton _ _)
theorem zCi.as (t:zCi x y out na nb) {k:Nat} (h:k<=na):zCi x y (out ++ (x.extract k na).reverse) k nb:=by
 have:=t.la;refine ⟨?_,by omega,t.lb⟩;rw [Array.toList_append,Array.toList_reverse,zA3 h];refine ((t.pm.append_right _).trans (List.Perm.append_left _ (List.reverse_perm _))).trans ?_;refine List.perm_append_comm.trans ?_;rw [List.append_assoc]
theorem zCi.bs (t:zCi x y out na nb) {k:Nat} (h:k<=nb):zCi x y (out ++ (y.extract k nb).reverse) na k:=by
 have:=t.lb;refine ⟨?_,t.la,by omega⟩;rw [Array.toList_append,Array.toList_reverse,zA3 h];refine ((t.pm.append_right _).trans (List.Perm.append_left _ (List.reverse_perm _))).trans ?_;rw [List.append_assoc];exact List.Perm.append_left _ List.perm_append_comm
theorem zGn (z:Array Keyed) (i:Nat):(z.extract 0 i).toList = z.toList.take i:=by
 rw [Array.toList_extract,List.extract_eq_take_drop,Nat.sub_zero,List.drop_zero]
theorem zCi.done (t:zCi x y out na nb):(x.extract 0 na ++ y.extract 0 nb ++ out.reverse).toList.Perm (x.toList ++ y.toList):=by
 rw [Array.toList_append,Array.toList_append,Array.toList_reverse,zGn,zGn];have h:(x.toList ++ y.toList) = (x.toList.take na ++ x.toList.drop na) ++ (y.toList.take nb ++ y.toList.drop nb):=by rw [List.take_append_drop,List.take_append_drop]
 rw [h];refine (List.Perm.append_left _ ((List.reverse_perm _).trans t.pm)).trans ?_;simp only [List.append_assoc];refine List.Perm.append_left _ ?_;rw [<- List.append_assoc,<- List.append_assoc];exact List.perm_append_comm.append_right _
theorem zCi.first (t:zCi x y out na nb):(y.extract 0 nb ++ x.extract 0 na ++ out.reverse).toList.Perm (x.toList ++ y.toList):=by
 refine List.Perm.trans ?_ t.done;rw [Array.toList_append,Array.toList_append,Array.toList_append,Array.toList_append];exact List.perm_append_comm.append_right _
end
section
variable {prog:Program} {w:World} {A:Around} {E:Value->Shared->Prop} {s:Shared} {st:SortSt} {κ:SortKind} {ys:List Keyed}
theorem zI1 (ha:zJ4 prog w A s κ ys) (hk:kindOf st = κ) {a b:Array Keyed} (hae:∀ u∈a.toList,u∈ys) (hbe:∀ u∈b.toList,u∈ys) (ha0:0 < a.size) (hb0:0 < b.size) {Q:Array Keyed->SortSt->Prop}
  (h:∀ out st',zAp st st'->out.toList.Perm (a.toList ++ b.toList)->Q out st'):wpS (model prog w) A E s (zO6 a b) Q st:=by
 have am:∀ i,(hi:i < a.size)->a[i]∈ys:=λi hi=>hae _ (by rw [<- Array.getElem_toList]; exact List.getElem_mem _);have bm:∀ i,(hi:i < b.size)->b[i]∈ys:=λi hi=>hbe _ (by rw [<- Array.getElem_toList]; exact List.getElem_mem _);refine wpS_bind (vY (wpAny_rule ⟨rfl,?_⟩));refine wpS_bind (yF (show a.size - 1 < a.size by omega) ?_);have t0:zCi a b #[a[a.size - 1]'(by omega)] (a.size - 1) b.size:=by
  refine ⟨?_,by omega,Nat.le_refl _⟩;rw [zF3 ha0 (Nat.le_refl _),List.drop_of_length_le (by rw [Array.length_toList]; exact Nat.le_refl _),List.drop_of_length_le (by rw [Array.length_toList]; exact Nat.le_refl _)];exact List.Perm.refl _
 refine yP (λe=>?_) (λe1=>?_)
 ·exact wpS_pure (h _ _ (zAp.refl _) t0.done)
 refine yP (λe=>?_) (λe2=>?_)
 ·exact wpS_pure (h _ _ (zAp.refl _) t0.first)
 refine wpS_bind (wpS_get ?_);refine wpS_bind (wpS_mono (wpS_forRange (I:=λi c st'=>zAp st st'/\∃ out na nb mg,c = (none,na,nb,out,mg)/\zCi a b out na nb/\0 < na/\1 < nb/\i + 1<=(a.size - na) + (b.size - nb))
  (Q:=λc st'=>zAp st st'/\∃ r out na nb mg,c = (some r,na,nb,out,mg)/\r.toList.Perm (a.toList ++ b.toList)) ?_ ?_ ⟨zAp.refl _,_,_,_,_,rfl,t0,by omega,by omega,by omega⟩) ?_)
 ·rintro i c st1 _ hi ⟨kp,out,na,nb,mg,rfl,tk,la,lb,pr⟩;refine wpS_bind (wpS_mono (wpS_forRange (I:=λj c st'=>zAp st st'/\∃ out' na' nb' ac bc,c = (none,na',nb',out',ac,bc)/\zCi a b out' na' nb'/\0 < na'/\1 < nb'/\i + 1 + j<=(a.size - na') + (b.size - nb'))
   (Q:=λc st'=>zAp st st'/\∃ r out' na' nb' ac bc,c = (r,na',nb',out',ac,bc)/\((∃ z,r = some z/\z.toList.Perm (a.toList ++ b.toList))\/(r = none/\zCi a b out' na' nb'/\0 < na'/\1 < nb'/\i + 2<=(a.size - na') + (b.size - nb')))) ?_ ?_ ⟨kp,_,_,_,_,_,rfl,tk,la,lb,by omega⟩) ?_)
  ·rintro j c st2 _ hj ⟨kp2,out,na,nb,ac,bc,rfl,tk,la,lb,pr⟩;have l1:=tk.la;have l2:=tk.lb;refine wpS_bind (yF (show nb - 1 < b.size by omega) (wpS_bind (yF (show na - 1 < a.size by omega) (wpS_bind (zD5 ha (kp2.1.trans hk) (bm _ (by omega)) (am _ (by omega)) λwin=>?_)))));cases win with
   | true =>
    refine wpS_bind (yF (show na - 1 < a.size by omega) ?_);have tk':=tk.a la;refine yP (λe=>?_) (λe=>?_)
    ·exact wpS_pure ⟨kp2,_,_,_,_,_,_,rfl,.inl ⟨_,rfl,tk'.done⟩⟩
    ·dsimp only at e;refine yS (λe2=>?_) (λe2=>?_)
     ·exact wpS_pure ⟨kp2,none,_,na - 1,nb,ac + 1,0,rfl,.inr ⟨rfl,tk',by omega,lb,by omega⟩⟩
     ·exact wpS_pure ⟨kp2,_,na - 1,nb,ac + 1,0,rfl,tk',by omega,lb,by omega⟩
   | false =>
    refine wpS_bind (yF (show nb - 1 < b.size by omega) ?_);have tk':=tk.b (show 0 < nb by omega);refine yP (λe=>?_) (λe=>?_)
    ·exact wpS_pure ⟨kp2,_,_,_,_,_,_,rfl,.inl ⟨_,rfl,tk'.first⟩⟩
    ·dsimp only at e;refine yS (λe2=>?_) (λe2=>?_)
     ·exact wpS_pure ⟨kp2,none,_,na,nb - 1,0,bc + 1,rfl,.inr ⟨rfl,tk',la,by omega,by omega⟩⟩
     ·exact wpS_pure ⟨kp2,_,na,nb - 1,0,bc + 1,rfl,tk',la,by omega,by omega⟩
  ·rintro c st2 ⟨_,out,na,nb,ac,bc,rfl,tk,h1,h2,h3⟩;exfalso;have:a.size + b.size<=max 0 (a.size + b.size):=Nat.le_max_right _ _;omega
  ·rintro c st2 ⟨kp2,r,out,na,nb,ac,bc,rfl,hr⟩;rcases hr with ⟨z,rfl,pm⟩ | ⟨rfl,tk,la,lb,pr⟩
   ·exact wpS_pure ⟨kp2,_,_,_,_,_,rfl,pm⟩
   ·refine wpS_bind (vY (wpAny_rule ⟨rfl,?_⟩));refine wpS_bind (wpS_mono (wpS_forRange (I:=λ_ c st'=>zAp st st'/\∃ out' na' nb' mg' ac' bc',c = (none,na',nb',out',mg',ac',bc')/\zCi a b out' na' nb'/\0 < na'/\1 < nb'/\i + 2<=(a.size - na') + (b.size - nb')) (Q:=λc st'=>zAp st st'/\∃ r out' na' nb' mg' ac' bc',c = (r,na',nb',out',mg',ac',bc')/\((∃ z,r = some z/\z.toList.Perm (a.toList ++ b.toList))\/(r = none/\zCi a b out' na' nb'/\0 < na'/\1 < nb'/\i + 2<=(a.size - na') + (b.size - nb')))) ?_ ?_ ⟨kp2,_,_,_,_,_,_,rfl,tk,la,lb,pr⟩) ?_)
    ·rintro j c st3 _ hj ⟨kp3,out,na,nb,mg,ac,bc,rfl,tk,la,lb,pr⟩;have l1:=tk.la;have l2:=tk.lb;dsimp only;revert mg;apply zEz (prog:=prog) (w:=w) (A:=A) (E:=E) (s:=s) (P:=λ_ st'=>zAp st st')
     case use =>
      intro H mg;refine yS (λe=>?_) (λe=>?_);rotate_left
      ·exact H mg _ kp3
      ·exact H _ _ kp3
     clear kp3 st3;intro mg st4 kp4;have xb:nb - 1 < b.size:=by omega
     refine wpS_bind (wpS_modify ?_);refine wpS_bind (yF xb ?_);refine wpS_bind (vV ha ?g0 ?g1 ?g2 ?g3 (λk1 hk1=>?_))
     case g0=>exact kp4.1.trans hk
     case g1=>exact bm _ xb
     case g2=>exact (λi hi=>⟨by omega,am _ (by omega)⟩)
     case g3=>omega
     dsimp only;generalize hac:na - k1 = acn;revert out na;apply qV (prog:=prog) (w:=w) (A:=A) (E:=E) (s:=s) (P:=λout' na'=>zCi a b out' na' nb/\0 < na'/\i + 2<=(a.size - na') + (b.size - nb))
     case use =>
      intro H out na
      intros
      rename_i tk la pr l1 hk1 hac
      refine yS (λe=>?_) (λe=>?_);rotate_left
      ·exact H out na ⟨tk,la,pr⟩
      ·have tk':=tk.as (k:=k1) (by omega);refine yP (λe2=>?_) (λe2=>?_)
       ·exact wpS_pure ⟨kp4.trans ⟨rfl,rfl,rfl,rfl⟩,_,_,_,_,_,_,_,rfl,.inl ⟨_,rfl,tk'.done⟩⟩
       exact H _ _ ⟨tk',by omega,by omega⟩
     rintro out na ⟨tk,la,q5⟩;refine wpS_bind (yF xb ?_);have tk6:=tk.b (show 0 < nb by omega);refine yP (λe=>?_) (λe=>?_)
     ·exact wpS_pure ⟨kp4.trans ⟨rfl,rfl,rfl,rfl⟩,_,_,_,_,_,_,_,rfl,.inl ⟨_,rfl,tk6.first⟩⟩
     have l1:=tk.la;have xa:na - 1 < a.size:=by omega
     refine wpS_bind (yF xa ?_);refine wpS_bind (vV ha ?g0 ?g1 ?g2 ?g3 (λk2 hk2=>?_))
     case g0=>exact kp4.1.trans hk
     case g1=>exact am _ xa
     case g2=>exact (λi hi=>⟨by omega,bm _ (by omega)⟩)
     case g3=>omega
     dsimp only;generalize out.push b[nb - 1] = out2 at tk6 ⊢;clear tk;have lb6:1 < nb - 1:=by omega
     have q6:i + 3<=(a.size - na) + (b.size - (nb - 1)):=by omega
     have hk2:k2<=nb - 1:=hk2;have l6:=tk6.lb;generalize hbc:nb - 1 - k2 = bcn;clear lb e q5 l2;clear xb;generalize nb - 1 = nb2 at *;revert out2 nb2;apply qV (prog:=prog) (w:=w) (A:=A) (E:=E) (s:=s) (P:=λout' nb'=>zCi a b out' na nb'/\1 < nb'/\i + 3<=(a.size - na) + (b.size - nb'))
     case use =>
      intro H;rintro out2 nb2
      intros
      rename_i _ tk6 lb6 q6 hk2 l6 hbc
      refine yS (λe=>?_) (λe=>?_);rotate_left
      ·exact H out2 nb2 ⟨tk6,lb6,q6⟩
      ·have tk':=tk6.bs (k:=k2) (by omega);refine yP (λe2=>?_) (λe2=>?_)
       ·exact wpS_pure ⟨kp4.trans ⟨rfl,rfl,rfl,rfl⟩,_,_,_,_,_,_,_,rfl,.inl ⟨_,rfl,tk'.first⟩⟩
       refine yP (λe3=>?_) (λe3=>?_)
       ·exact wpS_pure ⟨kp4.trans ⟨rfl,rfl,rfl,rfl⟩,_,_,_,_,_,_,_,rfl,.inl ⟨_,rfl,tk'.done⟩⟩
       exact H _ _ ⟨tk',by omega,by omega⟩
     rintro out nb' ⟨tk,lb7,q7⟩;refine wpS_bind (yF xa ?_);have tk8:=tk.a la;refine yP (λe=>?_) (λe=>?_)
     ·exact wpS_pure ⟨kp4.trans ⟨rfl,rfl,rfl,rfl⟩,_,_,_,_,_,_,_,rfl,.inl ⟨_,rfl,tk8.done⟩⟩
     refine yS (λe=>?_) (λe=>?_)
     ·exact wpS_pure ⟨kp4.trans ⟨rfl,rfl,rfl,rfl⟩,_,_,_,_,_,_,_,rfl,.inr ⟨rfl,tk8,by omega,lb7,by omega⟩⟩
     ·exact wpS_pure ⟨kp4.trans ⟨rfl,rfl,rfl,rfl⟩,_,_,_,_,_,_,rfl,tk8,by omega,lb7,by omega⟩
    ·rintro c st3 ⟨kp3,out,na,nb,mg,ac,bc,rfl,tk,la,lb,pr⟩;exact ⟨kp3,_,_,_,_,_,_,_,rfl,.inr ⟨rfl,tk,la,lb,pr⟩⟩
    ·rintro c st3 ⟨kp3,r,out,na,nb,mg,ac,bc,rfl,hr⟩;rcases hr with ⟨z,rfl,pm⟩ | ⟨rfl,tk,la,lb,pr⟩
     ·exact wpS_pure ⟨kp3,_,_,_,_,_,rfl,pm⟩
     ·refine wpS_bind (wpS_modify ?_);exact wpS_pure ⟨kp3.trans ⟨rfl,rfl,rfl,rfl⟩,_,_,_,_,rfl,tk,la,lb,by omega⟩
 ·rintro c st' ⟨_,out,na,nb,mg,rfl,tk,h1,h2,h3⟩;exfalso;have:a.size + b.size<=max 0 (a.size + b.size):=Nat.le_max_right _ _;omega
 ·rintro c st' ⟨kp,r,out,na,nb,mg,rfl,pm⟩;exact wpS_pure (h _ _ kp pm)
end
end PyProof.Rows

namespace PyProof.Rows
open PySem
structure wX (κ:SortKind) (ys:List Keyed) (st:SortSt):Prop where
 perm:(arrOf st).toList.Perm ys
 kind:kindOf st = κ
 failed:failedOf st = none
section
variable {prog:Program} {w:World} {A:Around} {E:Value->Shared->Prop} {s:Shared} {st st':SortSt} {κ:SortKind} {ys:List Keyed}
theorem wX.size (h:wX κ ys st):(arrOf st).size = ys.length:=by rw [<- Array.length_toList]; exact h.perm.length_eq
theorem wX.mem (h:wX κ ys st) {i:Nat} (hi:i < (arrOf st).size):(arrOf st)[i]∈ys:=h.perm.mem_iff.mp (by rw [<- Array.getElem_toList]; exact List.getElem_mem _)
theorem wX.set (h:wX κ ys st) {xs:Array Keyed} (hp:xs.Perm (arrOf st)):wX κ ys (setArr st xs):=⟨(Array.perm_iff_toList_perm.mp hp).trans h.perm,h.kind,h.failed⟩
theorem wX.keep (h:wX κ ys st) (k:zAp st st'):wX κ ys st':=⟨by rw [k.2.1]; exact h.perm,k.1.trans h.kind,k.2.2.2.trans h.failed⟩
theorem sJ (ha:zJ4 prog w A s κ ys) (hB:wX κ ys st) {i j:Nat} (hi:i < ys.length) (hj:j < ys.length) {Q:Option Bool->SortSt->Prop} (h:∀ b,Q (some b) st):wpS (model prog w) A E s (ltAt' i j) Q st:=by
 rw [ltAt'_eq];have z:=hB.size;refine wpS_bind (wpS_get ?_);refine wpS_bind (yF (show i < (arrOf st).size by omega) ?_);refine wpS_bind (yF (show j < (arrOf st).size by omega) ?_);exact zD5 ha hB.kind (hB.mem _) (hB.mem _) h
def zI6 (κ:SortKind) (ys:List Keyed) (st st':SortSt):Prop:=wX κ ys st'/\pendingOf st' = pendingOf st
theorem zI6.rev (h:zI6 κ ys st st') (i j d:Nat):zI6 κ ys st (setArr st' (mirror (arrOf st') i j d)):=⟨h.1.set (mirror_perm _ _ _ _),h.2⟩
theorem zD9 {α:Type} {code:StateT SortSt Sem α} {P:SortSt->Prop} {Q:α->SortSt->Prop} {m:StateT SortSt Sem α} (use:(∀ st2,P st2->wpS (model prog w) A E s code Q st2)->wpS (model prog w) A E s m Q st) (H:∀ st2,P st2->wpS (model prog w) A E s code Q st2):wpS (model prog w) A E s m Q st:=use H
theorem zKr {α:Type} {code:Nat->StateT SortSt Sem α} {P:Nat->SortSt->Prop} {Q:α->SortSt->Prop} {m:StateT SortSt Sem α} (use:(∀ n st2,P n st2->wpS (model prog w) A E s (code n) Q st2)->wpS (model prog w) A E s m Q st) (H:∀ n st2,P n st2->wpS (model prog w) A E s (code n) Q st2):wpS (model prog w) A E s m Q st:=use H
theorem zFw (ha:zJ4 prog w A s κ ys) (hB:wX κ ys st) {lo nrem:Nat} (h1:1<=nrem) (hn:lo + nrem<=ys.length) {Q:Option Nat->SortSt->Prop}
  (h:∀ m st',zI6 κ ys st st'->1<=m->m<=nrem->Q (some m) st'):wpS (model prog w) A E s (countRun' lo nrem) Q st:=by
 rw [countRun'_eq];refine wpS_bind (wpS_mono (wpS_forRange (I:=λx c st'=>st' = st/\c = (none,x)) (Q:=λc st'=>st' = st/\∃ n,c = (none,n)/\1<=n/\n<=nrem) ?_ ?_ ⟨rfl,rfl⟩) ?_)
 ·rintro x c st' hx1 hx2 ⟨rfl,rfl⟩;refine wpS_bind (sJ ha hB (by dsimp only; omega) (by dsimp only; omega) λb=>?_);cases b with
  | true=>exact wpS_pure ⟨rfl,x,rfl,hx1,by omega⟩
  | false=>exact wpS_pure ⟨rfl,rfl⟩
 ·rintro c st' ⟨rfl,rfl⟩;exact ⟨rfl,_,rfl,by omega,by omega⟩
 rintro c st1 ⟨rfl,n,rfl,n1,n2⟩;dsimp only;have s0:zI6 κ ys st1 st1:=⟨hB,rfl⟩;refine yP (λe=>wpS_pure (h _ _ s0 n1 n2)) (λe1=>?_);apply zD9 (prog:=prog) (w:=w) (A:=A) (E:=E) (s:=s) (P:=zI6 κ ys st1) (Q:=Q)
 case use =>
  intro H;refine yS (λe2=>?_) (λe2=>?_)
  ·refine wpS_bind (sJ ha hB (by omega) (by omega) λb=>?_);cases b with
   | true=>exact wpS_pure (h _ _ s0 n1 n2)
   | false=>exact wpS_bind (wpS_reverse (H _ (s0.rev _ _ _)))
  ·exact H _ s0
 intro st2 S;refine wpS_bind (vY (wpAny_rule ⟨rfl,?_⟩));refine wpS_bind (wpS_mono (wpS_forRange (I:=λx c st'=>zI6 κ ys st1 st'/\∃ q,c = (none,x,q)) (Q:=λc st'=>zI6 κ ys st1 st'/\∃ m q,c = (none,m,q)/\1<=m/\m<=nrem) ?_ ?_ ⟨S,_,rfl⟩) ?_)
 ·rintro x c st3 hx1 hx2 ⟨S3,q,rfl⟩;dsimp only;refine wpS_bind (sJ ha S3.1 (by omega) (by omega) λb=>?_);cases b with
  | true =>
   refine yS (λ_=>?_) (λe=>absurd rfl e);refine yS (λe=>?_) (λe=>?_)
   ·exact wpS_bind (wpS_reverse (wpS_pure ⟨S3.rev _ _ _,_,rfl⟩))
   ·exact wpS_pure ⟨S3,_,rfl⟩
  | false =>
   refine wpS_bind (sJ ha S3.1 (by omega) (by omega) λb=>?_);cases b with
   | true=>exact wpS_pure ⟨S3,_,_,rfl,by omega,by omega⟩
   | false=>exact wpS_pure ⟨S3,_,rfl⟩
 ·rintro c st3 ⟨S3,q,rfl⟩;exact ⟨S3,_,_,rfl,by omega,by omega⟩
 rintro c st3 ⟨S3,m,q,rfl,m1,m2⟩;dsimp only;apply zD9 (prog:=prog) (w:=w) (A:=A) (E:=E) (s:=s) (P:=zI6 κ ys st1) (Q:=Q)
 case use =>
  intro H;refine yS (λe2=>?_) (λe2=>?_)
  ·exact wpS_bind (wpS_reverse (H _ (S3.rev _ _ _)))
  ·exact H _ S3
 intro st4 S4;refine wpS_bind (wpS_reverse ?_);have S5:=S4.rev lo (lo + m) ((lo + m - lo) / 2);refine wpS_bind (wpS_mono (wpS_forRange (I:=λx c st'=>zI6 κ ys st1 st'/\c = (none,x)) (Q:=λc st'=>zI6 κ ys st1 st'/\∃ n,c = (none,n)/\1<=n/\n<=nrem) ?_ ?_ ⟨S5,rfl⟩) ?_)
 ·rintro x c st' hx1 hx2 ⟨S6,rfl⟩;refine wpS_bind (sJ ha S6.1 (by dsimp only; omega) (by dsimp only; omega) λb=>?_);cases b with
  | true=>exact wpS_pure ⟨S6,x,rfl,by omega,by omega⟩
  | false=>exact wpS_pure ⟨S6,rfl⟩
 ·rintro c st' ⟨S6,rfl⟩;exact ⟨S6,_,rfl,by omega,by omega⟩
 rintro c st6 ⟨S6,r,rfl,r1,r2⟩;exact wpS_pure (h _ _ S6 r1 r2)
theorem zD6 (ha:zJ4 prog w A s κ ys) (hB:wX κ ys st) {lo n ok:Nat} (hn:lo + n<=ys.length) {Q:Bool->SortSt->Prop}
  (h:∀ st',zI6 κ ys st st'->Q true st'):wpS (model prog w) A E s (binarySort' lo n ok) Q st:=by
 rw [binarySort'_eq];refine wpS_bind (wpS_mono (wpS_forRange (I:=λ_ c st'=>c = (none,())/\zI6 κ ys st st') (Q:=λc st'=>c = (none,())/\zI6 κ ys st st') ?_ (λ_ _ h=>h) ⟨rfl,hB,rfl⟩) ?_)
 ·rintro k c st1 hk1 hk2 ⟨rfl,S⟩;refine wpS_bind (wpS_mono (wpS_forRange (I:=λ_ c st'=>st' = st1/\∃ l r,c = (none,l,r)/\r<=k) (Q:=λc st'=>st' = st1/\∃ l r,c = (none,l,r)/\r<=k) ?_ (λ_ _ h=>h) ⟨rfl,_,_,rfl,Nat.le_refl _⟩) ?_)
  ·rintro x c st2 _ hx ⟨rfl,l,r,rfl,hr⟩;dsimp only;refine yS (λe=>wpS_pure ⟨rfl,_,_,rfl,hr⟩) (λe=>?_);refine wpS_bind (sJ ha S.1 (by omega) (by omega) λb=>?_);cases b with
   | true=>exact wpS_pure ⟨rfl,_,_,rfl,by omega⟩
   | false=>exact wpS_pure ⟨rfl,_,_,rfl,hr⟩
  ·rintro c st2 ⟨rfl,l,r,rfl,hr⟩;show wpS _ _ _ _ (do moveDown' (lo + k) (lo + l); pure (ForInStep.yield (none,()))) _ _;rw [moveDown'_eq];exact wpS_bind (wpS_modify (wpS_pure ⟨rfl,S.1.set (bubble_perm _ _ _),S.2⟩))
 ·rintro c st1 ⟨rfl,S⟩;exact wpS_pure (h _ S)
theorem zRj {st2:SortSt} {Q:PUnit->SortSt->Prop} (h:Q ⟨⟩ st2):wpS (model prog w) A E s (set st2:StateT SortSt Sem PUnit) Q st:=by
 unfold wpS; rw [StateT.run_set]; exact wpAny_pure ⟨rfl,h⟩
end
theorem zNk:∀ (m:List Keyed) (k o:Nat) (z:Array Keyed),o + k + m.length<=z.size->((m.zipIdx k).foldl (λa (p:Keyed × Nat)=>a.setIfInBounds (o + p.2) p.1) z).toList = z.toList.take (o + k) ++ m ++ z.toList.drop (o + k + m.length)
 | [],k,o,z,_=>by simp
 | x :: m,k,o,z,h=>by
  have h:o + k + (m.length + 1)<=z.size:=h;rw [List.zipIdx_cons,List.foldl_cons,zNk m (k + 1) o _ (by rw [Array.size_setIfInBounds]; omega),Array.toList_setIfInBounds];have hl:o + k < z.toList.length:=by rw [Array.length_toList]; omega
  rw [List.take_set,List.drop_set_of_lt (by omega)];rw [show o + (k + 1) = (o + k) + 1 by omega,List.take_add_one,List.getElem?_eq_getElem hl,show o + k + 1 + m.length = o + k + (m.length + 1) by omega];have hk:(z.toList.take (o + k)).length = o + k:=by rw [List.length_take]; omega
  show ((z.toList.take (o + k)) ++ [z.toList[o + k]]).set (o + k) x ++ m ++ _ = _;rw [List.set_append_right _ _ (by omega),hk,Nat.sub_self];simp
def zAo:Nat->List (Nat × Nat × Nat)->Nat->Prop
 | a,[],b=>a = b
 | a,(x,n,_) :: r,b=>x = a/\0 < n/\zAo (a + n) r b
theorem zAo.le:∀ {a:Nat} {l:List (Nat × Nat × Nat)} {b:Nat},zAo a l b->a<=b
 | _,[],_,h=>Nat.le_of_eq h
 | _,_ :: _,_,h=>Nat.le_trans (Nat.le_add_right _ _) h.2.2.le
theorem zAo.split:∀ {l l':List (Nat × Nat × Nat)} {a b:Nat},zAo a (l ++ l') b↔∃ c,zAo a l c/\zAo c l' b
 | [],l',a,b=>⟨λh=>⟨a,rfl,h⟩,λ⟨c,e,h⟩=>by cases e; exact h⟩
 | (x,n,p) :: l,l',a,b=>⟨λ⟨h1,h2,h3⟩=>by obtain ⟨c,c1,c2⟩:=zAo.split.mp h3; exact ⟨c,⟨h1,h2,c1⟩,c2⟩,λ⟨c,⟨h1,h2,h3⟩,h4⟩=>⟨h1,h2,zAo.split.mpr ⟨c,h3,h4⟩⟩⟩
section
variable {prog:Program} {w:World} {A:Around} {E:Value->Shared->Prop} {s:Shared} {st st':SortSt} {κ:SortKind} {ys:List Keyed}
theorem zIq (ha:zJ4 prog w A s κ ys) (hB:wX κ ys st) {i:Nat} {pre post:List (Nat × Nat × Nat)} {sa na pa sb nb pb:Nat} (hp:(pendingOf st).toList = pre ++ (sa,na,pa) :: (sb,nb,pb) :: post) (hi:pre.length = i)
  (h1:0 < na) (h2:0 < nb) (h3:sa + na = sb) (h4:sb + nb<=ys.length) {Q:Bool->SortSt->Prop}
  (h:∀ st',wX κ ys st'->(pendingOf st').toList = pre ++ (sa,na + nb,pa) :: post->Q true st'):wpS (model prog w) A E s (mergeAt' i) Q st:=by
 have e1:(pendingOf st)[i]? = some (sa,na,pa):=by rw [<- Array.getElem?_toList,hp,<- hi,List.getElem?_append_right (Nat.le_refl _),Nat.sub_self]; rfl
 have e2:(pendingOf st)[i + 1]? = some (sb,nb,pb):=by rw [<- Array.getElem?_toList,hp,<- hi,List.getElem?_append_right (Nat.le_succ _),Nat.succ_sub (Nat.le_refl _),Nat.sub_self]; rfl
 have z:=hB.size;refine wpS_bind (wpS_get ?_);rw [e1,e2];refine wpS_bind (zRj ?_);have ep:(((pendingOf st).setIfInBounds i (sa,na + nb,pa)).eraseIdxIfInBounds (i + 1)).toList = pre ++ (sa,na + nb,pa) :: post:=by
  rw [Array.toList_eraseIdxIfInBounds,Array.toList_setIfInBounds,hp,<- hi,List.set_append_right _ _ (Nat.le_refl _),Nat.sub_self,List.eraseIdx_append_of_length_le (Nat.le_succ _),Nat.succ_sub (Nat.le_refl _),Nat.sub_self];rfl
 have B1:wX κ ys (setPending st (((pendingOf st).setIfInBounds i (sa,na + nb,pa)).eraseIdxIfInBounds (i + 1))):=⟨hB.perm,hB.kind,hB.failed⟩;have P1:(pendingOf (setPending st (((pendingOf st).setIfInBounds i (sa,na + nb,pa)).eraseIdxIfInBounds (i + 1)))).toList = pre ++ (sa,na + nb,pa) :: post:=ep;have A1:arrOf (setPending st (((pendingOf st).setIfInBounds i (sa,na + nb,pa)).eraseIdxIfInBounds (i + 1))) = arrOf st:=rfl;revert B1 P1 A1;show _->_->_->wpS _ _ _ _ _ _ (setPending st (((pendingOf st).setIfInBounds i (sa,na + nb,pa)).eraseIdxIfInBounds (i + 1)));generalize setPending st (((pendingOf st).setIfInBounds i (sa,na + nb,pa)).eraseIdxIfInBounds (i + 1)) = st1;intro B1 P1 A1;refine wpS_bind (yF (show sb < (arrOf st).size by omega) ?_);refine wpS_bind (vV (arr:=arrOf st) (base:=sa) (n:=na) ha B1.kind (hB.mem (show sb < (arrOf st).size by omega)) (λi hi=>⟨by omega,hB.mem _⟩) h1 λk hk=>?_);dsimp only;refine yP (λe=>wpS_pure (h _ B1 P1)) (λe=>?_);refine wpS_bind (yF (show sa + k + (na - k) - 1 < (arrOf st).size by omega) ?_);refine wpS_bind (vV (arr:=arrOf st) (base:=sb) (n:=nb) ha B1.kind (hB.mem (show sa + k + (na - k) - 1 < (arrOf st).size by omega)) (λi hi=>⟨by omega,hB.mem _⟩) (show nb - 1 < nb by omega) λm hm=>?_);dsimp only;refine yP (λe=>wpS_pure (h _ B1 P1)) (λe=>?_);have xm:∀ {p q:Nat},∀ u∈((arrOf st).extract p q).toList,u∈ys:=λ{p q} u hu=>by
  rw [Array.toList_extract,List.extract_eq_take_drop] at hu;exact hB.perm.mem_iff.mp (List.mem_of_mem_drop (List.mem_of_mem_take hu))
 have fin:∀ (out:Array Keyed) st2,zAp st1 st2->out.toList.Perm (((arrOf st).extract (sa + k) sb).toList ++ ((arrOf st).extract sb (sb + m)).toList)->wpS (model prog w) A E s (do
   modify λs=>setArr s (out.toList.zipIdx.foldl (λa (p:Keyed × Nat)=>a.setIfInBounds (sa + k + p.2) p.1) (arrOf s))
   return (failedOf (<- get)).isNone) Q st2:=λout st2 kp pm=>by
  have el:out.toList.length = (na - k) + m:=by
   rw [pm.length_eq,List.length_append,Array.length_toList,Array.length_toList,Array.size_extract,Array.size_extract];omega
  have A2:arrOf st2 = arrOf st:=kp.2.1.trans A1;have B2:=B1.keep kp;refine wpS_bind (wpS_modify (wpS_bind (wpS_get ?_)));have ef:failedOf st2 = none:=B2.failed;rw [show (failedOf (setArr st2 (out.toList.zipIdx.foldl (λa (p:Keyed × Nat)=>a.setIfInBounds (sa + k + p.2) p.1) (arrOf st2)))).isNone = true from by rw [show failedOf (setArr st2 _) = failedOf st2 from rfl,ef]; rfl];refine wpS_pure (h _ ⟨?_,B2.kind,B2.failed⟩ ?_)
  ·show (out.toList.zipIdx.foldl (λa (p:Keyed × Nat)=>a.setIfInBounds (sa + k + p.2) p.1) (arrOf st2)).toList.Perm ys;rw [A2,zNk out.toList 0 (sa + k) _ (by omega)];refine List.Perm.trans ?_ hB.perm;have e5:((arrOf st).extract (sa + k) sb).toList ++ ((arrOf st).extract sb (sb + m)).toList ++ (arrOf st).toList.drop (sb + m) = (arrOf st).toList.drop (sa + k):=by
    rw [List.append_assoc,<- zA3 (by omega),<- zA3 (by omega)]
   refine List.Perm.trans ?_ (List.Perm.of_eq (List.take_append_drop (sa + k) (arrOf st).toList));rw [<- e5,List.append_assoc,show sa + k + 0 + out.toList.length = sb + m by omega];exact List.Perm.append_left _ (pm.append_right _)
  ·rw [show pendingOf (setArr st2 _) = pendingOf st2 from rfl,kp.2.2.1];exact P1
 refine yS (λe2=>wpS_bind (zIx ha B1.kind xm xm ?_ ?_ λout st2 kp pm=>fin _ _ kp pm)) (λe2=>wpS_bind (zI1 ha B1.kind xm xm ?_ ?_ λout st2 kp pm=>fin _ _ kp pm))
 all_goals (rw [Array.size_extract]; omega)
theorem zAo.power:∀ {p:List (Nat × Nat × Nat)} {a b:Nat},zAo a p b->∀ (i pw:Nat),zAo a (p.modify i λx=>(x.1,x.2.1,pw)) b
 | [],_,_,h,i,pw=>by cases i <;> exact h
 | (x,n,q) :: p,a,b,h,0,pw=>h
 | (x,n,q) :: p,a,b,h,i + 1,pw=>⟨h.1,h.2.1,h.2.2.power i pw⟩
theorem zAo.two {p:List (Nat × Nat × Nat)} {b i:Nat} (h:zAo 0 p b) (hi:i + 1 < p.length):∃ pre post sa na pa sb nb pb,p = pre ++ (sa,na,pa) :: (sb,nb,pb) :: post/\pre.length = i/\0 < na/\0 < nb/\sa + na = sb/\sb + nb<=b/\zAo 0 (pre ++ (sa,na + nb,pa) :: post) b:=by
 have e:p = p.take i ++ (p[i] :: p[i + 1] :: p.drop (i + 2)):=by
  rw [<- List.drop_eq_getElem_cons,<- List.drop_eq_getElem_cons,List.take_append_drop]
 rcases e1:p[i] with ⟨sa,na,pa⟩
 rcases e2:p[i + 1] with ⟨sb,nb,pb⟩
 rw [e1,e2] at e;rw [e] at h;obtain ⟨c,h1,h2,h3,h4,h5,h6⟩:=zAo.split.mp h;subst h2 h4;refine ⟨_,_,_,_,_,_,_,_,e,by rw [List.length_take]; omega,h3,h5,rfl,h6.le,zAo.split.mpr ⟨_,h1,rfl,by omega,?_⟩⟩;rw [<- Nat.add_assoc];exact h6
theorem zBg (ha:zJ4 prog w A s κ ys) (hB:wX κ ys st) {i b:Nat} (hp:zAo 0 (pendingOf st).toList b) (hb:b<=ys.length) (hi:i + 1 < (pendingOf st).size) {Q:Bool->SortSt->Prop}
  (h:∀ st',wX κ ys st'->zAo 0 (pendingOf st').toList b->(pendingOf st').size + 1 = (pendingOf st).size->Q true st'):wpS (model prog w) A E s (mergeAt' i) Q st:=by
 obtain ⟨pre,post,sa,na,pa,sb,nb,pb,e,el,h1,h2,h3,h4,h5⟩:=hp.two (i:=i) (by rw [Array.length_toList]; exact hi);refine zIq ha hB e el h1 h2 h3 (by omega) λst' B' P'=>h st' B' (by rw [P']; exact h5) ?_;rw [<- Array.length_toList,<- Array.length_toList,P',e,List.length_append,List.length_append,List.length_cons,List.length_cons,List.length_cons];omega
theorem zF1 (ha:zJ4 prog w A s κ ys) (hB:wX κ ys st) (hp:pendingOf st = #[]) {Q:Unit->SortSt->Prop} (h:∀ st',wX κ ys st'->Q () st'):wpS (model prog w) A E s sortRuns' Q st:=by
 rw [sortRuns'_eq];refine wpS_bind (wpS_get ?_);dsimp only;rw [hB.size];generalize minRun' ys.length ys.length 0 = mr;refine wpS_bind (wpS_mono (wpS_forRange (I:=λx c st'=>wX κ ys st'/\∃ lo,c = (none,lo)/\zAo 0 (pendingOf st').toList lo/\lo<=ys.length/\x<=lo) (Q:=λc st'=>wX κ ys st'/\∃ lo,c = (none,lo)/\zAo 0 (pendingOf st').toList ys.length) ?_ ?_ ⟨hB,0,rfl,by rw [hp]; rfl,Nat.zero_le _,Nat.le_refl _⟩) ?_)
 ·rintro x c st1 _ hx ⟨B1,lo,rfl,S1,l1,l2⟩;dsimp only;refine yS (λe=>wpS_pure ⟨B1,_,rfl,?_⟩) (λe=>?_)
  ·rwa [show ys.length = lo by omega]
  apply zKr (prog:=prog) (w:=w) (A:=A) (E:=E) (s:=s) (P:=λn st3=>wX κ ys st3/\zAo 0 (pendingOf st3).toList lo/\1<=n/\lo + n<=ys.length)
  case use =>
   intro H;refine wpS_bind (zFw ha B1 (by omega) (by omega) λn st2 st m1 m2=>?_);have B2:=st.1;have S2:zAo 0 (pendingOf st2).toList lo:=by rw [st.2]; exact S1
   clear st;dsimp only;refine yS (λe2=>?_) (λe2=>?_);rotate_left
   ·exact H n _ ⟨B2,S2,m1,by omega⟩
   ·refine wpS_bind (vY (wpAny_rule ⟨rfl,?_⟩));refine wpS_bind (zD6 ha B2 (by omega) λst3 st=>?_);refine yS (λe=>nomatch e) (λ_=>?_);exact H _ _ ⟨st.1,by rw [st.2]; exact S2,by omega,by omega⟩
  intro n st3 ⟨B3,S3,k1,k2⟩;refine wpS_bind (wpS_get ?_);apply zD9 (prog:=prog) (w:=w) (A:=A) (E:=E) (s:=s) (P:=λst3=>wX κ ys st3/\zAo 0 (pendingOf st3).toList lo)
  case use =>
   intro H;cases eb:(pendingOf st3).back? with
   | none=>exact H _ ⟨B3,S3⟩
   | some t =>
    obtain ⟨s1,n1,t1⟩:=t;dsimp only;refine wpS_bind (wpS_mono (wpS_forRange (I:=λ_ c st'=>c = (none,())/\wX κ ys st'/\zAo 0 (pendingOf st').toList lo) (Q:=λc st'=>c = (none,())/\wX κ ys st'/\zAo 0 (pendingOf st').toList lo) ?_ (λ_ _ h=>h) ⟨rfl,B3,S3⟩) ?_)
    ·rintro x c st4 _ hx ⟨rfl,B4,S4⟩;refine wpS_bind (wpS_get ?_);by_cases hz:(pendingOf st4).size > 1
     ·rw [if_pos hz,Array.getElem?_eq_getElem (show (pendingOf st4).size - 2 < (pendingOf st4).size by omega)];rcases (pendingOf st4)[(pendingOf st4).size - 2] with ⟨u1,u2,u3⟩
      refine yS (λe=>wpS_pure ⟨rfl,B4,S4⟩) (λe=>?_);refine wpS_bind (zBg ha B4 S4 l1 (by omega) λst5 B5 S5 _=>?_);exact wpS_pure ⟨rfl,B5,S5⟩
     ·rw [if_neg hz];exact wpS_pure ⟨rfl,B4,S4⟩
    ·rintro c st4 ⟨rfl,B4,S4⟩;refine wpS_bind (wpS_modify (H _ ⟨⟨B4.perm,B4.kind,B4.failed⟩,?_⟩));show zAo 0 ((pendingOf st4).modify ((pendingOf st4).size - 1) _).toList lo;rw [Array.toList_modify];exact S4.power _ _
  intro st4 ⟨B4,S4⟩;refine wpS_bind (wpS_modify (wpS_pure ⟨⟨B4.perm,B4.kind,B4.failed⟩,_,rfl,?_,k2,by omega⟩));show zAo 0 ((pendingOf st4).push (lo,n,0)).toList (lo + n);rw [Array.toList_push];exact zAo.split.mpr ⟨_,S4,rfl,by omega,rfl⟩
 ·rintro c st1 ⟨B1,lo,rfl,S1,l1,l2⟩;refine ⟨B1,_,rfl,?_⟩;rwa [show ys.length = lo by omega]
 ·rintro c st1 ⟨B1,lo,rfl,S1⟩;refine wpS_bind (wpS_mono (wpS_forRange (I:=λ_ c st'=>c = (none,())/\wX κ ys st'/\zAo 0 (pendingOf st').toList ys.length) (Q:=λc st'=>c = (none,())/\wX κ ys st') ?_ (λ_ _ h=>⟨h.1,h.2.1⟩) ⟨rfl,B1,S1⟩) ?_)
  ·rintro x c st2 _ hx ⟨rfl,B2,S2⟩;refine wpS_bind (wpS_get ?_);refine yS (λe=>wpS_pure ⟨rfl,B2⟩) (λe=>?_);refine wpS_bind (zBg ha B2 S2 (Nat.le_refl _) ?_ λst3 B3 S3 _=>?_)
   ·(repeat' split) <;> omega
   ·exact wpS_pure ⟨rfl,B3,S3⟩
  ·rintro c st2 ⟨rfl,B2⟩;exact wpS_pure (h _ B2)
end
end PyProof.Rows

namespace PySem.W
open PySem PySem.Calls PyProof.Rows
section
variable {prog:Program} {w:World} {A:Around} {E:Value->Shared->Prop} {s:Shared}
theorem zH8 {a:Addr} {vs:List Value} {n:Nat} {P:PySem.Fin->Shared->Prop} (ho:s.heap.get? a = some (seqObj "list" vs.toArray n)) (hz:vs.length<=sizeLine)
  (hk:2<=vs.length->∀ Q:SortKind->Shared->Prop,(∀ κ,Q κ { s with heap:=wI s.heap a vs })->wpAny (model prog w) A (keyKind' vs.toArray) Q E { s with heap:=wI s.heap a vs })
  (ask:2<=vs.length->∀ κ,zJ4 prog w A { s with heap:=wI s.heap a vs } κ (vs.zip vs))
  (h:∀ out:List Value,out.Perm vs->P (.done (.ret .none)) { s with heap:=sortedHeap s.heap a vs out.toArray }) :
  wpAny (model prog w) A (Builtin.«list.sort» ⟨[.ref a],[]⟩) P E s:=by
 have ha:a < s.heap.objs.size:=Heap.lt_size ho;obtain ⟨e1,ho1⟩:∃ e1,(s.heap.update a (Obj.mapSeq λ_=>(#[]:Array Value))).get? a = some (seqObj "list" #[] e1):=⟨_,get?_update_seq ho λ_=>#[]⟩;have ho3:(wI s.heap a vs).get? a = some (seqObj "list" #[] e1):=Heap.get?_push_of_some _ (Heap.get?_push_of_some _ ho1);rw [list_sort_plain];refine wpAny_bind (listItems_at ho rfl ?_);refine wpAny_bind (listUpdate_at ho rfl ?_ (by rw [List.size_toArray]; exact hz) (Nat.zero_le _));refine wpAny_bind (seqEpoch_at ho1 rfl ?_);refine wpAny_bind (wpAny_newTuple ?_ (by show vs.length<=_; exact hz));refine wpAny_bind (wpAny_newList ?_ (Nat.zero_le _));refine wpAny_holding ?_;show wpAny (model prog w) A _ P E { s with heap:=wI s.heap a vs };dsimp only;have hout:(vs.toArray.zip vs.toArray).map (·.2) = vs.toArray:=by
  apply Array.toList_inj.mp;rw [Array.toList_map,Array.toList_zip];exact List.map_snd_zip (Nat.le_refl _)
 by_cases h2:vs.toArray.size < 2
 ·rw [if_pos h2,if_pos h2];rw [List.size_toArray] at h2;refine wpAny_bind (wpAny_pure ?_);rw [StateT.run_pure];refine wpAny_bind (wpAny_pure ?_);dsimp only;refine wpAny_bind (seqEpoch_at ho3 rfl ?_);refine wpAny_bind (listUpdate_at ho3 rfl ?_ (Nat.zero_le _) (Nat.le_succ_of_le (Nat.le_trans (Nat.le_of_eq ((congrArg Array.size hout).trans List.size_toArray)) hz)));simp only [bne_self_eq_false,Bool.false_eq_true,if_false];refine wpAny_pure ?_;have hq:=h vs (List.Perm.refl _);rw [<- hout] at hq;exact hq
 ·rw [if_neg h2,if_neg h2];rw [List.size_toArray] at h2;have h2':2<=vs.length:=by omega
  refine wpAny_bind (hk h2' _ λκ=>?_);refine wpAny_bind (wpAny_mono (zF1 (E:=E) (κ:=κ) (ys:=vs.zip vs) (Q:=λ_ st'=>wX κ (vs.zip vs) st') (ask h2' κ) ⟨by rw [show arrOf _ = vs.toArray.zip vs.toArray from rfl,Array.toList_zip],rfl,rfl⟩ rfl λst' b=>b) ?_ λ_ _ e=>e);rintro ⟨⟨⟩,st'⟩ s' ⟨rfl,b⟩;dsimp only;have pm:((arrOf st').map (·.2)).toList.Perm vs:=by
   rw [Array.toList_map];refine (b.perm.map _).trans (List.Perm.of_eq ?_);exact List.map_snd_zip (Nat.le_refl _)
  have hsz:((arrOf st').map (·.2)).size<=sizeLine:=by
   rw [<- Array.length_toList,pm.length_eq];exact hz
  refine wpAny_bind (seqEpoch_at ho3 rfl ?_);refine wpAny_bind (listUpdate_at ho3 rfl ?_ (Nat.zero_le _) (Nat.le_succ_of_le hsz));rw [b.failed];simp only [bne_self_eq_false,Bool.false_eq_true,if_false];have hq:=h _ pm;rw [Array.toArray_toList] at hq;exact wpAny_pure hq
theorem zO2 {l:Addr} {vs:List Value} {Q:Value->Shared->Prop} (hl:s.heap.IsList l vs.toArray) (hz:vs.length<=sizeLine)
  (hk:2<=vs.length->∀ s':Shared,(∀ b o,s.heap.get? b = some o->s'.heap.get? b = some o)->∀ (E':Value->Shared->Prop) (Q:SortKind->Shared->Prop),(∀ κ,Q κ s')->wpAny (model prog w) A.in1.in1 (keyKind' vs.toArray) Q E' s')
  (ask:2<=vs.length->∀ s':Shared,(∀ b o,s.heap.get? b = some o->s'.heap.get? b = some o)->∀ κ,zJ4 prog w A.in1.in1 s' κ (vs.zip vs))
  (h:∀ out:List Value,out.Perm vs->Q (.ref (s.heap.objs.size + 1)) { s with heap:=sortedAll s.heap vs out.toArray }) :
  wpAny (model prog w) A (call (.builtin "sorted") [.ref l]) Q E s:=by
 refine Calls.call_function_entry kind_sorted plain_sorted entry_sorted (args_sorted1 _) ?_;unfold Builtin.«sorted»;refine wpAny_bind (m:=checkCount "sorted" 1 1 _) (wpAny_pure ?_);refine wpAny_bind (collect_list hl ?_ hz);refine wpAny_bind (wpAny_newList ?_ hz);have hsz:((s.heap.push (seqObj "list" #[] 0)).update s.heap.objs.size (Obj.mapSeq (· ++ vs.toArray))).objs.size = s.heap.objs.size + 1:=by
  rw [Heap.size_update,size_push']
 have hoL:(xQ s.heap vs).get? (s.heap.objs.size + 1) = some (seqObj "list" vs.toArray 0):=by
  unfold xQ;rw [<- hsz]; exact Heap.get?_push_size _ rfl
 have keep:∀ b o,s.heap.get? b = some o->(wI (xQ s.heap vs) (s.heap.objs.size + 1) vs).get? b = some o:=λb o e=>by
  have hlt:b < s.heap.objs.size:=Heap.lt_size e;exact zC8 (Nat.ne_of_lt (Nat.lt_succ_of_lt hlt)) (zAk e)
 show wpAny _ _ _ _ _ { s with heap:=xQ s.heap vs };rw [hsz];refine wpAny_bind (wpAny_holding (wpAny_call_entry slot_list_sort ⟨_,hoL,rfl⟩ entry_list_sort ?body (args_list_sort _)))
 case body =>
  exact zH8 (s:={ s with heap:=xQ s.heap vs }) hoL hz (λh2 Q' hq=>hk h2 _ keep _ Q' hq) (λh2=>ask h2 _ keep) λout hg=>⟨_,rfl,wpAny_pure ⟨_,rfl,h out hg⟩⟩
end
end PySem.W
namespace L2
open PySem PySem.Spec PyProof.Rows PySem.W
section
variable {prog:Program} {w:World} {A:Around} {E:Value->Shared->Prop} {s:Shared}
theorem zDi {M:Model} {β:Type} {f:Value->Sem β} {R:β->Prop} : ∀ {vs:List Value} {Q:List β->Shared->Prop},(∀ v∈vs,∀ Q:β->Shared->Prop,(∀ b,R b->Q b s)->wpAny M A (f v) Q E s)->(∀ bs,(∀ b∈bs,R b)->Q bs s)->wpAny M A (vs.mapM f) Q E s
 | [],Q,_,h=>by rw [List.mapM_nil]; exact wpAny_pure (h [] λb hb=>nomatch hb)
 | v :: vs,Q,hf,h=>by
  rw [List.mapM_cons];refine wpAny_bind (hf v (.head _) _ λb rb=>wpAny_bind (zDi (R:=R) (λu hu=>hf u (.tail _ hu)) λbs hbs=>wpAny_pure (h _ λc hc=>?_)));rcases List.mem_cons.mp hc with rfl | hc
  ·exact rb
  ·exact hbs c hc
def zPo (h:Heap) (v:Value):Prop:=(∃ i t,v = .int i t)\/∃ a o,v = .ref a/\h.get? a = some o
theorem zQr {M:Model} {v:Value} (hv:zPo s.heap v) {Q:Value->Shared->Prop} (h:∀ b,Q b s):wpAny M A (typeOf v) Q E s:=by
 rcases hv with ⟨i,t,rfl⟩ | ⟨a,o,rfl,ho⟩
 ·exact wpAny_pure (h _)
 ·exact Looks.here (show Looks M s.heap (typeOf (.ref a)) o.cls from (Looks.ld ho).andThen .now) (h _)
theorem zJu {M:Model} {vs:List Value} (hv:∀ v∈vs,zPo s.heap v) {Q:Option Value->Shared->Prop} (h:∀ b,Q b s):wpAny M A (oneTypeOnly' vs.toArray) Q E s:=by
 rw [oneTypeOnly'_eq,List.mapM_toArray,map_eq_pure_bind];refine wpAny_bind (wpAny_bind (zDi (R:=λ_=>True) (λv hm Q' hq=>zQr (hv v hm) λb=>hq b trivial) λbs _=>wpAny_pure ?_));split
 ·exact wpAny_pure (h _)
 ·exact wpAny_pure (h _)
theorem zPv {M:Model} {vs:List Value} (hT:∀ v∈vs,∃ ns,zOh s.heap v ns) {Q:SortKind->Shared->Prop} (h:∀ κ,Q κ s):wpAny M A (keyKind' vs.toArray) Q E s:=by
 have ht:∀ v∈vs,zPo s.heap v:=λv hv=>by
  obtain ⟨ns,a,o,n,its,e,ho,_⟩:=hT v hv;exact .inr ⟨a,o,e,ho⟩
 rw [kat_kind_eq,List.mapM_toArray,map_eq_pure_bind];refine wpAny_bind (wpAny_bind (zDi (R:=λb=>∀ v,b = some v->zPo s.heap v) (λv hm Q' hq=>?_) λbs hbs=>wpAny_pure ?_))
 ·obtain ⟨ns,a,o,n,its,rfl,ho,hc,hd,r⟩:=hT v hm;rw [kas_first_eq];refine wpAny_bind (Looks.here (show Looks M s.heap (typeOf (.ref a)) o.cls from (Looks.ld ho).andThen .now) ?_);rw [hc,if_neg (by first | decide | simp)];refine wpAny_bind (listItems_at ho hd (wpAny_pure (hq _ λv e=>?_)));cases ns with
  | nil =>
   cases r;cases e
  | cons k ks =>
   cases r with
   | cons p q =>
    obtain ⟨t,rfl⟩:=p;rw [List.getElem?_toArray,List.getElem?_cons_zero] at e;cases e;exact .inl ⟨_,_,rfl⟩
 ·split
  ·refine wpAny_bind (wpAny_rule ?_);have e:bs.toArray.filterMap id = (bs.filterMap id).toArray:=by simp
   rw [e];refine wpAny_bind (zJu (λv hv=>?_) λb=>wpAny_pure (h _));obtain ⟨b,hb,e⟩:=List.mem_filterMap.mp hv;exact hbs b hb v e
  ·split
   ·exact wpAny_pure (h _)
   ·exact wpAny_bind (zJu ht λb=>wpAny_pure (h _))
theorem zMm {C:Bool->Shared->Prop} (h:∀ c,C c s) (b fin:Bool):∀ {ns ms:List Int} {us ws:List Value} (_:xI (ns.map V.int) us) (_:xI (ms.map V.int) ws) (i:Nat),KatLex prog w A b fin C (us.zip ws) i s
 | [],_,_,_,r1,_,i=>by
  cases r1;exact kat_nil (h _)
 | _ :: _,[],_,_,r1,r2,i=>by
  cases r2;rw [List.zip_nil_right];exact kat_nil (h _)
 | x :: xs,y :: ys,_,_,r1,r2,i=>by
  cases r1 with
  | cons p1 q1 =>
   cases r2 with
   | cons p2 q2 =>
    obtain ⟨t,rfl⟩:=p1;obtain ⟨t',rfl⟩:=p2;rw [List.zip_cons_cons];refine kat_cons (wpAny_eqBool_int (kat_go (λ_=>kat_yes (zMm h b fin q1 q2 (i + 1))) λ_=>kat_no ?_));cases (b && i == 0) with
    | true=>exact oneLt_int (h _)
    | false=>exact kat_one _ _ (wpAny_lt_int (h _))
theorem zMl {vs:List Value} (hu:A.units < cLine) (hT:∀ v∈vs,∃ ns,zOh s.heap v ns) (κ:SortKind):zJ4 prog w A s κ (vs.zip vs):=λx y hx hy Q h=>by
 obtain ⟨ns,a,o,n,us,e1,ho,hc,hd,r1⟩:=hT _ (mem_zip_self hx).2;obtain ⟨ms,b,o',n',ws,e2,ho',hc',hd',r2⟩:=hT _ (mem_zip_self hy).2;rw [e1,e2];have i1:IntsAre us.toArray.toList ns:=sV r1;have i2:IntsAre ws.toArray.toList ms:=sV r2;rcases κ with _ | _ | bb
 ·show wpAny (model prog w) A (oneLt' false (.ref a) (.ref b)) Q _ s;exact kat_one _ _ (HT.lt_tupInts ⟨o,ho,hc,n,hd⟩ ⟨o',ho',hc',n',hd'⟩ i1 i2 hu (by first | exact h _ | exact ⟨_,rfl,h _⟩))
 ·show wpAny (model prog w) A (oneLt' true (.ref a) (.ref b)) Q _ s;rw [oneLt'_eq];simp only [if_true];refine wpAny_bind (wpAny_cRoomFor hu ?_);obtain ⟨cls,dd,data,sl⟩:=o;obtain ⟨cls2,dd2,data2,sl2⟩:=o';simp only at hc hd hc' hd';subst hc hd hc' hd';refine wpAny_bind (wpAny_callSpecialIfBound?_slot ⟨_,ho,rfl⟩ PySem.F.slot_tuple_lt (call_meets PySem.F.slot_tuple_lt ⟨_,ho,rfl⟩ PySem.F.entry_tuple_lt (PySem.F.args_tuple_lt_2 _ _) (HT.tuple_lt_ints a b us.toArray ws.toArray n n' dd dd2 sl sl2 ns ms i1 i2) ⟨ho,ho',?_⟩));exact wpAny_truthy_bool (h _)
 ·exact kat_lt ho hd ho' hd' (zMm h _ _ r1 r2 0)
end
theorem zGi {α β:Type} {f:α->β} {out m:List β} (h:out.Perm m):∀ {l:List α},l.map f = m->∃ l':List α,l'.Perm l/\l'.map f = out:=by
 induction h with
 | nil=>exact λ{l} e=>⟨l,.refl _,e⟩
 | cons x _ ih =>
  intro l e;cases l with
  | nil=>cases e
  | cons a l =>
   obtain ⟨l',p,e'⟩:=ih (List.cons.inj e).2;exact ⟨a :: l',p.cons _,by rw [List.map_cons,e',(List.cons.inj e).1]⟩
 | swap x y t =>
  intro l e
  match l,e with
  | a :: b :: l,e =>
   obtain ⟨e1,e2⟩:=List.cons.inj e;obtain ⟨e3,e4⟩:=List.cons.inj e2;exact ⟨b :: a :: l,.swap ..,by rw [List.map_cons,List.map_cons,e1,e3,e4]⟩
 | trans _ _ ih1 ih2 =>
  intro l e;obtain ⟨l2,p2,e2⟩:=ih2 e;obtain ⟨l1,p1,e1⟩:=ih1 e2;exact ⟨l1,p1.trans p2,e1⟩
section
variable {X:Cx}
theorem zGk (hu:X.A.units + 2 < cLine):zB2 X (.builtin "sorted") (λxs H Q=>∃ (l:Addr) (ts:List (Addr × List Int)),xs = [.ref l]/\SqL X.K H l ((ts.map (·.1)).map V.ref)/\(∀ t∈ts,H t.1 = some (.tup (t.2.map V.int))) /\
  ∀ (p:Addr) (us:List (Addr × List Int)),H p = none->us.Perm ts->Q (.ref p) (upd H p (.lst ((us.map (·.1)).map V.ref)))):=by
 intro pins s σ H xs us Q I r h;obtain ⟨l,ts,rfl,hq,hts,q⟩:=h;obtain ⟨u,rfl,ru⟩:=xI.one r;cases ru;obtain ⟨its,rv,pl,hz⟩:=I.list hq;have ei:=rV rv;subst ei;have hT:∀ v∈(ts.map (·.1)).map Value.ref,∃ ns,zOh s.heap v ns:=λv hv=>by
  obtain ⟨a,ha,rfl⟩:=List.mem_map.mp hv;obtain ⟨t,ht,rfl⟩:=List.mem_map.mp ha;obtain ⟨its,r1,⟨o,e,c,n,d⟩,_⟩:=I.tuple (SqT.of (hts t ht));exact ⟨t.2,_,o,n,its,rfl,e,c,d,r1⟩
 refine zO2 pl.isList ?_ (λ_ s' kp E' Q' hq=>zPv (λv hv=>let ⟨ns,e⟩:=hT v hv; ⟨ns,e.keep kp⟩) hq) (λ_ s' kp κ=>zMl hu (λv hv=>let ⟨ns,e⟩:=hT v hv; ⟨ns,e.keep kp⟩) κ) λout pm=>?_
 ·rw [List.length_map]; rw [List.length_map] at hz; exact hz
 ·rw [List.map_map] at pm;obtain ⟨us,pu,rfl⟩:=zGi pm rfl;have e0:us.map (Value.ref ∘ λx:Addr × List Int=>x.1) = (us.map (·.1)).map Value.ref:=by rw [List.map_map]
  rw [e0];obtain ⟨e,at'⟩:=sortedAll_at s.heap ((ts.map (·.1)).map Value.ref) ((us.map (·.1)).map Value.ref).toArray;have fr:H (s.heap.objs.size + 1) = none:=I.hok.fresh (Nat.le_succ _);refine ⟨.ref (s.heap.objs.size + 1),_,I.laid (t':=s.toks) (a:=s.heap.objs.size + 1) (o:=.lst ((us.map (·.1)).map V.ref)) (λb ob q=>sortedAll_old q) (Nat.le_succ _) ?_,rfl,q _ _ fr pu⟩;refine ⟨?_,_,e,vX _,at'⟩;rw [List.length_map,List.length_map,pu.length_eq];simpa using hz
end
end L2

namespace L2
open PySem PySem.Spec PyProof.Rows
def tK (H:Hp) (d:Addr):Hp:=λb=>if b = d then none else H b
theorem zAt {H:Hp} {d:Addr} : tK H d d = none:=if_pos rfl
theorem rL {H:Hp} {d b:Addr} (h:b≠d):tK H d b = H b:=if_neg h
theorem zRu {H:Hp} {d b:Addr} {o:HO} (h:tK H d b = some o):b≠d/\H b = some o:=by
 by_cases e:b = d
 ·rw [e,zAt] at h; cases h
 ·exact ⟨e,by rw [<- h,rL e]⟩
theorem sR {H:Hp} {d b:Addr} (h:H b = none):tK H d b = none:=by
 by_cases e:b = d
 ·rw [e,zAt]
 ·rw [rL e,h]
theorem sK {H:Hp} {d b:Addr} {o ob:HO} (hd:H d = some ob) (h:H b = some o) (n:ob≠o):tK H d b = some o:=by
 rw [rL λe=>n ?_]
 ·exact h
 ·rw [e,hd] at h;exact Option.some.inj h
theorem zN9 {H:Hp} {d D:Addr} {o v:HO} (hd:H d = some o) (n:D≠d):upd (upd (tK H d) D v) d o = upd H D v:=by
 funext b
 by_cases e:b = d
 ·rw [e,zB,zP (Ne.symm n),hd]
 ·rw [zP e];by_cases e2:b = D
  ·rw [e2,zB,zB]
  ·rw [zP e2,zP e2,rL e]
section
variable {X:Cx} {pins:List (Addr × Obj)} {σ:St} {H H3:Hp} {s s3:Shared} {d:Addr} {kvs:List (List Key × V)}
theorem Inv.hide (I:Inv X pins σ H s) (hd:H d = some (.dT kvs)):Inv X pins σ (tK H d) s where
 ok:=I.ok
 os:=I.os
 bare:=I.bare
 base:=⟨I.base.keep,I.base.slot,λb o e n hx=>sR (I.base.free b o e n hx),I.base.there,λb xs e=>sK hd (I.base.tups b xs e) (λz=>nomatch z),λb o u e=>sK hd (I.base.frzs b o u e) (λz=>nomatch z),
  λb ps e=>let ⟨more,q⟩:=I.base.tbls b ps e; ⟨more,sK hd q (λz=>nomatch z)⟩⟩
 loc:=I.loc
 cell:=I.cell
 free:=sR I.free
 freeC:=λx c e=>sR (I.freeC x c e)
 pin:=λp hp=>let ⟨h1,h2,h3⟩:=I.pin p hp; ⟨h1,sR h2,h3⟩
 hok:=λb o e=>by
  obtain ⟨_,e'⟩:=zRu e;exact (I.hok b o e').stay (λc u _ q=>q) (λc q=>sK hd q (λz=>nomatch z)) λc xs q=>sK hd q (λz=>nomatch z)
 len:=I.len
theorem Inv.back (I:Inv X pins σ H s) (hd:H d = some (.dT kvs)) (J:Inv X pins σ H3 s3) (hH:H3 d = none) (same:∀ o,s.heap.get? d = some o->s3.heap.get? d = some o) (tp:∀ b xs,H b = some (.tup xs)->H3 b = some (.tup xs)):Inv X pins σ (upd H3 d (.dT kvs)) s3:=by
 have ne:∀ {b:Addr},H b = none->b≠d:=λ{b} n e=>by rw [e,hd] at n; cases n
 have nk:∀ {b:Addr} {o:HO},H3 b = some o->upd H3 d (.dT kvs) b = some o:=λ{b o} e=>by
  rw [zP λz=>by rw [z,hH] at e; cases e];exact e
 refine ⟨J.ok,J.os,J.bare,⟨J.base.keep,J.base.slot,λb o e n hx=>?_,J.base.there,λb xs e=>nk (J.base.tups b xs e),λb o u e=>nk (J.base.frzs b o u e),λb ps e=>let ⟨more,q⟩:=J.base.tbls b ps e; ⟨more,nk q⟩⟩,J.loc,J.cell,?_,λx c e=>?_,λp hp=>?_,λb o e=>?_,J.len⟩
 ·rw [zP (ne (I.base.free b o e n hx))];exact J.base.free b o e n hx
 ·rw [zP (ne I.free)];exact J.free
 ·rw [zP (ne (I.freeC x c e))];exact J.freeC x c e
 ·obtain ⟨h1,h2,h3⟩:=J.pin p hp;exact ⟨h1,by rw [zP (ne (I.pin p hp).2.1)]; exact h2,h3⟩
 ·by_cases eb:b = d
  ·subst eb;rw [zB] at e;cases e;obtain ⟨z,y,xs,r,o,es,ep,h1,h2⟩:=(show vN X.prog X.w H s.heap b (.dT kvs) from I.hok b _ hd);exact ⟨z,y,xs,KT.keeps r (λc ys q=>nk (tp c ys q)),o,es,ep,same _ h1,h2⟩
  ·rw [zP eb] at e;exact (J.hok b o e).stay (λc u _ q=>q) (λc q=>nk q) λc xs q=>nk q
def Itk (ts:List (Addr × List Key)):It:=⟨λk _=>k < ts.length,λk H v H'=>H' = H/\∃ t,ts[k]? = some t/\v = .ref t.1,λk _=>ts.length<=k⟩
def zT9 (nt:Nat) (caps:List (Str × Nat)) (tl:TE) (g:CC->TG) (tt:CC->TT) (te:CC->TE):TE:=λσ H Q=>tl σ H λx H1=>∃ (d:Addr) (kvs:List (List Key × V)),x = .ref d/\H1 d = some (.dT kvs) /\
 ∀ (ts:List (Addr × List Key)),ts.map (·.2) = kvs.map (·.1)->(∀ t∈ts,H1 t.1 = some (.tup (t.2.map kV)))->∀ (c:CC) (D:Addr),H1 D = none ->
  zBz (Itk ts) D (g c) (tt c) (te c) (zGm caps nt σ) (tK H1 d) (λv H'=>H' d = none->Q v (upd H' d (.dT kvs)))
variable {T:List Str} {caps:List (Str × Nat)} {scope:Scope} {elt target iter:Expr} {ifs:List Expr} {pos:Pos} {tl:TE} {g:CC->TG} {tt:CC->TT} {te:CC->TE}
theorem zJ0 (S:tG X caps scope) (hc:X.calm = true) (hl:PE X iter tl) (hg:∀ c,PG (xB X (T ++ caps.map (·.1)) scope c) target (g c)) (ht:∀ c,zSf (xB X (T ++ caps.map (·.1)) scope c) ifs (tt c)) (he:∀ c,PE (xB X (T ++ caps.map (·.1)) scope c) elt (te c))
  (hs:∀ x,foldedSetIterable iter X.env x = pure x:=by intro _; rfl):PE X (.ListComp elt [⟨target,iter,ifs,0⟩] scope pos) (zT9 T.length caps tl g tt te):=by
 intro pins s σ H Q I h;rw [eval_ListComp];refine wpAny_comprehension_free (use:=none) rfl hs (zIw S.cells) S.kind S.loc (thn (hl pins s σ H _ I h) λv s1 ⟨x,H1,I1,r1,q1⟩=>?_);obtain ⟨d,kvs,e,hd,q⟩:=q1;subst e;cases r1;obtain ⟨hz,hsm,ys,rel,ob,es,age,gd,ex,dat,hes,hjunk⟩:=zSd I1.hok hd;have hsz:es.size = ys.length:=size_of_entries hes;have props:(ys.map λy=>(y.2.1,y.1)).map (·.2) = kvs.map (·.1)/\∀ t∈ys.map (λy=>(y.2.1,y.1)),H1 t.1 = some (.tup (t.2.map kV)):=by
  clear hes hsz q hd hz hjunk
  induction rel with
  | nil=>exact ⟨rfl,λt ht=>nomatch ht⟩
  | @cons p y ps zs hp t ih =>
   refine ⟨by rw [List.map_cons,List.map_cons,List.map_cons,ih.1,hp.1],λt' ht'=>?_⟩;rcases List.mem_cons.mp ht' with e | ht'
   ·subst e;show H1 y.2.1 = some (.tup (y.1.map kV));rw [<- hp.1];exact hp.2.1
   ·exact ih.2 t' ht'
 have keyAt:∀ (k:Nat) (hk:k < es.size),∃ t,(ys.map λy=>(y.2.1,y.1))[k]? = some t/\es[k].key = Value.ref t.1:=λk hk=>by
  have ek:=entry_at hes k;have hk':k < ys.length:=by omega
  rw [Array.getElem?_eq_getElem hk,List.getElem?_eq_getElem hk',Option.map_some] at ek;refine ⟨_,by rw [List.getElem?_map,List.getElem?_eq_getElem hk']; rfl,?_⟩;rw [Option.some.inj ek];rfl
 have q:=q _ props.1 props.2;have tlen:(ys.map λy=>(y.2.1,y.1)).length = es.size:=by rw [List.length_map,hsz]
 generalize (ys.map λy=>(y.2.1,y.1)) = ts at props keyAt q tlen;have raw1:zLc s1.heap d es age:=⟨ob,gd,ex,dat⟩;refine zI4 hsm raw1 ?_;have I2:Inv X pins σ (tK H1 d) { s1 with heap:=s1.heap.push { cls:=.type "dict_keyiterator", data:=.fields #[.ref d,.int 0 0,.int es.size 0,.int age 0] } }:=(I1.hide hd).kept (t':=s1.toks) λb o e=>Heap.get?_push_of_some _ e;have ki0:({ s1 with heap:=s1.heap.push { cls:=.type "dict_keyiterator", data:=.fields #[.ref d,.int 0 0,.int es.size 0,.int age 0] } } : Shared).heap.IsKeyIter s1.heap.objs.size d 0 es.size age:=⟨_,Heap.get?_push_size _ rfl,rfl,rfl⟩;have gd2:({ s1 with heap:=s1.heap.push { cls:=.type "dict_keyiterator", data:=.fields #[.ref d,.int 0 0,.int es.size 0,.int age 0] } } : Shared).heap.get? d = some ob:=Heap.get?_push_of_some _ gd;have f2:∀ b∈[s1.heap.objs.size],zLd X pins (tK H1 d) b:=λb hb=>by
  rw [List.mem_singleton] at hb;subst hb;exact I1.fpOk (Nat.le_refl _) (sR (I1.hok.fresh (Nat.le_refl _)))
 have ndf:d ∉ frs X.stack:=λz=>by
  have:=I1.stkFree d z;rw [hd] at this;cases this
 have dlt:d < s1.heap.objs.size:=Heap.lt_size gd;have fr1:∀ b,s1.heap.objs.size<=b->H1 b = none:=λb hb=>I1.hok.fresh hb;have q2:∀ c:CC,∀ D:Addr,H1 D = none->zBz (Itk ts) D (g c) (tt c) (te c) (zGm caps T.length σ) (tK H1 d) (λv H'=>H' d = none->Q v (upd H' d (.dT kvs))):=q;have hsize:({ s1 with heap:=s1.heap.push { cls:=.type "dict_keyiterator", data:=.fields #[.ref d,.int 0 0,.int es.size 0,.int age 0] } } : Shared).heap.objs.size = s1.heap.objs.size + 1:=by rw [Heap.size_push]
 generalize ({ s1 with heap:=s1.heap.push { cls:=.type "dict_keyiterator", data:=.fields #[.ref d,.int 0 0,.int es.size 0,.int age 0] } } : Shared) = s2 at I2 hsize ki0 gd2 ⊢;have itlt:s1.heap.objs.size < s2.heap.objs.size:=by rw [hsize]; exact Nat.lt_succ_self _
 generalize s1.heap.objs.size = it at ki0 itlt f2 dlt ⊢;refine wpAny_newObj_type (wpAny_newFunctionEnv S.nocell (by intro y hy; simp at hy) (λh1 hn hsb=>?_) S.kind);dsimp only at hn hsb ⊢;generalize hg2:s2.heap.push { cls:=.type "list", dict:=none,data:=.seq ([]:List Value).toArray } = G at hn hsb ⊢;have hCv:G.objs.size = s2.heap.objs.size + 1:=by rw [<- hg2,Heap.size_push]
 have hDC:G.objs.size≠s2.heap.objs.size:=by rw [hCv]; exact Nat.succ_ne_self _
 have hCle:s2.heap.objs.size<=G.objs.size:=by rw [hCv]; exact Nat.le_succ _
 have old:∀ b o,s2.heap.get? b = some o->h1.get? b = some o:=λb o e=>hsb.extBut b o (Nat.ne_of_lt (Nat.lt_of_lt_of_le (Heap.lt_size e) hCle)) (Heap.get?_push_of_some _ (hg2 ▸ Heap.get?_push_of_some _ e));have hacc:∃ n,h1.get? s2.heap.objs.size = some { cls:=.type "list", data:=.seq ([]:List Value).toArray n }:=⟨_,hsb.extBut _ _ (Ne.symm hDC) (Heap.get?_push_of_some _ (hg2 ▸ Heap.get?_push_size _ rfl))⟩;have hfp:∀ b∈[it],b < s2.heap.objs.size:=λb hb=>by
  rw [List.mem_singleton] at hb;subst hb;exact itlt
 have cs:=tD (env:=X.env) scope.names [] S.cells (λ_ _ z=>by cases z);have I0:=zBt (T:=T) (tk:=s2.toks + ([]:List (Str × Value)).length) S I2 f2 hfp (Nat.le_refl _) hCle hDC old hacc hn;have st0:h1.IsKeyIter it d 0 es.size age:=ki0.at λo e=>old _ o e;have fresh2:tK H1 d s2.heap.objs.size = none:=I2.hok.fresh (Nat.le_refl _);have dlt2:d < s2.heap.objs.size:=Heap.lt_size gd2;obtain ⟨W,⟨m0,w0⟩,turn⟩:=q2 ⟨G.objs.size,s2,tK H1 d,[it]⟩ s2.heap.objs.size (by rw [<- rL (H:=H1) (Nat.ne_of_gt dlt2)]; exact fresh2);have fr0:∀ b∈[it],upd (tK H1 d) s2.heap.objs.size (.lst []) b = none:=λb hb=>by
  rw [zP (Nat.ne_of_lt (hfp b hb))];exact (f2 b hb).1
 have stat:∀ {H':Hp},(∀ b∈[it],H' b = none)->∀ b∈[it],zLd (xB X (T ++ caps.map (·.1)) scope ⟨G.objs.size,s2,tK H1 d,[it]⟩) [] H' b:=λ{H'} hn' b hb =>
  ⟨hn' b hb,Nat.ne_of_lt (Nat.lt_of_lt_of_le (hfp b hb) hCle),I0.ok.exfs b hb,.inl hb,λx c e=>(f2 b hb).2.2.2.2.1 x c (cs x c e),λp hp=>absurd (show p∈([]:List (Addr × Obj)) from hp) (by simp)⟩
 have ndit:d ∉ [it]:=λz=>by rw [List.mem_singleton] at z; exact absurd dlt (by rw [z]; exact Nat.lt_irrefl _)
 have rawAt:∀ {pl:List (Addr × Obj)} {σ':St} {H':Hp} {s':Shared},Inv (xB X (T ++ caps.map (·.1)) scope ⟨G.objs.size,s2,tK H1 d,[it]⟩) pl σ' H' s'->s'.heap.get? d = some ob/\H' d = none:=λ{pl σ' H' s'} I' =>
  ⟨I'.base.keep d ob gd2 zAt ndf ndit,I'.base.free d ob gd2 zAt ndit⟩
 have objAt:∀ {h':Heap} {k:Nat},h'.IsKeyIter it d k es.size age->∀ b∈[it],∃ o,h'.get? b = some o/\∀ v,o.data≠.cell v:=λ{h' k} ki b hb=>by
  rw [List.mem_singleton] at hb;subst hb;obtain ⟨o,e,_,d2⟩:=ki;exact ⟨o,e,λv z=>by rw [d2] at z; cases z⟩
 have loop:codeAny (model X.prog X.w) X.A (.compLoop (.ListComp elt [⟨target,iter,ifs,0⟩] scope pos) 0 (.ref it) (.ref s2.heap.objs.size) (compEnvC scope (qD X.env scope.names []) G.objs.size X.env))
   (compPost (model X.prog X.w) X.A X.xe none (EP X pins σ Q) (.ref s2.heap.objs.size) G.objs.size) { s2 with heap:=h1,toks:=s2.toks + ([]:List (Str × Value)).length }:=by
  refine codeAny_loop rfl (λn s'=>∃ i σ' ys H',Inv (xB X (T ++ caps.map (·.1)) scope ⟨G.objs.size,s2,tK H1 d,[it]⟩) [] σ' H' s'/\s'.heap.IsKeyIter it d i es.size age/\(∀ b∈[it],H' b = none)/\W i n σ' ys H') (λn s3 hI=>?_) m0 ⟨0,_,[],_,I0,st0,fr0,w0⟩;obtain ⟨i,σ3,ys,H3,I3,st3,fr3,w3⟩:=hI;show wpAny _ X.A ((compTurn (.ListComp elt [⟨target,iter,ifs,0⟩] scope pos) 0 (.ref it) (.ref s2.heap.objs.size) (compEnvC scope (qD X.env scope.names []) G.objs.size X.env)).onRaise (λx=>do noteFrame x (compEnvC scope (qD X.env scope.names []) G.objs.size X.env); theTreesLotGoes x)) _ _ s3;refine wpAny_noted ?_;rw [compTurn_list];refine wpAny_bind (wpAny_standAt (wpAny_bind ?_));obtain ⟨hD3,turn3⟩:=turn i n σ3 ys H3 w3;obtain ⟨gd3,hd3⟩:=rawAt I3;have raw3:zLc s3.heap d es age:=⟨ob,gd3,ex,dat⟩;obtain ⟨f0,f1,f2',f3,f4,f5⟩:=stat fr3 it (.head _);rcases turn3 with ⟨stop,qn⟩ | ⟨go,N,hN,step⟩
  ·have stop:ts.length<=i:=stop;refine zMb (I3.ok.hd hc) st3 raw3 (by omega) λh' eb=>?_;have I4:=I3.turned (t':=s3.toks) (λb o hb q=>eb b o hb q) f0 f1 f3 f4 f5;refine wpAny_pure ?_;show ∃ m,h'.Ns G.objs.size m/\∀ h'',Heap.SameBut G.objs.size h' h''->EP X pins σ Q (.ref s2.heap.objs.size) { s3 with heap:=h'' };obtain ⟨m4,hn4,_⟩:=I4.loc;refine ⟨m4,hn4,λh'' sb=>⟨.ref s2.heap.objs.size,upd H3 d (.dT kvs),?_,rfl,qn hd3⟩⟩;have J:Inv X pins σ H3 { s3 with heap:=h'' }:=by
    refine I2.call' (s':={ s3 with heap:=h'' }) (ch:=[it]) I4.os (Un.same I4.base sb (Heap.get?_none_of_le hCle)) (HOk.same I4.hok sb I4.free) I4.bare λb hb=>?_;obtain ⟨_,f1,_,f3,f4,f5⟩:=f2 b hb;exact ⟨f3,f1,f4,f5⟩
   refine I1.back hd J hd3 (λo e=>?_) λb xs e=>?_
   ·rw [gd] at e;cases e;exact (sb.2 d (Nat.ne_of_lt (Nat.lt_of_lt_of_le dlt2 hCle))).trans (eb d ob (λz=>ndit (by rw [z]; exact .head _)) gd3)
   ·exact I3.base.tups b xs (sK hd e (λz=>nomatch z))
  ·have go:i < ts.length:=go;have hi':i < es.size:=by omega
   obtain ⟨t,gt,ek⟩:=keyAt i hi';refine zJt st3 raw3 hi' λh' ki' hs'=>?_;have I4:=I3.turned (t':=s3.toks) (λb o hb q=>hs'.extBut b o hb q) f0 f1 f3 f4 f5;have go':∀ {Q':Unit->Shared->Prop} {E':Value->Shared->Prop} {u:Value},Q' () { s3 with heap:=h' }->wpAny (model X.prog X.w) X.A (letOwnedTupleGo target (.ref it) u) Q' E' { s3 with heap:=h' }:=λ{Q' E' u} hq=>by
    obtain ⟨o,e,c,d2⟩:=ki';exact zO5 e c d2 (by decide) hq
   refine wpAny_bind (go' ?_);have I5':=I4.pinned (stat fr3) (objAt ki');rw [ek];refine wpAny_bind (zGd (hg _ _ _ σ3 H3 (.ref t.1) _ _ I5' rfl (step (.ref t.1) H3 ⟨rfl,t,gt,rfl⟩)) λ_ s6 ⟨σ6,H6,I6,q6⟩=>?_);have again:∀ {s7:Shared} {σ7:St} {zs:List V} {H7:Hp},Inv (xB X (T ++ caps.map (·.1)) scope ⟨G.objs.size,s2,tK H1 d,[it]⟩) ([] ++ zC9 [it] h') σ7 H7 s7->N σ7 zs H7 ->
     ∃ m,m < n/\∃ i σ' ys H',Inv (xB X (T ++ caps.map (·.1)) scope ⟨G.objs.size,s2,tK H1 d,[it]⟩) [] σ' H' s7/\s7.heap.IsKeyIter it d i es.size age/\(∀ b∈[it],H' b = none)/\W i m σ' ys H':=λ{s7 σ7 zs H7} I7 n7=>by
    obtain ⟨m',hm,w7⟩:=hN σ7 zs H7 n7;refine ⟨m',hm,i + 1,σ7,zs,H7,I7.unpinned,ki'.at λo e=>(I7.pin (it,o) (List.mem_append_right _ (List.mem_append_right _ (uA (.head _) e)))).1,λb hb=>?_,w7⟩;obtain ⟨o,e,d⟩:=objAt ki' b hb;exact (I7.pin (b,o) (List.mem_append_right _ (List.mem_append_right _ (uA hb e)))).2.1
   refine wpAny_bind (zGd (ht _ _ s6 σ6 H6 _ I6 q6) λok s7 ⟨H7,I7,q7⟩=>?_);cases ok with
   | false=>exact wpAny_pure ⟨rfl,again I7 q7⟩
   | true =>
    refine wpAny_bind (wpAny_bind (zGd (he _ _ s7 σ6 H7 _ I7 q7) λy s8 ⟨yv,H8,I8,r8,hD8,hl8,q8⟩=>?_));refine wpAny_bind (zGd (wS _ s8 σ6 H8 (.ref s2.heap.objs.size) [yv] (.ref s2.heap.objs.size) [y] (λ_ H9=>N σ6 (ys ++ [yv]) H9) I8 rfl (.cons r8 .nil) ⟨_,ys,yv,rfl,rfl,hD8,hl8,q8⟩) λ_ s9 ⟨_,H9,I9,_,q9⟩=>?_);exact wpAny_pure (wpAny_pure ⟨rfl,again I9 q9⟩)
 exact codeAny_compStart_list loop (wpAny_pyIter_keyiter st0 loop)
end
end L2

namespace L2
open PySem PySem.Spec PyProof.Rows
inductive Deep (K:PySem.W.Frag) (H:Hp):Nat->V->V->Bool->Prop where
 | same (n:Nat) (a:Addr):Deep K H n (.ref a) (.ref a) true
 | int (n:Nat) (i j:Int):Deep K H n (.int i) (.int j) (i == j)
 | str (n:Nat) (i j:Str):Deep K H n (.str i) (.str j) (i == j)
 | lst {n:Nat} {a b:Addr} {xs ys:List V} {e:Nat->Bool} (ne:a≠b) (ha:SqL K H a xs) (hb:SqL K H b ys) (hl:xs.length = ys.length) (he:∀ (j:Nat) (h1:j < xs.length) (h2:j < ys.length),Deep K H n xs[j] ys[j] (e j)):Deep K H (n + 1) (.ref a) (.ref b) ((List.range xs.length).all e)
 | lstN {n:Nat} {a b:Addr} {xs ys:List V} (ne:a≠b) (ha:SqL K H a xs) (hb:SqL K H b ys) (hl:xs.length≠ys.length):Deep K H (n + 1) (.ref a) (.ref b) false
 | tup {n:Nat} {a b:Addr} {xs ys:List V} {e:Nat->Bool} (ne:a≠b) (ha:SqT K H a xs) (hb:SqT K H b ys) (he:∀ (j:Nat) (h1:j < xs.length) (h2:j < ys.length),Deep K H n xs[j] ys[j] (e j)):Deep K H (n + 1) (.ref a) (.ref b) ((List.range (min xs.length ys.length)).all e && xs.length == ys.length)
section
variable {X:Cx} {pins:List (Addr × Obj)} {σ:St} {H:Hp} {s:Shared}
theorem zMn (hc:X.calm = true):zB2 X (.builtin "min") (λxs H Q=>∃ (p:Addr) (ns:List Int),xs = [.ref p]/\SqL X.K H p (ns.map V.int)/\ns≠[]/\∀ M:Int,M∈ns->(∀ a∈ns,M<=a)->Q (.int M) H):=by
 intro pins s σ H xs us Q I r h;obtain ⟨p,ns,rfl,hq,hne,q⟩:=h;obtain ⟨u,rfl,r1⟩:=zM2 r;cases r1;obtain ⟨its,rv,pl,hz⟩:=I.list hq;have hi:IntsAre its.toArray.toList ns:=sV rv;obtain ⟨ys,e⟩:=hi.allInts.items;have hns:ns = ys.toList.map (·.1):=by rw [<- hi.numsOf,<- nums_intItems,<- e]
 have hsz:0 < ys.size:=by
  have h3:0 < ns.length:=List.length_pos_iff.mpr hne;rw [hns,List.length_map,Array.length_toList] at h3;exact h3
 have hL:s.heap.IsList p (intItems ys):=by rw [<- e]; exact pl.isList
 refine min_intList (I.ok.hd hc) hL hsz λv h' tk hv hk=>?_;obtain ⟨t,rfl⟩:=intItems_at hv;obtain ⟨h1,h2⟩:=argBest_lt (numAt ys) (ys.size - 1);refine ⟨.int _,H,I.kept (t':=tk) hk,⟨t,rfl⟩,q _ ?_ λa ha=>?_⟩
 ·rw [hns,numAt_eq]; exact getD_mem (by rw [List.length_map,Array.length_toList]; omega)
 ·rw [hns] at ha;obtain ⟨j,hj,rfl⟩:=mem_getD ha;rw [List.length_map,Array.length_toList] at hj;rw [<- numAt_eq]; exact h2 j (by omega)
end
end L2

namespace HT
open PySem PySem.Spec
end HT
namespace L2
open PySem PySem.Spec PyProof.Rows PySem.W
end L2

namespace L2
open PySem PySem.Spec PyProof.Rows
end L2

namespace PyProof.Rows
open PySem
def rk (r:Keyed->Int) (xs:Array Keyed) (i:Nat):Int:=(xs[i]?.map r).getD 0
structure TookR (r:Keyed->Int) (x y out:Array Keyed) (ia ib:Nat):Prop extends zCk x y out ia ib where
 srt:∀ i j,i<=j->j < out.size->rk r out i<=rk r out j
 oa:∀ i j,i < out.size->ia<=j->j < x.size->rk r out i<=rk r x j
 ob:∀ i j,i < out.size->ib<=j->j < y.size->rk r out i<=rk r y j
structure LeftR (r:Keyed->Int) (x y out:Array Keyed) (na nb:Nat):Prop extends zCi x y out na nb where
 srt:∀ i j,i<=j->j < out.size->rk r out j<=rk r out i
 oa:∀ i j,i < out.size->j < na->rk r x j<=rk r out i
 ob:∀ i j,i < out.size->j < nb->rk r y j<=rk r out i
end PyProof.Rows

namespace PyProof.Rows
open PySem
section
variable {prog:Program} {w:World} {A:Around} {E:Value->Shared->Prop} {s:Shared} {st st':SortSt} {κ:SortKind} {ys:List Keyed} {r:Keyed->Int}
structure StayR (κ:SortKind) (ys:List Keyed) (lo:Nat) (st st':SortSt):Prop where
 base:wX κ ys st'
 pend:pendingOf st' = pendingOf st
 fix:∀ j,j < lo->(arrOf st')[j]? = (arrOf st)[j]?
end
end PyProof.Rows

namespace PyProof.Rows
open PySem
end PyProof.Rows

namespace HT
open PySem PySem.Spec PyProof.Rows
end HT
namespace PySem.W
open PySem PySem.Calls PyProof.Rows
end PySem.W
namespace L2
open PySem PySem.Spec PyProof.Rows PySem.W
theorem filter_le {α:Type} {p q:α->Bool} : ∀ {l:List α},(∀ x∈l,p x = true->q x = true)->(l.filter p).length<=(l.filter q).length
 | [],_=>Nat.le_refl _
 | x :: l,h=>by
  have ih:=filter_le (l:=l) λy hy=>h y (.tail _ hy);rw [List.filter_cons,List.filter_cons];by_cases c:p x = true
  ·rw [if_pos c,if_pos (h x (.head _) c),List.length_cons,List.length_cons];omega
  ·rw [if_neg c];split
   ·rw [List.length_cons]; omega
   ·exact ih
theorem filter_lt {α:Type} {p q:α->Bool} : ∀ {l:List α} {z:α},(∀ x∈l,p x = true->q x = true)->z∈l->p z = false->q z = true->(l.filter p).length < (l.filter q).length
 | x :: l,z,h,hz,h1,h2=>by
  rw [List.filter_cons,List.filter_cons];rcases List.mem_cons.mp hz with rfl | hz
  ·rw [if_neg (by rw [h1]; decide),if_pos h2,List.length_cons];have:=filter_le (l:=l) λy hy=>h y (.tail _ hy);omega
  ·have ih:=filter_lt (l:=l) (λy hy=>h y (.tail _ hy)) hz h1 h2;by_cases c:p x = true
   ·rw [if_pos c,if_pos (h x (.head _) c),List.length_cons,List.length_cons];omega
   ·rw [if_neg c];split
    ·rw [List.length_cons]; omega
    ·exact ih
end L2

namespace PyProof.Rows
open PySem
end PyProof.Rows
namespace L2
open PySem PySem.Spec PyProof.Rows PySem.W
end L2

namespace Sea
open PySem L2
structure Rel (b x y:Int) (P P':P3):Prop where
 pos:0 < P.2.2
 pos':0 < P'.2.2
 ex:(b * P.1 + x * P.2.2) * P'.2.2 = P'.1 * P.2.2
 ey:(b * P.2.1 + y * P.2.2) * P'.2.2 = P'.2.1 * P.2.2
def zG7 (P:P3):Prop:=0 < P.2.2/\Nat.gcd (Nat.gcd P.1.natAbs P.2.1.natAbs) P.2.2.natAbs = 1
section
variable {b x y:Int}
def leP (P Q:P3):Prop:=leS (0,P) (0,Q)
theorem zRw (P Q:P3):ahB (0,P) (0,Q) = true↔P.1 * Q.2.2 - Q.1 * P.2.2 < 0\/(P.1 * Q.2.2 - Q.1 * P.2.2 = 0/\P.2.1 * Q.2.2 - Q.2.1 * P.2.2 < 0):=by
 unfold ahB;dsimp only;split
 ·rename_i h
  rw [decide_eq_true_iff];omega
 ·rename_i h
  rw [decide_eq_true_iff];omega
theorem zPs {P Q:P3} (lP:zG7 P) (lQ:zG7 Q) (h1:leP P Q) (h2:leP Q P):P = Q:=by
 have n1:¬ ahB (0,Q) (0,P) = true:=by intro z; have h1:ahB (0,Q) (0,P) = false:=h1; rw [h1] at z; cases z
 have n2:¬ ahB (0,P) (0,Q) = true:=by intro z; have h2:ahB (0,P) (0,Q) = false:=h2; rw [h2] at z; cases z
 rw [zRw] at n1 n2;exact uK lP.1 lQ.1 lP.2 lQ.2 (by omega) (by omega)
theorem yD {ss:List Sd} {P:P3} (c:Cor ss P):zG7 P:=by
 obtain ⟨t,_,u,_,h,rfl,_⟩:=c;obtain ⟨sp,_,_⟩:=wJ h;exact ⟨sp.pos,sp.low⟩
end
end Sea

namespace Sea
open PySem L2
def crR (A B:P3):Rat:=((A.1 * B.2.1 - B.1 * A.2.1:Int):Rat) / ((A.2.2 * B.2.2:Int):Rat)
theorem zAz (A B:P3):crR B A = - crR A B:=by
 unfold crR;rw [show B.1 * A.2.1 - A.1 * B.2.1 = -(A.1 * B.2.1 - B.1 * A.2.1) by omega,Int.mul_comm B.2.2];rw [Rat.intCast_neg];grind
theorem vF {a:Int} (h:0 < a):(a:Rat)≠0:=by
 intro z;have:=Rat.intCast_inj.mp (z.trans (by rfl:(0:Rat) = ((0:Int):Rat)));omega
theorem c3R {O A B:P3} (hO:0 < O.2.2) (hA:0 < A.2.2) (hB:0 < B.2.2):((c3 O A B:Int):Rat) / ((O.2.2 * A.2.2 * B.2.2:Int):Rat) = crR O A + crR A B + crR B O:=by
 have nO:=vF hO;have nA:=vF hA;have nB:=vF hB;unfold c3 crR;simp only [Rat.intCast_mul,Rat.intCast_sub,Rat.intCast_add];generalize (O.1:Rat) = o1;generalize (O.2.1:Rat) = o2;generalize (O.2.2:Rat) = ow at *;generalize (A.1:Rat) = a1;generalize (A.2.1:Rat) = a2;generalize (A.2.2:Rat) = aw at *;generalize (B.1:Rat) = b1;generalize (B.2.1:Rat) = b2;generalize (B.2.2:Rat) = bw at *;grind
def qX:List Rat->Rat
 | []=>0
 | x :: l=>x + qX l
theorem uR:∀ l m:List Rat,qX (l ++ m) = qX l + qX m
 | [],m=>by show qX m = 0 + qX m; grind
 | x :: l,m=>by show x + qX (l ++ m) = x + qX l + qX m; rw [uR l m]; grind
theorem zM0 {l m:List Rat} (h:l.Perm m):qX l = qX m:=by
 induction h with
 | nil=>rfl
 | cons x _ ih=>show x + _ = x + _; rw [ih]
 | swap x y l=>show y + (x + qX l) = x + (y + qX l); grind
 | trans _ _ h1 h2=>exact h1.trans h2
def pth (r:Nat->P3) (j:Nat):List (P3 × P3):=(List.range j).map λi=>(r i,r (i + 1))
def edg (O:P3) (r:Nat->P3) (j:Nat):List (P3 × P3):=(O,r 0) :: (pth r j ++ [(r j,O)])
def zLb (l:List (P3 × P3)):Rat:=qX (l.map λe=>crR e.1 e.2)
theorem zJq (r:Nat->P3) (j:Nat):pth r (j + 1) = pth r j ++ [(r j,r (j + 1))]:=by
 unfold pth;rw [List.range_succ,List.map_append];rfl
theorem zGb (O:P3) (r:Nat->P3) (j:Nat):zLb (edg O r j) = crR O (r 0) + (zLb (pth r j) + crR (r j) O):=by
 unfold zLb edg;rw [List.map_cons,List.map_append];show crR O (r 0) + qX _ = _;rw [uR];show _ = crR O (r 0) + (qX _ + crR (r j) O)
 congr 2
 show crR (r j) O + 0 = crR (r j) O;grind
theorem zOr {N v cc Q w u:Rat} (n1:w≠0) (n2:u≠0) (n3:v≠0) (n4:Q≠0):2 * (N * v + cc * Q) / (2 * w * (Q * u) * v) = 2 * N / (2 * w * Q * u) + cc / (w * u * v):=by
 have e1:2 * N / (2 * w * Q * u) = 2 * N * v / (2 * w * (Q * u) * v):=by grind
 have e2:cc / (w * u * v) = 2 * (cc * Q) / (2 * w * (Q * u) * v):=by grind
 rw [e1,e2];grind
theorem zMa {O:P3} {r:Nat->P3} (hO:0 < O.2.2):∀ j:Nat,(∀ i,i<=j->0 < (r i).2.2)->2 * (((arS O r j).1:Int):Rat) / ((arB O r j:Int):Rat) = zLb (edg O r j)
 | 0,h=>by
  rw [zGb];have e:=zAz O (r 0);have z:zLb (pth r 0) = 0:=rfl;rw [e,z];show 2 * ((0:Int):Rat) / _ = _;rw [show ((0:Int):Rat) = 0 from rfl];grind
 | j + 1,h=>by
  have ih:=zMa hO j λi hi=>h i (by omega);have hj:=h j (by omega);have hj1:=h (j + 1) (Nat.le_refl _);have hP:=zFj (O:=O) (r:=r) j λi hi=>h i (by omega);have c:=c3R hO hj hj1;have an:=zAz O (r j);rw [zGb] at ih ⊢;have es:zLb (pth r (j + 1)) = zLb (pth r j) + crR (r j) (r (j + 1)):=by
   rw [zJq];unfold zLb;rw [List.map_append,uR]
   congr 1
   show crR (r j) (r (j + 1)) + 0 = _;grind
  rw [es];unfold arB at ih ⊢;show 2 * (((arS O r j).1 * (r (j + 1)).2.2 + c3 O (r j) (r (j + 1)) * (arS O r j).2:Int):Rat) / ((2 * O.2.2 * ((arS O r j).2 * (r j).2.2) * (r (j + 1)).2.2:Int):Rat) = _;have n1:=vF hO;have n2:=vF hj;have n3:=vF hj1;have n4:=vF hP;simp only [Rat.intCast_mul,Rat.intCast_add] at ih c ⊢;rw [show ((2:Int):Rat) = 2 from rfl] at ih ⊢;generalize (((arS O r j).1:Int):Rat) = N at *;generalize (((arS O r j).2:Int):Rat) = Q at *;generalize ((c3 O (r j) (r (j + 1)):Int):Rat) = cc at *;generalize ((O.2.2:Int):Rat) = w at *;generalize (((r j).2.2:Int):Rat) = u at *;generalize (((r (j + 1)).2.2:Int):Rat) = v at *;have k:=zOr (N:=N) (cc:=cc) n1 n2 n3 n4;rw [k,ih,c];generalize crR (r j) O = x1 at *;generalize crR O (r j) = x2 at *;grind
theorem Fq.rat {s t N B:Int} (f:Fq s t N B) (hB:0 < B):((N:Int):Rat) / ((B:Int):Rat) = ((s:Int):Rat) / ((t:Int):Rat):=by
 have n1:=vF hB;have p:=f.pos;have n2:=vF (show 0 < t by omega);have e:=congrArg (λi:Int=>(i:Rat)) f.eq;simp only [Rat.intCast_mul] at e;grind
theorem zD2 {ss:List Sd} {A B C:P3} (cA:Cor ss A) (cB:Cor ss B) (cC:Cor ss C) (hAB:A≠B) (hAC:A≠C) (hBC:B≠C):c3 A B C≠0:=by
 have tri:∀ {P Q:P3},Cor ss P->Cor ss Q->P≠Q->ahB (0,P) (0,Q) = true\/ahB (0,Q) (0,P) = true:=λ{P Q} cP cQ ne=>by
  by_cases h1:ahB (0,P) (0,Q) = true
  ·exact .inl h1
  ·by_cases h2:ahB (0,Q) (0,P) = true
   ·exact .inr h2
   ·exact absurd (zPs (yD cP) (yD cQ) (show ahB (0,Q) (0,P) = false by simpa using h2) (show ahB (0,P) (0,Q) = false by simpa using h1)) ne
 have go:∀ {P Q R:P3},Cor ss P->Cor ss Q->Cor ss R->P≠Q->P≠R->Q≠R->ahB (0,P) (0,Q) = true->ahB (0,P) (0,R) = true->c3 P Q R≠0:=λ{P Q R} cP cQ cR n1 n2 n3 a1 a2=>zJv cP cQ cR n1 n2 n3 (zDw (s:=(0,P)) (t:=(0,Q)) a1) (zDw (s:=(0,P)) (t:=(0,R)) a2);have tr:∀ {P Q R:P3},Cor ss P->Cor ss Q->Cor ss R->P≠R->ahB (0,P) (0,Q) = true->ahB (0,Q) (0,R) = true->ahB (0,P) (0,R) = true:=λ{P Q R} cP cQ cR n a1 a2=>by
  rcases tri cP cR n with h | h
  ·exact h
  ·exfalso;have l1:=zNw (s:=(0,P)) (t:=(0,Q)) (u:=(0,R)) (yD cP).1 (yD cQ).1 (yD cR).1 (zEf a1) (zEf a2);have l1:ahB (0,R) (0,P) = false:=l1;rw [l1] at h;cases h
 have s1:=sC A B C;have s2:=zNy A B C;have s3:=zIs A B C;have s4:=sC C A B;rcases tri cA cB hAB with ab | ba
 ·rcases tri cA cC hAC with ac | ca
  ·exact go cA cB cC hAB hAC hBC ab ac
  ·have cb:=tr cC cA cB (Ne.symm hBC) ca ab;have z:=go cC cA cB (Ne.symm hAC) (Ne.symm hBC) hAB ca cb;rw [s4];exact z
 ·rcases tri cB cC hBC with bc | cb
  ·have z:=go cB cC cA hBC (Ne.symm hAB) (Ne.symm hAC) bc ba;rw [s1] at z;exact z
  ·have ca:=tr cC cB cA (Ne.symm hAC) cb ba;have z:=go cC cA cB (Ne.symm hAC) (Ne.symm hBC) hAB ca cb;rw [s4];exact z
def zOj (ss:List Sd) (A B:P3):Prop:=Cor ss A/\Cor ss B/\A≠B/\∀ C,Cor ss C->0<=c3 A B C
theorem zOj.fn {ss:List Sd} {A B C:P3} (h:zOj ss A B) (k:zOj ss A C):B = C:=by
 by_cases e:B = C
 ·exact e
 ·exfalso;have z:=zD2 h.1 h.2.1 k.2.1 h.2.2.1 k.2.2.1 e;have z1:=h.2.2.2 C k.2.1;have z2:=k.2.2.2 B h.2.1;have z3:=zIs A B C;omega
theorem zQq {ss:List Sd} {g P:P3} {x y:Int} (hg:0 < g.1 * x + g.2.1 * y) (hw:vG ss x y = true) (pw:0 < P.2.2) (wP:inW ss P) (most:∀ z:P3,0 < z.2.2->inW ss z->(g.1 * z.1 + g.2.1 * z.2.1) * P.2.2<=(g.1 * P.1 + g.2.1 * P.2.1) * z.2.2):False:=by
 have z:=most (P.1 + x * P.2.2,P.2.1 + y * P.2.2,P.2.2) pw (λt ht=>?_)
 ·dsimp only at z;have e:(g.1 * (P.1 + x * P.2.2) + g.2.1 * (P.2.1 + y * P.2.2)) * P.2.2 = (g.1 * P.1 + g.2.1 * P.2.1) * P.2.2 + (g.1 * x + g.2.1 * y) * P.2.2 * P.2.2:=by grind
  have p:=Int.mul_pos (Int.mul_pos hg pw) pw;omega
 ·have h1:=wP t ht;have h2:=of_decide_eq_true (List.all_eq_true.mp hw t ht);unfold sv at h1 ⊢;dsimp only;have e:t.2.1 * (P.1 + x * P.2.2) + t.2.2.1 * (P.2.1 + y * P.2.2) - t.2.2.2 * P.2.2 = (t.2.1 * P.1 + t.2.2.1 * P.2.1 - t.2.2.2 * P.2.2) + (t.2.1 * x + t.2.2.1 * y) * P.2.2:=by grind
  have p:=Int.mul_nonneg (show 0<=-(t.2.1 * x + t.2.2.1 * y) by omega) (Int.le_of_lt pw);rw [Int.neg_mul] at p;omega
end Sea

namespace L2
open PySem PySem.Spec PyProof.Rows
end L2

namespace Sea
open PySem L2
def zSg (X:P3) (e:P3 × P3):Rat:=crR X e.1 + crR e.1 e.2 + crR e.2 X
theorem zLm (X:P3) (r:Nat->P3):∀ j,qX ((pth r j).map (zSg X)) = zLb (pth r j) + crR X (r 0) - crR X (r j)
 | 0=>by
  show (0:Rat) = 0 + _ - _;grind
 | j + 1=>by
  have ih:=zLm X r j;have e:=zAz X (r (j + 1));unfold zLb at ih ⊢;rw [zJq,List.map_append,List.map_append,uR,uR,ih];show _ + (crR X (r j) + crR (r j) (r (j + 1)) + crR (r (j + 1)) X + 0) = _ + (crR (r j) (r (j + 1)) + 0) + _ - _;rw [e];generalize qX ((pth r j).map λe=>crR e.1 e.2) = x1;generalize crR X (r 0) = x2;generalize crR X (r j) = x3;generalize crR (r j) (r (j + 1)) = x4;generalize crR X (r (j + 1)) = x5;grind
theorem zL3 (X O:P3) (r:Nat->P3) (j:Nat):qX ((edg O r j).map (zSg X)) = zLb (edg O r j):=by
 rw [zGb];unfold edg;rw [List.map_cons,List.map_append];show (crR X O + crR O (r 0) + crR (r 0) X) + qX _ = _;rw [uR,zLm];show _ + (_ + (crR X (r j) + crR (r j) O + crR O X + 0)) = _;rw [zAz X (r 0),zAz X O];generalize zLb (pth r j) = x1;generalize crR X (r 0) = x2;generalize crR X (r j) = x3;generalize crR X O = x4;generalize crR O (r 0) = x5;generalize crR (r j) O = x6;grind
theorem zQi {α:Type} {g:α->Rat} : ∀ E:List α,(∀ e∈E,0<=g e)->0<=qX (E.map g)
 | [],_=>Rat.le_refl
 | a :: E,h=>by
  have h1:=h a (.head _);have h2:=zQi E λe he=>h e (.tail _ he);show 0<=g a + qX (E.map g);grind
theorem zLo {α:Type} [DecidableEq α] {f g:α->Rat} {r:α->α->Prop} : ∀ E' E:List α,E'.Nodup->(∀ e∈E,0<=g e)->(∀ e'∈E',f e'<=0\/∃ e∈E,r e' e/\f e'<=g e)->(∀ a∈E',∀ b∈E',∀ e,r a e->r b e->a = b)->qX (E'.map f)<=qX (E.map g)
 | [],E,_,hp,_,_=>zQi E hp
 | a :: E',E,nd,hp,h,inj=>by
  obtain ⟨na,nd'⟩:=List.nodup_cons.mp nd;rcases h a (.head _) with h0 | ⟨e,he,hr,hl⟩
  ·have ih:=zLo E' E nd' hp (λb hb=>h b (.tail _ hb)) λx hx y hy=>inj x (.tail _ hx) y (.tail _ hy);show f a + qX (E'.map f)<=_;generalize qX (E'.map f) = x1 at *;generalize qX (E.map g) = x2 at *;grind
  ·rw [zM0 ((List.perm_cons_erase he).map g)];have ih:=zLo E' (E.erase e) nd' (λx hx=>hp x (List.mem_of_mem_erase hx)) (λb hb=>by
    rcases h b (.tail _ hb) with h1 | ⟨e2,he2,hr2,hl2⟩
    ·exact .inl h1
    ·refine .inr ⟨e2,(List.mem_erase_of_ne λz=>?_).mpr he2,hr2,hl2⟩;subst z;exact na (inj a (.head _) b (.tail _ hb) _ hr hr2 ▸ hb)) λx hx y hy=>inj x (.tail _ hx) y (.tail _ hy)
   show f a + qX (E'.map f)<=g e + qX ((E.erase e).map g);generalize qX (E'.map f) = x1 at *;generalize qX ((E.erase e).map g) = x2 at *;grind
theorem zOt {e A B:P3} (hA:sv e A = 0) (hB:sv e B = 0) (X:P3):(e.1 * e.1 + e.2.1 * e.2.1) * c3 X A B = -sv e X * dl e B A:=by
 obtain ⟨a,b,c⟩:=e;obtain ⟨a1,a2,a3⟩:=A;obtain ⟨b1,b2,b3⟩:=B;obtain ⟨x1,x2,x3⟩:=X;unfold sv at hA hB ⊢;unfold dl c3;dsimp only at hA hB ⊢;grind
def hR (e p:P3):Rat:=((e.1 * p.2.1 - e.2.1 * p.1:Int):Rat) / ((p.2.2:Int):Rat)
theorem zBr {a:Int} (h:0 < a):(0:Rat) < (a:Rat):=by
 have z:=Rat.intCast_lt_intCast.mpr h;exact z
theorem zL2 {e p q:P3} (hp:0 < p.2.2) (hq:0 < q.2.2):hR e p - hR e q = ((dl e p q:Int):Rat) / ((p.2.2 * q.2.2:Int):Rat):=by
 have n1:=vF hp;have n2:=vF hq;unfold hR dl;simp only [Rat.intCast_mul,Rat.intCast_sub];generalize (e.1:Rat) = a;generalize (e.2.1:Rat) = b;generalize (p.1:Rat) = p1;generalize (p.2.1:Rat) = p2;generalize (p.2.2:Rat) = p3 at *;generalize (q.1:Rat) = q1;generalize (q.2.1:Rat) = q2;generalize (q.2.2:Rat) = q3 at *;grind
theorem zBw {d w:Rat} (h:0<=d) (h2:0 < w):0<=d / w:=by
 rw [Rat.div_def];exact Rat.mul_nonneg h (Rat.le_of_lt (Rat.inv_pos.mpr h2))
theorem zS5 {e p q:P3} (hp:0 < p.2.2) (hq:0 < q.2.2) (h:0<=dl e p q):hR e q<=hR e p:=by
 have z:=zL2 (e:=e) hp hq;have z2:(0:Rat)<=((dl e p q:Int):Rat) / ((p.2.2 * q.2.2:Int):Rat):=zBw (Rat.intCast_le_intCast.mpr h) (zBr (Int.mul_pos hp hq));rw [<- z] at z2;grind
theorem zP5 {e X A B:P3} (hN:0 < e.1 * e.1 + e.2.1 * e.2.1) (hX:0 < X.2.2) (hA:0 < A.2.2) (hB:0 < B.2.2) (eA:sv e A = 0) (eB:sv e B = 0):zSg X (A,B) = ((-sv e X:Int):Rat) / (((e.1 * e.1 + e.2.1 * e.2.1) * X.2.2:Int):Rat) * (hR e B - hR e A):=by
 have z:=zOt eA eB X;have z2:=congrArg (λi:Int=>(i:Rat)) z;show crR X A + crR A B + crR B X = _;rw [<- c3R hX hA hB,zL2 hB hA];simp only [Rat.intCast_mul] at z2 ⊢;have n1:=vF hN;have n2:=vF hX;have n3:=vF hA;have n4:=vF hB;rw [Rat.intCast_add,Rat.intCast_mul,Rat.intCast_mul] at z2 n1;rw [Rat.intCast_add,Rat.intCast_mul,Rat.intCast_mul];generalize (e.1:Rat) * e.1 + e.2.1 * e.2.1 = n at *;generalize ((-sv e X:Int):Rat) = s at *;generalize ((dl e B A:Int):Rat) = d at *;generalize ((c3 X A B:Int):Rat) = c at *;generalize (X.2.2:Rat) = x3 at *;generalize (A.2.2:Rat) = a3 at *;generalize (B.2.2:Rat) = b3 at *;clear z;grind
theorem push {g m:P3} : ∀ {ss:List Sd},(∀ t∈ss,sv t.2 m < 0)->∃ N:Int,0 < N/\∀ n,N<=n->inW ss (n * m.1 + g.1,n * m.2.1 + g.2.1,n * m.2.2)
 | [],_=>⟨1,by decide,λ_ _ t ht=>nomatch ht⟩
 | t :: ss,h=>by
  obtain ⟨N,hN,hi⟩:=push (g:=g) (m:=m) (ss:=ss) λu hu=>h u (.tail _ hu);have ht:=h t (.head _);refine ⟨N + (t.2.1 * g.1 + t.2.2.1 * g.2.1).natAbs,by omega,λn hn u hu=>?_⟩;rcases List.mem_cons.mp hu with rfl | hu
  ·have e:sv u.2 (n * m.1 + g.1,n * m.2.1 + g.2.1,n * m.2.2) = n * sv u.2 m + (u.2.1 * g.1 + u.2.2.1 * g.2.1):=by unfold sv; grind
   rw [e];have z:n * 1<=n * (-sv u.2 m):=Int.mul_le_mul_of_nonneg_left (by omega) (by omega);rw [Int.mul_neg] at z;omega
  ·exact hi n (by omega) u hu
theorem Cor.in {ss:List Sd} {P:P3} (c:Cor ss P):inW ss P:=by
 obtain ⟨_,_,_,_,_,_,w⟩:=c;exact w
theorem zS3 {A B:P3} (lA:zG7 A) (lB:zG7 B) (h:A≠B):(rt A B).1≠0\/(rt A B).2.1≠0:=by
 by_cases c:(rt A B).1 = 0
 ·right;intro z;refine h (uK lA.1 lB.1 lA.2 lB.2 ?_ ?_)
  ·unfold rt at z;dsimp only at z;have:=Int.mul_comm A.2.2 B.1;omega
  ·unfold rt at c;dsimp only at c;have:=Int.mul_comm A.2.2 B.2.1;omega
 ·exact .inl c
theorem zMj {M:List Sd} {O:P3} {rest:List P3} (R:Rg M O rest) {A B:P3} (E:zOj M A B):∃ t∈M,sv t.2 A = 0/\sv t.2 B = 0:=by
 by_cases h:∃ t∈M,sv t.2 A = 0/\sv t.2 B = 0
 ·exact h
 exfalso;obtain ⟨cA,cB,nAB,left⟩:=E;have lA:=yD cA;have lB:=yD cB;have neg:∀ t∈M,sv t.2 (A.1 * B.2.2 + B.1 * A.2.2,A.2.1 * B.2.2 + B.2.1 * A.2.2,2 * A.2.2 * B.2.2) < 0:=λt ht=>by
  have e:sv t.2 (A.1 * B.2.2 + B.1 * A.2.2,A.2.1 * B.2.2 + B.2.1 * A.2.2,2 * A.2.2 * B.2.2) = B.2.2 * sv t.2 A + A.2.2 * sv t.2 B:=by unfold sv; grind
  rw [e];have a1:=cA.in t ht;have b1:=cB.in t ht;by_cases c:sv t.2 A = 0
  ·have d:sv t.2 B≠0:=λz=>h ⟨t,ht,c,z⟩;have z:=qU lA.1 (show sv t.2 B < 0 by omega);rw [c];omega
  ·have z:=qU lB.1 (show sv t.2 A < 0 by omega);have z2:=Int.mul_nonneg (Int.le_of_lt lA.1) (show 0<=-sv t.2 B by omega);rw [Int.mul_neg] at z2;omega
 obtain ⟨N,hN,hi⟩:=push (g:=rt A B) neg;have wp:=hi N (Int.le_refl _);have z:=R.hull left (by show 0 < N * (2 * A.2.2 * B.2.2); exact Int.mul_pos hN (Int.mul_pos (Int.mul_pos (by decide) lA.1) lB.1)) wp;have p:=wF (zS3 lA lB nAB);have e:c3 A B (N * (A.1 * B.2.2 + B.1 * A.2.2) + (rt A B).1,N * (A.2.1 * B.2.2 + B.2.1 * A.2.2) + (rt A B).2.1,N * (2 * A.2.2 * B.2.2)) = -((rt A B).1 * (rt A B).1 + (rt A B).2.1 * (rt A B).2.1):=by unfold c3 rt; grind
 have z:0<=c3 A B (N * (A.1 * B.2.2 + B.1 * A.2.2) + (rt A B).1,N * (A.2.1 * B.2.2 + B.2.1 * A.2.2) + (rt A B).2.1,N * (2 * A.2.2 * B.2.2)):=z;rw [e] at z;omega
theorem zI8 {ss:List Sd} {e z:P3} {h:Int} (hh:h * h = 1) (hN:0 < e.1 * e.1 + e.2.1 * e.2.1) (hz:sv e z = 0) (zw:0 < z.2.2) (wz:inW ss z) (h1:∃ t∈ss,0 < tn e t.2 * h) :
  ∃ t∈ss,tn e t.2≠0/\inW ss (pt3 (crL e t.2))/\sv e (pt3 (crL e t.2)) = 0/\∀ q,sv e q = 0->inW ss q->0<=dl e (pt3 (crL e t.2)) q * h:=by
 obtain ⟨t,ht,tp,tm⟩:=zCu hh hN h1;obtain ⟨s1,o1,o2⟩:=wJ (yH tp);obtain ⟨i,hi,ei⟩:=List.getElem_of_mem ht;have w1:=zCa hh hN hz zw wz (by rw [List.getElem?_eq_getElem hi,ei]) tp tm;exact ⟨t,ht,yH tp,w1,o1,λq hq wq=>zFp hh hN o1 hq s1.pos o2 (wq t ht) tp⟩
theorem zSc {e A B C:P3} (hN:0 < e.1 * e.1 + e.2.1 * e.2.1) (hA:sv e A = 0) (hB:sv e B = 0) (hC:sv e C = 0):c3 A B C = 0:=by
 have z:=zOt hA hB C;rw [hC,Int.neg_zero,Int.zero_mul] at z;rcases Int.mul_eq_zero.mp z with z | z
 ·omega
 ·rw [<- sC A B C,<- sC B C A];exact z
theorem zT1 {X A B:P3} (hX:0 < X.2.2) (hA:0 < A.2.2) (hB:0 < B.2.2) (h:0<=c3 A B X):0<=zSg X (A,B):=by
 show 0<=crR X A + crR A B + crR B X;rw [<- c3R hX hA hB];refine zBw (Rat.intCast_le_intCast.mpr ?_) (zBr (Int.mul_pos (Int.mul_pos hX hA) hB));rw [<- sC X A B];exact h
theorem zMs {S M:List Sd} {n:Sd} (hm:∀ t,t∈M↔t∈S\/t = n) {O O':P3} {rest rest':List P3} (R:Rg S O rest) (R':Rg M O' rest') {E E':List (P3 × P3)} (mE:∀ A B,(A,B)∈E↔zOj S A B) (mE':∀ A B,(A,B)∈E'↔zOj M A B) (nd:E'.Nodup) (two:2<=rest'.length) :
  ∃ X,qX (E'.map (zSg X))<=qX (E.map (zSg X)):=by
 have sub:∀ {p:P3},inW M p->inW S p:=λ{p} h t ht=>h t ((hm t).mpr (.inl ht));have third:∀ A B:P3,∃ C,Cor M C/\A≠C/\B≠C:=λA B=>by
  have nd:=R'.nodup;have e0:=R'.cA (show 0 < rest'.length by omega);have e1:=R'.cA (show 1 < rest'.length by omega);have n0:=(R'.fw _ (List.getElem_mem (show 0 < rest'.length by omega))).1;have n1:=(R'.fw _ (List.getElem_mem (show 1 < rest'.length by omega))).1;have n2:rest'[0]≠rest'[1]:=List.pairwise_iff_getElem.mp (List.nodup_cons.mp nd).2 0 1 (by omega) (by omega) (by omega);by_cases a:A = O'\/B = O'
  ·by_cases b:A = rest'[0]\/B = rest'[0]
   ·refine ⟨_,e1,λz=>?_,λz=>?_⟩
    ·rcases a with a | a
     ·exact n1 (a.symm.trans z)
     ·rcases b with b | b
      ·exact n2 (b.symm.trans z)
      ·exact n0 (a.symm.trans b)
    ·rcases a with a | a
     ·rcases b with b | b
      ·exact n0 (a.symm.trans b)
      ·exact n2 (b.symm.trans z)
     ·exact n1 (a.symm.trans z)
   ·exact ⟨_,e0,λz=>b (.inl z),λz=>b (.inr z)⟩
  ·exact ⟨_,R'.cO,λz=>a (.inl z),λz=>a (.inr z)⟩
 have pick:∃ X,Cor M X/\∀ A B,(A,B)∈E'->sv n.2 A = 0->sv n.2 B = 0->sv n.2 X = 0:=by
  by_cases c:∃ A B,(A,B)∈E'/\sv n.2 A = 0/\sv n.2 B = 0
  ·obtain ⟨A,B,h1,h2,h3⟩:=c;exact ⟨A,((mE' A B).mp h1).1,λ_ _ _ _ _=>h2⟩
  ·exact ⟨O',R'.cO,λA B h1 h2 h3=>absurd ⟨A,B,h1,h2,h3⟩ c⟩
 obtain ⟨X,cX,zero⟩:=pick;have pX:=(yD cX).1;refine ⟨X,zLo (r:=λa b=>∃ t∈S,sv t.2 a.1 = 0/\sv t.2 a.2 = 0/\sv t.2 b.1 = 0/\sv t.2 b.2 = 0/\zOj S b.1 b.2) E' E nd (λe he=>?_) (λe' he'=>?_) ?_⟩
 ·obtain ⟨A,B⟩:=e;obtain ⟨cA,cB,_,left⟩:=(mE A B).mp he;exact zT1 pX (yD cA).1 (yD cB).1 (R.hull left pX (sub cX.in))
 ·obtain ⟨A',B'⟩:=e';have Ed:=(mE' A' B').mp he';obtain ⟨t,ht,hA,hB⟩:=zMj R' Ed;have nt:=wF (R'.nz t ht);obtain ⟨cA,cB,nAB,left⟩:=Ed;have pA:=(yD cA).1;have pB:=(yD cB).1;have val:=zP5 nt pX pA pB hA hB;rcases (hm t).mp ht with hs | rfl
  ·right;obtain ⟨C,cC,n1,n2⟩:=third A' B';have ori:0 < dl t.2 B' A':=by
    have z1:=left C cC;have z2:=zD2 cA cB cC nAB n1 n2;have z3:=zOt hA hB C;have z4:=cC.in t ht;rw [show c3 C A' B' = c3 A' B' C by rw [<- sC C A' B']] at z3;have z5:=Int.mul_pos nt (show 0 < c3 A' B' C by omega);rw [z3] at z5;by_cases c:0 < dl t.2 B' A'
    ·exact c
    ·exfalso;have z6:=Int.mul_nonneg (show 0<=-sv t.2 C by omega) (show 0<=-dl t.2 B' A' by omega);rw [Int.mul_neg] at z6;omega
   obtain ⟨u,hu,un,uw,us,um⟩:=zI8 (h:=1) (by decide) nt hA pA (sub cA.in) (uQ R.nw (R'.nz t ht) (.inl rfl));obtain ⟨v,hv,vn,vw,vs,vm⟩:=zI8 (h:=-1) (by decide) nt hA pA (sub cA.in) (uQ R.nw (R'.nz t ht) (.inr rfl));have cB2:Cor S (pt3 (crL t.2 u.2)):=⟨t,hs,u,hu,un,rfl,uw⟩;have cA2:Cor S (pt3 (crL t.2 v.2)):=⟨t,hs,v,hv,vn,rfl,vw⟩;generalize pt3 (crL t.2 u.2) = B at *;generalize pt3 (crL t.2 v.2) = A at *;have pA2:=(yD cA2).1;have pB2:=(yD cB2).1;have b1:hR t.2 B'<=hR t.2 B:=zS5 pB2 pB (by have:=um B' hB (sub cB.in); omega);have a1:hR t.2 A<=hR t.2 A':=zS5 pA pA2 (by have:=vm A' hA (sub cA.in); have:=zBx t.2 A A'; omega);have ba:0<=dl t.2 B A:=by have:=um A vs vw; omega
   have lt:hR t.2 A' < hR t.2 B':=by
    have z:=zL2 (e:=t.2) pB pA;have z2:(0:Rat) < ((dl t.2 B' A':Int):Rat) / ((B'.2.2 * A'.2.2:Int):Rat):=by
     rw [Rat.div_def];exact Rat.mul_pos (zBr ori) (Rat.inv_pos.mpr (zBr (Int.mul_pos pB pA)))
    rw [<- z] at z2;grind
   have Es:zOj S A B:=by
    refine ⟨cA2,cB2,λz=>?_,λC cC=>?_⟩
    ·subst z;grind
    ·have z3:=zOt vs us C;have z4:=Int.mul_nonneg (show 0<=-sv t.2 C by have:=cC.in t hs; omega) ba;rw [<- z3] at z4;rw [<- sC C A B] at *;by_cases c:0<=c3 A B C
     ·exact c
     ·exfalso;have z5:=qU nt (show c3 A B C < 0 by omega);omega
   refine ⟨(A,B),(mE A B).mpr Es,⟨t,hs,hA,hB,vs,us,Es⟩,?_⟩;rw [val,zP5 nt pX pA2 pB2 vs us];refine Rat.mul_le_mul_of_nonneg_left (by grind) ?_;have z0:=cX.in t ht;exact zBw (Rat.intCast_le_intCast.mpr (show (0:Int)<=-sv t.2 X by omega)) (zBr (Int.mul_pos nt pX))
  ·left;rw [val,zero A' B' he' hA hB];show ((0:Int):Rat) / _ * _<=0;rw [show ((0:Int):Rat) = 0 from rfl];grind
 ·rintro ⟨A1,A2⟩ ha ⟨B1,B2⟩ hb ⟨e1,e2⟩ ⟨t,ht,a1,a2,f1,f2,Es⟩ ⟨t',ht',b1,b2,g1,g2,_⟩;have Ea:=(mE' A1 A2).mp ha;have Eb:=(mE' B1 B2).mp hb;dsimp only at a1 a2 f1 f2 b1 b2 g1 g2 Es;have nt:=wF (R.nz t ht);have nt':=wF (R.nz t' ht');have nl:=wF (zS3 (yD Es.1) (yD Es.2.1) Es.2.2.1);have on:∀ {l P:P3},0 < l.1 * l.1 + l.2.1 * l.2.1->sv l e1 = 0->sv l e2 = 0->sv l P = 0->sv (rt e1 e2) P = 0:=λ{l P} hl h1 h2 h3=>by
   rw [zRk,zSc hl h1 h2 h3];rfl
  have s1:=on nt f1 f2 a1;have s2:=on nt f1 f2 a2;have s3:=on nt' g1 g2 b1;have s4:=on nt' g1 g2 b2;by_cases c1:A1 = B1
  ·subst c1;rw [Ea.fn Eb]
  ·by_cases c2:A2 = B1
   ·subst c2;by_cases c3':A1 = B2
    ·subst c3';exfalso;obtain ⟨C,cC,n1,n2⟩:=third A1 A2;have z1:=Ea.2.2.2 C cC;have z2:=Eb.2.2.2 C cC;have z3:=zNy A1 A2 C;have z4:=zD2 Ea.1 Ea.2.1 cC Ea.2.2.1 n1 n2;omega
    ·exact absurd (zSc nl s1 s2 s4) (zD2 Ea.1 Ea.2.1 Eb.2.1 Ea.2.2.1 c3' Eb.2.2.1)
   ·exact absurd (zSc nl s1 s2 s3) (zD2 Ea.1 Ea.2.1 Eb.1 Ea.2.2.1 c1 c2)
theorem zHb {s t s' t':Int} (ht:0 < t) (ht':0 < t') (h:((s':Int):Rat) / ((t':Int):Rat)<=((s:Int):Rat) / ((t:Int):Rat)):s' * t<=s * t':=by
 have n1:=vF ht;have n2:=vF ht';have p:(0:Rat)<=((t * t':Int):Rat):=Rat.le_of_lt (zBr (Int.mul_pos ht ht'));have z:=Rat.mul_le_mul_of_nonneg_left h p;refine Rat.intCast_le_intCast.mp ?_;rw [Rat.intCast_mul,Rat.intCast_mul];rw [Rat.intCast_mul] at z;have e1:(t:Rat) * (t':Rat) * ((s':Rat) / (t':Rat)) = s' * t:=by grind
 have e2:(t:Rat) * (t':Rat) * ((s:Rat) / (t:Rat)) = s * t':=by grind
 rw [e1,e2] at z;exact z
end Sea

namespace L2
open PySem PySem.Spec PyProof.Rows
theorem zSa {e:Addr × Obj} {K:PySem.W.Frag} {h:Heap} (n:List.lookup e.1 K = none) (X:PySem.W.Frag.In (e :: K) h):PySem.W.Frag.In K h:=λa o q=>X a o (by
 rw [List.lookup_cons];by_cases z:a = e.1
 ·rw [z,n] at q;cases q
 ·rw [beq_eq_false_iff_ne.mpr z];exact q)
end L2

namespace L2
open PySem PySem.Spec PyProof.Rows PySem.W
theorem walk_ofT2 {l:PySem.W.OpenLaw} {n k:Nat} {q:Program} {loose:List Str} {XP:(Str->Option Value)->Heap->Prop} {YP:World->Heap->Prop} {d:DefRec} {KK:Params->PySem.W.Frag} {K:PySem.W.Frag} {sp:Sp} {x y:Str} {c Pt:Addr}
  (hn:l.most = some n) (hn2:n<=sizeLine) (hdf:d.params.defaults = []) (hr:L2.Room k callerA)
  (hY:∀ (w:World) (h:Heap),YP w h->(KK w.params).In h) (sub:∀ (p:Params) (h:Heap),(KK p).In h->K.In h) (hfind:((recsOf q).find? (λe=>e.name == y)).isSome = true) (ht:∀ p:Params,tabIn (KK p) y = some (c,Pt)) (hKT:K.lookup Pt = none)
  (F:∀ (w:World) (mg:Str->Option Value) (fa:Addr) (h:Heap),(KK w.params).In h->h.Ns mainGlobals mg->mg d.name = some (.ref fa) ->
   ∃ fd:FuncData,(∀ (s:Shared) (u:Value),BindsTo s fd ⟨[u],[]⟩ [(x,u)]) /\
    ∀ base:Heap,K.In base->base.Ns mainGlobals mg->zIf base mg c Pt->wL l.prog w K mg base CX0 k fa fd [x] sp)
  (hsp:∀ (H:Hp) (a:Addr) (ns:List Int),ns.length<=n->H Pt = some (.tbl #[])->SqL K H a (ns.map V.int)->sp [.ref a] H (λv _=>v = .bl true) λ_ _ _=>False) :
  PySem.W.WalkO q loose XP YP l.row.toRowW d [] (λf vs=>PySem.call f vs):=by
 refine Att.attach_call hn hdf λw s₀ s₁ mg mb fa o pm cd doc a vs ns G Y ho hd hcd hmg hobj hints hlen hg=>?_;have KX:=hY w _ Y;obtain ⟨fd,hb,hF⟩:=F w mg fa _ KX G.T.g hmg;obtain ⟨dr,hdr⟩:=Option.isSome_iff_exists.mp hfind;obtain ⟨hC,hT⟩:=tab_of G.T KX hdr (ht w.params);obtain ⟨bm,ob,b1,b2,b3,b4,b5,b6⟩:=G.T.bmain;have b7:bm≠mainGlobals:=λz=>by
  obtain ⟨o',es,ep,e,d',_⟩:=G.T.g;rw [z,e] at b3;cases b3;rw [d'] at b6;cases b6
 exact zOd (sub _ _ KX) G.T.g G.T.b G.T.builtins G.T.nolimit hg hobj hints (Nat.le_trans hlen hn2) hr hC hT hKT ⟨bm,ob,b1,b2,b7,b3,b4,b5,b6⟩ hF hb (λH hO hS=>hsp H a ns hlen hO hS) λH e s' z=>z
end L2

-- LAW
namespace Sea
open PySem L2
structure Zs (mg:Str->Option Value):Prop where
 abs:mg "abs" = none
 all:mg "all" = none
 enumerate:mg "enumerate" = none
 len:mg "len" = none
 list:mg "list" = none
 min:mg "min" = none
 range:mg "range" = none
 sorted:mg "sorted" = none
 tuple:mg "tuple" = none
theorem yJ:zS ["numbers", "shared", "number", "rest", "smaller"] ["numbers"] (zM xY):=⟨rfl,rfl,rfl,by decide +kernel,rfl,by decide +kernel,by decide +kernel⟩
theorem zDh:zS ["numbers", "shared"] ["numbers"] (zM qM):=⟨rfl,rfl,rfl,by decide +kernel,rfl,by decide +kernel,by decide +kernel⟩
theorem zHy:zS ["numbers"] ["numbers"] (zM sY):=⟨rfl,rfl,rfl,by decide +kernel,rfl,by decide +kernel,by decide +kernel⟩
theorem zL5:zS ["top", "bottom"] ["top", "bottom"] (zM zC1):=⟨rfl,rfl,rfl,by decide +kernel,rfl,by decide +kernel,by decide +kernel⟩
theorem zLp:zS ["one", "other"] ["one", "other"] (zM zCl):=⟨rfl,rfl,rfl,by decide +kernel,rfl,by decide +kernel,by decide +kernel⟩
theorem zMg:zS ["x", "y", "w"] ["x", "y", "w"] (zM zCv):=⟨rfl,rfl,rfl,by decide +kernel,rfl,by decide +kernel,by decide +kernel⟩
theorem zEx:zS ["one", "other", "east"] ["one", "other"] (zM zAr):=⟨rfl,rfl,rfl,by decide +kernel,rfl,by decide +kernel,by decide +kernel⟩
theorem tF:zS ["ones", "others", "told", "taken", "other"] ["ones", "others"] (zM qO):=⟨rfl,rfl,rfl,by decide +kernel,rfl,by decide +kernel,by decide +kernel⟩
theorem zBj:zS ["spots", "middle"] ["spots"] (zM vE):=⟨rfl,rfl,rfl,by decide +kernel,rfl,by decide +kernel,by decide +kernel⟩
theorem zHt:zS ["one", "other"] ["one", "other"] (zM zA9):=⟨rfl,rfl,rfl,by decide +kernel,rfl,by decide +kernel,by decide +kernel⟩
theorem zKg:zS ["one", "other"] ["one", "other"] (zM zBd):=⟨rfl,rfl,rfl,by decide +kernel,rfl,by decide +kernel,by decide +kernel⟩
theorem zKv:zS ["direction"] ["direction"] (zM zBn):=⟨rfl,rfl,rfl,by decide +kernel,rfl,by decide +kernel,by decide +kernel⟩
theorem zIe:zS ["side", "spot"] ["side", "spot"] (zM qP):=⟨rfl,rfl,rfl,by decide +kernel,rfl,by decide +kernel,by decide +kernel⟩
theorem zK8:zS ["side", "spot"] ["side", "spot"] (zM zAs):=⟨rfl,rfl,rfl,by decide +kernel,rfl,by decide +kernel,by decide +kernel⟩
theorem vT:zS ["one", "other", "w", "x", "y"] ["one", "other"] (zM tR):=⟨rfl,rfl,rfl,by decide +kernel,rfl,by decide +kernel,by decide +kernel⟩
theorem zBp:zS ["sides", "place", "side"] ["sides", "place"] (zM tV):=⟨rfl,rfl,rfl,by decide +kernel,rfl,by decide +kernel,by decide +kernel⟩
theorem zMt:zS ["side"] ["side"] (zM zCz):=⟨rfl,rfl,rfl,by decide +kernel,rfl,by decide +kernel,by decide +kernel⟩
theorem xK:zS ["sides", "edge", "hand", "found", "place", "number", "side"] ["sides", "edge", "hand"] (zM tU):=⟨rfl,rfl,rfl,by decide +kernel,rfl,by decide +kernel,by decide +kernel⟩
theorem zAc:zS ["sides", "edge", "numbers"] ["sides", "edge"] (zM vM):=⟨rfl,rfl,rfl,by decide +kernel,rfl,by decide +kernel,by decide +kernel⟩
theorem sW:zS ["sides", "edge", "place"] ["sides", "edge"] (zM wW):=⟨rfl,rfl,rfl,by decide +kernel,rfl,by decide +kernel,by decide +kernel⟩
theorem rF:zS ["sides", "place", "number"] ["sides"] (zM qS):=⟨rfl,rfl,rfl,by decide +kernel,rfl,by decide +kernel,by decide +kernel⟩
theorem zEj:zS ["sides"] ["sides"] (zM vU):=⟨rfl,rfl,rfl,by decide +kernel,rfl,by decide +kernel,by decide +kernel⟩
theorem tS:zS ["sides", "found", "edge", "place"] ["sides"] (zM rE):=⟨rfl,rfl,rfl,by decide +kernel,rfl,by decide +kernel,by decide +kernel⟩
theorem zIh:zS ["start", "end"] ["start", "end"] (zM qR):=⟨rfl,rfl,rfl,by decide +kernel,rfl,by decide +kernel,by decide +kernel⟩
abbrev zDz:Stmt:=(uJ zBh).getD 1 (.Pass ⟨0,0,0,0⟩)
theorem zEw:zAu ["place", "sight", "rising"] "place" "rising" 2 (zM zDz):=⟨rfl,rfl,rfl,by decide +kernel,rfl,rfl,rfl,rfl,rfl,by decide +kernel⟩
theorem zDm:zS ["sides", "rising", "count_ahead"] ["sides"] (zM zBh):=⟨rfl,rfl,rfl,by decide +kernel,rfl,by decide +kernel,by decide +kernel⟩
theorem zEe:zS ["sides", "direction", "side"] ["sides", "direction"] (zM qW):=⟨rfl,rfl,rfl,by decide +kernel,rfl,by decide +kernel,by decide +kernel⟩
theorem zA2:zS ["sides", "found", "side", "direction"] ["sides"] (zM zCq):=⟨rfl,rfl,rfl,by decide +kernel,rfl,by decide +kernel,by decide +kernel⟩
theorem zD0:zS ["sides"] ["sides"] (zM vA):=⟨rfl,rfl,rfl,by decide +kernel,rfl,by decide +kernel,by decide +kernel⟩
theorem zA0:zS ["first", "one", "other", "twice"] ["first", "one", "other"] (zM tQ):=⟨rfl,rfl,rfl,by decide +kernel,rfl,by decide +kernel,by decide +kernel⟩
theorem rY:zS ["sides", "places", "total", "number"] ["sides"] (zM zCw):=⟨rfl,rfl,rfl,by decide +kernel,rfl,by decide +kernel,by decide +kernel⟩
theorem zL7:zS ["direction"] ["direction"] (zM zC3):=⟨rfl,rfl,rfl,by decide +kernel,rfl,by decide +kernel,by decide +kernel⟩
theorem zB8:zS ["numbers", "weights", "least"] ["numbers", "weights"] (zM rH):=⟨rfl,rfl,rfl,by decide +kernel,rfl,by decide +kernel,by decide +kernel⟩
theorem yO:zS ["sides", "last", "edge", "numbers", "one", "other", "weights"] ["sides", "last"] (zM xR):=⟨rfl,rfl,rfl,by decide +kernel,rfl,by decide +kernel,by decide +kernel⟩
theorem sN:zS ["sides", "last", "edge", "number", "side"] ["sides"] (zM zA5):=⟨rfl,rfl,rfl,by decide +kernel,rfl,by decide +kernel,by decide +kernel⟩
theorem rZ:zS ["sides", "direction", "way"] ["sides", "direction"] (zM vB):=⟨rfl,rfl,rfl,by decide +kernel,rfl,by decide +kernel,by decide +kernel⟩
theorem uL:zS ["sides", "direction", "number", "side", "place"] ["sides", "direction"] (zM vC):=⟨rfl,rfl,rfl,by decide +kernel,rfl,by decide +kernel,by decide +kernel⟩
theorem yX:zS ["sides", "numbers", "direction", "one", "other", "whole", "shares"] ["sides", "numbers", "direction"] (zM xS):=⟨rfl,rfl,rfl,by decide +kernel,rfl,by decide +kernel,by decide +kernel⟩
theorem xV:zS ["sides", "direction", "number", "one", "end", "place"] ["sides", "direction"] (zM uW):=⟨rfl,rfl,rfl,by decide +kernel,rfl,by decide +kernel,by decide +kernel⟩
theorem zBs:zS ["sides", "direction", "shown", "way"] ["sides", "direction"] (zM zBb):=⟨rfl,rfl,rfl,by decide +kernel,rfl,by decide +kernel,by decide +kernel⟩
theorem zHh:zS ["groups", "place"] ["groups", "place"] (zM rC):=⟨rfl,rfl,rfl,by decide +kernel,rfl,by decide +kernel,by decide +kernel⟩
theorem yK:zS ["groups", "sides", "group", "places", "number", "other", "place"] ["groups"] (zM xX):=⟨rfl,rfl,rfl,by decide +kernel,rfl,by decide +kernel,by decide +kernel⟩
theorem yV:zS ["groups", "shown", "place", "least", "told", "choice"] ["groups"] (zM wV):=⟨rfl,rfl,rfl,by decide +kernel,rfl,by decide +kernel,by decide +kernel⟩
theorem zHu:zS ["groups"] ["groups"] (zM rG):=⟨rfl,rfl,rfl,by decide +kernel,rfl,by decide +kernel,by decide +kernel⟩
theorem zKt:zS ["_law_number"] ["_law_number"] (zM zBc):=⟨rfl,rfl,rfl,by decide +kernel,rfl,by decide +kernel,by decide +kernel⟩
theorem xW:zS ["_law_script", "_law_many_here", "_law_rows", "_law_mix", "_law_cell", "_law_rest"] ["_law_script", "_law_many_here"] (zM zA6):=⟨rfl,rfl,rfl,by decide +kernel,rfl,by decide +kernel,by decide +kernel⟩
theorem zK4:zS ["_law_some", "_law_sides_here"] ["_law_some", "_law_sides_here"] (zM zA1):=⟨rfl,rfl,rfl,by decide +kernel,rfl,by decide +kernel,by decide +kernel⟩
theorem zC2:zS ["_law_one", "_law_two", "_law_wide", "_law_x", "_law_y"] ["_law_one", "_law_two", "_law_wide"] (zM zF5):=⟨rfl,rfl,rfl,by decide +kernel,rfl,by decide +kernel,by decide +kernel⟩
theorem sQ:zS ["_law_d", "_law_a", "_law_b", "_law_c"] ["_law_d"] (zM zCr):=⟨rfl,rfl,rfl,by decide +kernel,rfl,by decide +kernel,by decide +kernel⟩
theorem vW:zS ["_law_some", "_law_many_here", "_law_rows", "_law_x", "_law_y"] ["_law_some", "_law_many_here"] (zM zAq):=⟨rfl,rfl,rfl,by decide +kernel,rfl,by decide +kernel,by decide +kernel⟩
theorem zLw:zS ["_law_one", "_law_two", "_law_few", "_law_most"] ["_law_one", "_law_two", "_law_few", "_law_most"] (zM zCm):=⟨rfl,rfl,rfl,by decide +kernel,rfl,by decide +kernel,by decide +kernel⟩
theorem zCo:zS ["_law_sides_here", "_law_place", "_law_x", "_law_y", "_law_w"] ["_law_sides_here", "_law_place"] (zM zFr):=⟨rfl,rfl,rfl,by decide +kernel,rfl,by decide +kernel,by decide +kernel⟩
theorem zG1:zS ["_law_less", "_law_more"] ["_law_less", "_law_more"] (zM rB):=⟨rfl,rfl,rfl,by decide +kernel,rfl,by decide +kernel,by decide +kernel⟩
theorem vK:zS ["_law_script", "_law_some", "_law_sides_here", "_law_at", "_law_more", "_law_x", "_law_y", "_law_one", "_law_other", "_law_p", "_law_q", "_law_w", "_law_r", "_law_s", "_law_v", "_law_size"] ["_law_script"] (zM zI2):=⟨rfl,rfl,rfl,by decide +kernel,rfl,by decide +kernel,by decide +kernel⟩
def zIv:Addr:=182
def zKj:Addr:=178
section
variable {P:Program} {w:World} {mg:Str->Option Value} {base:Heap} {f:Addr} {fd:FuncData}
def tM (K:PySem.W.Frag):Sp:=λvs H Q _=>∃ (a:Addr) (ns:List Int),vs = [.ref a]/\Sq K H a (ns.map V.int)/\Q (.int (yI ns)) H
theorem zBe (F:Fun K "common_factor" "common_factor" xY f fd) (Z:Zs mg):wL P w K mg base CX0 1 f fd ["numbers"] (tM K):=by
 refine F.ok yJ (λvs H Q E h=>?_) (λcdv A outer s H vs Q E hr h=>?_)
 ·obtain ⟨a,ns,rfl,_⟩:=h;rfl
 obtain ⟨a,ns,rfl,hS,q⟩:=h;refine ⟨_,(zF (zT (i:=1) yJ.nd rfl (Or.inl rfl) zC)
   (zF (wD PassesOwn.never rfl (xU (pv 0)) (zQ (i:=2) yJ.nd rfl (Or.inl rfl)) (zF (zT (i:=3) yJ.nd rfl (Or.inl rfl) (zW uZ rfl Z.abs qZ (zA (pv 2) zD)))
   (zJ (zC0 PassesOwn.never (zU zRr (pv 3) zC (zX _)) (zF (zT (i:=4) yJ.nd rfl (Or.inl rfl) (zN yQ (pv 1) (pv 3)))
   (zF (zT (i:=1) yJ.nd rfl (Or.inl rfl) (pv 3))
   (zJ (zT (i:=3) yJ.nd rfl (Or.inl rfl) (pv 4)))))))))
   (zJ (zR (pv 1))))),?_⟩
 try dsimp only [L2.cxOf]
 have mono:∀ (σ:St) (H:Hp) (Q Q':Bool->Hp->Prop),(∀ b H1,Q b H1->Q' b H1)->zPh (tOp rNe (zT4 3) (tC (.int 0))) σ H Q->zPh (tOp rNe (zT4 3) (tC (.int 0))) σ H Q':=λσ H Q Q' hq z=>by
  obtain ⟨v,hv,hs,k,hk,z⟩:=z;exact ⟨v,hv,hs,k,hk,hq _ _ z⟩
 rcases hS with hS | hS
 ·refine ⟨_,rfl,a,rfl,.inl ⟨⟨_,hS⟩,xL (K:=K) (a:=a) (xs:=ns.map V.int) (λi σ H'=>H' = H/\∃ (u v z:Option V),σ = [some (.ref a),some (.int (yI (ns.take i))),u,v,z]) ⟨rfl,none,none,none,rfl⟩ (λi σ H' _ ⟨e,_⟩=>by rw [e]; exact hS) ?_ ?_⟩⟩
  ·rintro i x σ H' hi ⟨rfl,u,v,z,rfl⟩;obtain ⟨n,hn,rfl⟩:=uP hi;refine ⟨_,rfl,n,rfl,?_⟩;refine zBf (λσ H1=>H1 = H'/\∃ (g r:Int) (y:Option V),σ = [some (.ref a),some (.int g),some (.int n),some (.int r),y]/\0<=g/\0<=r/\Nat.gcd g.toNat r.toNat = yI (ns.take (i + 1)))
    (λσ _=>match σ with | [_,_,_,some (.int r),_]=>r.toNat | _=>0) ⟨rfl,_,_,_,rfl,Int.natCast_nonneg _,by split <;> omega,?_⟩ ?_ mono
   ·rw [yW hn,zH0,zQd]; rfl
   ·rintro σ H1 ⟨rfl,g,r,y,rfl,h1,h2,h3⟩;refine ⟨_,rfl,rfl,_,rfl,?_⟩;refine zUd (λhr0=>?_) (λhr0=>?_)
    ·refine ⟨_,rfl,_,rfl,_,_,rfl,rfl,(by show (0:Int) < r; omega),_,rfl,_,rfl,⟨rfl,_,_,_,rfl,h2,Int.emod_nonneg g hr0,?_⟩,?_⟩
     ·rw [zI7 h1 (by omega)]; exact h3
     ·have h4:=Int.emod_lt_of_pos g (show 0 < r by omega);show (g % r).toNat < r.toNat;omega
    ·subst hr0;have h5:g = ((yI (ns.take (i + 1)):Nat):Int):=by
      rw [<- h3];show g = ((Nat.gcd g.toNat 0:Nat):Int);rw [Nat.gcd_zero_right];omega
     exact ⟨rfl,some (.int n),some (.int 0),y,by rw [h5]⟩
  ·rintro σ H' ⟨rfl,u,v,z,rfl⟩;refine ⟨_,rfl,?_⟩;rw [List.length_map,List.take_length];exact q
 ·refine ⟨_,rfl,a,rfl,.inr ⟨⟨_,hS⟩,zRy (K:=K) (a:=a) (xs:=ns.map V.int) (λi σ H'=>H' = H/\∃ (u v z:Option V),σ = [some (.ref a),some (.int (yI (ns.take i))),u,v,z]) ⟨rfl,none,none,none,rfl⟩ (λi σ H' _ ⟨e,_⟩=>by rw [e]; exact hS) ?_ ?_⟩⟩
  ·rintro i x σ H' hi ⟨rfl,u,v,z,rfl⟩;obtain ⟨n,hn,rfl⟩:=uP hi;refine ⟨_,rfl,n,rfl,?_⟩;refine zBf (λσ H1=>H1 = H'/\∃ (g r:Int) (y:Option V),σ = [some (.ref a),some (.int g),some (.int n),some (.int r),y]/\0<=g/\0<=r/\Nat.gcd g.toNat r.toNat = yI (ns.take (i + 1)))
    (λσ _=>match σ with | [_,_,_,some (.int r),_]=>r.toNat | _=>0) ⟨rfl,_,_,_,rfl,Int.natCast_nonneg _,by split <;> omega,?_⟩ ?_ mono
   ·rw [yW hn,zH0,zQd]; rfl
   ·rintro σ H1 ⟨rfl,g,r,y,rfl,h1,h2,h3⟩;refine ⟨_,rfl,rfl,_,rfl,?_⟩;refine zUd (λhr0=>?_) (λhr0=>?_)
    ·refine ⟨_,rfl,_,rfl,_,_,rfl,rfl,(by show (0:Int) < r; omega),_,rfl,_,rfl,⟨rfl,_,_,_,rfl,h2,Int.emod_nonneg g hr0,?_⟩,?_⟩
     ·rw [zI7 h1 (by omega)]; exact h3
     ·have h4:=Int.emod_lt_of_pos g (show 0 < r by omega);show (g % r).toNat < r.toNat;omega
    ·subst hr0;have h5:g = ((yI (ns.take (i + 1)):Nat):Int):=by
      rw [<- h3];show g = ((Nat.gcd g.toNat 0:Nat):Int);rw [Nat.gcd_zero_right];omega
     exact ⟨rfl,some (.int n),some (.int 0),y,by rw [h5]⟩
  ·rintro σ H' ⟨rfl,u,v,z,rfl⟩;refine ⟨_,rfl,?_⟩;rw [List.length_map,List.take_length];exact q
def uT (K:PySem.W.Frag):Sp:=λvs H Q _=>∃ (a:Addr) (ns:List Int),vs = [.ref a]/\Sq K H a (ns.map V.int)/\ns.length<=1000/\0 < yI ns/\(yI ns:Int) < 10 ^ 600 /\
 ∀ (p:Addr) (H':Hp),yG H H'->H p = none->H' p = some (.tup ((tJ ns).map V.int))->Q (.ref p) H'
theorem zIj (F:Fun K "lowest" "lowest" qM f fd) (Z:Zs mg) (yAc:Has P w K mg base "common_factor" 1 ["numbers"] (tM K)):wL P w K mg base CX0 2 f fd ["numbers"] (uT K):=by
 refine F.ok zDh (λvs H Q E h=>?_) (λcdv A outer s H vs Q E hr h=>?_)
 ·obtain ⟨a,ns,rfl,_⟩:=h;rfl
 obtain ⟨a,ns,rfl,hS,hl,hg,hg2,q⟩:=h;refine ⟨_,(zF (zT (i:=1) zDh.nd rfl (Or.inr rfl) (zH yAc (hr.mono (by decide)) rfl (zA (pv 0) zD)))
   (zJ (zR (xA zAw rfl Z.tuple zJb (zA (vI (T:=["number"]) (caps:=[("shared", 1)]) ⟨rfl,by decide +kernel,by decide +kernel,rfl,⟨⟨rfl,rfl,Or.inl rfl⟩,True.intro⟩⟩ rfl (xU (pv 0)) (λ_=>(zQ (i:=0) (show (["number", "shared"]:List Str).Nodup by decide +kernel) rfl (Or.inl rfl))) (λ_=>xT) (λ_=>(zN rK (pv 0) (pv 1)))) zD))))),?_⟩
 try dsimp only [L2.cxOf]
 refine ⟨_,rfl,a,ns,rfl,hS,?_⟩;have fin:∀ (D:Addr) (H':Hp),H D = none->yG H H'->H' D = some (.lst ((tJ ns).map V.int))->∀ l,H' l = none->Q (.ref l) (upd H' l (.tup ((tJ ns).map V.int))):=λD H' hD hs e l hl =>
  q l _ (hs.trans (zE hl _)) (hs.free hl) zB
 have len:∀ i,((ns.take i).map λn=>V.int (n / (yI ns:Int))).length < sizeLine:=λi=>yB (by rw [List.length_map,List.length_take]; omega);rcases hS with hS | hS
 ·refine ⟨_,rfl,a,rfl,.inl ⟨⟨_,hS⟩,λc D hD=>uC (K:=K) (a:=a) (xs:=ns.map V.int) (λi σ ys H'=>H' = upd H D (.lst ys)/\ys = (ns.take i).map (λn=>V.int (n / (yI ns:Int)))/\∃ u,σ = [u,some (.int (yI ns))])
   ⟨rfl,rfl,none,rfl⟩ (λi σ ys H' _ ⟨e,_⟩=>by rw [e]; exact ⟨(zE hD _).seq hS,zB⟩) ?_ ?_⟩⟩
  ·rintro i x σ ys H' hi ⟨rfl,rfl,u,rfl⟩;obtain ⟨n,hn,rfl⟩:=uP hi;refine ⟨_,rfl,_,rfl,_,_,rfl,rfl,zAm.of (by omega) hg2,zB,len i,?_⟩;refine ⟨qK,?_,_,rfl⟩;rw [yW hn,List.map_append];rfl
  ·rintro σ ys H' ⟨rfl,rfl,u,rfl⟩;rw [List.length_map,List.take_length];have e:(ns.map λn=>V.int (n / (yI ns:Int))) = (tJ ns).map V.int:=by unfold tJ; rw [List.map_map]; rfl
   rw [e];exact ⟨D,_,rfl,.inl ⟨SqL.of zB,fin D _ hD (zE hD _) zB⟩⟩
 ·refine ⟨_,rfl,a,rfl,.inr ⟨⟨_,hS⟩,λc D hD=>zGo (K:=K) (a:=a) (xs:=ns.map V.int) (λi σ ys H'=>H' = upd H D (.lst ys)/\ys = (ns.take i).map (λn=>V.int (n / (yI ns:Int)))/\∃ u,σ = [u,some (.int (yI ns))])
   ⟨rfl,rfl,none,rfl⟩ (λi σ ys H' _ ⟨e,_⟩=>by rw [e]; exact ⟨SqT.same hS (zE hD _),zB⟩) ?_ ?_⟩⟩
  ·rintro i x σ ys H' hi ⟨rfl,rfl,u,rfl⟩;obtain ⟨n,hn,rfl⟩:=uP hi;refine ⟨_,rfl,_,rfl,_,_,rfl,rfl,zAm.of (by omega) hg2,zB,len i,?_⟩;refine ⟨qK,?_,_,rfl⟩;rw [yW hn,List.map_append];rfl
  ·rintro σ ys H' ⟨rfl,rfl,u,rfl⟩;rw [List.length_map,List.take_length];have e:(ns.map λn=>V.int (n / (yI ns:Int))) = (tJ ns).map V.int:=by unfold tJ; rw [List.map_map]; rfl
   rw [e];exact ⟨D,_,rfl,.inl ⟨SqL.of zB,fin D _ hD (zE hD _) zB⟩⟩
def tL (K:PySem.W.Frag):Sp:=λvs H Q _=>∃ (a:Addr) (ns:List Int) (l:Int),vs = [.ref a]/\Sq K H a (ns.map V.int)/\ns.length<=1000/\atI (ns.map V.int) (-1) = some (.int l)/\l∈ns/\l≠0/\l.natAbs < 10 ^ 500 /\
 ∀ (p:Addr) (H':Hp),yG H H'->H p = none->H' p = some (.tup ((tJ (if l < 0 then ns.map (λn=>-n) else ns)).map V.int))->Q (.ref p) H'
theorem zHp (F:Fun K "upright" "upright" sY f fd) (Z:Zs mg) (yAz:Has P w K mg base "lowest" 2 ["numbers"] (uT K)):wL P w K mg base CX0 3 f fd ["numbers"] (tL K):=by
 refine F.ok zHy (λvs H Q E h=>?_) (λcdv A outer s H vs Q E hr h=>?_)
 ·obtain ⟨a,ns,l,rfl,_⟩:=h;rfl
 obtain ⟨a,ns,l,rfl,hS,hl,hat,hm,h0,hb,q⟩:=h;refine ⟨_,(zF (xC (zU zGq (zO zL (pv 0) (zKq zE8 zC) (λ_ _=>rfl)) zC (zX _)) (zJ (zR (zH yAz (hr.mono (by decide)) rfl (zA (vI (T:=["number"]) (caps:=[]) ⟨rfl,by decide +kernel,by decide +kernel,rfl,True.intro⟩ rfl (xU (pv 0)) (λ_=>(zQ (i:=0) (show (["number"]:List Str).Nodup by decide +kernel) rfl (Or.inl rfl))) (λ_=>xT) (λ_=>(zKq zE8 (pv 0)))) zD)))) zY)
   (zJ (zR (zH yAz (hr.mono (by decide)) rfl (zA (pv 0) zD))))),?_⟩
 try dsimp only [L2.cxOf]
 refine ⟨_,rfl,_,rfl,a,_,_,_,rfl,rfl,hS,hat,_,_,rfl,rfl,_,rfl,?_⟩;have gp:0 < yI ns:=wU hm h0;have gb:(yI ns:Int) < 10 ^ 600:=by
  have h1:=zDd hm h0;have h2:(10:Nat) ^ 500 < 10 ^ 600:=by decide +kernel
  have h3:((10:Int) ^ 600) = ((10 ^ 600:Nat):Int):=by rw [Int.natCast_pow]; rfl
  rw [h3];omega
 refine ifD (λhneg=>?_) (λhneg=>?_)
 ·have len:∀ i,((ns.take i).map λn=>V.int (-n)).length < sizeLine:=λi=>yB (by rw [List.length_map,List.length_take]; omega);have fin:∀ (D:Addr) (H':Hp),H D = none->yG H H'->H' D = some (.lst ((ns.map λn=>-n).map V.int))->uT K [.ref D] H' Q E0:=λD H' hD hs e=>by
   refine ⟨D,ns.map λn=>-n,rfl,.inl (SqL.of e),by rw [List.length_map]; exact hl,by rw [zJf]; exact gp,by rw [zJf]; exact gb,λp H2 s2 hp e2=>?_⟩;exact q p H2 (hs.trans s2) (hs.free hp) (by rw [if_pos hneg]; exact e2)
  rcases hS with hS | hS
  ·refine ⟨_,rfl,a,rfl,.inl ⟨⟨_,hS⟩,λc D hD=>uC (K:=K) (a:=a) (xs:=ns.map V.int) (λi σ ys H'=>H' = upd H D (.lst ys)/\ys = (ns.take i).map (λn=>V.int (-n))/\∃ u,σ = [u])
    ⟨rfl,rfl,none,rfl⟩ (λi σ ys H' _ ⟨e,_⟩=>by rw [e]; exact ⟨(zE hD _).seq hS,zB⟩) ?_ ?_⟩⟩
   ·rintro i x σ ys H' hi ⟨rfl,rfl,u,rfl⟩;obtain ⟨n,hn,rfl⟩:=uP hi;refine ⟨_,rfl,_,rfl,zB,len i,?_⟩;refine ⟨qK,?_,_,rfl⟩;rw [yW hn,List.map_append];rfl
   ·rintro σ ys H' ⟨rfl,rfl,u,rfl⟩;rw [List.length_map,List.take_length];have e:(ns.map λn=>V.int (-n)) = (ns.map λn=>-n).map V.int:=by rw [List.map_map]; rfl
    rw [e];exact fin D _ hD (zE hD _) zB
  ·refine ⟨_,rfl,a,rfl,.inr ⟨⟨_,hS⟩,λc D hD=>zGo (K:=K) (a:=a) (xs:=ns.map V.int) (λi σ ys H'=>H' = upd H D (.lst ys)/\ys = (ns.take i).map (λn=>V.int (-n))/\∃ u,σ = [u])
    ⟨rfl,rfl,none,rfl⟩ (λi σ ys H' _ ⟨e,_⟩=>by rw [e]; exact ⟨SqT.same hS (zE hD _),zB⟩) ?_ ?_⟩⟩
   ·rintro i x σ ys H' hi ⟨rfl,rfl,u,rfl⟩;obtain ⟨n,hn,rfl⟩:=uP hi;refine ⟨_,rfl,_,rfl,zB,len i,?_⟩;refine ⟨qK,?_,_,rfl⟩;rw [yW hn,List.map_append];rfl
   ·rintro σ ys H' ⟨rfl,rfl,u,rfl⟩;rw [List.length_map,List.take_length];have e:(ns.map λn=>V.int (-n)) = (ns.map λn=>-n).map V.int:=by rw [List.map_map]; rfl
    rw [e];exact fin D _ hD (zE hD _) zB
 ·refine ⟨_,rfl,a,ns,rfl,hS,hl,gp,gb,λp H2 s2 hp e2=>?_⟩;exact q p H2 s2 hp (by rw [if_neg hneg]; exact e2)
def sF (K:PySem.W.Frag):Sp:=λvs H Q _=>∃ (t b:Int),vs = [.int t,.int b]/\b≠0/\b.natAbs < 10 ^ 500 /\
 ∀ (p:Addr) (x y:Int) (H':Hp),yG H H'->H p = none->H' p = some (.tup [.int x,.int y])->rP t b x y->Q (.ref p) H'
theorem zNc (F:Fun K "part" "part" zC1 f fd) (Z:Zs mg) (yAu:Has P w K mg base "upright" 3 ["numbers"] (tL K)):wL P w K mg base CX0 4 f fd ["top", "bottom"] (sF K):=by
 refine F.ok zL5 (λvs H Q E h=>?_) (λcdv A outer s H vs Q E hr h=>?_)
 ·obtain ⟨t,b,rfl,_⟩:=h;rfl
 obtain ⟨t,b,rfl,hb,hb2,q⟩:=h;refine ⟨_,(zJ (zR (zH yAu (hr.mono (by decide)) rfl (zA (xE (zA (pv 0) (zA (pv 1) zD))) zD)))),?_⟩
 try dsimp only [L2.cxOf]
 refine ⟨_,rfl,_,rfl,(by show 2<=sizeLine; decide),λp hp=>⟨p,[t,b],b,rfl,.inr (SqT.of zB),by show 2<=1000; decide,rfl,by simp,hb,hb2,λr H2 s2 hr2 e2=>?_⟩⟩;obtain ⟨x,y,exy,hxy⟩:=zK7 t hb;rw [exy] at e2;exact q r x y H2 ((zE hp _).trans s2) ((zE hp _).free hr2) e2 hxy
def zG8 (K:PySem.W.Frag):Sp:=λvs H Q _=>∃ (a b:Addr) (x1 y1 x2 y2:Int),vs = [.ref a,.ref b]/\H a = some (.tup [.int x1,.int y1])/\H b = some (.tup [.int x2,.int y2]) /\
 x1.natAbs<=10 ^ 401/\y1.natAbs<=10 ^ 401/\x2.natAbs<=10 ^ 401/\y2.natAbs<=10 ^ 401/\y1≠0/\y2≠0/\(y1 * y2).natAbs < 10 ^ 500/\∀ (p:Addr) (x y:Int) (H':Hp),yG H H'->H p = none->H' p = some (.tup [.int x,.int y])->rP (x1 * y2 + x2 * y1) (y1 * y2) x y->Q (.ref p) H'
theorem zN3 (F:Fun K "plus" "plus" zCl f fd) (Z:Zs mg) (yBx:Has P w K mg base "part" 4 ["top", "bottom"] (sF K)):wL P w K mg base CX0 5 f fd ["one", "other"] (zG8 K):=by
 refine F.ok zLp (λvs H Q E h=>?_) (λcdv A outer s H vs Q E hr h=>?_)
 ·obtain ⟨a,b,x1,y1,x2,y2,rfl,_⟩:=h;rfl
 obtain ⟨a,b,x1,y1,x2,y2,rfl,ha',hb',m1,m2,m3,m4,n1,n2,hy,q⟩:=h;have ha:Sq K H a [.int x1,.int y1]:=.inr (SqT.of ha');have hb:Sq K H b [.int x2,.int y2]:=.inr (SqT.of hb');have c3:∀ {i j:Int},i.natAbs<=10 ^ 401->j.natAbs<=10 ^ 401->zB3 i j:=λ{i j} hi hj=>⟨Nat.lt_of_le_of_lt hi (by decide +kernel),Nat.lt_of_le_of_lt hj (by decide +kernel)⟩;refine ⟨_,(zJ (zR (zH yBx (hr.mono (by decide)) rfl (zA (zN xO (zN xH (zO zL (pv 0) zC (λ_ _=>rfl)) (zO zL (pv 1) zC (λ_ _=>rfl))) (zN xH (zO zL (pv 1) zC (λ_ _=>rfl)) (zO zL (pv 0) zC (λ_ _=>rfl)))) (zA (zN xH (zO zL (pv 0) zC (λ_ _=>rfl)) (zO zL (pv 1) zC (λ_ _=>rfl))) zD))))),?_⟩
 try dsimp only [L2.cxOf]
 exact ⟨_,rfl,a,_,_,.int x1,rfl,rfl,ha,rfl,_,rfl,b,_,_,.int y2,rfl,rfl,hb,rfl,_,_,rfl,rfl,c3 m1 m4,
  _,rfl,b,_,_,.int x2,rfl,rfl,hb,rfl,_,rfl,a,_,_,.int y1,rfl,rfl,ha,rfl,_,_,rfl,rfl,c3 m3 m2,_,_,rfl,rfl,
  _,rfl,a,_,_,.int y1,rfl,rfl,ha,rfl,_,rfl,b,_,_,.int y2,rfl,rfl,hb,rfl,_,_,rfl,rfl,c3 m2 m4,
  _,_,rfl,Int.mul_ne_zero n1 n2,hy,q⟩
def zBl (K:PySem.W.Frag):Sp:=λvs H Q _=>∃ (X Y W:Int),vs = [.int X,.int Y,.int W]/\W≠0/\W.natAbs < 10 ^ 500/\∀ (p:Addr) (H':Hp),yG H H'->H p = none->H' p = some (.tup ((tJ (upL X Y W)).map V.int))->Q (.ref p) H'
theorem zOa (F:Fun K "spot" "spot" zCv f fd) (Z:Zs mg) (yAu:Has P w K mg base "upright" 3 ["numbers"] (tL K)):wL P w K mg base CX0 4 f fd ["x", "y", "w"] (zBl K):=by
 refine F.ok zMg (λvs H Q E h=>?_) (λcdv A outer s H vs Q E hr h=>?_)
 ·obtain ⟨X,Y,W,rfl,_⟩:=h;rfl
 obtain ⟨X,Y,W,rfl,hw,hw2,q⟩:=h;refine ⟨_,(zJ (zR (zH yAu (hr.mono (by decide)) rfl (zA (xE (zA (pv 0) (zA (pv 1) (zA (pv 2) zD)))) zD)))),?_⟩
 try dsimp only [L2.cxOf]
 refine ⟨_,rfl,_,rfl,_,rfl,(by show 3<=sizeLine; decide),λp hp=>⟨p,[X,Y,W],W,rfl,.inr (SqT.of zB),by show 3<=1000; decide,rfl,by simp,hw,hw2,λr H2 s2 hr2 e2=>?_⟩⟩;exact q r H2 ((zE hp _).trans s2) ((zE hp _).free hr2) e2
theorem cB {i j:Int} (hi:i.natAbs<=10 ^ 100) (hj:j.natAbs<=10 ^ 100):zB3 i j:=zB3.of hi hj
def zEn (H:Hp) (t:SpT):Prop:=H t.1 = some (.tup [.int t.2.1,.int t.2.2.1,.int t.2.2.2])/\t.2.1.natAbs<=10 ^ 100/\t.2.2.1.natAbs<=10 ^ 100/\t.2.2.2.natAbs<=10 ^ 100
theorem zEn.same {H H':Hp} {t:SpT} (h:zEn H t) (e:yG H H'):zEn H' t:=⟨e _ _ h.1,h.2⟩
def qQ (K:PySem.W.Frag):Sp:=λvs H Q _=>∃ (s t:SpT),vs = [.ref s.1,.ref t.1]/\zEn H s/\zEn H t/\Q (.bl (ahB s t)) H
theorem zKo (F:Fun K "ahead" "ahead" zAr f fd) (Z:Zs mg)  : wL P w K mg base CX0 1 f fd ["one", "other"] (qQ K):=by
 refine F.ok zEx (λvs H Q E h=>?_) (λcdv A outer s H vs Q E hr h=>?_)
 ·obtain ⟨s,t,rfl,_⟩:=h;rfl
 obtain ⟨⟨a,x1,y1,w1⟩,⟨b,x2,y2,w2⟩,rfl,⟨ha,a1,a2,a3⟩,⟨hb,b1,b2,b3⟩,q⟩:=h;refine ⟨_,(zF (zT (i:=2) zEx.nd rfl (Or.inl rfl) (zN xZ (zN xH (zO zL (pv 0) zC (λ_ _=>rfl)) (zO zL (pv 1) zC (λ_ _=>rfl))) (zN xH (zO zL (pv 1) zC (λ_ _=>rfl)) (zO zL (pv 0) zC (λ_ _=>rfl)))))
   (zF (xC (zU zRr (pv 2) zC (zX _)) (zJ (zR (tW zGq (pv 2) zC (zX _)))) zY)
   (zJ (zR (tW zGq (zN xH (zO zL (pv 0) zC (λ_ _=>rfl)) (zO zL (pv 1) zC (λ_ _=>rfl))) (zN xH (zO zL (pv 1) zC (λ_ _=>rfl)) (zO zL (pv 0) zC (λ_ _=>rfl))) (zX _)))))),?_⟩
 try dsimp only [L2.cxOf]
 have fa':Sq K H a [.int x1,.int y1,.int w1]:=.inr (SqT.of ha);have fb:Sq K H b [.int x2,.int y2,.int w2]:=.inr (SqT.of hb);refine ⟨_,rfl,a,_,_,.int x1,rfl,rfl,fa',rfl,_,rfl,b,_,_,.int w2,rfl,rfl,fb,rfl,_,_,rfl,rfl,cB a1 b3,_,rfl,b,_,_,.int x2,rfl,rfl,fb,rfl,_,rfl,a,_,_,.int w1,rfl,rfl,fa',rfl,_,_,rfl,rfl,cB b1 a3,_,_,rfl,rfl,?_⟩;refine ⟨_,rfl,rfl,_,rfl,?_⟩;refine zUd (λh=>?_) (λh=>?_)
 ·have e:ahB (a,x1,y1,w1) (b,x2,y2,w2) = decide (x1 * w2 - x2 * w1 < 0):=if_neg h;rw [e] at q;exact ⟨_,rfl,_,_,rfl,rfl,q⟩
 ·have e:ahB (a,x1,y1,w1) (b,x2,y2,w2) = decide (y1 * w2 < y2 * w1):=if_pos h;rw [e] at q;exact ⟨_,rfl,a,_,_,.int y1,rfl,rfl,fa',rfl,_,rfl,b,_,_,.int w2,rfl,rfl,fb,rfl,_,_,rfl,rfl,cB a2 b3,_,rfl,b,_,_,.int y2,rfl,rfl,fb,rfl,_,rfl,a,_,_,.int w1,rfl,rfl,fa',rfl,_,_,rfl,rfl,cB b2 a3,_,_,rfl,rfl,q⟩
theorem zR4 {sp:Sp} {dvs:List V} {E:XK} {t:TA} (hs:∀ (vs:List V) (H:Hp) (Q Q':VK),(∀ v H1,Q v H1->Q' v H1)->sp vs H Q E->sp vs H Q' E) (ht:zNp t):zEl (zRt sp dvs E t):=λσ _ _ _ hq z=>ht σ _ _ _ (λ_ _ z=>hs _ _ _ _ hq z) z
theorem zJ5 {K:PySem.W.Frag} : ∀ (vs:List V) (H:Hp) (Q Q':VK),(∀ v H1,Q v H1->Q' v H1)->qQ K vs H Q E0->qQ K vs H Q' E0:=λ_ _ _ _ hq ⟨s,t,a,b,c,z⟩=>⟨s,t,a,b,c,hq _ _ z⟩
def zZ (ps:List SpT):List V:=ps.map λt=>V.ref t.1
def zAh (K:PySem.W.Frag):Sp:=λvs H Q _=>∃ (a b:Addr) (xs ys:List SpT),vs = [.ref a,.ref b]/\H a = some (.lst (zZ xs))/\H b = some (.lst (zZ ys))/\(∀ t∈xs,zEn H t)/\(∀ t∈ys,zEn H t)/\xs.length + ys.length<=5000 /\
 ∀ (p:Addr) (H':Hp),yG H H'->H p = none->H' p = some (.lst (zZ (xD xs ys)))->Q (.ref p) H'
theorem zKs {xs ys:List SpT} {o:SpT} {r:List SpT} {k:Nat} (hk:k<=xs.length) {told:List SpT} (h:told ++ xD (xs.drop k) (o :: r) = xD xs ys) {x:SpT} (hx:xs[k]? = some x) (ha:ahB o x = false):(told ++ [x]) ++ xD (xs.drop (k + 1)) (o :: r) = xD xs ys:=by
 rw [<- h];have hk':k < xs.length:=(List.getElem?_eq_some_iff.mp hx).1;have e:xs.drop k = x :: xs.drop (k + 1):=by
  rw [List.drop_eq_getElem_cons hk']
  congr 1
  exact (List.getElem?_eq_some_iff.mp hx).2
 rw [e,xD,xD,List.takeWhile_cons_of_pos (by rw [ha]; rfl),List.dropWhile_cons_of_pos (by rw [ha]; rfl),List.append_assoc];rfl
theorem zHj {xs ys:List SpT} {o:SpT} {r:List SpT} {k:Nat} {told:List SpT} (h:told ++ xD (xs.drop k) (o :: r) = xD xs ys) (hx:xs.length<=k\/∃ x,xs[k]? = some x/\ahB o x = true):(told ++ [o]) ++ xD (xs.drop k) r = xD xs ys:=by
 rw [<- h];rcases hx with hx | ⟨x,hx,ha⟩
 ·rw [List.drop_eq_nil_of_le hx,xD,List.takeWhile_nil,List.dropWhile_nil,List.append_assoc];rfl
 ·have hk':k < xs.length:=(List.getElem?_eq_some_iff.mp hx).1;have e:xs.drop k = x :: xs.drop (k + 1):=by
   rw [List.drop_eq_getElem_cons hk']
   congr 1
   exact (List.getElem?_eq_some_iff.mp hx).2
  rw [e,xD,List.takeWhile_cons_of_neg (by rw [ha]; decide),List.dropWhile_cons_of_neg (by rw [ha]; decide),List.append_assoc];rfl
structure zSh (H:Hp) (l:Addr) (told:List SpT) (H':Hp):Prop where
 same:yG H H'
 at':H' l = some (.lst (zZ told))
theorem zSh.app {H H':Hp} {l:Addr} {told:List SpT} {x:SpT} (d:zSh H l told H') (hl:H l = none):zSh H l (told ++ [x]) (upd H' l (.lst (zZ told ++ [.ref x.1]))):=by
 refine ⟨λb o e=>?_,?_⟩
 ·rw [zP (yE e hl)];exact d.same b o e
 ·rw [zB];unfold zZ;rw [List.map_append];rfl
theorem zOx {ps:List SpT} {i:Nat} {x:SpT} (h:ps[i]? = some x):(zZ ps)[i]? = some (.ref x.1):=by
 unfold zZ;rw [List.getElem?_map,h];rfl
theorem rV {ps:List SpT} {i:Nat} {v:V} (h:(zZ ps)[i]? = some v):∃ x,ps[i]? = some x/\v = .ref x.1:=by
 unfold zZ at h;rw [List.getElem?_map] at h;cases e:ps[i]? with
 | none=>rw [e] at h; cases h
 | some x=>rw [e] at h; exact ⟨x,rfl,(Option.some.inj h).symm⟩
theorem xF (ps:List SpT):(zZ ps).length = ps.length:=List.length_map _
theorem zIn (F:Fun K "merged" "merged" qO f fd) (Z:Zs mg) (yBj:Has P w K mg base "ahead" 1 ["one", "other"] (qQ K)):wL P w K mg base CX0 2 f fd ["ones", "others"] (zAh K):=by
 refine F.ok tF (λvs H Q E h=>?_) (λcdv A outer s H vs Q E hr h=>?_)
 ·obtain ⟨a,b,xs,ys,rfl,_⟩:=h;rfl
 obtain ⟨a,b,xs,ys,rfl,ha,hb,okx,oky,hlen,q⟩:=h;refine ⟨_,(zF (zT (i:=2) tF.nd rfl (Or.inl rfl) (wE zD))
   (zF (zT (i:=3) tF.nd rfl (Or.inl rfl) zC)
   (zF (wD PassesOwn.never rfl (xU (pv 1)) (zQ (i:=4) tF.nd rfl (Or.inl rfl)) (zF (zC0 PassesOwn.never (PW.pt (tT (zU zGq (pv 3) (zW zV rfl Z.len wQ (zA (pv 0) zD)) (zX _)) (uH (zAy (tN (zH yBj (hr.mono (by decide)) rfl (zA (pv 4) (zA (zO zL (pv 0) (pv 3) (λ_ _=>rfl)) zD)))))))) (zF (qH (zHi PySem.F.plainAttrs_list PySem.F.slot_list_append PySem.F.type_list_append wS (pv 2) (zA (zO zL (pv 0) (pv 3) (λ_ _=>rfl)) zD)))
   (zJ (zT (i:=3) tF.nd rfl (Or.inl rfl) (zN xO (pv 3) zC)))))
   (zJ (qH (zHi PySem.F.plainAttrs_list PySem.F.slot_list_append PySem.F.type_list_append wS (pv 2) (zA (pv 4) zD))))))
   (zJ (zR (zN zDj (pv 2) (xG wG (pv 0) (wH (pv 3)) wK))))))),?_⟩
 try dsimp only [L2.cxOf]
 have big:∀ n:Nat,n<=5000->n < sizeLine:=λn hn=>Nat.lt_of_le_of_lt hn (by decide);refine ⟨(by show 0<=sizeLine; decide),λl hl=>?_⟩;have D0:zSh H l [] (upd H l (.lst [])):=⟨zE hl _,zB⟩;refine ⟨_,rfl,b,rfl,.inl ⟨⟨_,SqL.of (D0.same _ _ hb)⟩,xL (K:=K) (a:=b) (xs:=zZ ys) (λj σ H'=>∃ (told:List SpT) (k:Nat) (u:Option V),σ = [some (.ref a),some (.ref b),some (.ref l),some (.int k),u]/\zSh H l told H'/\k<=xs.length/\told.length = k + j/\told ++ xD (xs.drop k) (ys.drop j) = xD xs ys)
  ⟨[],0,none,rfl,D0,Nat.zero_le _,rfl,rfl⟩ (λj σ H' _ ⟨_,_,_,_,d,_⟩=>SqL.of (d.same _ _ hb)) ?_ ?_⟩⟩
 ·rintro j v σ H' hj ⟨told,k,u,rfl,d,hk,htl,hm⟩;obtain ⟨o,ho,rfl⟩:=rV hj;have hjl:j < ys.length:=(List.getElem?_eq_some_iff.mp ho).1;have okO:=oky o (List.mem_of_getElem? ho);have eo:ys.drop j = o :: ys.drop (j + 1):=by
   rw [List.drop_eq_getElem_cons hjl]
   congr 1
   exact (List.getElem?_eq_some_iff.mp ho).2
  rw [eo] at hm;refine zBf (λσ H1=>∃ (told:List SpT) (k:Nat),σ = [some (.ref a),some (.ref b),some (.ref l),some (.int k),some (.ref o.1)]/\zSh H l told H1/\k<=xs.length/\told.length = k + j/\told ++ xD (xs.drop k) (o :: ys.drop (j + 1)) = xD xs ys)
   (λσ _=>match σ with | [_,_,_,some (.int z),_]=>xs.length - z.toNat | _=>0) ⟨told,k,rfl,d,hk,htl,hm⟩ ?_ (zQk (zF0 (zMk zO1 zAa (zRh zNd (zDg zAa zJp)))) (zSu (mo_b (zR4 zJ5 (zDg zAa (zDg (zMk zT0 zAa zAa) zJp))))))
  rintro σ H1 ⟨told,k,rfl,d,hk,htl,hm⟩;have fa':Sq K H1 a (zZ xs):=.inl (SqL.of (d.same _ _ ha));refine ⟨_,rfl,_,rfl,a,_,rfl,.inl (SqL.of (d.same _ _ ha)),_,_,rfl,rfl,_,rfl,?_⟩;refine ifD (λhlt=>?_) (λhlt=>?_)
  ·have hlt':(k:Int) < ((zZ xs).length:Int):=hlt;rw [xF] at hlt';have hkl:k < xs.length:=by omega
   have hx:xs[k]? = some xs[k]:=List.getElem?_eq_getElem hkl;have at':atI (zZ xs) (k:Int) = some (.ref (xs[k]).1):=tZ (zOx hx);have okX:=okx xs[k] (List.getElem_mem hkl);refine ⟨_,rfl,_,rfl,_,rfl,a,_,_,_,rfl,rfl,fa',at',o,xs[k],rfl,okO.same d.same,okX.same d.same,_,rfl,?_⟩;refine ifTF (λhb'=>?_) (λhb'=>?_)
   ·have hb2:ahB o xs[k] = false:=by cases h:ahB o xs[k] <;> simp_all
    refine ⟨_,rfl,.inl ⟨rfl,_,SqL.of d.at'⟩,_,rfl,_,rfl,a,_,_,_,rfl,rfl,fa',at',l,_,_,rfl,rfl,d.at',big _ (by rw [xF]; omega),?_⟩;refine ⟨_,rfl,_,_,rfl,rfl,⟨told ++ [xs[k]],k + 1,rfl,d.app hl,hkl,by rw [List.length_append,List.length_singleton]; omega,zKs hk hm hx hb2⟩,?_⟩;show xs.length - ((k:Int) + 1).toNat < xs.length - ((k:Int)).toNat;omega
   ·have hb2:ahB o xs[k] = true:=by cases h:ahB o xs[k] <;> simp_all
    refine ⟨_,rfl,.inl ⟨rfl,_,SqL.of d.at'⟩,_,rfl,l,_,_,rfl,rfl,d.at',big _ (by rw [xF]; omega),?_⟩;exact ⟨told ++ [o],k,_,rfl,d.app hl,hk,by rw [List.length_append,List.length_singleton]; omega,zHj hm (.inr ⟨_,hx,hb2⟩)⟩
  ·have hlt':¬ (k:Int) < ((zZ xs).length:Int):=hlt;rw [xF] at hlt';refine vD ?_;refine ⟨_,rfl,.inl ⟨rfl,_,SqL.of d.at'⟩,_,rfl,l,_,_,rfl,rfl,d.at',big _ (by rw [xF]; omega),?_⟩;exact ⟨told ++ [o],k,_,rfl,d.app hl,hk,by rw [List.length_append,List.length_singleton]; omega,zHj hm (.inl (by omega))⟩
 ·rintro σ H' ⟨told,k,u,rfl,d,hk,htl,hm⟩;rw [xF] at htl hm;rw [List.drop_length,xD] at hm;refine ⟨_,rfl,_,rfl,_,rfl,_,rfl,a,_,rfl,SqL.of (d.same _ _ ha),λc hc=>?_⟩;have sc:=zE hc (.lst (rO (zZ xs) (some (k:Int)) none));have ec:rO (zZ xs) (some (k:Int)) none = zZ (xs.drop k):=by
   unfold rO;rw [HT.sIx_nat,xF,show min k xs.length = k by omega,show HT.sIx xs.length xs.length none = xs.length from rfl,List.take_of_length_le (by rw [List.length_drop,xF]; omega)];unfold zZ;rw [List.map_drop]
  refine ⟨l,c,_,_,rfl,rfl,sc _ _ d.at',zB,?_,λp hp=>?_⟩
  ·rw [ec,xF,xF,List.length_drop];exact Nat.le_of_lt (big _ (by omega))
  ·refine q p _ (d.same.trans (sc.trans (zE hp _))) ((d.same.trans sc).free hp) ?_;rw [zB,ec,<- hm];unfold zZ;rw [List.map_append]
def qB (K:PySem.W.Frag):Nat->Sp
 | 0=>λ_ _ _ _=>False
 | n + 1=>λvs H Q _=>∃ (a:Addr) (xs:List SpT),vs = [.ref a]/\SqL K H a (zZ xs)/\(∀ t∈xs,zEn H t)/\xs.length<=2 ^ n/\xs.length<=5000/\∀ (p:Addr) (H':Hp),yG H H'->H p = none->H' p = some (.lst (zZ (qY n xs)))->Q (.ref p) H'
def zBk (K:PySem.W.Frag):Sp:=qB K 13
theorem zB6 {f:Addr} {fd:FuncData} (F:Fun K "in_order" "in_order" vE f fd) (Z:Zs mg) (yBa:Has P w K mg base "merged" 2 ["ones", "others"] (zAh K)) (bS:zHk K fd ["spots"] []) (kS:PySem.W.keepIn K (.ref f) = true) (mS:mg "in_order" = some (.ref f)) :
  ∀ n:Nat,wL P w K mg base CX0 (n + 2) f fd ["spots"] (qB K n)
 | 0=>⟨λ_ _ _ _ h=>h.elim,λ_ _ _ _ _ _ _ _ _ _ _ _ _ h=>h.elim⟩
 | n + 1=>by
  have ih:=zB6 F Z yBa bS kS mS n;have yAn:Has P w K mg base "in_order" (n + 2) ["spots"] (qB K n):=⟨f,fd,ih,bS,kS,mS⟩;rw [show n + 1 + 2 = n + 2 + 1 from by omega];refine F.ok zBj (λvs H Q E h=>?_) (λcdv A outer s H vs Q E hr h=>?_)
  ·obtain ⟨a,xs,rfl,_⟩:=h;rfl
  obtain ⟨a,xs,rfl,hS,ok,hl,hl5,q⟩:=h;have hr_self:=hr;have hr_m:Room 2 _:=hr.mono (Nat.le_add_left _ _);refine ⟨_,(zF (xC (zU zGq (zW zV rfl Z.len wQ (zA (pv 0) zD)) zC (zX _)) (zJ (zR (xA yT rfl Z.list uV (zA (pv 0) zD)))) zY)
   (zF (zT (i:=1) zBj.nd rfl (Or.inl rfl) (zN rK (zW zV rfl Z.len wQ (zA (pv 0) zD)) zC))
   (zJ (zR (zH yBa hr_m rfl (zA (zH yAn hr_self rfl (zA (xG wG (pv 0) wK (wH (pv 1))) zD)) (zA (zH yAn hr_self rfl (zA (xG wG (pv 0) (wH (pv 1)) wK) zD)) zD))))))),?_⟩
  try dsimp only [L2.cxOf]
  have big:∀ n:Nat,n<=5000->n < sizeLine:=λn hn=>Nat.lt_of_le_of_lt hn (by decide);refine ⟨_,rfl,a,_,rfl,.inl hS,_,_,rfl,rfl,_,rfl,?_⟩;refine ifD (λhlt=>?_) (λhlt=>?_)
  ·have hlt':((zZ xs).length:Int) < 2:=hlt;rw [xF] at hlt';refine ⟨_,rfl,a,_,rfl,.inl hS,λl hl'=>?_⟩;refine q l _ (zE hl' _) hl' ?_;rw [zB];have e:qY n xs = xs:=by
    cases n with
    | zero=>rfl
    | succ m=>exact if_pos (by omega)
   rw [e]
  ·have hlt':¬ ((zZ xs).length:Int) < 2:=hlt;rw [xF] at hlt';cases n with
   | zero=>exact absurd hl (by show ¬ xs.length<=1; omega)
   | succ m =>
    refine ⟨_,rfl,a,_,rfl,.inl hS,_,_,rfl,rfl,zAm.of (by decide) (by decide +kernel),?_⟩;have emid:((zZ xs).length:Int) / 2 = ((xs.length / 2:Nat):Int):=by rw [xF]; rfl
    have e1:rO (zZ xs) none (some (((zZ xs).length:Int) / 2)) = zZ (xs.take (xs.length / 2)):=by
     rw [emid];unfold rO;rw [HT.sIx_nat,xF,show HT.sIx xs.length 0 none = 0 from rfl,List.drop_zero,show min (xs.length / 2) xs.length - 0 = xs.length / 2 by omega];unfold zZ;rw [List.map_take]
    have e2:rO (zZ xs) (some (((zZ xs).length:Int) / 2)) none = zZ (xs.drop (xs.length / 2)):=by
     rw [emid];unfold rO;rw [HT.sIx_nat,xF,show min (xs.length / 2) xs.length = xs.length / 2 by omega,show HT.sIx xs.length xs.length none = xs.length from rfl,List.take_of_length_le (by rw [List.length_drop,xF]; omega)];unfold zZ;rw [List.map_drop]
    have p2:2 ^ (m + 1) = 2 * 2 ^ m:=by rw [Nat.pow_succ,Nat.mul_comm]
    refine ⟨_,rfl,_,rfl,_,rfl,a,_,rfl,hS,λc1 hc1=>?_⟩;have sc1:=zE hc1 (.lst (rO (zZ xs) none (some (((zZ xs).length:Int) / 2))));refine ⟨c1,xs.take (xs.length / 2),rfl,SqL.of (by rw [zB,e1]),λt ht=>(ok t (List.mem_of_mem_take ht)).same sc1,by rw [List.length_take]; omega,by rw [List.length_take]; omega,λr1 H1 s1 hr1 er1=>?_⟩;have sA:=sc1.trans s1;refine ⟨_,rfl,_,rfl,_,rfl,a,_,rfl,sA.seq hS,λc2 hc2=>?_⟩;have sc2:=zE hc2 (.lst (rO (zZ xs) (some (((zZ xs).length:Int) / 2)) none));refine ⟨c2,xs.drop (xs.length / 2),rfl,SqL.of (by rw [zB,e2]),λt ht=>(ok t (List.mem_of_mem_drop ht)).same (sA.trans sc2),by rw [List.length_drop]; omega,by rw [List.length_drop]; omega,λr2 H2 s2 hr2 er2=>?_⟩;have sB:=sA.trans (sc2.trans s2);have P1:=uU m (xs.take (xs.length / 2));have P2:=uU m (xs.drop (xs.length / 2));refine ⟨r1,r2,qY m (xs.take (xs.length / 2)),qY m (xs.drop (xs.length / 2)),rfl,s2 _ _ (sc2 _ _ er1),er2,λt ht=>(ok t (List.mem_of_mem_take (P1.mem_iff.mp ht))).same sB,λt ht=>(ok t (List.mem_of_mem_drop (P2.mem_iff.mp ht))).same sB,by rw [P1.length_eq,P2.length_eq,List.length_take,List.length_drop]; omega,λp H3 s3 hp e3=>?_⟩;refine q p H3 (sB.trans s3) (sB.free hp) ?_;rw [e3];have e:qY (m + 1) xs = xD (qY m (xs.take (xs.length / 2))) (qY m (xs.drop (xs.length / 2))):=if_neg (by omega);rw [e]
theorem zGc (F:Fun K "in_order" "in_order" vE f fd) (Z:Zs mg) (yBa:Has P w K mg base "merged" 2 ["ones", "others"] (zAh K)) (bS:zHk K fd ["spots"] []) (kS:PySem.W.keepIn K (.ref f) = true) (mS:mg "in_order" = some (.ref f)):wL P w K mg base CX0 15 f fd ["spots"] (zBk K):=zB6 F Z yBa bS kS mS 13
def zS0 (K:PySem.W.Frag):Sp:=λvs H Q _=>∃ (a b:Addr) (us ws:List V) (x1 y1 x2 y2:Int),vs = [.ref a,.ref b]/\Sq K H a us/\Sq K H b ws/\atI us 0 = some (.int x1)/\atI us 1 = some (.int y1)/\atI ws 0 = some (.int x2)/\atI ws 1 = some (.int y2) /\
 x1.natAbs<=10 ^ 18/\y1.natAbs<=10 ^ 18/\Q (.int (x1 * y2 - y1 * x2)) H
def wM (K:PySem.W.Frag):Sp:=zS0 K
def zAn (K:PySem.W.Frag):Sp:=λvs H Q _=>∃ (a b:Addr) (x1 y1 x2 y2:Int),vs = [.ref a,.ref b]/\H a = some (.tup [.int x1,.int y1])/\H b = some (.tup [.int x2,.int y2])/\x1.natAbs<=10 ^ 201/\y1.natAbs<=10 ^ 201/\x2.natAbs<=10 ^ 201/\y2.natAbs<=10 ^ 201/\Q (.int (x1 * y2 - y1 * x2)) H
theorem big401 {n:Nat} (h:n<=10 ^ 201):n<=10 ^ 401:=Nat.le_trans h (by decide +kernel)
theorem cBB {i j:Int} (hi:i.natAbs<=10 ^ 201) (hj:j.natAbs<=10 ^ 201):zB3 i j:=⟨Nat.lt_of_le_of_lt hi (by decide +kernel),Nat.lt_of_le_of_lt hj (by decide +kernel)⟩
theorem zMx (F:Fun K "turn" "turn" zA9 f fd) (Z:Zs mg)  : wL P w K mg base CX0 1 f fd ["one", "other"] (wM K):=by
 refine F.ok zHt (λvs H Q E h=>?_) (λcdv A outer s H vs Q E hr h=>?_)
 ·obtain ⟨a,b,us,ws,x1,y1,x2,y2,rfl,_⟩:=h;rfl
 obtain ⟨a,b,us,ws,x1,y1,x2,y2,rfl,ha,hb,u0,u1,w0,w1,m1,m2,q⟩:=h;refine ⟨_,(zJ (zR (zN xZ (zN yM (zO zL (pv 0) zC (λ_ _=>rfl)) (zO zL (pv 1) zC (λ_ _=>rfl))) (zN yM (zO zL (pv 0) zC (λ_ _=>rfl)) (zO zL (pv 1) zC (λ_ _=>rfl)))))),?_⟩
 try dsimp only [L2.cxOf]
 exact ⟨_,rfl,a,_,_,.int x1,rfl,rfl,ha,u0,_,rfl,b,_,_,.int y2,rfl,rfl,hb,w1,_,_,rfl,rfl,zCd (by omega),
  _,rfl,a,_,_,.int y1,rfl,rfl,ha,u1,_,rfl,b,_,_,.int x2,rfl,rfl,hb,w0,_,_,rfl,rfl,zCd (by omega),_,_,rfl,rfl,q⟩
theorem zIz (F:Fun K "turn" "turn" zA9 f fd) (Z:Zs mg)  : wL P w K mg base CX0 1 f fd ["one", "other"] (zAn K):=by
 refine F.ok zHt (λvs H Q E h=>?_) (λcdv A outer s H vs Q E hr h=>?_)
 ·obtain ⟨a,b,x1,y1,x2,y2,rfl,_⟩:=h;rfl
 obtain ⟨a,b,x1,y1,x2,y2,rfl,ha,hb,m1,m2,m3,m4,q⟩:=h;have fa':Sq K H a [.int x1,.int y1]:=.inr (SqT.of ha);have fb:Sq K H b [.int x2,.int y2]:=.inr (SqT.of hb);refine ⟨_,(zJ (zR (zN xZ (zN xH (zO zL (pv 0) zC (λ_ _=>rfl)) (zO zL (pv 1) zC (λ_ _=>rfl))) (zN xH (zO zL (pv 0) zC (λ_ _=>rfl)) (zO zL (pv 1) zC (λ_ _=>rfl)))))),?_⟩
 try dsimp only [L2.cxOf]
 exact ⟨_,rfl,a,_,_,.int x1,rfl,rfl,fa',rfl,_,rfl,b,_,_,.int y2,rfl,rfl,fb,rfl,_,_,rfl,rfl,cBB m1 m4,
  _,rfl,a,_,_,.int y1,rfl,rfl,fa',rfl,_,rfl,b,_,_,.int x2,rfl,rfl,fb,rfl,_,_,rfl,rfl,cBB m2 m3,_,_,rfl,rfl,q⟩
def sO (K:PySem.W.Frag):Sp:=λvs H Q _=>∃ (a b:Addr) (us ws:List V) (x1 y1 x2 y2:Int),vs = [.ref a,.ref b]/\Sq K H a us/\Sq K H b ws/\atI us 0 = some (.int x1)/\atI us 1 = some (.int y1)/\atI ws 0 = some (.int x2)/\atI ws 1 = some (.int y2) /\
 x1.natAbs<=10 ^ 18/\y1.natAbs<=10 ^ 18/\Q (.int (x1 * x2 + y1 * y2)) H
theorem zK1 (F:Fun K "along" "along" zBd f fd) (Z:Zs mg)  : wL P w K mg base CX0 1 f fd ["one", "other"] (sO K):=by
 refine F.ok zKg (λvs H Q E h=>?_) (λcdv A outer s H vs Q E hr h=>?_)
 ·obtain ⟨a,b,us,ws,x1,y1,x2,y2,rfl,_⟩:=h;rfl
 obtain ⟨a,b,us,ws,x1,y1,x2,y2,rfl,ha,hb,u0,u1,w0,w1,m1,m2,q⟩:=h;refine ⟨_,(zJ (zR (zN xO (zN yM (zO zL (pv 0) zC (λ_ _=>rfl)) (zO zL (pv 1) zC (λ_ _=>rfl))) (zN yM (zO zL (pv 0) zC (λ_ _=>rfl)) (zO zL (pv 1) zC (λ_ _=>rfl)))))),?_⟩
 try dsimp only [L2.cxOf]
 exact ⟨_,rfl,a,_,_,.int x1,rfl,rfl,ha,u0,_,rfl,b,_,_,.int x2,rfl,rfl,hb,w0,_,_,rfl,rfl,zCd (by omega),
  _,rfl,a,_,_,.int y1,rfl,rfl,ha,u1,_,rfl,b,_,_,.int y2,rfl,rfl,hb,w1,_,_,rfl,rfl,zCd (by omega),_,_,rfl,rfl,q⟩
def zB1 (K:PySem.W.Frag):Sp:=uT K
theorem zKu (F:Fun K "plain" "plain" zBn f fd) (Z:Zs mg) (yAz:Has P w K mg base "lowest" 2 ["numbers"] (uT K)):wL P w K mg base CX0 3 f fd ["direction"] (zB1 K):=by
 refine F.ok zKv (λvs H Q E h=>?_) (λcdv A outer s H vs Q E hr h=>?_)
 ·obtain ⟨a,ns,rfl,_⟩:=h;rfl
 obtain ⟨a,ns,rfl,h⟩:=h;exact ⟨_,(zJ (zR (zH yAz (hr.mono (by decide)) rfl (zA (pv 0) zD)))),⟨_,rfl,a,ns,rfl,h⟩⟩
def zQc (K:PySem.W.Frag) (R:Int->Int->Int->Int->Int->Int->Hp->VK->Prop):Sp:=λvs H Q _=>∃ (a b:Addr) (A B C x y z:Int),vs = [.ref a,.ref b]/\Sq K H a [.int A,.int B,.int C]/\Sq K H b [.int x,.int y,.int z]/\A.natAbs<=10 ^ 18/\B.natAbs<=10 ^ 18/\C.natAbs<=10 ^ 18/\R A B C x y z H Q
def zDv (K:PySem.W.Frag):Sp:=zQc K λA B C x y z H Q=>Q (.int (A * x + B * y - C * z)) H
theorem zIg (F:Fun K "beyond" "beyond" qP f fd) (Z:Zs mg)  : wL P w K mg base CX0 1 f fd ["side", "spot"] (zDv K):=by
 refine F.ok zIe (λvs H Q E h=>?_) (λcdv A outer s H vs Q E hr h=>?_)
 ·obtain ⟨a,b,A,B,C,x,y,z,rfl,_⟩:=h;rfl
 obtain ⟨a,b,A',B,C,x,y,z,rfl,ha,hb,m1,m2,m3,q⟩:=h;refine ⟨_,(zJ (zR (zN xZ (zN xO (zN yM (zO zL (pv 0) zC (λ_ _=>rfl)) (zO zL (pv 1) zC (λ_ _=>rfl))) (zN yM (zO zL (pv 0) zC (λ_ _=>rfl)) (zO zL (pv 1) zC (λ_ _=>rfl)))) (zN yM (zO zL (pv 0) zC (λ_ _=>rfl)) (zO zL (pv 1) zC (λ_ _=>rfl)))))),?_⟩
 try dsimp only [L2.cxOf]
 exact ⟨_,rfl,a,_,_,.int A',rfl,rfl,ha,rfl,_,rfl,b,_,_,.int x,rfl,rfl,hb,rfl,_,_,rfl,rfl,zCd (by omega),_,rfl,a,_,_,.int B,rfl,rfl,ha,rfl,_,rfl,b,_,_,.int y,rfl,rfl,hb,rfl,_,_,rfl,rfl,zCd (by omega),_,_,rfl,rfl,_,rfl,a,_,_,.int C,rfl,rfl,ha,rfl,_,rfl,b,_,_,.int z,rfl,rfl,hb,rfl,_,_,rfl,rfl,zCd (by omega),_,_,rfl,rfl,q⟩
def sX (K:PySem.W.Frag):Sp:=zQc K λA B C x y z H Q=>Q (.bl (decide (A * x + B * y - C * z<=0))) H
theorem zKe (F:Fun K "holds" "holds" zAs f fd) (Z:Zs mg) (yAy:Has P w K mg base "beyond" 1 ["side", "spot"] (zDv K)):wL P w K mg base CX0 2 f fd ["side", "spot"] (sX K):=by
 refine F.ok zK8 (λvs H Q E h=>?_) (λcdv A outer s H vs Q E hr h=>?_)
 ·obtain ⟨a,b,A,B,C,x,y,z,rfl,_⟩:=h;rfl
 obtain ⟨a,b,A',B,C,x,y,z,rfl,ha,hb,m1,m2,m3,q⟩:=h;refine ⟨_,(zJ (zR (tW zQs (zH yAy (hr.mono (by decide)) rfl (zA (pv 0) (zA (pv 1) zD))) zC (zX _)))),?_⟩
 try dsimp only [L2.cxOf]
 exact ⟨_,rfl,_,rfl,a,b,A',B,C,x,y,z,rfl,ha,hb,m1,m2,m3,_,_,rfl,rfl,q⟩
def uI (K:PySem.W.Frag):Sp:=λvs H Q _=>∃ (a b:Addr) (A1 B1 C1 A2 B2 C2:Int),vs = [.ref a,.ref b]/\Sq K H a [.int A1,.int B1,.int C1]/\Sq K H b [.int A2,.int B2,.int C2] /\
 A1.natAbs<=10 ^ 18/\B1.natAbs<=10 ^ 18/\C1.natAbs<=10 ^ 18/\A2.natAbs<=10 ^ 18/\B2.natAbs<=10 ^ 18 /\
 (A1 * B2 - B1 * A2 = 0->Q .non H)/\(A1 * B2 - B1 * A2≠0->∀ (p:Addr) (H':Hp),yG H H'->H p = none->H' p = some (.tup ((tJ (upL (C1 * B2 - B1 * C2) (A1 * C2 - C1 * A2) (A1 * B2 - B1 * A2))).map V.int))->Q (.ref p) H')
theorem zFi (F:Fun K "crossing" "crossing" tR f fd) (Z:Zs mg) (yAu:Has P w K mg base "upright" 3 ["numbers"] (tL K)) (yBp:Has P w K mg base "turn" 1 ["one", "other"] (wM K)):wL P w K mg base CX0 4 f fd ["one", "other"] (uI K):=by
 refine F.ok vT (λvs H Q E h=>?_) (λcdv A outer s H vs Q E hr h=>?_)
 ·obtain ⟨a,b,A1,B1,C1,A2,B2,C2,rfl,_⟩:=h;rfl
 obtain ⟨a,b,A1,B1,C1,A2,B2,C2,rfl,ha,hb,m1,m2,m3,m4,m5,q0,q⟩:=h;refine ⟨_,(zF (zT (i:=2) vT.nd rfl (Or.inl rfl) (zH yBp (hr.mono (by decide)) rfl (zA (pv 0) (zA (pv 1) zD))))
   (zF (xC (zU tX (pv 2) zC (zX _)) (zJ (zR xJ)) zY)
   (zF (zT (i:=3) vT.nd rfl (Or.inl rfl) (zN xZ (zN yM (zO zL (pv 0) zC (λ_ _=>rfl)) (zO zL (pv 1) zC (λ_ _=>rfl))) (zN yM (zO zL (pv 0) zC (λ_ _=>rfl)) (zO zL (pv 1) zC (λ_ _=>rfl)))))
   (zF (zT (i:=4) vT.nd rfl (Or.inl rfl) (zN xZ (zN yM (zO zL (pv 0) zC (λ_ _=>rfl)) (zO zL (pv 1) zC (λ_ _=>rfl))) (zN yM (zO zL (pv 0) zC (λ_ _=>rfl)) (zO zL (pv 1) zC (λ_ _=>rfl)))))
   (zJ (zR (zH yAu (hr.mono (by decide)) rfl (zA (xE (zA (pv 3) (zA (pv 4) (zA (pv 2) zD)))) zD)))))))),?_⟩
 try dsimp only [L2.cxOf]
 refine ⟨_,rfl,_,rfl,a,b,_,_,A1,B1,A2,B2,rfl,ha,hb,rfl,rfl,rfl,rfl,m1,m2,?_⟩;refine ⟨_,rfl,rfl,_,rfl,?_⟩;refine ifE (λhw=>q0 hw) (λhw=>?_);have z1:=zG A1 B2 m1 m5;have z2:=zG B1 A2 m2 m4;have z0:(10:Nat) ^ 18 * 10 ^ 18 = 10 ^ 36:=by decide
 have z3:(10:Nat) ^ 36 + 10 ^ 36<=10 ^ 40:=by decide
 refine ⟨_,rfl,a,_,_,.int C1,rfl,rfl,ha,rfl,_,rfl,b,_,_,.int B2,rfl,rfl,hb,rfl,_,_,rfl,rfl,zCd (by omega),_,rfl,a,_,_,.int B1,rfl,rfl,ha,rfl,_,rfl,b,_,_,.int C2,rfl,rfl,hb,rfl,_,_,rfl,rfl,zCd (by omega),_,_,rfl,rfl,?_⟩;refine ⟨_,rfl,a,_,_,.int A1,rfl,rfl,ha,rfl,_,rfl,b,_,_,.int C2,rfl,rfl,hb,rfl,_,_,rfl,rfl,zCd (by omega),_,rfl,a,_,_,.int C1,rfl,rfl,ha,rfl,_,rfl,b,_,_,.int A2,rfl,rfl,hb,rfl,_,_,rfl,rfl,zCd (by omega),_,_,rfl,rfl,?_⟩;refine ⟨_,rfl,_,rfl,_,rfl,(by show 3<=sizeLine; decide),λp hp=>⟨p,[C1 * B2 - B1 * C2,A1 * C2 - C1 * A2,A1 * B2 - B1 * A2],A1 * B2 - B1 * A2,rfl,.inr (SqT.of zB),by show 3<=1000; decide,rfl,by simp,hw,zTy (by omega),λr H2 s2 hr2 e2=>?_⟩⟩;exact q hw r H2 ((zE hp _).trans s2) ((zE hp _).free hr2) e2
def zB7 (ss:List Sd) (p:P3):Bool:=ss.all λt=>decide (sv t.2 p<=0)
theorem vQ {ss:List Sd} {p:P3} : zB7 ss p = true↔inW ss p:=by
 unfold zB7 inW;rw [List.all_eq_true];exact ⟨λh t ht=>of_decide_eq_true (h t ht),λh t ht=>decide_eq_true (h t ht)⟩
def uE (K:PySem.W.Frag):Sp:=λvs H Q _=>∃ (l p:Addr) (ss:List Sd) (P:P3),vs = [.ref l,.ref p]/\SqL K H l (zK ss)/\rR H ss/\Sq K H p [.int P.1,.int P.2.1,.int P.2.2]/\Q (.bl (zB7 ss P)) H
theorem zFn (F:Fun K "in_water" "in_water" tV f fd) (Z:Zs mg) (yBl:Has P w K mg base "holds" 2 ["side", "spot"] (sX K)):wL P w K mg base CX0 3 f fd ["sides", "place"] (uE K):=by
 refine F.ok zBp (λvs H Q E h=>?_) (λcdv A outer s H vs Q E hr h=>?_)
 ·obtain ⟨l,p,ss,P,rfl,_⟩:=h;rfl
 obtain ⟨l,p,ss,P,rfl,hl,ok,hp,q⟩:=h;refine ⟨_,(zF (wD PassesOwn.never rfl (xU (pv 0)) (zQ (i:=2) zBp.nd rfl (Or.inl rfl)) (zJ (xC (zAy (tN (zH yBl (hr.mono (by decide)) rfl (zA (pv 2) (zA (pv 1) zD))))) (zJ (zR zDt)) zY)))
   (zJ (zR zDt))),?_⟩
 try dsimp only [L2.cxOf]
 refine ⟨_,rfl,l,rfl,.inl ⟨⟨_,hl⟩,xL (K:=K) (a:=l) (xs:=zK ss) (λi σ H'=>H = H'/\(∀ j t,j < i->ss[j]? = some t->sv t.2 P<=0)/\∃ u2:Option V,σ = [some (.ref l),some (.ref p),u2])
  ⟨rfl,λj t hj=>absurd hj (Nat.not_lt_zero _),none,rfl⟩ (λi σ H' _ ⟨e,_⟩=>by rw [<- e]; exact hl) ?_ ?_⟩⟩
 ·rintro i v σ H' hi ⟨rfl,hall,u2,rfl⟩;obtain ⟨t,gt,rfl,hil⟩:=xP hi;obtain ⟨et,_,b1,b2,b3⟩:=ok t (List.mem_of_getElem? gt);refine ⟨_,rfl,_,rfl,t.1,p,t.2.1,t.2.2.1,t.2.2.2,P.1,P.2.1,P.2.2,rfl,.inr (SqT.of et),hp,by omega,by omega,by omega,_,rfl,?_⟩;refine ifN (λhpos=>?_) (λhneg=>?_)
  ·have e:zB7 ss P = false:=by
    unfold zB7;rw [Bool.eq_false_iff];intro z;exact hpos (of_decide_eq_true (List.all_eq_true.mp z t (List.mem_of_getElem? gt)))
   rw [e] at q;exact q
  ·refine ⟨rfl,λj t' hj ht'=>?_,_,rfl⟩;by_cases e:j = i
   ·rw [e,gt] at ht';cases ht';exact hneg
   ·exact hall j t' (by omega) ht'
 ·rintro σ H' ⟨rfl,hall,u2,rfl⟩;have e:zB7 ss P = true:=vQ.mpr λt ht=>by
   obtain ⟨j,hj,ej⟩:=List.getElem_of_mem ht;exact hall j t (by rw [zI]; exact hj) (by rw [List.getElem?_eq_getElem hj,ej])
  rw [e] at q;exact q
def zA7 (K:PySem.W.Frag):Sp:=λvs H Q _=>∃ (a:Addr) (t:P3),vs = [.ref a]/\Sq K H a [.int t.1,.int t.2.1,.int t.2.2]/\(t.1≠0\/t.2.1≠0)/\t.1.natAbs<=10 ^ 9/\t.2.1.natAbs<=10 ^ 9 /\
 ∀ (p:Addr) (H':Hp),yG H H'->H p = none->H' p = some (.tup ((ftL t).map V.int))->Q (.ref p) H'
theorem zLk (F:Fun K "foot" "foot" zCz f fd) (Z:Zs mg) (yBw:Has P w K mg base "spot" 4 ["x", "y", "w"] (zBl K)) (yBg:Has P w K mg base "along" 1 ["one", "other"] (sO K)):wL P w K mg base CX0 5 f fd ["side"] (zA7 K):=by
 refine F.ok zMt (λvs H Q E h=>?_) (λcdv A outer s H vs Q E hr h=>?_)
 ·obtain ⟨a,t,rfl,_⟩:=h;rfl
 obtain ⟨a,t,rfl,ha,hn,b1,b2,q⟩:=h;refine ⟨_,(zJ (zR (zH yBw (hr.mono (by decide)) rfl (zA (zN yM (zO zL (pv 0) zC (λ_ _=>rfl)) (zO zL (pv 0) zC (λ_ _=>rfl))) (zA (zN yM (zO zL (pv 0) zC (λ_ _=>rfl)) (zO zL (pv 0) zC (λ_ _=>rfl))) (zA (zH yBg (hr.mono (by decide)) rfl (zA (pv 0) (zA (pv 0) zD))) zD)))))),?_⟩
 try dsimp only [L2.cxOf]
 have pos:=wF hn;have z1:=zG t.1 t.1 b1 b1;have z2:=zG t.2.1 t.2.1 b2 b2;refine ⟨_,rfl,a,_,_,.int t.1,rfl,rfl,ha,rfl,_,rfl,a,_,_,.int t.2.2,rfl,rfl,ha,rfl,_,_,rfl,rfl,zCd (by omega),
  _,rfl,a,_,_,.int t.2.1,rfl,rfl,ha,rfl,_,rfl,a,_,_,.int t.2.2,rfl,rfl,ha,rfl,_,_,rfl,rfl,zCd (by omega),
  _,rfl,_,rfl,a,a,_,_,t.1,t.2.1,t.1,t.2.1,rfl,ha,ha,rfl,rfl,rfl,rfl,by omega,by omega,
  t.1 * t.2.2,t.2.1 * t.2.2,t.1 * t.1 + t.2.1 * t.2.1,rfl,by omega,Nat.lt_of_le_of_lt (show (t.1 * t.1 + t.2.1 * t.2.1).natAbs<=10 ^ 40 by omega) (by decide +kernel),λp H' s' hp ep=>q p H' s' hp ep⟩
def zFx:Option Nat->V
 | none=>.non
 | some j=>.int j
theorem vS {ss:List Sd} {i:Nat} {t u:Sd} (gt:ss[i]? = some t) (hu:u∈ss.take (i + 1)):u∈ss.take i\/u = t:=by
 rw [yW gt] at hu;rcases List.mem_append.mp hu with h | h
 ·exact .inl h
 ·exact .inr (List.mem_singleton.mp h)
theorem zJ2 {ss:List Sd} {i j:Nat} {t:Sd} (h:(ss.take i)[j]? = some t):(ss.take (i + 1))[j]? = some t:=by
 rw [List.getElem?_take] at h ⊢;split at h
 ·rw [if_pos (by omega)];exact h
 ·cases h
def zHl (ss:List Sd) (e:P3) (h:Int) (H:Hp) (x y:V):Prop:=(x = .non/\y = .non/\zCg ss e h none)\/∃ (j:Nat) (t:Sd) (p:Addr),x = .int j/\y = .ref p/\H p = some (.tup ((crL e t.2).map V.int))/\ss[j]? = some t/\0 < tn e t.2 * h/\∀ u∈ss,0 < tn e u.2 * h->sv u.2 (pt3 (crL e t.2))<=0
theorem zHl.skip {ss:List Sd} {e:P3} {h:Int} {H:Hp} {x y:V} {i:Nat} {t:Sd} (S:zHl (ss.take i) e h H x y) (gt:ss[i]? = some t) (hn:¬ 0 < tn e t.2 * h):zHl (ss.take (i + 1)) e h H x y:=by
 rcases S with ⟨e1,e2,S⟩ | ⟨j,u,p,e1,e2,ep,gu,hu,ha⟩
 ·refine .inl ⟨e1,e2,λv hv=>?_⟩;rcases vS gt hv with hv | rfl
  ·exact S v hv
  ·omega
 ·refine .inr ⟨j,u,p,e1,e2,ep,zJ2 gu,hu,λv hv hp=>?_⟩;rcases vS gt hv with hv | rfl
  ·exact ha v hv hp
  ·exact absurd hp hn
theorem zHl.keep {ss:List Sd} {e:P3} {h:Int} {H H':Hp} {x y:V} (S:zHl ss e h H x y) (s:yG H H'):zHl ss e h H' x y:=by
 rcases S with S | ⟨j,u,p,e1,e2,ep,r⟩
 ·exact .inl S
 ·exact .inr ⟨j,u,p,e1,e2,s _ _ ep,r⟩
def vR (K:PySem.W.Frag):Sp:=λvs H Q _=>∃ (l a:Addr) (ss:List Sd) (e:P3) (h:Int),vs = [.ref l,.ref a,.int h]/\SqL K H l (zK ss)/\rR H ss/\ss.length<=1000/\Sq K H a [.int e.1,.int e.2.1,.int e.2.2]/\(e.1≠0\/e.2.1≠0)/\e.1.natAbs<=10 ^ 9/\e.2.1.natAbs<=10 ^ 9/\e.2.2.natAbs<=10 ^ 13/\(h = 1\/h = -1) /\
 ∀ (r:Option Nat) (H':Hp),yG H H'->zCg ss e h r->Q (zFx r) H'
theorem zFs (F:Fun K "edge_end" "edge_end" tU f fd) (Z:Zs mg) (yBp:Has P w K mg base "turn" 1 ["one", "other"] (wM K)) (yBl:Has P w K mg base "holds" 2 ["side", "spot"] (sX K)) (yAq:Has P w K mg base "crossing" 4 ["one", "other"] (uI K)):wL P w K mg base CX0 5 f fd ["sides", "edge", "hand"] (vR K):=by
 refine F.ok xK (λvs H Q E h=>?_) (λcdv A outer s H vs Q E hr h=>?_)
 ·obtain ⟨l,a,ss,e,h,rfl,_⟩:=h;rfl
 obtain ⟨l,a,ss,e,hd,rfl,hl,ok,hlen,ha,hn,b1,b2,b3,h1,q⟩:=h;have hh:hd * hd = 1:=by rcases h1 with rfl | rfl <;> rfl
 have hN:=wF hn;refine ⟨_,(zF (zT (i:=3) xK.nd rfl (Or.inl rfl) xJ)
   (zF (zT (i:=4) xK.nd rfl (Or.inl rfl) xJ)
   (zF (wD PassesOwn.never rfl (uG rfl Z.range (zA (zW zV rfl Z.len wQ (zA (pv 0) zD)) zD)) (zQ (i:=5) xK.nd rfl (Or.inl rfl)) (zF (zT (i:=6) xK.nd rfl (Or.inl rfl) (zO zL (pv 0) (pv 5) (λ_ _=>rfl)))
   (zJ (xC (PW.pt (tT (zU zC6 (zN yM (zH yBp (hr.mono (by decide)) rfl (zA (pv 1) (zA (pv 6) zD))) (pv 2)) zC (zX _)) (uH (PW.pt (zT6 (zU zB4 (pv 4) xJ (zX _)) (zP1 (zAy (tN (zH yBl (hr.mono (by decide)) rfl (zA (pv 6) (zA (pv 4) zD))))))))))) (zF (zT (i:=3) xK.nd rfl (Or.inl rfl) (pv 5))
   (zJ (zT (i:=4) xK.nd rfl (Or.inl rfl) (zH yAq (hr.mono (by decide)) rfl (zA (pv 1) (zA (pv 6) zD)))))) zY))))
   (zJ (zR (pv 3)))))),?_⟩
 try dsimp only [L2.cxOf]
 refine ⟨_,rfl,l,_,rfl,.inl hl,_,rfl,(by rw [zI]; omega),(by rw [zI]; omega),tH (lo:=0) (n:=(((zK ss).length:Nat):Int).toNat) (λi σ H'=>yG H H'/\∃ (x y:V) (u5 u6:Option V),zHl (ss.take i) e hd H' x y/\σ = [some (.ref l),some (.ref a),some (.int hd),some x,some y,u5,u6])
  ⟨yG.refl _,.non,.non,none,none,.inl ⟨rfl,rfl,λt ht=>nomatch ht⟩,rfl⟩ ?_ ?_⟩
 ·rintro i σ H' hi ⟨sH,x,y,u5,u6,S,rfl⟩;have hil:i < ss.length:=by rw [Int.toNat_natCast,zI] at hi; exact hi
  obtain ⟨t,mt,gt,at'⟩:=yY (ss:=ss) (i:=i) (k:=0 + (i:Int)) (by omega) hil;obtain ⟨et0,nt,c1,c2,c3⟩:=ok t mt;have et:Sq K H' t.1 [.int t.2.1,.int t.2.2.1,.int t.2.2.2]:=.inr (SqT.of (sH _ _ et0));have hae:=ha.same sH;have z1:=zG e.1 t.2.2.1 b1 c2;have z2:=zG e.2.1 t.2.1 b2 c1;refine ⟨_,rfl,_,rfl,l,_,_,_,rfl,rfl,.inl (sH.seq hl),at',?_⟩;refine ⟨_,rfl,_,rfl,a,t.1,_,_,e.1,e.2.1,t.2.1,t.2.2.1,rfl,hae,et,rfl,rfl,rfl,rfl,by omega,by omega,_,rfl,_,_,rfl,rfl,.inl ⟨by omega,by omega⟩,_,_,rfl,rfl,_,rfl,?_⟩;refine ifD (λhpos=>?_) (λhneg=>?_)
  ·have hpos':0 < tn e t.2 * hd:=hpos;have put:∀ (H2:Hp) (p:Addr),yG H' H2->H2 p = some (.tup ((crL e t.2).map V.int))->(∀ u∈ss.take i,0 < tn e u.2 * hd->sv u.2 (pt3 (crL e t.2))<=0)->zHl (ss.take (i + 1)) e hd H2 (.int (0 + (i:Int))) (.ref p):=λH2 p s2 ep hb=>by
    refine .inr ⟨i,t,p,by rw [Int.zero_add],rfl,ep,?_,hpos',λu hu hp=>?_⟩
    ·rw [List.getElem?_take,if_pos (by omega)];exact gt
    ·rcases vS gt hu with hu | rfl
     ·exact hb u hu hp
     ·exact Int.le_of_eq (wJ (yH hpos')).2.2
   rcases S with ⟨rfl,rfl,S⟩ | ⟨j,u,p,rfl,rfl,ep,gu,hu,hb⟩
   ·refine ⟨_,rfl,rfl,_,rfl,?_⟩;refine zCb ?_;refine ⟨_,rfl,_,rfl,_,rfl,a,t.1,e.1,e.2.1,e.2.2,t.2.1,t.2.2.1,t.2.2.2,rfl,hae,et,by omega,by omega,by omega,by omega,by omega,λz=>absurd z (yH hpos'),λ_ p2 H2 s2 hp2 ep2=>?_⟩;exact ⟨sH.trans s2,_,_,_,_,put H2 p2 s2 ep2 λv hv hp=>by have:=S v hv; omega,rfl⟩
   ·obtain ⟨sp0,q1,q2⟩:=wJ (yH hu);refine ⟨_,rfl,rfl,_,rfl,?_⟩;refine vD ?_;have ep3:Sq K H' p [.int (pt3 (crL e u.2)).1,.int (pt3 (crL e u.2)).2.1,.int (pt3 (crL e u.2)).2.2]:=.inr (SqT.of (by rw [ep]; rw [sp0.list]; rfl));refine ⟨_,rfl,_,rfl,t.1,p,t.2.1,t.2.2.1,t.2.2.2,_,_,_,rfl,et,ep3,by omega,by omega,by omega,_,rfl,?_⟩;refine ifN (λhout=>?_) (λhin=>?_)
    ·have hout':0 < sv t.2 (pt3 (crL e u.2)):=by
      have:¬ sv t.2 (pt3 (crL e u.2))<=0:=hout;omega
     refine ⟨_,rfl,_,rfl,_,rfl,a,t.1,e.1,e.2.1,e.2.2,t.2.1,t.2.2.1,t.2.2.2,rfl,hae,et,by omega,by omega,by omega,by omega,by omega,λz=>absurd z (yH hpos'),λ_ p2 H2 s2 hp2 ep2=>?_⟩;obtain ⟨sp1,r1,r2⟩:=wJ (yH hpos');have d1:=zQw hh hN r1 q1 sp1.pos r2 hout' hpos';refine ⟨sH.trans s2,_,_,_,_,put H2 p2 s2 ep2 λv hv hp=>?_,rfl⟩;refine zF4 hh hN r1 q1 sp1.pos sp0.pos v.2 ?_ (hb v hv hp);have:=Int.mul_nonneg (show 0<=-(dl e (pt3 (crL e t.2)) (pt3 (crL e u.2)) * hd) by omega) (Int.le_of_lt hp);rw [Int.neg_mul] at this;omega
    ·refine ⟨sH,_,_,_,_,.inr ⟨j,u,p,rfl,rfl,ep,zJ2 gu,hu,λv hv hp=>?_⟩,rfl⟩;rcases vS gt hv with hv | rfl
     ·exact hb v hv hp
     ·exact hin
  ·refine vD ?_;exact ⟨sH,x,y,_,_,S.skip gt hneg,rfl⟩
 ·rintro σ H' ⟨sH,x,y,u5,u6,S,rfl⟩;rw [Int.toNat_natCast,zI,List.take_length] at S;rcases S with ⟨rfl,rfl,S⟩ | ⟨j,u,p,rfl,rfl,ep,gu,hu,hb⟩
  ·exact ⟨_,rfl,q none H' sH S⟩
  ·exact ⟨_,rfl,q (some j) H' sH ⟨u,gu,hu,hb⟩⟩
structure zTq (ss:List Sd) (e:P3) (qs:List (Addr × P3)):Prop where
 each:∀ q∈qs,∃ (h:Int) (j:Nat) (t:Sd),h * h = 1/\ss[j]? = some t/\0 < tn e t.2 * h/\(∀ u∈ss,0 < tn e u.2 * h->sv u.2 (pt3 (crL e t.2))<=0)/\q.2 = pt3 (crL e t.2)
 none:qs = []->zCg ss e 1 none/\zCg ss e (-1) none
 full:zEp ss e 1 (qs.map (·.2))/\zEp ss e (-1) (qs.map (·.2))
def sE (K:PySem.W.Frag):Sp:=λvs H Q _=>∃ (l a:Addr) (ss:List Sd) (e:P3),vs = [.ref l,.ref a]/\SqL K H l (zK ss)/\rR H ss/\ss.length<=1000/\Sq K H a [.int e.1,.int e.2.1,.int e.2.2]/\(e.1≠0\/e.2.1≠0)/\e.1.natAbs<=10 ^ 9/\e.2.1.natAbs<=10 ^ 9/\e.2.2.natAbs<=10 ^ 13 /\
 ∀ (D:Addr) (qs:List (Addr × P3)) (H':Hp),yG H H'->H D = none->H' D = some (.lst (wN qs))->zD8 H' qs->qs.length<=2->zTq ss e qs->Q (.ref D) H'
theorem zEo (F:Fun K "edge_ends" "edge_ends" vM f fd) (Z:Zs mg) (yAq:Has P w K mg base "crossing" 4 ["one", "other"] (uI K)) (yAp:Has P w K mg base "edge_end" 5 ["sides", "edge", "hand"] (vR K)):wL P w K mg base CX0 6 f fd ["sides", "edge"] (sE K):=by
 refine F.ok zAc (λvs H Q E h=>?_) (λcdv A outer s H vs Q E hr h=>?_)
 ·obtain ⟨l,a,ss,e,rfl,_⟩:=h;rfl
 obtain ⟨l,a,ss,e,rfl,hl,ok,hlen,ha,hn,b1,b2,b3,q⟩:=h;refine ⟨_,(zF (zT (i:=2) zAc.nd rfl (Or.inl rfl) (wE (zA (zH yAp (hr.mono (by decide)) rfl (zA (pv 0) (zA (pv 1) (zA (zKq zE8 zC) zD)))) (zA (zH yAp (hr.mono (by decide)) rfl (zA (pv 0) (zA (pv 1) (zA zC zD)))) zD))))
   (zJ (zR (vI (T:=["number"]) (caps:=[("edge", 1),("sides", 0)]) ⟨rfl,by decide +kernel,by decide +kernel,rfl,⟨⟨rfl,rfl,Or.inl rfl⟩,⟨rfl,rfl,Or.inl rfl⟩,True.intro⟩⟩ rfl (xU (pv 2)) (λ_=>(zQ (i:=0) (show (["number", "edge", "sides"]:List Str).Nodup by decide +kernel) rfl (Or.inl rfl))) (λ_=>(zFo (zU zAj (pv 0) xJ (zX _)))) (λ_=>(zH yAq (hr.mono (by decide)) rfl (zA (pv 1) (zA (zO zL (pv 2) (pv 0) (λ_ _=>rfl)) zD)))))))),?_⟩
 try dsimp only [L2.cxOf]
 refine ⟨_,rfl,_,rfl,_,rfl,l,a,ss,e,-1,rfl,hl,ok,hlen,ha,hn,b1,b2,b3,.inr rfl,λr1 H1 s1 k1=>?_⟩;refine ⟨_,rfl,_,rfl,l,a,ss,e,1,rfl,s1.seq hl,ok.same s1,hlen,ha.same s1,hn,b1,b2,b3,.inl rfl,λr2 H2 s2 k2=>?_⟩;refine ⟨(by show 2<=sizeLine; decide),λnl hnl=>?_⟩;have snl:yG H2 (upd H2 nl (.lst [zFx r1,zFx r2])):=zE hnl _;have enl:upd H2 nl (.lst [zFx r1,zFx r2]) nl = some (.lst [zFx r1,zFx r2]):=zB;generalize upd H2 nl (.lst [zFx r1,zFx r2]) = H3 at snl enl ⊢;have s3:=(s1.trans s2).trans snl;have one:∀ (i:Nat) (v:V),[zFx r1,zFx r2][i]? = some v->(v = .non/\((i = 0/\zCg ss e (-1) none)\/(i = 1/\zCg ss e 1 none)))\/∃ (j:Nat) (t:Sd) (h:Int),v = .int j/\((i = 0/\h = -1)\/(i = 1/\h = 1))/\h * h = 1/\ss[j]? = some t/\0 < tn e t.2 * h/\∀ u∈ss,0 < tn e u.2 * h->sv u.2 (pt3 (crL e t.2))<=0:=λi v hv=>by
  match i,hv with
  | 0,hv =>
   cases hv;cases r1 with
   | none=>exact .inl ⟨rfl,.inl ⟨rfl,k1⟩⟩
   | some j=>obtain ⟨t,g,p,r⟩:=k1; exact .inr ⟨j,t,-1,rfl,.inl ⟨rfl,rfl⟩,rfl,g,p,r⟩
  | 1,hv =>
   cases hv;cases r2 with
   | none=>exact .inl ⟨rfl,.inr ⟨rfl,k2⟩⟩
   | some j=>obtain ⟨t,g,p,r⟩:=k2; exact .inr ⟨j,t,1,rfl,.inr ⟨rfl,rfl⟩,rfl,g,p,r⟩
 refine ⟨_,rfl,nl,rfl,.inl ⟨⟨_,SqL.of enl⟩,λc D hD=>zDy (K:=K) (a:=nl) (xs:=[zFx r1,zFx r2]) (λi σ ys H'=>yG H3 H'/\H' D = some (.lst ys)/\(∃ qs:List (Addr × P3),ys = wN qs/\qs.length<=i/\zD8 H' qs/\(∀ q∈qs,∃ (h:Int) (j:Nat) (t:Sd),h * h = 1/\ss[j]? = some t/\0 < tn e t.2 * h/\(∀ u∈ss,0 < tn e u.2 * h->sv u.2 (pt3 (crL e t.2))<=0)/\q.2 = pt3 (crL e t.2)) /\
   ((0 < i->zEp ss e (-1) (qs.map (·.2)))/\(1 < i->zEp ss e 1 (qs.map (·.2)))))/\∃ u0:Option V,σ = [u0,some (.ref a),some (.ref l)])
  ⟨zE hD _,zB,⟨[],rfl,Nat.le_refl _,(λt ht=>nomatch ht),(λt ht=>nomatch ht),⟨λz=>absurd z (Nat.not_lt_zero _),λz=>absurd z (Nat.not_lt_zero _)⟩⟩,none,rfl⟩ (λi σ ys H' _ ⟨e1,e2,_⟩=>⟨SqL.of (e1 _ _ enl),e2⟩) ?_ ?_⟩⟩
 ·rintro i v σ ys H' hi ⟨sH,eD,⟨qs,rfl,hq,okq,each,non⟩,u0,rfl⟩;have hi2:i < 2:=(List.getElem?_eq_some_iff.mp hi).1;rcases one i v hi with ⟨rfl,hcase⟩ | ⟨j,t,h,rfl,hih,hh,gt,hp,hb⟩
  ·refine ⟨_,rfl,rfl,_,rfl,?_⟩;refine vD ?_;refine ⟨sH,eD,⟨qs,rfl,by omega,okq,each,?_⟩,_,rfl⟩;rcases hcase with ⟨rfl,k⟩ | ⟨rfl,k⟩
   ·exact ⟨λ_=>.inl k,λz'=>absurd z' (by decide)⟩
   ·exact ⟨λ_=>non.1 (by decide),λ_=>.inl k⟩
  ·refine ⟨_,rfl,rfl,_,rfl,?_⟩;refine zCb ?_;have hj:j < ss.length:=(List.getElem?_eq_some_iff.mp gt).1;obtain ⟨t',mt,gt',at'⟩:=yY (ss:=ss) (i:=j) (k:=(j:Int)) rfl hj;rw [gt] at gt';cases gt';obtain ⟨et0,_,c1,c2,c3⟩:=ok t mt;have s3H:=s3.trans sH;refine ⟨_,rfl,_,rfl,_,rfl,l,_,_,_,rfl,rfl,.inl (s3H.seq hl),at',a,t.1,e.1,e.2.1,e.2.2,t.2.1,t.2.2.1,t.2.2.2,rfl,ha.same s3H,.inr (SqT.of (s3H _ _ et0)),by omega,by omega,by omega,by omega,by omega,λz=>absurd z (yH hp),λ_ p H5 s5 hp5 ep5=>?_⟩;obtain ⟨sp,_,_⟩:=wJ (yH hp);have ep5':H5 p = some (.tup [.int (pt3 (crL e t.2)).1,.int (pt3 (crL e t.2)).2.1,.int (pt3 (crL e t.2)).2.2]):=by
    have z:H5 p = some (.tup ((crL e t.2).map V.int)):=ep5;rw [z,sp.list];rfl
   have npD:p≠D:=λz=>by rw [z,eD] at hp5; cases hp5
   refine ⟨s5 _ _ eD,yB (by simp only [List.length_map]; omega),(sH.trans s5).putNew hD,zB,⟨qs ++ [(p,pt3 (crL e t.2))],by simp [wN],by rw [List.length_append]; show qs.length + 1<=i + 1; omega,λu hu=>?_,λu hu=>?_,?_⟩,_,rfl⟩
   ·rcases List.mem_append.mp hu with hu | hu
    ·obtain ⟨g1,g2⟩:=okq u hu;exact ⟨by rw [zP (sZ (s5 _ _ g1) (s5 _ _ eD) (by intro z; cases z))]; exact s5 _ _ g1,g2⟩
    ·rw [List.mem_singleton] at hu;subst hu;refine ⟨?_,sp.pos,sp.low⟩;show upd H5 D _ p = _;rw [zP npD];exact ep5'
   ·rcases List.mem_append.mp hu with hu | hu
    ·exact each u hu
    ·rw [List.mem_singleton] at hu;subst hu;exact ⟨h,j,t,hh,gt,hp,hb,rfl⟩
   ·have me:zEp ss e h ((qs ++ [(p,pt3 (crL e t.2))]).map (·.2)):=.inr ⟨j,t,gt,hp,hb,by rw [List.map_append]; exact List.mem_append_right _ (List.mem_singleton.mpr rfl)⟩;rcases hih with ⟨rfl,rfl⟩ | ⟨rfl,rfl⟩
    ·exact ⟨λ_=>me,λz'=>absurd z' (by decide)⟩
    ·exact ⟨λ_=>by rw [List.map_append]; exact (non.1 (by decide)).app,λ_=>me⟩
 ·rintro σ ys H' ⟨sH,eD,⟨qs,rfl,hq,okq,each,non⟩,u0,rfl⟩;have f1:=non.2 (by show 1 < 2; decide);have f2:=non.1 (by show 0 < 2; decide);refine q D qs H' (s3.trans sH) (s3.free hD) eD okq hq ⟨each,λz=>?_,f1,f2⟩;rw [z] at f1 f2;refine ⟨?_,?_⟩
  ·rcases f1 with f | ⟨_,_,_,_,_,m⟩
   ·exact f
   ·exact nomatch m
  ·rcases f2 with f | ⟨_,_,_,_,_,m⟩
   ·exact f
   ·exact nomatch m
def zOi (H:Hp) (p:Addr) (P:P3):Prop:=H p = some (.tup [.int P.1,.int P.2.1,.int P.2.2])/\0 < P.2.2/\Nat.gcd (Nat.gcd P.1.natAbs P.2.1.natAbs) P.2.2.natAbs = 1
theorem zOi.same {H H':Hp} {p:Addr} {P:P3} (h:zOi H p P) (s:yG H H'):zOi H' p P:=⟨s _ _ h.1,h.2⟩
def uS (K:PySem.W.Frag):Sp:=λvs H Q _=>∃ (l a:Addr) (ss:List Sd) (e:P3),vs = [.ref l,.ref a]/\SqL K H l (zK ss)/\rR H ss/\ss.length<=900/\Sq K H a [.int e.1,.int e.2.1,.int e.2.2]/\(e.1≠0\/e.2.1≠0)/\e.1.natAbs<=10 ^ 9/\e.2.1.natAbs<=10 ^ 9/\e.2.2.natAbs<=10 ^ 13 /\
 (∀ H',yG H H'->(∀ z:P3,sv e z = 0->0 < z.2.2->¬ inW ss z)->Q .non H') /\
 ∀ (p:Addr) (P:P3) (H':Hp),yG H H'->zOi H' p P->inW ss P->sv e P = 0->(P = pt3 (ftL e)\/∃ t∈ss,tn e t.2≠0/\P = pt3 (crL e t.2))->Q (.ref p) H'
theorem zBu (F:Fun K "spot_on_edge" "spot_on_edge" wW f fd) (Z:Zs mg) (yAl:Has P w K mg base "edge_ends" 6 ["sides", "edge"] (sE K)) (yBu:Has P w K mg base "foot" 5 ["side"] (zA7 K)) (yAm:Has P w K mg base "in_water" 3 ["sides", "place"] (uE K)):wL P w K mg base CX0 7 f fd ["sides", "edge"] (uS K):=by
 refine F.ok sW (λvs H Q E h=>?_) (λcdv A outer s H vs Q E hr h=>?_)
 ·obtain ⟨l,a,ss,e,rfl,_⟩:=h;rfl
 obtain ⟨l,a,ss,e,rfl,hl,ok,hlen,ha,hn,b1,b2,b3,qn,q⟩:=h;have hN:=wF hn;refine ⟨_,(zF (wD PassesOwn.never rfl (xU (zN zDj (zH yAl (hr.mono (by decide)) rfl (zA (pv 0) (zA (pv 1) zD))) (wE (zA (zH yBu (hr.mono (by decide)) rfl (zA (pv 1) zD)) zD)))) (zQ (i:=2) sW.nd rfl (Or.inl rfl)) (zJ (xC (tN (zH yAm (hr.mono (by decide)) rfl (zA (pv 0) (zA (pv 2) zD)))) (zJ (zR (pv 2))) zY)))
   (zJ (zR xJ))),?_⟩
 try dsimp only [L2.cxOf]
 refine ⟨_,rfl,_,rfl,l,a,ss,e,rfl,hl,ok,by omega,ha,hn,b1,b2,b3,λD qs H1 s1 hD eD okq hq ends=>?_⟩;refine ⟨_,rfl,a,e,rfl,ha.same s1,hn,b1,b2,λfp H2 s2 hfp efp=>?_⟩;obtain ⟨sf,f1⟩:=zKf hn;have efp':H2 fp = some (.tup [.int (pt3 (ftL e)).1,.int (pt3 (ftL e)).2.1,.int (pt3 (ftL e)).2.2]):=by
  rw [efp,sf.list];rfl
 refine ⟨(by show 1<=sizeLine; decide),λfl hfl=>?_⟩;have sfl:yG H2 (upd H2 fl (.lst [.ref fp])):=zE hfl _;have efl:upd H2 fl (.lst [.ref fp]) fl = some (.lst [.ref fp]):=zB;generalize upd H2 fl (.lst [.ref fp]) = H3 at sfl efl ⊢;refine ⟨D,fl,_,_,rfl,rfl,sfl _ _ (s2 _ _ eD),efl,small (by simp only [List.length_map]; show qs.length + 1<=1000; omega),λL hL=>?_⟩;have sL:yG H3 (upd H3 L (.lst (wN qs ++ [.ref fp]))):=zE hL _;have eL:upd H3 L (.lst (wN qs ++ [.ref fp])) L = some (.lst (wN (qs ++ [(fp,pt3 (ftL e))]))):=by rw [zB]; simp [wN]
 generalize upd H3 L (.lst (wN qs ++ [.ref fp])) = H4 at sL eL ⊢;have s24:=sfl.trans sL;have s14:=s2.trans s24;have s04:=s1.trans s14;have okA:zD8 H4 (qs ++ [(fp,pt3 (ftL e))]):=λu hu=>by
  rcases List.mem_append.mp hu with hu | hu
  ·exact okq.same s14 u hu
  ·rw [List.mem_singleton] at hu;subst hu;exact ⟨s24 _ _ efp',sf.pos,sf.low⟩
 refine ⟨L,rfl,.inl ⟨⟨_,SqL.of eL⟩,xL (K:=K) (a:=L) (xs:=wN (qs ++ [(fp,pt3 (ftL e))])) (λi σ H'=>H4 = H'/\(∀ j u,j < i->(qs ++ [(fp,pt3 (ftL e))])[j]? = some u->¬ inW ss u.2)/\∃ u2:Option V,σ = [some (.ref l),some (.ref a),u2])
  ⟨rfl,λj t hj=>absurd hj (Nat.not_lt_zero _),none,rfl⟩ (λi σ H' _ ⟨e1,_⟩=>by rw [<- e1]; exact SqL.of eL) ?_ ?_⟩⟩
 ·rintro i v σ H' hi ⟨rfl,hall,u2,rfl⟩;rw [List.getElem?_map,List.getElem?_map] at hi;cases gu:(qs ++ [(fp,pt3 (ftL e))])[i]? with
  | none=>rw [gu] at hi; cases hi
  | some u =>
   rw [gu] at hi;cases hi;obtain ⟨eu,pu,lu⟩:=okA u (List.mem_of_getElem? gu);refine ⟨_,rfl,_,rfl,l,u.1,ss,u.2,rfl,s04.seq hl,ok.same s04,.inr (SqT.of eu),_,rfl,?_⟩;by_cases hw:zB7 ss u.2 = true
   ·rw [hw];refine zCb ?_;have on:sv e u.2 = 0/\(u.2 = pt3 (ftL e)\/∃ t∈ss,tn e t.2≠0/\u.2 = pt3 (crL e t.2)):=by
     rcases List.mem_append.mp (List.mem_of_getElem? gu) with hu | hu
     ·obtain ⟨h,j,t,_,gt,hp,_,eq⟩:=ends.each u hu;rw [eq];exact ⟨(wJ (yH hp)).2.1,.inr ⟨t,List.mem_of_getElem? gt,yH hp,rfl⟩⟩
     ·rw [List.mem_singleton] at hu;rw [hu];exact ⟨f1,.inl rfl⟩
    exact ⟨_,rfl,q u.1 u.2 _ s04 ⟨eu,pu,lu⟩ (vQ.mp hw) on.1 on.2⟩
   ·have hw':zB7 ss u.2 = false:=by simpa using hw
    rw [hw'];refine vD ?_;refine ⟨rfl,λj t hj ht=>?_,_,rfl⟩;by_cases ej:j = i
    ·rw [ej,gu] at ht;cases ht;exact λz=>hw (vQ.mpr z)
    ·exact hall j t (by omega) ht
 ·rintro σ H' ⟨rfl,hall,u2,rfl⟩;refine qn _ s04 λz hz zw wz=>?_;have nin:∀ u∈qs ++ [(fp,pt3 (ftL e))],¬ inW ss u.2:=λu hu=>by
   obtain ⟨j,hj,ej⟩:=List.getElem_of_mem hu;exact hall j u (by simp only [List.length_map]; exact hj) (by rw [List.getElem?_eq_getElem hj,ej])
  cases qs with
  | nil =>
   obtain ⟨n1,n2⟩:=ends.none rfl;exact nin (fp,pt3 (ftL e)) (by simp) (zHd hN hz zw wz f1 sf.pos n1 n2)
  | cons u us =>
   obtain ⟨h,j,t,hh,gt,hp,hb,eq⟩:=ends.each u (List.mem_cons_self ..);refine nin u (by simp) ?_;rw [eq];exact zCa hh hN hz zw wz gt hp hb
theorem zIu (ss:List Sd) (n:Nat):rO (zK ss) none (some (n:Int)) = zK (ss.take n):=by
 unfold rO;rw [show HT.sIx (zK ss).length 0 none = 0 from rfl,HT.sIx_nat (zK ss).length (zK ss).length n,List.drop_zero,Nat.sub_zero];rw [zI];simp only [zK,<- List.map_take]
 congr 2
 rw [List.take_eq_take_iff];omega
def zAi (K:PySem.W.Frag):Sp:=λvs H Q _=>∃ (l:Addr) (ss:List Sd),vs = [.ref l]/\SqL K H l (zK ss)/\rR H ss/\ss.length<=900 /\
 (∀ (t:Addr) (j:Nat) (e:Sd) (P:P3) (H':Hp),yG H H'->H' t = some (.tup [.non,.int j])->zPg ss j e P->Q (.ref t) H') /\
 ∀ (t p:Addr) (P:P3) (H':Hp),yG H H'->H' t = some (.tup [.ref p,.non])->zOi H' p P->inW ss P->zLe ss P->Q (.ref t) H'
theorem zH6 (F:Fun K "sought" "sought" qS f fd) (Z:Zs mg) (yBl:Has P w K mg base "holds" 2 ["side", "spot"] (sX K)) (yAf:Has P w K mg base "spot_on_edge" 7 ["sides", "edge"] (uS K)) (yBw:Has P w K mg base "spot" 4 ["x", "y", "w"] (zBl K)):wL P w K mg base CX0 8 f fd ["sides"] (zAi K):=by
 refine F.ok rF (λvs H Q E h=>?_) (λcdv A outer s H vs Q E hr h=>?_)
 ·obtain ⟨l,ss,rfl,_⟩:=h;rfl
 obtain ⟨l,ss,rfl,hl,ok,hlen,qn,q⟩:=h;refine ⟨_,(zF (zT (i:=1) rF.nd rfl (Or.inl rfl) (zH yBw (hr.mono (by decide)) rfl (zA zC (zA zC (zA zC zD)))))
   (zF (wD PassesOwn.never rfl (uG rfl Z.range (zA (zW zV rfl Z.len wQ (zA (pv 0) zD)) zD)) (zQ (i:=2) rF.nd rfl (Or.inl rfl)) (zJ (xC (zAy (tN (zH yBl (hr.mono (by decide)) rfl (zA (zO zL (pv 0) (pv 2) (λ_ _=>rfl)) (zA (pv 1) zD))))) (zF (zT (i:=1) rF.nd rfl (Or.inl rfl) (zH yAf (hr.mono (by decide)) rfl (zA (xG wG (pv 0) wK (wH (pv 2))) (zA (zO zL (pv 0) (pv 2) (λ_ _=>rfl)) zD))))
   (zJ (xC (zU zB4 (pv 1) xJ (zX _)) (zJ (zR (xE (zA xJ (zA (pv 2) zD))))) zY))) zY)))
   (zJ (zR (xE (zA (pv 1) (zA xJ zD))))))),?_⟩
 try dsimp only [L2.cxOf]
 refine ⟨0,0,1,rfl,by decide,by decide +kernel,λp0 H1 s1 hp0 ep0=>?_⟩;have ep0':zOi H1 p0 (0,0,1):=⟨ep0,by decide,by decide⟩;refine ⟨_,rfl,l,_,rfl,.inl (s1.seq hl),_,rfl,(by rw [zI]; omega),(by rw [zI]; omega),tH (lo:=0) (n:=(((zK ss).length:Nat):Int).toNat) (λi σ H'=>yG H H'/\∃ (p:Addr) (P:P3) (u2:Option V),zOi H' p P/\inW (ss.take i) P/\zLe ss P/\σ = [some (.ref l),some (.ref p),u2])
  ⟨s1,p0,(0,0,1),none,ep0',(λt ht=>nomatch ht),.inl rfl,rfl⟩ ?_ ?_⟩
 ·rintro i σ H' hi ⟨sH,p,P,u2,ep,wp,cp,rfl⟩;have hil:i < ss.length:=by rw [Int.toNat_natCast,zI] at hi; exact hi
  obtain ⟨t,mt,gt,at'⟩:=yY (ss:=ss) (i:=i) (k:=0 + (i:Int)) (by omega) hil;obtain ⟨et0,nt,c1,c2,c3⟩:=ok t mt;have et:Sq K H' t.1 [.int t.2.1,.int t.2.2.1,.int t.2.2.2]:=.inr (SqT.of (sH _ _ et0));refine ⟨_,rfl,_,rfl,l,_,_,_,rfl,rfl,.inl (sH.seq hl),at',_,rfl,t.1,p,t.2.1,t.2.2.1,t.2.2.2,P.1,P.2.1,P.2.2,rfl,et,.inr (SqT.of ep.1),by omega,by omega,by omega,_,rfl,?_⟩;refine ifN (λhout=>?_) (λhin=>?_)
  ·have hout':0 < sv t.2 P:=by
    have:¬ sv t.2 P<=0:=hout;omega
   refine ⟨_,rfl,_,rfl,_,rfl,l,_,rfl,sH.seq hl,λc hc=>?_⟩;rw [show (0:Int) + (i:Int) = ((i:Nat):Int) from Int.zero_add _,zIu];have sc:=zE hc (.lst (zK (ss.take i)));have ec:upd H' c (.lst (zK (ss.take i))) c = some (.lst (zK (ss.take i))):=zB;generalize upd H' c (.lst (zK (ss.take i))) = H2 at sc ec ⊢;have sH2:=sH.trans sc;rw [show (0:Int) + (i:Int) = ((i:Nat):Int) from Int.zero_add _] at at';refine ⟨_,rfl,_,rfl,l,_,_,_,rfl,rfl,.inl (sH2.seq hl),at',c,t.1,ss.take i,t.2,rfl,SqL.of ec,(λu hu=>ok.same sH2 u (List.mem_of_mem_take hu)),by rw [List.length_take]; omega,et.same sc,nt,c1,c2,c3,λH3 s3 no=>?_,λp3 P3' H3 s3 ep3 wp3 on3 cd3=>?_⟩
   ·refine ⟨_,rfl,rfl,_,rfl,?_⟩;refine zCb ?_;refine ⟨_,rfl,(by show 2<=sizeLine; decide),λtt htt=>?_⟩;exact qn tt i t P _ ((sH2.trans s3).trans (zE htt _)) zB ⟨gt,ep.2.1,wp,hout',no⟩
   ·refine ⟨_,rfl,rfl,_,rfl,?_⟩;refine vD ?_;refine ⟨sH2.trans s3,p3,P3',_,ep3,λu hu=>?_,?_,rfl⟩
    ·rw [yW gt] at hu;rcases List.mem_append.mp hu with hu | hu
     ·exact wp3 u hu
     ·rw [List.mem_singleton] at hu;rw [hu,on3];exact Int.le_refl _
    ·rcases cd3 with h | ⟨u,hu,ht,h⟩
     ·exact .inr (.inl ⟨t,mt,h⟩)
     ·exact .inr (.inr ⟨t,mt,u,List.mem_of_mem_take hu,ht,h⟩)
  ·refine ⟨sH,p,P,_,ep,λu hu=>?_,cp,rfl⟩;rw [yW gt] at hu;rcases List.mem_append.mp hu with hu | hu
   ·exact wp u hu
   ·rw [List.mem_singleton] at hu;rw [hu];exact hin
 ·rintro σ H' ⟨sH,p,P,u2,ep,wp,cp,rfl⟩;rw [Int.toNat_natCast,zI,List.take_length] at wp;refine ⟨_,rfl,(by show 2<=sizeLine; decide),λtt htt=>?_⟩;have st:=zE htt (.tup [.ref p,.non]);exact q tt p P _ (sH.trans st) zB (ep.same st) wp cp
def tY (K:PySem.W.Frag):Sp:=λvs H Q _=>∃ (l:Addr) (ss:List Sd),vs = [.ref l]/\SqL K H l (zK ss)/\rR H ss/\ss.length<=900 /\
 (∀ H':Hp,yG H H'->(∀ z:P3,0 < z.2.2->¬ inW ss z)->Q .non H') /\
 ∀ (p:Addr) (P:P3) (H':Hp),yG H H'->zOi H' p P->inW ss P->zLe ss P->Q (.ref p) H'
theorem zEq (F:Fun K "some_spot" "some_spot" vU f fd) (Z:Zs mg) (yBd:Has P w K mg base "sought" 8 ["sides"] (zAi K)):wL P w K mg base CX0 9 f fd ["sides"] (tY K):=by
 refine F.ok zEj (λvs H Q E h=>?_) (λcdv A outer s H vs Q E hr h=>?_)
 ·obtain ⟨l,ss,rfl,_⟩:=h;rfl
 obtain ⟨l,ss,rfl,hl,ok,hlen,qn,q⟩:=h;refine ⟨_,(zJ (zR (zO zL (zH yBd (hr.mono (by decide)) rfl (zA (pv 0) zD)) zC (λ_ _=>rfl)))),?_⟩
 try dsimp only [L2.cxOf]
 refine ⟨_,rfl,l,ss,rfl,hl,ok,hlen,λt j e P H' sH et st=>?_,λt p P H' sH et ep wp cp=>?_⟩
 ·exact ⟨t,_,_,.non,rfl,rfl,.inr (SqT.of et),rfl,qn H' sH st.none⟩
 ·exact ⟨t,_,_,.ref p,rfl,rfl,.inr (SqT.of et),rfl,q p P H' sH ep wp cp⟩
def sdN (p:Addr) (P:P3):SpT:=(p,P.1,P.2.1,P.2.2)
structure CoK (ss:List Sd) (n:Nat) (ks:List (List Int)):Prop where
 each:∀ k∈ks,∃ P:P3,Cor ss P/\k = [P.1,P.2.1,P.2.2]
 all:∀ (a:Nat) (t:Sd),a < n->ss[a]? = some t->∀ u∈ss,tn t.2 u.2≠0->inW ss (pt3 (crL t.2 u.2))->crL t.2 u.2∈ks
structure zMy (H:Hp) (D:Addr) (ss:List Sd) (ps:List SpT):Prop where
 at':H D = some (.lst (zZ ps))
 ok:∀ t∈ps,zEn H t/\0 < t.2.2.2/\Nat.gcd (Nat.gcd t.2.1.natAbs t.2.2.1.natAbs) t.2.2.2.natAbs = 1
 nodup:(ps.map (·.2)).Nodup
 mem:∀ P:P3,P∈ps.map (·.2)↔Cor ss P
 rises:ps.Pairwise leS
 few:ps.length<=ss.length
theorem zR8 {ss:List Sd} {P:P3} (c:Cor ss P):0 < P.2.2/\Nat.gcd (Nat.gcd P.1.natAbs P.2.1.natAbs) P.2.2.natAbs = 1:=by
 obtain ⟨t,_,u,_,h,rfl,_⟩:=c;obtain ⟨sp,_,_⟩:=wJ h;exact ⟨sp.pos,sp.low⟩
theorem zQ5 {ss:List Sd} (hn:∀ t∈ss,t.2.1≠0\/t.2.2.1≠0) {ks:List P3} (nd:ks.Nodup) (hk:∀ P∈ks,Cor ss P):ks.length<=ss.length:=by
 have ex:∀ e:Sd,∃ q:P3,e∈ss->∀ u∈ss,0 < tn e.2 u.2 * 1->inW ss (pt3 (crL e.2 u.2))->pt3 (crL e.2 u.2) = q:=λe=>by
  by_cases h:∃ u∈ss,0 < tn e.2 u.2 * 1/\inW ss (pt3 (crL e.2 u.2))
  ·obtain ⟨u,hu,hp,hw⟩:=h;refine ⟨pt3 (crL e.2 u.2),λhe v hv hq hx=>?_⟩;have hN:=wF (hn e he);obtain ⟨s1,o1,o2⟩:=wJ (yH hq);obtain ⟨s2,r1,r2⟩:=wJ (yH hp);have d1:=zFp (h:=1) (by decide) hN o1 r1 s1.pos o2 (hw v hv) hq;have d2:=zFp (h:=1) (by decide) hN r1 o1 s2.pos r2 (hx u hu) hp;rw [zBx] at d2;obtain ⟨x1,x2⟩:=zEu hN o1 r1 (by omega);exact uK s1.pos s2.pos s1.low s2.low x1 x2
  ·exact ⟨(0,0,1),λ_ v hv hq hx=>absurd ⟨v,hv,hq,hx⟩ h⟩
 have fn:∃ g:Sd->P3,∀ e∈ss,∀ u∈ss,0 < tn e.2 u.2 * 1->inW ss (pt3 (crL e.2 u.2))->pt3 (crL e.2 u.2) = g e:=⟨λe=>Classical.choose (ex e),λe he=>Classical.choose_spec (ex e) he⟩;obtain ⟨g,hg⟩:=fn;have z:=zJo (ys:=ss.map g) nd λP hP=>by
  obtain ⟨t,ht,u,hu,h0,rfl,hw⟩:=hk P hP;by_cases c:0 < tn t.2 u.2
  ·rw [hg t ht u hu (by omega) hw];exact List.mem_map_of_mem ht
  ·have hut:0 < tn u.2 t.2 * 1:=by
    unfold tn at c h0 ⊢;rw [Int.mul_comm u.2.1,Int.mul_comm u.2.2.1];omega
   rw [zLl h0] at hw ⊢;rw [hg u hu t ht hut hw];exact List.mem_map_of_mem hu
 rwa [List.length_map] at z
theorem key3 {P Q:P3} (h:[P.1,P.2.1,P.2.2] = [Q.1,Q.2.1,Q.2.2]):P = Q:=by
 injection h with h1 h
 injection h with h2 h
 injection h with h3 _
 exact Prod.ext h1 (Prod.ext h2 h3)
theorem zTr {ss:List Sd} {t u:Sd} (h:tn t.2 u.2≠0):crL t.2 u.2 = [(pt3 (crL t.2 u.2)).1,(pt3 (crL t.2 u.2)).2.1,(pt3 (crL t.2 u.2)).2.2]:=(wJ h).1.list
def qC (K:PySem.W.Frag):Sp:=λvs H Q _=>∃ (l:Addr) (ss:List Sd),vs = [.ref l]/\SqL K H l (zK ss)/\rR H ss/\ss.length<=63 /\
 ∀ (D:Addr) (ps:List SpT) (H':Hp),yG H H'->H D = none->zMy H' D ss ps->Q (.ref D) H'
theorem zGt (F:Fun K "corners" "corners" rE f fd) (Z:Zs mg) (yAn:Has P w K mg base "in_order" 15 ["spots"] (zBk K)) (yAl:Has P w K mg base "edge_ends" 6 ["sides", "edge"] (sE K)) (yAm:Has P w K mg base "in_water" 3 ["sides", "place"] (uE K)):wL P w K mg base CX0 16 f fd ["sides"] (qC K):=by
 refine F.ok tS (λvs H Q E h=>?_) (λcdv A outer s H vs Q E hr h=>?_)
 ·obtain ⟨l,ss,rfl,_⟩:=h;rfl
 obtain ⟨l,ss,rfl,hl,ok,hlen,q⟩:=h;have hu1:=Nat.lt_of_le_of_lt (Nat.add_le_add_left (show 1<=64 by decide) _) hr.units;have big:∀ n:Nat,n<=1000000->n < sizeLine:=λn hn=>Nat.lt_of_le_of_lt hn (by decide);refine ⟨_,(zF (zT (i:=1) tS.nd rfl (Or.inl rfl) zCx)
   (zF (wD PassesOwn.never rfl (xU (pv 0)) (zQ (i:=2) tS.nd rfl (Or.inl rfl)) (zJ (wD PassesOwn.never rfl (xU (zH yAl (hr.mono (by decide)) rfl (zA (pv 0) (zA (pv 2) zD)))) (zQ (i:=3) tS.nd rfl (Or.inl rfl)) (zJ (xC (tN (zH yAm (hr.mono (by decide)) rfl (zA (pv 0) (zA (pv 3) zD)))) (zJ (zFl hu1 (pv 1) (pv 3) zDt rfl)) zY)))))
   (zJ (zR (zH yAn (hr.mono (by decide)) rfl (zA (xA (rT rfl) rfl Z.list uV (zA (pv 1) zD)) zD)))))),?_⟩
 try dsimp only [L2.cxOf]
 refine λd hd=>?_;refine ⟨_,rfl,l,rfl,.inl ⟨⟨_,(zE hd _).seq hl⟩,xL (K:=K) (a:=l) (xs:=zK ss) (λi σ H'=>yG H H'/\(∃ kvs ks,H' d = some (.dT kvs)/\zI5 kvs ks/\ks.length<=2 * i/\CoK ss i ks)/\∃ u2 u3:Option V,σ = [some (.ref l),some (.ref d),u2,u3])
  ⟨zE hd _,⟨[],[],zB,.nil,Nat.le_refl _,(λk hk=>nomatch hk),λa t ha=>absurd ha (Nat.not_lt_zero _)⟩,none,none,rfl⟩ (λi σ H' _ ⟨e,_⟩=>e.seq hl) ?_ ?_⟩⟩
 ·rintro i v σ H' hi ⟨sH,⟨kvs,ks,eD,tk,hks,ck⟩,u2,u3,rfl⟩;obtain ⟨t,gt,rfl,hil⟩:=xP hi;obtain ⟨et0,nt,b1,b2,b3⟩:=ok t (List.mem_of_getElem? gt);have hN:=wF (t:=t.2) nt;refine ⟨_,rfl,_,rfl,l,t.1,ss,t.2,rfl,sH.seq hl,ok.same sH,by omega,.inr (SqT.of (sH _ _ et0)),nt,b1,b2,b3,λL qs H2 s2 hL eL okq hq ends=>?_⟩;have eD2:=s2 _ _ eD;have nLd:L≠d:=λz=>by rw [z] at eL; rw [eL] at eD2; cases eD2
  refine ⟨L,rfl,.inl ⟨⟨_,SqL.of eL⟩,xL (K:=K) (a:=L) (xs:=wN qs) (λj σ H'=>yG H H'/\H' L = some (.lst (wN qs))/\zD8 H' qs/\(∃ kvs ks,H' d = some (.dT kvs)/\zI5 kvs ks/\ks.length<=2 * i + j/\CoK ss i ks/\∀ m x,m < j->qs[m]? = some x->inW ss x.2->[x.2.1,x.2.2.1,x.2.2.2]∈ks)/\∃ u3:Option V,σ = [some (.ref l),some (.ref d),some (.ref t.1),u3])
   ⟨sH.trans s2,eL,okq,⟨kvs,ks,eD2,tk,by omega,ck,λm x hm=>absurd hm (Nat.not_lt_zero _)⟩,_,rfl⟩ (λj σ H' _ ⟨_,e,_⟩=>SqL.of e) ?_ ?_⟩⟩
  ·rintro j v σ H4 hj ⟨s4,eL4,ok4,⟨kvs,ks,eD4,tk,hks4,ck,done⟩,u3,rfl⟩;rw [List.getElem?_map,List.getElem?_map] at hj;cases gx:qs[j]? with
   | none=>rw [gx] at hj; cases hj
   | some x =>
    rw [gx] at hj;cases hj;have hj2:j < qs.length:=(List.getElem?_eq_some_iff.mp gx).1;obtain ⟨ex,px,lx⟩:=ok4 x (List.mem_of_getElem? gx);refine ⟨_,rfl,_,rfl,l,x.1,ss,x.2,rfl,s4.seq hl,ok.same s4,.inr (SqT.of ex),_,rfl,?_⟩;by_cases hw:zB7 ss x.2 = true
    ·rw [hw];refine zCb ?_;obtain ⟨ks',tk',mem',len'⟩:=tk.put [x.2.1,x.2.2.1,x.2.2.2] (.bl true);have kl:=tk.len;refine ⟨_,rfl,_,rfl,d,_,rfl,zQh.t (k:=zCj [x.2.1,x.2.2.1,x.2.2.2]) eD4 (by rw [qA]; exact ex) (by rw [kl]; exact big _ (by omega)),?_⟩;have keepT:∀ (b:Addr) (xs:List V),H4 b = some (.tup xs)->upd H4 d (.dT (zEh kvs (zCj [x.2.1,x.2.2.1,x.2.2.2]) (.bl true))) b = some (.tup xs):=λb xs e=>by
      rw [zP (sZ e eD4 (by intro z; cases z))];exact e
     refine ⟨s4.putNew hd,by rw [zP nLd]; exact eL4,λy hy=>⟨keepT _ _ (ok4 y hy).1,(ok4 y hy).2⟩,⟨_,ks',zB,tk',by omega,⟨λk hk=>?_,λa t' ha gt' u hu htu hwu=>(mem' _).mpr (.inl (ck.all a t' ha gt' u hu htu hwu))⟩,λm y hm gy hwy=>?_⟩,_,rfl⟩
     ·rcases (mem' k).mp hk with h | h
      ·exact ck.each k h
      ·obtain ⟨hh,j',t',_,gt',hp,_,eq⟩:=ends.each x (List.mem_of_getElem? gx);refine ⟨x.2,⟨t,List.mem_of_getElem? gt,t',List.mem_of_getElem? gt',yH hp,eq,vQ.mp hw⟩,h⟩
     ·by_cases e:m = j
      ·rw [e,gx] at gy;cases gy;exact (mem' _).mpr (.inr rfl)
      ·exact (mem' _).mpr (.inl (done m y (by omega) gy hwy))
    ·have hw':zB7 ss x.2 = false:=by simpa using hw
     rw [hw'];refine vD ?_;refine ⟨s4,eL4,ok4,⟨kvs,ks,eD4,tk,by omega,ck,λm y hm gy hwy=>?_⟩,_,rfl⟩;by_cases e:m = j
     ·rw [e,gx] at gy;cases gy;exact absurd (vQ.mpr hwy) hw
     ·exact done m y (by omega) gy hwy
  ·rintro σ H4 ⟨s4,eL4,ok4,⟨kvs,ks,eD4,tk,hks4,ck,done⟩,u3,rfl⟩;have hq2:(wN qs).length = qs.length:=by simp
   rw [hq2] at hks4 done;refine ⟨s4,⟨kvs,ks,eD4,tk,by omega,ck.each,λa t' ha gt' u hu htu hwu=>?_⟩,_,_,rfl⟩;by_cases e:a = i
   ·rw [e,gt] at gt';cases gt';obtain ⟨k,hk1,hkk,hpos⟩:=zQz htu;have f:zEp ss t.2 k (qs.map (·.2)):=by
     rcases hk1 with rfl | rfl
     ·exact ends.full.1
     ·exact ends.full.2
    have m:=zRe hkk hN hu hpos hwu f;obtain ⟨y,hy,ey⟩:=List.mem_map.mp m;obtain ⟨b,hb,eb⟩:=List.getElem_of_mem hy;have z:=done b y hb (by rw [List.getElem?_eq_getElem hb,eb]) (by rw [ey]; exact hwu);rw [ey] at z;rw [zTr (ss:=ss) htu];exact z
   ·exact ck.all a t' (by omega) gt' u hu htu hwu
 ·rintro σ H' ⟨sH,⟨kvs,ks,eD,tk,hks,ck⟩,u2,u3,rfl⟩;rw [zI] at hks ck;refine ⟨_,rfl,d,kvs,rfl,eD,λp1 ts hp1 ets hts=>?_⟩;have sp1:yG H' (upd H' p1 (.lst ((ts.map (·.1)).map V.ref))):=zE hp1 _;have ep1:upd H' p1 (.lst ((ts.map (·.1)).map V.ref)) p1 = some (.lst ((ts.map (·.1)).map V.ref)):=zB;obtain ⟨us,w1,w2,w3⟩:=tk.refs ets hts;have w3':∀ u∈us,upd H' p1 (.lst ((ts.map (·.1)).map V.ref)) u.1 = some (.tup (u.2.map V.int)):=λu hu=>sp1 _ _ (w3 u hu);generalize upd H' p1 (.lst ((ts.map (·.1)).map V.ref)) = H2 at sp1 ep1 w3' ⊢
  let xs:List SpT:=us.map λu=>(u.1,pt3 u.2)
  have xk:xs.map (·.2) = ks.map pt3:=by
   show (us.map λu=>((u.1,pt3 u.2):SpT)).map (·.2) = _;rw [<- w2,List.map_map,List.map_map];rfl
  have xr:zZ xs = (ts.map (·.1)).map V.ref:=by
   show (us.map λu=>((u.1,pt3 u.2):SpT)).map (λt=>V.ref t.1) = _;rw [<- w1,List.map_map,List.map_map];rfl
  have xl:xs.length = ks.length:=by
   have z:=congrArg List.length w2;rw [List.length_map] at z;show (us.map λu=>((u.1,pt3 u.2):SpT)).length = _;rw [List.length_map];exact z
  have kc:∀ P∈ks.map pt3,Cor ss P:=λP hP=>by
   obtain ⟨k,hk,rfl⟩:=List.mem_map.mp hP;obtain ⟨P,cP,rfl⟩:=ck.each k hk;exact cP
  have knd:(ks.map pt3).Nodup:=by
   rw [List.Nodup,List.pairwise_map];refine List.Pairwise.imp_of_mem (λ{k k'} hk hk' hne e=>?_) tk.nodup;obtain ⟨P,cP,rfl⟩:=ck.each k hk;obtain ⟨P',cP',rfl⟩:=ck.each k' hk';have e':P = P':=e;exact hne (by rw [e'])
  have few:=zQ5 (λt ht=>(ok t ht).2.1) knd kc;rw [List.length_map] at few;have okx:∀ t∈xs,zEn H2 t/\0 < t.2.2.2/\Nat.gcd (Nat.gcd t.2.1.natAbs t.2.2.1.natAbs) t.2.2.2.natAbs = 1:=λt ht=>by
   obtain ⟨u,hu,rfl⟩:=List.mem_map.mp ht;have huk:u.2∈ks:=by rw [<- w2]; exact List.mem_map_of_mem hu
   obtain ⟨P,cP,eP⟩:=ck.each u.2 huk;have e0:=w3' u hu;have lw:=zR8 cP;obtain ⟨a,ha,b,hb,hab,rfl,_⟩:=cP;obtain ⟨_,_,x1,x2,x3⟩:=ok a ha;obtain ⟨_,_,y1,y2,y3⟩:=ok b hb;obtain ⟨z1,z2,z3⟩:=zJd hab x1 x2 x3 y1 y2 y3;rw [eP] at e0;have e1:pt3 u.2 = pt3 (crL a.2 b.2):=by rw [eP]; rfl
   refine ⟨⟨?_,?_⟩,?_⟩
   ·show H2 u.1 = some (.tup [.int (pt3 u.2).1,.int (pt3 u.2).2.1,.int (pt3 u.2).2.2]);rw [e1];exact e0
   ·show (pt3 u.2).1.natAbs<=10 ^ 100/\(pt3 u.2).2.1.natAbs<=10 ^ 100/\(pt3 u.2).2.2.natAbs<=10 ^ 100;rw [e1];exact ⟨zQ7 z1,zQ7 z2,zQ7 z3⟩
   ·show 0 < (pt3 u.2).2.2/\Nat.gcd (Nat.gcd (pt3 u.2).1.natAbs (pt3 u.2).2.1.natAbs) (pt3 u.2).2.2.natAbs = 1;rw [e1];exact lw
  refine ⟨p1,xs,rfl,by rw [xr]; exact SqL.of ep1,λt ht=>(okx t ht).1,Nat.le_trans (show xs.length<=63 by omega) (by decide),by omega,λD H3 s3 hD eD3=>?_⟩;have pm:=uU 12 xs;have pm2:((qY 12 xs).map (·.2)).Perm (ks.map pt3):=by rw [<- xk]; exact pm.map _
  refine q D (qY 12 xs) H3 ((sH.trans sp1).trans s3) ((sH.trans sp1).free hD) ⟨eD3,λt ht=>?_,pm2.nodup_iff.mpr knd,λP=>?_,zBq 12 xs (Nat.le_trans (show xs.length<=63 by omega) (by decide)) λt ht=>(okx t ht).2.1,?_⟩
  ·obtain ⟨h1,h2⟩:=okx t (pm.mem_iff.mp ht);exact ⟨h1.same s3,h2⟩
  ·rw [pm2.mem_iff];refine ⟨kc P,λcP=>?_⟩;obtain ⟨t,ht,u,hu,htu,rfl,hw⟩:=cP;obtain ⟨a,ha,ea⟩:=List.getElem_of_mem ht;exact List.mem_map_of_mem (ck.all a t ha (by rw [List.getElem?_eq_getElem ha,ea]) u hu htu hw)
  ·rw [pm.length_eq,xl];exact few
theorem cB3 {i j:Int} (hi:i.natAbs<=10 ^ 401) (hj:j.natAbs<=10 ^ 401):zB3 i j:=⟨Nat.lt_of_le_of_lt hi (by decide +kernel),Nat.lt_of_le_of_lt hj (by decide +kernel)⟩
theorem zMq {a b c d:Int} {m:Nat} (h1:a.natAbs<=m) (h2:b.natAbs<=m) (h3:c.natAbs<=m) (h4:d.natAbs<=m):(a * b - c * d).natAbs<=2 * (m * m):=by
 have z1:=zG a b h1 h2;have z2:=zG c d h3 h4;omega
theorem zP3:2 * (10 ^ 100 * 10 ^ 100)<=10 ^ 201:=by decide +kernel
def zAd (K:PySem.W.Frag):Sp:=λvs H Q _=>∃ (s t:SpT),vs = [.ref s.1,.ref t.1]/\zEn H s/\zEn H t/\((wy s.2 t.2).1.natAbs<=10 ^ 201->(wy s.2 t.2).2.natAbs<=10 ^ 201->∀ p,H p = none->Q (.ref p) (upd H p (.tup [.int (wy s.2 t.2).1,.int (wy s.2 t.2).2])))
theorem zIi (F:Fun K "way_to" "way_to" qR f fd) (Z:Zs mg)  : wL P w K mg base CX0 1 f fd ["start", "end"] (zAd K):=by
 refine F.ok zIh (λvs H Q E h=>?_) (λcdv A outer s H vs Q E hr h=>?_)
 ·obtain ⟨s,t,rfl,_⟩:=h;rfl
 obtain ⟨⟨a,x1,y1,w1⟩,⟨b,x2,y2,w2⟩,rfl,⟨ha,a1,a2,a3⟩,⟨hb,b1,b2,b3⟩,q⟩:=h;refine ⟨_,(zJ (zR (xE (zA (zN xZ (zN xH (zO zL (pv 1) zC (λ_ _=>rfl)) (zO zL (pv 0) zC (λ_ _=>rfl))) (zN xH (zO zL (pv 0) zC (λ_ _=>rfl)) (zO zL (pv 1) zC (λ_ _=>rfl)))) (zA (zN xZ (zN xH (zO zL (pv 1) zC (λ_ _=>rfl)) (zO zL (pv 0) zC (λ_ _=>rfl))) (zN xH (zO zL (pv 0) zC (λ_ _=>rfl)) (zO zL (pv 1) zC (λ_ _=>rfl)))) zD))))),?_⟩
 try dsimp only [L2.cxOf]
 have fa':Sq K H a [.int x1,.int y1,.int w1]:=.inr (SqT.of ha);have fb:Sq K H b [.int x2,.int y2,.int w2]:=.inr (SqT.of hb);refine ⟨_,rfl,b,_,_,.int x2,rfl,rfl,fb,rfl,_,rfl,a,_,_,.int w1,rfl,rfl,fa',rfl,_,_,rfl,rfl,cB b1 a3,_,rfl,a,_,_,.int x1,rfl,rfl,fa',rfl,_,rfl,b,_,_,.int w2,rfl,rfl,fb,rfl,_,_,rfl,rfl,cB a1 b3,_,_,rfl,rfl,?_⟩;refine ⟨_,rfl,b,_,_,.int y2,rfl,rfl,fb,rfl,_,rfl,a,_,_,.int w1,rfl,rfl,fa',rfl,_,_,rfl,rfl,cB b2 a3,_,rfl,a,_,_,.int y1,rfl,rfl,fa',rfl,_,rfl,b,_,_,.int w2,rfl,rfl,fb,rfl,_,_,rfl,rfl,cB a2 b3,_,_,rfl,rfl,?_⟩;exact ⟨(by show 2<=sizeLine; decide),λp hp=>q (Nat.le_trans (zMq b1 a3 a1 b3) zP3) (Nat.le_trans (zMq b2 a3 a2 b3) zP3) p hp⟩
abbrev zOk (_:PySem.W.Frag):Addr:=zKj
abbrev rQual:Str:=("ring" : Str) ++ ".<locals>." ++ "count_ahead"
def zDs (K:PySem.W.Frag) (H:Hp):Prop:=zSb (zOk K) (zSw zDz) rQual H
def vL (K:PySem.W.Frag) (H H':Hp):Prop:=∀ b o,b≠zOk K->H b = some o->H' b = some o
structure zM7 (H:Hp) (D:Addr) (ss:List Sd) (us:List SpT):Prop where
 at':H D = some (.lst (zZ us))
 ok:∀ t∈us,zEn H t/\0 < t.2.2.2/\Nat.gcd (Nat.gcd t.2.1.natAbs t.2.2.1.natAbs) t.2.2.2.natAbs = 1
 nodup:(us.map (·.2)).Nodup
 mem:∀ P:P3,P∈us.map (·.2)↔Cor ss P
 first:∀ O rest,us = O :: rest->(∀ t∈rest,ahB O t = true)/\rest.Pairwise (λA B=>0 < c3 O.2 A.2 B.2)
 few:us.length<=ss.length
theorem zDs.same {K:PySem.W.Frag} {H H':Hp} (t:zDs K H) (s:yG H H'):zDs K H':=by
 obtain ⟨qs,e1,e2,e3⟩:=t;exact ⟨qs,s _ _ e1,e2,e3.imp id λ⟨c',h1,h2⟩=>⟨c',h1,s _ _ h2⟩⟩
theorem zDs.ne {K:PySem.W.Frag} {H:Hp} (t:zDs K H) {b:Addr} {o:HO} (e:H b = some o) (h:∀ ps,o≠.tbl ps):b≠zOk K:=λz=>by
 obtain ⟨qs,e1,_⟩:=t;rw [z,show H (zOk K) = some (.tbl qs) from e1] at e;exact h qs (Option.some.inj e).symm
theorem vL.lst {K:PySem.W.Frag} {H H':Hp} (s:vL K H H') (t:zDs K H) {b:Addr} {xs:List V} (e:H b = some (.lst xs)):H' b = some (.lst xs):=s b _ (t.ne e λ_ z=>nomatch z) e
theorem vL.tup {K:PySem.W.Frag} {H H':Hp} (s:vL K H H') (t:zDs K H) {b:Addr} {xs:List V} (e:H b = some (.tup xs)):H' b = some (.tup xs):=s b _ (t.ne e λ_ z=>nomatch z) e
theorem vL.of {K:PySem.W.Frag} {H H':Hp} (s:yG H H'):vL K H H':=λb o _ e=>s b o e
theorem vL.trans {K:PySem.W.Frag} {H H1 H2:Hp} (a:vL K H H1) (b:vL K H1 H2):vL K H H2:=λc o h e=>b c o h (a c o h e)
theorem rR.sameT {K:PySem.W.Frag} {H H':Hp} {ss:List Sd} (h:rR H ss) (t:zDs K H) (s:vL K H H'):rR H' ss:=λu hu=>⟨s.tup t (h u hu).1,(h u hu).2⟩
theorem zDs.put {K:PySem.W.Frag} {H:Hp} (t:zDs K H) {D:Addr} {xs ys:List V} (e:H D = some (.lst xs)):zDs K (upd H D (.lst ys)):=by
 have hD:=t.ne e λ_ z=>nomatch z
 obtain ⟨qs,e1,e2,e3⟩:=t;refine ⟨qs,by rw [zP hD.symm]; exact e1,e2,e3.imp id λ⟨c',h1,h2⟩=>⟨c',h1,?_⟩⟩;rw [zP (sZ h2 e λz=>nomatch z)];exact h2
def zK9 (H:Hp) (r:Addr):P3:=match H r with
 | some (.tup [.int x,.int y,.int w])=>(x,y,w)
 | _=>(0,0,1)
theorem zN8 {H:Hp} {t:SpT} (h:zEn H t):zK9 H t.1 = t.2:=by
 unfold zK9;rw [h.1]
theorem zH4 {s t:SpT} (ws:0 < s.2.2.2) (wt:0 < t.2.2.2) (ls:Nat.gcd (Nat.gcd s.2.1.natAbs s.2.2.1.natAbs) s.2.2.2.natAbs = 1) (lt:Nat.gcd (Nat.gcd t.2.1.natAbs t.2.2.1.natAbs) t.2.2.2.natAbs = 1) (h:leS s t) (ne:s.2≠t.2):ahB s t = true:=by
 by_cases c:ahB s t = true
 ·exact c
 ·have c':leS t s:=by
   show ahB s t = false;simpa using c
  rw [zFu] at h c';exact absurd (uK (p:=s.2) (q:=t.2) ws wt ls lt (by omega) (by omega)) ne
theorem zQ8 {H:Hp} {ss:List Sd} {O:SpT} {rest:List SpT} {us:List Addr} (ok:∀ t∈O :: rest,zEn H t/\0 < t.2.2.2/\Nat.gcd (Nat.gcd t.2.1.natAbs t.2.2.1.natAbs) t.2.2.2.natAbs = 1) (nd:((O :: rest).map (·.2)).Nodup) (mem:∀ P:P3,P∈(O :: rest).map (·.2)↔Cor ss P)
  (ri:(O :: rest).Pairwise leS) (pm:us.Perm (rest.map (·.1))) (pw:us.Pairwise λa b=>(zP0 O.2 ((O :: rest).map (·.2)) (zK9 H a):Int)<=zP0 O.2 ((O :: rest).map (·.2)) (zK9 H b)) :
  ∃ vs:List SpT,vs.map (·.1) = us/\vs.Perm rest/\(∀ t∈rest,ahB O t = true)/\vs.Pairwise (λA B=>0 < c3 O.2 A.2 B.2):=by
 have hO:=ok O (.head _);have hah:∀ t∈rest,ahB O t = true:=λt ht=>by
  have h1:=ok t (.tail _ ht);refine zH4 hO.2.1 h1.2.1 hO.2.2 h1.2.2 ((List.pairwise_cons.mp ri).1 t ht) λz=>?_;rw [List.map_cons,List.nodup_cons] at nd;exact nd.1 (z ▸ List.mem_map_of_mem ht)
 have eb:rest.map (λt=>((t.1,zK9 H t.1):SpT)) = rest:=by
  refine Eq.trans (List.map_congr_left λt ht=>?_) (List.map_id rest);rw [zN8 (ok t (.tail _ ht)).1];rfl
 have pv:(us.map λa=>((a,zK9 H a):SpT)).Perm rest:=by
  have z:=pm.map λa=>((a,zK9 H a):SpT);rw [List.map_map] at z;have e:rest.map ((λa=>((a,zK9 H a):SpT)) ∘ λt:SpT=>t.1) = rest:=eb;rw [e] at z;exact z
 refine ⟨us.map λa=>(a,zK9 H a),?_,pv,hah,?_⟩
 ·rw [List.map_map];exact Eq.trans (List.map_congr_left λa _=>rfl) (List.map_id us)
 ·have nd2:((us.map λa=>((a,zK9 H a):SpT)).map (·.2)).Nodup:=by
   refine (pv.map (·.2)).nodup_iff.mpr ?_;rw [List.map_cons,List.nodup_cons] at nd;exact nd.2
  have z:=zNf (ss:=ss) (O:=O.2) (qs:=(O :: rest).map (·.2)) (rs:=rest.map (·.2)) (us:=(us.map λa=>((a,zK9 H a):SpT)).map (·.2)) ((mem _).mp (.head _)) (λC hC=>?_) (λA hA=>?_) nd2 (pv.map _) ?_
  ·rw [List.pairwise_map] at z;exact z
  ·rw [List.map_cons] at hC;rcases List.mem_cons.mp hC with e | hC
   ·exact .inl e
   ·obtain ⟨t,ht,rfl⟩:=List.mem_map.mp hC;exact .inr (zDw (hah t ht))
  ·obtain ⟨t,ht,rfl⟩:=List.mem_map.mp hA;have m:t.2∈(O :: rest).map (·.2):=List.mem_map_of_mem (.tail _ ht);refine ⟨(mem _).mp m,m,λz=>?_,zDw (hah t ht)⟩;rw [List.map_cons,List.nodup_cons] at nd;exact nd.1 (z ▸ List.mem_map_of_mem ht)
  ·rw [List.map_map,List.pairwise_map];refine pw.imp λ{a b} h=>?_;exact Int.ofNat_le.mp h
theorem zLx (O:SpT) (rest:List SpT):rO (zZ (O :: rest)) none (some 1) = [V.ref O.1]:=by
 show ((zZ (O :: rest)).drop 0).take (min 1 (zZ (O :: rest)).length - 0) = _;rw [List.drop_zero,Nat.sub_zero,show min 1 (zZ (O :: rest)).length = 1 from Nat.min_eq_left (by simp [zZ])];rfl
theorem zK2 (O:SpT) (rest:List SpT):rO (zZ (O :: rest)) (some 1) none = (rest.map (·.1)).map V.ref:=by
 show ((zZ (O :: rest)).drop (min 1 (zZ (O :: rest)).length)).take ((zZ (O :: rest)).length - min 1 (zZ (O :: rest)).length) = _;rw [show min 1 (zZ (O :: rest)).length = 1 from Nat.min_eq_left (by simp [zZ]),List.take_of_length_le (by simp [zZ])];simp [zZ]
def zG4 (K:PySem.W.Frag):Sp:=λvs H Q _=>∃ (l:Addr) (ss:List Sd),vs = [.ref l]/\SqL K H l (zK ss)/\rR H ss/\ss.length<=63/\zDs K H /\
 ∀ (D:Addr) (us:List SpT) (H':Hp),vL K H H'->H D = none->zDs K H'->zM7 H' D ss us->Q (.ref D) H'
theorem zNm (F:Fun K "ring" "ring" zBh f fd) (Z:Zs mg) (yAw:Has P w K mg base "corners" 16 ["sides"] (qC K)) (yBp:Has P w K mg base "turn" 1 ["one", "other"] (wM K)) (yBc:Has P w K mg base "way_to" 1 ["start", "end"] (zAd K)) (yAx:Has P w K mg base "turn" 1 ["one", "other"] (zAn K)) (hcode:fd.code = .ref zIv) (NB:zIf base mg zIv zKj):wL P w K mg base CX0 17 f fd ["sides"] (zG4 K):=by
 refine Fun.okC F zDm (λvs H Q E h=>?_) (λcdv A outer s H vs Q E hcv hr h=>?_)
 ·obtain ⟨l,ss,rfl,_⟩:=h;rfl
 obtain ⟨l,ss,rfl,hl,ok,hlen,tab,q⟩:=h;have hcd:cdv = .ref zIv:=hcv.symm.trans hcode;have hcd0:=hcd;refine ⟨_,(zF (zT (i:=1) zDm.nd rfl (Or.inr rfl) (zH yAw (hr.mono (by decide)) rfl (zA (pv 0) zD)))
   (zF (zSs (i:=2) (clos:=[("rising", s.heap.objs.size + 1)]) NB hcd rfl zDm.nd rfl (Or.inl rfl))
   (zJ (zR (zN zDj (xG wG (pv 1) wK (wH zC)) (zOs rfl Z.sorted (zA (xG wG (pv 1) (wH zC) wK) zD) (zQ2 (pv 2) zTt))))))),?_⟩
 try dsimp only [L2.cxOf]
 refine ⟨_,rfl,l,ss,rfl,hl,ok,hlen,λD ps H1 s1 hD co=>?_⟩;have tab1:zDs K H1:=by
  obtain ⟨qs,e1,e2,e3⟩:=tab;refine ⟨qs,s1 _ _ e1,e2,e3.imp id λ⟨c',h1,h2⟩=>⟨c',h1,s1 _ _ h2⟩⟩
 refine ⟨tab1,λfa c' H2 hf hfP ef ec tab2 kp=>?_⟩;have nT:∀ b xs,H1 b = some (.lst xs)->b≠zOk K:=λb xs e z=>by
  obtain ⟨qs,e1,_⟩:=tab1;rw [z,e1] at e;cases e
 have nU:∀ b xs,H1 b = some (.tup xs)->b≠zOk K:=λb xs e z=>by
  obtain ⟨qs,e1,_⟩:=tab1;rw [z,e1] at e;cases e
 have eD2:H2 D = some (.lst (zZ ps)):=kp _ _ (nT _ _ co.at') co.at';have ok2:∀ t∈ps,zEn H2 t/\0 < t.2.2.2/\Nat.gcd (Nat.gcd t.2.1.natAbs t.2.2.1.natAbs) t.2.2.2.natAbs = 1:=λt ht=>by
  obtain ⟨o1,o2⟩:=co.ok t ht;exact ⟨⟨kp _ _ (nU _ _ o1.1) o1.1,o1.2⟩,o2⟩
 have few:=co.few;have sT:vL K H H2:=λb o hb e=>kp b o hb (s1 _ _ e);have hDT:D≠zOk K:=nT _ _ co.at';have fin:∀ (Dn:Addr) (us:List SpT) (H3:Hp),yG H2 H3->H3 Dn = none->us.Perm ps->(∀ O rest,us = O :: rest->(∀ t∈rest,ahB O t = true)/\rest.Pairwise (λA B=>0 < c3 O.2 A.2 B.2))->Q (.ref Dn) (upd H3 Dn (.lst (zZ us))):=λDn us H3 s3 hn pm hfst=>by
  have s4:=zE hn (.lst (zZ us));have hn2:H2 Dn = none:=s3.free hn;refine q Dn us _ (λb o hb e=>s4 _ _ (s3 _ _ (sT b o hb e))) ?_ ?_ ⟨zB,λt ht=>?_,(pm.map (·.2)).nodup_iff.mpr co.nodup,λP=>?_,hfst,by rw [pm.length_eq]; exact few⟩
  ·cases e:H Dn with
   | none=>rfl
   | some o =>
    by_cases hb:Dn = zOk K
    ·obtain ⟨qs,e1,_⟩:=tab2;rw [hb] at hn2;rw [show H2 (zOk K) = some (.tbl qs) from e1] at hn2;cases hn2
    ·rw [sT _ _ hb e] at hn2;cases hn2
  ·obtain ⟨qs,e1,e2,e3⟩:=tab2;exact ⟨qs,s4 _ _ (s3 _ _ e1),e2,e3.imp id λ⟨c',h1,h2⟩=>⟨c',h1,s4 _ _ (s3 _ _ h2)⟩⟩
  ·obtain ⟨o1,o2⟩:=ok2 t (pm.mem_iff.mp ht);exact ⟨(o1.same s3).same s4,o2⟩
  ·rw [(pm.map (·.2)).mem_iff];exact co.mem P
 have sq2:SqL K H2 D (zZ ps):=SqL.of eD2;refine ⟨_,rfl,_,rfl,D,_,rfl,sq2,λc1 hc1=>?_⟩;have sc1:=zE hc1 (.lst (rO (zZ ps) none (some 1)));have ec1:upd H2 c1 (.lst (rO (zZ ps) none (some 1))) c1 = some (.lst (rO (zZ ps) none (some 1))):=zB;generalize upd H2 c1 (.lst (rO (zZ ps) none (some 1))) = H3 at sc1 ec1 ⊢;refine ⟨_,rfl,_,rfl,D,_,rfl,sc1.seq sq2,λc2 hc2=>?_⟩;have sc2:=zE hc2 (.lst (rO (zZ ps) (some 1) none));have ec2:upd H3 c2 (.lst (rO (zZ ps) (some 1) none)) c2 = some (.lst (rO (zZ ps) (some 1) none)):=zB;generalize upd H3 c2 (.lst (rO (zZ ps) (some 1) none)) = H4 at sc2 ec2 ⊢;have s24:=sc1.trans sc2;cases ps with
 | nil =>
  refine ⟨_,rfl,c2,fa,[],λ_=>0,rfl,rfl,SqL.of ec2,by decide,(λr hr=>nomatch hr),λp us H5 hp s5 ep pm pw=>?_⟩;have eu:us = []:=List.perm_nil.mp pm;subst eu;refine ⟨c1,p,_,_,rfl,rfl,s5 _ _ (sc2 _ _ ec1),ep,(by show 0<=sizeLine; decide),λDn hDn=>?_⟩;exact fin Dn [] H5 (s24.trans s5) hDn (.refl _) (λO rest z=>nomatch z)
 | cons O rest =>
  have hrest:rest.length < 63:=by rw [List.length_cons] at few; omega
  rw [zLx] at ec1;rw [zK2] at ec2;have ok4:∀ t∈O :: rest,zEn H4 t:=λt ht=>(ok2 t ht).1.same s24;refine ⟨_,rfl,c2,fa,rest.map (·.1),λa=>(zP0 O.2 ((O :: rest).map (·.2)) (zK9 H4 a):Int),rfl,rfl,SqL.of ec2,by rw [List.length_map]; omega,?_,λp us H5 hp s5 ep pm pw=>?_⟩
  ·refine zO8 (k:=3) (jy:=1) (N:=["place", "sight", "rising"]) (params:=vJ zDz) zEw (hr.mono (by decide)) rfl rfl rfl rfl (s24 _ _ ef) (s24 _ _ ec) (λ_ _ _ _=>rfl) λr hr' A outer s H5 s5 hr=>?_;obtain ⟨t,ht,rfl⟩:=List.mem_map.mp hr';refine ⟨_,(zF (zT (i:=1) zEw.nd rfl (Or.inr rfl) (zH yBc (hr.mono (by decide)) rfl (zA (zO zL (pv 2) zC (λ_ _=>rfl)) (zA (pv 0) zD))))
   (zJ (zR (zW zV rfl Z.len wQ (zA (vI (T:=["other"]) (caps:=[("rising", 2),("sight", 1)]) ⟨rfl,by decide +kernel,by decide +kernel,rfl,⟨⟨rfl,rfl,Or.inr rfl⟩,⟨rfl,rfl,Or.inl rfl⟩,True.intro⟩⟩ rfl (xU (pv 2)) (λ_=>(zQ (i:=0) (show (["other", "rising", "sight"]:List Str).Nodup by decide +kernel) rfl (Or.inl rfl))) (λ_=>(zFo (zU zC6 (zH yAx (hr.mono (by decide)) rfl (zA (zH yBc (hr.mono (by decide)) rfl (zA (zO zL (pv 1) zC (λ_ _=>rfl)) (zA (pv 0) zD))) (zA (pv 2) zD))) zC (zX _)))) (λ_=>(pv 0))) zD))))),?_⟩
   have s25:=s24.trans s5;have eD5:=s25 _ _ eD2;have okO:=(ok4 O (.head _)).same s5;have okt:=(ok4 t (.tail _ ht)).same s5;have at0:atI (zZ (O :: rest)) 0 = some (.ref O.1):=tZ (j:=0) rfl;refine ⟨_,rfl,D,_,_,.ref O.1,rfl,rfl,.inl (SqL.of eD5),at0,_,rfl,O,t,rfl,okO,okt,λb1 b2 sp hsp=>?_⟩;have ssp:=zE hsp (.tup [.int (wy O.2 t.2).1,.int (wy O.2 t.2).2]);have esp:upd H5 sp (.tup [.int (wy O.2 t.2).1,.int (wy O.2 t.2).2]) sp = some (.tup [.int (wy O.2 t.2).1,.int (wy O.2 t.2).2]):=zB;generalize upd H5 sp (.tup [.int (wy O.2 t.2).1,.int (wy O.2 t.2).2]) = H6 at ssp esp ⊢;have eD6:=ssp _ _ eD5;refine ⟨_,rfl,D,rfl,.inl ⟨⟨_,SqL.of eD6⟩,λcc G hG=>zDy (K:=K) (a:=D) (xs:=zZ (O :: rest)) (λi σ ys H'=>yG H6 H'/\H' G = some (.lst ys)/\ys.length = (((O :: rest).take i).filter λA=>decide (0 < tn2 (wy O.2 A.2) (wy O.2 t.2))).length/\i<=63/\∃ u:Option V,σ = [u,some (.ref D),some (.ref sp)])
    ⟨zE hG _,zB,rfl,by decide,none,rfl⟩ (λi σ ys H' _ ⟨e1,e2,_⟩=>⟨SqL.of (e1 _ _ eD6),e2⟩) ?_ ?_⟩⟩
   ·rintro i v σ ys H' hi ⟨sH,eG,hys,hi63,u,rfl⟩;have hil:i < (O :: rest).length:=by have z:=(List.getElem?_eq_some_iff.mp hi).1; simpa [zZ] using z
    unfold zZ at hi;rw [List.getElem?_map] at hi;cases gt:(O :: rest)[i]? with
    | none=>rw [gt] at hi; cases hi
    | some A =>
     rw [gt] at hi;cases hi;have okA:=(((ok4 A (List.mem_of_getElem? gt)).same s5).same ssp).same sH;have et:(O :: rest).take (i + 1) = (O :: rest).take i ++ [A]:=by rw [List.take_add_one,gt]; rfl
     have ln:ys.length<=63:=by
      rw [hys];exact Nat.le_trans (List.length_filter_le _ _) (Nat.le_trans (List.length_take_le _ _) hi63)
     refine ⟨_,rfl,D,_,_,.ref O.1,rfl,rfl,.inl (SqL.of (sH _ _ eD6)),at0,_,rfl,O,A,rfl,(okO.same ssp).same sH,okA,λb3 b4 aw haw=>?_⟩;have saw:=zE haw (.tup [.int (wy O.2 A.2).1,.int (wy O.2 A.2).2]);have eaw:upd H' aw (.tup [.int (wy O.2 A.2).1,.int (wy O.2 A.2).2]) aw = some (.tup [.int (wy O.2 A.2).1,.int (wy O.2 A.2).2]):=zB;generalize upd H' aw (.tup [.int (wy O.2 A.2).1,.int (wy O.2 A.2).2]) = H7 at saw eaw ⊢;refine ⟨_,rfl,aw,sp,_,_,_,_,rfl,eaw,saw _ _ (sH _ _ esp),b3,b4,b1,b2,_,_,rfl,rfl,_,rfl,?_⟩;refine ifD (λhp=>?_) (λhp=>?_)
     ·have hp':0 < tn2 (wy O.2 A.2) (wy O.2 t.2):=hp;refine ⟨_,rfl,saw _ _ eG,yB (by omega),(sH.trans saw).putNew hG,zB,?_,by rw [List.length_cons] at hil; omega,_,rfl⟩;rw [et,List.filter_append,List.length_append,List.length_append,hys];rw [show [A].filter (λA=>decide (0 < tn2 (wy O.2 A.2) (wy O.2 t.2))) = [A] from by
       rw [List.filter_cons,if_pos (decide_eq_true hp')]; rfl]
      rfl
     ·have hp':¬ 0 < tn2 (wy O.2 A.2) (wy O.2 t.2):=hp;refine ⟨sH.trans saw,saw _ _ eG,?_,by rw [List.length_cons] at hil; omega,_,rfl⟩;rw [et,List.filter_append,List.length_append,hys];rw [show [A].filter (λA=>decide (0 < tn2 (wy O.2 A.2) (wy O.2 t.2))) = [] from by
       rw [List.filter_cons,if_neg (λz=>hp' (of_decide_eq_true z))]; rfl]
      rfl
   ·rintro σ ys H' ⟨sH,eG,hys,_,u,rfl⟩;refine ⟨G,_,rfl,.inl (SqL.of eG),?_,ssp.trans sH⟩;rw [show (zZ (O :: rest)).length = (O :: rest).length from List.length_map _,List.take_length] at hys;rw [hys,zN8 (ok4 t (.tail _ ht))];unfold zP0;rw [List.filter_map,List.length_map];rfl
  ·obtain ⟨vs,ev,pv,hah,hpw⟩:=zQ8 (H:=H4) (λt ht=>⟨ok4 t ht,(ok2 t ht).2⟩) co.nodup co.mem co.rises pm pw;refine ⟨c1,p,_,_,rfl,rfl,s5 _ _ (sc2 _ _ ec1),ep,?_,λDn hDn=>?_⟩
   ·rw [List.length_map,pm.length_eq,List.length_map,List.length_singleton];exact Nat.le_trans (show 1 + rest.length<=1000 by omega) (by decide)
   ·have z:=fin Dn (O :: vs) H5 (s24.trans s5) hDn (pv.cons O) (λO' rest' e=>by
     injection e with e1 e2
     subst e1 e2;exact ⟨λt ht=>hah t (pv.mem_iff.mp ht),hpw⟩)
    have e:[V.ref O.1] ++ us.map V.ref = zZ (O :: vs):=by
     rw [<- ev];simp [zZ]
    rw [e];exact z
def zAg (K:PySem.W.Frag):Sp:=λvs H Q _=>∃ (l d:Addr) (ss:List Sd) (x y:Int),vs = [.ref l,.ref d]/\SqL K H l (zK ss)/\rR H ss/\Sq K H d [.int x,.int y]/\Q (.bl (vG ss x y)) H
theorem zI3 (F:Fun K "is_way" "is_way" qW f fd) (Z:Zs mg) (yBg:Has P w K mg base "along" 1 ["one", "other"] (sO K)):wL P w K mg base CX0 2 f fd ["sides", "direction"] (zAg K):=by
 refine F.ok zEe (λvs H Q E h=>?_) (λcdv A outer s H vs Q E hr h=>?_)
 ·obtain ⟨l,d,ss,x,y,rfl,_⟩:=h;rfl
 obtain ⟨l,d,ss,x,y,rfl,hl,ok,hd,q⟩:=h;refine ⟨_,(zF (wD PassesOwn.never rfl (xU (pv 0)) (zQ (i:=2) zEe.nd rfl (Or.inl rfl)) (zJ (xC (zU zC6 (zH yBg (hr.mono (by decide)) rfl (zA (pv 2) (zA (pv 1) zD))) zC (zX _)) (zJ (zR zDt)) zY)))
   (zJ (zR zDt))),?_⟩
 try dsimp only [L2.cxOf]
 refine ⟨_,rfl,l,rfl,.inl ⟨⟨_,hl⟩,xL (K:=K) (a:=l) (xs:=zK ss) (λi σ H'=>H' = H/\(∀ j t,j < i->ss[j]? = some t->t.2.1 * x + t.2.2.1 * y<=0)/\∃ u2:Option V,σ = [some (.ref l),some (.ref d),u2])
  ⟨rfl,λj t hj=>absurd hj (Nat.not_lt_zero _),none,rfl⟩ (λi σ H' _ ⟨e,_⟩=>by rw [e]; exact hl) ?_ ?_⟩⟩
 ·rintro i v σ H' hi ⟨rfl,hall,u2,rfl⟩;obtain ⟨t,gt,rfl,hil⟩:=xP hi;obtain ⟨et,_,b1,b2,_⟩:=ok t (List.mem_of_getElem? gt);refine ⟨_,rfl,_,rfl,t.1,d,_,_,t.2.1,t.2.2.1,x,y,rfl,.inr (SqT.of et),hd,rfl,rfl,rfl,rfl,by omega,by omega,_,_,rfl,rfl,_,rfl,?_⟩;refine ifD (λhpos=>?_) (λhneg=>?_)
  ·have e:vG ss x y = false:=by
    unfold vG;rw [Bool.eq_false_iff];intro z;have z2:=of_decide_eq_true (List.all_eq_true.mp z t (List.mem_of_getElem? gt));omega
   rw [e] at q;exact q
  ·refine ⟨rfl,λj t' hj ht'=>?_,_,rfl⟩;by_cases e:j = i
   ·rw [e,gt] at ht';cases ht';omega
   ·exact hall j t' (by omega) ht'
 ·rintro σ H' ⟨rfl,hall,u2,rfl⟩;have e:vG ss x y = true:=by
   unfold vG;rw [List.all_eq_true];intro t ht;obtain ⟨j,hj,ej⟩:=List.getElem_of_mem ht;exact decide_eq_true (hall j t (by rw [zI]; exact hj) (by rw [List.getElem?_eq_getElem hj,ej]))
  rw [e] at q;exact q
def zEg (K:PySem.W.Frag):Sp:=λvs H Q _=>∃ (l:Addr) (ss:List Sd),vs = [.ref l]/\SqL K H l (zK ss)/\rR H ss/\ss.length<=400 /\
 ∀ (p:Addr) (us:List (Addr × List Int)) (H':Hp),yG H H'->H p = none->zTx H' p ss us->Q (.ref p) H'
theorem zLu (F:Fun K "ways" "ways" zCq f fd) (Z:Zs mg) (yBb:Has P w K mg base "is_way" 2 ["sides", "direction"] (zAg K)) (yBh:Has P w K mg base "plain" 3 ["direction"] (zB1 K)):wL P w K mg base CX0 4 f fd ["sides"] (zEg K):=by
 refine F.ok zA2 (λvs H Q E h=>?_) (λcdv A outer s H vs Q E hr h=>?_)
 ·obtain ⟨l,ss,rfl,_⟩:=h;rfl
 obtain ⟨l,ss,rfl,hl,ok,h31,q⟩:=h;have nz:∀ t∈ss,t.2.1≠0\/t.2.2.1≠0:=λt ht=>(ok t ht).2.1;have hu1:=Nat.lt_of_le_of_lt (Nat.add_le_add_left (show 1<=64 by decide) _) hr.units;refine ⟨_,(zF (zT (i:=1) zA2.nd rfl (Or.inl rfl) zCx)
   (zF (wD PassesOwn.never rfl (xU (pv 0)) (zQ (i:=2) zA2.nd rfl (Or.inl rfl)) (zJ (wD PassesOwn.never rfl (zIr (wE (zA (xE (zA (zKq zE8 (zO zL (pv 2) zC (λ_ _=>rfl))) (zA (zO zL (pv 2) zC (λ_ _=>rfl)) zD))) (zA (xE (zA (zO zL (pv 2) zC (λ_ _=>rfl)) (zA (zKq zE8 (zO zL (pv 2) zC (λ_ _=>rfl))) zD))) zD)))) (zQ (i:=3) zA2.nd rfl (Or.inl rfl)) (zJ (xC (tN (zH yBb (hr.mono (by decide)) rfl (zA (pv 0) (zA (pv 3) zD)))) (zJ (zFl hu1 (pv 1) (zH yBh (hr.mono (by decide)) rfl (zA (pv 3) zD)) zDt rfl)) zY)))))
   (zJ (zR (zW zHv rfl Z.sorted rW (zA (xA (rT rfl) rfl Z.list uV (zA (pv 1) zD)) zD)))))),?_⟩
 try dsimp only [L2.cxOf]
 refine λd hd=>?_;have two:∀ k,WK ss ss.length k->k.length = 1 + 1:=λk ⟨_,t,_,_,h⟩=>by
  rcases h with ⟨e,_⟩ | ⟨e,_⟩ <;> rw [e] <;> rfl
 refine ⟨_,rfl,l,rfl,.inl ⟨⟨_,(zE hd _).seq hl⟩,xL (K:=K) (a:=l) (xs:=zK ss) (λi σ H'=>yG H H'/\(∃ kvs ks,H' d = some (.dT kvs)/\zI5 kvs ks/\ks.length<=2 * i/\∀ k,k∈ks↔WK ss i k)/\∃ u2 u3:Option V,σ = [some (.ref l),some (.ref d),u2,u3])
  ⟨zE hd _,⟨[],[],zB,.nil,Nat.le_refl _,λk=>⟨(λz=>nomatch z),λz=>absurd z (zR5 ss k)⟩⟩,none,none,rfl⟩ (λi σ H' _ ⟨e,_⟩=>e.seq hl) ?_ ?_⟩⟩
 ·rintro i v σ H' hi ⟨sH,⟨kvs,ks,eD,tk,hks,mem⟩,u2,u3,rfl⟩;obtain ⟨t,gt,rfl,hil⟩:=xP hi;obtain ⟨et0,nt,b1,b2,_⟩:=ok t (List.mem_of_getElem? gt);have et:=sH _ _ et0;have st:Sq K H' t.1 [.int t.2.1,.int t.2.2.1,.int t.2.2.2]:=.inr (SqT.of et);refine ⟨_,rfl,t.1,_,_,.int t.2.2.1,rfl,rfl,st,rfl,_,rfl,_,rfl,t.1,_,_,.int t.2.1,rfl,rfl,st,rfl,(by show 2<=sizeLine; decide),λp1 hp1=>?_⟩;have sp1:yG H' (upd H' p1 (.tup [.int (-t.2.2.1),.int t.2.1])):=zE hp1 _;have ep1:upd H' p1 (.tup [.int (-t.2.2.1),.int t.2.1]) p1 = some (.tup [.int (-t.2.2.1),.int t.2.1]):=zB;generalize upd H' p1 (.tup [.int (-t.2.2.1),.int t.2.1]) = G1 at sp1 ep1 ⊢;have st1:=st.same sp1;refine ⟨_,rfl,t.1,_,_,.int t.2.2.1,rfl,rfl,st1,rfl,_,rfl,t.1,_,_,.int t.2.1,rfl,rfl,st1,rfl,_,rfl,(by show 2<=sizeLine; decide),λp2 hp2=>?_⟩;have sp2:yG G1 (upd G1 p2 (.tup [.int t.2.2.1,.int (-t.2.1)])):=zE hp2 _;have ep2:upd G1 p2 (.tup [.int t.2.2.1,.int (-t.2.1)]) p2 = some (.tup [.int t.2.2.1,.int (-t.2.1)]):=zB;generalize upd G1 p2 (.tup [.int t.2.2.1,.int (-t.2.1)]) = G2 at sp2 ep2 ⊢;refine ⟨(by show 2<=sizeLine; decide),λpl hpl=>?_⟩;have spl:yG G2 (upd G2 pl (.lst [.ref p1,.ref p2])):=zE hpl _;have epl:upd G2 pl (.lst [.ref p1,.ref p2]) pl = some (.lst [.ref p1,.ref p2]):=zB;have sAll:=(sp1.trans sp2).trans spl;have ep1':=spl _ _ (sp2 _ _ ep1);have ep2':=spl _ _ ep2;have eD':=sAll _ _ eD;generalize upd G2 pl (.lst [.ref p1,.ref p2]) = G3 at spl epl sAll ep1' ep2' eD' ⊢;have npl:pl≠d:=λz=>by rw [z] at epl; rw [epl] at eD'; cases eD'
  refine ⟨pl,rfl,⟨_,SqL.of epl⟩,xL (K:=K) (a:=pl) (xs:=[.ref p1,.ref p2]) (λj σ H'=>yG H H'/\H' pl = some (.lst [.ref p1,.ref p2])/\H' p1 = some (.tup [.int (-t.2.2.1),.int t.2.1])/\H' p2 = some (.tup [.int t.2.2.1,.int (-t.2.1)]) /\
    (∃ kvs ks,H' d = some (.dT kvs)/\zI5 kvs ks/\ks.length<=2 * i + j/\∀ k,k∈ks↔WK ss i k\/(0 < j/\k = tJ [-t.2.2.1,t.2.1]/\vG ss (-t.2.2.1) t.2.1 = true)\/(1 < j/\k = tJ [t.2.2.1,-t.2.1]/\vG ss t.2.2.1 (-t.2.1) = true))/\∃ u3:Option V,σ = [some (.ref l),some (.ref d),some (.ref t.1),u3])
   ⟨sH.trans sAll,epl,ep1',ep2',⟨kvs,ks,eD',tk,by omega,λk=>(mem k).trans ⟨.inl,λz=>by
    rcases z with z | ⟨z,_⟩ | ⟨z,_⟩
    ·exact z
    ·exact absurd z (Nat.not_lt_zero _)
    ·exact absurd z (Nat.not_lt_zero _)⟩⟩,_,rfl⟩ (λi σ H' _ ⟨_,e,_⟩=>SqL.of e) ?_ ?_⟩
  ·rintro j v σ H4 hj ⟨s4,e4l,e41,e42,⟨kvs,ks,eD4,tk,hks4,mem⟩,u3,rfl⟩;have hj2:j < 2:=(List.getElem?_eq_some_iff.mp hj).1;obtain ⟨pj,X,Y,rfl,epj,hXY,hn,bX,bY⟩:∃ (pj:Addr) (X Y:Int),v = .ref pj/\H4 pj = some (.tup [.int X,.int Y])/\((j = 0/\X = -t.2.2.1/\Y = t.2.1)\/(j = 1/\X = t.2.2.1/\Y = -t.2.1))/\(X≠0\/Y≠0)/\X.natAbs<=10 ^ 9/\Y.natAbs<=10 ^ 9:=by
    match j,hj with
    | 0,h=>cases h; exact ⟨p1,_,_,rfl,e41,.inl ⟨rfl,rfl,rfl⟩,by omega,by omega,by omega⟩
    | 1,h=>cases h; exact ⟨p2,_,_,rfl,e42,.inr ⟨rfl,rfl,rfl⟩,by omega,by omega,by omega⟩
   have step:∀ k,(k = tJ [X,Y]/\vG ss X Y = true)\/(WK ss i k\/(0 < j/\k = tJ [-t.2.2.1,t.2.1]/\vG ss (-t.2.2.1) t.2.1 = true)\/(1 < j/\k = tJ [t.2.2.1,-t.2.1]/\vG ss t.2.2.1 (-t.2.1) = true)) ↔
     WK ss i k\/(0 < j + 1/\k = tJ [-t.2.2.1,t.2.1]/\vG ss (-t.2.2.1) t.2.1 = true)\/(1 < j + 1/\k = tJ [t.2.2.1,-t.2.1]/\vG ss t.2.2.1 (-t.2.1) = true):=λk=>by
    rcases hXY with ⟨rfl,rfl,rfl⟩ | ⟨rfl,rfl,rfl⟩
    ·constructor
     ·rintro (h | h | h | h)
      ·exact .inr (.inl ⟨by decide,h⟩)
      ·exact .inl h
      ·exact absurd h.1 (by decide)
      ·exact absurd h.1 (by decide)
     ·rintro (h | h | h)
      ·exact .inr (.inl h)
      ·exact .inl h.2
      ·exact absurd h.1 (by decide)
    ·constructor
     ·rintro (h | h | h | h)
      ·exact .inr (.inr ⟨by decide,h⟩)
      ·exact .inl h
      ·exact .inr (.inl ⟨by decide,h.2⟩)
      ·exact absurd h.1 (by decide)
     ·rintro (h | h | h)
      ·exact .inr (.inl h)
      ·exact .inr (.inr (.inl ⟨by decide,h.2⟩))
      ·exact .inl h.2
   obtain ⟨gp,g6⟩:=gcd2 hn bX bY;refine ⟨_,rfl,_,rfl,l,pj,ss,X,Y,rfl,s4.seq hl,ok.same s4,.inr (SqT.of epj),_,rfl,?_⟩;by_cases hw:vG ss X Y = true
   ·rw [hw];refine zCb ?_;refine ⟨_,rfl,_,rfl,pj,[X,Y],rfl,.inr (SqT.of epj),by show 2<=1000; decide,gp,g6,λpk G5 s5 hpk epk=>?_⟩;have eD5:=s5 _ _ eD4;obtain ⟨ks',tk',mem',len'⟩:=tk.put (tJ [X,Y]) (.bl true);have kl:=tk.len;refine ⟨d,_,rfl,zQh.t eD5 (by rw [qA]; exact epk) (by rw [kl]; exact Nat.lt_of_le_of_lt (Nat.le_trans hks4 (show 2 * i + j<=1000 by omega)) (by decide)),?_⟩;have keepT:∀ (b:Addr) (xs:List V),G5 b = some (.tup xs)->upd G5 d (.dT (zEh kvs (zCj (tJ [X,Y])) (.bl true))) b = some (.tup xs):=λb xs e=>by
     rw [zP (sZ e eD5 (by intro z; cases z))];exact e
    refine ⟨(s4.trans s5).putNew hd,?_,keepT _ _ (s5 _ _ e41),keepT _ _ (s5 _ _ e42),⟨_,ks',zB,tk',by omega,λk=>?_⟩,_,rfl⟩
    ·rw [zP npl];exact s5 _ _ e4l
    ·rw [mem' k,<- step k,<- mem k];constructor
     ·rintro (h | h)
      ·exact .inr h
      ·exact .inl ⟨h,hw⟩
     ·rintro (h | h)
      ·exact .inr h.1
      ·exact .inl h
   ·have hw':vG ss X Y = false:=by simpa using hw
    rw [hw'];refine vD ?_;refine ⟨s4,e4l,e41,e42,⟨kvs,ks,eD4,tk,by omega,λk=>?_⟩,_,rfl⟩;rw [mem k,<- step k];constructor
    ·exact .inr
    ·rintro (h | h)
     ·exact absurd h.2 hw
     ·exact h
  ·rintro σ H4 ⟨s4,_,_,_,⟨kvs,ks,eD4,tk,hks4,mem⟩,u3,rfl⟩;refine ⟨s4,⟨kvs,ks,eD4,tk,by show ks.length<=2 * (i + 1); have:ks.length<=2 * i + 2:=hks4; omega,λk=>?_⟩,_,_,rfl⟩;rw [mem k,zR9 gt];constructor
   ·rintro (h | h | h)
    ·exact .inl h
    ·exact .inr (.inl h.2)
    ·exact .inr (.inr h.2)
   ·rintro (h | h | h)
    ·exact .inl h
    ·exact .inr (.inl ⟨by show 0 < 2; decide,h⟩)
    ·exact .inr (.inr ⟨by show 1 < 2; decide,h⟩)
 ·rintro σ H' ⟨sH,⟨kvs,ks,eD,tk,hks,mem⟩,u2,u3,rfl⟩;rw [zI] at hks mem;refine ⟨_,rfl,d,kvs,rfl,eD,λp1 ts hp1 ets hts=>?_⟩;have sp1:=zE hp1 (.lst ((ts.map (·.1)).map V.ref));obtain ⟨us,u1,u2,u3⟩:=tk.refs ets hts;have few2:=zPf nz tk.nodup λk hk=>(mem k).mp hk;refine ⟨p1,us,1,rfl,by rw [u1]; exact SqL.of zB,by have z:=congrArg List.length u2; rw [List.length_map] at z; omega,λt ht=>⟨sp1 _ _ (u3 t ht),?_⟩,λp2 us2 hp2 pm ri=>?_⟩
  ·have z:t.2∈ks:=by rw [<- u2]; exact List.mem_map_of_mem ht
   exact two t.2 ((mem _).mp z)
  have sp2:=zE hp2 (.lst ((us2.map (·.1)).map V.ref));have pm2:(us2.map (·.2)).Perm ks:=by rw [<- u2]; exact pm.map _
  refine q p2 us2 _ (((sH).trans sp1).trans sp2) ((sH).free (sp1.free hp2)) ⟨zB,λu hu=>sp2 _ _ (sp1 _ _ (u3 u (pm.mem_iff.mp hu))),List.pairwise_map.mpr ri,pm2.nodup_iff.mpr tk.nodup,λk=>(pm2.mem_iff).trans (mem k),by have z:=pm2.length_eq; rw [List.length_map] at z; omega⟩
def qL (K:PySem.W.Frag):Sp:=λvs H Q _=>∃ (l:Addr) (ss:List Sd),vs = [.ref l]/\SqL K H l (zK ss)/\rR H ss/\ss.length<=400 /\
 ∀ (b:Bool) (H':Hp),yG H H'->(b = true↔(ss≠[]/\∀ k,¬ WK ss ss.length k))->Q (.bl b) H'
theorem zC5 (F:Fun K "has_no_way" "has_no_way" vA f fd) (Z:Zs mg) (yBs:Has P w K mg base "ways" 4 ["sides"] (zEg K)):wL P w K mg base CX0 5 f fd ["sides"] (qL K):=by
 refine F.ok zD0 (λvs H Q E h=>?_) (λcdv A outer s H vs Q E hr h=>?_)
 ·obtain ⟨l,ss,rfl,_⟩:=h;rfl
 obtain ⟨l,ss,rfl,hl,ok,h400,q⟩:=h;have hu:=hr.units0;refine ⟨_,(zJ (zR (zSp (tW zC6 (zW zV rfl Z.len wQ (zA (pv 0) zD)) zC (zX _)) (zN6 (tW (zSr hu) (zH yBs (hr.mono (by decide)) rfl (zA (pv 0) zD)) (wE zD) (zX _)))))),?_⟩
 try dsimp only [L2.cxOf]
 refine ⟨_,rfl,l,_,rfl,.inl hl,_,_,rfl,rfl,_,rfl,?_⟩;rw [zI];refine ifD (λhpos=>?_) (λhneg=>?_)
 ·refine ⟨_,rfl,l,ss,rfl,hl,ok,h400,λp us H1 s1 hp wa=>?_⟩;refine ⟨(by show 0<=sizeLine; decide),λz hz=>?_⟩;have sz:=zE hz (.lst []);refine ⟨p,z,us.map (·.1),rfl,rfl,SqL.of (sz _ _ wa.at'),SqL.of zB,q _ _ (s1.trans sz) ?_⟩;have hne:ss≠[]:=λz=>by rw [z] at hpos; exact absurd hpos (by decide)
  cases us with
  | nil=>exact ⟨λ_=>⟨hne,(λk hk=>nomatch (wa.mem k).mpr hk)⟩,λ_=>rfl⟩
  | cons u us=>exact ⟨(λz=>nomatch z),λz=>absurd ((wa.mem u.2).mp (List.mem_map_of_mem List.mem_cons_self)) (z.2 u.2)⟩
 ·refine q false H (yG.refl _) ⟨(λz=>nomatch z),λz=>absurd (List.length_pos_iff.mpr z.1) (λq=>hneg (by omega))⟩
theorem cBf {i j:Int} {m n:Nat} (hi:i.natAbs<=m) (hj:j.natAbs<=n) (h1:m < 2 ^ 4096) (h2:n < 2 ^ 4096):zB3 i j:=⟨Nat.lt_of_le_of_lt hi h1,Nat.lt_of_le_of_lt hj h2⟩
theorem zOb {a b c:Int} (ha:a.natAbs<=10 ^ 19) (hb:b.natAbs<=10 ^ 19) (hc:c.natAbs<=10 ^ 19):(2 * a ^ 2 * b * c).natAbs<=2 * 10 ^ 76/\(2 * a ^ 2 * b).natAbs<=2 * 10 ^ 57/\(2 * a ^ 2).natAbs<=2 * 10 ^ 38/\(a ^ 2).natAbs<=10 ^ 38:=by
 have e1:(10:Nat) ^ 19 * 10 ^ 19 = 10 ^ 38:=by decide +kernel
 have e2:2 * (10:Nat) ^ 38 * 10 ^ 19 = 2 * 10 ^ 57:=by decide +kernel
 have e3:2 * (10:Nat) ^ 57 * 10 ^ 19 = 2 * 10 ^ 76:=by decide +kernel
 have z0:=zG a a ha ha;rw [e1] at z0;have ep:a ^ 2 = a * a:=by rw [Int.pow_succ,Int.pow_succ,Int.pow_zero,Int.one_mul]
 rw [ep];have z1:(2 * (a * a)).natAbs<=2 * 10 ^ 38:=by omega
 have z2:=zG (2 * (a * a)) b z1 hb;rw [e2] at z2;have z3:=zG (2 * (a * a) * b) c z2 hc;rw [e3] at z3;exact ⟨z3,z2,z1,z0⟩
def zA8 (K:PySem.W.Frag):Sp:=λvs H Q _=>∃ (r s t:SpT),vs = [.ref r.1,.ref s.1,.ref t.1]/\zEn H r/\zEn H s/\zEn H t/\zH7 r.2/\zH7 s.2/\zH7 t.2 /\
 ∀ (p:Addr) (x y:Int) (H':Hp),yG H H'->H p = none->H' p = some (.tup [.int x,.int y])->rP (r.2.2.2 * c3 r.2 s.2 t.2) (2 * r.2.2.2 ^ 2 * s.2.2.2 * t.2.2.2) x y->Q (.ref p) H'
theorem zGa (F:Fun K "triangle" "triangle" tQ f fd) (Z:Zs mg) (yBx:Has P w K mg base "part" 4 ["top", "bottom"] (sF K)) (yBp:Has P w K mg base "turn" 1 ["one", "other"] (wM K)) (yBc:Has P w K mg base "way_to" 1 ["start", "end"] (zAd K)) (yAx:Has P w K mg base "turn" 1 ["one", "other"] (zAn K)):wL P w K mg base CX0 5 f fd ["first", "one", "other"] (zA8 K):=by
 refine F.ok zA0 (λvs H Q E h=>?_) (λcdv A outer s H vs Q E hr h=>?_)
 ·obtain ⟨r,s,t,rfl,_⟩:=h;rfl
 obtain ⟨r,u,t,rfl,okr,oku,okt,fr,fu,ft,q⟩:=h;refine ⟨_,(zF (zT (i:=3) zA0.nd rfl (Or.inl rfl) (zH yAx (hr.mono (by decide)) rfl (zA (zH yBc (hr.mono (by decide)) rfl (zA (pv 0) (zA (pv 1) zD))) (zA (zH yBc (hr.mono (by decide)) rfl (zA (pv 0) (zA (pv 2) zD))) zD))))
   (zJ (zR (zH yBx (hr.mono (by decide)) rfl (zA (pv 3) (zA (zN xH (zN xH (zN xH zC (zN zNv (zO zL (pv 0) zC (λ_ _=>rfl)) zC)) (zO zL (pv 1) zC (λ_ _=>rfl))) (zO zL (pv 2) zC (λ_ _=>rfl))) zD)))))),?_⟩
 try dsimp only [L2.cxOf]
 refine ⟨_,rfl,_,rfl,r,u,rfl,okr,oku,λb1 b2 p1 hp1=>?_⟩;have s1:=zE hp1 (.tup [.int (wy r.2 u.2).1,.int (wy r.2 u.2).2]);have e1:upd H p1 (.tup [.int (wy r.2 u.2).1,.int (wy r.2 u.2).2]) p1 = some (.tup [.int (wy r.2 u.2).1,.int (wy r.2 u.2).2]):=zB;generalize upd H p1 (.tup [.int (wy r.2 u.2).1,.int (wy r.2 u.2).2]) = H1 at s1 e1 ⊢;refine ⟨_,rfl,_,rfl,r,t,rfl,okr.same s1,okt.same s1,λb3 b4 p2 hp2=>?_⟩;have s2:=zE hp2 (.tup [.int (wy r.2 t.2).1,.int (wy r.2 t.2).2]);have e2:upd H1 p2 (.tup [.int (wy r.2 t.2).1,.int (wy r.2 t.2).2]) p2 = some (.tup [.int (wy r.2 t.2).1,.int (wy r.2 t.2).2]):=zB;generalize upd H1 p2 (.tup [.int (wy r.2 t.2).1,.int (wy r.2 t.2).2]) = H2 at s2 e2 ⊢;refine ⟨p1,p2,_,_,_,_,rfl,s2 _ _ e1,e2,b1,b2,b3,b4,?_⟩;have s12:=s1.trans s2;obtain ⟨z1,z2,z3,z4⟩:=zOb fr.w fu.w ft.w;have k1:2 * 10 ^ 57 < 2 ^ 4096:=by decide +kernel
 have k2:2 * 10 ^ 38 < 2 ^ 4096:=by decide +kernel
 have k3:10 ^ 19 < 2 ^ 4096:=by decide +kernel
 have k4:10 ^ 38 < 2 ^ 4096:=by decide +kernel
 have fqr:Sq K H2 r.1 [.int r.2.1,.int r.2.2.1,.int r.2.2.2]:=.inr (SqT.of (s12 _ _ okr.1));have fqu:Sq K H2 u.1 [.int u.2.1,.int u.2.2.1,.int u.2.2.2]:=.inr (SqT.of (s12 _ _ oku.1));have fqt:Sq K H2 t.1 [.int t.2.1,.int t.2.2.1,.int t.2.2.2]:=.inr (SqT.of (s12 _ _ okt.1));have hw:=fr.w;have pz:=Int.mul_ne_zero (Int.mul_ne_zero (Int.mul_ne_zero (show (2:Int)≠0 by decide) (Int.pow_ne_zero (m:=2) (Int.ne_of_gt fr.pos))) (Int.ne_of_gt fu.pos)) (Int.ne_of_gt ft.pos);refine ⟨_,rfl,_,rfl,r.1,_,_,.int r.2.2.2,rfl,rfl,fqr,rfl,_,_,rfl,rfl,⟨by decide,by decide,Nat.lt_of_le_of_lt hw (by decide)⟩,_,_,rfl,rfl,cBf (m:=2) (n:=10 ^ 38) (by decide) z4 (by decide +kernel) k4,_,rfl,u.1,_,_,.int u.2.2.2,rfl,rfl,fqu,rfl,_,_,rfl,rfl,cBf z3 fu.w k2 k3,_,rfl,t.1,_,_,.int t.2.2.2,rfl,rfl,fqt,rfl,_,_,rfl,rfl,cBf z2 ft.w k1 k3,_,_,rfl,pz,Nat.lt_of_le_of_lt z1 (by decide +kernel),λp x y H3 s3 hp ep po=>?_⟩;refine q p x y H3 (s12.trans s3) (s12.free hp) ep ?_;have e:(wy r.2 u.2).1 * (wy r.2 t.2).2 - (wy r.2 u.2).2 * (wy r.2 t.2).1 = r.2.2.2 * c3 r.2 u.2 t.2:=zN2 r.2 u.2 t.2;rw [e] at po;exact po
structure RgA (ss:List Sd) (O:P3) (rest:List P3):Prop where
 rg:Rg ss O rest
 ah:∀ A∈rest,∀ a b:Nat,ahB (a,O) (b,A) = true
 few:rest.length + 1<=ss.length
def rAt (O:P3) (rest:List P3) (i:Nat):P3:=rest.getD i O
theorem rQ {O:P3} {rest:List P3} {i:Nat} (h:i < rest.length):rAt O rest i = rest[i]:=by
 unfold rAt;rw [List.getD_eq_getElem?_getD,List.getElem?_eq_getElem h];rfl
theorem RgA.fine {ss:List Sd} {O:P3} {rest:List P3} (R:RgA ss O rest) (sm:∀ t∈ss,t.2.1.natAbs<=10 ^ 9/\t.2.2.1.natAbs<=10 ^ 9/\t.2.2.2.natAbs<=10 ^ 13):zH7 O/\∀ i,zH7 (rAt O rest i):=by
 have hO:=zJj sm R.rg.cO;refine ⟨hO,λi=>?_⟩;by_cases h:i < rest.length
 ·rw [rQ h];exact zJj sm (R.rg.cA h)
 ·unfold rAt;rw [List.getD_eq_getElem?_getD,List.getElem?_eq_none (by omega)];exact hO
theorem zRx {s t:SpT} {a b:Nat} : ahB (a,s.2) (b,t.2) = ahB s t:=rfl
theorem zTg {H:Hp} {D:Addr} {ss:List Sd} {O:SpT} {rest:List SpT} (nz:∀ t∈ss,t.2.1≠0\/t.2.2.1≠0) (ne:ss≠[]) (nw:∀ k,¬ WK ss ss.length k) (ra:zM7 H D ss (O :: rest)):RgA ss O.2 (rest.map (·.2)):=by
 obtain ⟨hah,hpw⟩:=ra.first O rest rfl;have nd:=ra.nodup;rw [List.map_cons,List.nodup_cons] at nd;refine ⟨⟨nz,ne,λx y hxy=>zP4 nz ne nw hxy,ra.mem,λA hA=>?_,List.pairwise_map.mpr hpw⟩,λA hA a b=>?_,?_⟩
 ·obtain ⟨a,ha,rfl⟩:=List.mem_map.mp hA;exact ⟨λz=>nd.1 (z ▸ List.mem_map_of_mem ha),zDw (hah a ha)⟩
 ·obtain ⟨t,ht,rfl⟩:=List.mem_map.mp hA;rw [zRx];exact hah t ht
 ·have z:=ra.few;rw [List.length_cons] at z;rw [List.length_map];exact z
theorem zNs {H:Hp} {D:Addr} {ss:List Sd} {us:List SpT} (nz:∀ t∈ss,t.2.1≠0\/t.2.2.1≠0) (ne:ss≠[]) (nw:∀ k,¬ WK ss ss.length k) (ra:zM7 H D ss us) {z:P3} (zw:0 < z.2.2) (zin:inW ss z):us≠[]:=λe=>by
 subst e;have q:=hull nz ne (λx y hxy=>zP4 nz ne nw hxy) (g:=(0,0,-1)) (λC cC=>by have z:=(ra.mem C).mpr cC; cases z) zw zin;unfold sv at q;dsimp only at q;omega
def zH2 (ss:List Sd) (v:V) (H:Hp):Prop :=
 ((∀ z:P3,0 < z.2.2->¬ inW ss z)/\∃ p,v = .ref p/\H p = some (.tup [.int 0,.int 1]))\/((∃ z:P3,0 < z.2.2/\inW ss z)/\¬ (ss≠[]/\∀ k,¬ WK ss ss.length k)/\v = .non) \/
 ((∃ z:P3,0 < z.2.2/\inW ss z)/\(ss≠[]/\∀ k,¬ WK ss ss.length k)/\∃ (p:Addr) (s t:Int) (O:P3) (rest:List P3),RgA ss O rest/\v = .ref p/\H p = some (.tup [.int s,.int t])/\Fq s t (arS O (rAt O rest) (rest.length - 1)).1 (arB O (rAt O rest) (rest.length - 1)))
theorem zS9 {K:PySem.W.Frag} {H:Hp} {ss:List Sd} {Q:VK} (h:∀ (v:V) (H':Hp),vL K H H'->zDs K H'->zH2 ss v H'->Q v H') :
  (∀ (p:Addr) (H':Hp),vL K H H'->zDs K H'->(∀ z:P3,0 < z.2.2->¬ inW ss z)->H' p = some (.tup [.int 0,.int 1])->Q (.ref p) H') /\
  (∀ H':Hp,vL K H H'->zDs K H'->(∃ z:P3,0 < z.2.2/\inW ss z)->¬ (ss≠[]/\∀ k,¬ WK ss ss.length k)->Q .non H') /\
  ∀ (p:Addr) (x y:Int) (H':Hp) (O:P3) (rest:List P3),vL K H H'->zDs K H'->(∃ z:P3,0 < z.2.2/\inW ss z)->(ss≠[]/\∀ k,¬ WK ss ss.length k)->RgA ss O rest->H' p = some (.tup [.int x,.int y])->Fq x y (arS O (rAt O rest) (rest.length - 1)).1 (arB O (rAt O rest) (rest.length - 1))->Q (.ref p) H' :=
 ⟨λp H' s t no e=>h _ _ s t (.inl ⟨no,p,rfl,e⟩),λH' s t pl nc=>h _ _ s t (.inr (.inl ⟨pl,nc,rfl⟩)),λp x y H' O rest s t pl cl R e f=>h _ _ s t (.inr (.inr ⟨pl,cl,p,x,y,O,rest,R,rfl,e,f⟩))⟩
theorem zH2.keep {ss:List Sd} {v:V} {H H':Hp} (h:zH2 ss v H) (k:∀ p xs,H p = some (.tup xs)->H' p = some (.tup xs)):zH2 ss v H':=by
 rcases h with ⟨no,p,e1,e2⟩ | h | ⟨pl,cl,p,s,t,O,rest,R,e1,e2,f⟩
 ·exact .inl ⟨no,p,e1,k _ _ e2⟩
 ·exact .inr (.inl h)
 ·exact .inr (.inr ⟨pl,cl,p,s,t,O,rest,R,e1,k _ _ e2,f⟩)
def zGe (K:PySem.W.Frag):Sp:=λvs H Q _=>∃ (l:Addr) (ss:List Sd),vs = [.ref l]/\SqL K H l (zK ss)/\rR H ss/\ss.length<=18/\zDs K H/\∀ (v:V) (H':Hp),vL K H H'->zDs K H'->zH2 ss v H'->Q v H'
theorem zNb (F:Fun K "area" "area" zCw f fd) (Z:Zs mg) (yBq:Has P w K mg base "plus" 5 ["one", "other"] (zG8 K)) (yAo:Has P w K mg base "triangle" 5 ["first", "one", "other"] (zA8 K)) (yBx:Has P w K mg base "part" 4 ["top", "bottom"] (sF K)) (yBo:Has P w K mg base "ring" 17 ["sides"] (zG4 K)) (yAg:Has P w K mg base "has_no_way" 5 ["sides"] (qL K)) (yAk:Has P w K mg base "some_spot" 9 ["sides"] (tY K)):wL P w K mg base CX0 18 f fd ["sides"] (zGe K):=by
 refine F.ok rY (λvs H Q E h=>?_) (λcdv A outer s H vs Q E hr h=>?_)
 ·obtain ⟨l,ss,rfl,_⟩:=h;rfl
 obtain ⟨l,ss,rfl,hl,ok,h18,tab,qa⟩:=h;obtain ⟨q1,q2,q3⟩:=zS9 (K:=K) qa;have nz:∀ t∈ss,t.2.1≠0\/t.2.2.1≠0:=λt ht=>(ok t ht).2.1;have sm:∀ t∈ss,t.2.1.natAbs<=10 ^ 9/\t.2.2.1.natAbs<=10 ^ 9/\t.2.2.2.natAbs<=10 ^ 13:=λt ht=>(ok t ht).2.2;refine ⟨_,(zF (xC (zU zB4 (zH yAk (hr.mono (by decide)) rfl (zA (pv 0) zD)) xJ (zX _)) (zJ (zR (zH yBx (hr.mono (by decide)) rfl (zA zC (zA zC zD))))) zY)
   (zF (xC (zAy (tN (zH yAg (hr.mono (by decide)) rfl (zA (pv 0) zD)))) (zJ (zR xJ)) zY)
   (zF (zT (i:=1) rY.nd rfl (Or.inl rfl) (zH yBo (hr.mono (by decide)) rfl (zA (pv 0) zD)))
   (zF (zT (i:=2) rY.nd rfl (Or.inl rfl) (zH yBx (hr.mono (by decide)) rfl (zA zC (zA zC zD))))
   (zF (wD PassesOwn.never rfl (zLr rfl Z.range (zA zC (zA (zW zV rfl Z.len wQ (zA (pv 1) zD)) zD))) (zQ (i:=3) rY.nd rfl (Or.inl rfl)) (zJ (zT (i:=2) rY.nd rfl (Or.inl rfl) (zH yBq (hr.mono (by decide)) rfl (zA (pv 2) (zA (zH yAo (hr.mono (by decide)) rfl (zA (zO zL (pv 1) zC (λ_ _=>rfl)) (zA (zO zL (pv 1) (zN xZ (pv 3) zC) (λ_ _=>rfl)) (zA (zO zL (pv 1) (pv 3) (λ_ _=>rfl)) zD)))) zD))))))
   (zJ (zR (pv 2)))))))),?_⟩
 try dsimp only [L2.cxOf]
 refine ⟨_,rfl,l,ss,rfl,hl,ok,by omega,λH1 s1 no=>?_,λsp P H1 s1 asp wsp csp=>?_⟩
 ·refine ⟨rfl,_,rfl,?_⟩;refine zCb ?_;refine ⟨0,1,rfl,by decide,by decide +kernel,λp x y H2 s2 hp ep po=>?_⟩;obtain ⟨rfl,rfl⟩:=zGs (c:=0) (b:=1) po;exact q1 p H2 (vL.of (s1.trans s2)) (tab.same (s1.trans s2)) no ep
 ·refine ⟨rfl,_,rfl,?_⟩;refine vD ?_;have pl:∃ z:P3,0 < z.2.2/\inW ss z:=⟨P,asp.2.1,wsp⟩;refine ⟨_,rfl,l,ss,rfl,s1.seq hl,ok.same s1,by omega,λb H2 s2 hb=>?_⟩;cases b with
  | false =>
   refine ⟨_,rfl,?_⟩;refine zCb ?_;exact q2 H2 (vL.of (s1.trans s2)) (tab.same (s1.trans s2)) pl λz=>absurd (hb.mpr z) Bool.false_ne_true
  | true =>
   refine ⟨_,rfl,?_⟩;refine vD ?_;obtain ⟨hne,hnw⟩:=hb.mp rfl;have s12:=s1.trans s2;refine ⟨_,rfl,l,ss,rfl,s12.seq hl,ok.same s12,by omega,tab.same s12,λD us H3 s3 hD tab3 ra=>?_⟩;have une:=zNs nz hne hnw ra asp.2.1 wsp;have sT3:vL K H H3:=(vL.of s12).trans s3;refine ⟨0,1,rfl,by decide,by decide +kernel,λtp x y H4 s4 htp etp po=>?_⟩;obtain ⟨rfl,rfl⟩:=zGs (c:=0) (b:=1) po;obtain ⟨O,rest,rfl⟩:=List.exists_cons_of_ne_nil une;have R:=zTg nz hne hnw ra;obtain ⟨fO,fr⟩:=R.fine sm;have few:rest.length<=17:=by have z:=ra.few; rw [List.length_cons] at z; omega
   have lm:(rest.map (·.2)).length = rest.length:=List.length_map _;have eD4:=s4 _ _ ra.at';have lr:(zZ (O :: rest)).length = rest.length + 1:=by show (List.map _ (O :: rest)).length = _; rw [List.length_map,List.length_cons]
   have Bp:∀ j,0 < arB O.2 (rAt O.2 (rest.map (·.2))) j:=λj=>zIm fO.pos λi _=>(fr i).pos;refine ⟨_,rfl,D,_,rfl,.inl (SqL.of eD4),2,_,rfl,(by rw [lr]; omega),?_⟩;refine tH (lo:=2) (n:=(((zZ (O :: rest)).length:Int) - 2).toNat) (λj σ H'=>yG H4 H'/\∃ (tq:Addr) (x y:Int),H' tq = some (.tup [.int x,.int y])/\Fq x y (arS O.2 (rAt O.2 (rest.map (·.2))) j).1 (arB O.2 (rAt O.2 (rest.map (·.2))) j)/\∃ u3:Option V,σ = [some (.ref l),some (.ref D),some (.ref tq),u3])
    ⟨yG.refl _,tp,0,1,etp,⟨by decide,rfl,by rw [show (arS O.2 (rAt O.2 (rest.map (·.2))) 0).1 = 0 from rfl]; simp⟩,none,rfl⟩ ?_ ?_
   ·rintro j σ H5 hj ⟨s5,tq,x1,y1,etq,fq,u3,rfl⟩;rw [lr] at hj;have hj1:j + 1 < rest.length:=by omega
    have eD5:=s5 _ _ eD4;have okA:∀ t∈O :: rest,zEn H5 t:=λt ht=>((ra.ok t ht).1.same s4).same s5;have at0:atI (zZ (O :: rest)) 0 = some (.ref O.1):=tZ (j:=0) rfl;have atk:∀ k:Nat,(h:k < rest.length)->∀ i:Int,i = ((k + 1:Nat):Int)->atI (zZ (O :: rest)) i = some (.ref rest[k].1):=λk h i e=>by
     rw [e];refine tZ ?_;unfold zZ;rw [List.getElem?_map,List.getElem?_cons_succ,List.getElem?_eq_getElem h];rfl
    have e1:rAt O.2 (rest.map (·.2)) j = (rest[j]'(by omega)).2:=by rw [rQ (by rw [lm]; omega),List.getElem_map]
    have e2:rAt O.2 (rest.map (·.2)) (j + 1) = (rest[j + 1]).2:=by rw [rQ (by rw [lm]; omega),List.getElem_map]
    have sq:Sq K H5 D (zZ (O :: rest)):=.inl (SqL.of eD5);refine ⟨_,rfl,_,rfl,D,_,_,.ref O.1,rfl,rfl,sq,at0,_,rfl,_,rfl,_,_,rfl,rfl,D,_,_,.ref (rest[j]'(by omega)).1,rfl,rfl,sq,atk j (by omega) _ (by omega),_,rfl,_,rfl,D,_,_,.ref rest[j + 1].1,rfl,rfl,sq,atk (j + 1) hj1 _ (by omega),O,rest[j]'(by omega),rest[j + 1],rfl,okA _ (.head _),okA _ (.tail _ (List.getElem_mem _)),okA _ (.tail _ (List.getElem_mem _)),fO,by rw [<- e1]; exact fr j,by rw [<- e2]; exact fr (j + 1),λp x2 y2 H6 s6 hp ep po=>?_⟩;have y1b:=Nat.le_trans (fq.yle (Int.ne_of_gt (Bp j))) (zM6 fO (by omega) λi _=>fr i);have x1b:=Nat.le_trans (fq.xle (Int.ne_of_gt (Bp j))) (zOe fO (by omega) λi _=>fr i);have fw1:(rest[j]'(by omega)).2.2.2.natAbs<=10 ^ 19:=by have z:=(fr j).w; rwa [e1] at z
    have fw2:rest[j + 1].2.2.2.natAbs<=10 ^ 19:=by have z:=(fr (j + 1)).w; rwa [e2] at z
    have y2b:=Nat.le_trans po.yle (zOb fO.w fw1 fw2).1;have x2b:x2.natAbs<=10 ^ 85:=by
     refine Nat.le_trans po.xle (Nat.le_trans (zG _ _ fO.w (zNn fO (by rw [<- e1]; exact fr j) (by rw [<- e2]; exact fr (j + 1)))) (by decide +kernel))
    have p1:=fq.pos;have p2:=po.pos;refine ⟨tq,p,x1,y1,x2,y2,rfl,s6 _ _ etq,ep,Nat.le_trans x1b (by decide +kernel),Nat.le_trans y1b (by decide +kernel),Nat.le_trans x2b (by decide +kernel),Nat.le_trans y2b (by decide +kernel),by omega,by omega,Nat.lt_of_le_of_lt (zG _ _ y1b y2b) (by decide +kernel),λtr x y H7 s7 htr etr pr=>?_⟩;refine ⟨(s5.trans s6).trans s7,tr,x,y,etr,?_,_,rfl⟩;refine Fq.plus fO.pos (fr j).pos fq ?_ pr;rw [e1,e2];exact po
   ·rintro σ H5 ⟨s5,tq,x,y,etq,fq,u3,rfl⟩;have em:(((zZ (O :: rest)).length:Int) - 2).toNat = (rest.map (·.2)).length - 1:=by rw [lr,lm]; omega
    rw [em] at fq;refine ⟨_,rfl,?_⟩;have s35:=s4.trans s5;exact q3 tq x y H5 O.2 (rest.map (·.2)) (sT3.trans (vL.of s35)) (tab3.same s35) pl ⟨hne,hnw⟩ R etq fq
def zD3 (K:PySem.W.Frag):Sp:=λvs H Q _=>∃ (a:Addr) (us:List V) (x y:Int),vs = [.ref a]/\Sq K H a us/\atI us 0 = some (.int x)/\atI us 1 = some (.int y)/\Q (.int (yZ x y)) H
theorem zMv (F:Fun K "span" "span" zC3 f fd) (Z:Zs mg)  : wL P w K mg base CX0 1 f fd ["direction"] (zD3 K):=by
 refine F.ok zL7 (λvs H Q E h=>?_) (λcdv A outer s H vs Q E hr h=>?_)
 ·obtain ⟨a,us,x,y,rfl,_⟩:=h;rfl
 obtain ⟨a,us,x,y,rfl,ha,h0,h1,q⟩:=h;refine ⟨_,(zJ (zR (zN xO (zW uZ rfl Z.abs qZ (zA (zO zL (pv 0) zC (λ_ _=>rfl)) zD)) (zW uZ rfl Z.abs qZ (zA (zO zL (pv 0) zC (λ_ _=>rfl)) zD))))),?_⟩
 try dsimp only [L2.cxOf]
 exact ⟨_,rfl,a,_,_,.int x,rfl,rfl,ha,h0,_,rfl,_,rfl,a,_,_,.int y,rfl,rfl,ha,h1,_,rfl,_,_,rfl,rfl,q⟩
def qI (K:PySem.W.Frag):Sp:=λvs H Q _=>∃ (a b:Addr) (ns ws:List Int),vs = [.ref a,.ref b]/\SqL K H a (ns.map V.int)/\SqL K H b (ws.map V.int)/\ns.length = ws.length/\ws.length<=900/\0 < yI ws/\(yI ws:Int) < 10 ^ 600 /\
 ∀ (D:Addr) (cs:List Pr) (H':Hp),yG H H'->H D = none->H' D = some (.lst (zA4 cs))->zP8 H' cs->cs.map (·.2) = ns.zip (tJ ws)->Q (.ref D) H'
theorem zHg (F:Fun K "weighed" "weighed" rH f fd) (Z:Zs mg) (yAz:Has P w K mg base "lowest" 2 ["numbers"] (uT K)):wL P w K mg base CX0 3 f fd ["numbers", "weights"] (qI K):=by
 refine F.ok zB8 (λvs H Q E h=>?_) (λcdv A outer s H vs Q E hr h=>?_)
 ·obtain ⟨a,b,ns,ws,rfl,_⟩:=h;rfl
 obtain ⟨a,b,ns,ws,rfl,ha,hb,hn,hl,hg,hg2,q⟩:=h;refine ⟨_,(zF (zT (i:=2) zB8.nd rfl (Or.inr rfl) (zH yAz (hr.mono (by decide)) rfl (zA (pv 1) zD)))
   (zJ (zR (vI (T:=["at"]) (caps:=[("least", 2),("numbers", 0)]) ⟨rfl,by decide +kernel,by decide +kernel,rfl,⟨⟨rfl,rfl,Or.inl rfl⟩,⟨rfl,rfl,Or.inl rfl⟩,True.intro⟩⟩ rfl (uG rfl Z.range (zA (zW zV rfl Z.len wQ (zA (pv 0) zD)) zD)) (λ_=>(zQ (i:=0) (show (["at", "least", "numbers"]:List Str).Nodup by decide +kernel) rfl (Or.inl rfl))) (λ_=>xT) (λ_=>(xE (zA (zO zL (pv 2) (pv 0) (λ_ _=>rfl)) (zA (zO zL (pv 1) (pv 0) (λ_ _=>rfl)) zD)))))))),?_⟩
 try dsimp only [L2.cxOf]
 refine ⟨_,rfl,b,ws,rfl,.inl hb,by omega,hg,hg2,λp H1 s1 hp ep=>?_⟩;have hlow:(tJ ws).length = ws.length:=by unfold tJ; rw [List.length_map]
 have ha1:=s1.seq ha;refine ⟨_,rfl,a,_,rfl,.inl ha1,_,rfl,(by rw [List.length_map]; omega),(by rw [List.length_map]; omega),λcc D hD=>zDu (lo:=0) (n:=(((ns.map V.int).length:Nat):Int).toNat) (λi σ ys G=>yG H1 G/\G D = some (.lst ys)/\(∃ cs:List Pr,ys = zA4 cs/\zP8 G cs/\cs.map (·.2) = (ns.zip (tJ ws)).take i)/\∃ u0:Option V,σ = [u0,some (.ref p),some (.ref a)])
  ⟨zE hD _,zB,⟨[],rfl,(λt ht=>nomatch ht),rfl⟩,none,rfl⟩ (λi σ ys G _ ⟨_,e,_⟩=>e) ?_ ?_⟩
 ·rintro i σ ys G hi ⟨sG,eD,⟨cs,rfl,okc,mc⟩,u0,rfl⟩;rw [Int.toNat_natCast,List.length_map] at hi;have lc:cs.length<=i:=by
   have z:=congrArg List.length mc;rw [List.length_map,List.length_take] at z;omega
  obtain ⟨n,gn,an⟩:=zM9 (ns:=ns) (i:=i) (k:=0 + (i:Int)) (by omega) hi;obtain ⟨m,gm,am⟩:=zM9 (ns:=tJ ws) (i:=i) (k:=0 + (i:Int)) (by omega) (by omega);refine ⟨_,rfl,_,rfl,a,_,_,_,rfl,rfl,.inl (sG.seq ha1),an,_,rfl,_,rfl,p,_,_,_,rfl,rfl,.inr (SqT.of (sG _ _ ep)),am,(by show 2<=sizeLine; decide),λt ht=>?_⟩;have st:=zE ht (.tup [.int n,.int m]);have ntD:t≠D:=λz=>by rw [z,eD] at ht; cases ht
  refine ⟨st _ _ eD,yB (by rw [zFy]; omega),(sG.trans st).putNew hD,zB,⟨cs ++ [(t,n,m)],by simp [zA4],λu hu=>?_,?_⟩,_,rfl⟩
  ·rcases List.mem_append.mp hu with hu | hu
   ·rw [zP (sZ (st _ _ (okc u hu)) (st _ _ eD) (by intro z; cases z))];exact st _ _ (okc u hu)
   ·rw [List.mem_singleton] at hu;subst hu;show upd _ D _ t = _;rw [zP ntD];exact zB
  ·rw [List.map_append,mc,yW (x:=(n,m)) (by rw [List.getElem?_zip_eq_some]; exact ⟨gn,gm⟩)];rfl
 ·rintro σ ys G ⟨sG,eD,⟨cs,rfl,okc,mc⟩,u0,rfl⟩;rw [Int.toNat_natCast,List.length_map,List.take_of_length_le (by rw [List.length_zip]; omega)] at mc;exact q D cs G (s1.trans sG) (s1.free hD) eD okc mc
theorem zMp {a b c d:Int} (ha:a.natAbs<=10 ^ 9) (hb:b.natAbs<=10 ^ 9) (hc:c.natAbs<=10 ^ 9) (hd:d.natAbs<=10 ^ 9):zBa (a * b - c * d)<=10 ^ 19:=by
 have z1:=zG a b ha hb;have z2:=zG c d hc hd;unfold zBa;split <;> omega
def tE (K:PySem.W.Frag):Sp:=λvs H Q _=>∃ (l:Addr) (ss:List Sd) (j:Nat) (e:Sd) (P:P3),vs = [.ref l,.int j]/\SqL K H l (zK ss)/\rR H ss/\ss.length<=900/\zPg ss j e P/\(∀ t∈ss.take j,tn e.2 t.2 = 0->sv t.2 (pt3 (ftL e.2))<=0) /\
 ∀ (D:Addr) (cs:List Pr) (H':Hp),yG H H'->H D = none->H' D = some (.lst (zA4 cs))->zP8 H' cs->zIo ss (cs.map (·.2))->Q (.ref D) H'
theorem zAe (F:Fun K "clash_of_three" "clash_of_three" xR f fd) (Z:Zs mg) (yAt:Has P w K mg base "weighed" 3 ["numbers", "weights"] (qI K)) (yBp:Has P w K mg base "turn" 1 ["one", "other"] (wM K)) (yAp:Has P w K mg base "edge_end" 5 ["sides", "edge", "hand"] (vR K)):wL P w K mg base CX0 6 f fd ["sides", "last"] (tE K):=by
 refine F.ok yO (λvs H Q E h=>?_) (λcdv A outer s H vs Q E hr h=>?_)
 ·obtain ⟨l,ss,j,e,P,rfl,_⟩:=h;rfl
 obtain ⟨l,ss,j,e,P,rfl,hl,ok,hlen,st,bes,q⟩:=h;have hj:j < ss.length:=(List.getElem?_eq_some_iff.mp st.at').1;obtain ⟨e',me,ge,at'⟩:=yY (ss:=ss) (i:=j) (k:=(j:Int)) rfl hj;rw [st.at'] at ge;cases ge;obtain ⟨ee,ne,c1,c2,c3⟩:=ok e me;have hN:=wF ne;obtain ⟨sf,f1⟩:=zKf ne;refine ⟨_,(zF (zT (i:=2) yO.nd rfl (Or.inl rfl) (zO zL (pv 0) (pv 1) (λ_ _=>rfl)))
   (zF (zT (i:=3) yO.nd rfl (Or.inl rfl) (zW zHx rfl Z.sorted rW (zA (wE (zA (zH yAp (hr.mono (by decide)) rfl (zA (xG wG (pv 0) wK (wH (pv 1))) (zA (pv 2) (zA (zKq zE8 zC) zD)))) (zA (zH yAp (hr.mono (by decide)) rfl (zA (xG wG (pv 0) wK (wH (pv 1))) (zA (pv 2) (zA zC zD)))) zD))) zD)))
   (zF (zT (i:=4) yO.nd rfl (Or.inl rfl) (zO zL (pv 0) (zO zL (pv 3) zC (λ_ _=>rfl)) (λ_ _=>rfl)))
   (zF (zT (i:=5) yO.nd rfl (Or.inl rfl) (zO zL (pv 0) (zO zL (pv 3) zC (λ_ _=>rfl)) (λ_ _=>rfl)))
   (zF (zT (i:=6) yO.nd rfl (Or.inl rfl) (wE (zA (zW uZ rfl Z.abs qZ (zA (zH yBp (hr.mono (by decide)) rfl (zA (pv 5) (zA (pv 2) zD))) zD)) (zA (zW uZ rfl Z.abs qZ (zA (zH yBp (hr.mono (by decide)) rfl (zA (pv 2) (zA (pv 4) zD))) zD)) (zA (zW uZ rfl Z.abs qZ (zA (zH yBp (hr.mono (by decide)) rfl (zA (pv 4) (zA (pv 5) zD))) zD)) zD)))))
   (zJ (zR (zH yAt (hr.mono (by decide)) rfl (zA (zN zDj (pv 3) (wE (zA (pv 1) zD))) (zA (pv 6) zD)))))))))),?_⟩
 try dsimp only [L2.cxOf]
 refine ⟨_,rfl,_,rfl,l,_,_,_,rfl,rfl,.inl hl,at',?_⟩;refine ⟨_,rfl,_,rfl,_,rfl,l,_,rfl,hl,λc hc=>?_⟩;rw [zIu];have sc:=zE hc (.lst (zK (ss.take j)));have ec:upd H c (.lst (zK (ss.take j))) c = some (.lst (zK (ss.take j))):=zB;generalize upd H c (.lst (zK (ss.take j))) = H1 at sc ec ⊢;refine ⟨_,rfl,_,rfl,c,e.1,ss.take j,e.2,-1,rfl,SqL.of ec,(λu hu=>ok.same sc u (List.mem_of_mem_take hu)),by rw [List.length_take]; omega,.inr (SqT.of (sc _ _ ee)),ne,c1,c2,c3,.inr rfl,λr1 H2 s2 k1=>?_⟩;have sH2:=sc.trans s2;refine ⟨_,rfl,_,rfl,_,rfl,l,_,rfl,sH2.seq hl,λd hd=>?_⟩;rw [zIu];have sd:=zE hd (.lst (zK (ss.take j)));have ed:upd H2 d (.lst (zK (ss.take j))) d = some (.lst (zK (ss.take j))):=zB;generalize upd H2 d (.lst (zK (ss.take j))) = H3 at sd ed ⊢;have sH3:=sH2.trans sd;refine ⟨_,rfl,d,e.1,ss.take j,e.2,1,rfl,SqL.of ed,(λu hu=>ok.same sH3 u (List.mem_of_mem_take hu)),by rw [List.length_take]; omega,.inr (SqT.of (sH3 _ _ ee)),ne,c1,c2,c3,.inl rfl,λr2 H4 s4 k2=>?_⟩;have sH4:=sH3.trans s4;obtain ⟨i1,rfl⟩:∃ i1,r1 = some i1:=by
  cases r1 with
  | some i1=>exact ⟨i1,rfl⟩
  | none=>exact (zJs (h:=-1) (by decide) hN f1 sf.pos st.no bes k1 (show zCg (ss.take j) e.2 (- -1) r2 from k2)).elim
 obtain ⟨i2,rfl⟩:∃ i2,r2 = some i2:=by
  cases r2 with
  | some i2=>exact ⟨i2,rfl⟩
  | none=>exact (zJs (h:=1) (by decide) hN f1 sf.pos st.no bes k2 k1).elim
 obtain ⟨a,ga,ha,ta⟩:=k1;obtain ⟨b,gb,hb,tb⟩:=k2;refine ⟨(by show 2<=sizeLine; decide),λnl hnl=>?_⟩;have snl:yG H4 (upd H4 nl (.lst [zFx (some i1),zFx (some i2)])):=zE hnl _;have enl:upd H4 nl (.lst [zFx (some i1),zFx (some i2)]) nl = some (.lst ([(i1:Int),(i2:Int)].map V.int)):=zB;generalize upd H4 nl (.lst [zFx (some i1),zFx (some i2)]) = H5 at snl enl ⊢;have sH5:=sH4.trans snl;refine ⟨nl,[(i1:Int),(i2:Int)],rfl,SqL.of enl,(by show 2 < 64; decide),λsn ms hsn pm pw=>?_⟩;have di:i1≠i2:=λz=>by
  rw [z,gb] at ga;cases ga;omega
 obtain ⟨x,y,s1,t1,h,rfl,hxy,gx,gy,h1,hs1,ht1,as1,at1⟩:∃ (x y:Nat) (s1 t1:Sd) (h:Int),ms = [(x:Int),(y:Int)]/\x < y/\(ss.take j)[x]? = some s1/\(ss.take j)[y]? = some t1/\(h = 1\/h = -1)/\0 < tn e.2 s1.2 * h/\0 < tn e.2 t1.2 * -h /\
   (∀ u∈ss.take j,0 < tn e.2 u.2 * h->sv u.2 (pt3 (crL e.2 s1.2))<=0)/\(∀ u∈ss.take j,0 < tn e.2 u.2 * -h->sv u.2 (pt3 (crL e.2 t1.2))<=0):=by
  rcases zJ6 pm pw with ⟨rfl,le⟩ | ⟨rfl,le⟩
  ·exact ⟨i1,i2,a,b,-1,rfl,by omega,ga,gb,.inr rfl,ha,hb,ta,tb⟩
  ·exact ⟨i2,i1,b,a,1,rfl,by omega,gb,ga,.inl rfl,hb,ha,tb,ta⟩
 have hh:h * h = 1:=by rcases h1 with rfl | rfl <;> rfl
 obtain ⟨A1,A2,A3,A4⟩:=three hh hN f1 sf.pos st.no bes (List.mem_of_getElem? gx) (List.mem_of_getElem? gy) hs1 ht1 as1 at1 st.pos st.ahead st.out;have gx':ss[x]? = some s1/\x < j:=by
  rw [List.getElem?_take] at gx;split at gx
  ·exact ⟨gx,by omega⟩
  ·cases gx
 have gy':ss[y]? = some t1/\y < j:=by
  rw [List.getElem?_take] at gy;split at gy
  ·exact ⟨gy,by omega⟩
  ·cases gy
 obtain ⟨_,mx,gx2,atx⟩:=yY (ss:=ss) (i:=x) (k:=(x:Int)) rfl (by omega);rw [gx'.1] at gx2;cases gx2;obtain ⟨_,my,gy2,aty⟩:=yY (ss:=ss) (i:=y) (k:=(y:Int)) rfl (by omega);rw [gy'.1] at gy2;cases gy2;obtain ⟨es,ns,d1,d2,d3⟩:=ok s1 mx;obtain ⟨et,nt,g1,g2,g3⟩:=ok t1 my;have ssn:yG H5 (upd H5 sn (.lst ([(x:Int),(y:Int)].map V.int))):=zE hsn _;have esn:upd H5 sn (.lst ([(x:Int),(y:Int)].map V.int)) sn = some (.lst ([(x:Int),(y:Int)].map V.int)):=zB;generalize upd H5 sn (.lst ([(x:Int),(y:Int)].map V.int)) = H6 at ssn esn ⊢;have sH6:=sH5.trans ssn;have hl6:Sq K H6 l (zK ss):=.inl (sH6.seq hl);have ee6:Sq K H6 e.1 [.int e.2.1,.int e.2.2.1,.int e.2.2.2]:=.inr (SqT.of (sH6 _ _ ee));have es6:Sq K H6 s1.1 [.int s1.2.1,.int s1.2.2.1,.int s1.2.2.2]:=.inr (SqT.of (sH6 _ _ es));have et6:Sq K H6 t1.1 [.int t1.2.1,.int t1.2.2.1,.int t1.2.2.2]:=.inr (SqT.of (sH6 _ _ et));refine ⟨_,rfl,_,rfl,sn,_,_,.int (x:Int),rfl,rfl,.inl (SqL.of esn),rfl,l,_,_,_,rfl,rfl,hl6,atx,?_⟩;refine ⟨_,rfl,_,rfl,sn,_,_,.int (y:Int),rfl,rfl,.inl (SqL.of esn),rfl,l,_,_,_,rfl,rfl,hl6,aty,?_⟩;refine ⟨_,rfl,_,rfl,t1.1,e.1,_,_,t1.2.1,t1.2.2.1,e.2.1,e.2.2.1,rfl,et6,ee6,rfl,rfl,rfl,rfl,by omega,by omega,_,rfl,
  _,rfl,_,rfl,e.1,s1.1,_,_,e.2.1,e.2.2.1,s1.2.1,s1.2.2.1,rfl,ee6,es6,rfl,rfl,rfl,rfl,by omega,by omega,_,rfl,
  _,rfl,_,rfl,s1.1,t1.1,_,_,s1.2.1,s1.2.2.1,t1.2.1,t1.2.2.1,rfl,es6,et6,rfl,rfl,rfl,rfl,by omega,by omega,_,rfl,(by show 3<=sizeLine; decide),λwl hwl=>?_⟩
 refine ⟨_,rfl,_,rfl,(by show 1<=sizeLine; decide),λol hol=>?_⟩;have swl:=zE hwl (.lst ([zBa (tn t1.2 e.2),zBa (tn e.2 s1.2),zBa (tn s1.2 t1.2)].map V.int));have sol:=zE hol (.lst [.int (j:Int)]);refine ⟨sn,ol,_,_,rfl,rfl,sol _ _ (swl _ _ esn),zB,small (by show 2 + 1<=1000; decide),λnc hnc=>?_⟩;have snc:=zE hnc (.lst ([(x:Int),(y:Int),(j:Int)].map V.int));have pU:0 < zBa (tn t1.2 e.2):=by rw [xN h1 A1]; exact A1
 have pV:0 < zBa (tn e.2 s1.2):=by rw [xN h1 A2]; exact A2
 have pX:0 < zBa (tn s1.2 t1.2):=by rw [xN h1 A3]; exact A3
 have bU:zBa (tn t1.2 e.2)<=10 ^ 19:=zMp g1 c2 g2 c1;have bV:zBa (tn e.2 s1.2)<=10 ^ 19:=zMp c1 d2 c2 d1;have bX:zBa (tn s1.2 t1.2)<=10 ^ 19:=zMp d1 g2 d2 g1;have gk:=zQl (ws:=[zBa (tn t1.2 e.2),zBa (tn e.2 s1.2),zBa (tn s1.2 t1.2)]) (List.mem_cons_self ..) pU (by omega);refine ⟨_,rfl,nc,wl,[(x:Int),(y:Int),(j:Int)],[zBa (tn t1.2 e.2),zBa (tn e.2 s1.2),zBa (tn s1.2 t1.2)],rfl,SqL.of zB,SqL.of (snc _ _ (sol _ _ zB)),rfl,(by show 3<=900; decide),gk.1,gk.2,λD cs H' s' hD eD okc mc=>?_⟩;have sAll:=((swl.trans sol).trans snc).trans s';have sBack:=(swl.trans sol).trans snc;refine q D cs H' (sH6.trans sAll) (sH6.free (sBack.free hD)) eD okc ?_;rw [mc];obtain ⟨w1,w2⟩:=zJ7 s1.2 t1.2 e.2;have f:∀ a b c:Int,tn t1.2 e.2 * h * a + tn e.2 s1.2 * h * b + tn s1.2 t1.2 * h * c = (tn t1.2 e.2 * a + tn e.2 s1.2 * b + tn s1.2 t1.2 * c) * h:=λa b c=>by
  rw [Int.add_mul,Int.add_mul,Int.mul_right_comm,Int.mul_right_comm (tn e.2 s1.2),Int.mul_right_comm (tn s1.2 t1.2)]
 refine zIa hxy gy'.2 gx'.1 gy'.1 st.at' pU pV pX bU bV bX ?_ ?_ ?_
 ·rw [xN h1 A1,xN h1 A2,xN h1 A3,f];have w1':tn t1.2 e.2 * s1.2.1 + tn e.2 s1.2 * t1.2.1 + tn s1.2 t1.2 * e.2.1 = 0:=w1;rw [w1',Int.zero_mul]
 ·rw [xN h1 A1,xN h1 A2,xN h1 A3,f];have w2':tn t1.2 e.2 * s1.2.2.1 + tn e.2 s1.2 * t1.2.2.1 + tn s1.2 t1.2 * e.2.2.1 = 0:=w2;rw [w2',Int.zero_mul]
 ·rw [xN h1 A1,xN h1 A2,xN h1 A3,f];exact A4
def zEt (K:PySem.W.Frag):Sp:=λvs H Q _=>∃ (l:Addr) (ss:List Sd),vs = [.ref l]/\SqL K H l (zK ss)/\rR H ss/\ss.length<=900 /\
 (∀ (P:P3) (H':Hp),yG H H'->0 < P.2.2->inW ss P->zLe ss P->Q .non H') /\
 ∀ (D:Addr) (cs:List Pr) (H':Hp),yG H H'->H D = none->H' D = some (.lst (zA4 cs))->zP8 H' cs->zIo ss (cs.map (·.2))->Q (.ref D) H'
theorem zK5 (F:Fun K "clash" "clash" zA5 f fd) (Z:Zs mg) (yAa:Has P w K mg base "clash_of_three" 6 ["sides", "last"] (tE K)) (yBp:Has P w K mg base "turn" 1 ["one", "other"] (wM K)) (yBl:Has P w K mg base "holds" 2 ["side", "spot"] (sX K)) (yBu:Has P w K mg base "foot" 5 ["side"] (zA7 K)) (yAt:Has P w K mg base "weighed" 3 ["numbers", "weights"] (qI K)) (yBv:Has P w K mg base "span" 1 ["direction"] (zD3 K)) (yBd:Has P w K mg base "sought" 8 ["sides"] (zAi K)):wL P w K mg base CX0 9 f fd ["sides"] (zEt K):=by
 refine F.ok sN (λvs H Q E h=>?_) (λcdv A outer s H vs Q E hr h=>?_)
 ·obtain ⟨l,ss,rfl,_⟩:=h;rfl
 obtain ⟨l,ss,rfl,hl,ok,hlen,qn,q⟩:=h;refine ⟨_,(zF (zT (i:=1) sN.nd rfl (Or.inl rfl) (zO zL (zH yBd (hr.mono (by decide)) rfl (zA (pv 0) zD)) zC (λ_ _=>rfl)))
   (zF (xC (zU zB4 (pv 1) xJ (zX _)) (zJ (zR xJ)) zY)
   (zF (zT (i:=2) sN.nd rfl (Or.inl rfl) (zO zL (pv 0) (pv 1) (λ_ _=>rfl)))
   (zF (wD PassesOwn.never rfl (uG rfl Z.range (zA (pv 1) zD)) (zQ (i:=3) sN.nd rfl (Or.inl rfl)) (zF (zT (i:=4) sN.nd rfl (Or.inl rfl) (zO zL (pv 0) (pv 3) (λ_ _=>rfl)))
   (zJ (xC (PW.pt (tT (zU tX (zH yBp (hr.mono (by decide)) rfl (zA (pv 2) (zA (pv 4) zD))) zC (zX _)) (uH (zAy (tN (zH yBl (hr.mono (by decide)) rfl (zA (pv 4) (zA (zH yBu (hr.mono (by decide)) rfl (zA (pv 2) zD)) zD)))))))) (zJ (zR (zH yAt (hr.mono (by decide)) rfl (zA (wE (zA (pv 3) (zA (pv 1) zD))) (zA (wE (zA (zH yBv (hr.mono (by decide)) rfl (zA (pv 2) zD)) (zA (zH yBv (hr.mono (by decide)) rfl (zA (pv 4) zD)) zD))) zD))))) zY))))
   (zJ (zR (zH yAa (hr.mono (by decide)) rfl (zA (pv 0) (zA (pv 1) zD))))))))),?_⟩
 try dsimp only [L2.cxOf]
 refine ⟨_,rfl,l,ss,rfl,hl,ok,hlen,λt j e P H1 s1 et st=>?_,λt p P H1 s1 et ep wp cp=>?_⟩
 ·refine ⟨t,_,_,.int j,rfl,rfl,.inr (SqT.of et),rfl,?_⟩;refine ⟨_,rfl,rfl,_,rfl,?_⟩;refine vD ?_;have hj:j < ss.length:=(List.getElem?_eq_some_iff.mp st.at').1;obtain ⟨e',me,ge,at'⟩:=yY (ss:=ss) (i:=j) (k:=(j:Int)) rfl hj;rw [st.at'] at ge;cases ge;obtain ⟨ee,ne,c1,c2,c3⟩:=ok e me;have hN:=wF ne;obtain ⟨sf,f1⟩:=zKf ne;refine ⟨_,rfl,_,rfl,l,_,_,_,rfl,rfl,.inl (s1.seq hl),at',?_⟩;refine ⟨_,rfl,_,rfl,(by omega),(by omega),tH (lo:=0) (n:=((j:Nat):Int).toNat) (λi σ H'=>yG H1 H'/\(∀ u∈ss.take i,tn e.2 u.2 = 0->sv u.2 (pt3 (ftL e.2))<=0)/\∃ u3 u4:Option V,σ = [some (.ref l),some (.int j),some (.ref e.1),u3,u4])
   ⟨yG.refl _,(λt ht=>nomatch ht),none,none,rfl⟩ ?_ ?_⟩
  ·rintro i σ H' hi ⟨sH,bes,u3,u4,rfl⟩;rw [Int.toNat_natCast] at hi;obtain ⟨u,mu,gu,atu⟩:=yY (ss:=ss) (i:=i) (k:=0 + (i:Int)) (by omega) (by omega);obtain ⟨eu0,nu,d1,d2,d3⟩:=ok u mu;have s0:=s1.trans sH;have eu:Sq K H' u.1 [.int u.2.1,.int u.2.2.1,.int u.2.2.2]:=.inr (SqT.of (s0 _ _ eu0));have ee':Sq K H' e.1 [.int e.2.1,.int e.2.2.1,.int e.2.2.2]:=.inr (SqT.of (s0 _ _ ee));refine ⟨_,rfl,_,rfl,l,_,_,_,rfl,rfl,.inl (s0.seq hl),atu,?_⟩;refine ⟨_,rfl,_,rfl,e.1,u.1,_,_,e.2.1,e.2.2.1,u.2.1,u.2.2.1,rfl,ee',eu,rfl,rfl,rfl,rfl,by omega,by omega,rfl,_,rfl,?_⟩;refine ifE (λh0=>?_) (λh0=>?_)
   ·have h0':tn e.2 u.2 = 0:=h0;refine ⟨_,rfl,_,rfl,e.1,e.2,rfl,ee',ne,c1,c2,λfp H2 s2 hfp efp=>?_⟩;have efp':H2 fp = some (.tup [.int (pt3 (ftL e.2)).1,.int (pt3 (ftL e.2)).2.1,.int (pt3 (ftL e.2)).2.2]):=by
     rw [efp,sf.list];rfl
    refine ⟨u.1,fp,u.2.1,u.2.2.1,u.2.2.2,(pt3 (ftL e.2)).1,(pt3 (ftL e.2)).2.1,(pt3 (ftL e.2)).2.2,rfl,eu.same s2,.inr (SqT.of efp'),by omega,by omega,by omega,_,rfl,?_⟩;refine ifN (λhout=>?_) (λhin=>?_)
    ·have hout':0 < sv u.2 (pt3 (ftL e.2)):=by
      have:¬ sv u.2 (pt3 (ftL e.2))<=0:=hout;omega
     obtain ⟨z1,z2,z3⟩:=zPj h0' hN ne sf.pos st.pos f1 hout' (st.ahead u (List.mem_of_getElem? (i:=i) (by rw [List.getElem?_take,if_pos hi]; exact gu))) st.out;refine ⟨_,rfl,_,rfl,(by show 2<=sizeLine; decide),λnl hnl=>?_⟩;have snl:=zE hnl (.lst ([0 + (i:Int),(j:Int)].map V.int));refine ⟨_,rfl,e.1,_,e.2.1,e.2.2.1,rfl,(ee'.same s2).same snl,rfl,rfl,_,rfl,u.1,_,u.2.1,u.2.2.1,rfl,(eu.same s2).same snl,rfl,rfl,(by show 2<=sizeLine; decide),λwl hwl=>?_⟩;have swl:=zE hwl (.lst ([yZ e.2.1 e.2.2.1,yZ u.2.1 u.2.2.1].map V.int));have pU:=sP ne;have pV:=sP nu;have bU:yZ e.2.1 e.2.2.1<=10 ^ 19:=Int.le_trans (zCy c1 c2) (by decide);have bV:yZ u.2.1 u.2.2.1<=10 ^ 19:=Int.le_trans (zCy d1 d2) (by decide);have gk:=zQl (ws:=[yZ e.2.1 e.2.2.1,yZ u.2.1 u.2.2.1]) (List.mem_cons_self ..) pU (by omega);refine ⟨nl,wl,[0 + (i:Int),(j:Int)],[yZ e.2.1 e.2.2.1,yZ u.2.1 u.2.2.1],rfl,SqL.of (swl _ _ zB),SqL.of zB,rfl,(by show 2<=900; decide),gk.1,gk.2,λD cs H5 s5 hD eD okc mc=>?_⟩;have sB:=(s0.trans s2).trans (snl.trans swl);refine q D cs H5 (sB.trans s5) (sB.free hD) eD okc ?_;rw [mc,Int.zero_add];exact zLq hi gu st.at' pU pV bU bV z1 z2 z3
    ·refine ⟨sH.trans s2,λv hv hz=>?_,_,_,rfl⟩;rcases vS gu hv with hv | rfl
     ·exact bes v hv hz
     ·exact hin
   ·refine vD ?_;refine ⟨sH,λv hv hz=>?_,_,_,rfl⟩;rcases vS gu hv with hv | rfl
    ·exact bes v hv hz
    ·exact absurd hz h0
  ·rintro σ H' ⟨sH,bes,u3,u4,rfl⟩;rw [Int.toNat_natCast] at bes;have s0:=s1.trans sH;exact ⟨_,rfl,_,rfl,l,ss,j,e,P,rfl,s0.seq hl,ok.same s0,hlen,st,bes,λD cs H5 s5 hD eD okc cl=>q D cs H5 (s0.trans s5) (s0.free hD) eD okc cl⟩
 ·refine ⟨t,_,_,.non,rfl,rfl,.inr (SqT.of et),rfl,?_⟩;refine ⟨_,rfl,rfl,_,rfl,?_⟩;refine zCb ?_;exact qn P H1 s1 ep.2.1 wp cp
theorem zRn {x y:Int} (n:x≠0\/y≠0) (m0:x.natAbs<=2 * 10 ^ 9) (m1:y.natAbs<=2 * 10 ^ 9):0 < yI [x,y]/\(yI [x,y]:Int) < 10 ^ 600:=by
 have lt:∀ z:Int,z∈[x,y]->z≠0->z.natAbs<=2 * 10 ^ 9->0 < yI [x,y]/\(yI [x,y]:Int) < 10 ^ 600:=λz hz h0 hb=>by
  refine ⟨wU hz h0,?_⟩;have h1:=zDd hz h0;exact Int.lt_of_le_of_lt (show (yI [x,y]:Int)<=10 ^ 30 by omega) (by decide +kernel)
 rcases n with h | h
 ·exact lt x (by simp) h m0
 ·exact lt y (by simp) h m1
theorem zFz {ss:List Sd} {x y:Int} : vG ss x y = true↔∀ t∈ss,t.2.1 * x + t.2.2.1 * y<=0:=by
 unfold vG;rw [List.all_eq_true];exact ⟨λh t ht=>of_decide_eq_true (h t ht),λh t ht=>decide_eq_true (h t ht)⟩
theorem zMc {X Y x y a b:Int} (n:X≠0\/Y≠0) (e:tJ [X,Y] = [x,y]):(a * x + b * y) * (yI [X,Y]:Int) = a * X + b * Y:=by
 have z:[X / (yI [X,Y]:Int),Y / (yI [X,Y]:Int)] = [x,y]:=e;cases z;rw [Int.add_mul,Int.mul_assoc,Int.mul_assoc,yR (ns:=[X,Y]) (n:=X) (by simp),yR (ns:=[X,Y]) (n:=Y) (by simp)]
def zS6 (ss:List Sd) (g:P3):Prop:=∀ t∈ss,∀ h:Int,(h = 1\/h = -1)->(∀ s∈ss,tn t.2 s.2 * h<=0)->tn t.2 g * h<=0
def rX (K:PySem.W.Frag):Sp:=λvs H Q _=>∃ (l a:Addr) (ss:List Sd) (g:P3),vs = [.ref l,.ref a]/\SqL K H l (zK ss)/\rR H ss/\ss.length<=400/\Sq K H a [.int g.1,.int g.2.1]/\(g.1≠0\/g.2.1≠0)/\g.1.natAbs<=2 * 10 ^ 9/\g.2.1.natAbs<=2 * 10 ^ 9 /\
 (∀ H':Hp,yG H H'->zS6 ss g->(¬ ∀ s∈ss,dt s.2 g<=0)->Q .non H') /\
 ∀ (p:Addr) (x y:Int) (H':Hp),yG H H'->H' p = some (.tup [.int x,.int y])->Nat.gcd x.natAbs y.natAbs = 1->0 < g.1 * x + g.2.1 * y->vG ss x y = true->x.natAbs<=2 * 10 ^ 9->y.natAbs<=2 * 10 ^ 9->Q (.ref p) H'
theorem zDq (F:Fun K "way_onward" "way_onward" vB f fd) (Z:Zs mg) (yBs:Has P w K mg base "ways" 4 ["sides"] (zEg K)) (yBh:Has P w K mg base "plain" 3 ["direction"] (zB1 K)) (yBg:Has P w K mg base "along" 1 ["one", "other"] (sO K)) (yBb:Has P w K mg base "is_way" 2 ["sides", "direction"] (zAg K)):wL P w K mg base CX0 5 f fd ["sides", "direction"] (rX K):=by
 refine F.ok rZ (λvs H Q E h=>?_) (λcdv A outer s H vs Q E hr h=>?_)
 ·obtain ⟨l,a,ss,g,rfl,_⟩:=h;rfl
 obtain ⟨l,a,ss,g,rfl,hl,ok,hlen,ha,gz,m1,m2,qn,q⟩:=h;have nz:∀ t∈ss,t.2.1≠0\/t.2.2.1≠0:=λt ht=>(ok t ht).2.1;refine ⟨_,(zF (wD PassesOwn.never rfl (xU (zN zDj (zH yBs (hr.mono (by decide)) rfl (zA (pv 0) zD)) (wE (zA (zH yBh (hr.mono (by decide)) rfl (zA (pv 1) zD)) zD)))) (zQ (i:=2) rZ.nd rfl (Or.inl rfl)) (zJ (xC (PW.pt (tT (zU zC6 (zH yBg (hr.mono (by decide)) rfl (zA (pv 1) (zA (pv 2) zD))) zC (zX _)) (uH (tN (zH yBb (hr.mono (by decide)) rfl (zA (pv 0) (zA (pv 2) zD))))))) (zJ (zR (pv 2))) zY)))
   (zJ (zR xJ))),?_⟩
 try dsimp only [L2.cxOf]
 refine ⟨_,rfl,l,ss,rfl,hl,ok,hlen,λp us H1 s1 hp W=>?_⟩;obtain ⟨gp,g6⟩:=zRn gz m1 m2;refine ⟨_,rfl,a,[g.1,g.2.1],rfl,ha.same s1,by show 2<=1000; decide,gp,g6,λdp H2 s2 hdp edp=>?_⟩;obtain ⟨gx,gy,exy,_,_,glow,_,gdot,gxl,gyl⟩:=zD7 gz;rw [exy] at edp;refine ⟨(by show 1<=sizeLine; decide),λol hol=>?_⟩;have sol:=zE hol (.lst [.ref dp]);have wf:=W.few;refine ⟨p,ol,_,_,rfl,rfl,sol _ _ (s2 _ _ W.at'),zB,small (by simp only [List.length_map]; show us.length + 1<=1000; omega),λc hc=>?_⟩;have sc:=zE hc (.lst ((us.map (·.1)).map V.ref ++ [.ref dp]));have ec:upd (upd H2 ol (.lst [.ref dp])) c (.lst ((us.map (·.1)).map V.ref ++ [.ref dp])) c = some (.lst (((us ++ [(dp,[gx,gy])]).map (·.1)).map V.ref)):=by rw [zB]; simp
 have s12:yG H1 (upd (upd H2 ol (.lst [.ref dp])) c (.lst ((us.map (·.1)).map V.ref ++ [.ref dp]))):=s2.trans (sol.trans sc);have edp':=(sol.trans sc) _ _ edp;generalize upd (upd H2 ol (.lst [.ref dp])) c (.lst ((us.map (·.1)).map V.ref ++ [.ref dp])) = H3 at sc ec s12 edp' ⊢;have s3:=s1.trans s12;have each:∀ u∈us ++ [(dp,[gx,gy])],∃ x y:Int,u.2 = [x,y]/\H3 u.1 = some (.tup [.int x,.int y])/\Nat.gcd x.natAbs y.natAbs = 1/\x.natAbs<=2 * 10 ^ 9/\y.natAbs<=2 * 10 ^ 9:=λu hu=>by
  rcases List.mem_append.mp hu with hu | hu
  ·have mk:u.2∈us.map (·.2):=List.mem_map_of_mem hu;have wk:=(W.mem u.2).mp mk;obtain ⟨x,y,e,ew⟩:=wk.dir nz;have z:=s12 _ _ (W.all u hu);rw [e] at z;obtain ⟨j,t,_,gt,hk⟩:=wk;obtain ⟨_,nt,c1,c2,_⟩:=ok t (List.mem_of_getElem? gt);have bd:x.natAbs<=2 * 10 ^ 9/\y.natAbs<=2 * 10 ^ 9:=by
    rcases hk with ⟨hk,_⟩ | ⟨hk,_⟩
    ·obtain ⟨x',y',e',_,_,_,_,_,l1,l2⟩:=zD7 (X:=-t.2.2.1) (Y:=t.2.1) (by omega);rw [e,e'] at hk;cases hk;omega
    ·obtain ⟨x',y',e',_,_,_,_,_,l1,l2⟩:=zD7 (X:=t.2.2.1) (Y:=-t.2.1) (by omega);rw [e,e'] at hk;cases hk;omega
   exact ⟨x,y,e,z,ew.low,bd.1,bd.2⟩
  ·rw [List.mem_singleton] at hu;subst hu;exact ⟨gx,gy,rfl,edp',glow,by omega,by omega⟩
 refine ⟨c,rfl,.inl ⟨⟨_,SqL.of ec⟩,xL (K:=K) (a:=c) (xs:=((us ++ [(dp,[gx,gy])]).map (·.1)).map V.ref) (λi σ H'=>H3 = H'/\(∀ j u x y,j < i->(us ++ [(dp,[gx,gy])])[j]? = some u->u.2 = [x,y]->0 < g.1 * x + g.2.1 * y->vG ss x y = true->False)/\∃ u2:Option V,σ = [some (.ref l),some (.ref a),u2])
  ⟨rfl,λj u x y hj=>absurd hj (Nat.not_lt_zero _),none,rfl⟩ (λi σ H' _ ⟨e,_⟩=>by rw [<- e]; exact SqL.of ec) ?_ ?_⟩⟩
 ·rintro i v σ H' hi ⟨rfl,hall,u2,rfl⟩;rw [List.getElem?_map,List.getElem?_map] at hi;cases gu:(us ++ [(dp,[gx,gy])])[i]? with
  | none=>rw [gu] at hi; cases hi
  | some u =>
   rw [gu] at hi;cases hi;obtain ⟨x,y,exy',eu,lu,bx,by'⟩:=each u (List.mem_of_getElem? gu);have keep:(¬ (0 < g.1 * x + g.2.1 * y/\vG ss x y = true))->∀ j u' x' y',j < i + 1->(us ++ [(dp,[gx,gy])])[j]? = some u'->u'.2 = [x',y']->0 < g.1 * x' + g.2.1 * y'->vG ss x' y' = true->False:=λhno j u' x' y' hj gu' e' h1 h2=>by
    by_cases ej:j = i
    ·rw [ej,gu] at gu';cases gu';rw [exy'] at e';cases e';exact hno ⟨h1,h2⟩
    ·exact hall j u' x' y' (by omega) gu' e' h1 h2
   refine ⟨_,rfl,_,rfl,a,u.1,_,_,g.1,g.2.1,x,y,rfl,ha.same s3,.inr (SqT.of eu),rfl,rfl,rfl,rfl,by omega,by omega,_,_,rfl,rfl,_,rfl,?_⟩;refine ifD (λhpos=>?_) (λhneg=>?_)
   ·refine ⟨_,rfl,_,rfl,l,u.1,ss,x,y,rfl,s3.seq hl,ok.same s3,.inr (SqT.of eu),_,rfl,?_⟩;by_cases hw:vG ss x y = true
    ·rw [hw];refine zCb ?_;exact ⟨_,rfl,q u.1 x y _ s3 eu lu hpos hw bx by'⟩
    ·have hw':vG ss x y = false:=by simpa using hw
     rw [hw'];refine vD ?_;exact ⟨rfl,keep (λz=>hw z.2),_,rfl⟩
   ·refine vD ?_;exact ⟨rfl,keep (λz=>hneg z.1),_,rfl⟩
 ·rintro σ H' ⟨rfl,hall,u2,rfl⟩;have none':∀ u∈us ++ [(dp,[gx,gy])],∀ x y,u.2 = [x,y]->0 < g.1 * x + g.2.1 * y->vG ss x y = true->False:=λu hu x y e h1 h2=>by
   obtain ⟨j,hj,ej⟩:=List.getElem_of_mem hu;exact hall j u x y (by simp only [List.length_map]; exact hj) (by rw [List.getElem?_eq_getElem hj,ej]) e h1 h2
  refine qn _ s3 (λt mt h hh hall'=>?_) (λhall'=>?_)
  ·have nt:=nz t mt;have key:∀ X Y:Int,(X≠0\/Y≠0)->vG ss X Y = true->tJ [X,Y]∈us.map (·.2)->g.1 * X + g.2.1 * Y<=0:=λX Y n hw hm=>by
    obtain ⟨x,y,e,gp',_⟩:=zD7 n;obtain ⟨u,hu,eu⟩:=List.mem_map.mp hm;have sc':=zMc (a:=g.1) (b:=g.2.1) n e;by_cases c:g.1 * X + g.2.1 * Y<=0
    ·exact c
    ·rw [<- sc'] at c;have p1:0 < g.1 * x + g.2.1 * y:=uO (y:=(yI [X,Y]:Int)) (by omega) (by omega);have z:=zI0 (ss:=ss) gp';have e2:[X / (yI [X,Y]:Int),Y / (yI [X,Y]:Int)] = [x,y]:=e;cases e2;rw [hw] at z;exact (none' u (List.mem_append_left _ hu) _ _ (eu.trans e) p1 z).elim
   have gj:=List.getElem?_of_mem mt;obtain ⟨j,gj⟩:=gj;have hj:=(List.getElem?_eq_some_iff.mp gj).1;rcases hh with rfl | rfl
   ·have hw:vG ss (-t.2.2.1) t.2.1 = true:=zFz.mpr λs hs=>by
     have z:=hall' s hs;unfold tn at z;rw [Int.mul_neg,Int.mul_comm s.2.1,Int.mul_comm s.2.2.1];omega
    have z:=key _ _ (by omega) hw ((W.mem _).mpr ⟨j,t,hj,gj,.inl ⟨rfl,hw⟩⟩);unfold tn;rw [Int.mul_neg,Int.mul_comm g.1,Int.mul_comm g.2.1] at z;omega
   ·have hw:vG ss t.2.2.1 (-t.2.1) = true:=zFz.mpr λs hs=>by
     have z:=hall' s hs;unfold tn at z;rw [Int.mul_neg,Int.mul_comm s.2.1,Int.mul_comm s.2.2.1];omega
    have z:=key _ _ (by omega) hw ((W.mem _).mpr ⟨j,t,hj,gj,.inr ⟨rfl,hw⟩⟩);unfold tn;rw [Int.mul_neg,Int.mul_comm g.1,Int.mul_comm g.2.1] at z;omega
  ·have hw:vG ss g.1 g.2.1 = true:=zFz.mpr hall';have z:=zI0 (ss:=ss) gp;have e2:[g.1 / (yI [g.1,g.2.1]:Int),g.2.1 / (yI [g.1,g.2.1]:Int)] = [gx,gy]:=exy;cases e2;rw [hw] at z;refine none' (dp,_) (List.mem_append_right _ (List.mem_singleton.mpr rfl)) _ _ rfl ?_ z;rw [Int.mul_comm g.1,Int.mul_comm g.2.1];exact gdot
abbrev Wt:=Addr × Int × Addr × Int × Int
abbrev zQb (ws:List Wt):List V:=(ws.map (·.1)).map V.ref
def zTf (H:Hp) (ws:List Wt):Prop:=∀ t∈ws,H t.1 = some (.tup [.int t.2.1,.ref t.2.2.1])/\H t.2.2.1 = some (.tup [.int t.2.2.2.1,.int t.2.2.2.2])
theorem zTf.same {H H':Hp} {ws:List Wt} (h:zTf H ws) (s:yG H H'):zTf H' ws:=λt ht=>⟨s _ _ (h t ht).1,s _ _ (h t ht).2⟩
abbrev wtN (ws:List Wt):List (Int × Int × Int):=ws.map λt=>(t.2.1,t.2.2.2)
def zUf (H:Hp) (ss:List Sd) (g:P3) (Q:VK):Prop:=∀ (f p D:Addr) (P:P3) (ws:List Wt) (H':Hp),yG H H'->H' f = some (.tup [.str "far", .ref p,.ref D])->zOi H' p P->inW ss P->zLe ss P->H D = none->H' D = some (.lst (zQb ws))->zTf H' ws->Far ss g P (wtN ws)->Q (.ref f) H'
def qJ (K:PySem.W.Frag):Sp:=λvs H Q _=>∃ (l a:Addr) (ss:List Sd) (g:P3),vs = [.ref l,.ref a]/\SqL K H l (zK ss)/\rR H ss/\ss.length<=400/\Sq K H a [.int g.1,.int g.2.1]/\(g.1≠0\/g.2.1≠0)/\g.1.natAbs<=2 * 10 ^ 9/\g.2.1.natAbs<=2 * 10 ^ 9 /\
 (∀ H':Hp,yG H H'->(∀ t∈ss,tn t.2 g = 0->0 < dt t.2 g->∀ P:P3,0 < P.2.2->sv t.2 P = 0->¬ inW ss P)->Q .non H')/\zUf H ss g Q
theorem zDk (F:Fun K "far_by_one" "far_by_one" vC f fd) (Z:Zs mg) (yBp:Has P w K mg base "turn" 1 ["one", "other"] (wM K)) (yBg:Has P w K mg base "along" 1 ["one", "other"] (sO K)) (yBx:Has P w K mg base "part" 4 ["top", "bottom"] (sF K)) (yBv:Has P w K mg base "span" 1 ["direction"] (zD3 K)) (yAf:Has P w K mg base "spot_on_edge" 7 ["sides", "edge"] (uS K)):wL P w K mg base CX0 8 f fd ["sides", "direction"] (qJ K):=by
 refine F.ok uL (λvs H Q E h=>?_) (λcdv A outer s H vs Q E hr h=>?_)
 ·obtain ⟨l,a,ss,g,rfl,_⟩:=h;rfl
 obtain ⟨l,a,ss,g,rfl,hl,ok,hlen,ha,gz,m1,m2,qn,q⟩:=h;refine ⟨_,(zF (wD PassesOwn.never rfl (uG rfl Z.range (zA (zW zV rfl Z.len wQ (zA (pv 0) zD)) zD)) (zQ (i:=2) uL.nd rfl (Or.inl rfl)) (zF (zT (i:=3) uL.nd rfl (Or.inl rfl) (zO zL (pv 0) (pv 2) (λ_ _=>rfl)))
   (zJ (xC (PW.pt (tT (zU tX (zH yBp (hr.mono (by decide)) rfl (zA (pv 3) (zA (pv 1) zD))) zC (zX _)) (uH (zU zC6 (zH yBg (hr.mono (by decide)) rfl (zA (pv 3) (zA (pv 1) zD))) zC (zX _))))) (zF (zT (i:=4) uL.nd rfl (Or.inl rfl) (zH yAf (hr.mono (by decide)) rfl (zA (pv 0) (zA (pv 3) zD))))
   (zJ (xC (zU zAj (pv 4) xJ (zX _)) (zJ (zR (xE (zA zAb (zA (pv 4) (zA (wE (zA (xE (zA (pv 2) (zA (zH yBx (hr.mono (by decide)) rfl (zA (zH yBv (hr.mono (by decide)) rfl (zA (pv 1) zD)) (zA (zH yBv (hr.mono (by decide)) rfl (zA (pv 3) zD)) zD))) zD))) zD)) zD)))))) zY))) zY))))
   (zJ (zR xJ))),?_⟩
 try dsimp only [L2.cxOf]
 refine ⟨_,rfl,l,_,rfl,.inl hl,_,rfl,(by rw [zI]; omega),(by rw [zI]; omega),tH (lo:=0) (n:=(((zK ss).length:Nat):Int).toNat) (λi σ H'=>yG H H'/\(∀ t∈ss.take i,tn t.2 g = 0->0 < dt t.2 g->∀ P:P3,0 < P.2.2->sv t.2 P = 0->¬ inW ss P)/\∃ u2 u3 u4:Option V,σ = [some (.ref l),some (.ref a),u2,u3,u4])
  ⟨yG.refl _,(λt ht=>nomatch ht),none,none,none,rfl⟩ ?_ ?_⟩
 ·rintro i σ H' hi ⟨sH,bes,u2,u3,u4,rfl⟩;have hil:i < ss.length:=by rw [Int.toNat_natCast,zI] at hi; exact hi
  obtain ⟨t,mt,gt,at'⟩:=yY (ss:=ss) (i:=i) (k:=0 + (i:Int)) (by omega) hil;obtain ⟨et0,nt,c1,c2,c3⟩:=ok t mt;have et:Sq K H' t.1 [.int t.2.1,.int t.2.2.1,.int t.2.2.2]:=.inr (SqT.of (sH _ _ et0));have ha':=ha.same sH;refine ⟨_,rfl,_,rfl,l,_,_,_,rfl,rfl,.inl (sH.seq hl),at',?_⟩;refine ⟨_,rfl,_,rfl,t.1,a,_,_,t.2.1,t.2.2.1,g.1,g.2.1,rfl,et,ha',rfl,rfl,rfl,rfl,by omega,by omega,rfl,_,rfl,?_⟩;have skip:∀ H2:Hp,yG H' H2->(tn t.2 g = 0->0 < dt t.2 g->∀ P:P3,0 < P.2.2->sv t.2 P = 0->¬ inW ss P)->(∀ u∈ss.take (i + 1),tn u.2 g = 0->0 < dt u.2 g->∀ P:P3,0 < P.2.2->sv u.2 P = 0->¬ inW ss P):=λH2 _ hno u hu=>by
   rcases vS gt hu with hu | rfl
   ·exact bes u hu
   ·exact hno
  refine ifE (λh0=>?_) (λh0=>?_)
  ·refine ⟨_,rfl,_,rfl,t.1,a,_,_,t.2.1,t.2.2.1,g.1,g.2.1,rfl,et,ha',rfl,rfl,rfl,rfl,by omega,by omega,_,_,rfl,rfl,_,rfl,?_⟩;refine ifD (λh1=>?_) (λh1=>?_)
   ·have h0':tn t.2 g = 0:=h0;have h1':0 < dt t.2 g:=h1;refine ⟨_,rfl,_,rfl,l,t.1,ss,t.2,rfl,sH.seq hl,ok.same sH,by omega,et,nt,c1,c2,c3,λH2 s2 no=>?_,λp P H2 s2 ep wp on cd=>?_⟩
    ·refine ⟨_,rfl,rfl,_,rfl,?_⟩;refine vD ?_;exact ⟨sH.trans s2,skip H2 s2 (λ_ _ P pw oP wP=>no P oP pw wP),_,_,_,rfl⟩
    ·refine ⟨_,rfl,rfl,_,rfl,?_⟩;refine zCb ?_;have pS:=sP nt;have bS:yZ t.2.1 t.2.2.1<=10 ^ 19:=Int.le_trans (zCy c1 c2) (by decide);have bG:yZ g.1 g.2.1<=10 ^ 19:=Int.le_trans (zCy m1 m2) (by decide);refine ⟨_,rfl,_,rfl,_,rfl,a,_,g.1,g.2.1,rfl,ha'.same s2,rfl,rfl,_,rfl,t.1,_,t.2.1,t.2.2.1,rfl,et.same s2,rfl,rfl,yZ g.1 g.2.1,yZ t.2.1 t.2.2.1,rfl,by omega,Nat.lt_of_le_of_lt (show (yZ t.2.1 t.2.2.1).natAbs<=10 ^ 40 by omega) (by decide +kernel),λpp x y H3 s3 hpp epp pt=>?_⟩;refine ⟨(by show 2<=sizeLine; decide),λpr hpr=>?_⟩;have spr:=zE hpr (.tup [.int (0 + (i:Int)),.ref pp]);refine ⟨(by show 1<=sizeLine; decide),λD hD=>?_⟩;have sD:=zE hD (.lst [.ref pr]);refine ⟨(by show 3<=sizeLine; decide),λft hft=>?_⟩;have sft:=zE hft (.tup [.str "far", .ref p,.ref D]);have s23:=s2.trans s3;have sAll:=(spr.trans sD).trans sft;refine q ft p D P [(pr,(i:Int),pp,x,y)] _ ((sH.trans s23).trans sAll) zB (ep.same (s3.trans sAll)) wp ?_ ((sH.trans s23).free (spr.free hD)) (sft _ _ zB) (λu hu=>?_) (zRb gt nt gz h0' h1' pt bG bS on)
     ·rcases cd with h | ⟨v,hv,ht,h⟩
      ·exact .inr (.inl ⟨t,mt,h⟩)
      ·exact .inr (.inr ⟨t,mt,v,hv,ht,h⟩)
     ·rw [List.mem_singleton] at hu;subst hu;refine ⟨?_,sAll _ _ epp⟩;refine sft _ _ (sD _ _ ?_);rw [zB,Int.zero_add]
   ·refine ⟨sH,skip H' (yG.refl _) (λ_ z=>absurd z h1),_,_,_,rfl⟩
  ·refine vD ?_;exact ⟨sH,skip H' (yG.refl _) (λz=>absurd z h0),_,_,_,rfl⟩
 ·rintro σ H' ⟨sH,bes,u2,u3,u4,rfl⟩;rw [Int.toNat_natCast,zI,List.take_length] at bes;exact qn H' sH bes
theorem zFv {s t:P3} {m n:Nat} (a1:s.1.natAbs<=m) (a2:s.2.1.natAbs<=m) (b1:t.1.natAbs<=n) (b2:t.2.1.natAbs<=n):(tn s t).natAbs<=m * n + m * n:=by
 have z1:=zG s.1 t.2.1 a1 b2;have z2:=zG s.2.1 t.1 a2 b1;unfold tn;omega
def tI (K:PySem.W.Frag):Sp:=λvs H Q _=>∃ (l n a:Addr) (ss:List Sd) (g P:P3) (i j:Nat) (s t:Sd),vs = [.ref l,.ref n,.ref a]/\SqL K H l (zK ss)/\rR H ss/\SqL K H n [.int i,.int j]/\Sq K H a [.int g.1,.int g.2.1]/\g.1.natAbs<=2 * 10 ^ 9/\g.2.1.natAbs<=2 * 10 ^ 9 /\
 ss[i]? = some s/\ss[j]? = some t/\0 < tn s.2 t.2/\0 < tn g t.2/\0 < tn s.2 g/\sv s.2 P = 0/\sv t.2 P = 0 /\
 ∀ (D:Addr) (ws:List Wt) (H':Hp),yG H H'->H D = none->H' D = some (.lst (zQb ws))->zTf H' ws->Far ss g P (wtN ws)->Q (.ref D) H'
theorem zAl (F:Fun K "weights_of_two" "weights_of_two" xS f fd) (Z:Zs mg) (yBx:Has P w K mg base "part" 4 ["top", "bottom"] (sF K)) (yBp:Has P w K mg base "turn" 1 ["one", "other"] (wM K)):wL P w K mg base CX0 5 f fd ["sides", "numbers", "direction"] (tI K):=by
 refine F.ok yX (λvs H Q E h=>?_) (λcdv A outer s H vs Q E hr h=>?_)
 ·obtain ⟨l,n,a,ss,g,P,i,j,s,t,rfl,_⟩:=h;rfl
 obtain ⟨l,n,a,ss,g,P,i,j,s,t,rfl,hl,ok,hn,ha,m1,m2,gs,gt,hW,hA,hB,o1,o2,q⟩:=h;have hi:=(List.getElem?_eq_some_iff.mp gs).1;have hj:=(List.getElem?_eq_some_iff.mp gt).1;obtain ⟨_,ms,gs2,ats⟩:=yY (ss:=ss) (i:=i) (k:=(i:Int)) rfl hi;rw [gs] at gs2;cases gs2;obtain ⟨_,mt,gt2,att⟩:=yY (ss:=ss) (i:=j) (k:=(j:Int)) rfl hj;rw [gt] at gt2;cases gt2;obtain ⟨es0,ns,c1,c2,c3⟩:=ok s ms;obtain ⟨et0,nt,d1,d2,d3⟩:=ok t mt;have es:Sq K H s.1 [.int s.2.1,.int s.2.2.1,.int s.2.2.2]:=.inr (SqT.of es0);have et:Sq K H t.1 [.int t.2.1,.int t.2.2.1,.int t.2.2.2]:=.inr (SqT.of et0);have hij:i≠j:=λz=>by
  rw [z,gt] at gs;cases gs;rw [zIc] at hW;omega
 have bW:=zFv (s:=s.2) (t:=t.2) c1 c2 d1 d2;have bA:=zFv (s:=g) (t:=t.2) m1 m2 d1 d2;have bB:=zFv (s:=s.2) (t:=g) c1 c2 m1 m2;have big:(tn s.2 t.2).natAbs < 10 ^ 500:=Nat.lt_of_le_of_lt (show (tn s.2 t.2).natAbs<=10 ^ 40 by omega) (by decide +kernel);refine ⟨_,(zF (zT (i:=3) yX.nd rfl (Or.inl rfl) (zO zL (pv 0) (zO zL (pv 1) zC (λ_ _=>rfl)) (λ_ _=>rfl)))
   (zF (zT (i:=4) yX.nd rfl (Or.inl rfl) (zO zL (pv 0) (zO zL (pv 1) zC (λ_ _=>rfl)) (λ_ _=>rfl)))
   (zF (zT (i:=5) yX.nd rfl (Or.inl rfl) (zH yBp (hr.mono (by decide)) rfl (zA (pv 3) (zA (pv 4) zD))))
   (zF (zT (i:=6) yX.nd rfl (Or.inl rfl) (wE (zA (zH yBx (hr.mono (by decide)) rfl (zA (zH yBp (hr.mono (by decide)) rfl (zA (pv 2) (zA (pv 4) zD))) (zA (pv 5) zD))) (zA (zH yBx (hr.mono (by decide)) rfl (zA (zH yBp (hr.mono (by decide)) rfl (zA (pv 3) (zA (pv 2) zD))) (zA (pv 5) zD))) zD))))
   (zJ (zR (zW zG9 rfl Z.sorted rW (zA (wE (zA (xE (zA (zO zL (pv 1) zC (λ_ _=>rfl)) (zA (zO zL (pv 6) zC (λ_ _=>rfl)) zD))) (zA (xE (zA (zO zL (pv 1) zC (λ_ _=>rfl)) (zA (zO zL (pv 6) zC (λ_ _=>rfl)) zD))) zD))) zD)))))))),?_⟩
 try dsimp only [L2.cxOf]
 refine ⟨_,rfl,_,rfl,n,_,_,.int (i:Int),rfl,rfl,.inl hn,rfl,l,_,_,_,rfl,rfl,.inl hl,ats,?_⟩;refine ⟨_,rfl,_,rfl,n,_,_,.int (j:Int),rfl,rfl,.inl hn,rfl,l,_,_,_,rfl,rfl,.inl hl,att,?_⟩;refine ⟨_,rfl,_,rfl,s.1,t.1,_,_,s.2.1,s.2.2.1,t.2.1,t.2.2.1,rfl,es,et,rfl,rfl,rfl,rfl,by omega,by omega,?_⟩;refine ⟨_,rfl,_,rfl,a,t.1,_,_,g.1,g.2.1,t.2.1,t.2.2.1,rfl,ha,et,rfl,rfl,rfl,rfl,by omega,by omega,_,rfl,tn g t.2,tn s.2 t.2,rfl,by omega,big,λp1 x1 y1 H1 s1 hp1 ep1 pt1=>?_⟩;refine ⟨_,rfl,_,rfl,s.1,a,_,_,s.2.1,s.2.2.1,g.1,g.2.1,rfl,es.same s1,ha.same s1,rfl,rfl,rfl,rfl,by omega,by omega,_,rfl,tn s.2 g,tn s.2 t.2,rfl,by omega,big,λp2 x2 y2 H2 s2 hp2 ep2 pt2=>?_⟩;refine ⟨(by show 2<=sizeLine; decide),λsl hsl=>?_⟩;have ssl:=zE hsl (.lst [.ref p1,.ref p2]);have esl:upd H2 sl (.lst [.ref p1,.ref p2]) sl = some (.lst [.ref p1,.ref p2]):=zB;generalize upd H2 sl (.lst [.ref p1,.ref p2]) = H3 at ssl esl ⊢;have s03:=(s1.trans s2).trans ssl;have hn3:=s03.seq hn;refine ⟨_,rfl,n,_,_,.int (i:Int),rfl,rfl,.inl hn3,rfl,_,rfl,sl,_,_,.ref p1,rfl,rfl,.inl (SqL.of esl),rfl,(by show 2<=sizeLine; decide),λa1 ha1=>?_⟩;have sa1:=zE ha1 (.tup [.int (i:Int),.ref p1]);refine ⟨_,rfl,n,_,_,.int (j:Int),rfl,rfl,.inl (sa1.seq hn3),rfl,_,rfl,sl,_,_,.ref p2,rfl,rfl,.inl (SqL.of (sa1 _ _ esl)),rfl,(by show 2<=sizeLine; decide),λa2 ha2=>?_⟩;have sa2:=zE ha2 (.tup [.int (j:Int),.ref p2]);refine ⟨(by show 2<=sizeLine; decide),λtl htl=>?_⟩;have stl:=zE htl (.lst [.ref a1,.ref a2]);refine ⟨tl,a1,a2,(i:Int),(j:Int),_,_,rfl,SqL.of zB,stl _ _ (sa2 _ _ zB),stl _ _ zB,by omega,λD hD=>?_⟩;have sD:=zE hD (.lst (if (j:Int) < (i:Int) then [.ref a2,.ref a1] else [.ref a1,.ref a2]));have s37:=((sa1.trans sa2).trans stl).trans sD;have w1:=s37 _ _ (ssl _ _ (s2 _ _ ep1));have w2:=s37 _ _ (ssl _ _ ep2);have v1:=sD _ _ (stl _ _ (sa2 _ _ (zB (H:=H3) (a:=a1) (o:=.tup [.int (i:Int),.ref p1]))));have v2:=sD _ _ (stl _ _ (zB (H:=upd H3 a1 (.tup [.int (i:Int),.ref p1])) (a:=a2) (o:=.tup [.int (j:Int),.ref p2])));have fr:=zQ9 (P:=P) gs gt hW hA hB pt1 pt2 (by omega) (by omega) (by omega) o1 o2 hij;have frD:H D = none:=s03.free (sa1.free (sa2.free (stl.free hD)));by_cases c:j < i
 ·have c':(j:Int) < (i:Int):=by omega
  rw [if_pos c] at fr;refine q D [(a2,(j:Int),p2,x2,y2),(a1,(i:Int),p1,x1,y1)] _ (s03.trans s37) frD (by rw [zB,if_pos c']; rfl) (λu hu=>?_) fr;rcases List.mem_cons.mp hu with rfl | hu
  ·exact ⟨v2,w2⟩
  ·rw [List.mem_singleton] at hu;subst hu;exact ⟨v1,w1⟩
 ·have c':¬ (j:Int) < (i:Int):=by omega
  rw [if_neg c] at fr;refine q D [(a1,(i:Int),p1,x1,y1),(a2,(j:Int),p2,x2,y2)] _ (s03.trans s37) frD (by rw [zB,if_neg c']; rfl) (λu hu=>?_) fr;rcases List.mem_cons.mp hu with rfl | hu
  ·exact ⟨v1,w1⟩
  ·rw [List.mem_singleton] at hu;subst hu;exact ⟨v2,w2⟩
def zQ1 (ss:List Sd) (g:P3) (rs:List Sd):Prop:=∀ t∈rs,0 < tn t.2 g->∃ e∈ss,0 < tn t.2 e.2/\(∀ u∈ss,0 < tn t.2 u.2->sv u.2 (pt3 (crL t.2 e.2))<=0)/\¬ (0 < tn g e.2/\inW ss (pt3 (crL t.2 e.2)))
def qG (K:PySem.W.Frag):Sp:=λvs H Q _=>∃ (l a:Addr) (ss:List Sd) (g:P3),vs = [.ref l,.ref a]/\SqL K H l (zK ss)/\rR H ss/\ss.length<=400/\Sq K H a [.int g.1,.int g.2.1]/\g.1.natAbs<=2 * 10 ^ 9/\g.2.1.natAbs<=2 * 10 ^ 9/\zS6 ss g /\
 (∀ H':Hp,yG H H'->zQ1 ss g ss->Q .non H')/\zUf H ss g Q
theorem zDo (F:Fun K "far_by_two" "far_by_two" uW f fd) (Z:Zs mg) (yBp:Has P w K mg base "turn" 1 ["one", "other"] (wM K)) (yAm:Has P w K mg base "in_water" 3 ["sides", "place"] (uE K)) (yAb:Has P w K mg base "weights_of_two" 5 ["sides", "numbers", "direction"] (tI K)) (yAq:Has P w K mg base "crossing" 4 ["one", "other"] (uI K)) (yAp:Has P w K mg base "edge_end" 5 ["sides", "edge", "hand"] (vR K)):wL P w K mg base CX0 6 f fd ["sides", "direction"] (qG K):=by
 refine F.ok xV (λvs H Q E h=>?_) (λcdv A outer s H vs Q E hr h=>?_)
 ·obtain ⟨l,a,ss,g,rfl,_⟩:=h;rfl
 obtain ⟨l,a,ss,g,rfl,hl,ok,hlen,ha,m1,m2,nw,qn,q⟩:=h;refine ⟨_,(zF (wD PassesOwn.never rfl (uG rfl Z.range (zA (zW zV rfl Z.len wQ (zA (pv 0) zD)) zD)) (zQ (i:=2) xV.nd rfl (Or.inl rfl)) (zF (zT (i:=3) xV.nd rfl (Or.inl rfl) (zO zL (pv 0) (pv 2) (λ_ _=>rfl)))
   (zJ (xC (zU zC6 (zH yBp (hr.mono (by decide)) rfl (zA (pv 3) (zA (pv 1) zD))) zC (zX _)) (zF (zT (i:=4) xV.nd rfl (Or.inl rfl) (zH yAp (hr.mono (by decide)) rfl (zA (pv 0) (zA (pv 3) (zA zC zD)))))
   (zF (zT (i:=5) xV.nd rfl (Or.inl rfl) (zH yAq (hr.mono (by decide)) rfl (zA (pv 3) (zA (zO zL (pv 0) (pv 4) (λ_ _=>rfl)) zD))))
   (zJ (xC (PW.pt (tT (zU zC6 (zH yBp (hr.mono (by decide)) rfl (zA (pv 1) (zA (zO zL (pv 0) (pv 4) (λ_ _=>rfl)) zD))) zC (zX _)) (uH (tN (zH yAm (hr.mono (by decide)) rfl (zA (pv 0) (zA (pv 5) zD))))))) (zJ (zR (xE (zA zAb (zA (pv 5) (zA (zH yAb (hr.mono (by decide)) rfl (zA (pv 0) (zA (wE (zA (pv 2) (zA (pv 4) zD))) (zA (pv 1) zD)))) zD)))))) zY)))) zY))))
   (zJ (zR xJ))),?_⟩
 try dsimp only [L2.cxOf]
 refine ⟨_,rfl,l,_,rfl,.inl hl,_,rfl,(by rw [zI]; omega),(by rw [zI]; omega),tH (lo:=0) (n:=(((zK ss).length:Nat):Int).toNat) (λi σ H'=>yG H H'/\zQ1 ss g (ss.take i)/\∃ u2 u3 u4 u5:Option V,σ = [some (.ref l),some (.ref a),u2,u3,u4,u5])
  ⟨yG.refl _,(λt ht=>nomatch ht),none,none,none,none,rfl⟩ ?_ ?_⟩
 ·rintro i σ H' hi ⟨sH,bes,u2,u3,u4,u5,rfl⟩;have hil:i < ss.length:=by rw [Int.toNat_natCast,zI] at hi; exact hi
  obtain ⟨t,mt,gt,at'⟩:=yY (ss:=ss) (i:=i) (k:=0 + (i:Int)) (by omega) hil;obtain ⟨et0,nt,c1,c2,c3⟩:=ok t mt;have et:Sq K H' t.1 [.int t.2.1,.int t.2.2.1,.int t.2.2.2]:=.inr (SqT.of (sH _ _ et0));have ha':=ha.same sH;refine ⟨_,rfl,_,rfl,l,_,_,_,rfl,rfl,.inl (sH.seq hl),at',?_⟩;refine ⟨_,rfl,_,rfl,t.1,a,_,_,t.2.1,t.2.2.1,g.1,g.2.1,rfl,et,ha',rfl,rfl,rfl,rfl,by omega,by omega,_,_,rfl,rfl,_,rfl,?_⟩;refine ifD (λh0=>?_) (λh0=>?_)
  ·have h0':0 < tn t.2 g:=h0;refine ⟨_,rfl,_,rfl,l,t.1,ss,t.2,1,rfl,sH.seq hl,ok.same sH,by omega,et,nt,c1,c2,c3,.inl rfl,λr H1 s1 k1=>?_⟩;cases r with
   | none =>
    have:=nw t mt 1 (.inl rfl) k1;omega
   | some j =>
    obtain ⟨e,ge,he,hb⟩:=k1;have he':0 < tn t.2 e.2:=by omega
    have hj:=(List.getElem?_eq_some_iff.mp ge).1;obtain ⟨_,me,ge2,ate⟩:=yY (ss:=ss) (i:=j) (k:=(j:Int)) rfl hj;rw [ge] at ge2;cases ge2;obtain ⟨ee0,ne,d1,d2,d3⟩:=ok e me;have sH1:=sH.trans s1;have ee:Sq K H1 e.1 [.int e.2.1,.int e.2.2.1,.int e.2.2.2]:=.inr (SqT.of (sH1 _ _ ee0));have et1:=et.same s1;refine ⟨_,rfl,_,rfl,_,rfl,l,_,_,_,rfl,rfl,.inl (sH1.seq hl),ate,t.1,e.1,t.2.1,t.2.2.1,t.2.2.2,e.2.1,e.2.2.1,e.2.2.2,rfl,et1,ee,by omega,by omega,by omega,by omega,by omega,λz=>absurd z (show tn t.2 e.2≠0 by omega),λ_ p H2 s2 hp ep=>?_⟩;obtain ⟨sp,o1,o2⟩:=wJ (show tn t.2 e.2≠0 by omega);have ep':zOi H2 p (pt3 (crL t.2 e.2)):=by
     refine ⟨?_,sp.pos,sp.low⟩;have z:H2 p = some (.tup ((crL t.2 e.2).map V.int)):=ep;rw [z,sp.list];rfl
    have sH2:=sH1.trans s2;have keep:¬ (0 < tn g e.2/\inW ss (pt3 (crL t.2 e.2)))->zQ1 ss g (ss.take (i + 1)):=λhno u hu hg=>by
     rcases vS gt hu with hu | rfl
     ·exact bes u hu hg
     ·exact ⟨e,me,he',λv hv hp=>hb v hv (by omega),hno⟩
    refine ⟨_,rfl,_,rfl,_,rfl,l,_,_,_,rfl,rfl,.inl (sH2.seq hl),ate,a,e.1,_,_,g.1,g.2.1,e.2.1,e.2.2.1,rfl,ha.same sH2,ee.same s2,rfl,rfl,rfl,rfl,by omega,by omega,_,_,rfl,rfl,_,rfl,?_⟩;refine ifD (λh1=>?_) (λh1=>?_)
    ·have h1':0 < tn g e.2:=h1;refine ⟨_,rfl,_,rfl,l,p,ss,pt3 (crL t.2 e.2),rfl,sH2.seq hl,ok.same sH2,.inr (SqT.of ep'.1),_,rfl,?_⟩;by_cases hw:zB7 ss (pt3 (crL t.2 e.2)) = true
     ·rw [hw];refine zCb ?_;refine ⟨_,rfl,_,rfl,_,rfl,_,rfl,(by show 2<=sizeLine; decide),λnl hnl=>?_⟩;have snl:=zE hnl (.lst [.int (0 + (i:Int)),.int (j:Int)]);have enl:upd H2 nl (.lst [.int (0 + (i:Int)),.int (j:Int)]) nl = some (.lst [.int (i:Int),.int (j:Int)]):=by rw [zB,Int.zero_add]
      have sH3:=sH2.trans snl;refine ⟨_,rfl,l,nl,a,ss,g,pt3 (crL t.2 e.2),i,j,t,e,rfl,sH3.seq hl,ok.same sH3,SqL.of enl,ha.same sH3,m1,m2,gt,ge,he',h1',h0',o1,o2,λD ws H4 s4 hD eD okw fr=>?_⟩;refine ⟨(by show 3<=sizeLine; decide),λft hft=>?_⟩;have sft:=zE hft (.tup [.str "far", .ref p,.ref D]);refine q ft p D (pt3 (crL t.2 e.2)) ws _ ((sH3.trans s4).trans sft) zB ((ep'.same (snl.trans s4)).same sft) (vQ.mp hw) (.inr (.inr ⟨t,mt,e,me,by omega,rfl⟩)) (sH3.free hD) (sft _ _ eD) (okw.same sft) fr
     ·have hw':zB7 ss (pt3 (crL t.2 e.2)) = false:=by simpa using hw
      rw [hw'];refine vD ?_;exact ⟨sH2,keep (λz=>hw (vQ.mpr z.2)),_,_,_,_,rfl⟩
    ·refine vD ?_;exact ⟨sH2,keep (λz=>h1 z.1),_,_,_,_,rfl⟩
  ·refine ⟨sH,λu hu hg=>?_,_,_,_,_,rfl⟩;rcases vS gt hu with hu | rfl
   ·exact bes u hu hg
   ·exact absurd hg h0
 ·rintro σ H' ⟨sH,bes,u2,u3,u4,u5,rfl⟩;rw [Int.toNat_natCast,zI,List.take_length] at bes;exact qn H' sH bes
def RcO (ss:List Sd) (g:P3) (H:Hp) (t:Addr):Prop :=
 (∃ (p:Addr) (v:V) (P:P3),H t = some (.tup [.str "far", .ref p,v])/\H p = some (.tup [.int P.1,.int P.2.1,.int P.2.2])/\0 < P.2.2/\inW ss P/\(P.1.natAbs<=10 ^ 40/\P.2.1.natAbs<=10 ^ 40/\P.2.2.natAbs<=10 ^ 40)/\∀ z:P3,0 < z.2.2->inW ss z->(g.1 * z.1 + g.2.1 * z.2.1) * P.2.2<=(g.1 * P.1 + g.2.1 * P.2.1) * z.2.2) \/
 (∃ v:V,H t = some (.tup [.str "none", v])/\∀ z:P3,0 < z.2.2->¬ inW ss z) \/
 ∃ (v:V) (Z:P3) (x y:Int),H t = some (.tup [.str "open", v])/\0 < Z.2.2/\inW ss Z/\0 < g.1 * x + g.2.1 * y/\vG ss x y = true
theorem zTs {H:Hp} {ss:List Sd} {g:P3} {Q:VK} (sm:∀ t∈ss,(t.2.1≠0\/t.2.2.1≠0)/\t.2.1.natAbs<=10 ^ 9/\t.2.2.1.natAbs<=10 ^ 9/\t.2.2.2.natAbs<=10 ^ 13) (h:∀ (t:Addr) (H':Hp),yG H H'->RcO ss g H' t->Q (.ref t) H') :
  (∀ (t D:Addr) (cs:List Pr) (H':Hp),yG H H'->H' t = some (.tup [.str "none", .ref D])->H D = none->H' D = some (.lst (zA4 cs))->zP8 H' cs->zIo ss (cs.map (·.2))->Q (.ref t) H') /\
  (∀ (t p:Addr) (x y:Int) (Z:P3) (H':Hp),yG H H'->H' t = some (.tup [.str "open", .ref p])->H' p = some (.tup [.int x,.int y])->Nat.gcd x.natAbs y.natAbs = 1->0 < g.1 * x + g.2.1 * y->vG ss x y = true->x.natAbs<=2 * 10 ^ 9->y.natAbs<=2 * 10 ^ 9->0 < Z.2.2->inW ss Z->zLe ss Z->Q (.ref t) H')/\zUf H ss g Q :=
 ⟨λt D cs H' s e _ _ _ cl=>h t H' s (.inr (.inl ⟨_,e,λz zw=>cl.no z zw⟩)),λt p x y Z0 H' s e _ _ hg hw _ _ zw wz _=>h t H' s (.inr (.inr ⟨_,Z0,x,y,e,zw,wz,hg,hw⟩)),λt p D P ws H' s e sp wP cP _ _ _ far=>h t H' s (.inl ⟨p,_,P,e,sp.1,sp.2.1,wP,cP.small sm,λz zw wz=>far.most zw sp.2.1 wz⟩)⟩
def zEs (K:PySem.W.Frag):Sp:=λvs H Q _=>∃ (l a:Addr) (ss:List Sd) (g:P3),vs = [.ref l,.ref a]/\SqL K H l (zK ss)/\rR H ss/\ss.length<=400/\Sq K H a [.int g.1,.int g.2.1]/\(g.1≠0\/g.2.1≠0)/\g.1.natAbs<=2 * 10 ^ 9/\g.2.1.natAbs<=2 * 10 ^ 9 /\
 ∀ (t:Addr) (H':Hp),yG H H'->RcO ss g H' t->Q (.ref t) H'
theorem zKd (F:Fun K "reach" "reach" zBb f fd) (Z:Zs mg) (yAi:Has P w K mg base "far_by_one" 8 ["sides", "direction"] (qJ K)) (yAh:Has P w K mg base "far_by_two" 6 ["sides", "direction"] (qG K)) (yAj:Has P w K mg base "way_onward" 5 ["sides", "direction"] (rX K)) (yBm:Has P w K mg base "clash" 9 ["sides"] (zEt K)):wL P w K mg base CX0 10 f fd ["sides", "direction"] (zEs K):=by
 refine F.ok zBs (λvs H Q E h=>?_) (λcdv A outer s H vs Q E hr h=>?_)
 ·obtain ⟨l,a,ss,g,rfl,_⟩:=h;rfl
 obtain ⟨l,a,ss,g,rfl,hl,ok,hlen,ha,gz,m1,m2,qr⟩:=h;obtain ⟨qc,qo,qf⟩:=zTs (λt ht=>(ok t ht).2) qr;have nz:∀ t∈ss,t.2.1≠0\/t.2.2.1≠0:=λt ht=>(ok t ht).2.1;refine ⟨_,(zF (zT (i:=2) zBs.nd rfl (Or.inl rfl) (zH yBm (hr.mono (by decide)) rfl (zA (pv 0) zD)))
   (zF (xC (zU zAj (pv 2) xJ (zX _)) (zJ (zR (xE (zA zAb (zA (pv 2) zD))))) zY)
   (zF (zT (i:=3) zBs.nd rfl (Or.inl rfl) (zH yAj (hr.mono (by decide)) rfl (zA (pv 0) (zA (pv 1) zD))))
   (zF (xC (zU zAj (pv 3) xJ (zX _)) (zJ (zR (xE (zA zAb (zA (pv 3) zD))))) zY)
   (zJ (zR (zT5 (zH yAi (hr.mono (by decide)) rfl (zA (pv 0) (zA (pv 1) zD))) (zN6 (zH yAh (hr.mono (by decide)) rfl (zA (pv 0) (zA (pv 1) zD))))))))))),?_⟩
 try dsimp only [L2.cxOf]
 refine ⟨_,rfl,l,ss,rfl,hl,ok,by omega,λP0 H1 s1 pw wp cp=>?_,λD cs H1 s1 hD eD okc cl=>?_⟩
 ·refine ⟨_,rfl,rfl,_,rfl,?_⟩;refine vD ?_;refine ⟨_,rfl,_,rfl,l,a,ss,g,rfl,s1.seq hl,ok.same s1,hlen,ha.same s1,gz,m1,m2,λH2 s2 nw nl=>?_,λp x y H2 s2 ep low pos hw bx by'=>?_⟩
  ·refine ⟨_,rfl,rfl,_,rfl,?_⟩;refine vD ?_;have s12:=s1.trans s2;refine ⟨_,rfl,_,rfl,l,a,ss,g,rfl,s12.seq hl,ok.same s12,hlen,ha.same s12,gz,m1,m2,λH3 s3 b1=>?_,λft p D P ws H3 s3 ef ep wP cP hD eD okw fr=>?_⟩
   ·refine ⟨false,rfl,?_⟩;refine vD ?_;have s13:=s12.trans s3;refine ⟨_,rfl,_,rfl,l,a,ss,g,rfl,s13.seq hl,ok.same s13,hlen,ha.same s13,m1,m2,nw,λH4 s4 b2=>?_,λft p D P ws H4 s4 ef ep wP cP hD eD okw fr=>?_⟩
    ·exact (zTd ⟨nz,gz,nw,nl,b1⟩ b2 pw wp).elim
    ·exact qf ft p D P ws H4 (s13.trans s4) ef ep wP cP (s13.free hD) eD okw fr
   ·refine ⟨true,.inr (.inl ⟨_,SqT.of ef,rfl⟩),?_⟩;refine zCb ?_;exact qf ft p D P ws H3 (s12.trans s3) ef ep wP cP (s12.free hD) eD okw fr
  ·refine ⟨_,rfl,rfl,_,rfl,?_⟩;refine zCb ?_;refine ⟨_,rfl,(by show 2<=sizeLine; decide),λt ht=>?_⟩;have st:=zE ht (.tup [.str "open", .ref p]);exact qo t p x y P0 _ ((s1.trans s2).trans st) zB (st _ _ ep) low pos hw bx by' pw wp cp
 ·refine ⟨_,rfl,rfl,_,rfl,?_⟩;refine zCb ?_;refine ⟨_,rfl,(by show 2<=sizeLine; decide),λt ht=>?_⟩;have st:=zE ht (.tup [.str "none", .ref D]);exact qc t D cs _ (s1.trans st) zB hD (st _ _ eD) (okc.same st) cl
def dbN (ss:List (List Sd)) (P:P3) (n:Nat):List Int:=((List.range n).filter λi=>!(zB7 (ss.getD i []) P)).map λi=>((i:Nat):Int)
theorem zOo (ss:List (List Sd)) (P:P3) (n:Nat):dbN ss P (n + 1) = dbN ss P n ++ (if zB7 (ss.getD n []) P then [] else [(n:Int)]):=by
 unfold dbN;rw [List.range_succ,List.filter_append,List.map_append]
 congr 1
 rw [List.filter_cons];cases zB7 (ss.getD n []) P <;> rfl
theorem zR6 (ss:List (List Sd)) (P:P3) (n:Nat):(dbN ss P n).length<=n:=by
 unfold dbN;rw [List.length_map];have z:=List.length_filter_le (λi=>!(zB7 (ss.getD i []) P)) (List.range n);rwa [List.length_range] at z
def db (ss:List (List Sd)) (P:P3):List Int:=dbN ss P ss.length
abbrev Grp:=Addr × List Sd
def rS (gs:List Grp):List V:=gs.map λg=>V.ref g.1
theorem uB (gs:List Grp):(rS gs).length = gs.length:=by unfold rS; rw [List.length_map]
def GrL (H:Hp) (gs:List Grp):Prop:=∀ g∈gs,H g.1 = some (.lst (zK g.2))/\rR H g.2
theorem GrL.same {H H':Hp} {gs:List Grp} (h:GrL H gs) (s:yG H H'):GrL H' gs:=λg hg=>⟨s _ _ (h g hg).1,(h g hg).2.same s⟩
theorem zPa {gs:List Grp} {i:Nat} {k:Int} (hi:i < gs.length) (hk:k = i):∃ g,gs[i]? = some g/\g∈gs/\atI (rS gs) k = some (.ref g.1)/\(gs.map (·.2)).getD i [] = g.2:=by
 subst hk;refine ⟨gs[i],List.getElem?_eq_getElem hi,List.getElem_mem hi,?_,by simp [hi]⟩;exact tZ (by unfold rS; rw [List.getElem?_map,List.getElem?_eq_getElem hi]; rfl)
structure Rws (H0:Hp) (D:Addr) (rs:List (Addr × List Int)) (H:Hp):Prop where
 same:yG H0 H
 new:H0 D = none
 at':H D = some (.lst ((rs.map (·.1)).map V.ref))
 rows:∀ t∈rs,H t.1 = some (.lst (t.2.map V.int))/\H0 t.1 = none/\t.1≠D
theorem Rws.app {H0 H H2:Hp} {D p:Addr} {rs:List (Addr × List Int)} {k:List Int} (h:Rws H0 D rs H) (s2:yG H H2) (hp:H p = none) (ep:H2 p = some (.lst (k.map V.int))) :
  Rws H0 D (rs ++ [(p,k)]) (upd H2 D (.lst ((rs.map (·.1)).map V.ref ++ [.ref p]))):=by
 have npD:p≠D:=λz=>by rw [z,h.at'] at hp; cases hp
 refine ⟨(h.same.trans s2).putNew h.new,h.new,by rw [zB]; simp,λu hu=>?_⟩;rcases List.mem_append.mp hu with hu | hu
 ·obtain ⟨g1,g2,g3⟩:=h.rows u hu;exact ⟨by rw [zP g3]; exact s2 _ _ g1,g2,g3⟩
 ·rw [List.mem_singleton] at hu;subst hu;exact ⟨by show upd H2 D _ p = _; rw [zP npD]; exact ep,h.same.free hp,npD⟩
def zCe (K:PySem.W.Frag):Sp:=λvs H Q _=>∃ (l p:Addr) (gs:List Grp) (P:P3),vs = [.ref l,.ref p]/\SqL K H l (rS gs)/\GrL H gs/\gs.length<=100/\Sq K H p [.int P.1,.int P.2.1,.int P.2.2] /\
 ∀ (D:Addr),H D = none->Q (.ref D) (upd H D (.lst ((db (gs.map (·.2)) P).map V.int)))
theorem zGj (F:Fun K "doubted" "doubted" rC f fd) (Z:Zs mg) (yAm:Has P w K mg base "in_water" 3 ["sides", "place"] (uE K)):wL P w K mg base CX0 4 f fd ["groups", "place"] (zCe K):=by
 refine F.ok zHh (λvs H Q E h=>?_) (λcdv A outer s H vs Q E hr h=>?_)
 ·obtain ⟨l,p,gs,P,rfl,_⟩:=h;rfl
 obtain ⟨l,p,gs,P,rfl,hl,ok,hn,hp,q⟩:=h;refine ⟨_,(zJ (zR (vI (T:=["number"]) (caps:=[("groups", 0),("place", 1)]) ⟨rfl,by decide +kernel,by decide +kernel,rfl,⟨⟨rfl,rfl,Or.inl rfl⟩,⟨rfl,rfl,Or.inl rfl⟩,True.intro⟩⟩ rfl (uG rfl Z.range (zA (zW zV rfl Z.len wQ (zA (pv 0) zD)) zD)) (λ_=>(zQ (i:=0) (show (["number", "groups", "place"]:List Str).Nodup by decide +kernel) rfl (Or.inl rfl))) (λ_=>(zFo (zAy (tN (zH yAm (hr.mono (by decide)) rfl (zA (zO zL (pv 1) (pv 0) (λ_ _=>rfl)) (zA (pv 2) zD))))))) (λ_=>(pv 0))))),?_⟩
 try dsimp only [L2.cxOf]
 refine ⟨_,rfl,l,rS gs,rfl,.inl hl,_,rfl,by rw [uB]; omega,by rw [uB]; omega,λcc D hD=>zE4 (lo:=0) (n:=(rS gs).length) (λi σ ys H'=>H' = upd H D (.lst ys)/\ys = (dbN (gs.map (·.2)) P i).map V.int/\∃ u:Option V,σ = [u,some (.ref l),some (.ref p)])
  ⟨rfl,rfl,none,rfl⟩ (λi σ ys H' _ ⟨e,_⟩=>by rw [e]; exact zB) ?_ ?_⟩
 ·rintro i σ ys H' hi ⟨rfl,rfl,u,rfl⟩;rw [uB] at hi;obtain ⟨g,_,mg',at',eg⟩:=zPa hi (k:=0 + (i:Int)) (by omega);obtain ⟨e1,e2⟩:=ok g mg';have sD:=zE hD (.lst ((dbN (gs.map (·.2)) P i).map V.int));refine ⟨_,rfl,_,rfl,l,_,_,_,rfl,rfl,.inl (sD.seq hl),at',_,rfl,g.1,p,g.2,P,rfl,SqL.of (sD _ _ e1),e2.same sD,?_,_,rfl,?_⟩
  ·exact hp.same sD
  rw [<- eg];have nx:=zOo (gs.map (·.2)) P i;have nl:=zR6 (gs.map (·.2)) P i;cases hw:zB7 ((gs.map (·.2)).getD i []) P with
  | true =>
   rw [hw] at nx;refine vD ⟨rfl,?_,_,rfl⟩;rw [nx];simp
  | false =>
   rw [hw] at nx;refine zCb ⟨_,rfl,zB,yB (by rw [List.length_map]; omega),qK,?_,_,rfl⟩;rw [nx,List.map_append];show _ ++ [V.int (0 + (i:Int))] = _ ++ [V.int (i:Int)];rw [Int.zero_add]
 ·rintro σ ys H' ⟨rfl,rfl,u,rfl⟩;rw [uB,show gs.length = (gs.map (·.2)).length by rw [List.length_map]];exact q D hD
theorem zRm {n:Nat} (h:n<=9000):n < sizeLine:=Nat.lt_of_le_of_lt h (by decide)
def zCh (ss:List Sd) (P:P3):Prop:=P = (0,0,1)\/(∃ t∈ss,P = pt3 (ftL t.2))\/∃ t∈ss,∃ u∈ss,tn t.2 u.2≠0/\P = pt3 (crL t.2 u.2)
def yN (gs:List Grp):List Sd:=gs.flatMap (·.2)
theorem zOu (ss:List Sd) (n:Nat):rO (zK ss) none (some (n:Int)) = zK (ss.take n):=by
 unfold rO;rw [show HT.sIx (zK ss).length 0 none = 0 from rfl,HT.sIx_nat (zK ss).length (zK ss).length n,List.drop_zero,Nat.sub_zero];rw [zI];unfold zK;rw [<- List.map_take,<- List.map_take];by_cases h:n<=ss.length
 ·rw [Nat.min_eq_left h]
 ·rw [Nat.min_eq_right (by omega),List.take_of_length_le (Nat.le_refl _),List.take_of_length_le (by omega)]
structure Tr (ss:List Sd) (nf i j:Nat) (ps:List P3):Prop where
 each:∀ P∈ps,zCh ss P
 zero:((0,0,1):P3)∈ps
 feet:∀ (a:Nat) (t:Sd),a < nf->ss[a]? = some t->pt3 (ftL t.2)∈ps
 meet:∀ (a b:Nat) (t u:Sd),b < a->(a < i\/(a = i/\b < j))->ss[a]? = some t->ss[b]? = some u->tn t.2 u.2≠0->pt3 (crL t.2 u.2)∈ps
theorem Tr.all {ss:List Sd} {ps:List P3} (h:Tr ss ss.length ss.length 0 ps) (P:P3):P∈ps↔zCh ss P:=by
 refine ⟨h.each P,λz=>?_⟩;rcases z with rfl | ⟨t,ht,rfl⟩ | ⟨t,ht,u,hu,hn,rfl⟩
 ·exact h.zero
 ·obtain ⟨a,ha,ea⟩:=List.getElem_of_mem ht;exact h.feet a t ha (by rw [List.getElem?_eq_getElem ha,ea])
 ·obtain ⟨a,ha,ea⟩:=List.getElem_of_mem ht;obtain ⟨b,hb,eb⟩:=List.getElem_of_mem hu;have ga:ss[a]? = some t:=by rw [List.getElem?_eq_getElem ha,ea]
  have gb:ss[b]? = some u:=by rw [List.getElem?_eq_getElem hb,eb]
  by_cases h1:b < a
  ·exact h.meet a b t u h1 (.inl ha) ga gb hn
  ·by_cases e:a = b
   ·subst e;rw [ga] at gb;cases gb;exact absurd (by unfold tn; rw [Int.mul_comm]; omega) hn
   ·have hut:tn u.2 t.2≠0:=λz=>hn (by unfold tn at z ⊢; rw [Int.mul_comm u.2.1,Int.mul_comm u.2.2.1] at z; omega);rw [zLl hn];exact h.meet b a u t (by omega) (.inl hb) gb ga hut
theorem Tr.foot {ss:List Sd} {i:Nat} {ps:List P3} {t:Sd} (h:Tr ss i i 0 ps) (gt:ss[i]? = some t):Tr ss (i + 1) i 0 (ps ++ [pt3 (ftL t.2)]):=by
 refine ⟨λP hP=>?_,List.mem_append_left _ h.zero,λa u ha gu=>?_,λa b x y hab hc gx gy hn=>List.mem_append_left _ (h.meet a b x y hab hc gx gy hn)⟩
 ·rcases List.mem_append.mp hP with z | z
  ·exact h.each P z
  ·rw [List.mem_singleton] at z;exact .inr (.inl ⟨t,List.mem_of_getElem? gt,z⟩)
 ·by_cases e:a = i
  ·rw [e,gt] at gu;cases gu;exact List.mem_append_right _ (.head _)
  ·exact List.mem_append_left _ (h.feet a u (by omega) gu)
theorem Tr.more {ss:List Sd} {i j:Nat} {ps ps':List P3} {t u:Sd} (h:Tr ss (i + 1) i j ps) (gt:ss[i]? = some t) (gu:ss[j]? = some u) (sub:∀ P∈ps,P∈ps') (new:∀ P∈ps',P∈ps\/(tn t.2 u.2≠0/\P = pt3 (crL t.2 u.2))) (has:tn t.2 u.2≠0->pt3 (crL t.2 u.2)∈ps'):Tr ss (i + 1) i (j + 1) ps':=by
 refine ⟨λP hP=>?_,sub _ h.zero,λa x ha gx=>sub _ (h.feet a x ha gx),λa b x y hab hc gx gy hn=>?_⟩
 ·rcases new P hP with z | ⟨z1,z2⟩
  ·exact h.each P z
  ·exact .inr (.inr ⟨t,List.mem_of_getElem? gt,u,List.mem_of_getElem? gu,z1,z2⟩)
 ·by_cases e:a = i/\b = j
  ·obtain ⟨rfl,rfl⟩:=e;rw [gt] at gx;rw [gu] at gy;cases gx;cases gy;exact has hn
  ·exact sub _ (h.meet a b x y hab (by omega) gx gy hn)
theorem Tr.next {ss:List Sd} {i:Nat} {ps:List P3} (h:Tr ss (i + 1) i i ps):Tr ss (i + 1) (i + 1) 0 ps:=⟨h.each,h.zero,h.feet,λa b t u hab hc gt gu hn=>h.meet a b t u hab (by omega) gt gu hn⟩
structure PlT (H0:Hp) (D:Addr) (qs:List SpT) (H:Hp):Prop where
 same:yG H0 H
 new:H0 D = none
 at':H D = some (.lst (wN qs))
 ok:zD8 H qs
theorem PlT.app {H0 H H2:Hp} {D p:Addr} {qs:List SpT} {l:List Int} {x:P3} (h:PlT H0 D qs H) (s2:yG H H2) (hp:H p = none) (ep:H2 p = some (.tup (l.map V.int))) (sp:zNg l x) :
  PlT H0 D (qs ++ [(p,x)]) (upd H2 D (.lst (wN qs ++ [.ref p]))):=by
 have npD:p≠D:=λz=>by rw [z,h.at'] at hp; cases hp
 refine ⟨(h.same.trans s2).putNew h.new,h.new,by rw [zB]; simp [wN],λu hu=>?_⟩;rcases List.mem_append.mp hu with hu | hu
 ·obtain ⟨g1,g2⟩:=h.ok u hu;exact ⟨by rw [zP (sZ (s2 _ _ g1) (s2 _ _ h.at') (by intro z; cases z))]; exact s2 _ _ g1,g2⟩
 ·rw [List.mem_singleton] at hu;subst hu;refine ⟨?_,sp.pos,sp.low⟩;show upd H2 D _ p = _;rw [zP npD,ep,sp.list];rfl
def tP (K:PySem.W.Frag):Sp:=λvs H Q _=>∃ (l:Addr) (gs:List Grp),vs = [.ref l]/\SqL K H l (rS gs)/\GrL H gs/\gs.length<=12/\(∀ g∈gs,g.2.length<=2) /\
 ∀ (D:Addr) (qs:List SpT) (H':Hp),yG H H'->H D = none->H' D = some (.lst (wN qs))->zD8 H' qs->(∀ P,P∈qs.map (·.2)↔zCh (yN gs) P)->qs.length<=1000->Q (.ref D) H'
theorem zBm (F:Fun K "places_to_try" "places_to_try" xX f fd) (Z:Zs mg) (yAq:Has P w K mg base "crossing" 4 ["one", "other"] (uI K)) (yBu:Has P w K mg base "foot" 5 ["side"] (zA7 K)) (yBw:Has P w K mg base "spot" 4 ["x", "y", "w"] (zBl K)):wL P w K mg base CX0 6 f fd ["groups"] (tP K):=by
 refine F.ok yK (λvs H Q E h=>?_) (λcdv A outer s H vs Q E hr h=>?_)
 ·obtain ⟨l,gs,rfl,_⟩:=h;rfl
 obtain ⟨l,gs,rfl,hl,ok,hn,h2,q⟩:=h;refine ⟨_,(zF (zT (i:=1) yK.nd rfl (Or.inl rfl) (wE zD))
   (zF (wD PassesOwn.never rfl (xU (pv 0)) (zQ (i:=2) yK.nd rfl (Or.inl rfl)) (zJ (qH (zHi PySem.F.plainAttrs_list PySem.F.slot_list_extend PySem.F.type_list_extend zNi (pv 1) (zA (pv 2) zD)))))
   (zF (zT (i:=3) yK.nd rfl (Or.inl rfl) (wE (zA (zH yBw (hr.mono (by decide)) rfl (zA zC (zA zC (zA zC zD)))) zD)))
   (zF (wD PassesOwn.never rfl (uG rfl Z.range (zA (zW zV rfl Z.len wQ (zA (pv 1) zD)) zD)) (zQ (i:=4) yK.nd rfl (Or.inl rfl)) (zF (qH (zHi PySem.F.plainAttrs_list PySem.F.slot_list_append PySem.F.type_list_append wS (pv 3) (zA (zH yBu (hr.mono (by decide)) rfl (zA (zO zL (pv 1) (pv 4) (λ_ _=>rfl)) zD)) zD)))
   (zJ (wD PassesOwn.never rfl (zIr (xG wG (pv 1) wK (wH (pv 4)))) (zQ (i:=5) yK.nd rfl (Or.inl rfl)) (zF (zT (i:=6) yK.nd rfl (Or.inl rfl) (zH yAq (hr.mono (by decide)) rfl (zA (zO zL (pv 1) (pv 4) (λ_ _=>rfl)) (zA (pv 5) zD))))
   (zJ (xC (zU zAj (pv 6) xJ (zX _)) (zJ (qH (zHi PySem.F.plainAttrs_list PySem.F.slot_list_append PySem.F.type_list_append wS (pv 3) (zA (pv 6) zD)))) zY)))))))
   (zJ (zR (pv 3))))))),?_⟩
 try dsimp only [L2.cxOf]
 have len:∀ k,k<=gs.length->(yN (gs.take k)).length<=2 * k:=λk=>by
  induction k with
  | zero=>intro _; simp [yN]
  | succ k ih =>
   intro hk;have hk':k < gs.length:=by omega
   have z:=ih (by omega);have g2:=h2 gs[k] (List.getElem_mem hk');have e:yN (gs.take (k + 1)) = yN (gs.take k) ++ gs[k].2:=by
    unfold yN;rw [List.take_succ_eq_append_getElem hk',List.flatMap_append];simp
   rw [e,List.length_append];omega
 have okS:∀ {H':Hp},GrL H' gs->rR H' (yN gs):=λ{H'} o t ht=>by
  obtain ⟨g,hg,htg⟩:=List.mem_flatMap.mp ht;exact (o g hg).2 t htg
 refine ⟨Nat.zero_le _,λd hd=>?_⟩;have sd:∀ v,yG H (upd H d v):=λv=>zE hd v;refine ⟨_,rfl,l,rfl,.inl ⟨⟨_,(sd _).seq hl⟩,xL (K:=K) (a:=l) (xs:=rS gs) (λi σ H'=>H' = upd H d (.lst (zK (yN (gs.take i))))/\∃ u2:Option V,σ = [some (.ref l),some (.ref d),u2,none,none,none,none])
  ⟨rfl,none,rfl⟩ (λi σ H' _ ⟨e,_⟩=>by rw [e]; exact (sd _).seq hl) ?_ ?_⟩⟩
 ·rintro i v σ H' hi ⟨rfl,u2,rfl⟩;unfold rS at hi;rw [List.getElem?_map] at hi;cases gx:gs[i]? with
  | none=>rw [gx] at hi; cases hi
  | some g =>
   rw [gx] at hi;cases hi;have hil:i < gs.length:=(List.getElem?_eq_some_iff.mp gx).1;have eg:=(ok g (List.mem_of_getElem? gx)).1;have lz:=len i (by omega);have g2:=h2 g (List.mem_of_getElem? gx);refine ⟨_,rfl,.inl ⟨rfl,_,SqL.of zB⟩,_,rfl,d,g.1,_,_,rfl,rfl,zB,sd _ _ _ eg,?_,?_⟩
   ·rw [zI,zI];exact small (by omega)
   ·refine ⟨?_,_,rfl⟩;rw [qK]
    congr 2
    unfold yN;rw [List.take_succ_eq_append_getElem hil,List.flatMap_append,(List.getElem?_eq_some_iff.mp gx).2];simp [zK]
 ·rintro σ H' ⟨rfl,u2,rfl⟩;rw [uB,List.take_length];have lz:=len gs.length (Nat.le_refl _);rw [List.take_length] at lz;have ss0:rR (upd H d (.lst (zK (yN gs)))) (yN gs):=okS (ok.same (sd _));have s0:=sd (.lst (zK (yN gs)));have ed:upd H d (.lst (zK (yN gs))) d = some (.lst (zK (yN gs))):=zB;generalize upd H d (.lst (zK (yN gs))) = H1 at ss0 s0 ed ⊢;clear len okS sd;generalize hss:yN gs = ss at ss0 ed lz q;refine ⟨0,0,1,rfl,by decide,by decide +kernel,λp H2 s2 hp ep=>?_⟩;have e0:tJ (upL 0 0 1) = [0,0,1]:=by decide +kernel
  rw [e0] at ep;refine ⟨by show 1<=sizeLine; decide,λD hD=>?_⟩;have P0:PlT H2 D [(p,0,0,1)] (upd H2 D (.lst [.ref p])):=by
   refine ⟨zE hD _,hD,zB,λu hu=>?_⟩;rw [List.mem_singleton] at hu;subst hu;exact ⟨zE hD _ _ _ ep,by show (0:Int) < 1; decide,by show Nat.gcd (Nat.gcd 0 0) 1 = 1; decide⟩
  have T0:Tr ss 0 0 0 ([((p,0,0,1):SpT)].map (·.2)):=⟨λP hP=>by rw [List.mem_singleton.mp hP]; exact .inl rfl,.head _,λa t h=>absurd h (Nat.not_lt_zero _),λa b t u h1 h2=>absurd h2 (by omega)⟩;have hs12:yG H1 H2:=s2;have ed2:=s2 _ _ ed;have ok2:=ss0.same s2;refine ⟨_,rfl,d,zK ss,rfl,.inl ((zE hD _).seq (SqL.of ed2)),_,rfl,by rw [zI]; omega,by rw [zI]; omega,tH (lo:=0) (n:=(zK ss).length) (λi σ H'=>∃ qs:List SpT,PlT H2 D qs H'/\Tr ss i i 0 (qs.map (·.2))/\qs.length<=1 + i * 25/\∃ u4 u5 u6:Option V,σ = [some (.ref l),some (.ref d),u2,some (.ref D),u4,u5,u6])
   ⟨_,P0,T0,by show 1<=1 + 0 * 25; omega,none,none,none,rfl⟩ ?_ ?_⟩
  ·rintro i σ H' hi ⟨qs,Pq,tr,hq,u4,u5,u6,rfl⟩;rw [zI] at hi;obtain ⟨t,mt,gt,at'⟩:=yY (ss:=ss) (i:=i) (k:=0 + (i:Int)) (by omega) hi;have okH:=ok2.same Pq.same;obtain ⟨et,nt,b1,b2,b3⟩:=okH t mt;have hq1:i * 25<=24 * 25:=Nat.mul_le_mul_right _ (by omega);refine ⟨_,rfl,.inl ⟨rfl,_,SqL.of Pq.at'⟩,_,rfl,_,rfl,d,_,_,_,rfl,rfl,.inl (SqL.of (Pq.same _ _ ed2)),at',t.1,t.2,rfl,.inr (SqT.of et),nt,b1,b2,λp3 H3 s3 hp3 ep3=>?_⟩;refine ⟨D,_,_,rfl,rfl,s3 _ _ Pq.at',yB (by simp only [wN,List.length_map]; omega),?_⟩;have P1:=Pq.app s3 hp3 ep3 (zKf nt).1;have T1:=tr.foot gt;generalize upd H3 D (.lst (wN qs ++ [.ref p3])) = H4 at P1 ⊢;refine ⟨_,rfl,_,rfl,_,rfl,d,_,rfl,SqL.of (P1.same _ _ ed2),λc hc=>?_⟩;rw [Int.zero_add,zOu];rw [Int.zero_add] at at';have sc:yG H4 (upd H4 c (.lst (zK (ss.take i)))):=zE hc _;have ec:upd H4 c (.lst (zK (ss.take i))) c = some (.lst (zK (ss.take i))):=zB;have P2:PlT H2 D (qs ++ [(p3,pt3 (ftL t.2))]) (upd H4 c (.lst (zK (ss.take i)))):=⟨P1.same.trans sc,P1.new,sc _ _ P1.at',P1.ok.same sc⟩;have ncD:c≠D:=λz=>by rw [z,P1.at'] at hc; cases hc
   generalize upd H4 c (.lst (zK (ss.take i))) = H5 at P2 ec ⊢;clear P1 sc hc;refine ⟨c,rfl,⟨_,SqL.of ec⟩,xL (K:=K) (a:=c) (xs:=zK (ss.take i)) (λj σ H'=>H' c = some (.lst (zK (ss.take i)))/\(∃ qs:List SpT,PlT H2 D qs H'/\Tr ss (i + 1) i j (qs.map (·.2))/\qs.length<=2 + i * 25 + j)/\∃ u5 u6:Option V,σ = [some (.ref l),some (.ref d),u2,some (.ref D),some (.int i),u5,u6])
    ⟨ec,⟨_,P2,by rw [List.map_append]; exact T1,by rw [List.length_append,List.length_singleton]; omega⟩,_,_,rfl⟩ (λj σ H' _ ⟨e,_⟩=>SqL.of e) ?_ ?_⟩
   ·rintro j v σ H6 hj ⟨ec6,⟨qs,Pq,tr,hq⟩,u5,u6,rfl⟩;obtain ⟨u,gu0,rfl,hjl⟩:=xP hj;rw [List.length_take] at hjl;have gu:ss[j]? = some u:=by rw [List.getElem?_take_of_lt (by omega)] at gu0; exact gu0
    have okH:=ok2.same Pq.same;obtain ⟨et,nt,b1,b2,b3⟩:=okH t mt;obtain ⟨eu,nu,c1,c2,c3⟩:=okH u (List.mem_of_getElem? gu);refine ⟨_,rfl,_,rfl,d,_,_,_,rfl,rfl,.inl (SqL.of (Pq.same _ _ ed2)),at',_,rfl,t.1,u.1,t.2.1,t.2.2.1,t.2.2.2,u.2.1,u.2.2.1,u.2.2.2,rfl,.inr (SqT.of et),.inr (SqT.of eu),by omega,by omega,by omega,by omega,by omega,λh0=>?_,λh0 p7 H7 s7 hp7 ep7=>?_⟩
    ·refine ⟨_,rfl,rfl,_,rfl,?_⟩;refine vD ?_;exact ⟨ec6,⟨qs,Pq,tr.more gt gu (λP h=>h) (λP h=>.inl h) λz=>absurd h0 z,by omega⟩,_,_,rfl⟩
    ·refine ⟨_,rfl,rfl,_,rfl,?_⟩;refine zCb ?_;have P7:=Pq.app (l:=crL t.2 u.2) s7 hp7 ep7 (wJ h0).1;refine ⟨_,rfl,.inl ⟨rfl,_,SqL.of (s7 _ _ Pq.at')⟩,_,rfl,D,_,_,rfl,rfl,s7 _ _ Pq.at',yB (by simp only [wN,List.length_map]; omega),?_⟩;refine ⟨by rw [zP ncD]; exact s7 _ _ ec6,⟨_,P7,?_,by rw [List.length_append,List.length_singleton]; omega⟩,_,_,rfl⟩;rw [List.map_append];exact tr.more gt gu (λP h=>List.mem_append_left _ h) (λP h=>(List.mem_append.mp h).imp id λz=>⟨h0,List.mem_singleton.mp z⟩) λ_=>List.mem_append_right _ (.head _)
   ·rintro σ H6 ⟨ec6,⟨qs,Pq,tr,hq⟩,u5,u6,rfl⟩;rw [zI,List.length_take,Nat.min_eq_left (by omega)] at tr hq;exact ⟨qs,Pq,tr.next,by omega,_,_,_,rfl⟩
  ·rintro σ H' ⟨qs,Pq,tr,hq,u4,u5,u6,rfl⟩;rw [zI] at tr hq;refine ⟨_,rfl,q D qs H' ((s0.trans s2).trans Pq.same) ((s0.trans s2).free Pq.new) Pq.at' Pq.ok (λP=>tr.all P) ?_⟩;have:ss.length * 25<=24 * 25:=Nat.mul_le_mul_right _ (by omega);omega
structure zKl (H:Hp) (gs:List Grp) (kvs:List (List Key × V)) (ks:List (List Int)):Prop where
 tab:zI5 kvs ks
 spot:∀ k∈ks,∃ sp:SpT,zEr kvs (zCj k) = some (.ref sp.1)/\zD8 H [sp]/\k = db (gs.map (·.2)) sp.2/\zCh (yN gs) sp.2
structure zQ6 (gs:List Grp) (ks:List (List Int)):Prop where
 ne:ks≠[]
 least:∀ k∈ks,∀ P,zCh (yN gs) P->k.length<=(db (gs.map (·.2)) P).length
 all:∀ P,zCh (yN gs) P->(∀ k∈ks,(db (gs.map (·.2)) P).length<=k.length)->db (gs.map (·.2)) P∈ks
theorem zKl.put {H H':Hp} {gs:List Grp} {kvs:List (List Key × V)} {ks:List (List Int)} (sh:zKl H gs kvs ks) {x:SpT} (hx:zD8 H' [x]) (tr:zCh (yN gs) x.2) (keep:∀ b xs,H b = some (.tup xs)->H' b = some (.tup xs)) :
  ∃ ks',zKl H' gs (zEh kvs (zCj (db (gs.map (·.2)) x.2)) (.ref x.1)) ks'/\(∀ k,k∈ks'↔k∈ks\/k = db (gs.map (·.2)) x.2)/\ks'.length<=ks.length + 1:=by
 obtain ⟨ks',t1,t2,t3⟩:=sh.tab.put (db (gs.map (·.2)) x.2) (.ref x.1);refine ⟨ks',⟨t1,λk hk=>?_⟩,t2,t3⟩;by_cases e:k = db (gs.map (·.2)) x.2
 ·exact ⟨x,by rw [zJn,if_pos (by rw [e])],hx,e,tr⟩
 ·obtain ⟨sp,v1,v2,v3,v4⟩:=sh.spot k (((t2 k).mp hk).resolve_right e);refine ⟨sp,by rw [zJn,if_neg (λz=>e (zJc z))]; exact v1,λu hu=>?_,v3,v4⟩;exact ⟨keep _ _ (v2 u hu).1,(v2 u hu).2⟩
theorem zFe {ts:List (Addr × List Key)} {D:Addr} {g:TG} {te:TE} {σ0:St} {H1:Hp} {Q:VK} (Pv:Nat->St->List V->Hp->Prop) (h0:Pv 0 σ0 [] (upd H1 D (.lst []))) (hl:∀ i σ ys H,Pv i σ ys H->H D = some (.lst ys))
  (hs:∀ i t σ ys H,ts[i]? = some t->Pv i σ ys H->g (.ref t.1) σ H λσ2 H2=>te σ2 H2 λy H4=>H4 D = some (.lst ys)/\ys.length < sizeLine/\Pv (i + 1) σ2 (ys ++ [y]) (upd H4 D (.lst (ys ++ [y]))))
  (hd:∀ σ ys H,Pv ts.length σ ys H->Q (.ref D) H):zBz (Itk ts) D g zRz te σ0 H1 Q:=by
 refine ⟨λi m σ ys H=>m = ts.length - i/\i<=ts.length/\Pv i σ ys H,⟨_,rfl,Nat.zero_le _,h0⟩,?_⟩;rintro i m σ ys H ⟨rfl,hi,p⟩;refine ⟨hl i σ ys H p,?_⟩;by_cases hlt:i < ts.length
 ·refine .inr ⟨hlt,Pv (i + 1),λσ' zs H' z=>⟨ts.length - (i + 1),by omega,rfl,hlt,z⟩,λx H' y=>?_⟩;obtain ⟨rfl,t,gt,rfl⟩:=y;exact hs i t σ ys _ gt p
 ·have e:i = ts.length:=by omega
  subst e;exact .inl ⟨Nat.le_refl _,hd σ ys H p⟩
def sI (K:PySem.W.Frag):Sp:=λvs H Q _=>∃ (l:Addr) (gs:List Grp),vs = [.ref l]/\SqL K H l (rS gs)/\GrL H gs/\gs.length<=12/\(∀ g∈gs,g.2.length<=2) /\
 ∀ (D:Addr) (kvs:List (List Key × V)) (ks:List (List Int)) (H':Hp),yG H H'->H D = none->H' D = some (.dT kvs)->zKl H' gs kvs ks->zQ6 gs ks->ks.length<=1000->Q (.ref D) H'
theorem zBy (F:Fun K "least_doubts" "least_doubts" wV f fd) (Z:Zs mg) (yAd:Has P w K mg base "places_to_try" 6 ["groups"] (tP K)) (yAv:Has P w K mg base "doubted" 4 ["groups", "place"] (zCe K)):wL P w K mg base CX0 7 f fd ["groups"] (sI K):=by
 refine F.ok yV (λvs H Q E h=>?_) (λcdv A outer s H vs Q E hr h=>?_)
 ·obtain ⟨l,gs,rfl,_⟩:=h;rfl
 obtain ⟨l,gs,rfl,hl,ok,hn,h2,q⟩:=h;have hu1:=Nat.lt_of_le_of_lt (Nat.add_le_add_left (show 1<=64 by decide) _) hr.units;have hu2:=Nat.lt_of_le_of_lt (Nat.add_le_add_left (show 2<=64 by decide) _) hr.units;refine ⟨_,(zF (zT (i:=1) yV.nd rfl (Or.inl rfl) zCx)
   (zF (wD PassesOwn.never rfl (xU (zH yAd (hr.mono (by decide)) rfl (zA (pv 0) zD))) (zQ (i:=2) yV.nd rfl (Or.inl rfl)) (zJ (zFl hu1 (pv 1) (xA zAw rfl Z.tuple zJb (zA (zH yAv (hr.mono (by decide)) rfl (zA (pv 0) (zA (pv 2) zD))) zD)) (pv 2) rfl)))
   (zF (zT (i:=3) yV.nd rfl (Or.inl rfl) (zW (zMn rfl) rfl Z.min zTn (zA (zJ0 (T:=["choice"]) (caps:=[]) ⟨rfl,by decide +kernel,by decide +kernel,rfl,True.intro⟩ rfl (pv 1) (λ_=>(zQ (i:=0) (show (["choice"]:List Str).Nodup by decide +kernel) rfl (Or.inl rfl))) (λ_=>xT) (λ_=>(zW zV rfl Z.len wQ (zA (pv 0) zD)))) zD)))
   (zF (zT (i:=4) yV.nd rfl (Or.inl rfl) zCx)
   (zF (wD PassesOwn.never rfl (xU (zW (zGk hu2) rfl Z.sorted rW (zA (xA (rT rfl) rfl Z.list uV (zA (pv 1) zD)) zD))) (zQ (i:=5) yV.nd rfl (Or.inl rfl)) (zJ (xC (zU tX (zW zV rfl Z.len wQ (zA (pv 5) zD)) (pv 3) (zX _)) (zJ (zFl hu1 (pv 4) (pv 5) (zQt hu1 (pv 1) (pv 5) (λ_ _=>rfl)) rfl)) zY)))
   (zJ (zR (pv 4)))))))),?_⟩
 try dsimp only [L2.cxOf]
 refine λd hd=>?_;have s0:=zE hd (.dT []);refine ⟨_,rfl,l,gs,rfl,s0.seq hl,ok.same s0,hn,h2,λp1 qs H1 s1 hp1 ep1 okq mem hq=>?_⟩;have ed1:=s1 _ _ (show upd H d (.dT []) d = some (.dT []) from zB);refine ⟨p1,rfl,.inl ⟨⟨_,SqL.of ep1⟩,xL (K:=K) (a:=p1) (xs:=wN qs) (λi σ H'=>(∀ b o,H1 b = some o->b≠d->H' b = some o)/\(∃ kvs ks,H' d = some (.dT kvs)/\zKl H' gs kvs ks/\ks.length<=i/\∀ j x,j < i->qs[j]? = some x->db (gs.map (·.2)) x.2∈ks)/\∃ u2 u3 u4 u5:Option V,σ = [some (.ref l),some (.ref d),u2,u3,u4,u5])
  ⟨λb o e _=>e,⟨[],[],ed1,⟨.nil,λk hk=>nomatch hk⟩,Nat.le_refl _,λj x h=>absurd h (Nat.not_lt_zero _)⟩,none,none,none,none,rfl⟩ (λi σ H' _ ⟨e,_⟩=>SqL.of (e _ _ ep1 ?_)) ?_ ?_⟩⟩
 ·exact sZ ep1 ed1 (by intro z; cases z)
 ·rintro i v σ H2 hi ⟨kp,⟨kvs,ks,eD,sh,hk,done⟩,u2,u3,u4,u5,rfl⟩;rw [List.getElem?_map,List.getElem?_map] at hi;cases gx:qs[i]? with
  | none=>rw [gx] at hi; cases hi
  | some x =>
   rw [gx] at hi;cases hi;have hx:=okq x (List.mem_of_getElem? gx);have nxd:x.1≠d:=sZ hx.1 ed1 (by intro z; cases z);have ex2:=kp _ _ hx.1 nxd;have ld:∀ {b:Addr} {o:HO},H b = some o->b≠d:=λ{b o} e z=>by rw [z,hd] at e; cases e
   have h12:∀ {b:Addr} {o:HO},H b = some o->H2 b = some o:=λ{b o} e=>kp _ _ (s1 _ _ (s0 _ _ e)) (ld e);have s02:yG H H2:=λb o e=>h12 e;refine ⟨_,rfl,_,rfl,_,rfl,_,rfl,l,x.1,gs,x.2,rfl,s02.seq hl,ok.same s02,by omega,.inr (SqT.of ex2),λD hD=>?_⟩;have sD:=zE hD (.lst ((db (gs.map (·.2)) x.2).map V.int));refine ⟨D,_,rfl,.inl ⟨SqL.of zB,λt ht=>?_⟩⟩;have st:=zE ht (.tup ((db (gs.map (·.2)) x.2).map V.int));have eD4:=st _ _ (sD _ _ eD);have kl:=sh.tab.len;have s24:=sD.trans st;have et:upd (upd H2 D (.lst ((db (gs.map (·.2)) x.2).map V.int))) t (.tup ((db (gs.map (·.2)) x.2).map V.int)) t = some (.tup ((db (gs.map (·.2)) x.2).map V.int)):=zB;generalize upd (upd H2 D (.lst ((db (gs.map (·.2)) x.2).map V.int))) t (.tup ((db (gs.map (·.2)) x.2).map V.int)) = H4 at s24 eD4 et ⊢;have hi2:i < qs.length:=(List.getElem?_eq_some_iff.mp gx).1;refine ⟨d,_,rfl,zQh.t (k:=zCj (db (gs.map (·.2)) x.2)) eD4 (by rw [qA]; exact et) (by rw [kl]; exact yB (by omega)),?_⟩;have keepT:∀ (b:Addr) (xs:List V),H2 b = some (.tup xs)->upd H4 d (.dT (zEh kvs (zCj (db (gs.map (·.2)) x.2)) (.ref x.1))) b = some (.tup xs):=λb xs e=>by
    rw [zP (sZ (s24 _ _ e) eD4 (by intro z; cases z))];exact s24 _ _ e
   obtain ⟨ks',sh',mem',len'⟩:=sh.put (H':=upd H4 d (.dT (zEh kvs (zCj (db (gs.map (·.2)) x.2)) (.ref x.1)))) (x:=x) (λu hu=>by rw [List.mem_singleton] at hu; subst hu; exact ⟨keepT _ _ ex2,hx.2⟩) ((mem x.2).mp (List.mem_map_of_mem (List.mem_of_getElem? gx))) keepT;refine ⟨λb o e n=>by rw [zP n]; exact s24 _ _ (kp b o e n),⟨_,ks',zB,sh',by omega,λj y hj gy=>?_⟩,_,_,_,_,rfl⟩;by_cases e:j = i
   ·rw [e,gx] at gy;cases gy;exact (mem' _).mpr (.inr rfl)
   ·exact (mem' _).mpr (.inl (done j y (by omega) gy))
 ·rintro σ H2 ⟨kp,⟨kvs,ks,eD,sh,hk,done⟩,u2,u3,u4,u5,rfl⟩;have lq:(wN qs).length = qs.length:=by simp
  rw [lq] at hk done;have ld:∀ {b:Addr} {o:HO},H b = some o->b≠d:=λ{b o} e z=>by rw [z,hd] at e; cases e
  have s02:yG H H2:=λb o e=>kp _ _ (s1 _ _ (s0 _ _ e)) (ld e);have all:∀ P,zCh (yN gs) P->db (gs.map (·.2)) P∈ks:=λP hP=>by
   obtain ⟨x,hx,e⟩:=List.mem_map.mp ((mem P).mpr hP);obtain ⟨j,hj,ej⟩:=List.getElem_of_mem hx;rw [<- e];exact done j x hj (by rw [List.getElem?_eq_getElem hj,ej])
  clear kp done okq mem;refine ⟨_,rfl,d,kvs,rfl,eD,λts ets hts cc D hD=>zFe (λi σ ys H'=>H' = upd (tK H2 d) D (.lst ys)/\ys = ((ts.take i).map λt=>V.int (t.2.length:Int))/\∃ u:Option V,σ = [u])
   ⟨rfl,rfl,none,rfl⟩ (λi σ ys H' ⟨e,_⟩=>by rw [e]; exact zB) ?_ ?_⟩
  ·rintro i t σ ys H' gt ⟨rfl,rfl,u,rfl⟩;have ht:=hts t (List.mem_of_getElem? gt);have htd:t.1≠d:=sZ ht eD (by intro z; cases z);have htD:t.1≠D:=λz=>by rw [z,hD] at ht; cases ht
   have til:i < ts.length:=(List.getElem?_eq_some_iff.mp gt).1;have tl:ts.length = kvs.length:=by have z:=congrArg List.length ets; rwa [List.length_map,List.length_map] at z
   have kl:=sh.tab.len;refine ⟨_,rfl,t.1,_,rfl,.inr (SqT.of (by rw [zP htD,rL htd]; exact ht)),zB,yB (by rw [List.length_map,List.length_take]; omega),qK,?_,_,rfl⟩;rw [yW gt,List.map_append,List.length_map];rfl
  ·rintro σ ys H' ⟨rfl,rfl,u,rfl⟩;refine λ_=>?_;have nDd:D≠d:=λz=>by rw [z,eD] at hD; cases hD
   rw [zN9 eD nDd,List.take_length];have lens:(ts.map λt=>(t.2.length:Int)) = ks.map λk=>(k.length:Int):=by
    have z:=congrArg (List.map λt:List Key=>(t.length:Int)) (ets.trans sh.tab.keys);rw [List.map_map,List.map_map] at z;refine z.trans (List.map_congr_left λk _=>?_);show ((zCj k).length:Int) = _;unfold zCj;rw [List.length_map]
   have kne:ks≠[]:=λz=>by have:=all (0,0,1) (.inl rfl); rw [z] at this; cases this
   refine ⟨D,ts.map (λt=>(t.2.length:Int)),rfl,SqL.of (by rw [zB,List.map_map]; rfl),by rw [lens]; exact λz=>kne (List.map_eq_nil_iff.mp z),λM m1 m2=>?_⟩;rw [lens] at m1 m2;obtain ⟨k0,mk0,ek0⟩:=List.mem_map.mp m1;have m3:∀ k∈ks,M<=(k.length:Int):=λk hk=>m2 _ (List.mem_map_of_mem (f:=λk:List Int=>(k.length:Int)) hk);have s3:=zE hD (.lst (ts.map λt=>V.int (t.2.length:Int)));generalize upd H2 D (.lst (ts.map λt=>V.int (t.2.length:Int))) = H3 at s3 ⊢;clear lens m1 m2 ets hts;refine λd2 hd2=>?_;have s4:=zE hd2 (.dT []);have ed4:=(s3.trans s4) _ _ eD;have e24:upd H3 d2 (.dT []) d2 = some (.dT []):=zB;have ndd:d≠d2:=λz=>by rw [<- z] at hd2; rw [s3 _ _ eD] at hd2; cases hd2
   have s24:=s3.trans s4;have hd20:H2 d2 = none:=s3.free hd2;generalize upd H3 d2 (.dT []) = H4 at s24 ed4 e24 ⊢;clear s3 s4;refine ⟨_,rfl,d,kvs,rfl,ed4,λp5 ts5 hp5 ets5 hts5=>?_⟩;obtain ⟨us,w1,w2,w3⟩:=sh.tab.refs ets5 hts5;have s5:=zE hp5 (.lst ((ts5.map (·.1)).map V.ref));have ep5:upd H4 p5 (.lst ((ts5.map (·.1)).map V.ref)) p5 = some (.lst ((us.map (·.1)).map V.ref)):=by rw [zB,w1]
   generalize upd H4 p5 (.lst ((ts5.map (·.1)).map V.ref)) = H5 at s5 ep5 ⊢;refine ⟨p5,us,rfl,SqL.of ep5,λt ht=>s5 _ _ (w3 t ht),λp6 us6 hp6 pm=>?_⟩;have s6:=zE hp6 (.lst ((us6.map (·.1)).map V.ref));have ep6:upd H5 p6 (.lst ((us6.map (·.1)).map V.ref)) p6 = some (.lst ((us6.map (·.1)).map V.ref)):=zB;generalize upd H5 p6 (.lst ((us6.map (·.1)).map V.ref)) = H6 at s6 ep6 ⊢;have s46:=s5.trans s6;have eu6:∀ u∈us6,H6 u.1 = some (.tup (u.2.map V.int)):=λu hu=>s46 _ _ (w3 u (pm.mem_iff.mp hu));have mu6:∀ k,k∈ks↔∃ u∈us6,u.2 = k:=λk=>by
    rw [<- w2,List.mem_map];exact ⟨λ⟨u,h1,h2⟩=>⟨u,pm.mem_iff.mpr h1,h2⟩,λ⟨u,h1,h2⟩=>⟨u,pm.mem_iff.mp h1,h2⟩⟩
   have lu:us6.length<=1000:=by
    have z:=congrArg List.length w2;rw [List.length_map] at z;rw [pm.length_eq,z];omega
   have e26:=s46 _ _ e24;have ed6:=s46 _ _ ed4;have s26:=s24.trans s46;clear w1 w2 w3 pm ep5 s5 s6 hp5 hp6 ets5 hts5;refine ⟨p6,rfl,.inl ⟨⟨_,SqL.of ep6⟩,xL (K:=K) (a:=p6) (xs:=(us6.map (·.1)).map V.ref) (λi σ H'=>(∀ b o,H6 b = some o->b≠d2->H' b = some o)/\(∃ kvs2 ks2,H' d2 = some (.dT kvs2)/\zKl H' gs kvs2 ks2/\ks2.length<=i/\∀ k,k∈ks2↔∃ j u,j < i/\us6[j]? = some u/\u.2 = k/\(k.length:Int) = M)/\∃ u5:Option V,σ = [some (.ref l),some (.ref d),u2,some (.int M),some (.ref d2),u5])
    ⟨λb o e _=>e,⟨[],[],e26,⟨.nil,(λk hk=>nomatch hk)⟩,Nat.le_refl _,λk=>⟨(λh=>nomatch h),λ⟨j,u,h,_⟩=>absurd h (Nat.not_lt_zero _)⟩⟩,_,rfl⟩ (λi σ H' _ ⟨e,_⟩=>SqL.of (e _ _ ep6 (sZ ep6 e26 (by intro z; cases z)))) ?_ ?_⟩⟩
   ·rintro i v σ H7 hi ⟨kp,⟨kvs2,ks2,eD7,sh2,hk2,mem2⟩,u5,rfl⟩;rw [List.getElem?_map,List.getElem?_map] at hi;cases gx:us6[i]? with
    | none=>rw [gx] at hi; cases hi
    | some x =>
     rw [gx] at hi;cases hi;have hx:=eu6 x (List.mem_of_getElem? gx);have ex7:=kp _ _ hx (sZ hx e26 (by intro z; cases z));have ed7:=kp _ _ ed6 ndd;have hi2:i < us6.length:=(List.getElem?_eq_some_iff.mp gx).1;have xk:x.2∈ks:=(mu6 x.2).mpr ⟨x,List.mem_of_getElem? gx,rfl⟩;refine ⟨_,rfl,x.1,_,rfl,.inr (SqT.of ex7),_,rfl,rfl,_,rfl,?_⟩;rw [List.length_map];refine ifE (λhe=>?_) (λhe=>?_)
     ·obtain ⟨sp,v1,v2,v3,v4⟩:=sh.spot x.2 xk;have hsp:=v2 sp (.head _);have esp6:=s26 _ _ hsp.1;have esp7:=kp _ _ esp6 (sZ esp6 e26 (by intro z; cases z));have kl:=sh2.tab.len;refine ⟨_,rfl,_,rfl,d,.ref sp.1,rfl,by rw [<- v1]; exact zSi.t (k:=zCj x.2) ed7 (by rw [qA]; exact ex7),?_⟩;refine ⟨_,rfl,_,rfl,d2,_,rfl,zQh.t (k:=zCj x.2) eD7 (by rw [qA]; exact ex7) (by rw [kl]; exact yB (by omega)),?_⟩;have keepT:∀ (b:Addr) (xs:List V),H7 b = some (.tup xs)->upd H7 d2 (.dT (zEh kvs2 (zCj x.2) (.ref sp.1))) b = some (.tup xs):=λb xs e=>by
       rw [zP (sZ e eD7 (by intro z; cases z))];exact e
      obtain ⟨ks',sh',mem',len'⟩:=sh2.put (H':=upd H7 d2 (.dT (zEh kvs2 (zCj x.2) (.ref sp.1)))) (x:=sp) (λu hu=>by rw [List.mem_singleton] at hu; subst hu; exact ⟨keepT _ _ esp7,hsp.2⟩) v4 keepT;rw [<- v3] at sh' mem';refine ⟨λb o e n=>by rw [zP n]; exact kp b o e n,⟨_,ks',zB,sh',by omega,λk=>?_⟩,_,rfl⟩;rw [mem' k,mem2 k];refine ⟨λz=>?_,λ⟨j,u,h1,h2,h3,h4⟩=>?_⟩
      ·rcases z with ⟨j,u,h1,h2⟩ | z
       ·exact ⟨j,u,by omega,h2⟩
       ·exact ⟨i,x,Nat.lt_succ_self _,gx,z.symm,by rw [z]; exact he⟩
      ·by_cases e:j = i
       ·rw [e,gx] at h2;cases h2;exact .inr h3.symm
       ·exact .inl ⟨j,u,by omega,h2,h3,h4⟩
     ·refine ⟨kp,⟨kvs2,ks2,eD7,sh2,by omega,λk=>?_⟩,_,rfl⟩;rw [mem2 k];refine ⟨λ⟨j,u,h1,h2⟩=>⟨j,u,by omega,h2⟩,λ⟨j,u,h1,h2,h3,h4⟩=>?_⟩;by_cases e:j = i
      ·rw [e,gx] at h2;cases h2;rw [h3] at he;exact absurd h4 he
      ·exact ⟨j,u,by omega,h2,h3,h4⟩
   ·rintro σ H7 ⟨kp,⟨kvs2,ks2,eD7,sh2,hk2,mem2⟩,u5,rfl⟩;refine ⟨_,rfl,?_⟩;have n02:H d2 = none:=s02.free hd20;have same7:yG H H7:=λb o e=>kp _ _ (s26 _ _ (s02 _ _ e)) λz=>by rw [z,n02] at e; cases e
    have lu6:((us6.map (·.1)).map V.ref).length = us6.length:=by simp
    rw [lu6] at mem2;have in2:∀ k,k∈ks2↔k∈ks/\(k.length:Int) = M:=λk=>by
     rw [mem2,mu6];refine ⟨λ⟨j,u,h1,h2,h3,h4⟩=>⟨⟨u,List.mem_of_getElem? h2,h3⟩,h4⟩,λ⟨⟨u,h1,h2⟩,h3⟩=>?_⟩;obtain ⟨j,hj,ej⟩:=List.getElem_of_mem h1;exact ⟨j,u,hj,by rw [List.getElem?_eq_getElem hj,ej],h2,h3⟩
    refine q d2 kvs2 ks2 H7 same7 n02 eD7 sh2 ⟨λz=>?_,λk hk P hP=>?_,λP hP hall=>?_⟩ (by rw [lu6] at hk2; omega)
    ·have:=(in2 k0).mpr ⟨mk0,ek0⟩;rw [z] at this;cases this
    ·have z1:=((in2 k).mp hk).2;have z2:=m3 _ (all P hP);omega
    ·refine (in2 _).mpr ⟨all P hP,?_⟩;have z1:=hall k0 ((in2 k0).mpr ⟨mk0,ek0⟩);have z2:=m3 _ (all P hP);omega
def zCc (K:PySem.W.Frag):Sp:=λvs H Q _=>∃ (l:Addr) (gs:List Grp),vs = [.ref l]/\SqL K H l (rS gs)/\GrL H gs/\gs.length<=12/\(∀ g∈gs,g.2.length<=2) /\
 ∀ (D:Addr) (fs:List (Addr × List Int)) (H':Hp),yG H H'->H D = none->H' D = some (.lst ((fs.map (·.1)).map V.ref))->(∀ t∈fs,H' t.1 = some (.lst (t.2.map V.int))/\H t.1 = none/\t.1≠D)->(∀ k∈fs.map (·.2),∃ P,zCh (yN gs) P/\k = db (gs.map (·.2)) P)->zQ6 gs (fs.map (·.2))->(fs.map (·.2)).Nodup->Q (.ref D) H'
theorem zGw (F:Fun K "choices" "choices" rG f fd) (Z:Zs mg) (yAe:Has P w K mg base "least_doubts" 7 ["groups"] (sI K)):wL P w K mg base CX0 8 f fd ["groups"] (zCc K):=by
 refine F.ok zHu (λvs H Q E h=>?_) (λcdv A outer s H vs Q E hr h=>?_)
 ·obtain ⟨l,gs,rfl,_⟩:=h;rfl
 obtain ⟨l,gs,rfl,hl,ok,hn,h2,q⟩:=h;refine ⟨_,(zJ (zR (zJ0 (T:=["choice"]) (caps:=[]) ⟨rfl,by decide +kernel,by decide +kernel,rfl,True.intro⟩ rfl (zH yAe (hr.mono (by decide)) rfl (zA (pv 0) zD)) (λ_=>(zQ (i:=0) (show (["choice"]:List Str).Nodup by decide +kernel) rfl (Or.inl rfl))) (λ_=>xT) (λ_=>(xA yT rfl Z.list uV (zA (pv 0) zD)))))),?_⟩
 try dsimp only [L2.cxOf]
 refine ⟨_,rfl,l,gs,rfl,hl,ok,hn,h2,λd kvs ks H1 s1 hd ed sh le lk=>?_⟩;refine ⟨d,kvs,rfl,ed,λts ets hts cc D hD=>?_⟩;obtain ⟨us,w1,w2,w3⟩:=sh.tab.refs ets hts;have lt:ts.length = us.length:=by have z:=congrArg List.length w1; rw [List.length_map,List.length_map] at z; exact z.symm
 have lu:us.length = ks.length:=by have z:=congrArg List.length w2; rwa [List.length_map] at z
 have nDd:D≠d:=λz=>by rw [z,ed] at hD; cases hD
 have hD':tK H1 d D = none:=sR hD;refine zFe (λi σ ys H'=>(∃ rs:List (Addr × List Int),ys = (rs.map (·.1)).map V.ref/\Rws (tK H1 d) D rs H'/\rs.map (·.2) = ks.take i)/\∃ u:Option V,σ = [u])
  ⟨⟨[],rfl,⟨zE hD' _,hD',zB,(λt ht=>nomatch ht)⟩,rfl⟩,none,rfl⟩ (λi σ ys H' ⟨⟨rs,e,R,_⟩,_⟩=>by rw [e]; exact R.at') ?_ ?_
 ·rintro i t σ ys H' gt ⟨⟨rs,rfl,R,em⟩,u,rfl⟩;have hi:i < ts.length:=(List.getElem?_eq_some_iff.mp gt).1;have gu:us[i]? = some us[i]:=List.getElem?_eq_getElem (by omega);have e1:us[i].1 = t.1:=by
   have z:=congrArg (λl:List Addr=>l[i]?) w1;simp only [List.getElem?_map,gu,gt,Option.map_some] at z;exact Option.some.inj z
  have ek:ks[i]? = some us[i].2:=by rw [<- w2,List.getElem?_map,gu]; rfl
  have et:=w3 us[i] (List.getElem_mem _);rw [e1] at et;have ntd:t.1≠d:=sZ et ed (by intro z; cases z);have et':=R.same _ _ ((rL ntd).trans et);have lr:rs.length = i:=by have z:=congrArg List.length em; rw [List.length_map,List.length_take] at z; omega
  refine ⟨_,rfl,t.1,_,rfl,.inr (SqT.of et'),λc hc=>?_⟩;have sc:=zE hc (.lst (us[i].2.map V.int));refine ⟨sc _ _ R.at',zRm (by simp only [List.length_map]; omega),⟨_,by simp,R.app sc hc zB,?_⟩,_,rfl⟩;rw [List.map_append,em,yW ek];rfl
 ·rintro σ ys H' ⟨⟨rs,rfl,R,em⟩,u,rfl⟩ hn';rw [lt,lu,List.take_length] at em;have nk:∀ {b:Addr} {o:HO},H' b = some o->upd H' d (.dT kvs) b = some o:=λ{b o} e=>by
   rw [zP λz=>by rw [z,hn'] at e; cases e];exact e
  have sB:yG H1 (upd H' d (.dT kvs)):=λb o e=>by
   by_cases c:b = d
   ·subst c;rw [ed] at e;cases e;exact zB
   ·exact nk (R.same _ _ ((rL c).trans e))
  refine q D rs _ (s1.trans sB) (s1.free hD) (nk R.at') (λt ht=>?_) (λk hk=>?_) (by rw [em]; exact le) (by rw [em]; exact sh.tab.nodup)
  ·obtain ⟨r1,r2,r3⟩:=R.rows t ht;have r4:=nk r1;refine ⟨r4,?_,r3⟩;have ntd:t.1≠d:=λz=>by rw [z,hn'] at r1; cases r1
   rw [rL ntd] at r2;exact s1.free r2
  ·rw [em] at hk;obtain ⟨sp,_,_,e1,e2⟩:=sh.spot k hk;exact ⟨_,e2,e1⟩
def zE9 (_:PySem.W.Frag):Sp:=λvs H Q _=>∃ (n:Int),vs = [.int n]/\∀ v:Int,0<=v->v < 1000003->Q (.int v) H
theorem zKn (F:Fun K "_law_power" "_law_power" zBc f fd) (Z:Zs mg):wL P w K mg base CX0 1 f fd ["_law_number"] (zE9 K):=by
 refine F.ok zKt (λvs H Q E h=>?_) (λcdv A outer s H vs Q E hr h=>?_)
 ·obtain ⟨n,rfl,_⟩:=h;rfl
 obtain ⟨n,rfl,q⟩:=h;refine ⟨_,(zJ (zR (zN yQ (zN zNv (zN yQ (pv 0) zC) zC) zC))),?_⟩
 try dsimp only [L2.cxOf]
 have h1:=Int.emod_nonneg n (show (1000003:Int)≠0 by decide);have h2:=Int.emod_lt_of_pos n (show (0:Int) < 1000003 by decide);refine ⟨_,rfl,_,_,rfl,rfl,(by show (0:Int) < 1000003; decide),_,_,rfl,rfl,⟨by decide,by decide,by omega⟩,_,_,rfl,rfl,(by show (0:Int) < 1000003; decide),?_⟩;exact q _ (Int.emod_nonneg _ (by decide)) (Int.emod_lt_of_pos _ (by decide))
def zFc (K:PySem.W.Frag):Sp:=λvs H Q _=>∃ (a:Addr) (ns:List Int) (many:Int),vs = [.ref a,.int many]/\SqL K H a (ns.map V.int)/\ns.length<=63/\0<=many/\many<=500 /\
 ∀ (r:Addr) (rows:List Int) (H':Hp),yG H H'->H r = none->H' r = some (.lst (rows.map V.int))->many<=rows.length->rows.length<=600->(∀ x∈rows,0<=x/\x < 1000003)->Q (.ref r) H'
structure zDf (H:Hp) (r c:Addr) (ms:List Int) (H':Hp) (rows:List Int):Prop where
 same:yG H H'
 src:H' c = some (.lst (ms.map V.int))
 at':H' r = some (.lst (rows.map V.int))
 bd:∀ x∈rows,0<=x/\x < 1000003
theorem zDf.app {H H':Hp} {r c:Addr} {ms rows:List Int} {v:Int} (d:zDf H r c ms H' rows) (hr:H r = none) (hrc:c≠r) (h0:0<=v) (h1:v < 1000003):zDf H r c ms (upd H' r (.lst (rows.map V.int ++ [.int v]))) (rows ++ [v]):=by
 refine ⟨λb o e=>?_,?_,?_,λx hx=>?_⟩
 ·rw [zP (yE e hr)];exact d.same b o e
 ·rw [zP hrc];exact d.src
 ·rw [zB,List.map_append];rfl
 ·rcases List.mem_append.mp hx with e | e
  ·exact d.bd x e
  ·rw [List.mem_singleton] at e;rw [e];exact ⟨h0,h1⟩
theorem cutR {ok:Int->Hp->Prop} {G:Prop} {R:Int->Hp->Prop} (h1:(∀ m H,ok m H->R m H)->G) (h2:∀ m H,ok m H->R m H):G:=h1 h2
theorem zKy (F:Fun K "_law_draws" "_law_draws" zA6 f fd) (Z:Zs mg) (yBe:Has P w K mg base "_law_power" 1 ["_law_number"] (zE9 K)):wL P w K mg base CX0 2 f fd ["_law_script", "_law_many_here"] (zFc K):=by
 refine F.ok xW (λvs H Q E h=>?_) (λcdv A outer s H vs Q E hr h=>?_)
 ·obtain ⟨a,ns,many,rfl,_⟩:=h;rfl
 obtain ⟨a,ns,many,rfl,hS,hl,hm0,hm1,q⟩:=h;refine ⟨_,(zF (zT (i:=2) xW.nd rfl (Or.inl rfl) (wE zD))
   (zF (zT (i:=3) xW.nd rfl (Or.inl rfl) zC)
   (zF (wD PassesOwn.never rfl (zIr (xG wG (pv 0) wK (wH zC))) (zQ (i:=4) xW.nd rfl (Or.inl rfl)) (zF (zT (i:=3) xW.nd rfl (Or.inl rfl) (zN yQ (zN xO (zN yM (pv 3) zC) (pv 4)) zC))
   (zF (zT (i:=5) xW.nd rfl (Or.inl rfl) (zW uZ rfl Z.abs qZ (zA (pv 4) zD)))
   (zF (xC (zU zGq (pv 5) (zN zNv zC zC) (zX _)) (zF (qH (zHi PySem.F.plainAttrs_list PySem.F.slot_list_append PySem.F.type_list_append wS (pv 2) (zA (zH yBe (hr.mono (by decide)) rfl (zA (zN xO (pv 4) (zN yM zC (zW zV rfl Z.len wQ (zA (pv 2) zD)))) zD)) zD)))
   (zJ (zT (i:=5) xW.nd rfl (Or.inl rfl) zC))) zY)
   (zJ (zC0 PassesOwn.never (PW.pt (tT (zU zC6 (pv 5) zC (zX _)) (uH (zU zGq (zW zV rfl Z.len wQ (zA (pv 2) zD)) (pv 1) (zX _))))) (zF (qH (zHi PySem.F.plainAttrs_list PySem.F.slot_list_append PySem.F.type_list_append wS (pv 2) (zA (zN yQ (pv 5) zC) zD)))
   (zJ (zT (i:=5) xW.nd rfl (Or.inl rfl) (zN rK (pv 5) zC))))))))))
   (zF (zC0 PassesOwn.never (zU zGq (zW zV rfl Z.len wQ (zA (pv 2) zD)) (pv 1) (zX _)) (zF (zT (i:=3) xW.nd rfl (Or.inl rfl) (zN yQ (zN xO (zN yM (pv 3) zC) zC) zC))
   (zJ (qH (zHi PySem.F.plainAttrs_list PySem.F.slot_list_append PySem.F.type_list_append wS (pv 2) (zA (zH yBe (hr.mono (by decide)) rfl (zA (pv 3) zD)) zD))))))
   (zJ (zR (pv 2))))))),?_⟩
 try dsimp only [L2.cxOf]
 refine ⟨(by show 0<=sizeLine; decide),λr hr0=>?_⟩;have S1:=zE hr0 (.lst []);refine ⟨_,rfl,_,rfl,a,_,rfl,S1.seq hS,λc hc=>⟨c,rfl,⟨_,SqL.of zB⟩,?_⟩⟩;rw [zC4];generalize hms:((ns.drop (HT.sIx ns.length 0 none)).take (HT.sIx ns.length ns.length (some 63) - HT.sIx ns.length 0 none)) = ms;have hml:ms.length<=63:=by
  rw [<- hms,List.length_take,List.length_drop];omega
 have hcr:c≠r:=λe=>by
  rw [e,zB] at hc;cases hc
 have hc0:H c = none:=S1.free hc;refine xL (K:=K) (a:=c) (xs:=ms.map V.int) (λi σ H'=>∃ (rows:List Int) (mix:Int) (u v:Option V),σ = [some (.ref a),some (.int many),some (.ref r),some (.int mix),u,v]/\zDf H r c ms H' rows/\0<=mix/\mix < 2147483647/\rows.length<=many.toNat + i)
  ⟨[],7,none,none,rfl,⟨S1.trans (zE hc _),zB,by rw [zP (Ne.symm hcr),zB]; rfl,λx hx=>nomatch hx⟩,by decide,by decide,Nat.zero_le _⟩ (λi σ H' _ ⟨_,_,_,_,_,d,_⟩=>SqL.of d.src) ?_ ?_
 ·rintro i x σ H' hi ⟨rows,mix,u,v,rfl,d,hx0,hx1,hrl⟩;obtain ⟨n,hn,rfl⟩:=uP hi;have hi63:i < 63:=Nat.lt_of_lt_of_le (List.getElem?_eq_some_iff.mp hn).1 hml;refine ⟨_,rfl,_,_,rfl,rfl,.inr ⟨by decide,by decide⟩,_,rfl,_,_,rfl,rfl,_,_,rfl,rfl,(by show (0:Int) < 2147483647; decide),?_⟩;have m0:=Int.emod_nonneg (mix * 48271 + n) (show (2147483647:Int)≠0 by decide);have m1:=Int.emod_lt_of_pos (mix * 48271 + n) (show (0:Int) < 2147483647 by decide);refine ⟨_,rfl,n,rfl,?_⟩;have a0:0<=(if n < 0 then -n else n):=by split <;> omega
  generalize (if n < 0 then -n else n) = rest at a0 ⊢;revert H' rest;apply cutR (ok:=λrest H2=>0<=rest/\∃ rows,zDf H r c ms H2 rows/\rows.length<=many.toNat + (i + 1))
  ·intro main H' d rest a0;refine ⟨_,rfl,_,_,rfl,rfl,⟨by decide,by decide,by decide⟩,_,_,rfl,rfl,_,rfl,?_⟩;refine ifD (λhsm=>?_) (λhsm=>?_);rotate_left
   ·exact main rest H' ⟨a0,rows,d,by omega⟩
   ·refine ⟨_,rfl,.inl ⟨rfl,_,SqL.of d.at'⟩,_,rfl,_,rfl,r,_,rfl,.inl (SqL.of d.at'),_,_,rfl,rfl,.inl ⟨by decide,by decide⟩,_,_,rfl,rfl,_,rfl,λv v0 v1=>?_⟩;refine ⟨r,_,_,rfl,rfl,d.at',yB (by rw [List.length_map]; omega),?_⟩;exact main 0 _ ⟨Int.le_refl 0,_,d.app hr0 hcr v0 v1,by rw [List.length_append,List.length_singleton]; omega⟩
  clear hrl rows;rintro rest H' ⟨j0,rows,j1,j2⟩;refine zBf (λσ H2=>∃ (rows:List Int) (rest:Int),σ = [some (.ref a),some (.int many),some (.ref r),some (.int ((mix * 48271 + n) % 2147483647)),some (.int n),some (.int rest)]/\0<=rest/\zDf H r c ms H2 rows/\rows.length<=many.toNat + (i + 1))
   (λσ _=>match σ with | [_,_,_,_,_,some (.int z)]=>z.toNat | _=>0) ⟨_,_,rfl,j0,j1,j2⟩ ?_ (zQk (zF0 (zMk zO1 zAa mo_c)) (zF0 (zMk zO1 (zRh zNd (zDg zAa zJp)) zAa)))
  rintro σ H2 ⟨rows,rest,rfl,r0,d2,l2⟩;refine ⟨_,rfl,_,_,rfl,rfl,_,rfl,?_⟩;refine ifD (λhpos=>?_) (λhpos=>?_)
  ·refine ⟨_,rfl,r,_,rfl,.inl (SqL.of d2.at'),_,rfl,_,_,rfl,rfl,_,rfl,?_⟩;refine ifD (λhlt=>?_) (λhlt=>?_)
   ·have hlt':((rows.map V.int).length:Int) < many:=hlt;rw [List.length_map] at hlt';refine ⟨_,rfl,.inl ⟨rfl,_,SqL.of d2.at'⟩,_,rfl,_,_,rfl,rfl,(by show (0:Int) < 1000003; decide),r,_,_,rfl,rfl,d2.at',yB (by rw [List.length_map]; omega),?_⟩;have v0:=Int.emod_nonneg rest (show (1000003:Int)≠0 by decide);have v1:=Int.emod_lt_of_pos rest (show (0:Int) < 1000003 by decide);refine ⟨_,rfl,_,_,rfl,rfl,zAm.of (by decide) (by decide +kernel),⟨rows ++ [rest % 1000003],_,rfl,by omega,d2.app hr0 hcr v0 v1,by rw [List.length_append,List.length_singleton]; omega⟩,?_⟩;show (rest / 1000003).toNat < rest.toNat;omega
   ·exact ⟨rows,_,_,_,rfl,d2,m0,m1,l2⟩
  ·exact ⟨rows,_,_,_,rfl,d2,m0,m1,l2⟩
 ·rintro σ H' ⟨rows,mix,u,v,rfl,d,hx0,hx1,hrl⟩;rw [List.length_map] at hrl;refine zBf (λσ H2=>∃ (rows:List Int) (mix:Int),σ = [some (.ref a),some (.int many),some (.ref r),some (.int mix),u,v]/\zDf H r c ms H2 rows/\0<=mix/\mix < 2147483647/\rows.length<=many.toNat + 63/\H2 r = some (.lst (rows.map V.int)))
   (λσ H2=>match H2 r with | some (.lst xs)=>many.toNat - xs.length | _=>0) ⟨rows,mix,rfl,d,hx0,hx1,by omega,d.at'⟩ ?_ (zF0 (zMk zO1 (zRh zNd (zDg zAa zJp)) zAa))
  rintro σ H2 ⟨rows,mix,rfl,d2,hx0,hx1,l2,ha2⟩;refine ⟨_,rfl,r,_,rfl,.inl (SqL.of d2.at'),_,rfl,_,_,rfl,rfl,_,rfl,?_⟩;refine ifD (λhlt=>?_) (λhlt=>?_)
  ·have hlt':((rows.map V.int).length:Int) < many:=hlt;rw [List.length_map] at hlt';refine ⟨_,rfl,_,_,rfl,rfl,.inr ⟨by decide,by decide⟩,_,_,rfl,rfl,_,_,rfl,rfl,(by show (0:Int) < 2147483647; decide),?_⟩;have m0:=Int.emod_nonneg (mix * 48271 + 11) (show (2147483647:Int)≠0 by decide);have m1:=Int.emod_lt_of_pos (mix * 48271 + 11) (show (0:Int) < 2147483647 by decide);refine ⟨_,rfl,.inl ⟨rfl,_,SqL.of d2.at'⟩,_,rfl,_,rfl,λv v0 v1=>?_⟩;refine ⟨r,_,_,rfl,rfl,d2.at',yB (by rw [List.length_map]; omega),⟨rows ++ [v],_,rfl,d2.app hr0 hcr v0 v1,m0,m1,by rw [List.length_append,List.length_singleton]; omega,(d2.app hr0 hcr v0 v1).at'⟩,?_⟩;rw [ha2,zB];show many.toNat - (rows.map V.int ++ [V.int v]).length < many.toNat - (rows.map V.int).length;rw [List.length_append,List.length_map,List.length_singleton];omega
  ·have hlt':¬ ((rows.map V.int).length:Int) < many:=hlt;rw [List.length_map] at hlt';exact ⟨_,rfl,q r rows H2 d2.same hr0 d2.at' (by omega) (by omega) d2.bd⟩
def zPi (ss:List Sd) (m:Nat):Prop:=∀ t∈ss,t.2.1.natAbs<=3 * 10 ^ 7/\t.2.2.1.natAbs<=3 * 10 ^ 7/\t.2.2.2.natAbs<=m
def zEv (K:PySem.W.Frag):Sp:=λvs H Q _=>∃ (r l:Addr) (rows:List Int) (ss:List Sd),vs = [.ref r,.ref l]/\SqL K H r (rows.map V.int)/\2<=rows.length/\(∀ x∈rows,0<=x/\x < 1000003)/\H l = some (.lst (zK ss))/\rR H ss/\ss.length<=900/\zPi ss (9 * 10 ^ 10) /\
 ∀ (l':Addr) (ss':List Sd) (H':Hp),yG H H'->H' l' = some (.lst (zK ss'))->ss'.length = ss.length->rR H' ss'->zPi ss' (10 ^ 11)->Q (.ref l') H'
theorem zKm (F:Fun K "_law_tight" "_law_tight" zA1 f fd) (Z:Zs mg)  : wL P w K mg base CX0 1 f fd ["_law_some", "_law_sides_here"] (zEv K):=by
 refine F.ok zK4 (λvs H Q E h=>?_) (λcdv A outer s H vs Q E hr h=>?_)
 ·obtain ⟨r,l,rows,ss,rfl,_⟩:=h;rfl
 obtain ⟨r,l,rows,ss,rfl,hS,h2,bd,el,ok,hlen,bnd,q⟩:=h;refine ⟨_,(zF (xC (zU tX (zN yQ (zO zL (pv 0) zC (λ_ _=>rfl)) zC) zC (zX _)) (zJ (zR (pv 1))) zY)
   (zF (xC (zU tX (zN yQ (zO zL (pv 0) zC (λ_ _=>rfl)) zC) zC (zX _)) (zJ (zR (vI (T:=["_law_a", "_law_b", "_law_c"]) (caps:=[]) ⟨rfl,by decide +kernel,by decide +kernel,rfl,True.intro⟩ rfl (xU (pv 1)) (λ_=>(rM rfl (yA (zQ (i:=0) (show (["_law_a", "_law_b", "_law_c"]:List Str).Nodup by decide +kernel) rfl (Or.inl rfl)) (yA (zQ (i:=1) (show (["_law_a", "_law_b", "_law_c"]:List Str).Nodup by decide +kernel) rfl (Or.inl rfl)) (yA (zQ (i:=2) (show (["_law_a", "_law_b", "_law_c"]:List Str).Nodup by decide +kernel) rfl (Or.inl rfl)) vH))))) (λ_=>xT) (λ_=>(xE (zA (pv 0) (zA (pv 1) (zA (zN xZ (zN xZ (pv 2) (zW uZ rfl Z.abs qZ (zA (pv 0) zD))) (zW uZ rfl Z.abs qZ (zA (pv 1) zD))) zD)))))))) zY)
   (zJ (zR (vI (T:=["_law_a", "_law_b", "_law_c"]) (caps:=[("_law_some", 0)]) ⟨rfl,by decide +kernel,by decide +kernel,rfl,⟨⟨rfl,rfl,Or.inl rfl⟩,True.intro⟩⟩ rfl (xU (pv 1)) (λ_=>(rM rfl (yA (zQ (i:=0) (show (["_law_a", "_law_b", "_law_c", "_law_some"]:List Str).Nodup by decide +kernel) rfl (Or.inl rfl)) (yA (zQ (i:=1) (show (["_law_a", "_law_b", "_law_c", "_law_some"]:List Str).Nodup by decide +kernel) rfl (Or.inl rfl)) (yA (zQ (i:=2) (show (["_law_a", "_law_b", "_law_c", "_law_some"]:List Str).Nodup by decide +kernel) rfl (Or.inl rfl)) vH))))) (λ_=>xT) (λ_=>(xE (zA (pv 0) (zA (pv 1) (zA (zN xO (zW uZ rfl Z.abs qZ (zA (pv 2) zD)) (zN yQ (zO zL (pv 3) zC (λ_ _=>rfl)) zC)) zD)))))))))),?_⟩
 try dsimp only [L2.cxOf]
 obtain ⟨v0,a0,_⟩:=vZ bd (k:=0) (by decide) (by omega);obtain ⟨v1,a1,w0,w1⟩:=vZ bd (k:=1) (by decide) (by omega);refine ⟨_,rfl,r,_,_,_,rfl,rfl,.inl hS,a0,_,_,rfl,rfl,(by show (0:Int) < 3; decide),rfl,_,rfl,?_⟩;refine ifE (λ_=>?_) (λ_=>?_)
 ·exact ⟨_,rfl,q l ss H (yG.refl _) el rfl ok λt ht=>⟨(bnd t ht).1,(bnd t ht).2.1,by have:=(bnd t ht).2.2; omega⟩⟩
 refine ⟨_,rfl,r,_,_,_,rfl,rfl,.inl hS,a0,_,_,rfl,rfl,(by show (0:Int) < 3; decide),rfl,_,rfl,?_⟩;refine ifE (λ_=>?_) (λ_=>?_)
 ·show _;refine ⟨_,rfl,l,rfl,.inl ⟨⟨_,SqL.of el⟩,λcc D hD=>uC (K:=K) (a:=l) (xs:=zK ss) (λi σ ys G=>∃ sa:List Sd,ys = zK sa/\sa.length = i/\zLa H D sa G/\zPi sa (10 ^ 11)/\∃ u0 u1 u2:Option V,σ = [u0,u1,u2])
   ⟨[],rfl,rfl,⟨zE hD _,hD,zB,(λt ht=>nomatch ht)⟩,(λt ht=>nomatch ht),none,none,none,rfl⟩ (λi σ ys G _ ⟨sa,e1,_,Pq,_⟩=>⟨SqL.of (Pq.same _ _ el),by rw [e1]; exact Pq.at'⟩) ?_ ?_⟩⟩
  ·rintro i x σ ys Gc hi ⟨sa,rfl,na,Pc,bc,u0,u1,u2,rfl⟩;obtain ⟨t,gt,rfl,hil⟩:=xP hi;obtain ⟨et,nt,_⟩:=ok t (List.mem_of_getElem? gt);obtain ⟨b1,b2,b3⟩:=bnd t (List.mem_of_getElem? gt);refine ⟨t.1,_,rfl,SqT.of (Pc.same _ _ et),rfl,.int t.2.1,_,rfl,.int t.2.2.1,_,rfl,.int t.2.2.2,_,rfl,rfl,?_⟩;have nb:(t.2.2.2 - (if t.2.1 < 0 then -t.2.1 else t.2.1) - (if t.2.2.1 < 0 then -t.2.2.1 else t.2.2.1)).natAbs<=10 ^ 11:=by
    split <;> first | omega | (split <;> omega)
   refine ⟨_,rfl,_,rfl,_,rfl,_,rfl,_,rfl,_,_,rfl,rfl,_,rfl,_,rfl,_,_,rfl,rfl,(by show 3<=sizeLine; decide),λp hp=>?_⟩;have sp:=zE hp (.tup [.int t.2.1,.int t.2.2.1,.int (t.2.2.2 - (if t.2.1 < 0 then -t.2.1 else t.2.1) - (if t.2.2.1 < 0 then -t.2.2.1 else t.2.2.1))]);refine ⟨sp _ _ Pc.at',yB (by rw [zI]; omega),sa ++ [(p,t.2.1,t.2.2.1,(t.2.2.2 - (if t.2.1 < 0 then -t.2.1 else t.2.1) - (if t.2.2.1 < 0 then -t.2.2.1 else t.2.2.1)))],by simp [zK],by rw [List.length_append,na]; rfl,Pc.app sp hp zB nt (by omega) (by omega) (by omega),λu hu=>(List.mem_append.mp hu).elim (bc u) λh=>by rw [List.mem_singleton] at h; subst h; exact ⟨b1,b2,nb⟩,_,_,_,rfl⟩
  ·rintro σ ys Gc ⟨sa,rfl,na,Pc,bc,u0,u1,u2,rfl⟩;rw [zI] at na;exact q D sa Gc Pc.same Pc.at' na Pc.all bc
 ·show _;refine ⟨_,rfl,l,rfl,.inl ⟨⟨_,SqL.of el⟩,λcc D hD=>uC (K:=K) (a:=l) (xs:=zK ss) (λi σ ys G=>∃ sa:List Sd,ys = zK sa/\sa.length = i/\zLa H D sa G/\zPi sa (10 ^ 11)/\∃ u0 u1 u2:Option V,σ = [u0,u1,u2,some (.ref r)])
   ⟨[],rfl,rfl,⟨zE hD _,hD,zB,(λt ht=>nomatch ht)⟩,(λt ht=>nomatch ht),none,none,none,rfl⟩ (λi σ ys G _ ⟨sa,e1,_,Pq,_⟩=>⟨SqL.of (Pq.same _ _ el),by rw [e1]; exact Pq.at'⟩) ?_ ?_⟩⟩
  ·rintro i x σ ys Gc hi ⟨sa,rfl,na,Pc,bc,u0,u1,u2,rfl⟩;obtain ⟨t,gt,rfl,hil⟩:=xP hi;obtain ⟨et,nt,_⟩:=ok t (List.mem_of_getElem? gt);obtain ⟨b1,b2,b3⟩:=bnd t (List.mem_of_getElem? gt);refine ⟨t.1,_,rfl,SqT.of (Pc.same _ _ et),rfl,.int t.2.1,_,rfl,.int t.2.2.1,_,rfl,.int t.2.2.2,_,rfl,rfl,?_⟩;have nb:((if t.2.2.2 < 0 then -t.2.2.2 else t.2.2.2) + v1 % 4).natAbs<=10 ^ 11:=by
    split <;> first | omega | (split <;> omega)
   refine ⟨_,rfl,_,rfl,_,rfl,_,rfl,_,rfl,r,_,_,_,rfl,rfl,.inl (Pc.same.seq hS),a1,_,_,rfl,rfl,(by show (0:Int) < 4; decide),_,_,rfl,rfl,(by show 3<=sizeLine; decide),λp hp=>?_⟩;have sp:=zE hp (.tup [.int t.2.1,.int t.2.2.1,.int ((if t.2.2.2 < 0 then -t.2.2.2 else t.2.2.2) + v1 % 4)]);refine ⟨sp _ _ Pc.at',yB (by rw [zI]; omega),sa ++ [(p,t.2.1,t.2.2.1,((if t.2.2.2 < 0 then -t.2.2.2 else t.2.2.2) + v1 % 4))],by simp [zK],by rw [List.length_append,na]; rfl,Pc.app sp hp zB nt (by omega) (by omega) (by omega),λu hu=>(List.mem_append.mp hu).elim (bc u) λh=>by rw [List.mem_singleton] at h; subst h; exact ⟨b1,b2,nb⟩,_,_,_,rfl⟩
  ·rintro σ ys Gc ⟨sa,rfl,na,Pc,bc,u0,u1,u2,rfl⟩;rw [zI] at na;exact q D sa Gc Pc.same Pc.at' na Pc.all bc
def zFh (_:PySem.W.Frag):Sp:=λvs H Q _=>∃ (o t wd:Int),vs = [.int o,.int t,.int wd]/\1<=wd/\wd<=1000000 /\
 ∀ (p:Addr) (x y:Int) (H':Hp),yG H H'->H p = none->H' p = some (.tup [.int x,.int y])->(x≠0\/y≠0)->x.natAbs<=wd.natAbs->y.natAbs<=wd.natAbs->Q (.ref p) H'
theorem zOq (F:Fun K "_law_way" "_law_way" zF5 f fd) (Z:Zs mg)  : wL P w K mg base CX0 1 f fd ["_law_one", "_law_two", "_law_wide"] (zFh K):=by
 refine F.ok zC2 (λvs H Q E h=>?_) (λcdv A outer s H vs Q E hr h=>?_)
 ·obtain ⟨o,t,wd,rfl,_⟩:=h;rfl
 obtain ⟨o,t,wd,rfl,w1,w2,q⟩:=h;refine ⟨_,(zF (zT (i:=3) zC2.nd rfl (Or.inl rfl) (zN xZ (zN yQ (pv 0) (zN xO (zN yM zC (pv 2)) zC)) (pv 2)))
   (zF (zT (i:=4) zC2.nd rfl (Or.inl rfl) (zN xZ (zN yQ (pv 1) (zN xO (zN yM zC (pv 2)) zC)) (pv 2)))
   (zF (xC (PW.pt (tT (zU tX (pv 3) zC (zX _)) (uH (zU tX (pv 4) zC (zX _))))) (zJ (zT (i:=3) zC2.nd rfl (Or.inl rfl) (zN xZ zC (zN yM zC (zN yQ (pv 0) zC))))) zY)
   (zJ (zR (xE (zA (pv 3) (zA (pv 4) zD)))))))),?_⟩
 try dsimp only [L2.cxOf]
 have x0:=Int.emod_nonneg o (show 2 * wd + 1≠0 by omega);have x1:=Int.emod_lt_of_pos o (show 0 < 2 * wd + 1 by omega);have y0:=Int.emod_nonneg t (show 2 * wd + 1≠0 by omega);have y1:=Int.emod_lt_of_pos t (show 0 < 2 * wd + 1 by omega);refine ⟨_,rfl,_,rfl,_,_,rfl,rfl,.inl ⟨by decide,by decide⟩,_,_,rfl,rfl,_,_,rfl,rfl,(by show 0 < 2 * wd + 1; omega),_,rfl,_,_,rfl,rfl,?_⟩;refine ⟨_,rfl,_,rfl,_,_,rfl,rfl,.inl ⟨by decide,by decide⟩,_,_,rfl,rfl,_,_,rfl,rfl,(by show 0 < 2 * wd + 1; omega),_,rfl,_,_,rfl,rfl,?_⟩;refine ⟨_,rfl,rfl,_,rfl,?_⟩;refine ifE (λhx=>?_) (λhx=>?_)
 ·refine ⟨_,rfl,rfl,_,rfl,?_⟩;refine ifE (λhy=>?_) (λhy=>?_)
  ·refine ⟨_,rfl,_,_,rfl,rfl,(by show (0:Int) < 2; decide),_,_,rfl,rfl,.inl ⟨by decide,by decide⟩,_,_,rfl,rfl,?_⟩;refine ⟨_,rfl,_,rfl,(by show 2<=sizeLine; decide),λp hp=>?_⟩;exact q p _ _ _ (zE hp _) hp zB (by left; omega) (by omega) (by omega)
  ·refine ⟨_,rfl,_,rfl,(by show 2<=sizeLine; decide),λp hp=>?_⟩;exact q p _ _ _ (zE hp _) hp zB (.inr hy) (by omega) (by omega)
 ·refine vD ?_;refine ⟨_,rfl,_,rfl,(by show 2<=sizeLine; decide),λp hp=>?_⟩;exact q p _ _ _ (zE hp _) hp zB (.inl hx) (by omega) (by omega)
theorem zCn {x y C v0 v1 v3:Int} (hn:x≠0\/y≠0) (mx:x.natAbs<=2000) (my:y.natAbs<=2000) (mc:C.natAbs<=1000000):(997 * x + v0 % 5 - 2≠0\/997 * y + v1 % 5 - 2≠0)/\(997 * x + v0 % 5 - 2).natAbs<=10 ^ 7/\(997 * y + v1 % 5 - 2).natAbs<=10 ^ 7/\(997 * C + v3 % 900).natAbs<=10 ^ 10 :=
 ⟨by clear mx my mc; omega,by clear my mc hn; omega,by clear mx mc hn; omega,by clear mx my hn; omega⟩
def zDe (K:PySem.W.Frag):Sp:=λvs H Q _=>∃ (a:Addr) (rows:List Int),vs = [.ref a]/\SqL K H a (rows.map V.int)/\5<=rows.length/\(∀ x∈rows,0<=x/\x < 1000003) /\
 ∀ (p:Addr) (A B C:Int) (H':Hp),yG H H'->H p = none->H' p = some (.tup [.int A,.int B,.int C])->(A≠0\/B≠0)->A.natAbs<=10 ^ 7->B.natAbs<=10 ^ 7->C.natAbs<=10 ^ 10->Q (.ref p) H'
theorem zL0 (F:Fun K "_law_side" "_law_side" zCr f fd) (Z:Zs mg) (yBz:Has P w K mg base "_law_way" 1 ["_law_one", "_law_two", "_law_wide"] (zFh K)):wL P w K mg base CX0 2 f fd ["_law_d"] (zDe K):=by
 refine F.ok sQ (λvs H Q E h=>?_) (λcdv A outer s H vs Q E hr h=>?_)
 ·obtain ⟨a,rows,rfl,_⟩:=h;rfl
 obtain ⟨a,rows,rfl,hS,hl,bd,q⟩:=h;refine ⟨_,(zF (zDl (zH yBz (hr.mono (by decide)) rfl (zA (zO zL (pv 0) zC (λ_ _=>rfl)) (zA (zO zL (pv 0) zC (λ_ _=>rfl)) (zA (zO zL (wE (zA zC (zA zC (zA zC (zA zC (zA zC zD)))))) (zN yQ (zO zL (pv 0) zC (λ_ _=>rfl)) zC) (λ_ _=>rfl)) zD)))) (rM rfl (yA (zQ (i:=1) sQ.nd rfl (Or.inl rfl)) (yA (zQ (i:=2) sQ.nd rfl (Or.inl rfl)) vH))))
   (zF (zT (i:=3) sQ.nd rfl (Or.inl rfl) (zN xZ (zN yQ (zO zL (pv 0) zC (λ_ _=>rfl)) zC) zC))
   (zF (xC (zU tX (zN yQ (zO zL (pv 0) zC (λ_ _=>rfl)) zC) zC (zX _)) (zJ (zT (i:=3) sQ.nd rfl (Or.inl rfl) (zN xZ (zN yQ (zO zL (pv 0) zC (λ_ _=>rfl)) zC) zC))) zY)
   (zF (xC (zU tX (zN yQ (zO zL (pv 0) zC (λ_ _=>rfl)) zC) zC (zX _)) (zJ (zT (i:=3) sQ.nd rfl (Or.inl rfl) (zN xO (zN yM (pv 1) (zN xZ (zN yQ (zO zL (pv 0) zC (λ_ _=>rfl)) zC) zC)) (zN yM (pv 2) (zN xZ (zN yQ (zN rK (zO zL (pv 0) zC (λ_ _=>rfl)) zC) zC) zC))))) zY)
   (zF (xC (zU tX (zN yQ (zN rK (zO zL (pv 0) zC (λ_ _=>rfl)) zC) zC) zC (zX _)) (zJ (zR (xE (zA (zN xZ (zN xO (zN yM zC (pv 1)) (zN yQ (zO zL (pv 0) zC (λ_ _=>rfl)) zC)) zC) (zA (zN xZ (zN xO (zN yM zC (pv 2)) (zN yQ (zO zL (pv 0) zC (λ_ _=>rfl)) zC)) zC) (zA (zN xO (zN yM zC (pv 3)) (zN yQ (zO zL (pv 0) zC (λ_ _=>rfl)) zC)) zD)))))) zY)
   (zJ (zR (xE (zA (pv 1) (zA (pv 2) (zA (pv 3) zD))))))))))),?_⟩
 try dsimp only [L2.cxOf]
 obtain ⟨v0,a0,b00,b01⟩:=vZ bd (k:=0) (by decide) (by omega);obtain ⟨v1,a1,b10,b11⟩:=vZ bd (k:=1) (by decide) (by omega);obtain ⟨v2,a2,b20,b21⟩:=vZ bd (k:=2) (by decide) (by omega);obtain ⟨v3,a3,b30,b31⟩:=vZ bd (k:=3) (by decide) (by omega);obtain ⟨v4,a4,b40,b41⟩:=vZ bd (k:=4) (by decide) (by omega);refine ⟨_,rfl,a,_,_,_,rfl,rfl,.inl hS,a0,_,rfl,a,_,_,_,rfl,rfl,.inl hS,a1,(by show 5<=sizeLine; decide),λc hc=>?_⟩;have s1:=zE hc (.lst [.int 3,.int 3,.int 3,.int 100,.int 2000]);obtain ⟨wd,hw,hw1,hw2⟩:∃ b:Int,atI [V.int 3,V.int 3,V.int 3,V.int 100,V.int 2000] (v4 % 5) = some (.int b)/\1<=b/\b<=2000:=by
  have c0:=Int.emod_nonneg v4 (show (5:Int)≠0 by decide);have c1:=Int.emod_lt_of_pos v4 (show (0:Int) < 5 by decide);have cc:v4 % 5 = 0\/v4 % 5 = 1\/v4 % 5 = 2\/v4 % 5 = 3\/v4 % 5 = 4:=by omega
  rcases cc with e | e | e | e | e
  ·exact ⟨3,by rw [e]; rfl,by decide,by decide⟩
  ·exact ⟨3,by rw [e]; rfl,by decide,by decide⟩
  ·exact ⟨3,by rw [e]; rfl,by decide,by decide⟩
  ·exact ⟨100,by rw [e]; rfl,by decide,by decide⟩
  ·exact ⟨2000,by rw [e]; rfl,by decide,by decide⟩
 refine ⟨_,rfl,a,_,_,_,rfl,rfl,.inl (s1.seq hS),a4,_,_,rfl,rfl,(by show (0:Int) < 5; decide),c,_,_,.int wd,rfl,rfl,.inl (SqL.of zB),hw,v0,v1,wd,rfl,hw1,by omega,λp x y H2 s2' hp e2 hn n1 n2=>?_⟩;have s2:=s1.trans s2';have mx:x.natAbs<=2000:=by omega
 have my:y.natAbs<=2000:=by omega
 refine ⟨p,[.int x,.int y],rfl,SqT.of e2,rfl,.int x,[.int y],rfl,.int y,[],rfl,rfl,?_⟩;refine ⟨_,rfl,a,_,_,_,rfl,rfl,.inl (s2.seq hS),a2,_,_,rfl,rfl,(by show (0:Int) < 19; decide),_,_,rfl,rfl,?_⟩;refine ⟨_,rfl,a,_,_,_,rfl,rfl,.inl (s2.seq hS),a3,_,_,rfl,rfl,(by show (0:Int) < 4; decide),rfl,_,rfl,?_⟩;refine ifE (λ_=>?_) (λ_=>?_)
 ·refine ⟨_,rfl,a,_,_,_,rfl,rfl,.inl (s2.seq hS),a2,_,_,rfl,rfl,(by show (0:Int) < 1000001; decide),_,_,rfl,rfl,?_⟩;refine ⟨_,rfl,a,_,_,_,rfl,rfl,.inl (s2.seq hS),a3,_,_,rfl,rfl,(by show (0:Int) < 4; decide),rfl,_,rfl,?_⟩;refine ifE (λ_=>?_) (λ_=>?_)
  ·refine ⟨_,rfl,_,rfl,a,_,_,_,rfl,rfl,.inl (s2.seq hS),a2,_,_,rfl,rfl,(by show (0:Int) < 9; decide),_,_,rfl,rfl,_,_,rfl,rfl,zCd (by omega),
    _,rfl,_,rfl,a,_,_,_,rfl,rfl,.inl (s2.seq hS),a2,_,_,rfl,rfl,zAm.of (by decide) (by decide +kernel),_,_,rfl,rfl,(by show (0:Int) < 9; decide),_,_,rfl,rfl,_,_,rfl,rfl,zCd (by omega),_,_,rfl,rfl,?_⟩
   have z1:=zG x (v2 % 9 - 4) (m:=2000) (n:=4) mx (by omega);have z2:=zG y (v2 / 9 % 9 - 4) (m:=2000) (n:=4) my (by omega);have mc:((x * (v2 % 9 - 4) + y * (v2 / 9 % 9 - 4))).natAbs<=1000000:=by omega
   refine ⟨_,rfl,a,_,_,_,rfl,rfl,.inl (s2.seq hS),a4,_,_,rfl,rfl,zAm.of (by decide) (by decide +kernel),_,_,rfl,rfl,(by show (0:Int) < 12; decide),rfl,_,rfl,?_⟩;refine ifE (λ_=>?_) (λ_=>?_)
   ·refine ⟨_,rfl,_,_,rfl,rfl,.inl ⟨by decide,by decide⟩,_,rfl,a,_,_,_,rfl,rfl,.inl (s2.seq hS),a0,_,_,rfl,rfl,(by show (0:Int) < 5; decide),_,_,rfl,rfl,_,_,rfl,rfl,
     _,rfl,_,_,rfl,rfl,.inl ⟨by decide,by decide⟩,_,rfl,a,_,_,_,rfl,rfl,.inl (s2.seq hS),a1,_,_,rfl,rfl,(by show (0:Int) < 5; decide),_,_,rfl,rfl,_,_,rfl,rfl,
     _,rfl,_,_,rfl,rfl,.inl ⟨by decide,by decide⟩,_,rfl,a,_,_,_,rfl,rfl,.inl (s2.seq hS),a3,_,_,rfl,rfl,(by show (0:Int) < 900; decide),_,_,rfl,rfl,(by show 3<=sizeLine; decide),λr hr0=>?_⟩
    have sb:=zCn (v0:=v0) (v1:=v1) (v3:=v3) hn mx my mc;exact q r _ _ _ _ (s2.trans (zE hr0 _)) (s2.free hr0) zB sb.1 sb.2.1 sb.2.2.1 sb.2.2.2
   ·refine ⟨_,rfl,_,rfl,_,rfl,(by show 3<=sizeLine; decide),λr hr0=>?_⟩;exact q r _ _ _ _ (s2.trans (zE hr0 _)) (s2.free hr0) zB hn (Nat.le_trans mx (by decide)) (Nat.le_trans my (by decide)) (Nat.le_trans mc (by decide))
  ·skip
   have mc:((v2 % 1000001 - 300000)).natAbs<=1000000:=by omega
   refine ⟨_,rfl,a,_,_,_,rfl,rfl,.inl (s2.seq hS),a4,_,_,rfl,rfl,zAm.of (by decide) (by decide +kernel),_,_,rfl,rfl,(by show (0:Int) < 12; decide),rfl,_,rfl,?_⟩;refine ifE (λ_=>?_) (λ_=>?_)
   ·refine ⟨_,rfl,_,_,rfl,rfl,.inl ⟨by decide,by decide⟩,_,rfl,a,_,_,_,rfl,rfl,.inl (s2.seq hS),a0,_,_,rfl,rfl,(by show (0:Int) < 5; decide),_,_,rfl,rfl,_,_,rfl,rfl,
     _,rfl,_,_,rfl,rfl,.inl ⟨by decide,by decide⟩,_,rfl,a,_,_,_,rfl,rfl,.inl (s2.seq hS),a1,_,_,rfl,rfl,(by show (0:Int) < 5; decide),_,_,rfl,rfl,_,_,rfl,rfl,
     _,rfl,_,_,rfl,rfl,.inl ⟨by decide,by decide⟩,_,rfl,a,_,_,_,rfl,rfl,.inl (s2.seq hS),a3,_,_,rfl,rfl,(by show (0:Int) < 900; decide),_,_,rfl,rfl,(by show 3<=sizeLine; decide),λr hr0=>?_⟩
    have sb:=zCn (v0:=v0) (v1:=v1) (v3:=v3) hn mx my mc;exact q r _ _ _ _ (s2.trans (zE hr0 _)) (s2.free hr0) zB sb.1 sb.2.1 sb.2.2.1 sb.2.2.2
   ·refine ⟨_,rfl,_,rfl,_,rfl,(by show 3<=sizeLine; decide),λr hr0=>?_⟩;exact q r _ _ _ _ (s2.trans (zE hr0 _)) (s2.free hr0) zB hn (Nat.le_trans mx (by decide)) (Nat.le_trans my (by decide)) (Nat.le_trans mc (by decide))
 ·skip
  refine ⟨_,rfl,a,_,_,_,rfl,rfl,.inl (s2.seq hS),a3,_,_,rfl,rfl,(by show (0:Int) < 4; decide),rfl,_,rfl,?_⟩;refine ifE (λ_=>?_) (λ_=>?_)
  ·refine ⟨_,rfl,_,rfl,a,_,_,_,rfl,rfl,.inl (s2.seq hS),a2,_,_,rfl,rfl,(by show (0:Int) < 9; decide),_,_,rfl,rfl,_,_,rfl,rfl,zCd (by omega),
    _,rfl,_,rfl,a,_,_,_,rfl,rfl,.inl (s2.seq hS),a2,_,_,rfl,rfl,zAm.of (by decide) (by decide +kernel),_,_,rfl,rfl,(by show (0:Int) < 9; decide),_,_,rfl,rfl,_,_,rfl,rfl,zCd (by omega),_,_,rfl,rfl,?_⟩
   have z1:=zG x (v2 % 9 - 4) (m:=2000) (n:=4) mx (by omega);have z2:=zG y (v2 / 9 % 9 - 4) (m:=2000) (n:=4) my (by omega);have mc:((x * (v2 % 9 - 4) + y * (v2 / 9 % 9 - 4))).natAbs<=1000000:=by omega
   refine ⟨_,rfl,a,_,_,_,rfl,rfl,.inl (s2.seq hS),a4,_,_,rfl,rfl,zAm.of (by decide) (by decide +kernel),_,_,rfl,rfl,(by show (0:Int) < 12; decide),rfl,_,rfl,?_⟩;refine ifE (λ_=>?_) (λ_=>?_)
   ·refine ⟨_,rfl,_,_,rfl,rfl,.inl ⟨by decide,by decide⟩,_,rfl,a,_,_,_,rfl,rfl,.inl (s2.seq hS),a0,_,_,rfl,rfl,(by show (0:Int) < 5; decide),_,_,rfl,rfl,_,_,rfl,rfl,
     _,rfl,_,_,rfl,rfl,.inl ⟨by decide,by decide⟩,_,rfl,a,_,_,_,rfl,rfl,.inl (s2.seq hS),a1,_,_,rfl,rfl,(by show (0:Int) < 5; decide),_,_,rfl,rfl,_,_,rfl,rfl,
     _,rfl,_,_,rfl,rfl,.inl ⟨by decide,by decide⟩,_,rfl,a,_,_,_,rfl,rfl,.inl (s2.seq hS),a3,_,_,rfl,rfl,(by show (0:Int) < 900; decide),_,_,rfl,rfl,(by show 3<=sizeLine; decide),λr hr0=>?_⟩
    have sb:=zCn (v0:=v0) (v1:=v1) (v3:=v3) hn mx my mc;exact q r _ _ _ _ (s2.trans (zE hr0 _)) (s2.free hr0) zB sb.1 sb.2.1 sb.2.2.1 sb.2.2.2
   ·refine ⟨_,rfl,_,rfl,_,rfl,(by show 3<=sizeLine; decide),λr hr0=>?_⟩;exact q r _ _ _ _ (s2.trans (zE hr0 _)) (s2.free hr0) zB hn (Nat.le_trans mx (by decide)) (Nat.le_trans my (by decide)) (Nat.le_trans mc (by decide))
  ·skip
   have mc:((v2 % 19 - 4)).natAbs<=1000000:=by omega
   refine ⟨_,rfl,a,_,_,_,rfl,rfl,.inl (s2.seq hS),a4,_,_,rfl,rfl,zAm.of (by decide) (by decide +kernel),_,_,rfl,rfl,(by show (0:Int) < 12; decide),rfl,_,rfl,?_⟩;refine ifE (λ_=>?_) (λ_=>?_)
   ·refine ⟨_,rfl,_,_,rfl,rfl,.inl ⟨by decide,by decide⟩,_,rfl,a,_,_,_,rfl,rfl,.inl (s2.seq hS),a0,_,_,rfl,rfl,(by show (0:Int) < 5; decide),_,_,rfl,rfl,_,_,rfl,rfl,
     _,rfl,_,_,rfl,rfl,.inl ⟨by decide,by decide⟩,_,rfl,a,_,_,_,rfl,rfl,.inl (s2.seq hS),a1,_,_,rfl,rfl,(by show (0:Int) < 5; decide),_,_,rfl,rfl,_,_,rfl,rfl,
     _,rfl,_,_,rfl,rfl,.inl ⟨by decide,by decide⟩,_,rfl,a,_,_,_,rfl,rfl,.inl (s2.seq hS),a3,_,_,rfl,rfl,(by show (0:Int) < 900; decide),_,_,rfl,rfl,(by show 3<=sizeLine; decide),λr hr0=>?_⟩
    have sb:=zCn (v0:=v0) (v1:=v1) (v3:=v3) hn mx my mc;exact q r _ _ _ _ (s2.trans (zE hr0 _)) (s2.free hr0) zB sb.1 sb.2.1 sb.2.2.1 sb.2.2.2
   ·refine ⟨_,rfl,_,rfl,_,rfl,(by show 3<=sizeLine; decide),λr hr0=>?_⟩;exact q r _ _ _ _ (s2.trans (zE hr0 _)) (s2.free hr0) zB hn (Nat.le_trans mx (by decide)) (Nat.le_trans my (by decide)) (Nat.le_trans mc (by decide))
theorem add3 {a b c:Int} {x y z:Nat} (h1:a.natAbs<=x) (h2:b.natAbs<=y) (h3:c.natAbs<=z):(a + b + c).natAbs<=x + y + z:=by omega
theorem zK0 {K:PySem.W.Frag} {l D:Addr} {xs:List V} {g:TG} {te:TE} {σ0:St} {H1:Hp} {Q:VK} (Pv:Nat->St->List V->Hp->Prop) (h0:Pv 0 σ0 [] (upd H1 D (.lst []))) (hl:∀ i σ zs H,Pv i σ zs H->SqL K H l xs/\H D = some (.lst zs))
  (hs:∀ i x T σ zs H,xs[i]? = some x->H T = none->Pv i σ zs H->g (.ref T) σ (upd H T (.tup [.int i,x])) λσ2 H2=>te σ2 H2 λz H4=>H4 D = some (.lst zs)/\zs.length < sizeLine/\Pv (i + 1) σ2 (zs ++ [z]) (upd H4 D (.lst (zs ++ [z]))))
  (hd:∀ σ zs H,Pv xs.length σ zs H->Q (.ref D) H):zBz (Ite K l) D g zRz te σ0 H1 Q:=zLt Pv h0 hl (λi x T σ zs H e1 e2 p=>hs i x T σ zs H e1 e2 p) hd
theorem zKb (ss:List Sd) (j:Nat) (t:Sd):(zK ss).set j (.ref t.1) = zK (ss.set j t):=by
 simp [zK,List.map_set]
theorem cutS2 {ok:Addr->List Sd->Hp->Prop} {G:Prop} {R:Addr->List Sd->Hp->Option V->Option V->Prop} (h1:(∀ D ss H u v,ok D ss H->R D ss H u v)->G) (h2:∀ D ss H u v,ok D ss H->R D ss H u v):G:=h1 h2
def zE6 (K:PySem.W.Frag):Sp:=λvs H Q _=>∃ (r:Addr) (rows:List Int) (m:Int),vs = [.ref r,.int m]/\SqL K H r (rows.map V.int)/\0<=m/\m<=60/\3<=rows.length/\3 + 5 * m<=rows.length/\(∀ x∈rows,0<=x/\x < 1000003) /\
 ∀ (l:Addr) (ss:List Sd) (H':Hp),yG H H'->H l = none->H' l = some (.lst (zK ss))->ss.length = m.toNat->rR H' ss->(∀ t∈ss,t.2.1.natAbs<=3 * 10 ^ 7/\t.2.2.1.natAbs<=3 * 10 ^ 7/\t.2.2.2.natAbs<=9 * 10 ^ 10)->Q (.ref l) H'
theorem zKx (F:Fun K "_law_sides" "_law_sides" zAq f fd) (Z:Zs mg) (yBr:Has P w K mg base "_law_side" 2 ["_law_d"] (zDe K)):wL P w K mg base CX0 3 f fd ["_law_some", "_law_many_here"] (zE6 K):=by
 refine F.ok vW (λvs H Q E h=>?_) (λcdv A outer s H vs Q E hr h=>?_)
 ·obtain ⟨r,rows,m,rfl,_⟩:=h;rfl
 obtain ⟨r,rows,m,rfl,hS,m0,m60,hl3,hl,bd,q⟩:=h;refine ⟨_,(zF (zBv (T:=["_law_k"]) (caps:=[("_law_some", 0)]) (i:=2) vW.nd rfl rfl ⟨rfl,by decide +kernel,by decide +kernel,rfl,⟨⟨rfl,rfl,Or.inl rfl⟩,True.intro⟩⟩ rfl (uG rfl Z.range (zA (pv 1) zD)) (λ_=>(zQ (i:=0) (show (["_law_k", "_law_some"]:List Str).Nodup by decide +kernel) rfl (Or.inl rfl))) (λ_=>xT) (λ_=>(zH yBr (hr.mono (by decide)) rfl (zA (xG wG (pv 1) (wH (zN xO zC (zN yM zC (pv 0)))) wK) zD))))
   (zF (xC (PW.pt (tT (zU zC6 (pv 1) zC (zX _)) (uH (zU tX (zN yQ (zO zL (pv 0) zC (λ_ _=>rfl)) zC) zC (zX _))))) (zJ (zDl (zO zL (pv 2) (zN yQ (zO zL (pv 0) zC (λ_ _=>rfl)) (pv 1)) (λ_ _=>rfl)) (zTo (pv 2) (zN yQ (zO zL (pv 0) zC (λ_ _=>rfl)) (pv 1)) zOy))) zY)
   (zF (xC (zU tX (zN yQ (zN rK (zO zL (pv 0) zC (λ_ _=>rfl)) zC) zC) zC (zX _)) (zF (zDl (xE (zA (zN xZ (zN yQ (zO zL (pv 0) zC (λ_ _=>rfl)) zC) zC) (zA (zN xZ (zN yQ (zO zL (pv 0) zC (λ_ _=>rfl)) zC) zC) zD))) (rM rfl (yA (zQ (i:=3) vW.nd rfl (Or.inr rfl)) (yA (zQ (i:=4) vW.nd rfl (Or.inr rfl)) vH))))
   (zJ (zBv (T:=["_law_a", "_law_b", "_law_c"]) (caps:=[("_law_x", 3),("_law_y", 4)]) (i:=2) vW.nd rfl rfl ⟨rfl,by decide +kernel,by decide +kernel,rfl,⟨⟨rfl,rfl,Or.inl rfl⟩,⟨rfl,rfl,Or.inl rfl⟩,True.intro⟩⟩ rfl (xU (pv 2)) (λ_=>(rM rfl (yA (zQ (i:=0) (show (["_law_a", "_law_b", "_law_c", "_law_x", "_law_y"]:List Str).Nodup by decide +kernel) rfl (Or.inl rfl)) (yA (zQ (i:=1) (show (["_law_a", "_law_b", "_law_c", "_law_x", "_law_y"]:List Str).Nodup by decide +kernel) rfl (Or.inl rfl)) (yA (zQ (i:=2) (show (["_law_a", "_law_b", "_law_c", "_law_x", "_law_y"]:List Str).Nodup by decide +kernel) rfl (Or.inl rfl)) vH))))) (λ_=>xT) (λ_=>(xE (zA (pv 0) (zA (pv 1) (zA (zN xO (zN xO (pv 2) (zN yM (pv 0) (pv 3))) (zN yM (pv 1) (pv 4))) zD)))))))) zY)
   (zF (xC (zU tX (zN yQ (zN rK (zO zL (pv 0) zC (λ_ _=>rfl)) zC) zC) zC (zX _)) (zJ (zBv (T:=["_law_k", "_law_a", "_law_b", "_law_c"]) (caps:=[]) (i:=2) vW.nd rfl rfl ⟨rfl,by decide +kernel,by decide +kernel,rfl,True.intro⟩ rfl (zQv rfl Z.enumerate (zA (pv 2) zD)) (λ_=>(rM rfl (yA (zQ (i:=0) (show (["_law_k", "_law_a", "_law_b", "_law_c"]:List Str).Nodup by decide +kernel) rfl (Or.inl rfl)) (yA (rM rfl (yA (zQ (i:=1) (show (["_law_k", "_law_a", "_law_b", "_law_c"]:List Str).Nodup by decide +kernel) rfl (Or.inl rfl)) (yA (zQ (i:=2) (show (["_law_k", "_law_a", "_law_b", "_law_c"]:List Str).Nodup by decide +kernel) rfl (Or.inl rfl)) (yA (zQ (i:=3) (show (["_law_k", "_law_a", "_law_b", "_law_c"]:List Str).Nodup by decide +kernel) rfl (Or.inl rfl)) vH)))) vH)))) (λ_=>xT) (λ_=>(zPt (zU tX (zN yQ (pv 0) zC) zC (zX _)) (xE (zA (zN yM zC (pv 1)) (zA (zN yM zC (pv 2)) (zA (zN yM zC (pv 3)) zD)))) (xE (zA (pv 1) (zA (pv 2) (zA (pv 3) zD)))))))) zY)
   (zJ (zR (pv 2))))))),?_⟩
 try dsimp only [L2.cxOf]
 obtain ⟨v0,a0,_⟩:=vZ bd (k:=0) (by decide) (by omega);obtain ⟨v1,a1,_⟩:=vZ bd (k:=1) (by decide) (by omega);obtain ⟨v2,a2,_⟩:=vZ bd (k:=2) (by decide) (by omega);have cutD:∀ k:Nat,k<=rows.length->rO (rows.map V.int) (some (k:Int)) none = (rows.drop k).map V.int:=λk hk=>by
  rw [zC4,HT.sIx_nat rows.length 0 k,show min k rows.length = k by omega,show HT.sIx rows.length rows.length none = rows.length from rfl,List.take_of_length_le (by rw [List.length_drop]; omega)]
 apply cutS (ok:=λD ss G=>ss.length = m.toNat/\zLa H D ss G/\∀ t∈ss,t.2.1.natAbs<=10 ^ 7/\t.2.2.1.natAbs<=10 ^ 7/\t.2.2.2.natAbs<=10 ^ 10)
 ·intro main;refine ⟨_,rfl,_,rfl,(by omega),(by omega),λcc D hD=>zDu (lo:=0) (n:=m.toNat) (λi σ ys G=>∃ ss:List Sd,ys = zK ss/\ss.length = i/\zLa H D ss G/\(∀ t∈ss,t.2.1.natAbs<=10 ^ 7/\t.2.2.1.natAbs<=10 ^ 7/\t.2.2.2.natAbs<=10 ^ 10)/\∃ u0:Option V,σ = [u0,some (.ref r)])
   ⟨[],rfl,rfl,⟨zE hD _,hD,zB,(λt ht=>nomatch ht)⟩,(λt ht=>nomatch ht),none,rfl⟩ (λi σ ys G _ ⟨ss,e1,_,P,_⟩=>by rw [e1]; exact P.at') ?_ ?_⟩
  ·rintro i σ ys G hi ⟨ss,rfl,hlen,Pi,bnd,u0,rfl⟩;have cm:zSj 5 (0 + (i:Int)):=.inl ⟨by decide,by decide⟩;have ci:(3:Int) + 5 * (0 + (i:Int)) = ((3 + 5 * i:Nat):Int):=by omega
   have hi':3 + 5 * i + 5<=rows.length:=by omega
   refine ⟨_,rfl,_,rfl,_,_,rfl,rfl,cm,_,_,rfl,rfl,_,rfl,r,_,rfl,Pi.same.seq hS,λc1 hc1=>?_⟩;rw [ci,cutD (3 + 5 * i) (by omega)];have sc1:=zE hc1 (.lst ((rows.drop (3 + 5 * i)).map V.int));refine ⟨c1,rows.drop (3 + 5 * i),rfl,SqL.of zB,by rw [List.length_drop]; omega,λx hx=>bd x (List.mem_of_mem_drop hx),λp a b c G2 s2 hp ep n ma mb mc=>?_⟩;refine ⟨s2 _ _ (sc1 _ _ Pi.at'),yB (by rw [zI]; omega),ss ++ [(p,a,b,c)],by simp [zK],by rw [List.length_append,hlen]; rfl,Pi.app (sc1.trans s2) (sc1.free hp) ep n (Nat.le_trans ma (by decide)) (Nat.le_trans mb (by decide)) (Nat.le_trans mc (by decide)),λu hu=>?_,_,rfl⟩;rcases List.mem_append.mp hu with h | h
   ·exact bnd u h
   ·rw [List.mem_singleton] at h;subst h;exact ⟨ma,mb,mc⟩
  rintro σ ys G ⟨ss,rfl,hlen,P0,bnd,u0,rfl⟩;refine ⟨_,rfl,_,_,rfl,rfl,_,rfl,?_⟩;refine ifD (λhm1=>?_) (λ_=>?_)
  ·refine ⟨_,rfl,r,_,_,_,rfl,rfl,.inl (P0.same.seq hS),a0,_,_,rfl,rfl,(by show (0:Int) < 4; decide),rfl,_,rfl,?_⟩;refine ifE (λ_=>?_) (λ_=>?_)
   ·have sqr:Sq K G r (rows.map V.int):=.inl (P0.same.seq hS);have y0:=Int.emod_nonneg v2 (show m≠0 by omega);have y1:=Int.emod_lt_of_pos v2 (show 0 < m by omega);have x0:=Int.emod_nonneg v1 (show m≠0 by omega);have x1:=Int.emod_lt_of_pos v1 (show 0 < m by omega);obtain ⟨t,mt,gt,at'⟩:=yY (ss:=ss) (i:=(v2 % m).toNat) (k:=v2 % m) (by omega) (by omega);have ixn:ixN (zK ss).length (v1 % m) = some (v1 % m).toNat:=by
     unfold ixN;rw [if_pos x0,zI,if_pos (by omega)]
    refine ⟨_,rfl,_,rfl,r,_,_,_,rfl,rfl,sqr,a2,_,rfl,_,_,rfl,rfl,(by show (0:Int) < m; omega),D,_,_,_,rfl,rfl,.inl (SqL.of P0.at'),at',?_⟩;refine ⟨_,rfl,_,rfl,r,_,_,_,rfl,rfl,sqr,a1,_,rfl,_,_,rfl,rfl,(by show (0:Int) < m; omega),D,_,_,_,rfl,rfl,P0.at',ixn,?_⟩;rw [zKb];have P1:zLa H D (ss.set (v1 % m).toNat t) (upd G D (.lst (zK (ss.set (v1 % m).toNat t)))):=by
     refine ⟨P0.same.putNew P0.new,P0.new,zB,λu hu=>?_⟩;have hu':u∈ss:=by
      rcases List.mem_or_eq_of_mem_set hu with h | h
      ·exact h
      ·rw [h]; exact mt
     obtain ⟨h1,h2⟩:=P0.all u hu';exact ⟨by rw [zP (sZ h1 P0.at' (by intro z; cases z))]; exact h1,h2⟩
    have B1:∀ u∈ss.set (v1 % m).toNat t,u.2.1.natAbs<=10 ^ 7/\u.2.2.1.natAbs<=10 ^ 7/\u.2.2.2.natAbs<=10 ^ 10:=λu hu=>by
     rcases List.mem_or_eq_of_mem_set hu with h | h
     ·exact bnd u h
     ·rw [h]; exact bnd t mt
    have N1:(ss.set (v1 % m).toNat t).length = m.toNat:=by rw [List.length_set]; exact hlen
    generalize upd G D (.lst (zK (ss.set (v1 % m).toNat t))) = G1 at P1 ⊢;generalize ss.set (v1 % m).toNat t = ss1 at P1 B1 N1;exact main D ss1 G1 ⟨N1,P1,B1⟩
   ·exact main D ss G ⟨hlen,P0,bnd⟩
  ·refine vD ?_;exact main D ss G ⟨hlen,P0,bnd⟩
 clear cutD;rintro D ss G ⟨hlen,P0,bnd⟩;apply cutS2 (ok:=λD ss G=>ss.length = m.toNat/\zLa H D ss G/\∀ t∈ss,t.2.1.natAbs<=10 ^ 7/\t.2.2.1.natAbs<=10 ^ 7/\t.2.2.2.natAbs<=3 * 10 ^ 10)
 ·intro main2;refine ⟨_,rfl,r,_,_,_,rfl,rfl,(.inl ((P0).same.seq hS)),a0,_,_,rfl,rfl,zAm.of (by decide) (by decide +kernel),_,_,rfl,rfl,(by show (0:Int) < 3; decide),rfl,_,rfl,?_⟩;refine ifE (λ_=>?_) (λ_=>?_)
  ·have sqr:Sq K G r (rows.map V.int):=.inl ((P0).same.seq hS);refine ⟨_,rfl,r,_,_,_,rfl,rfl,sqr,a1,_,_,rfl,rfl,(by show (0:Int) < 2001; decide),_,_,rfl,rfl,_,rfl,r,_,_,_,rfl,rfl,sqr,a2,_,_,rfl,rfl,(by show (0:Int) < 2001; decide),_,_,rfl,rfl,(by show 2<=sizeLine; decide),λtx htx=>?_⟩;have stx:yG G (upd G tx (.tup [.int (v1 % 2001 - 1000),.int (v2 % 2001 - 1000)])):=zE htx _;have etx:upd G tx (.tup [.int (v1 % 2001 - 1000),.int (v2 % 2001 - 1000)]) tx = some (.tup [.int (v1 % 2001 - 1000),.int (v2 % 2001 - 1000)]):=zB;generalize upd G tx (.tup [.int (v1 % 2001 - 1000),.int (v2 % 2001 - 1000)]) = GX at stx etx ⊢;have bX:(v1 % 2001 - 1000).natAbs<=1000:=by omega
   have bY:(v2 % 2001 - 1000).natAbs<=1000:=by omega
   generalize v1 % 2001 - 1000 = X at etx bX;generalize v2 % 2001 - 1000 = Y at etx bY;refine ⟨tx,_,rfl,SqT.of etx,rfl,.int X,_,rfl,.int Y,_,rfl,rfl,?_⟩;refine ⟨_,rfl,D,rfl,.inl ⟨⟨_,SqL.of (stx _ _ (P0).at')⟩,λcc D2 hD2=>uC (K:=K) (a:=D) (xs:=zK ss) (λi σ ys Gd=>∃ sb:List Sd,ys = zK sb/\sb.length = i/\zLa GX D2 sb Gd/\(∀ t∈sb,t.2.1.natAbs<=10 ^ 7/\t.2.2.1.natAbs<=10 ^ 7/\t.2.2.2.natAbs<=3 * 10 ^ 10)/\∃ u0 u1 u2:Option V,σ = [u0,u1,u2,some (.int X),some (.int Y)])
    ⟨[],rfl,rfl,⟨zE hD2 _,hD2,zB,(λt ht=>nomatch ht)⟩,(λt ht=>nomatch ht),none,none,none,rfl⟩ (λi σ ys Ge _ ⟨sb,e1,_,Pq,_⟩=>⟨SqL.of (Pq.same _ _ (stx _ _ (P0).at')),by rw [e1]; exact Pq.at'⟩) ?_ ?_⟩⟩
   ·rintro i x σ ys Gf hi ⟨sb,rfl,nb,Pg,bnb,u0,u1,u2,rfl⟩;obtain ⟨t,gt,rfl,hil⟩:=xP hi;obtain ⟨et,nt,b1,b2,b3⟩:=(P0).all t (List.mem_of_getElem? gt);obtain ⟨c1,c2,c3⟩:=bnd t (List.mem_of_getElem? gt);refine ⟨t.1,_,rfl,SqT.of (Pg.same _ _ (stx _ _ et)),rfl,.int t.2.1,_,rfl,.int t.2.2.1,_,rfl,.int t.2.2.2,_,rfl,rfl,?_⟩;have z1:=zG t.2.1 X c1 bX;have z3:(t.2.2.2 + t.2.1 * X + t.2.2.1 * Y).natAbs<=3 * 10 ^ 10:=Nat.le_trans (add3 c3 z1 (zG t.2.2.1 Y c2 bY)) (by decide);clear z1;refine ⟨_,rfl,_,rfl,_,rfl,_,rfl,_,rfl,_,_,rfl,rfl,zCd (Nat.le_trans c1 (by decide)),_,_,rfl,rfl,_,rfl,_,rfl,_,_,rfl,rfl,zCd (Nat.le_trans c2 (by decide)),_,_,rfl,rfl,(by show 3<=sizeLine; decide),λp hp=>?_⟩;have sp:=zE hp (.tup [.int t.2.1,.int t.2.2.1,.int (t.2.2.2 + t.2.1 * X + t.2.2.1 * Y)]);refine ⟨sp _ _ Pg.at',yB (by rw [zI]; omega),sb ++ [(p,t.2.1,t.2.2.1,t.2.2.2 + t.2.1 * X + t.2.2.1 * Y)],by simp [zK],by rw [List.length_append,nb]; rfl,Pg.app sp hp zB nt b1 b2 (Nat.le_trans z3 (by decide)),λu hu=>?_,_,_,_,rfl⟩;rcases List.mem_append.mp hu with h | h
    ·exact bnb u h
    ·rw [List.mem_singleton] at h;subst h;exact ⟨c1,c2,z3⟩
   ·rintro σ ys Gf ⟨ss2,rfl,nb,Pg,bnb,u0,u1,u2,rfl⟩;rw [zI] at nb;have N2:ss2.length = m.toNat:=nb.trans hlen;have P2:zLa H D2 ss2 Gf:=⟨((P0).same.trans stx).trans Pg.same,(P0).same.free (stx.free Pg.new),Pg.at',Pg.all⟩;have P2s:∀ t∈ss2,t.2.1.natAbs<=10 ^ 7/\t.2.2.1.natAbs<=10 ^ 7/\t.2.2.2.natAbs<=3 * 10 ^ 10:=λt ht=>⟨Nat.le_trans (bnb t ht).1 (by decide),Nat.le_trans (bnb t ht).2.1 (by decide),(bnb t ht).2.2⟩;clear Pg;generalize some (V.int X) = uX;generalize some (V.int Y) = uY;exact main2 D2 ss2 Gf uX uY ⟨N2,P2,P2s⟩
  ·exact main2 D ss G none none ⟨hlen,P0,λt ht=>⟨Nat.le_trans (bnd t ht).1 (by decide),Nat.le_trans (bnd t ht).2.1 (by decide),Nat.le_trans (bnd t ht).2.2 (by decide)⟩⟩
 clear P0 bnd hlen;rintro D2 ss2 Gf uX uY ⟨N2,P2,P2s⟩;refine ⟨_,rfl,r,_,_,_,rfl,rfl,(.inl (P2.same.seq hS)),a0,_,_,rfl,rfl,zAm.of (by decide) (by decide +kernel),_,_,rfl,rfl,(by show (0:Int) < 3; decide),rfl,_,rfl,?_⟩;refine ifE (λ_=>?_) (λ_=>?_)
 ·refine ⟨_,rfl,D2,_,rfl,(P2).at',λcc D3 hD3=>zK0 (K:=K) (l:=D2) (xs:=zK ss2) (λi σ ys Ga=>∃ sa:List Sd,ys = zK sa/\sa.length = i/\zLa Gf D3 sa Ga/\(∀ t∈sa,t.2.1.natAbs<=3 * 10 ^ 7/\t.2.2.1.natAbs<=3 * 10 ^ 7/\t.2.2.2.natAbs<=9 * 10 ^ 10)/\∃ u0 u1 u2 u3:Option V,σ = [u0,u1,u2,u3])
   ⟨[],rfl,rfl,⟨zE hD3 _,hD3,zB,(λt ht=>nomatch ht)⟩,(λt ht=>nomatch ht),none,none,none,none,rfl⟩ (λi σ ys Gb ⟨sa,e1,_,Pq,_⟩=>⟨SqL.of (Pq.same _ _ (P2).at'),by rw [e1]; exact Pq.at'⟩) ?_ ?_⟩
  ·rintro i x T σ ys Gc hi hT ⟨sa,rfl,na,Pc,bc,u0,u1,u2,u3,rfl⟩;obtain ⟨t,gt,rfl,hil⟩:=xP hi;obtain ⟨et,nt,_⟩:=(P2).all t (List.mem_of_getElem? gt);obtain ⟨b1,b2,b3⟩:=P2s t (List.mem_of_getElem? gt);have k9:(10:Nat) ^ 8 * 3<=10 ^ 9:=by decide
   have sT:=zE hT (.tup [.int i,.ref t.1]);have npT:∀ p,upd Gc T (.tup [.int i,.ref t.1]) p = none->Gc p = none:=λp hp=>sT.free hp;have eT:upd Gc T (.tup [.int i,.ref t.1]) T = some (.tup [.int i,.ref t.1]):=zB;have et':=sT _ _ (Pc.same _ _ et);generalize upd Gc T (.tup [.int i,.ref t.1]) = G2 at sT npT eT et' ⊢;refine ⟨T,_,rfl,SqT.of eT,rfl,.int i,_,rfl,.ref t.1,_,rfl,?_⟩;refine ⟨t.1,_,rfl,SqT.of et',rfl,.int t.2.1,_,rfl,.int t.2.2.1,_,rfl,.int t.2.2.2,_,rfl,rfl,rfl,?_⟩;have c3:∀ j:Int,zSj 3 j:=λj=>.inl ⟨by decide,by decide⟩;refine ⟨_,rfl,_,_,rfl,rfl,(by show (0:Int) < 2; decide),rfl,_,rfl,?_⟩;refine ifE (λ_=>?_) (λ_=>?_)
   ·refine ⟨_,rfl,_,_,rfl,rfl,c3 _,_,rfl,_,_,rfl,rfl,c3 _,_,rfl,_,_,rfl,rfl,c3 _,(by show 3<=sizeLine; decide),λp hp=>?_⟩;have sp:=zE hp (.tup [.int (3 * t.2.1),.int (3 * t.2.2.1),.int (3 * t.2.2.2)]);have t1:=zG 3 t.2.1 (m:=3) (by decide) b1;have t2:=zG 3 t.2.2.1 (m:=3) (by decide) b2;have t3:=zG 3 t.2.2.2 (m:=3) (by decide) b3;refine ⟨sp _ _ (sT _ _ Pc.at'),yB (by rw [zI]; omega),sa ++ [(p,3 * t.2.1,3 * t.2.2.1,3 * t.2.2.2)],by simp [zK],by rw [List.length_append,na]; rfl,Pc.app (sT.trans sp) (npT p hp) zB (by clear b1 b2 b3; omega) (Nat.le_trans t1 (by decide)) (Nat.le_trans t2 (by decide)) (Nat.le_trans t3 (by decide)),λu hu=>(List.mem_append.mp hu).elim (bc u) λh=>by rw [List.mem_singleton] at h; subst h; exact ⟨t1,t2,t3⟩,_,_,_,_,rfl⟩
   ·refine ⟨_,rfl,_,rfl,_,rfl,(by show 3<=sizeLine; decide),λp hp=>?_⟩;have sp:=zE hp (.tup [.int t.2.1,.int t.2.2.1,.int t.2.2.2]);refine ⟨sp _ _ (sT _ _ Pc.at'),yB (by rw [zI]; omega),sa ++ [(p,t.2.1,t.2.2.1,t.2.2.2)],by simp [zK],by rw [List.length_append,na]; rfl,Pc.app (sT.trans sp) (npT p hp) zB nt (Nat.le_trans b1 (by decide)) (Nat.le_trans b2 (by decide)) (Nat.le_trans b3 (by decide)),λu hu=>(List.mem_append.mp hu).elim (bc u) λh=>by rw [List.mem_singleton] at h; subst h; exact ⟨Nat.le_trans b1 (by decide),Nat.le_trans b2 (by decide),Nat.le_trans b3 (by decide)⟩,_,_,_,_,rfl⟩
  ·rintro σ ys Gc ⟨sa,rfl,na,Pc,bc,u0,u1,u2,u3,rfl⟩;rw [zI] at na;exact ⟨_,rfl,q D3 sa Gc ((P2).same.trans Pc.same) ((P2).same.free Pc.new) Pc.at' (na.trans N2) (λt ht=>(Pc.all t ht)) bc⟩
 ·exact ⟨_,rfl,q D2 ss2 _ (P2).same (P2).new (P2).at' N2 (P2).all (λt ht=>⟨Nat.le_trans (P2s t ht).1 (by decide),Nat.le_trans (P2s t ht).2.1 (by decide),Nat.le_trans (P2s t ht).2.2 (by decide)⟩)⟩
def zHr (_:PySem.W.Frag):Sp:=λvs H Q _=>∃ (x y few most:Int),vs = [.int x,.int y,.int few,.int most]/\0<=few/\0<=most/\∀ (v:Int),0<=v->(v<=few\/v<=most)->Q (.int v) H
theorem zNl (F:Fun K "_law_many" "_law_many" zCm f fd) (Z:Zs mg)  : wL P w K mg base CX0 1 f fd ["_law_one", "_law_two", "_law_few", "_law_most"] (zHr K):=by
 refine F.ok zLw (λvs H Q E h=>?_) (λcdv A outer s H vs Q E hr h=>?_)
 ·obtain ⟨x,y,few,most,rfl,_⟩:=h;rfl
 obtain ⟨x,y,few,most,rfl,h1,h2,q⟩:=h;refine ⟨_,(zF (xC (zU tX (zN yQ (pv 1) zC) zC (zX _)) (zJ (zR (zN yQ (pv 0) (zN xO (pv 3) zC)))) zY)
   (zJ (zR (zN yQ (pv 0) (zN xO (pv 2) zC))))),?_⟩
 try dsimp only [L2.cxOf]
 have g1:(0:Int) < most + 1:=by omega
 have g2:(0:Int) < few + 1:=by omega
 have m1:=Int.emod_nonneg x (show most + 1≠0 by omega);have m2:=Int.emod_lt_of_pos x g1;have m3:=Int.emod_nonneg x (show few + 1≠0 by omega);have m4:=Int.emod_lt_of_pos x g2;refine ⟨_,rfl,_,_,rfl,rfl,(by show (0:Int) < 8; decide),rfl,_,rfl,?_⟩;refine ifE (λ_=>?_) (λ_=>?_)
 ·exact ⟨_,rfl,_,rfl,_,_,rfl,rfl,_,_,rfl,rfl,g1,q _ m1 (.inr (by omega))⟩
 ·exact ⟨_,rfl,_,rfl,_,_,rfl,rfl,_,_,rfl,rfl,g2,q _ m3 (.inl (by omega))⟩
def zRg (ss:List (Addr × Int × Int × Int)) (x y w:Int):List Bool:=ss.map λt=>decide (t.2.1 * x + t.2.2.1 * y<=t.2.2.2 * w)
def zJ3 (K:PySem.W.Frag):Sp:=λvs H Q _=>∃ (a p:Addr) (ss:List (Addr × Int × Int × Int)) (x y w:Int),vs = [.ref a,.ref p]/\H a = some (.lst (ss.map λt=>V.ref t.1))/\ss.length<=1000 /\
 (∀ t∈ss,H t.1 = some (.tup [.int t.2.1,.int t.2.2.1,.int t.2.2.2])/\t.2.1.natAbs<=10 ^ 18/\t.2.2.1.natAbs<=10 ^ 18/\t.2.2.2.natAbs<=10 ^ 18)/\H p = some (.tup [.int x,.int y,.int w]) /\
 ∀ H',yG H H'->Q (.bl ((zRg ss x y w).all id)) H'
theorem zPw (F:Fun K "_law_has" "_law_has" zFr f fd) (Z:Zs mg)  : wL P w K mg base CX0 1 f fd ["_law_sides_here", "_law_place"] (zJ3 K):=by
 refine F.ok zCo (λvs H Q E h=>?_) (λcdv A outer s H vs Q E hr h=>?_)
 ·obtain ⟨a,p,ss,x,y,w,rfl,_⟩:=h;rfl
 obtain ⟨a,p,ss,x,y,wt,rfl,ha,hl,hs,hp,q⟩:=h;refine ⟨_,(zF (zDl (pv 1) (rM rfl (yA (zQ (i:=2) zCo.nd rfl (Or.inr rfl)) (yA (zQ (i:=3) zCo.nd rfl (Or.inr rfl)) (yA (zQ (i:=4) zCo.nd rfl (Or.inr rfl)) vH)))))
   (zJ (zR (zW (zHc rfl) rfl Z.all zQe (zA (vI (T:=["_law_a", "_law_b", "_law_c"]) (caps:=[("_law_w", 4),("_law_x", 2),("_law_y", 3)]) ⟨rfl,by decide +kernel,by decide +kernel,rfl,⟨⟨rfl,rfl,Or.inl rfl⟩,⟨rfl,rfl,Or.inl rfl⟩,⟨rfl,rfl,Or.inl rfl⟩,True.intro⟩⟩ rfl (xU (pv 0)) (λ_=>(rM rfl (yA (zQ (i:=0) (show (["_law_a", "_law_b", "_law_c", "_law_w", "_law_x", "_law_y"]:List Str).Nodup by decide +kernel) rfl (Or.inl rfl)) (yA (zQ (i:=1) (show (["_law_a", "_law_b", "_law_c", "_law_w", "_law_x", "_law_y"]:List Str).Nodup by decide +kernel) rfl (Or.inl rfl)) (yA (zQ (i:=2) (show (["_law_a", "_law_b", "_law_c", "_law_w", "_law_x", "_law_y"]:List Str).Nodup by decide +kernel) rfl (Or.inl rfl)) vH))))) (λ_=>xT) (λ_=>(tW zQs (zN xO (zN yM (pv 0) (pv 4)) (zN yM (pv 1) (pv 5))) (zN yM (pv 2) (pv 3)) (zX _)))) zD))))),?_⟩
 try dsimp only [L2.cxOf]
 refine ⟨_,rfl,p,_,rfl,SqT.of hp,rfl,.int x,_,rfl,.int y,_,rfl,.int wt,_,rfl,rfl,?_⟩;refine ⟨_,rfl,a,rfl,.inl ⟨⟨_,SqL.of ha⟩,λc D hD=>uC (K:=K) (a:=a) (xs:=ss.map λt=>V.ref t.1) (λi σ ys H'=>H' = upd H D (.lst ys)/\ys = (zRg (ss.take i) x y wt).map V.bl/\∃ u v z,σ = [u,v,z,some (.int wt),some (.int x),some (.int y)])
  ⟨rfl,rfl,none,none,none,rfl⟩ (λi σ ys H' _ ⟨e,_⟩=>by rw [e]; exact ⟨(zE hD _).seq (SqL.of ha),zB⟩) ?_ ?_⟩⟩
 ·rintro i r σ ys H' hi ⟨rfl,rfl,u,v,z,rfl⟩;rw [List.getElem?_map] at hi;cases ht:ss[i]? with
  | none=>rw [ht] at hi; cases hi
  | some t =>
   rw [ht] at hi;cases hi;obtain ⟨h1,m1,m2,m3⟩:=hs t (List.mem_of_getElem? ht);have hil:i < ss.length:=(List.getElem?_eq_some_iff.mp ht).1;refine ⟨t.1,_,rfl,SqT.of (zE hD _ _ _ h1),rfl,_,_,rfl,_,_,rfl,_,_,rfl,rfl,?_⟩;refine ⟨_,rfl,_,rfl,_,_,rfl,rfl,zCd (by omega),_,rfl,_,rfl,_,_,rfl,rfl,zCd (by omega),_,_,rfl,rfl,_,rfl,_,rfl,_,_,rfl,rfl,zCd (by omega),_,_,rfl,rfl,zB,?_,qK,?_,_,_,_,rfl⟩
   ·refine yB ?_;unfold zRg;rw [List.length_map,List.length_map,List.length_take];omega
   ·unfold zRg;rw [yW ht,List.map_append,List.map_append];rfl
 ·rintro σ ys H' ⟨rfl,rfl,u,v,z,rfl⟩;rw [List.length_map,List.take_length];exact ⟨D,zRg ss x y wt,rfl,SqL.of zB,q _ (zE hD _)⟩
def zB5 (K:PySem.W.Frag):Sp:=λvs H Q _=>∃ (v' v:V),vs = [v',v]/\(v = .non\/∃ (p' p:Addr) (s' t' s t:Int),v' = .ref p'/\v = .ref p/\H p' = some (.tup [.int s',.int t'])/\H p = some (.tup [.int s,.int t])/\s' * t<=s * t'/\s'.natAbs<=10 ^ 372/\t'.natAbs<=10 ^ 372/\s.natAbs<=10 ^ 372/\t.natAbs<=10 ^ 372)/\Q (.bl true) H
theorem zGv (F:Fun K "_law_smaller" "_law_smaller" rB f fd) (Z:Zs mg)  : wL P w K mg base CX0 1 f fd ["_law_less", "_law_more"] (zB5 K):=by
 refine F.ok zG1 (λvs H Q E h=>?_) (λcdv A outer s H vs Q E hr h=>?_)
 ·obtain ⟨v',v,rfl,_⟩:=h;rfl
 obtain ⟨v',v,rfl,h,q⟩:=h;refine ⟨_,(zF (xC (zU zB4 (pv 0) xJ (zX _)) (zJ (zR (tW zB4 (pv 1) xJ (zX _)))) zY)
   (zJ (zR (pe_or (tW zB4 (pv 1) xJ (zX _)) (zN6 (tW zQs (zN xH (zO zL (pv 0) zC (λ_ _=>rfl)) (zO zL (pv 1) zC (λ_ _=>rfl))) (zN xH (zO zL (pv 1) zC (λ_ _=>rfl)) (zO zL (pv 0) zC (λ_ _=>rfl))) (zX _))))))),?_⟩
 try dsimp only [L2.cxOf]
 rcases h with rfl | ⟨p',p,s',t',s0,t,rfl,rfl,e',e,le,n1,n2,n3,n4⟩
 ·refine ⟨_,rfl,rfl,_,rfl,?_⟩;refine ifD (λ_=>?_) (λ_=>?_)
  ·exact ⟨_,rfl,rfl,q⟩
  ·refine ⟨_,rfl,rfl,_,rfl,?_⟩;exact zCb q
 ·refine ⟨_,rfl,rfl,_,rfl,?_⟩;refine vD ?_;refine ⟨_,rfl,rfl,_,rfl,?_⟩;refine vD ?_;have sq':Sq K H p' [.int s',.int t']:=.inr (SqT.of e');have sq:Sq K H p [.int s0,.int t]:=.inr (SqT.of e);have c1:zB3 s' t:=cBf n1 n4 (by decide +kernel) (by decide +kernel);have c2:zB3 s0 t':=cBf n3 n2 (by decide +kernel) (by decide +kernel);refine ⟨_,rfl,p',_,_,.int s',rfl,rfl,sq',rfl,_,rfl,p,_,_,.int t,rfl,rfl,sq,rfl,_,_,rfl,rfl,c1,_,rfl,p,_,_,.int s0,rfl,rfl,sq,rfl,_,rfl,p',_,_,.int t',rfl,rfl,sq',rfl,_,_,rfl,rfl,c2,?_⟩;refine ⟨_,_,rfl,rfl,?_⟩;rw [decide_eq_true le];exact q
theorem zJa {ss:List Sd} {O:P3} {rest:List P3} (R:RgA ss O rest) (ne:rest≠[]):(∀ A B,(A,B)∈edg O (rAt O rest) (rest.length - 1)↔zOj ss A B)/\(edg O (rAt O rest) (rest.length - 1)).Nodup:=by
 have m1:1<=rest.length:=List.length_pos_iff.mpr ne;have cO:=R.rg.cO;have nd:=R.rg.nodup;have ndr:=(List.nodup_cons.mp nd).2;have cor:∀ i,(h:i < rest.length)->Cor ss rest[i]:=λi h=>R.rg.cA h;have nO:∀ i,(h:i < rest.length)->O≠rest[i]:=λi h=>(R.rg.fw _ (List.getElem_mem h)).1;have mem:∀ A B,(A,B)∈edg O (rAt O rest) (rest.length - 1)↔(A = O/\B = rAt O rest 0)\/(∃ i,i < rest.length - 1/\A = rAt O rest i/\B = rAt O rest (i + 1))\/(A = rAt O rest (rest.length - 1)/\B = O):=λA B=>by
  unfold edg pth;rw [List.mem_cons,List.mem_append,List.mem_map,List.mem_singleton];constructor
  ·rintro (h | ⟨i,hi,h⟩ | h)
   ·injection h with h1 h2
    exact .inl ⟨h1,h2⟩
   ·injection h with h1 h2
    exact .inr (.inl ⟨i,List.mem_range.mp hi,h1.symm,h2.symm⟩)
   ·injection h with h1 h2
    exact .inr (.inr ⟨h1,h2⟩)
  ·rintro (⟨rfl,rfl⟩ | ⟨i,hi,rfl,rfl⟩ | ⟨rfl,rfl⟩)
   ·exact .inl rfl
   ·exact .inr (.inl ⟨i,List.mem_range.mpr hi,rfl⟩)
   ·exact .inr (.inr rfl)
 have good:∀ A B,(A,B)∈edg O (rAt O rest) (rest.length - 1)->zOj ss A B:=λA B hAB=>by
  have left:∀ C,Cor ss C->0<=c3 (rest[rest.length - 1]'(by omega)) O C/\0<=c3 O (rest[0]'(by omega)) C/\∀ k,(h:k + 1 < rest.length)->0<=c3 (rest[k]'(by omega)) rest[k + 1] C:=λC cC=>by
   by_cases two:2<=rest.length
   ·obtain ⟨_,_,_,_,_,_,wC⟩:=id cC;exact R.rg.fwd_in two (yD cC).1 wC
   ·have e1:rest.length = 1:=by omega
    have e0:rest[rest.length - 1]'(by omega) = rest[0]'(by omega):=by simp only [e1]
    rw [e0];refine ⟨?_,?_,λk h=>absurd h (by omega)⟩
    ·rcases R.rg.corner cC with rfl | ⟨k,h,rfl⟩
     ·rw [zKk]; exact Int.le_refl _
     ·have ek:k = 0:=by omega
      subst ek;rw [zLf]; exact Int.le_refl _
    ·rcases R.rg.corner cC with rfl | ⟨k,h,rfl⟩
     ·rw [zLf]; exact Int.le_refl _
     ·have ek:k = 0:=by omega
      subst ek;rw [zKk]; exact Int.le_refl _
  rcases (mem A B).mp hAB with ⟨rfl,rfl⟩ | ⟨i,hi,rfl,rfl⟩ | ⟨rfl,rfl⟩
  ·rw [rQ (show 0 < rest.length by omega)];exact ⟨cO,cor 0 (by omega),nO 0 (by omega),λC cC=>(left C cC).2.1⟩
  ·rw [rQ (show i < rest.length by omega),rQ (show i + 1 < rest.length by omega)];refine ⟨cor i (by omega),cor (i + 1) (by omega),λe=>?_,λC cC=>(left C cC).2.2 i (by omega)⟩;exact absurd (List.pairwise_iff_getElem.mp ndr i (i + 1) (by omega) (by omega) (by omega)) (λz=>z e)
  ·rw [rQ (show rest.length - 1 < rest.length by omega)];exact ⟨cor _ (by omega),cO,Ne.symm (nO _ (by omega)),λC cC=>(left C cC).1⟩
 refine ⟨λA B=>⟨good A B,λh=>?_⟩,?_⟩
 ·have next:∀ B',(A,B')∈edg O (rAt O rest) (rest.length - 1)->(A,B)∈edg O (rAt O rest) (rest.length - 1):=λB' hB'=>by
   rw [h.fn (good A B' hB')];exact hB'
  rcases R.rg.corner h.1 with rfl | ⟨k,hk,rfl⟩
  ·exact next _ ((mem _ _).mpr (.inl ⟨rfl,rfl⟩))
  ·by_cases last:k = rest.length - 1
   ·exact next O ((mem _ _).mpr (.inr (.inr ⟨by rw [<- last,rQ hk],rfl⟩)))
   ·exact next (rAt O rest (k + 1)) ((mem _ _).mpr (.inr (.inl ⟨k,by omega,by rw [rQ hk],rfl⟩)))
 ·have e:(edg O (rAt O rest) (rest.length - 1)).map (·.1) = O :: rest:=by
   unfold edg pth;rw [List.map_cons,List.map_append,List.map_map];show O :: (((List.range (rest.length - 1)).map λi=>rAt O rest i) ++ [rAt O rest (rest.length - 1)]) = O :: rest
   congr 1
   have z:((List.range (rest.length - 1)).map λi=>rAt O rest i) ++ [rAt O rest (rest.length - 1)] = (List.range rest.length).map λi=>rAt O rest i:=by
    rw [show rest.length = (rest.length - 1) + 1 by omega,List.range_succ,List.map_append];rfl
   rw [z];refine List.ext_getElem (by simp) λi h1 h2=>?_;rw [List.getElem_map,List.getElem_range,rQ h2]
  have nd2:((edg O (rAt O rest) (rest.length - 1)).map (·.1)).Nodup:=by rw [e]; exact nd
  rw [List.Nodup,List.pairwise_map] at nd2;exact nd2.imp λh e=>h (by rw [e])
def fl (p:Nat->Bool) (n:Nat):List Int:=((List.range n).filter p).map λi=>((i:Nat):Int)
theorem fl_succ (p:Nat->Bool) (n:Nat):fl p (n + 1) = fl p n ++ (if p n then [(n:Int)] else []):=by
 unfold fl;rw [List.range_succ,List.filter_append,List.map_append]
 congr 1
 rw [List.filter_cons];cases p n <;> rfl
theorem fl_len (p:Nat->Bool) (n:Nat):(fl p n).length<=n:=by
 unfold fl;rw [List.length_map];have z:=List.length_filter_le p (List.range n);rwa [List.length_range] at z
theorem zPu {p q:Nat->Bool} {n:Nat} (h:∀ i,i < n->p i = q i):fl p n = fl q n:=by
 unfold fl;rw [List.filter_congr λi hi=>h i (List.mem_range.mp hi)]
theorem fl_le {p q:Nat->Bool} {n:Nat} (h:∀ i,i < n->p i = true->q i = true):(fl p n).length<=(fl q n).length:=by
 unfold fl;rw [List.length_map,List.length_map];exact L2.filter_le λi hi=>h i (List.mem_range.mp hi)
theorem fl_eq {p q:Nat->Bool} {n:Nat} (h:∀ i,i < n->p i = true->q i = true) (hl:(fl q n).length<=(fl p n).length):fl p n = fl q n:=by
 refine zPu λi hi=>?_;cases e1:p i with
 | true=>exact (h i hi e1).symm
 | false =>
  cases e2:q i with
  | false=>rfl
  | true =>
   exfalso;unfold fl at hl;rw [List.length_map,List.length_map] at hl;have z:=L2.filter_lt (l:=List.range n) (p:=p) (q:=q) (z:=i) (λj hj=>h j (List.mem_range.mp hj)) (List.mem_range.mpr hi) e1 e2;omega
theorem zLs (ss:List (List Sd)) (P:P3):db ss P = fl (λi=>!(zB7 (ss.getD i []) P)) ss.length:=rfl
theorem zDb {ss:List Sd} {P:P3} (nz:∀ t∈ss,t.2.1≠0\/t.2.2.1≠0) (h:zCh ss P):0 < P.2.2:=by
 rcases h with rfl | ⟨t,ht,rfl⟩ | ⟨t,ht,u,hu,hn,rfl⟩
 ·decide
 ·exact (zKf (nz t ht)).1.pos
 ·exact (wJ hn).1.pos
theorem zFb (gs:List Grp) (g:Grp):rS (gs ++ [g]) = rS gs ++ [.ref g.1]:=by unfold rS; rw [List.map_append]; rfl
structure CpS (H0:Hp) (D:Addr) (cs:List Grp) (H:Hp):Prop where
 same:yG H0 H
 at':H D = some (.lst (rS cs))
 all:GrL H cs
 new:∀ g∈cs,H0 g.1 = none/\g.1≠D
theorem zBi {K:PySem.W.Frag} {te:TE} {H:Hp} {l D:Addr} {S:List Sd} {Q:VK} (hl:H l = some (.lst (zK S))) (ok:rR H S) (hD:H D = none) (hn:S.length<=100)
  (hte:∀ (H':Hp) (x:Addr) (Q':VK),(∀ c,H' c = none->Q' (.ref c) (upd H' c (.lst [.ref x])))->te [some (.ref x)] H' Q')
  (q:∀ (cs:List Grp) (H':Hp),CpS H D cs H'->cs.map (·.2) = S.map (λt=>[t])->Q (.ref D) H'):zBz (Itl K l) D (zPz 0) zRz te [none] H Q:=by
 refine uC (K:=K) (a:=l) (xs:=zK S) (λi σ ys H'=>(∃ cs:List Grp,ys = rS cs/\CpS H D cs H'/\cs.map (·.2) = (S.take i).map λt=>[t])/\∃ u:Option V,σ = [u])
  ⟨⟨[],rfl,⟨zE hD _,zB,(λg hg=>nomatch hg),(λg hg=>nomatch hg)⟩,rfl⟩,none,rfl⟩ (λi σ ys H' _ ⟨⟨cs,e,P,_⟩,_⟩=>⟨SqL.of (P.same _ _ hl),by rw [e]; exact P.at'⟩) ?_ ?_
 ·rintro i v σ ys H' hi ⟨⟨cs,rfl,P,em⟩,u,rfl⟩;obtain ⟨t,gt,rfl,hil⟩:=xP hi;have ot:=ok t (List.mem_of_getElem? gt);have lc:cs.length = i:=by have z:=congrArg List.length em; rw [List.length_map,List.length_map,List.length_take] at z; omega
  refine hte H' t.1 _ λc hc=>?_;have sc:=zE hc (.lst [.ref t.1]);have ncD:c≠D:=λz=>by rw [z,P.at'] at hc; cases hc
  refine ⟨sc _ _ P.at',yB (by rw [uB]; omega),⟨cs ++ [(c,[t])],(zFb cs (c,[t])).symm,⟨(P.same.trans sc).putNew hD,by rw [zB,zFb],λx hx=>?_,λx hx=>?_⟩,?_⟩,_,rfl⟩
  ·have sk:∀ {ss:List Sd},rR H' ss->rR (upd (upd H' c (.lst [.ref t.1])) D (.lst (rS cs ++ [V.ref c]))) ss:=λ{ss} o t ht=>by
    have e:=sc _ _ (o t ht).1;exact ⟨by rw [zP (sZ e (sc _ _ P.at') (by intro z; cases z))]; exact e,(o t ht).2⟩
   rcases List.mem_append.mp hx with hx | hx
   ·obtain ⟨h1,h2⟩:=P.all x hx;exact ⟨by rw [zP (P.new x hx).2]; exact sc _ _ h1,sk h2⟩
   ·rw [List.mem_singleton] at hx;subst hx;refine ⟨by show upd _ D _ c = _; rw [zP ncD]; exact zB,sk λu hu=>?_⟩;rw [List.mem_singleton] at hu;subst hu;exact ⟨P.same _ _ ot.1,ot.2⟩
  ·rcases List.mem_append.mp hx with hx | hx
   ·exact P.new x hx
   ·rw [List.mem_singleton] at hx;subst hx;exact ⟨P.same.free hc,ncD⟩
  ·rw [List.map_append,em,yW gt,List.map_append];rfl
 ·rintro σ ys H' ⟨⟨cs,rfl,P,em⟩,u,rfl⟩;rw [zI,List.take_length] at em;exact q cs H' P em
def zG3 (ss:List (List Sd)) (k:List Int):Prop:=(∃ P:P3,0 < P.2.2/\k = db ss P)/\∀ P:P3,0 < P.2.2->k.length<=(db ss P).length
theorem zJl {gs:List Grp} {ks:List (List Int)} (nz:∀ t∈yN gs,t.2.1≠0\/t.2.2.1≠0) (in2:∀ k∈ks,∃ P,zCh (yN gs) P/\k = db (gs.map (·.2)) P) (le:zQ6 gs ks) (k:List Int):k∈ks↔zG3 (gs.map (·.2)) k:=by
 have better:∀ P0:P3,0 < P0.2.2->∃ P,zCh (yN gs) P/\∀ i,i < (gs.map (·.2)).length->(!(zB7 ((gs.map (·.2)).getD i []) P)) = true->(!(zB7 ((gs.map (·.2)).getD i []) P0)) = true:=λP0 hP0=>by
  have sub:∀ t,t∈((gs.map (·.2)).filter λl=>zB7 l P0).flatten->t∈yN gs:=λt ht=>by
   obtain ⟨l,hl,htl⟩:=List.mem_flatten.mp ht;obtain ⟨g,hg,rfl⟩:=List.mem_map.mp (List.mem_filter.mp hl).1;exact List.mem_flatMap.mpr ⟨g,hg,htl⟩
  obtain ⟨P,cP,_,wP⟩:=zMr (λt ht=>nz t (sub t ht)) P0 hP0 (λt ht=>by
   obtain ⟨l,hl,htl⟩:=List.mem_flatten.mp ht;exact vQ.mp (List.mem_filter.mp hl).2 t htl)
  refine ⟨P,?_,λi hi hb=>?_⟩
  ·rcases cP with e | ⟨t,ht,e⟩ | ⟨t,ht,u,hu,hn,e⟩
   ·exact .inl e
   ·exact .inr (.inl ⟨t,sub t ht,e⟩)
   ·exact .inr (.inr ⟨t,sub t ht,u,sub u hu,hn,e⟩)
  ·cases e:zB7 ((gs.map (·.2)).getD i []) P0 with
   | false=>rfl
   | true =>
    have hm:(gs.map (·.2)).getD i []∈(gs.map (·.2)).filter λl=>zB7 l P0:=List.mem_filter.mpr ⟨by rw [List.getD_eq_getElem?_getD,List.getElem?_eq_getElem hi]; exact List.getElem_mem hi,e⟩;have z:zB7 ((gs.map (·.2)).getD i []) P = true:=vQ.mpr λt ht=>wP t (List.mem_flatten.mpr ⟨_,hm,ht⟩);rw [z] at hb;cases hb
 constructor
 ·intro hk;obtain ⟨P,hP,e⟩:=in2 k hk;refine ⟨⟨P,zDb nz hP,e⟩,λP0 hP0=>?_⟩;obtain ⟨P',h1,h2⟩:=better P0 hP0;refine Nat.le_trans (le.least k hk P' h1) ?_;rw [zLs,zLs];exact fl_le h2
 ·rintro ⟨⟨P0,hP0,e⟩,low⟩;obtain ⟨P',h1,h2⟩:=better P0 hP0;have z:=low P' (zDb nz h1);rw [e] at z;have eq:db (gs.map (·.2)) P' = k:=by
   rw [e];rw [zLs,zLs] at z ⊢;exact fl_eq h2 z
  have z2:=le.all P' h1 (λk' hk'=>by
   obtain ⟨P'',h3,h4⟩:=in2 k' hk';rw [eq,h4];exact low P'' (zDb nz h3))
  rwa [eq] at z2
theorem zGy {H0 H:Hp} {D:Addr} {cs:List Grp} {S:List Sd} (P:CpS H0 D cs H) (em:cs.map (·.2) = S.map λt=>[t]):cs.length = S.length/\(∀ g∈cs,g.2.length<=1)/\∀ t∈yN cs,t.2.1≠0\/t.2.2.1≠0:=by
 refine ⟨by have z:=congrArg List.length em; rwa [List.length_map,List.length_map] at z,λg hg=>?_,λt ht=>?_⟩
 ·have z:g.2∈S.map λt=>[t]:=by rw [<- em]; exact List.mem_map_of_mem hg
  obtain ⟨t,_,e⟩:=List.mem_map.mp z;rw [<- e];exact Nat.le_refl _
 ·obtain ⟨g,hg,htg⟩:=List.mem_flatMap.mp ht;exact ((P.all g hg).2 t htg).2.1
structure Duo (K:PySem.W.Frag) (H:Hp) (r l m:Addr) (rows:List Int) (S M:List Sd):Prop where
 er:H r = some (.lst (rows.map V.int))
 e:H l = some (.lst (zK S))
 em:H m = some (.lst (zK M))
 ok:rR H S
 okm:rR H M
 tab:zDs K H
theorem Duo.same {K:PySem.W.Frag} {H H':Hp} {r l m:Addr} {rows:List Int} {S M:List Sd} (h:Duo K H r l m rows S M) (s:yG H H'):Duo K H' r l m rows S M:=⟨s _ _ h.er,s _ _ h.e,s _ _ h.em,h.ok.same s,h.okm.same s,h.tab.same s⟩
theorem Duo.sameT {K:PySem.W.Frag} {H H':Hp} {r l m:Addr} {rows:List Int} {S M:List Sd} (h:Duo K H r l m rows S M) (t':zDs K H') (s:vL K H H'):Duo K H' r l m rows S M:=⟨s.lst h.tab h.er,s.lst h.tab h.e,s.lst h.tab h.em,h.ok.sameT h.tab s,h.okm.sameT h.tab s,t'⟩
theorem zR1 {T:St->Hp->Prop} {σ σ':St} {H:Hp} (e:σ = σ') (h:T σ' H):T σ H:=e ▸ h
theorem zSv {ok:Hp->Prop} {G:Prop} {R:Hp->Prop} (h1:(∀ H,ok H->R H)->G) (h2:∀ H,ok H->R H):G:=h1 h2
theorem cutV8 {ok:Hp->Prop} {G:Prop} {R:Hp->Option V->Option V->Option V->Option V->Option V->Option V->Option V->Option V->Prop} (h1:(∀ H a b c d e f g h,ok H->R H a b c d e f g h)->G) (h2:∀ H a b c d e f g h,ok H->R H a b c d e f g h):G:=h1 h2
theorem zL1 {S M:List Sd} (sub:∀ t∈S,t∈M) {x y:Int} (h:vG M x y = true):vG S x y = true:=by
 unfold vG at h ⊢;exact List.all_eq_true.mpr λt ht=>List.all_eq_true.mp h t (sub t ht)
theorem Fq.sign {x y N B:Int} (f:Fq x y N B) (hB:0 < B) (hN:0<=N):0<=x:=by
 have p:=f.pos;have z:=Int.mul_nonneg (show 0<=y by omega) hN;rw [<- f.eq] at z;by_cases c:0<=x
 ·exact c
 ·exfalso;have z2:=qU hB (show x < 0 by omega);rw [Int.mul_comm] at z2;omega
theorem zOc {S M:List Sd} {n:Sd} (hm:∀ t,t∈M↔t∈S\/t = n) {v v':V} {H:Hp} (o:zH2 S v H) (o':zH2 M v' H) (pl:∃ z:P3,0 < z.2.2/\inW M z) (nzM:∀ t∈M,t.2.1≠0\/t.2.2.1≠0) (n18:S.length<=18) (m18:M.length<=18) (sm:∀ t∈S,t.2.1.natAbs<=10 ^ 9/\t.2.2.1.natAbs<=10 ^ 9/\t.2.2.2.natAbs<=10 ^ 13) (sm':∀ t∈M,t.2.1.natAbs<=10 ^ 9/\t.2.2.1.natAbs<=10 ^ 9/\t.2.2.2.natAbs<=10 ^ 13) :
  v = .non\/∃ (p' p:Addr) (s' t' s t:Int),v' = .ref p'/\v = .ref p/\H p' = some (.tup [.int s',.int t'])/\H p = some (.tup [.int s,.int t])/\s' * t<=s * t'/\s'.natAbs<=10 ^ 372/\t'.natAbs<=10 ^ 372/\s.natAbs<=10 ^ 372/\t.natAbs<=10 ^ 372:=by
 have sub:∀ {p:P3},inW M p->inW S p:=λ{p} h t ht=>h t ((hm t).mpr (.inl ht));obtain ⟨z0,zw,wz⟩:=pl;rcases o with ⟨no,_⟩ | ⟨_,_,e⟩ | ⟨_,cl,p,s,t,O,rest,R,e1,e2,f⟩
 ·exact absurd (sub wz) (no z0 zw)
 ·exact .inl e
 right;rcases o' with ⟨no,_⟩ | ⟨_,nc,_⟩ | ⟨_,cl',p',s',t',O',rest',R',e1',e2',f'⟩
 ·exact absurd wz (no z0 zw)
 ·exfalso;refine nc ⟨λe=>?_,λk hk=>?_⟩
  ·have:=(hm n).mpr (.inr rfl);rw [e] at this;cases this
  ·obtain ⟨j,u,hj,gu,h⟩:=hk;have nu:∃ x y:Int,(x≠0\/y≠0)/\vG M x y = true:=by
    rcases h with ⟨_,h⟩ | ⟨_,h⟩
    ·exact ⟨_,_,(nzM u (List.mem_of_getElem? gu)).symm.imp (λz=>by omega) id,h⟩
    ·exact ⟨_,_,(nzM u (List.mem_of_getElem? gu)).symm.imp id (λz=>by omega),h⟩
   obtain ⟨x,y,hxy,hw⟩:=nu;have z:=zL1 (λt ht=>(hm t).mpr (.inl ht)) hw;rw [R.rg.nw x y hxy] at z;cases z
 ·obtain ⟨fO,fr⟩:=R.fine sm;obtain ⟨fO',fr'⟩:=R'.fine sm';have few:=R.few;have few':=R'.few;have Bp:0 < arB O (rAt O rest) (rest.length - 1):=zIm fO.pos λi _=>(fr i).pos;have Bp':0 < arB O' (rAt O' rest') (rest'.length - 1):=zIm fO'.pos λi _=>(fr' i).pos;have hj:rest.length - 1<=16:=by omega
  have hj':rest'.length - 1<=16:=by omega
  refine ⟨p',p,s',t',s,t,e1',e1,e2',e2,?_,?_,?_,?_,?_⟩
  ·have tp:=f.pos;have tp':=f'.pos;by_cases two:2<=rest'.length
   ·have ne:rest≠[]:=λe=>by
     subst e;have one:∀ {C:P3},Cor M C->O = C:=λ{C} cC=>by
      obtain ⟨a,b⟩:=(R.rg.one (yD cC).1).mp (sub cC.in);exact uK (yD R.rg.cO).1 (yD cC).1 (yD R.rg.cO).2 (yD cC).2 a b
     exact (R'.rg.fw _ (List.getElem_mem (show 0 < rest'.length by omega))).1 ((one R'.rg.cO).symm.trans (one (R'.rg.cA (show 0 < rest'.length by omega))))
    have ne':rest'≠[]:=λe=>by rw [e] at two; exact absurd two (by decide)
    obtain ⟨m1,_⟩:=zJa R ne;obtain ⟨m2,nd⟩:=zJa R' ne';obtain ⟨X,le⟩:=zMs hm R.rg R'.rg m1 m2 nd two;rw [zL3,zL3,<- zMa fO.pos _ (λi _=>(fr i).pos),<- zMa fO'.pos _ (λi _=>(fr' i).pos)] at le;have g1:=f.rat Bp;have g2:=f'.rat Bp';refine zHb (by omega) (by omega) ?_;rw [<- g1,<- g2];generalize (((arS O (rAt O rest) (rest.length - 1)).1:Int):Rat) = a1 at *;generalize (((arS O' (rAt O' rest') (rest'.length - 1)).1:Int):Rat) = a2 at *;generalize (((arB O (rAt O rest) (rest.length - 1)):Int):Rat) = b1 at *;generalize (((arB O' (rAt O' rest') (rest'.length - 1)):Int):Rat) = b2 at *;rw [Rat.div_def,Rat.div_def,Rat.mul_assoc,Rat.mul_assoc,<- Rat.div_def,<- Rat.div_def] at le;clear g1 g2;grind
   ·have e0:rest'.length - 1 = 0:=by omega
    rw [e0] at f' Bp';have z:=f'.eq;rw [show (arS O' (rAt O' rest') 0).1 = 0 from rfl,Int.mul_zero] at z;have s0:s' = 0:=by
     rcases Int.mul_eq_zero.mp z with z | z
     ·exact z
     ·omega
    have sp:0<=s:=f.sign Bp (zQa _ (λi _=>(fr i).pos) λi hi=>by
     rw [rQ (show i < rest.length by omega),rQ (show i + 1 < rest.length by omega)];exact Int.le_of_lt (R.rg.lt (by omega) (by omega)))
    rw [s0,Int.zero_mul];exact Int.mul_nonneg sp (by omega)
  ·exact Nat.le_trans (f'.xle (Int.ne_of_gt Bp')) (zOe fO' hj' λi _=>fr' i)
  ·exact Nat.le_trans (Nat.le_trans (f'.yle (Int.ne_of_gt Bp')) (zM6 fO' hj' λi _=>fr' i)) (by decide +kernel)
  ·exact Nat.le_trans (f.xle (Int.ne_of_gt Bp)) (zOe fO hj λi _=>fr i)
  ·exact Nat.le_trans (Nat.le_trans (f.yle (Int.ne_of_gt Bp)) (zM6 fO hj λi _=>fr i)) (by decide +kernel)
theorem zP7 (ss:List (List Sd)) (P:P3):(db ss P).length = (ss.filter λl=>!(zB7 l P)).length:=by
 rw [zLs];unfold fl;have e:(List.range ss.length).map (λi=>ss.getD i []) = ss:=by
  refine List.ext_getElem (by simp) λi h1 h2=>?_;rw [List.getElem_map,List.getElem_range,List.getD_eq_getElem?_getD,List.getElem?_eq_getElem h2];rfl
 rw [List.length_map];conv=>rhs; rw [<- e,List.filter_map,List.length_map]
 rfl
theorem zL6 {S:List Sd} {n:Sd} (k:Nat) (P:P3):∃ e:Nat,e<=1/\(db ((S.take k ++ [n] ++ S.drop k).map λt=>[t]) P).length = (db (S.map λt=>[t]) P).length + e:=by
 rw [zP7,zP7,List.map_append,List.map_append,List.filter_append,List.filter_append,List.length_append,List.length_append];have e:(S.map λt=>[t]) = (S.take k).map (λt=>[t]) ++ (S.drop k).map (λt=>[t]):=by rw [<- List.map_append,List.take_append_drop]
 rw [e,List.filter_append,List.length_append];refine ⟨(List.filter (λl=>!(zB7 l P)) ([n].map λt=>[t])).length,?_,by omega⟩;exact List.length_filter_le _ _
theorem zOw {S:List Sd} {n:Sd} {k:Nat} {a b:List Int} (ha:zG3 (S.map λt=>[t]) a) (hb:zG3 ((S.take k ++ [n] ++ S.drop k).map λt=>[t]) b):b.length = a.length\/b.length = a.length + 1:=by
 obtain ⟨⟨P,hP,ea⟩,la⟩:=ha;obtain ⟨⟨Q,hQ,eb⟩,lb⟩:=hb;have z1:=la Q hQ;have z2:=lb P hP;obtain ⟨e1,h1,q1⟩:=zL6 (S:=S) (n:=n) k P;obtain ⟨e2,h2,q2⟩:=zL6 (S:=S) (n:=n) k Q;have l1:=congrArg List.length ea;have l2:=congrArg List.length eb;omega
theorem zT2 (S:List Sd) {k:Nat} (h:k<=S.length):rO (zK S) none (some (k:Int)) = zK (S.take k):=by
 unfold rO;rw [HT.sIx_nat,show HT.sIx (zK S).length 0 none = 0 from rfl,zI,show min k S.length = k by omega,List.drop_zero,Nat.sub_zero];simp [zK,List.map_take]
theorem zS8 (S:List Sd) {k:Nat} (h:k<=S.length):rO (zK S) (some (k:Int)) none = zK (S.drop k):=by
 unfold rO;rw [HT.sIx_nat,show HT.sIx (zK S).length (zK S).length none = (zK S).length from rfl,zI,show min k S.length = k by omega,List.take_of_length_le (by rw [List.length_drop,zI]; exact Nat.le_refl _)];simp [zK,List.map_drop]
theorem zPr {ss:List Sd} {P:P3} (h:inW ss P):(zRg ss P.1 P.2.1 P.2.2).all id = true:=by
 unfold zRg;rw [List.all_map];refine List.all_eq_true.mpr λt ht=>?_;have z:=h t ht;unfold sv at z;exact decide_eq_true (by omega)
theorem zSx {α:Type} (l:List α):(l.map λ_=>true).all id = true:=List.all_eq_true.mpr λb hb=>by
 obtain ⟨_,_,rfl⟩:=List.mem_map.mp hb;rfl
def sp_law (K:PySem.W.Frag):Sp:=λvs H Q _=>∃ (a:Addr) (ns:List Int),vs = [.ref a]/\SqL K H a (ns.map V.int)/\ns.length<=63/\H (zOk K) = some (.tbl #[])/\∀ H',Q (.bl true) H'
theorem zSz (F:Fun K "law" "law" zI2 f fd) (Z:Zs mg) (yAs:Has P w K mg base "choices" 8 ["groups"] (zCc K)) (yBn:Has P w K mg base "reach" 10 ["sides", "direction"] (zEs K)) (yBz:Has P w K mg base "_law_way" 1 ["_law_one", "_law_two", "_law_wide"] (zFh K)) (yAk:Has P w K mg base "some_spot" 9 ["sides"] (tY K)) (yAr:Has P w K mg base "_law_smaller" 1 ["_law_less", "_law_more"] (zB5 K)) (yBt:Has P w K mg base "area" 18 ["sides"] (zGe K)) (yAw:Has P w K mg base "corners" 16 ["sides"] (qC K)) (yCa:Has P w K mg base "_law_has" 1 ["_law_sides_here", "_law_place"] (zJ3 K)) (yBr:Has P w K mg base "_law_side" 2 ["_law_d"] (zDe K)) (yBf:Has P w K mg base "_law_tight" 1 ["_law_some", "_law_sides_here"] (zEv K)) (yBk:Has P w K mg base "_law_sides" 3 ["_law_some", "_law_many_here"] (zE6 K)) (yBy:Has P w K mg base "_law_many" 1 ["_law_one", "_law_two", "_law_few", "_law_most"] (zHr K)) (yBi:Has P w K mg base "_law_draws" 2 ["_law_script", "_law_many_here"] (zFc K)):wL P w K mg base CX0 19 f fd ["_law_script"] (sp_law K):=by
 refine F.ok vK (λvs H Q E h=>?_) (λcdv A outer s H vs Q E hr h=>?_)
 ·obtain ⟨a,ns,rfl,_⟩:=h;rfl
 obtain ⟨ad,ns,rfl,hS,hl,hT,q⟩:=h;have hu:=hr.units0;have hu64:=hr.units;have tab0:zDs K H:=⟨#[],hT,trivial,.inl rfl⟩;refine ⟨_,(zF (zT (i:=1) vK.nd rfl (Or.inl rfl) (zH yBi (hr.mono (by decide)) rfl (zA (pv 0) (zA zC zD))))
   (zF (zT (i:=2) vK.nd rfl (Or.inr rfl) (zH yBf (hr.mono (by decide)) rfl (zA (xG wG (pv 1) (wH zC) wK) (zA (zH yBk (hr.mono (by decide)) rfl (zA (xG wG (pv 1) (wH zC) wK) (zA (zH yBy (hr.mono (by decide)) rfl (zA (zO zL (pv 1) zC (λ_ _=>rfl)) (zA (zO zL (pv 1) zC (λ_ _=>rfl)) (zA zC (zA zC zD))))) zD))) zD))))
   (zF (zT (i:=3) vK.nd rfl (Or.inl rfl) (zN yQ (zO zL (pv 1) zC (λ_ _=>rfl)) (zN xO (zW zV rfl Z.len wQ (zA (pv 2) zD)) zC)))
   (zF (zT (i:=4) vK.nd rfl (Or.inl rfl) (zN zDj (zN zDj (xG wG (pv 2) wK (wH (pv 3))) (wE (zA (zH yBr (hr.mono (by decide)) rfl (zA (xG wG (pv 1) (wH zC) wK) zD)) zD))) (xG wG (pv 2) (wH (pv 3)) wK)))
   (zF (xC (PW.pt (tT (zU zB4 (zH yAk (hr.mono (by decide)) rfl (zA (xA yT rfl Z.list uV (zA (pv 2) zD)) zD)) xJ (zX _)) (uH (zU zAj (zH yAk (hr.mono (by decide)) rfl (zA (xA yT rfl Z.list uV (zA (pv 4) zD)) zD)) xJ (zX _))))) (zJ (zR zDt)) zY)
   (zF (xC (zAy (tN (zW (zHc rfl) rfl Z.all zQe (zA (vI (T:=["_law_place"]) (caps:=[("_law_sides_here", 2)]) ⟨rfl,by decide +kernel,by decide +kernel,rfl,⟨⟨rfl,rfl,Or.inl rfl⟩,True.intro⟩⟩ rfl (xU (zH yAw (hr.mono (by decide)) rfl (zA (xA yT rfl Z.list uV (zA (pv 4) zD)) zD))) (λ_=>(zQ (i:=0) (show (["_law_place", "_law_sides_here"]:List Str).Nodup by decide +kernel) rfl (Or.inl rfl))) (λ_=>xT) (λ_=>(zH yCa (hr.mono (by decide)) rfl (zA (pv 1) (zA (pv 0) zD))))) zD)))) (zJ (zR zDt)) zY)
   (zF (xC (PW.pt (tT (zU zAj (zH yAk (hr.mono (by decide)) rfl (zA (xA yT rfl Z.list uV (zA (pv 4) zD)) zD)) xJ (zX _)) (uH (zAy (tN (zH yAr (hr.mono (by decide)) rfl (zA (zH yBt (hr.mono (by decide)) rfl (zA (xA yT rfl Z.list uV (zA (pv 4) zD)) zD)) (zA (zH yBt (hr.mono (by decide)) rfl (zA (xA yT rfl Z.list uV (zA (pv 2) zD)) zD)) zD)))))))) (zJ (zR zDt)) zY)
   (zF (zDl (zH yBz (hr.mono (by decide)) rfl (zA (zO zL (pv 1) zC (λ_ _=>rfl)) (zA (zO zL (pv 1) zC (λ_ _=>rfl)) (zA zC zD)))) (rM rfl (yA (zQ (i:=5) vK.nd rfl (Or.inl rfl)) (yA (zQ (i:=6) vK.nd rfl (Or.inl rfl)) vH))))
   (zF (zT (i:=7) vK.nd rfl (Or.inl rfl) (zH yBn (hr.mono (by decide)) rfl (zA (xA yT rfl Z.list uV (zA (pv 2) zD)) (zA (xE (zA (pv 5) (zA (pv 6) zD))) zD))))
   (zF (zT (i:=8) vK.nd rfl (Or.inl rfl) (zH yBn (hr.mono (by decide)) rfl (zA (xA yT rfl Z.list uV (zA (pv 4) zD)) (zA (xE (zA (pv 5) (zA (pv 6) zD))) zD))))
   (zF (xC (PW.pt (zT6 (PW.pt (tT (zU tX (zO zL (pv 7) zC (λ_ _=>rfl)) zAb (zX _)) (uH (zU zRr (zO zL (pv 8) zC (λ_ _=>rfl)) zAb (zX _))))) (zP1 (PW.pt (tT (zU tX (zO zL (pv 7) zC (λ_ _=>rfl)) zAb (zX _)) (uH (zU tX (zO zL (pv 8) zC (λ_ _=>rfl)) zAb (zX _)))))))) (zJ (zR zDt)) zY)
   (zF (xC (PW.pt (tT (zU tX (zO zL (pv 7) zC (λ_ _=>rfl)) zAb (zX _)) (uH (zU tX (zO zL (pv 8) zC (λ_ _=>rfl)) zAb (zX _))))) (zF (zDl (zO zL (pv 7) zC (λ_ _=>rfl)) (rM rfl (yA (zQ (i:=9) vK.nd rfl (Or.inl rfl)) (yA (zQ (i:=10) vK.nd rfl (Or.inl rfl)) (yA (zQ (i:=11) vK.nd rfl (Or.inl rfl)) vH)))))
   (zF (zDl (zO zL (pv 8) zC (λ_ _=>rfl)) (rM rfl (yA (zQ (i:=12) vK.nd rfl (Or.inl rfl)) (yA (zQ (i:=13) vK.nd rfl (Or.inl rfl)) (yA (zQ (i:=14) vK.nd rfl (Or.inl rfl)) vH)))))
   (zJ (xC (zU zC6 (zN xH (zN xO (zN yM (pv 5) (pv 12)) (zN yM (pv 6) (pv 13))) (pv 11)) (zN xH (zN xO (zN yM (pv 5) (pv 9)) (zN yM (pv 6) (pv 10))) (pv 14)) (zX _)) (zJ (zR zDt)) zY)))) zY)
   (zF (zT (i:=15) vK.nd rfl (Or.inl rfl) (zW zV rfl Z.len wQ (zA (zO zL (zH yAs (hr.mono (by decide)) rfl (zA (vI (T:=["_law_side_here"]) (caps:=[]) ⟨rfl,by decide +kernel,by decide +kernel,rfl,True.intro⟩ rfl (xU (pv 2)) (λ_=>(zQ (i:=0) (show (["_law_side_here"]:List Str).Nodup by decide +kernel) rfl (Or.inl rfl))) (λ_=>xT) (λ_=>(wE (zA (pv 0) zD)))) zD)) zC (λ_ _=>rfl)) zD)))
   (zJ (zR (tW zNh (zW zV rfl Z.len wQ (zA (zO zL (zH yAs (hr.mono (by decide)) rfl (zA (vI (T:=["_law_side_here"]) (caps:=[]) ⟨rfl,by decide +kernel,by decide +kernel,rfl,True.intro⟩ rfl (xU (pv 4)) (λ_=>(zQ (i:=0) (show (["_law_side_here"]:List Str).Nodup by decide +kernel) rfl (Or.inl rfl))) (λ_=>xT) (λ_=>(wE (zA (pv 0) zD)))) zD)) zC (λ_ _=>rfl)) zD)) (xE (zA (pv 15) (zA (zN xO (pv 15) zC) zD))) (by with_unfolding_all rfl))))))))))))))))),?_⟩
 try dsimp only [L2.cxOf]
 refine ⟨_,rfl,ad,ns,99,rfl,hS,hl,by decide,by decide,λr rows H1 s1 hr0 er1 l1 l2 bd=>?_⟩;have tab1:=tab0.same s1;obtain ⟨v0,a0,_⟩:=vZ bd (k:=0) (by decide) (by omega);obtain ⟨v1,a1,_⟩:=vZ bd (k:=1) (by decide) (by omega);obtain ⟨v90,a90,b90,_⟩:=vZ bd (k:=90) (by decide) (by omega);obtain ⟨v96,a96,_⟩:=vZ bd (k:=96) (by decide) (by omega);obtain ⟨v97,a97,_⟩:=vZ bd (k:=97) (by decide) (by omega);have cutD:∀ k:Nat,k<=91->rO (rows.map V.int) (some (k:Int)) none = (rows.drop k).map V.int:=λk hk=>by
  rw [zC4,HT.sIx_nat rows.length 0 k,show min k rows.length = k by omega,show HT.sIx rows.length rows.length none = rows.length from rfl,List.take_of_length_le (by rw [List.length_drop]; omega)]
 have sqr:SqL K H1 r (rows.map V.int):=SqL.of er1;refine ⟨_,rfl,_,rfl,r,_,rfl,sqr,λc hc=>?_⟩;rw [show rO (rows.map V.int) (some 3) none = (rows.drop 3).map V.int from cutD 3 (by decide)];have sc:=zE hc (.lst ((rows.drop 3).map V.int));have ec:upd H1 c (.lst ((rows.drop 3).map V.int)) c = some (.lst ((rows.drop 3).map V.int)):=zB;generalize upd H1 c (.lst ((rows.drop 3).map V.int)) = H2 at sc ec ⊢;refine ⟨_,rfl,_,rfl,r,_,rfl,sc.seq sqr,λd hd0=>?_⟩;rw [show rO (rows.map V.int) (some 2) none = (rows.drop 2).map V.int from cutD 2 (by decide)];have sd:=zE hd0 (.lst ((rows.drop 2).map V.int));have ed:upd H2 d (.lst ((rows.drop 2).map V.int)) d = some (.lst ((rows.drop 2).map V.int)):=zB;generalize upd H2 d (.lst ((rows.drop 2).map V.int)) = H3 at sd ed ⊢;have s13:=sc.trans sd;have sq3:Sq K H3 r (rows.map V.int):=.inl (s13.seq sqr);refine ⟨_,rfl,r,_,_,_,rfl,rfl,sq3,a0,_,rfl,r,_,_,_,rfl,rfl,sq3,a1,v0,v1,6,10,rfl,by decide,by decide,λmh mh0 mh1=>?_⟩;refine ⟨d,rows.drop 2,mh,rfl,SqL.of ed,by omega,by omega,by rw [List.length_drop]; omega,by rw [List.length_drop]; omega,λx hx=>bd x (List.mem_of_mem_drop hx),λl0 S0 H4 s4 hl0 el0 hn0 ok0 bnd0=>?_⟩;refine ⟨c,l0,rows.drop 3,S0,rfl,SqL.of (s4 _ _ (sd _ _ ec)),by rw [List.length_drop]; omega,λx hx=>bd x (List.mem_of_mem_drop hx),el0,ok0,by omega,bnd0,λl S H5 s5 el hlen okS sm=>?_⟩;have n10:S.length<=10:=by omega
 have s15:=s13.trans (s4.trans s5);have sq5:SqL K H5 r (rows.map V.int):=s15.seq sqr;have er5:=s15 _ _ er1;have tab5:=tab1.same s15;clear s4 s5 sd sc s13 ec ed el0 ok0 bnd0 hc hd0 hl0 hn0 hlen sq3 s15 sm;refine ⟨_,rfl,r,_,_,_,rfl,rfl,.inl sq5,a90,_,rfl,l,_,rfl,.inl (SqL.of el),_,_,rfl,rfl,_,_,rfl,rfl,(by show (0:Int) < ((zK S).length:Int) + 1; omega),?_⟩;rw [zI];have k0:=Int.emod_nonneg v90 (show ((S.length:Int) + 1)≠0 by omega);have k1:=Int.emod_lt_of_pos v90 (show 0 < (S.length:Int) + 1 by omega);obtain ⟨k,ek⟩:=Int.eq_ofNat_of_zero_le k0;rw [ek] at k1 ⊢;have hk:k<=S.length:=by omega
 clear k0 k1 ek a90 b90;refine ⟨_,rfl,_,rfl,_,rfl,l,_,rfl,SqL.of el,λc1 hc1=>?_⟩;rw [zT2 S hk];have sc1:=zE hc1 (.lst (zK (S.take k)));have ec1:upd H5 c1 (.lst (zK (S.take k))) c1 = some (.lst (zK (S.take k))):=zB;generalize upd H5 c1 (.lst (zK (S.take k))) = H6 at sc1 ec1 ⊢;refine ⟨_,rfl,_,rfl,r,_,rfl,sc1.seq sq5,λc2 hc2=>?_⟩;rw [show rO (rows.map V.int) (some 91) none = (rows.drop 91).map V.int from cutD 91 (by decide)];have sc2:=zE hc2 (.lst ((rows.drop 91).map V.int));have ec2:upd H6 c2 (.lst ((rows.drop 91).map V.int)) c2 = some (.lst ((rows.drop 91).map V.int)):=zB;generalize upd H6 c2 (.lst ((rows.drop 91).map V.int)) = H7 at sc2 ec2 ⊢;refine ⟨c2,rows.drop 91,rfl,SqL.of ec2,by rw [List.length_drop]; omega,λx hx=>bd x (List.mem_of_mem_drop hx),λnp nA nB nC H8 s8 hnp enp nz' bA bB bC=>?_⟩;refine ⟨by show 1<=sizeLine; decide,λc3' hc3=>?_⟩;have sc3:=zE hc3 (.lst [.ref np]);have ec3:upd H8 c3' (.lst [.ref np]) c3' = some (.lst [.ref np]):=zB;generalize upd H8 c3' (.lst [.ref np]) = H9 at sc3 ec3 ⊢;have s69:=sc2.trans (s8.trans sc3);refine ⟨c1,c3',_,_,rfl,rfl,s69 _ _ ec1,ec3,Nat.le_of_lt (yB (by rw [zI,List.length_take]; show _ + 1<=1000; omega)),λc4 hc4=>?_⟩;have sc4:=zE hc4 (.lst (zK (S.take k) ++ [.ref np]));have ec4:upd H9 c4 (.lst (zK (S.take k) ++ [.ref np])) c4 = some (.lst (zK (S.take k) ++ [.ref np])):=zB;generalize upd H9 c4 (.lst (zK (S.take k) ++ [.ref np])) = H10 at sc4 ec4 ⊢;have s510:=(sc1.trans s69).trans sc4;refine ⟨_,rfl,_,rfl,_,rfl,l,_,rfl,SqL.of (s510 _ _ el),λc5 hc5=>?_⟩;rw [zS8 S hk];have sc5:=zE hc5 (.lst (zK (S.drop k)));have ec5:upd H10 c5 (.lst (zK (S.drop k))) c5 = some (.lst (zK (S.drop k))):=zB;generalize upd H10 c5 (.lst (zK (S.drop k))) = H11 at sc5 ec5 ⊢;refine ⟨c4,c5,_,_,rfl,rfl,sc5 _ _ ec4,ec5,Nat.le_of_lt (yB (by rw [List.length_append,zI,zI,List.length_take,List.length_drop]; show _ + 1 + _<=1000; omega)),λm hm0=>?_⟩;rw [show zK (S.take k) ++ [V.ref np] ++ zK (S.drop k) = zK (S.take k ++ [(np,nA,nB,nC)] ++ S.drop k) by simp [zK]];have hm:∀ t,t∈S.take k ++ [(np,nA,nB,nC)] ++ S.drop k↔t∈S\/t = (np,nA,nB,nC):=λt=>by
  rw [List.mem_append,List.mem_append,List.mem_singleton];conv=>rhs; rw [<- List.take_append_drop k S,List.mem_append]
  constructor
  ·rintro ((h | h) | h)
   ·exact .inl (.inl h)
   ·exact .inr h
   ·exact .inl (.inr h)
  ·rintro ((h | h) | h)
   ·exact .inl (.inl h)
   ·exact .inr h
   ·exact .inl (.inr h)
 have lM:(S.take k ++ [(np,nA,nB,nC)] ++ S.drop k).length = S.length + 1:=by
  rw [List.length_append,List.length_append,List.length_take,List.length_drop];show _ + 1 + _ = _;omega
 have rowM:∀ {a b:List Int},zG3 (S.map λt=>[t]) a->zG3 ((S.take k ++ [(np,nA,nB,nC)] ++ S.drop k).map λt=>[t]) b->b.length = a.length\/b.length = a.length + 1:=λha hb=>zOw ha hb;have duo:∀ {G:Hp},yG H11 G->G m = some (.lst (zK (S.take k ++ [(np,nA,nB,nC)] ++ S.drop k)))->Duo K G r l m rows S (S.take k ++ [(np,nA,nB,nC)] ++ S.drop k):=λ{G} sG e=>by
  have s5G:yG H5 G:=(s510.trans sc5).trans sG;refine ⟨s5G _ _ er5,s5G _ _ el,e,okS.same s5G,λt ht=>?_,tab5.same s5G⟩;rcases (hm t).mp ht with h | rfl
  ·exact okS.same s5G t h
  ·exact ⟨sG _ _ (sc5 _ _ (sc4 _ _ (sc3 _ _ enp))),nz',Nat.le_trans bA (by decide),Nat.le_trans bB (by decide),Nat.le_trans bC (by decide)⟩
 have d0:=duo (zE hm0 _) zB;generalize upd H11 m (.lst (zK (S.take k ++ [(np,nA,nB,nC)] ++ S.drop k))) = G0 at d0 ⊢;generalize hMM:S.take k ++ [(np,nA,nB,nC)] ++ S.drop k = M at hm lM rowM d0 ⊢;clear duo s510 s69 sc1 sc2 sc3 sc4 sc5 s8 ec1 ec2 ec3 ec4 ec5 hc1 hc2 hc3 hc4 hc5 hm0 hnp enp nz' bA bB bC el okS tab5 sq5 er5 hMM;have sub:∀ {p:P3},inW M p->inW S p:=λ{p} h t ht=>h t ((hm t).mpr (.inl ht));have sS:∀ t∈S,(t.2.1≠0\/t.2.2.1≠0)/\t.2.1.natAbs<=10 ^ 9/\t.2.2.1.natAbs<=10 ^ 9/\t.2.2.2.natAbs<=10 ^ 13:=λt ht=>(d0.ok t ht).2;have sM:∀ t∈M,(t.2.1≠0\/t.2.2.1≠0)/\t.2.1.natAbs<=10 ^ 9/\t.2.2.1.natAbs<=10 ^ 9/\t.2.2.2.natAbs<=10 ^ 13:=λt ht=>(d0.okm t ht).2;have nS:∀ {n:Nat},10<=n->S.length<=n:=λh=>Nat.le_trans n10 h;have nM:∀ {n:Nat},11<=n->M.length<=n:=λh=>Nat.le_trans (by rw [lM]; exact Nat.succ_le_succ n10) h;apply zSv (ok:=λG=>Duo K G r l m rows S M)
 ·intro main;refine ⟨_,rfl,l,_,rfl,.inl (SqL.of d0.e),λc hc=>?_⟩;have sc:=zE hc (.lst (zK S));refine ⟨c,S,rfl,SqL.of zB,d0.ok.same sc,nS (by decide),λG1 s1 no=>?_,λp P G1 s1 ap wp cp=>?_⟩
  ·refine ⟨rfl,_,rfl,?_⟩;refine zCb ?_;have d1:=d0.same (sc.trans s1);refine ⟨_,rfl,m,_,rfl,.inl (SqL.of d1.em),λc2 hc2=>?_⟩;have sc2:=zE hc2 (.lst (zK M));refine ⟨c2,M,rfl,SqL.of zB,d1.okm.same sc2,nM (by decide),λG2 s2 _=>?_,λp P G2 s2 ap wp _=>absurd (sub wp) (no P ap.2.1)⟩;refine ⟨rfl,_,rfl,?_⟩;refine vD ?_;exact main G2 (d1.same (sc2.trans s2))
  ·refine ⟨rfl,_,rfl,?_⟩;refine vD ?_;refine vD ?_;exact main G1 (d0.same (sc.trans s1))
 intro G1 d1;refine ⟨_,rfl,m,_,rfl,.inl (SqL.of d1.em),λc hc=>?_⟩;have sc:=zE hc (.lst (zK M));refine ⟨c,M,rfl,SqL.of zB,d1.okm.same sc,nM (by decide),λD ps G2 s2 hD ca=>?_⟩;have d2:=d1.same (sc.trans s2);clear sc s2 hc hD d1 d0;refine ⟨D,rfl,.inl ⟨⟨_,SqL.of ca.at'⟩,λcc D3 hD3=>uC (K:=K) (a:=D) (xs:=zZ ps) (λi σ ys G=>yG G2 G/\G D3 = some (.lst ys)/\ys = ((ps.take i).map λ_=>true).map V.bl/\∃ u:Option V,σ = [u,some (.ref l)])
  ⟨zE hD3 _,zB,rfl,none,rfl⟩ (λi σ ys G _ ⟨e1,e2,_⟩=>⟨SqL.of (e1 _ _ ca.at'),e2⟩) ?_ ?_⟩⟩
 ·rintro i v σ ys Gc hi ⟨sG,eD3,rfl,u,rfl⟩;unfold zZ at hi;rw [List.getElem?_map] at hi;cases gx:ps[i]? with
  | none=>rw [gx] at hi; cases hi
  | some t =>
   rw [gx] at hi;cases hi;have mt:=List.mem_of_getElem? gx;have il:i < ps.length:=(List.getElem?_eq_some_iff.mp gx).1;have few:=ca.few;have wt:=sub ((ca.mem t.2).mp (List.mem_map_of_mem mt)).in;refine ⟨_,rfl,_,rfl,l,t.1,S,t.2.1,t.2.2.1,t.2.2.2,rfl,(by have z:=sG _ _ d2.e; unfold zK at z; rw [List.map_map] at z; exact z),nS (by decide),λu hu=>?_,sG _ _ (ca.ok t mt).1.1,λG' s'=>?_⟩
   ·obtain ⟨e1,_,e3,e4,e5⟩:=d2.ok u hu;exact ⟨sG _ _ e1,Nat.le_trans e3 (by decide),Nat.le_trans e4 (by decide),Nat.le_trans e5 (by decide)⟩
   ·rw [zPr wt];refine ⟨s' _ _ eD3,yB (by simp only [List.length_map,List.length_take]; omega),(sG.trans s').putNew hD3,zB,?_,_,rfl⟩;rw [yW gx,List.map_append,List.map_append];rfl
 rintro σ ys G3 ⟨sG,eD3,rfl,u,rfl⟩;refine ⟨D3,_,rfl,SqL.of eD3,_,rfl,?_⟩;rw [zSx];refine vD ?_;have d3:=d2.same sG;clear d2 sG eD3 ca hD3;apply zSv (ok:=λG=>Duo K G r l m rows S M)
 ·intro main;refine ⟨_,rfl,m,_,rfl,.inl (SqL.of d3.em),λc hc=>?_⟩;have sc:=zE hc (.lst (zK M));refine ⟨c,M,rfl,SqL.of zB,d3.okm.same sc,nM (by decide),λG1 s1 no=>?_,λp P G1 s1 ap wp cp=>?_⟩
  ·refine ⟨rfl,_,rfl,?_⟩;refine vD ?_;refine vD ?_;exact main G1 (d3.same (sc.trans s1))
  ·refine ⟨rfl,_,rfl,?_⟩;refine zCb ?_;have d4:=d3.same (sc.trans s1);refine ⟨_,rfl,m,_,rfl,.inl (SqL.of d4.em),λc2 hc2=>?_⟩;have sc2:=zE hc2 (.lst (zK M));have d5:=d4.same sc2;refine ⟨c2,M,rfl,SqL.of zB,d5.okm,nM (by decide),d5.tab,λv' G5 sT tab5 out'=>?_⟩;have d6:=d5.sameT tab5 sT;refine ⟨_,rfl,l,_,rfl,.inl (SqL.of d6.e),λc3 hc3=>?_⟩;have sc3:=zE hc3 (.lst (zK S));have d7:=d6.same sc3;refine ⟨c3,S,rfl,SqL.of zB,d7.ok,nS (by decide),d7.tab,λv G6 sT2 tab6 out=>?_⟩;have out6:=(out'.keep λp xs e=>sc3 _ _ e).keep λp xs e=>sT2.tup d7.tab e;refine ⟨v',v,rfl,zOc hm out out6 ⟨P,ap.2.1,wp⟩ (λt ht=>(sM t ht).1) (nS (by decide)) (nM (by decide)) (λt ht=>(sS t ht).2) (λt ht=>(sM t ht).2),?_⟩;refine ⟨_,rfl,?_⟩;refine vD ?_;exact main G6 (d7.sameT tab6 sT2)
 clear d3;intro G4 d4;refine ⟨_,rfl,r,_,_,_,rfl,rfl,.inl (SqL.of d4.er),a96,_,rfl,r,_,_,_,rfl,rfl,.inl (SqL.of d4.er),a97,v96,v97,9,rfl,by decide,by decide,λp x y G5 s5 hp ep nzw bx by'=>?_⟩;refine ⟨p,_,rfl,SqT.of ep,rfl,.int x,_,rfl,.int y,_,rfl,rfl,?_⟩;have d5:=d4.same s5;clear d4 s5 hp ep;have bx:x.natAbs<=9:=bx;have by':y.natAbs<=9:=by';refine zR1 (σ':=[some (.ref ad),some (.ref r),some (.ref l),some (.int k),some (.ref m),some (.int x),some (.int y),none,none,none,none,none,none,none,none,none]) rfl ?_;apply cutV8 (ok:=λG=>Duo K G r l m rows S M)
 ·intro main;refine ⟨_,rfl,l,_,rfl,.inl (SqL.of d5.e),λc hc=>?_⟩;have sc:=zE hc (.lst (zK S));have ec:upd G5 c (.lst (zK S)) c = some (.lst (zK S)):=zB;generalize upd G5 c (.lst (zK S)) = G6 at sc ec ⊢;refine ⟨_,rfl,_,rfl,(by show 2<=sizeLine; decide),λt ht=>?_⟩;have st:=zE ht (.tup [.int x,.int y]);refine ⟨c,t,S,(x,y,0),rfl,SqL.of (st _ _ ec),(d5.ok.same sc).same st,nS (by decide),.inr (SqT.of zB),nzw,Nat.le_trans bx (by decide),Nat.le_trans by' (by decide),λt1 G7 s7 o1=>?_⟩;have d7:=d5.same ((sc.trans st).trans s7);clear sc st s7 ec ht hc;refine ⟨_,rfl,m,_,rfl,.inl (SqL.of d7.em),λc2 hc2=>?_⟩;have sc:=zE hc2 (.lst (zK M));have ec:upd G7 c2 (.lst (zK M)) c2 = some (.lst (zK M)):=zB;generalize upd G7 c2 (.lst (zK M)) = G8 at sc ec ⊢;refine ⟨_,rfl,_,rfl,(by show 2<=sizeLine; decide),λt2 ht2=>?_⟩;have st:=zE ht2 (.tup [.int x,.int y]);refine ⟨c2,t2,M,(x,y,0),rfl,SqL.of (st _ _ ec),(d7.okm.same sc).same st,nM (by decide),.inr (SqT.of zB),nzw,Nat.le_trans bx (by decide),Nat.le_trans by' (by decide),λt3 G9 s9 o2=>?_⟩;refine zR1 (σ':=[some (.ref ad),some (.ref r),some (.ref l),some (.int k),some (.ref m),some (.int x),some (.int y),some (.ref t1),some (.ref t3),none,none,none,none,none,none,none]) rfl ?_;have s79:=(sc.trans st).trans s9;have d9:=d7.same s79;clear sc st s9 ec ht2 hc2;rcases o1 with ⟨p1,w1,P1,e1,f1,pw1,wp1,⟨n1,n2,n3⟩,most⟩ | ⟨w1,e1,no⟩ | ⟨w1,Z1,x1,y1,e1,_⟩
  ·have e1:=s79 _ _ e1;have f1:=s79 _ _ f1;rcases o2 with ⟨p2,w2,P2,e2,f2,pw2,wp2,⟨m1,m2,m3⟩,_⟩ | ⟨w2,e2,no2⟩ | ⟨w2,Z2,x2,y2,e2,zw2,wz2,hg,hw⟩
   ·refine ⟨_,rfl,t1,_,_,_,rfl,rfl,.inr (SqT.of e1),rfl,rfl,_,rfl,?_⟩;refine vD ?_;refine vD ?_;refine ⟨_,rfl,t1,_,_,_,rfl,rfl,.inr (SqT.of e1),rfl,rfl,_,rfl,?_⟩;refine zCb ?_;refine ⟨_,rfl,t3,_,_,_,rfl,rfl,.inr (SqT.of e2),rfl,rfl,_,rfl,?_⟩;refine vD ?_;refine ⟨_,rfl,t1,_,_,_,rfl,rfl,.inr (SqT.of e1),rfl,rfl,_,rfl,?_⟩;refine zCb ?_;refine ⟨_,rfl,t3,_,_,_,rfl,rfl,.inr (SqT.of e2),rfl,rfl,_,rfl,?_⟩;refine zCb ?_;refine ⟨_,rfl,t1,_,_,.ref p1,rfl,rfl,.inr (SqT.of e1),rfl,p1,_,rfl,SqT.of f1,rfl,.int P1.1,_,rfl,.int P1.2.1,_,rfl,.int P1.2.2,_,rfl,rfl,?_⟩;refine ⟨_,rfl,t3,_,_,.ref p2,rfl,rfl,.inr (SqT.of e2),rfl,p2,_,rfl,SqT.of f2,rfl,.int P2.1,_,rfl,.int P2.2.1,_,rfl,.int P2.2.2,_,rfl,rfl,?_⟩;refine zR1 (σ':=[some (.ref ad),some (.ref r),some (.ref l),some (.int k),some (.ref m),some (.int x),some (.int y),some (.ref t1),some (.ref t3),some (.int P1.1),some (.int P1.2.1),some (.int P1.2.2),some (.int P2.1),some (.int P2.2.1),some (.int P2.2.2),none]) rfl ?_;have far:=most P2 pw2 (sub wp2);have z1:=zG x P2.1 bx m1;have z2:=zG y P2.2.1 by' m2;have z3:=zG x P1.1 bx n1;have z4:=zG y P1.2.1 by' n2;have z5:(x * P2.1 + y * P2.2.1).natAbs<=10 ^ 50:=Nat.le_trans (Int.natAbs_add_le _ _) (Nat.le_trans (Nat.add_le_add z1 z2) (by decide +kernel));have z6:(x * P1.1 + y * P1.2.1).natAbs<=10 ^ 50:=Nat.le_trans (Int.natAbs_add_le _ _) (Nat.le_trans (Nat.add_le_add z3 z4) (by decide +kernel));have c1:zB3 (x * P2.1 + y * P2.2.1) P1.2.2:=cBf z5 n3 (by decide +kernel) (by decide +kernel);have c2:zB3 (x * P1.1 + y * P1.2.1) P2.2.2:=cBf z6 m3 (by decide +kernel) (by decide +kernel);have bX:x.natAbs<=10 ^ 18:=Nat.le_trans bx (by decide);have bY:y.natAbs<=10 ^ 18:=Nat.le_trans by' (by decide);refine ⟨_,rfl,_,rfl,_,_,rfl,rfl,zCd bX,_,rfl,_,rfl,_,_,rfl,rfl,zCd bY,_,_,rfl,rfl,_,rfl,_,_,rfl,rfl,c1,_,rfl,_,rfl,_,_,rfl,rfl,zCd bX,_,rfl,_,rfl,_,_,rfl,rfl,zCd bY,_,_,rfl,rfl,_,rfl,_,_,rfl,rfl,c2,_,_,rfl,rfl,_,rfl,?_⟩;rw [decide_eq_false (show ¬ ((x * P1.1 + y * P1.2.1) * P2.2.2 < (x * P2.1 + y * P2.2.1) * P1.2.2) from Int.not_lt.mpr far)];refine vD ?_;generalize some (V.ref t1) = u7;generalize some (V.ref t3) = u8;generalize some (V.int P1.1) = u9;generalize some (V.int P1.2.1) = u10;generalize some (V.int P1.2.2) = u11;generalize some (V.int P2.1) = u12;generalize some (V.int P2.2.1) = u13;generalize some (V.int P2.2.2) = u14;exact main G9 u7 u8 u9 u10 u11 u12 u13 u14 d9
   ·refine ⟨_,rfl,t1,_,_,_,rfl,rfl,.inr (SqT.of e1),rfl,rfl,_,rfl,?_⟩;refine vD ?_;refine vD ?_;refine ⟨_,rfl,t1,_,_,_,rfl,rfl,.inr (SqT.of e1),rfl,rfl,_,rfl,?_⟩;refine zCb ?_;refine ⟨_,rfl,t3,_,_,_,rfl,rfl,.inr (SqT.of e2),rfl,rfl,_,rfl,?_⟩;refine vD ?_;refine ⟨_,rfl,t1,_,_,_,rfl,rfl,.inr (SqT.of e1),rfl,rfl,_,rfl,?_⟩;refine zCb ?_;refine ⟨_,rfl,t3,_,_,_,rfl,rfl,.inr (SqT.of e2),rfl,rfl,_,rfl,?_⟩;refine vD ?_;exact main G9 (some (.ref t1)) (some (.ref t3)) none none none none none none d9
   ·exact (zQq hg (zL1 (λt ht=>(hm t).mpr (.inl ht)) hw) pw1 wp1 most).elim
  ·have e1:=s79 _ _ e1;rcases o2 with ⟨p2,w2,P2,e2,f2,pw2,wp2,_⟩ | ⟨w2,e2,no2⟩ | ⟨w2,Z2,x2,y2,e2,zw2,wz2,hg,hw⟩
   ·exact absurd (sub wp2) (no P2 pw2)
   ·refine ⟨_,rfl,t1,_,_,_,rfl,rfl,.inr (SqT.of e1),rfl,rfl,_,rfl,?_⟩;refine zCb ?_;refine ⟨_,rfl,t3,_,_,_,rfl,rfl,.inr (SqT.of e2),rfl,rfl,_,rfl,?_⟩;refine vD ?_;refine ⟨_,rfl,t1,_,_,_,rfl,rfl,.inr (SqT.of e1),rfl,rfl,_,rfl,?_⟩;refine vD ?_;refine vD ?_;refine ⟨_,rfl,t1,_,_,_,rfl,rfl,.inr (SqT.of e1),rfl,rfl,_,rfl,?_⟩;refine vD ?_;refine vD ?_;exact main G9 (some (.ref t1)) (some (.ref t3)) none none none none none none d9
   ·exact absurd (sub wz2) (no Z2 zw2)
  ·have e1:=s79 _ _ e1;refine ⟨_,rfl,t1,_,_,_,rfl,rfl,.inr (SqT.of e1),rfl,rfl,_,rfl,?_⟩;refine vD ?_;refine vD ?_;refine ⟨_,rfl,t1,_,_,_,rfl,rfl,.inr (SqT.of e1),rfl,rfl,_,rfl,?_⟩;refine vD ?_;refine vD ?_;refine ⟨_,rfl,t1,_,_,_,rfl,rfl,.inr (SqT.of e1),rfl,rfl,_,rfl,?_⟩;refine vD ?_;refine vD ?_;exact main G9 (some (.ref t1)) (some (.ref t3)) none none none none none none d9
 clear d5;intro G6 u7 u8 u9 u10 u11 u12 u13 u14 d6;refine ⟨_,rfl,l,rfl,.inl ⟨⟨_,SqL.of d6.e⟩,λcc D1 hD1=>zBi d6.e d6.ok hD1 (nS (by decide)) (λH' x Q' q'=>⟨_,rfl,by show 1<=sizeLine; decide,q'⟩) λcs H1 P1 em=>?_⟩⟩;obtain ⟨lc,fc,nz⟩:=zGy P1 em;refine ⟨D1,cs,rfl,SqL.of P1.at',P1.all,lc ▸ nS (by decide),λg hg=>Nat.le_trans (fc g hg) (by decide),λF1 fs H2 s2 hF eF of1 in1 le1 nd1=>?_⟩;have row1:=zJl nz in1 le1;rw [em] at row1;have d7:=d6.same (P1.same.trans s2);obtain ⟨f0,fs',rfl⟩:=List.exists_cons_of_ne_nil (show fs≠[] from λe=>le1.ne (by rw [e]; rfl));have e0:=(of1 f0 (.head _)).1;refine ⟨F1,_,_,.ref f0.1,rfl,rfl,.inl (SqL.of eF),tZ (j:=0) rfl,f0.1,_,rfl,.inl (SqL.of e0),?_⟩;have any1:=(row1 f0.2).mp (.head _);rw [List.length_map];generalize f0.2 = k0 at any1 ⊢;clear P1 em lc fc nz in1 le1 s2 hD1 hF row1 nd1 of1 eF e0 d6;refine ⟨_,rfl,m,rfl,.inl ⟨⟨_,SqL.of d7.em⟩,λcc D2 hD2=>zBi d7.em d7.okm hD2 (nM (by decide)) (λH' x Q' q'=>⟨_,rfl,by show 1<=sizeLine; decide,q'⟩) λcs2 H3 P3' em=>?_⟩⟩;obtain ⟨lc,fc,nz⟩:=zGy P3' em;refine ⟨D2,cs2,rfl,SqL.of P3'.at',P3'.all,lc ▸ nM (by decide),λg hg=>Nat.le_trans (fc g hg) (by decide),λF2 fs2 H4 s4 hF2 eF2 of2 in2 le2 nd2=>?_⟩;have row2:=zJl nz in2 le2;rw [em] at row2;obtain ⟨g0,gs',rfl⟩:=List.exists_cons_of_ne_nil (show fs2≠[] from λe=>le2.ne (by rw [e]; rfl));have e0:=(of2 g0 (.head _)).1;refine ⟨F2,_,_,.ref g0.1,rfl,rfl,.inl (SqL.of eF2),tZ (j:=0) rfl,g0.1,_,rfl,.inl (SqL.of e0),?_⟩;have two:=rowM any1 ((row2 g0.2).mp (.head _));refine ⟨_,rfl,_,rfl,_,_,rfl,rfl,(by show 2<=sizeLine; decide),λtp htp=>?_⟩;refine ⟨tp,_,rfl,.inr (SqT.of zB),rfl,rfl,?_⟩;have yes:inV (.int (((g0.2.map V.int).length:Nat):Int)) [.int ((k0.length:Nat):Int),.int (((k0.length:Nat):Int) + 1)] = true:=by
  rw [List.length_map];unfold inV;rcases two with e | e
  ·rw [e];simp [eqV]
  ·rw [e];simp [eqV]
 rw [show (if false = true then !inV (.int (((g0.2.map V.int).length:Nat):Int)) [.int ((k0.length:Nat):Int),.int (((k0.length:Nat):Int) + 1)] else inV (.int (((g0.2.map V.int).length:Nat):Int)) [.int ((k0.length:Nat):Int),.int (((k0.length:Nat):Int) + 1)]) = true from yes];exact q _
end
abbrev AtK (Pm:Params) (x:Str) (s:Stmt) (f:Addr) (oc:Value) (od:Option Addr) (sl:Array (Option Value)) (kV dc pm:Value) (an:Option Addr) (cd ct:Value):Prop :=
 PySem.W.nsIn (KK Pm) mainGlobals x = some (some (.ref f))/\List.lookup f KC = some ⟨oc,od,.func (PySem.W.fnOf x x (vJ s) (uJ s) (zM s) .none kV dc pm an cd ct),sl⟩/\PySem.W.codeIn KC cd x = true/\PySem.W.keepIn KC (.ref f) = true
section
variable {Pm:Params} {x:Str} {s:Stmt} {f:Addr} {oc kV dc pm cd ct:Value} {od an:Option Addr} {sl:Array (Option Value)} {h:Heap} {mg:Str->Option Value}
theorem yL (q:AtK Pm x s f oc od sl kV dc pm an cd ct):Fun K x x s f (PySem.W.fnOf x x (vJ s) (uJ s) (zM s) .none kV dc pm an cd ct):=zTa (st:=s) (by rw [zSl]; exact q.2.1) (by rw [zSl]; exact q.2.2.1) (by rw [zSl]; exact q.2.2.2)
theorem yC (P:Program) (w:World) (base:Heap) (X:PySem.W.Frag.In (KK Pm) h) (G:h.Ns mainGlobals mg) (q:AtK Pm x s f oc od sl kV dc pm an cd ct) {ps:List Str} {n:Nat} {sp:Sp} (o:wL P w K mg base CX0 n f (PySem.W.fnOf x x (vJ s) (uJ s) (zM s) .none kV dc pm an cd ct) ps sp)
  (b:∀ (kV doc pm:Value) (an:Option Addr) (cdv ct:Value) (us:List Value),us.length = ps.length->bindArgs (PySem.W.fnOf x x (vJ s) (uJ s) (zM s) .none kV doc pm an cdv ct) ⟨us,[]⟩ = pure (ps.zip us)):Has P w K mg base x n ps sp :=
 ⟨_,_,o,(yL q).binds b,(yL q).kp,PySem.W.mg_of X G q.1⟩
theorem K_in {Pm:Params} {h:Heap} (X:PySem.W.Frag.In (KK Pm) h):PySem.W.Frag.In K h:=by
 rw [zSl];exact zSa (by kernel_rfl) X
end
theorem us1 {R:List Value->Prop} (h:∀ a,R [a]):∀ us:List Value,us.length = 1->R us
 | [a],_=>h a
theorem us2 {R:List Value->Prop} (h:∀ a b,R [a,b]):∀ us:List Value,us.length = 2->R us
 | [a,b],_=>h a b
theorem us3 {R:List Value->Prop} (h:∀ a b c,R [a,b,c]):∀ us:List Value,us.length = 3->R us
 | [a,b,c],_=>h a b c
theorem us4 {R:List Value->Prop} (h:∀ a b c d,R [a,b,c,d]):∀ us:List Value,us.length = 4->R us
 | [a,b,c,d],_=>h a b c d
theorem zTi {x:Str} {s:Stmt} {kV dc pm cd ct:Value} {an:Option Addr} {c:Addr} (t:cd = .ref c):(PySem.W.fnOf x x (vJ s) (uJ s) (zM s) .none kV dc pm an cd ct).code = .ref c:=by subst t; rfl
theorem all_mk {l:PySem.W.OpenLaw} {w:World} {h:Heap} {mg:Str->Option Value} {fa:Addr} (X:PySem.W.Frag.In (KK w.params) h) (G:h.Ns mainGlobals mg) (hfa:mg "law" = some (.ref fa))
  {f1 f2 f3 f4 f5 f6 f7 f8 f9 f10 f11 f12 f13 f14 f15 f16 f17 f18 f19 f20 f21 f22 f23 f24 f25 f26 f27 f28 f29 f30 f31 f32 f33 f34 f35 f36 f37 f38 f39 f40 f41 f42 f43 f44 f45 f46 f47 f48 f49 f50 f51 f52 f53:Addr}
  {oc1 kV1 dc1 pm1 cd1 ct1 oc2 kV2 dc2 pm2 cd2 ct2 oc3 kV3 dc3 pm3 cd3 ct3 oc4 kV4 dc4 pm4 cd4 ct4 oc5 kV5 dc5 pm5 cd5 ct5 oc6 kV6 dc6 pm6 cd6 ct6 oc7 kV7 dc7 pm7 cd7 ct7 oc8 kV8 dc8 pm8 cd8 ct8 oc9 kV9 dc9 pm9 cd9 ct9 oc10 kV10 dc10 pm10 cd10 ct10 oc11 kV11 dc11 pm11 cd11 ct11 oc12 kV12 dc12 pm12 cd12 ct12 oc13 kV13 dc13 pm13 cd13 ct13 oc14 kV14 dc14 pm14 cd14 ct14 oc15 kV15 dc15 pm15 cd15 ct15 oc16 kV16 dc16 pm16 cd16 ct16 oc17 kV17 dc17 pm17 cd17 ct17 oc18 kV18 dc18 pm18 cd18 ct18 oc19 kV19 dc19 pm19 cd19 ct19 oc20 kV20 dc20 pm20 cd20 ct20 oc21 kV21 dc21 pm21 cd21 ct21 oc22 kV22 dc22 pm22 cd22 ct22 oc23 kV23 dc23 pm23 cd23 ct23 oc24 kV24 dc24 pm24 cd24 ct24 oc25 kV25 dc25 pm25 cd25 ct25 oc26 kV26 dc26 pm26 cd26 ct26 oc27 kV27 dc27 pm27 cd27 ct27 oc28 kV28 dc28 pm28 cd28 ct28 oc29 kV29 dc29 pm29 cd29 ct29 oc30 kV30 dc30 pm30 cd30 ct30 oc31 kV31 dc31 pm31 cd31 ct31 oc32 kV32 dc32 pm32 cd32 ct32 oc33 kV33 dc33 pm33 cd33 ct33 oc34 kV34 dc34 pm34 cd34 ct34 oc35 kV35 dc35 pm35 cd35 ct35 oc36 kV36 dc36 pm36 cd36 ct36 oc37 kV37 dc37 pm37 cd37 ct37 oc38 kV38 dc38 pm38 cd38 ct38 oc39 kV39 dc39 pm39 cd39 ct39 oc40 kV40 dc40 pm40 cd40 ct40 oc41 kV41 dc41 pm41 cd41 ct41 oc42 kV42 dc42 pm42 cd42 ct42 oc43 kV43 dc43 pm43 cd43 ct43 oc44 kV44 dc44 pm44 cd44 ct44 oc45 kV45 dc45 pm45 cd45 ct45 oc46 kV46 dc46 pm46 cd46 ct46 oc47 kV47 dc47 pm47 cd47 ct47 oc48 kV48 dc48 pm48 cd48 ct48 oc49 kV49 dc49 pm49 cd49 ct49 oc50 kV50 dc50 pm50 cd50 ct50 oc51 kV51 dc51 pm51 cd51 ct51 oc52 kV52 dc52 pm52 cd52 ct52 oc53 kV53 dc53 pm53 cd53 ct53:Value}
  {od1 an1 od2 an2 od3 an3 od4 an4 od5 an5 od6 an6 od7 an7 od8 an8 od9 an9 od10 an10 od11 an11 od12 an12 od13 an13 od14 an14 od15 an15 od16 an16 od17 an17 od18 an18 od19 an19 od20 an20 od21 an21 od22 an22 od23 an23 od24 an24 od25 an25 od26 an26 od27 an27 od28 an28 od29 an29 od30 an30 od31 an31 od32 an32 od33 an33 od34 an34 od35 an35 od36 an36 od37 an37 od38 an38 od39 an39 od40 an40 od41 an41 od42 an42 od43 an43 od44 an44 od45 an45 od46 an46 od47 an47 od48 an48 od49 an49 od50 an50 od51 an51 od52 an52 od53 an53:Option Addr}
  {sl1 sl2 sl3 sl4 sl5 sl6 sl7 sl8 sl9 sl10 sl11 sl12 sl13 sl14 sl15 sl16 sl17 sl18 sl19 sl20 sl21 sl22 sl23 sl24 sl25 sl26 sl27 sl28 sl29 sl30 sl31 sl32 sl33 sl34 sl35 sl36 sl37 sl38 sl39 sl40 sl41 sl42 sl43 sl44 sl45 sl46 sl47 sl48 sl49 sl50 sl51 sl52 sl53:Array (Option Value)}
  (q1:AtK w.params "common_factor" xY f1 oc1 od1 sl1 kV1 dc1 pm1 an1 cd1 ct1)
  (q2:AtK w.params "lowest" qM f2 oc2 od2 sl2 kV2 dc2 pm2 an2 cd2 ct2)
  (q3:AtK w.params "upright" sY f3 oc3 od3 sl3 kV3 dc3 pm3 an3 cd3 ct3)
  (q4:AtK w.params "part" zC1 f4 oc4 od4 sl4 kV4 dc4 pm4 an4 cd4 ct4)
  (q5:AtK w.params "plus" zCl f5 oc5 od5 sl5 kV5 dc5 pm5 an5 cd5 ct5)
  (q6:AtK w.params "spot" zCv f6 oc6 od6 sl6 kV6 dc6 pm6 an6 cd6 ct6)
  (q7:AtK w.params "ahead" zAr f7 oc7 od7 sl7 kV7 dc7 pm7 an7 cd7 ct7)
  (q8:AtK w.params "merged" qO f8 oc8 od8 sl8 kV8 dc8 pm8 an8 cd8 ct8)
  (q9:AtK w.params "in_order" vE f9 oc9 od9 sl9 kV9 dc9 pm9 an9 cd9 ct9)
  (q10:AtK w.params "turn" zA9 f10 oc10 od10 sl10 kV10 dc10 pm10 an10 cd10 ct10)
  (q11:AtK w.params "along" zBd f11 oc11 od11 sl11 kV11 dc11 pm11 an11 cd11 ct11)
  (q12:AtK w.params "plain" zBn f12 oc12 od12 sl12 kV12 dc12 pm12 an12 cd12 ct12)
  (q13:AtK w.params "beyond" qP f13 oc13 od13 sl13 kV13 dc13 pm13 an13 cd13 ct13)
  (q14:AtK w.params "holds" zAs f14 oc14 od14 sl14 kV14 dc14 pm14 an14 cd14 ct14)
  (q15:AtK w.params "crossing" tR f15 oc15 od15 sl15 kV15 dc15 pm15 an15 cd15 ct15)
  (q16:AtK w.params "in_water" tV f16 oc16 od16 sl16 kV16 dc16 pm16 an16 cd16 ct16)
  (q17:AtK w.params "foot" zCz f17 oc17 od17 sl17 kV17 dc17 pm17 an17 cd17 ct17)
  (q18:AtK w.params "edge_end" tU f18 oc18 od18 sl18 kV18 dc18 pm18 an18 cd18 ct18)
  (q19:AtK w.params "edge_ends" vM f19 oc19 od19 sl19 kV19 dc19 pm19 an19 cd19 ct19)
  (q20:AtK w.params "spot_on_edge" wW f20 oc20 od20 sl20 kV20 dc20 pm20 an20 cd20 ct20)
  (q21:AtK w.params "sought" qS f21 oc21 od21 sl21 kV21 dc21 pm21 an21 cd21 ct21)
  (q22:AtK w.params "some_spot" vU f22 oc22 od22 sl22 kV22 dc22 pm22 an22 cd22 ct22)
  (q23:AtK w.params "corners" rE f23 oc23 od23 sl23 kV23 dc23 pm23 an23 cd23 ct23)
  (q24:AtK w.params "way_to" qR f24 oc24 od24 sl24 kV24 dc24 pm24 an24 cd24 ct24)
  (q25:AtK w.params "ring" zBh f25 oc25 od25 sl25 kV25 dc25 pm25 an25 cd25 ct25)
  (q26:AtK w.params "is_way" qW f26 oc26 od26 sl26 kV26 dc26 pm26 an26 cd26 ct26)
  (q27:AtK w.params "ways" zCq f27 oc27 od27 sl27 kV27 dc27 pm27 an27 cd27 ct27)
  (q28:AtK w.params "has_no_way" vA f28 oc28 od28 sl28 kV28 dc28 pm28 an28 cd28 ct28)
  (q29:AtK w.params "triangle" tQ f29 oc29 od29 sl29 kV29 dc29 pm29 an29 cd29 ct29)
  (q30:AtK w.params "area" zCw f30 oc30 od30 sl30 kV30 dc30 pm30 an30 cd30 ct30)
  (q31:AtK w.params "span" zC3 f31 oc31 od31 sl31 kV31 dc31 pm31 an31 cd31 ct31)
  (q32:AtK w.params "weighed" rH f32 oc32 od32 sl32 kV32 dc32 pm32 an32 cd32 ct32)
  (q33:AtK w.params "clash_of_three" xR f33 oc33 od33 sl33 kV33 dc33 pm33 an33 cd33 ct33)
  (q34:AtK w.params "clash" zA5 f34 oc34 od34 sl34 kV34 dc34 pm34 an34 cd34 ct34)
  (q35:AtK w.params "way_onward" vB f35 oc35 od35 sl35 kV35 dc35 pm35 an35 cd35 ct35)
  (q36:AtK w.params "far_by_one" vC f36 oc36 od36 sl36 kV36 dc36 pm36 an36 cd36 ct36)
  (q37:AtK w.params "weights_of_two" xS f37 oc37 od37 sl37 kV37 dc37 pm37 an37 cd37 ct37)
  (q38:AtK w.params "far_by_two" uW f38 oc38 od38 sl38 kV38 dc38 pm38 an38 cd38 ct38)
  (q39:AtK w.params "reach" zBb f39 oc39 od39 sl39 kV39 dc39 pm39 an39 cd39 ct39)
  (q40:AtK w.params "doubted" rC f40 oc40 od40 sl40 kV40 dc40 pm40 an40 cd40 ct40)
  (q41:AtK w.params "places_to_try" xX f41 oc41 od41 sl41 kV41 dc41 pm41 an41 cd41 ct41)
  (q42:AtK w.params "least_doubts" wV f42 oc42 od42 sl42 kV42 dc42 pm42 an42 cd42 ct42)
  (q43:AtK w.params "choices" rG f43 oc43 od43 sl43 kV43 dc43 pm43 an43 cd43 ct43)
  (q44:AtK w.params "_law_power" zBc f44 oc44 od44 sl44 kV44 dc44 pm44 an44 cd44 ct44)
  (q45:AtK w.params "_law_draws" zA6 f45 oc45 od45 sl45 kV45 dc45 pm45 an45 cd45 ct45)
  (q46:AtK w.params "_law_tight" zA1 f46 oc46 od46 sl46 kV46 dc46 pm46 an46 cd46 ct46)
  (q47:AtK w.params "_law_way" zF5 f47 oc47 od47 sl47 kV47 dc47 pm47 an47 cd47 ct47)
  (q48:AtK w.params "_law_side" zCr f48 oc48 od48 sl48 kV48 dc48 pm48 an48 cd48 ct48)
  (q49:AtK w.params "_law_sides" zAq f49 oc49 od49 sl49 kV49 dc49 pm49 an49 cd49 ct49)
  (q50:AtK w.params "_law_many" zCm f50 oc50 od50 sl50 kV50 dc50 pm50 an50 cd50 ct50)
  (q51:AtK w.params "_law_has" zFr f51 oc51 od51 sl51 kV51 dc51 pm51 an51 cd51 ct51)
  (q52:AtK w.params "_law_smaller" rB f52 oc52 od52 sl52 kV52 dc52 pm52 an52 cd52 ct52)
  (q53:AtK w.params "law" zI2 f53 oc53 od53 sl53 kV53 dc53 pm53 an53 cd53 ct53)
  (z_abs:PySem.W.nsIn (KK w.params) mainGlobals "abs" = some none)
  (z_all:PySem.W.nsIn (KK w.params) mainGlobals "all" = some none)
  (z_enumerate:PySem.W.nsIn (KK w.params) mainGlobals "enumerate" = some none)
  (z_len:PySem.W.nsIn (KK w.params) mainGlobals "len" = some none)
  (z_list:PySem.W.nsIn (KK w.params) mainGlobals "list" = some none)
  (z_min:PySem.W.nsIn (KK w.params) mainGlobals "min" = some none)
  (z_range:PySem.W.nsIn (KK w.params) mainGlobals "range" = some none)
  (z_sorted:PySem.W.nsIn (KK w.params) mainGlobals "sorted" = some none)
  (z_tuple:PySem.W.nsIn (KK w.params) mainGlobals "tuple" = some none)
  (tt:cd25 = .ref zIv) :
  ∃ fd:FuncData,(∀ (s:Shared) (v:Value),BindsTo s fd ⟨[v],[]⟩ [("_law_script", v)])/\∀ base:Heap,PySem.W.Frag.In K base->base.Ns mainGlobals mg->zIf base mg zIv zKj->wL l.prog w K mg base CX0 19 fa fd ["_law_script"] (sp_law K):=by
 have e:=hfa.symm.trans (PySem.W.mg_of X G q53.1);cases e;have Z:Zs mg:=⟨PySem.W.mg_none_of X G z_abs,PySem.W.mg_none_of X G z_all,PySem.W.mg_none_of X G z_enumerate,PySem.W.mg_none_of X G z_len,PySem.W.mg_none_of X G z_list,PySem.W.mg_none_of X G z_min,PySem.W.mg_none_of X G z_range,PySem.W.mg_none_of X G z_sorted,PySem.W.mg_none_of X G z_tuple⟩;refine ⟨PySem.W.fnOf "law" "law" (vJ zI2) (uJ zI2) (zM zI2) .none kV53 dc53 pm53 an53 cd53 ct53,λs v=>.of_eq rfl,λbase _ _ NB=>?_⟩;have yAc:=yC l.prog w base X G q1 (zBe (yL q1) Z ) (λ_ _ _ _ _ _=>us1 λ_=>rfl);have yAz:=yC l.prog w base X G q2 (zIj (yL q2) Z yAc) (λ_ _ _ _ _ _=>us1 λ_=>rfl);have yAu:=yC l.prog w base X G q3 (zHp (yL q3) Z yAz) (λ_ _ _ _ _ _=>us1 λ_=>rfl);have yBx:=yC l.prog w base X G q4 (zNc (yL q4) Z yAu) (λ_ _ _ _ _ _=>us2 λ_ _=>rfl);have yBq:=yC l.prog w base X G q5 (zN3 (yL q5) Z yBx) (λ_ _ _ _ _ _=>us2 λ_ _=>rfl);have yBw:=yC l.prog w base X G q6 (zOa (yL q6) Z yAu) (λ_ _ _ _ _ _=>us3 λ_ _ _=>rfl);have yBj:=yC l.prog w base X G q7 (zKo (yL q7) Z ) (λ_ _ _ _ _ _=>us2 λ_ _=>rfl);have yBa:=yC l.prog w base X G q8 (zIn (yL q8) Z yBj) (λ_ _ _ _ _ _=>us2 λ_ _=>rfl);have yAn:=yC l.prog w base X G q9 (zGc (yL q9) Z yBa ((yL q9).binds (ps:=["spots"]) λ_ _ _ _ _ _=>us1 λ_=>rfl) (yL q9).kp (PySem.W.mg_of X G q9.1)) (λ_ _ _ _ _ _=>us1 λ_=>rfl);have yAx:=yC l.prog w base X G q10 (zIz (yL q10) Z ) (λ_ _ _ _ _ _=>us2 λ_ _=>rfl);have yBp:=yC l.prog w base X G q10 (zMx (yL q10) Z ) (λ_ _ _ _ _ _=>us2 λ_ _=>rfl);have yBg:=yC l.prog w base X G q11 (zK1 (yL q11) Z ) (λ_ _ _ _ _ _=>us2 λ_ _=>rfl);have yBh:=yC l.prog w base X G q12 (zKu (yL q12) Z yAz) (λ_ _ _ _ _ _=>us1 λ_=>rfl);have yAy:=yC l.prog w base X G q13 (zIg (yL q13) Z ) (λ_ _ _ _ _ _=>us2 λ_ _=>rfl);have yBl:=yC l.prog w base X G q14 (zKe (yL q14) Z yAy) (λ_ _ _ _ _ _=>us2 λ_ _=>rfl);have yAq:=yC l.prog w base X G q15 (zFi (yL q15) Z yAu yBp) (λ_ _ _ _ _ _=>us2 λ_ _=>rfl);have yAm:=yC l.prog w base X G q16 (zFn (yL q16) Z yBl) (λ_ _ _ _ _ _=>us2 λ_ _=>rfl);have yBu:=yC l.prog w base X G q17 (zLk (yL q17) Z yBw yBg) (λ_ _ _ _ _ _=>us1 λ_=>rfl);have yAp:=yC l.prog w base X G q18 (zFs (yL q18) Z yBp yBl yAq) (λ_ _ _ _ _ _=>us3 λ_ _ _=>rfl);have yAl:=yC l.prog w base X G q19 (zEo (yL q19) Z yAq yAp) (λ_ _ _ _ _ _=>us2 λ_ _=>rfl);have yAf:=yC l.prog w base X G q20 (zBu (yL q20) Z yAl yBu yAm) (λ_ _ _ _ _ _=>us2 λ_ _=>rfl);have yBd:=yC l.prog w base X G q21 (zH6 (yL q21) Z yBl yAf yBw) (λ_ _ _ _ _ _=>us1 λ_=>rfl);have yAk:=yC l.prog w base X G q22 (zEq (yL q22) Z yBd) (λ_ _ _ _ _ _=>us1 λ_=>rfl)
 have yAw:=yC l.prog w base X G q23 (zGt (yL q23) Z yAn yAl yAm) (λ_ _ _ _ _ _=>us1 λ_=>rfl);have yBc:=yC l.prog w base X G q24 (zIi (yL q24) Z ) (λ_ _ _ _ _ _=>us2 λ_ _=>rfl);have yBo:=yC l.prog w base X G q25 (zNm (yL q25) Z yAw yBp yBc yAx (zTi tt) NB) (λ_ _ _ _ _ _=>us1 λ_=>rfl);have yBb:=yC l.prog w base X G q26 (zI3 (yL q26) Z yBg) (λ_ _ _ _ _ _=>us2 λ_ _=>rfl);have yBs:=yC l.prog w base X G q27 (zLu (yL q27) Z yBb yBh) (λ_ _ _ _ _ _=>us1 λ_=>rfl);have yAg:=yC l.prog w base X G q28 (zC5 (yL q28) Z yBs) (λ_ _ _ _ _ _=>us1 λ_=>rfl);have yAo:=yC l.prog w base X G q29 (zGa (yL q29) Z yBx yBp yBc yAx) (λ_ _ _ _ _ _=>us3 λ_ _ _=>rfl);have yBt:=yC l.prog w base X G q30 (zNb (yL q30) Z yBq yAo yBx yBo yAg yAk) (λ_ _ _ _ _ _=>us1 λ_=>rfl);have yBv:=yC l.prog w base X G q31 (zMv (yL q31) Z ) (λ_ _ _ _ _ _=>us1 λ_=>rfl);have yAt:=yC l.prog w base X G q32 (zHg (yL q32) Z yAz) (λ_ _ _ _ _ _=>us2 λ_ _=>rfl);have yAa:=yC l.prog w base X G q33 (zAe (yL q33) Z yAt yBp yAp) (λ_ _ _ _ _ _=>us2 λ_ _=>rfl);have yBm:=yC l.prog w base X G q34 (zK5 (yL q34) Z yAa yBp yBl yBu yAt yBv yBd) (λ_ _ _ _ _ _=>us1 λ_=>rfl);have yAj:=yC l.prog w base X G q35 (zDq (yL q35) Z yBs yBh yBg yBb) (λ_ _ _ _ _ _=>us2 λ_ _=>rfl);have yAi:=yC l.prog w base X G q36 (zDk (yL q36) Z yBp yBg yBx yBv yAf) (λ_ _ _ _ _ _=>us2 λ_ _=>rfl);have yAb:=yC l.prog w base X G q37 (zAl (yL q37) Z yBx yBp) (λ_ _ _ _ _ _=>us3 λ_ _ _=>rfl);have yAh:=yC l.prog w base X G q38 (zDo (yL q38) Z yBp yAm yAb yAq yAp) (λ_ _ _ _ _ _=>us2 λ_ _=>rfl);have yBn:=yC l.prog w base X G q39 (zKd (yL q39) Z yAi yAh yAj yBm) (λ_ _ _ _ _ _=>us2 λ_ _=>rfl);have yAv:=yC l.prog w base X G q40 (zGj (yL q40) Z yAm) (λ_ _ _ _ _ _=>us2 λ_ _=>rfl);have yAd:=yC l.prog w base X G q41 (zBm (yL q41) Z yAq yBu yBw) (λ_ _ _ _ _ _=>us1 λ_=>rfl);have yAe:=yC l.prog w base X G q42 (zBy (yL q42) Z yAd yAv) (λ_ _ _ _ _ _=>us1 λ_=>rfl);have yAs:=yC l.prog w base X G q43 (zGw (yL q43) Z yAe) (λ_ _ _ _ _ _=>us1 λ_=>rfl);have yBe:=yC l.prog w base X G q44 (zKn (yL q44) Z ) (λ_ _ _ _ _ _=>us1 λ_=>rfl);have yBi:=yC l.prog w base X G q45 (zKy (yL q45) Z yBe) (λ_ _ _ _ _ _=>us2 λ_ _=>rfl);have yBf:=yC l.prog w base X G q46 (zKm (yL q46) Z ) (λ_ _ _ _ _ _=>us2 λ_ _=>rfl)
 have yBz:=yC l.prog w base X G q47 (zOq (yL q47) Z ) (λ_ _ _ _ _ _=>us3 λ_ _ _=>rfl);have yBr:=yC l.prog w base X G q48 (zL0 (yL q48) Z yBz) (λ_ _ _ _ _ _=>us1 λ_=>rfl);have yBk:=yC l.prog w base X G q49 (zKx (yL q49) Z yBr) (λ_ _ _ _ _ _=>us2 λ_ _=>rfl);have yBy:=yC l.prog w base X G q50 (zNl (yL q50) Z ) (λ_ _ _ _ _ _=>us4 λ_ _ _ _=>rfl);have yCa:=yC l.prog w base X G q51 (zPw (yL q51) Z ) (λ_ _ _ _ _ _=>us2 λ_ _=>rfl);have yAr:=yC l.prog w base X G q52 (zGv (yL q52) Z ) (λ_ _ _ _ _ _=>us2 λ_ _=>rfl);exact zSz (yL q53) Z yAs yBn yBz yAk yAr yBt yAw yCa yBr yBf yBk yBy yBi
theorem walk {l:PySem.W.OpenLaw} {q:Program} {loose:List Str} {XP:(Str->Option Value)->Heap->Prop} {YP:World->Heap->Prop} {d:DefRec} (hn:l.most = some 63) (hdf:d.params.defaults = [])
  (hY:∀ (w:World) (h:Heap),YP w h->PySem.W.Frag.In (KK w.params) h) (hfind:((PyProof.Rows.recsOf q).find? (λe:DefRec=>e.name == ("ring" : Str))).isSome = true) (ht:∀ p:Params,PySem.W.tabIn (KK p) "ring" = some (zIv,zKj)) (hKT:List.lookup zKj KC = none)
  (F:∀ (w:World) (mg:Str->Option Value) (fa:Addr) (h:Heap),PySem.W.Frag.In (KK w.params) h->h.Ns mainGlobals mg->mg d.name = some (.ref fa) ->
   ∃ fd:FuncData,(∀ (s:Shared) (u:Value),BindsTo s fd ⟨[u],[]⟩ [("_law_script", u)])/\∀ base:Heap,PySem.W.Frag.In K base->base.Ns mainGlobals mg->zIf base mg zIv zKj->wL l.prog w K mg base CX0 19 fa fd ["_law_script"] (sp_law K)) :
  PySem.W.WalkO q loose XP YP l.row.toRowW d [] (λf vs=>PySem.call f vs) :=
 L2.walk_ofT2 (n:=63) (k:=19) (x := "_law_script") (y := "ring") (KK:=KK) (K:=K) (sp:=sp_law K) hn (by decide) hdf ⟨rfl,by decide,by decide⟩ hY (λ_ _ X=>K_in X) hfind ht (by rw [zSl]; exact hKT) F (λH a ns hl hT hS=>⟨a,ns,rfl,hS,hl,hT,λ_=>rfl⟩)

end Sea
open PySem PySem.W PyProof.Rows
set_option maxRecDepth 100000 in
set_option maxHeartbeats 0 in
theorem PySem.Challenge.cw_seamarks_k33_whole_one_side_more_holds : PySem.Challenge.rw_seamarks_k33_whole_one_side_more.Holds := by
 w_on
 refine holds_law Sea.said_ok λsaid=>?_;refine holds_open (q:=Sea.qv) (loose:=[]) (XP:=XL Sea.qv []) (YP:=InK Sea.KK) Sea.left_ok (InK.of Sea.kas_ok)
  InK.keeps (λs e=>xl_of s (Bool.and_eq_true_iff.mp e).1) XL.keeps (by rfl) (by rfl) (by rfl)
  (λs e=>recFacts_of (Bool.and_eq_true_iff.mp e).2) (by rfl) (by assumption) (by decide +kernel)
  ⟨rfl,rfl,rfl,rfl,rfl,by decide +kernel⟩ ?hw ?hc
 case hw=>w_witness2
 k_fill
 refine Sea.walk (l:=PySem.Challenge.rw_seamarks_k33_whole_one_side_more) rfl rfl (λw h Y=>Y) (by kernel_rfl) (λ_=>by kernel_rfl) (by kernel_rfl) ?F
 case F =>
  intro w mg fa h KX G hmg
  refine' Sea.all_mk KX G hmg ?q1 ?q2 ?q3 ?q4 ?q5 ?q6 ?q7 ?q8 ?q9 ?q10 ?q11 ?q12 ?q13 ?q14 ?q15 ?q16 ?q17 ?q18 ?q19 ?q20 ?q21 ?q22 ?q23 ?q24 ?q25 ?q26 ?q27 ?q28 ?q29 ?q30 ?q31 ?q32 ?q33 ?q34 ?q35 ?q36 ?q37 ?q38 ?q39 ?q40 ?q41 ?q42 ?q43 ?q44 ?q45 ?q46 ?q47 ?q48 ?q49 ?q50 ?q51 ?q52 ?q53 ?z_abs ?z_all ?z_enumerate ?z_len ?z_list ?z_min ?z_range ?z_sorted ?z_tuple ?tt
  (case q1 | q2 | q3 | q4 | q5 | q6 | q7 | q8 | q9 | q10 | q11 | q12 | q13 | q14 | q15 | q16 | q17 | q18 | q19 | q20 | q21 | q22 | q23 | q24 | q25 | q26 | q27 | q28 | q29 | q30 | q31 | q32 | q33 | q34 | q35 | q36 | q37 | q38 | q39 | q40 | q41 | q42 | q43 | q44 | q45 | q46 | q47 | q48 | q49 | q50 | q51 | q52 | q53=>refine' ⟨?_,?_,?_,?_⟩; k_is; exact rfl; kernel_rfl; kernel_rfl)
  (case z_abs | z_all | z_enumerate | z_len | z_list | z_min | z_range | z_sorted | z_tuple=>k_is)
  (case tt=>kernel_rfl)
