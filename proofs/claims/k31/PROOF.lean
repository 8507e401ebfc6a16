import PyProof.Rows.All
import Wide.All
import OpenK.AllK
import Wide.FinOn
import Lean
import PyProof.EqAt
import PyProof.EqKinds
import PyProof.TupleCall
import PyProof.ZipIter
import PyProof.Rows.ZipGen
import PyProof.EnumFor
import PyProof.EnumStmt
import KE.KSortTup
import KE.KDictList
import KE.KNest
import KE.KSortKey
import PySem.Challenge.RW_seamarks_k31_whole_turned_and_mirrored
set_option Elab.async false
set_option linter.all false
set_option maxRecDepth 100000
set_option maxHeartbeats 4000000
namespace L2
open PySem
def zC1 (s:Stmt):Arguments:=match s with
 | .FunctionDef _ a _ _ _ _ _ _ _ _=>a
 | _=>{ posonlyargs:=[],args:=[],vararg:=none,kwonlyargs:=[],kw_defaults:=[],kwarg:=none,defaults:=[] }
def zCe (s:Stmt):List Stmt:=match s with
 | .FunctionDef _ _ b _ _ _ _ _ _ _=>b
 | _=>[]
def zAl (s:Stmt):Scope:=match s with
 | .FunctionDef _ _ _ _ _ _ sc _ _ _=>sc
 | _=>{ kind:=.function,names:=[],isGenerator:=false,isCoroutine:=false }
end L2
namespace Sea
open PySem L2
def top (i:Nat):Stmt:=PySem.Challenge.pw_seamarks_k31_whole_turned_and_mirrored.main.body.getD i (.Pass ⟨0,0,0,0⟩)
abbrev zBu:Stmt:=top 1
abbrev zFd:Stmt:=top 2
abbrev zEc:Stmt:=top 3
abbrev zHq:Stmt:=top 4
abbrev zHo:Stmt:=top 5
abbrev zHf:Stmt:=top 6
abbrev zGb:Stmt:=top 7
abbrev zFj:Stmt:=top 8
abbrev zCv:Stmt:=top 9
abbrev zGp:Stmt:=top 11
abbrev zGt:Stmt:=top 12
abbrev zGl:Stmt:=top 13
abbrev zFo:Stmt:=top 14
abbrev zF3:Stmt:=top 15
abbrev zDu:Stmt:=top 16
abbrev zDs:Stmt:=top 18
abbrev zHi:Stmt:=top 19
abbrev zDw:Stmt:=top 20
abbrev zC7:Stmt:=top 21
abbrev zB3:Stmt:=top 22
abbrev zFk:Stmt:=top 23
abbrev zC3:Stmt:=top 24
abbrev zEj:Stmt:=top 25
abbrev zFm:Stmt:=top 26
abbrev zGm:Stmt:=top 27
abbrev zFh:Stmt:=top 28
abbrev zHp:Stmt:=top 29
abbrev zCt:Stmt:=top 30
abbrev zFe:Stmt:=top 31
abbrev zDr:Stmt:=top 32
abbrev zHg:Stmt:=top 33
abbrev zHh:Stmt:=top 35
abbrev zEl:Stmt:=top 36
abbrev zBn:Stmt:=top 37
abbrev zF8:Stmt:=top 38
abbrev zCu:Stmt:=top 39
abbrev zCr:Stmt:=top 40
abbrev zBo:Stmt:=top 41
abbrev zCs:Stmt:=top 42
abbrev zGh:Stmt:=top 43
abbrev zJ7:Stmt:=top 45
abbrev zF6:Stmt:=top 46
abbrev zGg:Stmt:=top 47
abbrev zGi:Stmt:=top 48
abbrev zJ9:Stmt:=top 49
abbrev zHs:Stmt:=top 50
abbrev zGq:Stmt:=top 51
abbrev zHl:Stmt:=top 52
abbrev zGs:Stmt:=top 53
abbrev zEo:Stmt:=top 54
abbrev zMg:Stmt:=top 55
noncomputable def qv:Program:={ PySem.Challenge.pw_seamarks_k31_whole_turned_and_mirrored with main:={ PySem.Challenge.pw_seamarks_k31_whole_turned_and_mirrored.main with body:=[top 1,top 2,top 3,top 4,top 5,top 6,top 7,top 8,top 9,top 11,top 12,top 13,top 14,top 15,top 16,top 18,top 19,top 20,top 21,top 22,top 23,top 24,top 25,top 26,top 27,top 28,top 29,top 30,top 31,top 32,top 33,top 35,top 36,top 37,top 38,top 39,top 40,top 41,top 42,top 43,top 45,top 46,top 47,top 48,top 49,top 50,top 51,top 52,top 53,top 54,top 55] } }
noncomputable def kd (P:Params) (x:Str) (t:Nat) (v:Value):DictEntry:=⟨PyData.keyHash P x,.str x t,v⟩
noncomputable def kc (l:List Value):Obj:=⟨.type "code", none,.fields (List.toArray l),List.toArray []⟩
noncomputable abbrev kf (x:Str) (s:Stmt) (kV doc pm cd ct:Value):Obj:=⟨.type "function", none,.func (PySem.W.fnOf x x (zC1 s) (zCe s) (zAl s) .none kV doc pm none cd ct),List.toArray []⟩
noncomputable def KK (P:Params):PySem.W.Frag :=
 (nat_lit 3,⟨.type "dict", none,.dict (List.toArray (kd P "__name__" 165 (.str "law_seamarks_k31_whole_turned_and_mirrored" 553) :: kd P "__doc__" 166 .none :: kd P "__package__" 167 .none :: kd P "__loader__" 168 (.builtin "__main__.__loader__#opaque") :: kd P "__spec__" 169 .none :: kd P "__annotations__" 170 (.ref 6) :: kd P "__builtins__" 171 (.ref 4) :: kd P "__file__" 173 (.str "/claim/cut.py" 172) :: kd P "__cached__" 174 .none :: kd P "common_factor" 199 (.ref 21) :: kd P "lowest" 205 (.ref 26) :: kd P "upright" 211 (.ref 31) :: kd P "part" 219 (.ref 38) :: kd P "plus" 227 (.ref 45) :: kd P "spot" 236 (.ref 52) :: kd P "ahead" 245 (.ref 59) :: kd P "merged" 256 (.ref 66) :: kd P "in_order" 264 (.ref 73) :: kd P "turn" 274 (.ref 80) :: kd P "along" 282 (.ref 87) :: kd P "plain" 289 (.ref 94) :: kd P "beyond" 297 (.ref 101) :: kd P "holds" 305 (.ref 108) :: kd P "crossing" 316 (.ref 115) :: kd P "in_water" 327 (.ref 122) :: kd P "foot" 334 (.ref 129) :: kd P "edge_end" 347 (.ref 136) :: kd P "edge_ends" 353 (.ref 141) :: kd P "spot_on_edge" 362 (.ref 148) :: kd P "sought" 371 (.ref 155) :: kd P "some_spot" 378 (.ref 162) :: kd P "corners" 388 (.ref 169) :: kd P "way_to" 396 (.ref 176) :: kd P "ring" 405 (.ref 183) :: kd P "is_way" 414 (.ref 190) :: kd P "ways" 424 (.ref 197) :: kd P "has_no_way" 431 (.ref 204) :: kd P "closed" 438 (.ref 211) :: kd P "triangle" 448 (.ref 218) :: kd P "area" 458 (.ref 225) :: kd P "span" 467 (.ref 232) :: kd P "weighed" 473 (.ref 237) :: kd P "clash_of_three" 486 (.ref 244) :: kd P "clash" 497 (.ref 251) :: kd P "way_onward" 506 (.ref 258) :: kd P "far_by_one" 517 (.ref 265) :: kd P "weights_of_two" 530 (.ref 272) :: kd P "far_by_two" 542 (.ref 279) :: kd P "reach" 552 (.ref 286) :: kd P "_law_low" 562 (.ref 293) :: kd P "_law_power" 569 (.ref 300) :: kd P "_law_draws" 581 (.ref 307) :: kd P "_law_tight" 587 (.ref 312) :: kd P "_law_way" 598 (.ref 319) :: kd P "_law_side" 608 (.ref 326) :: kd P "_law_sides" 614 (.ref 331) :: kd P "_law_many" 624 (.ref 338) :: kd P "_law_moved" 632 (.ref 345) :: kd P "_law_how_far" 646 (.ref 352) :: kd P "law" 652 (.ref 357) :: [])) 60,List.toArray []⟩) ::
 (nat_lit 20,kc ((.str "common_factor" 189) :: ((.str "common_factor" 190) :: ((.str "/claim/cut.py" 191) :: ((.int 2 0) :: ((.int 1 0) :: ((.int 0 0) :: ((.int 0 0) :: ((.int 3 0) :: ((.ref 15) :: ((.bool true) :: ((.int 181 0) :: ((.ref 16) :: (.none :: ((.ref 17) :: ((.ref 18) :: ((.ref 19) :: ((.int 197 0) :: ((.int 2 0) :: ((.str "/claim/cut.py" 198) :: [])))))))))))))))))))) ::
 (nat_lit 21,kf "common_factor" zBu .none .none (.str "seamarks.parts" 187) (.ref 20) .none) ::
 (nat_lit 25,kc ((.str "lowest" 200) :: ((.str "lowest" 201) :: ((.str "/claim/cut.py" 202) :: ((.int 11 0) :: ((.int 1 0) :: ((.int 0 0) :: ((.int 0 0) :: ((.int 3 0) :: ((.ref 22) :: ((.bool true) :: ((.int 181 0) :: ((.ref 23) :: (.none :: (.none :: (.none :: ((.ref 24) :: ((.int 203 0) :: ((.int 11 0) :: ((.str "/claim/cut.py" 204) :: [])))))))))))))))))))) ::
 (nat_lit 26,kf "lowest" zFd .none .none (.str "seamarks.parts" 187) (.ref 25) .none) ::
 (nat_lit 30,kc ((.str "upright" 206) :: ((.str "upright" 207) :: ((.str "/claim/cut.py" 208) :: ((.int 14 0) :: ((.int 1 0) :: ((.int 0 0) :: ((.int 0 0) :: ((.int 3 0) :: ((.ref 27) :: ((.bool true) :: ((.int 181 0) :: ((.ref 28) :: (.none :: (.none :: (.none :: ((.ref 29) :: ((.int 209 0) :: ((.int 14 0) :: ((.str "/claim/cut.py" 210) :: [])))))))))))))))))))) ::
 (nat_lit 31,kf "upright" zEc .none .none (.str "seamarks.parts" 187) (.ref 30) .none) ::
 (nat_lit 37,kc ((.str "part" 212) :: ((.str "part" 213) :: ((.str "/claim/cut.py" 214) :: ((.int 18 0) :: ((.int 2 0) :: ((.int 0 0) :: ((.int 0 0) :: ((.int 3 0) :: ((.ref 32) :: ((.bool true) :: ((.int 181 0) :: ((.ref 33) :: (.none :: ((.ref 34) :: ((.ref 35) :: ((.ref 36) :: ((.int 217 0) :: ((.int 18 0) :: ((.str "/claim/cut.py" 218) :: [])))))))))))))))))))) ::
 (nat_lit 38,kf "part" zHq .none .none (.str "seamarks.parts" 187) (.ref 37) .none) ::
 (nat_lit 44,kc ((.str "plus" 220) :: ((.str "plus" 221) :: ((.str "/claim/cut.py" 222) :: ((.int 20 0) :: ((.int 2 0) :: ((.int 0 0) :: ((.int 0 0) :: ((.int 3 0) :: ((.ref 39) :: ((.bool true) :: ((.int 181 0) :: ((.ref 40) :: (.none :: ((.ref 41) :: ((.ref 42) :: ((.ref 43) :: ((.int 225 0) :: ((.int 20 0) :: ((.str "/claim/cut.py" 226) :: [])))))))))))))))))))) ::
 (nat_lit 45,kf "plus" zHo .none .none (.str "seamarks.parts" 187) (.ref 44) .none) ::
 (nat_lit 51,kc ((.str "spot" 228) :: ((.str "spot" 229) :: ((.str "/claim/cut.py" 230) :: ((.int 22 0) :: ((.int 3 0) :: ((.int 0 0) :: ((.int 0 0) :: ((.int 3 0) :: ((.ref 46) :: ((.bool true) :: ((.int 181 0) :: ((.ref 47) :: (.none :: ((.ref 48) :: ((.ref 49) :: ((.ref 50) :: ((.int 234 0) :: ((.int 22 0) :: ((.str "/claim/cut.py" 235) :: [])))))))))))))))))))) ::
 (nat_lit 52,kf "spot" zHf .none .none (.str "seamarks.parts" 187) (.ref 51) .none) ::
 (nat_lit 58,kc ((.str "ahead" 237) :: ((.str "ahead" 238) :: ((.str "/claim/cut.py" 239) :: ((.int 24 0) :: ((.int 2 0) :: ((.int 0 0) :: ((.int 0 0) :: ((.int 3 0) :: ((.ref 53) :: ((.bool true) :: ((.int 181 0) :: ((.ref 54) :: (.none :: ((.ref 55) :: ((.ref 56) :: ((.ref 57) :: ((.int 243 0) :: ((.int 24 0) :: ((.str "/claim/cut.py" 244) :: [])))))))))))))))))))) ::
 (nat_lit 59,kf "ahead" zGb .none .none (.str "seamarks.parts" 187) (.ref 58) .none) ::
 (nat_lit 65,kc ((.str "merged" 246) :: ((.str "merged" 247) :: ((.str "/claim/cut.py" 248) :: ((.int 29 0) :: ((.int 2 0) :: ((.int 0 0) :: ((.int 0 0) :: ((.int 3 0) :: ((.ref 60) :: ((.bool true) :: ((.int 181 0) :: ((.ref 61) :: (.none :: ((.ref 62) :: ((.ref 63) :: ((.ref 64) :: ((.int 254 0) :: ((.int 29 0) :: ((.str "/claim/cut.py" 255) :: [])))))))))))))))))))) ::
 (nat_lit 66,kf "merged" zFj .none .none (.str "seamarks.parts" 187) (.ref 65) .none) ::
 (nat_lit 72,kc ((.str "in_order" 257) :: ((.str "in_order" 258) :: ((.str "/claim/cut.py" 259) :: ((.int 38 0) :: ((.int 1 0) :: ((.int 0 0) :: ((.int 0 0) :: ((.int 3 0) :: ((.ref 67) :: ((.bool true) :: ((.int 181 0) :: ((.ref 68) :: (.none :: ((.ref 69) :: ((.ref 70) :: ((.ref 71) :: ((.int 262 0) :: ((.int 38 0) :: ((.str "/claim/cut.py" 263) :: [])))))))))))))))))))) ::
 (nat_lit 73,kf "in_order" zCv .none .none (.str "seamarks.parts" 187) (.ref 72) .none) ::
 (nat_lit 79,kc ((.str "turn" 267) :: ((.str "turn" 268) :: ((.str "/claim/cut.py" 269) :: ((.int 44 0) :: ((.int 2 0) :: ((.int 0 0) :: ((.int 0 0) :: ((.int 3 0) :: ((.ref 74) :: ((.bool true) :: ((.int 181 0) :: ((.ref 75) :: (.none :: ((.ref 76) :: ((.ref 77) :: ((.ref 78) :: ((.int 272 0) :: ((.int 44 0) :: ((.str "/claim/cut.py" 273) :: [])))))))))))))))))))) ::
 (nat_lit 80,kf "turn" zGp .none .none (.str "seamarks.sides" 265) (.ref 79) .none) ::
 (nat_lit 86,kc ((.str "along" 275) :: ((.str "along" 276) :: ((.str "/claim/cut.py" 277) :: ((.int 46 0) :: ((.int 2 0) :: ((.int 0 0) :: ((.int 0 0) :: ((.int 3 0) :: ((.ref 81) :: ((.bool true) :: ((.int 181 0) :: ((.ref 82) :: (.none :: ((.ref 83) :: ((.ref 84) :: ((.ref 85) :: ((.int 280 0) :: ((.int 46 0) :: ((.str "/claim/cut.py" 281) :: [])))))))))))))))))))) ::
 (nat_lit 87,kf "along" zGt .none .none (.str "seamarks.sides" 265) (.ref 86) .none) ::
 (nat_lit 93,kc ((.str "plain" 283) :: ((.str "plain" 284) :: ((.str "/claim/cut.py" 285) :: ((.int 48 0) :: ((.int 1 0) :: ((.int 0 0) :: ((.int 0 0) :: ((.int 3 0) :: ((.ref 88) :: ((.bool true) :: ((.int 181 0) :: ((.ref 89) :: (.none :: ((.ref 90) :: ((.ref 91) :: ((.ref 92) :: ((.int 287 0) :: ((.int 48 0) :: ((.str "/claim/cut.py" 288) :: [])))))))))))))))))))) ::
 (nat_lit 94,kf "plain" zGl .none .none (.str "seamarks.sides" 265) (.ref 93) .none) ::
 (nat_lit 100,kc ((.str "beyond" 290) :: ((.str "beyond" 291) :: ((.str "/claim/cut.py" 292) :: ((.int 50 0) :: ((.int 2 0) :: ((.int 0 0) :: ((.int 0 0) :: ((.int 3 0) :: ((.ref 95) :: ((.bool true) :: ((.int 181 0) :: ((.ref 96) :: (.none :: ((.ref 97) :: ((.ref 98) :: ((.ref 99) :: ((.int 295 0) :: ((.int 50 0) :: ((.str "/claim/cut.py" 296) :: [])))))))))))))))))))) ::
 (nat_lit 101,kf "beyond" zFo .none .none (.str "seamarks.sides" 265) (.ref 100) .none) ::
 (nat_lit 107,kc ((.str "holds" 298) :: ((.str "holds" 299) :: ((.str "/claim/cut.py" 300) :: ((.int 52 0) :: ((.int 2 0) :: ((.int 0 0) :: ((.int 0 0) :: ((.int 3 0) :: ((.ref 102) :: ((.bool true) :: ((.int 181 0) :: ((.ref 103) :: (.none :: ((.ref 104) :: ((.ref 105) :: ((.ref 106) :: ((.int 303 0) :: ((.int 52 0) :: ((.str "/claim/cut.py" 304) :: [])))))))))))))))))))) ::
 (nat_lit 108,kf "holds" zF3 .none .none (.str "seamarks.sides" 265) (.ref 107) .none) ::
 (nat_lit 114,kc ((.str "crossing" 306) :: ((.str "crossing" 307) :: ((.str "/claim/cut.py" 308) :: ((.int 54 0) :: ((.int 2 0) :: ((.int 0 0) :: ((.int 0 0) :: ((.int 3 0) :: ((.ref 109) :: ((.bool true) :: ((.int 181 0) :: ((.ref 110) :: (.none :: ((.ref 111) :: ((.ref 112) :: ((.ref 113) :: ((.int 314 0) :: ((.int 54 0) :: ((.str "/claim/cut.py" 315) :: [])))))))))))))))))))) ::
 (nat_lit 115,kf "crossing" zDu .none .none (.str "seamarks.sides" 265) (.ref 114) .none) ::
 (nat_lit 121,kc ((.str "in_water" 319) :: ((.str "in_water" 320) :: ((.str "/claim/cut.py" 321) :: ((.int 62 0) :: ((.int 2 0) :: ((.int 0 0) :: ((.int 0 0) :: ((.int 3 0) :: ((.ref 116) :: ((.bool true) :: ((.int 181 0) :: ((.ref 117) :: (.none :: ((.ref 118) :: ((.ref 119) :: ((.ref 120) :: ((.int 325 0) :: ((.int 62 0) :: ((.str "/claim/cut.py" 326) :: [])))))))))))))))))))) ::
 (nat_lit 122,kf "in_water" zDs .none .none (.str "seamarks.water" 317) (.ref 121) .none) ::
 (nat_lit 128,kc ((.str "foot" 328) :: ((.str "foot" 329) :: ((.str "/claim/cut.py" 330) :: ((.int 67 0) :: ((.int 1 0) :: ((.int 0 0) :: ((.int 0 0) :: ((.int 3 0) :: ((.ref 123) :: ((.bool true) :: ((.int 181 0) :: ((.ref 124) :: (.none :: ((.ref 125) :: ((.ref 126) :: ((.ref 127) :: ((.int 332 0) :: ((.int 67 0) :: ((.str "/claim/cut.py" 333) :: [])))))))))))))))))))) ::
 (nat_lit 129,kf "foot" zHi .none .none (.str "seamarks.water" 317) (.ref 128) .none) ::
 (nat_lit 135,kc ((.str "edge_end" 335) :: ((.str "edge_end" 336) :: ((.str "/claim/cut.py" 337) :: ((.int 69 0) :: ((.int 3 0) :: ((.int 0 0) :: ((.int 0 0) :: ((.int 3 0) :: ((.ref 130) :: ((.bool true) :: ((.int 181 0) :: ((.ref 131) :: (.none :: ((.ref 132) :: ((.ref 133) :: ((.ref 134) :: ((.int 345 0) :: ((.int 69 0) :: ((.str "/claim/cut.py" 346) :: [])))))))))))))))))))) ::
 (nat_lit 136,kf "edge_end" zDw .none .none (.str "seamarks.water" 317) (.ref 135) .none) ::
 (nat_lit 140,kc ((.str "edge_ends" 348) :: ((.str "edge_ends" 349) :: ((.str "/claim/cut.py" 350) :: ((.int 78 0) :: ((.int 2 0) :: ((.int 0 0) :: ((.int 0 0) :: ((.int 3 0) :: ((.ref 137) :: ((.bool true) :: ((.int 181 0) :: ((.ref 138) :: (.none :: (.none :: (.none :: ((.ref 139) :: ((.int 351 0) :: ((.int 78 0) :: ((.str "/claim/cut.py" 352) :: [])))))))))))))))))))) ::
 (nat_lit 141,kf "edge_ends" zC7 .none .none (.str "seamarks.water" 317) (.ref 140) .none) ::
 (nat_lit 147,kc ((.str "spot_on_edge" 354) :: ((.str "spot_on_edge" 355) :: ((.str "/claim/cut.py" 356) :: ((.int 81 0) :: ((.int 2 0) :: ((.int 0 0) :: ((.int 0 0) :: ((.int 3 0) :: ((.ref 142) :: ((.bool true) :: ((.int 181 0) :: ((.ref 143) :: (.none :: ((.ref 144) :: ((.ref 145) :: ((.ref 146) :: ((.int 360 0) :: ((.int 81 0) :: ((.str "/claim/cut.py" 361) :: [])))))))))))))))))))) ::
 (nat_lit 148,kf "spot_on_edge" zB3 .none .none (.str "seamarks.water" 317) (.ref 147) .none) ::
 (nat_lit 154,kc ((.str "sought" 363) :: ((.str "sought" 364) :: ((.str "/claim/cut.py" 365) :: ((.int 86 0) :: ((.int 1 0) :: ((.int 0 0) :: ((.int 0 0) :: ((.int 3 0) :: ((.ref 149) :: ((.bool true) :: ((.int 181 0) :: ((.ref 150) :: (.none :: ((.ref 151) :: ((.ref 152) :: ((.ref 153) :: ((.int 369 0) :: ((.int 86 0) :: ((.str "/claim/cut.py" 370) :: [])))))))))))))))))))) ::
 (nat_lit 155,kf "sought" zFk .none .none (.str "seamarks.water" 317) (.ref 154) .none) ::
 (nat_lit 161,kc ((.str "some_spot" 372) :: ((.str "some_spot" 373) :: ((.str "/claim/cut.py" 374) :: ((.int 94 0) :: ((.int 1 0) :: ((.int 0 0) :: ((.int 0 0) :: ((.int 3 0) :: ((.ref 156) :: ((.bool true) :: ((.int 181 0) :: ((.ref 157) :: (.none :: ((.ref 158) :: ((.ref 159) :: ((.ref 160) :: ((.int 376 0) :: ((.int 94 0) :: ((.str "/claim/cut.py" 377) :: [])))))))))))))))))))) ::
 (nat_lit 162,kf "some_spot" zC3 .none .none (.str "seamarks.water" 317) (.ref 161) .none) ::
 (nat_lit 168,kc ((.str "corners" 379) :: ((.str "corners" 380) :: ((.str "/claim/cut.py" 381) :: ((.int 96 0) :: ((.int 1 0) :: ((.int 0 0) :: ((.int 0 0) :: ((.int 3 0) :: ((.ref 163) :: ((.bool true) :: ((.int 181 0) :: ((.ref 164) :: (.none :: ((.ref 165) :: ((.ref 166) :: ((.ref 167) :: ((.int 386 0) :: ((.int 96 0) :: ((.str "/claim/cut.py" 387) :: [])))))))))))))))))))) ::
 (nat_lit 169,kf "corners" zEj .none .none (.str "seamarks.water" 317) (.ref 168) .none) ::
 (nat_lit 175,kc ((.str "way_to" 389) :: ((.str "way_to" 390) :: ((.str "/claim/cut.py" 391) :: ((.int 103 0) :: ((.int 2 0) :: ((.int 0 0) :: ((.int 0 0) :: ((.int 3 0) :: ((.ref 170) :: ((.bool true) :: ((.int 181 0) :: ((.ref 171) :: (.none :: ((.ref 172) :: ((.ref 173) :: ((.ref 174) :: ((.int 394 0) :: ((.int 103 0) :: ((.str "/claim/cut.py" 395) :: [])))))))))))))))))))) ::
 (nat_lit 176,kf "way_to" zFm .none .none (.str "seamarks.water" 317) (.ref 175) .none) ::
 (nat_lit 182,kc ((.str "ring" 397) :: ((.str "ring" 398) :: ((.str "/claim/cut.py" 399) :: ((.int 105 0) :: ((.int 1 0) :: ((.int 0 0) :: ((.int 0 0) :: ((.int 3 0) :: ((.ref 177) :: ((.bool true) :: ((.int 181 0) :: ((.ref 178) :: (.none :: ((.ref 179) :: ((.ref 180) :: ((.ref 181) :: ((.int 403 0) :: ((.int 105 0) :: ((.str "/claim/cut.py" 404) :: [])))))))))))))))))))) ::
 (nat_lit 183,kf "ring" zGm .none .none (.str "seamarks.water" 317) (.ref 182) .none) ::
 (nat_lit 189,kc ((.str "is_way" 406) :: ((.str "is_way" 407) :: ((.str "/claim/cut.py" 408) :: ((.int 112 0) :: ((.int 2 0) :: ((.int 0 0) :: ((.int 0 0) :: ((.int 3 0) :: ((.ref 184) :: ((.bool true) :: ((.int 181 0) :: ((.ref 185) :: (.none :: ((.ref 186) :: ((.ref 187) :: ((.ref 188) :: ((.int 412 0) :: ((.int 112 0) :: ((.str "/claim/cut.py" 413) :: [])))))))))))))))))))) ::
 (nat_lit 190,kf "is_way" zFh .none .none (.str "seamarks.water" 317) (.ref 189) .none) ::
 (nat_lit 196,kc ((.str "ways" 415) :: ((.str "ways" 416) :: ((.str "/claim/cut.py" 417) :: ((.int 117 0) :: ((.int 1 0) :: ((.int 0 0) :: ((.int 0 0) :: ((.int 3 0) :: ((.ref 191) :: ((.bool true) :: ((.int 181 0) :: ((.ref 192) :: (.none :: ((.ref 193) :: ((.ref 194) :: ((.ref 195) :: ((.int 422 0) :: ((.int 117 0) :: ((.str "/claim/cut.py" 423) :: [])))))))))))))))))))) ::
 (nat_lit 197,kf "ways" zHp .none .none (.str "seamarks.water" 317) (.ref 196) .none) ::
 (nat_lit 203,kc ((.str "has_no_way" 425) :: ((.str "has_no_way" 426) :: ((.str "/claim/cut.py" 427) :: ((.int 124 0) :: ((.int 1 0) :: ((.int 0 0) :: ((.int 0 0) :: ((.int 3 0) :: ((.ref 198) :: ((.bool true) :: ((.int 181 0) :: ((.ref 199) :: (.none :: ((.ref 200) :: ((.ref 201) :: ((.ref 202) :: ((.int 429 0) :: ((.int 124 0) :: ((.str "/claim/cut.py" 430) :: [])))))))))))))))))))) ::
 (nat_lit 204,kf "has_no_way" zCt .none .none (.str "seamarks.water" 317) (.ref 203) .none) ::
 (nat_lit 210,kc ((.str "closed" 432) :: ((.str "closed" 433) :: ((.str "/claim/cut.py" 434) :: ((.int 126 0) :: ((.int 1 0) :: ((.int 0 0) :: ((.int 0 0) :: ((.int 3 0) :: ((.ref 205) :: ((.bool true) :: ((.int 181 0) :: ((.ref 206) :: (.none :: ((.ref 207) :: ((.ref 208) :: ((.ref 209) :: ((.int 436 0) :: ((.int 126 0) :: ((.str "/claim/cut.py" 437) :: [])))))))))))))))))))) ::
 (nat_lit 211,kf "closed" zFe .none .none (.str "seamarks.water" 317) (.ref 210) .none) ::
 (nat_lit 217,kc ((.str "triangle" 439) :: ((.str "triangle" 440) :: ((.str "/claim/cut.py" 441) :: ((.int 128 0) :: ((.int 3 0) :: ((.int 0 0) :: ((.int 0 0) :: ((.int 3 0) :: ((.ref 212) :: ((.bool true) :: ((.int 181 0) :: ((.ref 213) :: (.none :: ((.ref 214) :: ((.ref 215) :: ((.ref 216) :: ((.int 446 0) :: ((.int 128 0) :: ((.str "/claim/cut.py" 447) :: [])))))))))))))))))))) ::
 (nat_lit 218,kf "triangle" zDr .none .none (.str "seamarks.water" 317) (.ref 217) .none) ::
 (nat_lit 224,kc ((.str "area" 449) :: ((.str "area" 450) :: ((.str "/claim/cut.py" 451) :: ((.int 131 0) :: ((.int 1 0) :: ((.int 0 0) :: ((.int 0 0) :: ((.int 3 0) :: ((.ref 219) :: ((.bool true) :: ((.int 181 0) :: ((.ref 220) :: (.none :: ((.ref 221) :: ((.ref 222) :: ((.ref 223) :: ((.int 456 0) :: ((.int 131 0) :: ((.str "/claim/cut.py" 457) :: [])))))))))))))))))))) ::
 (nat_lit 225,kf "area" zHg .none .none (.str "seamarks.water" 317) (.ref 224) .none) ::
 (nat_lit 231,kc ((.str "span" 461) :: ((.str "span" 462) :: ((.str "/claim/cut.py" 463) :: ((.int 142 0) :: ((.int 1 0) :: ((.int 0 0) :: ((.int 0 0) :: ((.int 3 0) :: ((.ref 226) :: ((.bool true) :: ((.int 181 0) :: ((.ref 227) :: (.none :: ((.ref 228) :: ((.ref 229) :: ((.ref 230) :: ((.int 465 0) :: ((.int 142 0) :: ((.str "/claim/cut.py" 466) :: [])))))))))))))))))))) ::
 (nat_lit 232,kf "span" zHh .none .none (.str "seamarks.reach" 459) (.ref 231) .none) ::
 (nat_lit 236,kc ((.str "weighed" 468) :: ((.str "weighed" 469) :: ((.str "/claim/cut.py" 470) :: ((.int 144 0) :: ((.int 2 0) :: ((.int 0 0) :: ((.int 0 0) :: ((.int 3 0) :: ((.ref 233) :: ((.bool true) :: ((.int 181 0) :: ((.ref 234) :: (.none :: (.none :: (.none :: ((.ref 235) :: ((.int 471 0) :: ((.int 144 0) :: ((.str "/claim/cut.py" 472) :: [])))))))))))))))))))) ::
 (nat_lit 237,kf "weighed" zEl .none .none (.str "seamarks.reach" 459) (.ref 236) .none) ::
 (nat_lit 243,kc ((.str "clash_of_three" 474) :: ((.str "clash_of_three" 475) :: ((.str "/claim/cut.py" 476) :: ((.int 147 0) :: ((.int 2 0) :: ((.int 0 0) :: ((.int 0 0) :: ((.int 3 0) :: ((.ref 238) :: ((.bool true) :: ((.int 181 0) :: ((.ref 239) :: (.none :: ((.ref 240) :: ((.ref 241) :: ((.ref 242) :: ((.int 484 0) :: ((.int 147 0) :: ((.str "/claim/cut.py" 485) :: [])))))))))))))))))))) ::
 (nat_lit 244,kf "clash_of_three" zBn .none .none (.str "seamarks.reach" 459) (.ref 243) .none) ::
 (nat_lit 250,kc ((.str "clash" 487) :: ((.str "clash" 488) :: ((.str "/claim/cut.py" 489) :: ((.int 154 0) :: ((.int 1 0) :: ((.int 0 0) :: ((.int 0 0) :: ((.int 3 0) :: ((.ref 245) :: ((.bool true) :: ((.int 181 0) :: ((.ref 246) :: (.none :: ((.ref 247) :: ((.ref 248) :: ((.ref 249) :: ((.int 495 0) :: ((.int 154 0) :: ((.str "/claim/cut.py" 496) :: [])))))))))))))))))))) ::
 (nat_lit 251,kf "clash" zF8 .none .none (.str "seamarks.reach" 459) (.ref 250) .none) ::
 (nat_lit 257,kc ((.str "way_onward" 498) :: ((.str "way_onward" 499) :: ((.str "/claim/cut.py" 500) :: ((.int 164 0) :: ((.int 2 0) :: ((.int 0 0) :: ((.int 0 0) :: ((.int 3 0) :: ((.ref 252) :: ((.bool true) :: ((.int 181 0) :: ((.ref 253) :: (.none :: ((.ref 254) :: ((.ref 255) :: ((.ref 256) :: ((.int 504 0) :: ((.int 164 0) :: ((.str "/claim/cut.py" 505) :: [])))))))))))))))))))) ::
 (nat_lit 258,kf "way_onward" zCu .none .none (.str "seamarks.reach" 459) (.ref 257) .none) ::
 (nat_lit 264,kc ((.str "far_by_one" 507) :: ((.str "far_by_one" 508) :: ((.str "/claim/cut.py" 509) :: ((.int 169 0) :: ((.int 2 0) :: ((.int 0 0) :: ((.int 0 0) :: ((.int 3 0) :: ((.ref 259) :: ((.bool true) :: ((.int 181 0) :: ((.ref 260) :: (.none :: ((.ref 261) :: ((.ref 262) :: ((.ref 263) :: ((.int 515 0) :: ((.int 169 0) :: ((.str "/claim/cut.py" 516) :: [])))))))))))))))))))) ::
 (nat_lit 265,kf "far_by_one" zCr .none .none (.str "seamarks.reach" 459) (.ref 264) .none) ::
 (nat_lit 271,kc ((.str "weights_of_two" 518) :: ((.str "weights_of_two" 519) :: ((.str "/claim/cut.py" 520) :: ((.int 177 0) :: ((.int 3 0) :: ((.int 0 0) :: ((.int 0 0) :: ((.int 3 0) :: ((.ref 266) :: ((.bool true) :: ((.int 181 0) :: ((.ref 267) :: (.none :: ((.ref 268) :: ((.ref 269) :: ((.ref 270) :: ((.int 528 0) :: ((.int 177 0) :: ((.str "/claim/cut.py" 529) :: [])))))))))))))))))))) ::
 (nat_lit 272,kf "weights_of_two" zBo .none .none (.str "seamarks.reach" 459) (.ref 271) .none) ::
 (nat_lit 278,kc ((.str "far_by_two" 531) :: ((.str "far_by_two" 532) :: ((.str "/claim/cut.py" 533) :: ((.int 183 0) :: ((.int 2 0) :: ((.int 0 0) :: ((.int 0 0) :: ((.int 3 0) :: ((.ref 273) :: ((.bool true) :: ((.int 181 0) :: ((.ref 274) :: (.none :: ((.ref 275) :: ((.ref 276) :: ((.ref 277) :: ((.int 540 0) :: ((.int 183 0) :: ((.str "/claim/cut.py" 541) :: [])))))))))))))))))))) ::
 (nat_lit 279,kf "far_by_two" zCs .none .none (.str "seamarks.reach" 459) (.ref 278) .none) ::
 (nat_lit 285,kc ((.str "reach" 543) :: ((.str "reach" 544) :: ((.str "/claim/cut.py" 545) :: ((.int 192 0) :: ((.int 2 0) :: ((.int 0 0) :: ((.int 0 0) :: ((.int 3 0) :: ((.ref 280) :: ((.bool true) :: ((.int 181 0) :: ((.ref 281) :: (.none :: ((.ref 282) :: ((.ref 283) :: ((.ref 284) :: ((.int 550 0) :: ((.int 192 0) :: ((.str "/claim/cut.py" 551) :: [])))))))))))))))))))) ::
 (nat_lit 286,kf "reach" zGh .none .none (.str "seamarks.reach" 459) (.ref 285) .none) ::
 (nat_lit 292,kc ((.str "_law_low" 555) :: ((.str "_law_low" 556) :: ((.str "/claim/cut.py" 557) :: ((.int 201 0) :: ((.int 2 0) :: ((.int 0 0) :: ((.int 0 0) :: ((.int 3 0) :: ((.ref 287) :: ((.bool true) :: ((.int 181 0) :: ((.ref 288) :: (.none :: ((.ref 289) :: ((.ref 290) :: ((.ref 291) :: ((.int 560 0) :: ((.int 201 0) :: ((.str "/claim/cut.py" 561) :: [])))))))))))))))))))) ::
 (nat_lit 293,kf "_law_low" zJ7 .none .none (.str "law_seamarks_k31_whole_turned_and_mirrored" 553) (.ref 292) .none) ::
 (nat_lit 299,kc ((.str "_law_power" 563) :: ((.str "_law_power" 564) :: ((.str "/claim/cut.py" 565) :: ((.int 207 0) :: ((.int 1 0) :: ((.int 0 0) :: ((.int 0 0) :: ((.int 3 0) :: ((.ref 294) :: ((.bool true) :: ((.int 181 0) :: ((.ref 295) :: (.none :: ((.ref 296) :: ((.ref 297) :: ((.ref 298) :: ((.int 567 0) :: ((.int 207 0) :: ((.str "/claim/cut.py" 568) :: [])))))))))))))))))))) ::
 (nat_lit 300,kf "_law_power" zF6 .none .none (.str "law_seamarks_k31_whole_turned_and_mirrored" 553) (.ref 299) .none) ::
 (nat_lit 306,kc ((.str "_law_draws" 570) :: ((.str "_law_draws" 571) :: ((.str "/claim/cut.py" 572) :: ((.int 209 0) :: ((.int 2 0) :: ((.int 0 0) :: ((.int 0 0) :: ((.int 3 0) :: ((.ref 301) :: ((.bool true) :: ((.int 181 0) :: ((.ref 302) :: (.none :: ((.ref 303) :: ((.ref 304) :: ((.ref 305) :: ((.int 579 0) :: ((.int 209 0) :: ((.str "/claim/cut.py" 580) :: [])))))))))))))))))))) ::
 (nat_lit 307,kf "_law_draws" zGg .none .none (.str "law_seamarks_k31_whole_turned_and_mirrored" 553) (.ref 306) .none) ::
 (nat_lit 311,kc ((.str "_law_tight" 582) :: ((.str "_law_tight" 583) :: ((.str "/claim/cut.py" 584) :: ((.int 225 0) :: ((.int 2 0) :: ((.int 0 0) :: ((.int 0 0) :: ((.int 3 0) :: ((.ref 308) :: ((.bool true) :: ((.int 181 0) :: ((.ref 309) :: (.none :: (.none :: (.none :: ((.ref 310) :: ((.int 585 0) :: ((.int 225 0) :: ((.str "/claim/cut.py" 586) :: [])))))))))))))))))))) ::
 (nat_lit 312,kf "_law_tight" zGi .none .none (.str "law_seamarks_k31_whole_turned_and_mirrored" 553) (.ref 311) .none) ::
 (nat_lit 318,kc ((.str "_law_way" 588) :: ((.str "_law_way" 589) :: ((.str "/claim/cut.py" 590) :: ((.int 231 0) :: ((.int 3 0) :: ((.int 0 0) :: ((.int 0 0) :: ((.int 3 0) :: ((.ref 313) :: ((.bool true) :: ((.int 181 0) :: ((.ref 314) :: (.none :: ((.ref 315) :: ((.ref 316) :: ((.ref 317) :: ((.int 596 0) :: ((.int 231 0) :: ((.str "/claim/cut.py" 597) :: [])))))))))))))))))))) ::
 (nat_lit 319,kf "_law_way" zJ9 .none .none (.str "law_seamarks_k31_whole_turned_and_mirrored" 553) (.ref 318) .none) ::
 (nat_lit 325,kc ((.str "_law_side" 599) :: ((.str "_law_side" 600) :: ((.str "/claim/cut.py" 601) :: ((.int 237 0) :: ((.int 1 0) :: ((.int 0 0) :: ((.int 0 0) :: ((.int 3 0) :: ((.ref 320) :: ((.bool true) :: ((.int 181 0) :: ((.ref 321) :: (.none :: ((.ref 322) :: ((.ref 323) :: ((.ref 324) :: ((.int 606 0) :: ((.int 237 0) :: ((.str "/claim/cut.py" 607) :: [])))))))))))))))))))) ::
 (nat_lit 326,kf "_law_side" zHs .none .none (.str "law_seamarks_k31_whole_turned_and_mirrored" 553) (.ref 325) .none) ::
 (nat_lit 330,kc ((.str "_law_sides" 609) :: ((.str "_law_sides" 610) :: ((.str "/claim/cut.py" 611) :: ((.int 247 0) :: ((.int 2 0) :: ((.int 0 0) :: ((.int 0 0) :: ((.int 3 0) :: ((.ref 327) :: ((.bool true) :: ((.int 181 0) :: ((.ref 328) :: (.none :: (.none :: (.none :: ((.ref 329) :: ((.int 612 0) :: ((.int 247 0) :: ((.str "/claim/cut.py" 613) :: [])))))))))))))))))))) ::
 (nat_lit 331,kf "_law_sides" zGq .none .none (.str "law_seamarks_k31_whole_turned_and_mirrored" 553) (.ref 330) .none) ::
 (nat_lit 337,kc ((.str "_law_many" 615) :: ((.str "_law_many" 616) :: ((.str "/claim/cut.py" 617) :: ((.int 257 0) :: ((.int 4 0) :: ((.int 0 0) :: ((.int 0 0) :: ((.int 3 0) :: ((.ref 332) :: ((.bool true) :: ((.int 181 0) :: ((.ref 333) :: (.none :: ((.ref 334) :: ((.ref 335) :: ((.ref 336) :: ((.int 622 0) :: ((.int 257 0) :: ((.str "/claim/cut.py" 623) :: [])))))))))))))))))))) ::
 (nat_lit 338,kf "_law_many" zHl .none .none (.str "law_seamarks_k31_whole_turned_and_mirrored" 553) (.ref 337) .none) ::
 (nat_lit 344,kc ((.str "_law_moved" 625) :: ((.str "_law_moved" 626) :: ((.str "/claim/cut.py" 627) :: ((.int 261 0) :: ((.int 2 0) :: ((.int 0 0) :: ((.int 0 0) :: ((.int 3 0) :: ((.ref 339) :: ((.bool true) :: ((.int 181 0) :: ((.ref 340) :: (.none :: ((.ref 341) :: ((.ref 342) :: ((.ref 343) :: ((.int 630 0) :: ((.int 261 0) :: ((.str "/claim/cut.py" 631) :: [])))))))))))))))))))) ::
 (nat_lit 345,kf "_law_moved" zGs .none .none (.str "law_seamarks_k31_whole_turned_and_mirrored" 553) (.ref 344) .none) ::
 (nat_lit 351,kc ((.str "_law_how_far" 633) :: ((.str "_law_how_far" 634) :: ((.str "/claim/cut.py" 635) :: ((.int 265 0) :: ((.int 2 0) :: ((.int 0 0) :: ((.int 0 0) :: ((.int 3 0) :: ((.ref 346) :: ((.bool true) :: ((.int 181 0) :: ((.ref 347) :: (.none :: ((.ref 348) :: ((.ref 349) :: ((.ref 350) :: ((.int 644 0) :: ((.int 265 0) :: ((.str "/claim/cut.py" 645) :: [])))))))))))))))))))) ::
 (nat_lit 352,kf "_law_how_far" zEo .none .none (.str "law_seamarks_k31_whole_turned_and_mirrored" 553) (.ref 351) .none) ::
 (nat_lit 356,kc ((.str "law" 647) :: ((.str "law" 648) :: ((.str "/claim/cut.py" 649) :: ((.int 273 0) :: ((.int 1 0) :: ((.int 0 0) :: ((.int 0 0) :: ((.int 3 0) :: ((.ref 353) :: ((.bool true) :: ((.int 181 0) :: ((.ref 354) :: (.none :: (.none :: (.none :: ((.ref 355) :: ((.int 650 0) :: ((.int 273 0) :: ((.str "/claim/cut.py" 651) :: [])))))))))))))))))))) ::
 (nat_lit 357,kf "law" zMg .none .none (.str "law_seamarks_k31_whole_turned_and_mirrored" 553) (.ref 356) .none) :: []
noncomputable def kas:List Nat:=nat_lit 3 :: nat_lit 20 :: nat_lit 21 :: nat_lit 25 :: nat_lit 26 :: nat_lit 30 :: nat_lit 31 :: nat_lit 37 :: nat_lit 38 :: nat_lit 44 :: nat_lit 45 :: nat_lit 51 :: nat_lit 52 :: nat_lit 58 :: nat_lit 59 :: nat_lit 65 :: nat_lit 66 :: nat_lit 72 :: nat_lit 73 :: nat_lit 79 :: nat_lit 80 :: nat_lit 86 :: nat_lit 87 :: nat_lit 93 :: nat_lit 94 :: nat_lit 100 :: nat_lit 101 :: nat_lit 107 :: nat_lit 108 :: nat_lit 114 :: nat_lit 115 :: nat_lit 121 :: nat_lit 122 :: nat_lit 128 :: nat_lit 129 :: nat_lit 135 :: nat_lit 136 :: nat_lit 140 :: nat_lit 141 :: nat_lit 147 :: nat_lit 148 :: nat_lit 154 :: nat_lit 155 :: nat_lit 161 :: nat_lit 162 :: nat_lit 168 :: nat_lit 169 :: nat_lit 175 :: nat_lit 176 :: nat_lit 182 :: nat_lit 183 :: nat_lit 189 :: nat_lit 190 :: nat_lit 196 :: nat_lit 197 :: nat_lit 203 :: nat_lit 204 :: nat_lit 210 :: nat_lit 211 :: nat_lit 217 :: nat_lit 218 :: nat_lit 224 :: nat_lit 225 :: nat_lit 231 :: nat_lit 232 :: nat_lit 236 :: nat_lit 237 :: nat_lit 243 :: nat_lit 244 :: nat_lit 250 :: nat_lit 251 :: nat_lit 257 :: nat_lit 258 :: nat_lit 264 :: nat_lit 265 :: nat_lit 271 :: nat_lit 272 :: nat_lit 278 :: nat_lit 279 :: nat_lit 285 :: nat_lit 286 :: nat_lit 292 :: nat_lit 293 :: nat_lit 299 :: nat_lit 300 :: nat_lit 306 :: nat_lit 307 :: nat_lit 311 :: nat_lit 312 :: nat_lit 318 :: nat_lit 319 :: nat_lit 325 :: nat_lit 326 :: nat_lit 330 :: nat_lit 331 :: nat_lit 337 :: nat_lit 338 :: nat_lit 344 :: nat_lit 345 :: nat_lit 351 :: nat_lit 352 :: nat_lit 356 :: nat_lit 357 :: []
theorem kas_ok:∀ P:Params,kas = (KK P).map (·.1):=fun _=>by kernel_rfl
set_option maxHeartbeats 0 in
theorem said_ok:PySem.Challenge.rw_seamarks_k31_whole_turned_and_mirrored.wellSaid = true:=by kernel_rfl
set_option maxHeartbeats 0 in
open PySem.W in
theorem left_ok:LeftO PySem.Challenge.rw_seamarks_k31_whole_turned_and_mirrored.row.prog qv [] (fun s=>xlAt qv [] s && recOk (RowW.records (OpenRow.toRowW PySem.Challenge.rw_seamarks_k31_whole_turned_and_mirrored.row)) s)
  (fun s=>kas.map s.heap.get?) (fun w=>(KK w.params).map fun p=>some p.2) 9000:=by
 unfold LeftO
 rw [Fast.te4187177175401517315,Fast.te5923862056798008813,Fast.te2368527892694137696,Fast.te14364793385576792824]
 intro w
 kernel_rfl
end Sea
-- BASE
namespace L2
open PySem PySem.Spec PyProof.Rows

abbrev Key:=Sum Int Str
def zOj:Key→Value→Bool
 | .inl k,v=>Value.isInt k v
 | .inr x,v=>Value.isStrOf x v
def keyH (w:World):Key→Int
 | .inl k=>hashInt k
 | .inr x=>hashStr w x
theorem zBk:∀ {k:Key} {v:Value},zOj k v = true→(∃ i t,k = Sum.inl i∧v = Value.int i t)∨(∃ x t,k = Sum.inr x∧v = Value.str x t)
 | .inl i,v,h=>by
  obtain ⟨t,e⟩:=Value.isInt_shape (k:=i) (v:=v) h
  exact .inl ⟨i,t,rfl,e⟩
 | .inr x,v,h=>by
  obtain ⟨t,e⟩:=Value.isStrOf_shape (x:=x) (v:=v) h
  exact .inr ⟨x,t,rfl,e⟩
theorem zQg (i:Int) (t:Tok):zOj (.inl i) (.int i t) = true:=by simp [zOj,Value.isInt]
theorem zPw (x:Str) (t:Tok):zOj (.inr x) (.str x t) = true:=by simp [zOj,Value.isStrOf]
theorem key_ll (a b:Int):decide ((Sum.inl a:Key) = Sum.inl b) = (a == b):=by
 by_cases e:a = b
 ·subst e; simp
 ·have h:¬ (Sum.inl a:Key) = Sum.inl b:=fun q=>e (Sum.inl.inj q)
  rw [decide_eq_false h]
  exact (beq_eq_false_iff_ne.mpr e).symm
theorem key_rr (a b:Str):decide ((Sum.inr a:Key) = Sum.inr b) = decide (a = b):=by
 by_cases e:a = b
 ·subst e; simp
 ·have h:¬ (Sum.inr a:Key) = Sum.inr b:=fun q=>e (Sum.inr.inj q)
  rw [decide_eq_false h,decide_eq_false e]
theorem key_lr (a:Int) (b:Str):decide ((Sum.inl a:Key) = Sum.inr b) = false:=decide_eq_false (fun q=>nomatch q)
theorem key_rl (a:Str) (b:Int):decide ((Sum.inr a:Key) = Sum.inl b) = false:=decide_eq_false (fun q=>nomatch q)

def zCh (prog:Program) (w:World):PySem.KeyKind prog w Key where
 is:=zOj
 hash:=keyH w
 inj:=fun v a b ha hb=>by
  rcases zBk ha with ⟨i,t,rfl,rfl⟩ | ⟨x,t,rfl,rfl⟩
  ·rcases zBk hb with ⟨j,u,rfl,e⟩ | ⟨y,u,rfl,e⟩
   ·injection e with e1 _; rw [e1]
   ·exact nomatch e
  ·rcases zBk hb with ⟨j,u,rfl,e⟩ | ⟨y,u,rfl,e⟩
   ·exact nomatch e
   ·injection e with e1 _; rw [e1]
 byValue:=fun k v h=>by
  rcases zBk h with ⟨i,t,rfl,rfl⟩ | ⟨x,t,rfl,rfl⟩ <;> rfl
 pyHash:=fun hv h=>by
  rcases zBk hv with ⟨i,t,rfl,rfl⟩ | ⟨x,t,rfl,rfl⟩
  ·exact wpAny_pyHash_int h
  ·exact wpAny_pyHash_str h
 eqBool:=fun hu hv h=>by
  rcases zBk hu with ⟨i,t,rfl,rfl⟩ | ⟨x,t,rfl,rfl⟩
  ·rcases zBk hv with ⟨j,u,rfl,rfl⟩ | ⟨y,u,rfl,rfl⟩
   ·rw [key_ll] at h; exact wpAny_eqBool_int h
   ·rw [key_lr] at h; exact SeqAt.EqAt.int_str i t y u _ _ _ _ h
  ·rcases zBk hv with ⟨j,u,rfl,rfl⟩ | ⟨y,u,rfl,rfl⟩
   ·rw [key_rl] at h; exact SeqAt.EqAt.str_int x t j u _ _ _ _ h
   ·rw [key_rr] at h; exact wpAny_eqBool_str h
 «strs»:=fun k x t v h=>by
  rcases zBk h with ⟨i,u,rfl,e⟩ | ⟨y,u,rfl,e⟩
  ·exact nomatch e
  ·injection e with e1 _
   subst e1
   cases v <;> rfl

theorem zMo (prog:Program) (w:World) (i:Int) (t:Tok):(zCh prog w).is (.inl i) (.int i t) = true:=zQg i t
theorem zMu (prog:Program) (w:World) (x:Str) (t:Tok):(zCh prog w).is (.inr x) (.str x t) = true:=zPw x t
end L2

namespace L2
open PySem PySem.Spec PyProof.Rows

inductive V where
 | non | bl (b:Bool) | int (i:Int) | str (x:Str) | byt (b:Array UInt8) | flt (b:UInt64) | ref (a:Addr) | ty (n:String)
 deriving DecidableEq

def RelV:V→Value→Prop
 | .non,u=>u = Value.none
 | .bl b,u=>u = Value.bool b
 | .int i,u=>∃ t,u = Value.int i t
 | .str x,u=>∃ t,u = Value.str x t
 | .byt b,u=>∃ t,u = Value.bytes b t
 | .flt b,u=>∃ t,u = Value.float b t
 | .ref a,u=>u = Value.ref a
 | .ty n,u=>u = Value.type n

abbrev Vals:List V→List Value→Prop:=Paired RelV
theorem Vals.length {xs:List V} {us:List Value} (r:Vals xs us):xs.length = us.length:=Paired.length r
theorem Vals.get:∀ {xs:List V} {us:List Value} {i:Nat} {x:V},Vals xs us→xs[i]? = some x→∃ u,us[i]? = some u∧RelV x u
 | _,_,_,_,.nil,e=>by simp at e
 | _,_,0,_,.cons r _,e=>by simp at e; subst e; exact ⟨_,rfl,r⟩
 | _,_,i + 1,x,.cons _ t,e=>by
  obtain ⟨u,h1,h2⟩:=Vals.get (i:=i) (x:=x) t (by simpa using e)
  exact ⟨u,by simpa using h1,h2⟩
theorem Vals.set {x:V} {u:Value} (r:RelV x u):∀ {xs:List V} {us:List Value} (i:Nat),Vals xs us→Vals (xs.set i x) (us.set i u)
 | _,_,_,.nil=>.nil
 | _,_,0,.cons _ t=>.cons r t
 | _,_,i + 1,.cons q t=>.cons q (Vals.set r i t)
theorem Vals.append:∀ {xs ys:List V} {us ws:List Value},Vals xs us→Vals ys ws→Vals (xs ++ ys) (us ++ ws)
 | _,_,_,_,.nil,s=>s
 | _,_,_,_,.cons r t,s=>.cons r (Vals.append t s)
theorem Vals.take:∀ {xs:List V} {us:List Value} (n:Nat),Vals xs us→Vals (xs.take n) (us.take n)
 | _,_,0,_=>.nil
 | _,_,_ + 1,.nil=>.nil
 | _,_,n + 1,.cons r t=>.cons r (Vals.take n t)
theorem Vals.drop:∀ {xs:List V} {us:List Value} (n:Nat),Vals xs us→Vals (xs.drop n) (us.drop n)
 | _,_,0,r=>r
 | _,_,_ + 1,.nil=>.nil
 | _,_,n + 1,.cons _ t=>Vals.drop n t
def RelO:Option V→Option Value→Prop
 | some v,some u=>RelV v u
 | none,none=>True
 | _,_=>False
def KV {κ:Type} : List (κ × V)→List (κ × Value)→Prop:=Paired fun (p:κ × V) (q:κ × Value)=>p.1 = q.1∧RelV p.2 q.2

def kV:Key→V
 | .inl i=>.int i
 | .inr x=>.str x

inductive HO where
 | lst (xs:List V)
 | tup (xs:List V)
 | dK (kvs:List (Key × V)) | dT (kvs:List (List Key × V))
 | set (S:Int→Bool) (n:Nat)
 | ins (C dx:Addr) (fs:List (Str × V))
 | own (x:Addr)
 | xd (fs:List (Str × V))
 | met (f x:Addr)
 | rng (lo hi:Int)
 | frz (o:Obj) (u:HO)
 | tbl (ps:Array Value)
 | ext (φ:Heap→Prop)

abbrev Hp:=Addr→Option HO
def upd (H:Hp) (a:Addr) (o:HO):Hp:=fun b=>if b = a then some o else H b
theorem zAb {H:Hp} {a:Addr} {o:HO} : upd H a o a = some o:=by unfold upd; rw [if_pos rfl]
theorem zAs {H:Hp} {a b:Addr} {o:HO} (h:b≠a):upd H a o b = H b:=by unfold upd; rw [if_neg h]
theorem zKw {H:Hp} {a:Addr} {o u:HO} : upd (upd H a o) a u = upd H a u:=by
 funext b; unfold upd; split <;> rfl
theorem zI4 {H:Hp} {a b:Addr} {o u:HO} (h:H a = some o) (h':H b = some u) (d:o≠u):a≠b:=by
 intro e; subst e; rw [h] at h'; exact d (Option.some.inj h')
theorem zA0 {H:Hp} {a b:Addr} {o:HO} (h:H a = some o) (h':H b = none):a≠b:=by
 intro e; subst e; rw [h] at h'; cases h'

section
variable (P:Program) (w:World)
def zDh (H:Hp) (h:Heap) (a:Addr):HO→Prop
 | .lst xs=>xs.length≤sizeLine∧∃ (its:List Value) (n:Nat),Vals xs its∧h.get? a = some { cls:=.type "list", data:=.seq its.toArray n }
 | .tup xs=>xs.length≤sizeLine∧∃ its:List Value,Vals xs its∧IsTup h a its.toArray
 | .dK kvs=>kvs.length≤sizeLine∧(a == sysModules) = false∧∃ vs,KV kvs vs∧h.DictOf (zCh P w) a vs
 | .dT kvs=>kvs.length≤sizeLine∧(a == sysModules) = false∧∃ xs:List (List Key × Addr × Value),
   Paired (fun (p:List Key × V) (q:List Key × Addr × Value)=>p.1 = q.1∧H q.2.1 = some (.tup (p.1.map kV))∧RelV p.2 q.2.2) kvs xs ∧
   ∃ o es ep,h.get? a = some o∧o.ExactDict∧o.data = .dict es ep∧es.toList = xs.map (entryOfKey (tupleKind (zCh P w)))∧(xs.map (·.1)).Nodup
 | .set S n=>h.SetOf (intKind P w) a S n
 | .ins C dx fs=>H dx = some (.own a)∧fs.length≤1000∧dx≠a∧h.get? a = some (PySem.W.instObj C dx) ∧
   ∃ mA,h.Ns1 dx mA∧(∀ f,RelO (fs.lookup f) (mA f))∧PySem.Within mA (fs.map (·.1))
 | .own _=>∃ o,h.get? a = some o
 | .xd fs=>∃ mA,h.Ns1 a mA∧∀ f,RelO (fs.lookup f) (mA f)
 | .rng lo hi=>∃ t u v,h.get? a = some { cls:=.type "range", data:=.fields #[.int lo t,.int hi u,.int 1 v] }
 | .frz o u=>h.get? a = some o∧zDh H h a u
 | .tbl ps=>h.get? a = some { cls:=.none,data:=.fields ps }
 | .met f x=>h.get? a = some (PySem.W.methodObj (.ref f) (.ref x))
 | .ext φ=>φ h∧(∃ o,h.get? a = some o)∧∀ h1 h2:Heap,φ h1→(∀ o,h1.get? a = some o→h2.get? a = some o)→φ h2
def HOk (H:Hp) (h:Heap):Prop:=∀ a o,H a = some o→zDh P w H h a o
end

section
variable {P:Program} {w:World} {H H':Hp} {h h':Heap} {a:Addr} {o:HO}
theorem zDh.lt (x:zDh P w H h a o):a < h.objs.size:=by
 cases o with
 | lst xs=>obtain ⟨_,_,_,_,e⟩:=x; exact Heap.lt_size e
 | tup xs=>obtain ⟨_,_,_,p⟩:=x; exact p.lt
 | dK kvs=>obtain ⟨_,_,_,_,o,_,_,e,_⟩:=x; exact Heap.lt_size e
 | dT kvs=>obtain ⟨_,_,_,_,o,_,_,e,_⟩:=x; exact Heap.lt_size e
 | set S n=>obtain ⟨o,_,_,_,e,_⟩:=x; exact Heap.lt_size e
 | ins C dx fs=>obtain ⟨_,_,_,e,_⟩:=x; exact Heap.lt_size e
 | own y=>obtain ⟨_,e⟩:=x; exact Heap.lt_size e
 | xd fs=>obtain ⟨_,⟨_,_,_,e,_⟩,_⟩:=x; exact Heap.lt_size e
 | rng lo hi=>obtain ⟨_,_,_,e⟩:=x; exact Heap.lt_size e
 | frz ob u=>obtain ⟨e,_⟩:=x; exact Heap.lt_size e
 | tbl ps=>exact Heap.lt_size (show h.get? a = some _ from x)
 | met f y=>exact Heap.lt_size (show h.get? a = some _ from x)
 | ext φ=>obtain ⟨_,⟨_,e⟩,_⟩:=x; exact Heap.lt_size e
theorem Paired.mapP {α β:Type} {F G:α→β→Prop} : ∀ {l₁:List α} {l₂:List β},Paired F l₁ l₂→(∀ a b,F a b→G a b)→Paired G l₁ l₂
 | _,_,.nil,_=>.nil
 | _,_,.cons r t,f=>.cons (f _ _ r) (Paired.mapP t f)
theorem zDh.stay (x:zDh P w H h a o) (k:∀ b u,(b = a∨H b = some (.own a))→h.get? b = some u→h'.get? b = some u)
  (ho:∀ b,H b = some (.own a)→H' b = some (.own a)) (ht:∀ b xs,H b = some (.tup xs)→H' b = some (.tup xs)):zDh P w H' h' a o:=by
 induction o with
 | lst xs=>obtain ⟨z,its,n,r,e⟩:=x; exact ⟨z,its,n,r,k _ _ (.inl rfl) e⟩
 | tup xs=>obtain ⟨z,its,r,ob,e,c⟩:=x; exact ⟨z,its,r,ob,k _ _ (.inl rfl) e,c⟩
 | dK kvs=>obtain ⟨z,y,vs,r,ob,es,ep,e,c⟩:=x; exact ⟨z,y,vs,r,ob,es,ep,k _ _ (.inl rfl) e,c⟩
 | dT kvs =>
  obtain ⟨z,y,xs,r,ob,es,ep,e,c⟩:=x
  exact ⟨z,y,xs,Paired.mapP r fun p q z=>⟨z.1,ht _ _ z.2.1,z.2.2⟩,ob,es,ep,k _ _ (.inl rfl) e,c⟩
 | set S n=>obtain ⟨ob,es,ep,t,e,c⟩:=x; exact ⟨ob,es,ep,t,k _ _ (.inl rfl) e,c⟩
 | ins C dx fs =>
  obtain ⟨d,z,ne,e,mA,⟨od,es,ep,e2,c⟩,r⟩:=x
  exact ⟨ho _ d,z,ne,k _ _ (.inl rfl) e,mA,⟨od,es,ep,k _ _ (.inr d) e2,c⟩,r⟩
 | own y=>obtain ⟨ob,e⟩:=x; exact ⟨ob,k _ _ (.inl rfl) e⟩
 | xd fs=>obtain ⟨mA,⟨od,es,ep,e,c⟩,r⟩:=x; exact ⟨mA,⟨od,es,ep,k _ _ (.inl rfl) e,c⟩,r⟩
 | rng lo hi=>obtain ⟨t,u,v,e⟩:=x; exact ⟨t,u,v,k _ _ (.inl rfl) e⟩
 | frz ob u ih=>obtain ⟨e,q⟩:=x; exact ⟨k _ _ (.inl rfl) e,ih q⟩
 | tbl ps =>
  have e:h.get? a = some { cls:=.none,data:=.fields ps }:=x
  show h'.get? a = some { cls:=.none,data:=.fields ps }
  exact k a _ (.inl rfl) e
 | met f y =>
  have e:h.get? a = some (PySem.W.methodObj (.ref f) (.ref y)):=x
  show h'.get? a = some (PySem.W.methodObj (.ref f) (.ref y))
  exact k a _ (.inl rfl) e
 | ext φ=>obtain ⟨p,⟨o,e⟩,st⟩:=x; exact ⟨st _ _ p fun o q=>k _ _ (.inl rfl) q,⟨o,k _ _ (.inl rfl) e⟩,st⟩
theorem HOk.lt (x:HOk P w H h) (e:H a = some o):a < h.objs.size:=(x a o e).lt
theorem HOk.fresh (x:HOk P w H h) (e:h.objs.size≤a):H a = none:=by
 cases q:H a with
 | none=>rfl
 | some u=>exact absurd (Nat.lt_of_lt_of_le (x.lt q) e) (Nat.lt_irrefl _)
theorem HOk.kept (x:HOk P w H h) (k:∀ b u,h.get? b = some u→h'.get? b = some u):HOk P w H h':=fun a o e =>
 (x a o e).stay (fun b u _ q=>k b u q) (fun _ q=>q) fun _ _ q=>q
theorem HOk.laid (x:HOk P w H h) (k:∀ b u,h.get? b = some u→h'.get? b = some u) (hp:h.objs.size≤a) (new:zDh P w (upd H a o) h' a o):HOk P w (upd H a o) h':=fun b u e=>by
 have hn:=x.fresh hp
 by_cases hb:b = a
 ·subst hb; rw [zAb] at e; cases e; exact new
 ·rw [zAs hb] at e
  exact (x b u e).stay (fun c v _ q=>k c v q) (fun c q=>by rw [zAs (zA0 q hn)]; exact q) fun c xs q=>by rw [zAs (zA0 q hn)]; exact q
end

def Rd (H:Hp) (a:Addr) (u:HO):Prop:=H a = some u∨∃ o,H a = some (.frz o u)
theorem Rd.ok {P:Program} {w:World} {H:Hp} {h:Heap} {a:Addr} {u:HO} (r:Rd H a u) (x:HOk P w H h):zDh P w H h a u:=by
 rcases r with r | ⟨o,r⟩
 ·exact x a u r
 ·obtain ⟨_,q⟩:=x a _ r
  exact q
def Mut:Option HO→Prop
 | some (.lst _)=>True
 | some (.dK _)=>True
 | some (.dT _)=>True
 | some (.set _ _)=>True
 | some (.ins _ _ _)=>True
 | some (.ext _)=>True
 | _=>False
section
variable {P:Program} {w:World} {H:Hp} {h h':Heap} {x e:Addr} {o':HO}
theorem HOk.write (ok:HOk P w H h) (mu:Mut (H x)) (he:e = x∨H e = some (.own x)) (k:∀ b u,b≠e→h.get? b = some u→h'.get? b = some u) (heo:∃ u,h'.get? e = some u)
  (new:zDh P w (upd H x o') h' x o'):HOk P w (upd H x o') h':=fun b u q=>by
 have nown:∀ c y,H c = some (.own y)→c≠x:=fun c y r z=>by subst z; rw [r] at mu; exact mu
 have ntup:∀ c xs,H c = some (.tup xs)→c≠x:=fun c xs r z=>by subst z; rw [r] at mu; exact mu
 by_cases hb:b = x
 ·subst hb; rw [zAb] at q; cases q; exact new
 ·rw [zAs hb] at q
  by_cases hbe:b = e
  ·have q':H b = some (.own x):=by
    rcases he with z | z
    ·exact absurd (hbe.trans z) hb
    ·rw [hbe]; exact z
   rw [q] at q'; cases q'
   obtain ⟨v,hv⟩:=heo
   exact ⟨v,by rw [hbe]; exact hv⟩
  ·refine (ok b u q).stay (fun c v hc r=>k c v ?_ r) (fun c r=>by rw [zAs (nown c b r)]; exact r) fun c xs r=>by rw [zAs (ntup c xs r)]; exact r
   rcases hc with rfl | hc
   ·exact hbe
   ·rintro rfl
    rcases he with z | z
    ·exact nown c b hc z
    ·rw [hc] at z; cases z; exact hb rfl
end

structure Un (fs ex:List Addr) (H H':Hp) (h h':Heap):Prop where
 keep:∀ b o,h.get? b = some o→H b = none→b ∉ fs→b ∉ ex→h'.get? b = some o
 slot:∀ b o,h.get? b = some o→H b = none→b∈fs→b ∉ ex→∃ sl,h'.get? b = some { o with slots:=sl }
 free:∀ b o,h.get? b = some o→H b = none→b ∉ ex→H' b = none
 there:∀ b o,h.get? b = some o→b ∉ ex→∃ o',h'.get? b = some o'
 tups:∀ b xs,H b = some (.tup xs)→H' b = some (.tup xs)
 frzs:∀ b o u,H b = some (.frz o u)→H' b = some (.frz o u)
 tbls:∀ b ps,H b = some (.tbl ps)→∃ more,H' b = some (.tbl (ps ++ more))
section
variable {fs fs' ex ex':List Addr} {H H1 H2:Hp} {h h1 h2 h':Heap} {a x e:Addr} {o:HO}
theorem Un.any (u:Un fs ex H H1 h h1) {b:Addr} {ob:Obj} (q:h.get? b = some ob) (n:H b = none) (hx:b ∉ ex):∃ sl,h1.get? b = some { ob with slots:=sl }:=by
 by_cases hb:b∈fs
 ·exact u.slot b ob q n hb hx
 ·exact ⟨ob.slots,u.keep b ob q n hb hx⟩
theorem Un.kept (k:∀ b u,h.get? b = some u→h'.get? b = some u):Un fs ex H H h h' :=
 ⟨fun b ob q _ _ _=>k b ob q,fun b ob q _ _ _=>⟨ob.slots,k b ob q⟩,fun _ _ _ n _=>n,fun b ob q _=>⟨ob,k b ob q⟩,fun _ _ q=>q,fun _ _ _ q=>q,fun _ ps q=>⟨#[],by rw [q]; simp⟩⟩
theorem Un.refl:Un fs ex H H h h:=Un.kept fun _ _ q=>q
theorem Un.laid (k:∀ b u,h.get? b = some u→h'.get? b = some u) (hp:h.objs.size≤a) (hn:H a = none):Un fs ex H (upd H a o) h h' where
 keep:=fun b u q _ _ _=>k b u q
 slot:=fun b u q _ _ _=>⟨u.slots,k b u q⟩
 free:=fun b u q n _=>by rw [zAs (Nat.ne_of_lt (Nat.lt_of_lt_of_le (Heap.lt_size q) hp))]; exact n
 there:=fun b u q _=>⟨u,k b u q⟩
 tups:=fun b xs q=>by rw [zAs (zA0 q hn)]; exact q
 frzs:=fun b u xs q=>by rw [zAs (zA0 q hn)]; exact q
 tbls:=fun b ps q=>⟨#[],by rw [zAs (zA0 q hn),q]; simp⟩
theorem Un.write (mu:Mut (H x)) (he:e = x∨H e = some (.own x)) (k:∀ b u,b≠e→h.get? b = some u→h'.get? b = some u) (heo:∃ u,h'.get? e = some u):Un fs ex H (upd H x o) h h':=by
 have hx:∀ b,H b = none→b≠x:=fun b n z=>by subst z; rw [n] at mu; exact mu
 have hb:∀ b,H b = none→b≠e:=fun b n z=>by
  subst z
  rcases he with r | r
  ·exact hx b n r
  ·rw [n] at r; cases r
 have hm:∀ b u,H b = some u→¬ Mut (some u)→b≠x:=fun b u q nm z=>by subst z; rw [q] at mu; exact nm mu
 refine ⟨fun b u q n _ _=>k b u (hb b n) q,fun b u q n _ _=>⟨u.slots,k b u (hb b n) q⟩,fun b u q n _=>by rw [zAs (hx b n)]; exact n,fun b u q _=>?_,
  fun b xs q=>by rw [zAs (hm b _ q fun z=>z)]; exact q,fun b u xs q=>by rw [zAs (hm b _ q fun z=>z)]; exact q,fun b ps q=>⟨#[],by rw [zAs (hm b _ q fun z=>z),q]; simp⟩⟩
 by_cases hbe:b = e
 ·subst hbe; exact heo
 ·exact ⟨u,k b u hbe q⟩
end

def trk (h:Heap) (H:Hp):List Addr:=(List.range h.objs.size).filter fun a=>(H a).isSome
def hidT (h:Heap) (H:Hp):Heap:=PySem.W.hideAll h (trk h H)
theorem zQo (h:Heap) (H:Hp):(hidT h H).objs.size = h.objs.size:=PySem.W.hideAll_size _ _
theorem zSy {h:Heap} {H:Hp} {b:Addr} {o:Obj} (e:h.get? b = some o) (n:H b = none):(hidT h H).get? b = some o :=
 PySem.W.hideAll_get _ e fun hm=>by
  have q:(H b).isSome = true:=(List.mem_filter.mp hm).2
  rw [n] at q; simp at q
theorem zUn {h:Heap} {H:Hp} {b:Addr} {o:Obj} (e:(hidT h H).get? b = some o):h.get? b = some o∧H b = none:=by
 have e':h.get? b = some o:=PySem.W.of_hideAll (trk h H) e
 refine ⟨e',?_⟩
 cases q:H b with
 | none=>rfl
 | some x =>
  have hm:b∈trk h H:=List.mem_filter.mpr ⟨List.mem_range.mpr (Heap.lt_size e'),by simp [q]⟩
  have z:(hidT h H).get? b = none:=PySem.W.hideAll_none (trk h H) hm
  rw [z] at e; cases e

end L2

namespace L2
open PySem PySem.Spec PyProof.Rows

structure Mod (K:PySem.W.Frag) (mg:Str→Option Value) (base:Heap):Prop where
 kin:K.In base
 glob:base.Ns mainGlobals mg
 blt:∃ mb,base.Ns builtinsNs mb∧∀ x:Str,x ≠ "__name__" → mb x = bootBuiltins x
 nolimit:base.NoLimit

structure Cx where
 prog:Program
 w:World
 K:PySem.W.Frag
 mg:Str→Option Value
 base:Heap
 A:Around
 N:List Str
 s₀:Shared
 H₀:Hp
 env:Env
 outer:List Env
 stack:List Env
 ex:List Addr
 fn:Str→Bool
 calm:Bool
 pn:List (Addr × Obj)
 xe:Value→Shared→Prop
def frs (l:List Env):List Addr:=l.filterMap (·.frame)
abbrev Cx.fs (X:Cx):List Addr:=frs X.outer

def Vis (sc:Scope) (x:Str):Prop:=sc.names.lookup x = some .local∨sc.names.lookup x = some .cell∨sc.names.lookup x = some .free
def Loc (sc:Scope) (x:Str):Prop:=sc.names.lookup x = some .local∨sc.names.lookup x = some .cell
def Look (env:Env) (h:Heap) (m:Str→Option Value) (x:Str) (u:Value):Prop :=
 (env.kindOf x = some .local∧m x = some u)∨((env.kindOf x = some .cell∨env.kindOf x = some .free)∧∃ c,env.cells.lookup x = some c∧h.IsCell c (some u))

structure Cx.Ok (X:Cx):Prop where
 mod:Mod X.K X.mg X.base
 kind:X.env.scope.kind = .function
 glob:X.env.globals = mainGlobals
 blt:X.env.builtins = builtinsNs
 above:X.s₀.heap.objs.size≤X.env.locals
 inj:∀ x y c,X.env.cells.lookup x = some c→X.env.cells.lookup y = some c→x = y
 has:∀ x,(X.env.kindOf x = some .cell∨X.env.kindOf x = some .free)→∃ c,X.env.cells.lookup x = some c
 cab:∀ x c,X.fn x = true→X.env.cells.lookup x = some c→X.s₀.heap.objs.size≤c
 hd:X.calm = true→X.A.handled = none
 frames:X.A.frames = some X.stack
 stk:X.stack = X.outer∨(X.stack = X.env :: X.outer∧X.env.frame = some X.env.locals)
 exf:∀ b∈X.ex,b≠X.env.locals∧∀ x c,X.env.cells.lookup x = some c→c≠b
 bs:∀ b o,X.base.get? b = some o→X.s₀.heap.get? b = some o∧X.H₀ b = none
 bsz:X.base.objs.size≤X.s₀.heap.objs.size
 noex:∀ b o,X.base.get? b = some o→b ∉ X.ex
 exfs:∀ b∈X.ex,b ∉ X.fs
 funs:X.s₀.heap.FunFrames X.base X.outer
 frf:∀ b∈X.fs,X.H₀ b = none

structure Inv (X:Cx) (pins:List (Addr × Obj)) (σ:List (Option V)) (H:Hp) (s:Shared):Prop where
 ok:X.Ok
 os:s.os = X.s₀.os
 bare:AllBare s.gens
 base:Un X.fs X.ex X.H₀ H X.s₀.heap s.heap
 loc:∃ m,s.heap.Ns X.env.locals m∧∀ (i:Nat) (x:Str) (v:V),X.N[i]? = some x→σ[i]? = some (some v)→Vis X.env.scope x→∃ u,RelV v u∧Look X.env s.heap m x u
 cell:∀ x c,X.env.cells.lookup x = some c→∃ v,s.heap.IsCell c v
 free:H X.env.locals = none
 freeC:∀ x c,X.env.cells.lookup x = some c→H c = none
 pin:∀ p∈X.pn ++ pins,s.heap.get? p.1 = some p.2∧H p.1 = none∧p.1≠X.env.locals∧p.1 ∉ X.fs∧∀ v,p.2.data≠.cell v
 hok:HOk X.prog X.w H s.heap
 len:σ.length = X.N.length

section
variable {X:Cx} {pins:List (Addr × Obj)} {σ:List (Option V)} {H H':Hp} {s:Shared} {h':Heap}

theorem Cx.Ok.nofr (ok:X.Ok) {b:Addr} {o:Obj} (e:X.base.get? b = some o):b ∉ X.fs:=fun hb=>by
 have:=(ok.funs.mem hb).1
 rw [e] at this; cases this
theorem Inv.bs (I:Inv X pins σ H s):∀ b o,X.base.get? b = some o→s.heap.get? b = some o∧H b = none:=fun b o e =>
 ⟨I.base.keep b o (I.ok.bs b o e).1 (I.ok.bs b o e).2 (I.ok.nofr e) (I.ok.noex b o e),I.base.free b o (I.ok.bs b o e).1 (I.ok.bs b o e).2 (I.ok.noex b o e)⟩
theorem Inv.bk (I:Inv X pins σ H s):∀ b o,X.base.get? b = some o→s.heap.get? b = some o:=fun b o e=>(I.bs b o e).1
theorem Inv.mod (I:Inv X pins σ H s):Mod X.K X.mg X.base:=I.ok.mod
theorem Inv.kIn (I:Inv X pins σ H s):X.K.In s.heap:=I.ok.mod.kin.keeps I.bk
theorem Inv.nolimit (I:Inv X pins σ H s):s.heap.NoLimit:=I.ok.mod.nolimit.keeps I.bk
theorem Inv.lt (I:Inv X pins σ H s):X.env.locals < s.heap.objs.size:=let ⟨_,hn,_⟩:=I.loc; hn.lt
theorem Inv.sz (I:Inv X pins σ H s):X.s₀.heap.objs.size≤s.heap.objs.size:=Nat.le_trans I.ok.above (Nat.le_of_lt I.lt)
theorem Inv.nofs (I:Inv X pins σ H s) {a:Addr} (h:s.heap.objs.size≤a):a ∉ X.fs:=fun hb=>by
 obtain ⟨_,o,ho,_⟩:=I.ok.funs.mem hb
 exact absurd (Nat.lt_of_lt_of_le (Heap.lt_size ho) (Nat.le_trans I.sz h)) (Nat.lt_irrefl _)
theorem Inv.cne (I:Inv X pins σ H s):∀ x c,X.env.cells.lookup x = some c→c≠X.env.locals:=fun x c e z=>by
 obtain ⟨v,o,ho,hd⟩:=I.cell x c e
 obtain ⟨m,⟨o',es,ep,ho',hd',_⟩,_⟩:=I.loc
 rw [z,ho'] at ho; cases ho; rw [hd'] at hd; cases hd
theorem Inv.funs (I:Inv X pins σ H s):s.heap.FunFrames X.base X.outer:=by
 have all:∀ (l:List Env),(∀ b∈frs l,b∈X.fs)→X.s₀.heap.FunFrames X.base l→s.heap.FunFrames X.base l:=by
  intro l
  induction l with
  | nil=>intro _ _; trivial
  | cons env r ih =>
   intro hs hl
   obtain ⟨hk,⟨L,o,hf,hn,ho,hd⟩,hr⟩:=hl
   have hL:L∈X.fs:=hs L (by unfold frs; rw [List.filterMap_cons,hf]; exact List.mem_cons_self)
   obtain ⟨sl,e⟩:=I.base.slot L o ho (I.ok.frf L hL) hL fun z=>I.ok.exfs L z hL
   exact ⟨hk,⟨L,_,hf,hn,e,hd⟩,ih (fun b hb=>hs b (by unfold frs; rw [List.filterMap_cons,hf]; exact List.mem_cons_of_mem _ hb)) hr⟩
 exact all X.outer (fun _ hb=>hb) I.ok.funs

theorem Inv.stack (I:Inv X pins σ H s):s.heap.FunFrames X.base X.stack:=by
 rcases I.ok.stk with e | ⟨e,hf⟩
 ·rw [e]; exact I.funs
 ·rw [e]
  obtain ⟨m,hn,_⟩:=I.loc
  refine .cons (by rw [I.ok.kind]; decide) hf hn ?_ I.funs
  exact Heap.get?_none_of_le (Nat.le_trans I.ok.bsz I.ok.above)
theorem Inv.stkSub (I:Inv X pins σ H s):∀ b∈frs X.stack,b∈X.env.locals :: X.fs:=fun b hb=>by
 rcases I.ok.stk with e | ⟨e,hf⟩
 ·rw [e] at hb; exact List.mem_cons_of_mem _ hb
 ·rw [e] at hb
  unfold frs at hb
  rw [List.filterMap_cons,hf] at hb
  exact hb
theorem Inv.stkFree (I:Inv X pins σ H s):∀ b∈frs X.stack,H b = none:=fun b hb=>by
 rcases List.mem_cons.mp (I.stkSub b hb) with e | hb
 ·rw [e]; exact I.free
 ·obtain ⟨_,o,ho,_⟩:=I.ok.funs.mem hb
  exact I.base.free b o ho (I.ok.frf b hb) fun z=>I.ok.exfs b z hb

theorem Inv.step {g':Array GenState} {t':Nat} {d':Drawn} {ch:List Addr} (I:Inv X pins σ H s)
  (hch:∀ b∈ch,(b∈X.ex∨X.s₀.heap.objs.size≤b)∧b≠X.env.locals∧(∀ x c,X.env.cells.lookup x = some c→c≠b)∧∀ p∈X.pn ++ pins,p.1≠b)
  (keep:∀ b o,b≠X.env.locals→b ∉ X.fs→b ∉ ch→s.heap.get? b = some o→H b = none→h'.get? b = some o)
  (slot:∀ b o,b≠X.env.locals→b∈X.fs→b ∉ ch→s.heap.get? b = some o→H b = none→∃ sl,h'.get? b = some { o with slots:=sl }) (free:∀ b o,b ∉ ch→s.heap.get? b = some o→H b = none→H' b = none)
  (there:∀ b o,b ∉ ch→s.heap.get? b = some o→∃ o',h'.get? b = some o')
  (tups:∀ b xs,H b = some (.tup xs)→H' b = some (.tup xs)) (frzs:∀ b o u,H b = some (.frz o u)→H' b = some (.frz o u)) (tbls:∀ b ps,H b = some (.tbl ps)→∃ more,H' b = some (.tbl (ps ++ more)))
  (ns:∀ m,s.heap.Ns X.env.locals m→h'.Ns X.env.locals m) (hok:HOk X.prog X.w H' h') (hg:AllBare g') :
  Inv X pins σ H' { s with heap:=h',gens:=g',drawn:=d',toks:=t' }:=by
 have neL:∀ b o,X.s₀.heap.get? b = some o→b≠X.env.locals:=fun b o e=>Nat.ne_of_lt (Nat.lt_of_lt_of_le (Heap.lt_size e) I.ok.above)
 have neC:∀ b o,X.s₀.heap.get? b = some o→b ∉ X.ex→b ∉ ch:=fun b o e hx hb=>by
  rcases (hch b hb).1 with z | z
  ·exact hx z
  ·exact absurd (Nat.lt_of_lt_of_le (Heap.lt_size e) z) (Nat.lt_irrefl _)
 have cellK:∀ x c,X.env.cells.lookup x = some c→∀ v,s.heap.IsCell c v→h'.IsCell c v:=fun x c e v ⟨o,ho,hd⟩=>by
  have nch:c ∉ ch:=fun z=>(hch c z).2.2.1 x c e rfl
  by_cases hc:c∈X.fs
  ·obtain ⟨sl,q⟩:=slot c o (I.cne x c e) hc nch ho (I.freeC x c e)
   exact ⟨_,q,hd⟩
  ·exact ⟨o,keep c o (I.cne x c e) hc nch ho (I.freeC x c e),hd⟩
 refine ⟨I.ok,I.os,hg,⟨fun b o e n hb hx=>?_,fun b o e n hb hx=>?_,fun b o e n hx=>?_,fun b o e hx=>?_,fun b xs e=>tups b xs (I.base.tups b xs e),fun b o xs e=>frzs b o xs (I.base.frzs b o xs e),fun b ps e=>?_⟩,?_,fun x c e=>?_,?_,fun x c e=>?_,fun p hp=>?_,hok,I.len⟩
 ·exact keep b o (neL b o e) hb (neC b o e hx) (I.base.keep b o e n hb hx) (I.base.free b o e n hx)
 ·obtain ⟨sl,e1⟩:=I.base.slot b o e n hb hx
  obtain ⟨sl',e2⟩:=slot b _ (neL b o e) hb (neC b o e hx) e1 (I.base.free b o e n hx)
  exact ⟨sl',e2⟩
 ·obtain ⟨o',e1⟩:=I.base.there b o e hx
  exact free b o' (neC b o e hx) e1 (I.base.free b o e n hx)
 ·obtain ⟨o',e1⟩:=I.base.there b o e hx
  exact there b o' (neC b o e hx) e1
 ·obtain ⟨m1,e1⟩:=I.base.tbls b ps e
  obtain ⟨m2,e2⟩:=tbls b _ e1
  exact ⟨m1 ++ m2,by rw [e2,Array.append_assoc]⟩
 ·obtain ⟨m,hn,hl⟩:=I.loc
  refine ⟨m,ns m hn,fun i x v e1 e2 e3=>?_⟩
  obtain ⟨u,r,l⟩:=hl i x v e1 e2 e3
  refine ⟨u,r,?_⟩
  rcases l with l | ⟨k,c,e,z⟩
  ·exact .inl l
  ·exact .inr ⟨k,c,e,cellK x c e _ z⟩
 ·obtain ⟨v,z⟩:=I.cell x c e
  exact ⟨v,cellK x c e v z⟩
 ·obtain ⟨m,⟨o,_,_,ho,_⟩,_⟩:=I.loc
  exact free _ o (fun z=>(hch _ z).2.1 rfl) ho I.free
 ·obtain ⟨v,o,ho,hd⟩:=I.cell x c e
  exact free c o (fun z=>(hch c z).2.2.1 x c e rfl) ho (I.freeC x c e)
 ·obtain ⟨e,n,ne,nf,d⟩:=I.pin p hp
  have nch:p.1 ∉ ch:=fun z=>(hch p.1 z).2.2.2 p hp rfl
  exact ⟨keep p.1 p.2 ne nf nch e n,free p.1 p.2 nch e n,ne,nf,d⟩
theorem Inv.un {t':Nat} (I:Inv X pins σ H s) (u:Un X.fs [] H H' s.heap h') (hok:HOk X.prog X.w H' h'):Inv X pins σ H' { s with heap:=h',toks:=t' }:=by
 obtain ⟨m,⟨o,es,ep,ho,r⟩,_⟩:=id I.loc
 obtain ⟨sl,hL⟩:=u.any ho I.free (by simp)
 exact I.step (g':=s.gens) (d':=s.drawn) (ch:=[]) (fun _ z=>nomatch z) (fun b o _ hb _ e n=>u.keep b o e n hb (by simp)) (fun b o _ hb _ e n=>u.slot b o e n hb (by simp)) (fun b o _ e n=>u.free b o e n (by simp)) (fun b o _ e=>u.there b o e (by simp)) u.tups u.frzs u.tbls (fun m' hm=>by
  obtain ⟨o',es',ep',ho',r'⟩:=hm
  rw [ho] at ho'; cases ho'
  exact ⟨_,es',ep',hL,r'⟩) hok I.bare
theorem Inv.call {g':Array GenState} {t':Nat} {d':Drawn} {ch:List Addr} (I:Inv X pins σ H s) (u:Un (frs X.stack) ch H H' s.heap h') (hok:HOk X.prog X.w H' h') (hg:AllBare g')
  (hch:∀ b∈ch,(b∈X.ex∨X.s₀.heap.objs.size≤b)∧b≠X.env.locals∧(∀ x c,X.env.cells.lookup x = some c→c≠b)∧∀ p∈X.pn ++ pins,p.1≠b) :
  Inv X pins σ H' { s with heap:=h',gens:=g',drawn:=d',toks:=t' }:=by
 obtain ⟨m,⟨o,es,ep,ho,r⟩,_⟩:=id I.loc
 obtain ⟨sl,hL⟩:=u.any ho I.free fun z=>(hch _ z).2.1 rfl
 exact I.step (ch:=ch) hch (fun b o hL hb hc e n=>u.keep b o e n (fun z=>(List.mem_cons.mp (I.stkSub b z)).elim hL hb) hc) (fun b o _ _ hc e n=>u.any e n hc) (fun b o hc e n=>u.free b o e n hc) (fun b o hc e=>u.there b o e hc) u.tups u.frzs u.tbls (fun m' hm=>by
  obtain ⟨o',es',ep',ho',r'⟩:=hm
  rw [ho] at ho'; cases ho'
  exact ⟨_,es',ep',hL,r'⟩) hok hg
theorem Inv.turned {t':Nat} {it:Addr} (I:Inv X pins σ H s) (k:∀ b o,b≠it→s.heap.get? b = some o→h'.get? b = some o) (hn:H it = none) (hL:it≠X.env.locals)
  (h1:it∈X.ex∨X.s₀.heap.objs.size≤it) (h2:∀ x c,X.env.cells.lookup x = some c→c≠it) (h3:∀ p∈X.pn ++ pins,p.1≠it):Inv X pins σ H { s with heap:=h',toks:=t' }:=by
 have nit:∀ b u,H b = some u→b≠it:=fun b u e z=>by rw [z,hn] at e; cases e
 refine I.step (g':=s.gens) (d':=s.drawn) (ch:=[it]) (fun b hb=>?_) (fun b o _ _ hc e _=>k b o (fun z=>hc (by simp [z])) e) (fun b o _ _ hc e _=>⟨o.slots,k b o (fun z=>hc (by simp [z])) e⟩) (fun _ _ _ _ n=>n)
  (fun b o hc e=>⟨o,k b o (fun z=>hc (by simp [z])) e⟩) (fun _ _ e=>e) (fun _ _ _ e=>e) (fun b ps e=>⟨#[],by rw [e]; simp⟩) (fun m hm=>?_) (fun b u e=>?_) I.bare
 ·have e:b = it:=by simpa using hb
  subst e
  exact ⟨h1,hL,h2,h3⟩
 ·obtain ⟨o,es,ep,ho,r⟩:=hm
  exact ⟨o,es,ep,k _ o (Ne.symm hL) ho,r⟩
 ·refine (I.hok b u e).stay (fun c v hc q=>k c v ?_ q) (fun _ q=>q) fun _ _ q=>q
  rcases hc with z | z
  ·rw [z]; exact nit b u e
  ·exact nit c _ z
theorem Inv.tok (I:Inv X pins σ H s) (t:Nat):Inv X pins σ H { s with toks:=t }:=I.un (h':=s.heap) (t':=t) Un.refl I.hok
theorem Inv.kept {t':Nat} (I:Inv X pins σ H s) (k:∀ b u,s.heap.get? b = some u→h'.get? b = some u):Inv X pins σ H { s with heap:=h',toks:=t' }:=I.un (Un.kept k) (I.hok.kept k)
theorem Inv.laid {a:Addr} {o:HO} {t':Nat} (I:Inv X pins σ H s) (k:∀ b u,s.heap.get? b = some u→h'.get? b = some u) (hp:s.heap.objs.size≤a) (new:zDh X.prog X.w (upd H a o) h' a o) :
  Inv X pins σ (upd H a o) { s with heap:=h',toks:=t' }:=I.un (Un.laid k hp (I.hok.fresh hp)) (I.hok.laid k hp new)
theorem Inv.write {x e:Addr} {o:HO} {t':Nat} (I:Inv X pins σ H s) (mu:Mut (H x)) (he:e = x∨H e = some (.own x)) (k:∀ b u,b≠e→s.heap.get? b = some u→h'.get? b = some u) (heo:∃ u,h'.get? e = some u)
  (new:zDh X.prog X.w (upd H x o) h' x o):Inv X pins σ (upd H x o) { s with heap:=h',toks:=t' }:=I.un (Un.write mu he k heo) (I.hok.write mu he k heo new)
theorem Inv.pins_of {pins':List (Addr × Obj)} (I:Inv X pins σ H s) (h:∀ p∈pins',s.heap.get? p.1 = some p.2∧H p.1 = none∧p.1≠X.env.locals∧p.1 ∉ X.fs∧∀ v,p.2.data≠.cell v):Inv X pins' σ H s :=
 ⟨I.ok,I.os,I.bare,I.base,I.loc,I.cell,I.free,I.freeC,fun p hp=>(List.mem_append.mp hp).elim (fun z=>I.pin p (List.mem_append_left _ z)) (h p),I.hok,I.len⟩

theorem zNx {N:List Str} (hN:N.Nodup) {i j:Nat} {x:Str} (a:N[i]? = some x) (b:N[j]? = some x):i = j:=by
 obtain ⟨h1,e1⟩:=List.getElem?_eq_some_iff.mp a
 obtain ⟨h2,e2⟩:=List.getElem?_eq_some_iff.mp b
 exact (List.getElem_inj hN).mp (e1.trans e2.symm)

theorem zK6 {M:Model} {A:Around} {E:Value→Shared→Prop} {i:Nat} {x:Str} {v:V} {u:Value} {Q:Unit→Shared→Prop} (I:Inv X pins σ H s) (hN:X.N.Nodup) (hi:X.N[i]? = some x) (hx:Loc X.env.scope x) (r:RelV v u)
  (h:∀ s',Inv X pins (σ.set i (some v)) H s'→(∃ a,Heap.SameBut a s.heap s'.heap∧(a = X.env.locals∨X.env.cells.lookup x = some a))→Q () s') (hf:X.fn x = true∨X.env.scope.names.lookup x = some .local:=by first | exact .inl rfl | exact .inr rfl | assumption):wpAny M A (storeName X.env x u) Q E s:=by
 obtain ⟨m,hn,hl⟩:=id I.loc
 have hcls:(X.env.scope.kind == .class || (X.env.scope.kind == .module && X.env.locals != X.env.globals)) = false:=by rw [I.ok.kind]; rfl
 have hiσ:i < σ.length:=by rw [I.len]; exact (List.getElem?_eq_some_iff.mp hi).1
 have cne:=I.cne
 have tracked:∀ {a:Addr} {h':Heap},(∃ o,s.heap.get? a = some o∧H a = none)→Heap.SameBut a s.heap h'→HOk X.prog X.w H h':=fun {a h'} ha hs b ob e=>by
  obtain ⟨_,_,hfree⟩:=ha
  refine (I.hok b ob e).stay (fun c w' hc q=>(hs.2 c ?_).trans q) (fun _ q=>q) fun _ _ q=>q
  rintro rfl
  rcases hc with rfl | hc
  ·rw [hfree] at e; cases e
  ·rw [hfree] at hc; cases hc
 rcases hx with hk | hk
 ·refine wpAny_storeName_local hk hn (fun h' hn' hs=>?_) hcls
  obtain ⟨oL,_,_,hoL,_⟩:=id hn
  refine h _ ⟨I.ok,I.os,I.bare,⟨fun b o e n hb hx=>?_,fun b o e n hb hx=>?_,I.base.free,fun b o e hx=>?_,I.base.tups,I.base.frzs,I.base.tbls⟩,⟨_,hn',fun j y v' e1 e2 e3=>?_⟩,fun y c e=>?_,I.free,I.freeC,fun p hp=>?_,tracked ⟨oL,hoL,I.free⟩ hs,by simpa using I.len⟩ ⟨_,hs,.inl rfl⟩
  ·exact (hs.2 b (Nat.ne_of_lt (Nat.lt_of_lt_of_le (Heap.lt_size e) I.ok.above))).trans (I.base.keep b o e n hb hx)
  ·obtain ⟨sl,e1⟩:=I.base.slot b o e n hb hx
   exact ⟨sl,(hs.2 b (Nat.ne_of_lt (Nat.lt_of_lt_of_le (Heap.lt_size e) I.ok.above))).trans e1⟩
  ·obtain ⟨o',e1⟩:=I.base.there b o e hx
   exact ⟨o',(hs.2 b (Nat.ne_of_lt (Nat.lt_of_lt_of_le (Heap.lt_size e) I.ok.above))).trans e1⟩
  ·by_cases hj:j = i
   ·subst hj
    rw [hi] at e1; cases e1
    rw [List.getElem?_set_self hiσ] at e2
    cases e2
    exact ⟨u,r,.inl ⟨hk,by simp⟩⟩
   ·rw [List.getElem?_set_ne (Ne.symm hj)] at e2
    obtain ⟨u',r',q⟩:=hl j y v' e1 e2 e3
    refine ⟨u',r',?_⟩
    rcases q with ⟨k,e⟩ | ⟨k,c,e,z⟩
    ·refine .inl ⟨k,?_⟩
     have:y≠x:=fun e=>hj (zNx hN e1 (e ▸ hi))
     simp [this,e]
    ·exact .inr ⟨k,c,e,z.sameBut hs (cne y c e)⟩
  ·obtain ⟨w',z⟩:=I.cell y c e
   exact ⟨w',z.sameBut hs (cne y c e)⟩
  ·obtain ⟨e,n,ne,nf,d⟩:=I.pin p hp
   exact ⟨(hs.2 p.1 ne).trans e,n,ne,nf,d⟩
 ·have hfn:X.fn x = true:=by
   rcases hf with z | z
   ·exact z
   ·rw [z] at hk; cases hk
  obtain ⟨c,hc⟩:=I.ok.has x (.inl hk)
  obtain ⟨w',z⟩:=I.cell x c hc
  refine wpAny_storeName_cell I.ok.kind hk hc z (fun h' hc' hs=>?_)
  obtain ⟨oc,hoc,hocd⟩:=id z
  refine h { s with heap:=h' } ⟨I.ok,I.os,I.bare,⟨fun b o e n hb hx=>?_,fun b o e n hb hx=>?_,I.base.free,fun b o e hx=>?_,I.base.tups,I.base.frzs,I.base.tbls⟩,⟨m,hn.sameBut hs (Ne.symm (cne x c hc)),fun j y v' e1 e2 e3=>?_⟩,fun y c' e=>?_,I.free,I.freeC,fun p hp=>?_,tracked ⟨oc,hoc,I.freeC x c hc⟩ hs,by simpa using I.len⟩ ⟨c,hs,.inr hc⟩
  ·exact (hs.2 b (Nat.ne_of_lt (Nat.lt_of_lt_of_le (Heap.lt_size e) (I.ok.cab x c hfn hc)))).trans (I.base.keep b o e n hb hx)
  ·obtain ⟨sl,e1⟩:=I.base.slot b o e n hb hx
   exact ⟨sl,(hs.2 b (Nat.ne_of_lt (Nat.lt_of_lt_of_le (Heap.lt_size e) (I.ok.cab x c hfn hc)))).trans e1⟩
  ·obtain ⟨o',e1⟩:=I.base.there b o e hx
   exact ⟨o',(hs.2 b (Nat.ne_of_lt (Nat.lt_of_lt_of_le (Heap.lt_size e) (I.ok.cab x c hfn hc)))).trans e1⟩
  ·by_cases hj:j = i
   ·subst hj
    rw [hi] at e1; cases e1
    rw [List.getElem?_set_self hiσ] at e2
    cases e2
    exact ⟨u,r,.inr ⟨.inl hk,c,hc,hc'⟩⟩
   ·rw [List.getElem?_set_ne (Ne.symm hj)] at e2
    obtain ⟨u',r',q⟩:=hl j y v' e1 e2 e3
    refine ⟨u',r',?_⟩
    rcases q with q | ⟨k,c',e,z'⟩
    ·exact .inl q
    ·refine .inr ⟨k,c',e,z'.sameBut hs ?_⟩
     rintro rfl
     exact hj (zNx hN e1 (I.ok.inj _ _ _ e hc ▸ hi))
  ·by_cases hcc:c' = c
   ·subst hcc; exact ⟨_,hc'⟩
   ·obtain ⟨w2,z2⟩:=I.cell y c' e
    exact ⟨w2,z2.sameBut hs hcc⟩
  ·obtain ⟨e,n,ne,nf,d⟩:=I.pin p hp
   refine ⟨(hs.2 p.1 ?_).trans e,n,ne,nf,d⟩
   intro q
   rw [q,hoc] at e
   have q':oc = p.2:=Option.some.inj e
   exact d w' (by rw [← q']; exact hocd)
theorem zEp {M:Model} {A:Around} {E:Value→Shared→Prop} {i:Nat} {x:Str} {v:V} {u:Value} {Q:Unit→Shared→Prop} (I:Inv X pins σ H s) (hN:X.N.Nodup) (hi:X.N[i]? = some x) (hx:Loc X.env.scope x) (r:RelV v u)
  (h:∀ s',Inv X pins (σ.set i (some v)) H s'→Q () s') (hf:X.fn x = true∨X.env.scope.names.lookup x = some .local:=by first | exact .inl rfl | exact .inr rfl | assumption):wpAny M A (storeName X.env x u) Q E s :=
 zK6 I hN hi hx r (fun s' I' _=>h s' I') hf
theorem Inv.call' {s':Shared} {ch:List Addr} (I:Inv X pins σ H s) (ho:s'.os = s.os) (u:Un (frs X.stack) ch H H' s.heap s'.heap) (hok:HOk X.prog X.w H' s'.heap) (hg:AllBare s'.gens)
  (hch:∀ b∈ch,(b∈X.ex∨X.s₀.heap.objs.size≤b)∧b≠X.env.locals∧(∀ x c,X.env.cells.lookup x = some c→c≠b)∧∀ p∈X.pn ++ pins,p.1≠b):Inv X pins σ H' s':=by
 obtain ⟨h',g',d',t',o'⟩:=s'
 have e:o' = s.os:=ho
 subst e
 exact I.call (g':=g') (t':=t') (d':=d') u hok hg hch
end

abbrev XK:=Value→Option Addr→Hp→Prop
abbrev St:=List (Option V)
abbrev VK:=V→Hp→Prop
abbrev TE:=St→Hp→VK→Prop
abbrev TT:=St→Hp→(Bool→Hp→Prop)→Prop
abbrev TA:=St→Hp→(List V→Hp→Prop)→Prop
structure Ends where
 nx:St→Hp→Prop
 rt:VK
 bk:St→Hp→Prop:=fun _ _=>False
 ct:St→Hp→Prop:=fun _ _=>False
abbrev TS:=Ends→St→Hp→Prop

def EP (X:Cx) (pins:List (Addr × Obj)) (σ:St) (Q:VK) (u:Value) (s':Shared):Prop:=∃ v H',Inv X pins σ H' s'∧RelV v u∧Q v H'
def TP (X:Cx) (pins:List (Addr × Obj)) (σ:St) (Q:Bool→Hp→Prop) (b:Bool) (s':Shared):Prop:=∃ H',Inv X pins σ H' s'∧Q b H'
def AP (X:Cx) (pins:List (Addr × Obj)) (σ:St) (Q:List V→Hp→Prop) (us:List Value) (s':Shared):Prop:=∃ vs H',Inv X pins σ H' s'∧Vals vs us∧Q vs H'
def SP (X:Cx) (pins:List (Addr × Obj)) (D:Ends) (f:Flow) (s':Shared):Prop :=
 match f with
 | .next=>∃ σ' H',Inv X pins σ' H' s'∧D.nx σ' H'
 | .brk=>∃ σ' H',Inv X pins σ' H' s'∧D.bk σ' H'
 | .cont=>∃ σ' H',Inv X pins σ' H' s'∧D.ct σ' H'
 | .ret u=>∃ v σ' H',Inv X pins σ' H' s'∧RelV v u∧D.rt v H'

def PE (X:Cx) (e:Expr) (t:TE):Prop :=
 ∀ (pins:List (Addr × Obj)) (s:Shared) (σ:St) (H:Hp) (Q:VK),Inv X pins σ H s→t σ H Q→wpAny (model X.prog X.w) X.A (eval e X.env) (EP X pins σ Q) X.xe s
def PT (X:Cx) (e:Expr) (t:TT):Prop :=
 ∀ (pins:List (Addr × Obj)) (s:Shared) (σ:St) (H:Hp) (Q:Bool→Hp→Prop),Inv X pins σ H s→t σ H Q→wpAny (model X.prog X.w) X.A (isTrue e X.env (eval e X.env)) (TP X pins σ Q) X.xe s
def PW (X:Cx) (e:Expr) (t:TT):Prop :=
 ∀ (whole:Sem Value) (pins:List (Addr × Obj)) (s:Shared) (σ:St) (H:Hp) (Q:Bool→Hp→Prop),Inv X pins σ H s→t σ H Q→wpAny (model X.prog X.w) X.A (isTrue e X.env whole) (TP X pins σ Q) X.xe s
theorem PW.pt {X:Cx} {e:Expr} {t:TT} (h:PW X e t):PT X e t:=h _
def PA (X:Cx) (es:List Expr) (t:TA):Prop :=
 ∀ (pos:Pos) (pins:List (Addr × Obj)) (s:Shared) (σ:St) (H:Hp) (Q:List V→Hp→Prop),Inv X pins σ H s→t σ H Q→wpAny (model X.prog X.w) X.A (spliced (backTo pos (starEach es X.env))) (AP X pins σ Q) X.xe s
def PS (X:Cx) (st:Stmt) (t:TS):Prop :=
 ∀ (pins:List (Addr × Obj)) (s:Shared) (σ:St) (H:Hp) (D:Ends),Inv X pins σ H s→t D σ H→wpAny (model X.prog X.w) X.A (exec st X.env) (SP X pins D) X.xe s
def PSs (X:Cx) (st:List Stmt) (t:TS):Prop :=
 ∀ (pins:List (Addr × Obj)) (s:Shared) (σ:St) (H:Hp) (D:Ends),Inv X pins σ H s→t D σ H→wpAny (model X.prog X.w) X.A (execs st X.env) (SP X pins D) X.xe s
theorem thn {α:Type} {t:Sem α} {Q Q':α→Shared→Prop} {M:Model} {A:Around} {E:Value→Shared→Prop} {s:Shared} (h:wpAny M A t Q E s) (hQ:∀ a s,Q a s→Q' a s):wpAny M A t Q' E s:=wpAny_mono h hQ fun _ _ x=>x
end L2

namespace L2
open PySem PySem.Spec PyProof.Rows
section
variable {X:Cx}

theorem bin {a b:Expr} {ta tb:TE} (ha:PE X a ta) (hb:PE X b tb) {pins:List (Addr × Obj)} {s:Shared} {σ:St} {H:Hp} {R:V→V→Hp→Prop} (I:Inv X pins σ H s) (h:ta σ H fun x H1=>tb σ H1 fun y H2=>R x y H2)
  {α:Type} {Q:α→Shared→Prop} {f:Value→Value→Sem α}
  (hf:∀ v u s2 x y H2,Inv X pins σ H2 s2→RelV x v→RelV y u→R x y H2→wpAny (model X.prog X.w) X.A (f v u) Q X.xe s2) :
  wpAny (model X.prog X.w) X.A (eval a X.env) (fun v s₁=>wpAny (model X.prog X.w) X.A (eval b X.env) (fun u s₂=>wpAny (model X.prog X.w) X.A (f v u) Q X.xe s₂) X.xe s₁) X.xe s:=by
 refine thn (ha pins s σ H _ I h) fun v s1 ⟨x,H1,I1,r1,q1⟩=>?_
 refine thn (hb pins s1 σ H1 _ I1 q1) fun u s2 ⟨y,H2,I2,r2,q2⟩=>?_
 exact hf v u s2 x y H2 I2 r1 r2 q2

inductive TVar (i:Nat) (σ:St) (H:Hp) (Q:VK):Prop where
 | mk (v:V) (e:σ[i]? = some (some v)) (q:Q v H)
def tVar (i:Nat):TE:=fun σ H Q=>TVar i σ H Q
def tC (v:V):TE:=fun _ H Q=>Q v H
theorem pe_var {i:Nat} {x:Str} {pos:Pos} (hN:X.N[i]? = some x) (hv:Vis X.env.scope x) (hd:(x == ("__debug__" : Str)) = false:=by decide) (hcd:(x == ("__classdict__" : Str)) = false:=by decide):PE X (.Name x pos) (tVar i):=by
 intro pins s σ H Q I h
 obtain ⟨v,e,h⟩:=h
 obtain ⟨m,hn,hl⟩:=I.loc
 obtain ⟨u,r,l⟩:=hl i x v hN e hv
 have fin:EP X pins σ Q u s:=⟨v,H,I,r,h⟩
 rcases l with ⟨hk,hm⟩ | ⟨hk,c,hc,hcell⟩
 ·exact wpAny_Name (wpAny_loadName_local I.ok.kind hk hn hm fin) hd
 ·rcases hk with hk | hk
  ·exact wpAny_Name (wpAny_loadName_cell I.ok.kind hk hc hcell fin) hd
  ·exact wpAny_Name (wpAny_loadName_free I.ok.kind hk hc hcell fin hcd) hd
theorem zAc {i j pos} : PE X (.Constant (.int i) j pos) (tC (.int i)):=fun _ _ _ H _ I h=>wpAny_Constant_int ⟨.int i,H,I.tok _,⟨_,rfl⟩,h⟩
theorem zGz {b j pos} : PE X (.Constant (.bool b) j pos) (tC (.bl b)):=fun _ _ _ H _ I h=>Constant_bool ⟨.bl b,H,I,rfl,h⟩
theorem zB7 {j pos} : PE X (.Constant .none j pos) (tC .non):=fun _ _ _ H _ I h=>Constant_none ⟨.non,H,I,rfl,h⟩
theorem zLe {x j pos} : PE X (.Constant (.str x) j pos) (tC (.str x)):=fun _ _ _ H _ I h=>Calls.Constant_str ⟨.str x,H,I.tok _,⟨_,rfl⟩,h⟩

def Gl (X:Cx) (x:Str):Prop:=X.env.kindOf x = some .globalImplicit
theorem zTq {E:Value→Shared→Prop} {pins:List (Addr × Obj)} {s:Shared} {σ:St} {H:Hp} {x:Str} {u:Value} {pos:Pos} {Q:Value→Shared→Prop} (I:Inv X pins σ H s) (hg:Gl X x) (hm:X.mg x = some u) (h:Q u s)
  (hd:(x == ("__debug__" : Str)) = false:=by decide):wpAny (model X.prog X.w) X.A (eval (.Name x pos) X.env) Q E s :=
 Calls.Name_function_global I.ok.kind hg (Calls.loadGlobal_global (by rw [I.ok.glob]; exact I.mod.glob.keeps I.bk) hm h) hd
theorem zJo {E:Value→Shared→Prop} {pins:List (Addr × Obj)} {s:Shared} {σ:St} {H:Hp} {x:Str} {u:Value} {pos:Pos} {Q:Value→Shared→Prop} (I:Inv X pins σ H s) (hg:Gl X x) (hm:X.mg x = none) (hv:bootBuiltins x = some u) (h:Q u s)
  (hn:x ≠ "__name__" := by decide) (hd:(x == ("__debug__" : Str)) = false:=by decide):wpAny (model X.prog X.w) X.A (eval (.Name x pos) X.env) Q E s:=by
 obtain ⟨mb,h1,h2⟩:=I.mod.blt
 exact Calls.Name_function_global I.ok.kind hg (Calls.loadGlobal_builtin (by rw [I.ok.glob]; exact I.mod.glob.keeps I.bk) hm (by rw [I.ok.blt]; exact h1.keeps I.bk) ((h2 x hn).trans hv) h) hd
variable {a b:Expr} {ta tb:TE} {pos:Pos}
def PC (X:Cx) (op:CmpOp) (a b:Expr) (t:TE):Prop :=
 ∀ (pins:List (Addr × Obj)) (s:Shared) (σ:St) (H:Hp) (Q:VK),Inv X pins σ H s→t σ H Q →
  wpAny (model X.prog X.w) X.A (eval a X.env) (fun v s₁=>wpAny (model X.prog X.w) X.A (eval b X.env) (fun u s₂=>wpAny (model X.prog X.w) X.A (compareOp op v u) (EP X pins σ Q) X.xe s₂) X.xe s₁) X.xe s
def tB (t:TE):TT:=fun σ H Q=>t σ H fun x H1=>∃ c,x = .bl c∧Q c H1
theorem pt_cmp {op:CmpOp} {t:TE} (h:PC X op a b t) (h1:behindInMarks op b = false:=by first | exact nobehind _ (by decide) (by decide) | rfl):PT X (.Compare a [op] [b] pos) (tB t):=by
 intro pins s σ H Q I hw
 refine wpAny_isTrue_Compare1 (thn (h pins s σ H _ I hw) fun v s1 h1=>thn h1 fun u s2 h2=>thn h2 fun c s3 ⟨x,H1,I1,r1,q1⟩=>?_) h1
 obtain ⟨d,rfl,q⟩:=q1
 cases r1
 exact wpAny_truthy_bool ⟨H1,I1,q⟩
theorem zEv {e:Expr} {t:TE} (h:PE X e t) (he:∀ whole,isTrue e X.env whole = (do let v ← whole; standAt e.pos; holding [v] (truthy v)):=by intro _; rfl):PT X e (tB t):=by
 intro pins s σ H Q I hw
 refine isTrue_plain (thn (h pins s σ H _ I hw) fun v s1 ⟨x,H1,I1,r1,q1⟩=>?_) (he _)
 obtain ⟨d,rfl,q⟩:=q1
 cases r1
 exact wpAny_truthy_bool ⟨H1,I1,q⟩

variable {tA tB':TT} {rest:List Expr}
def tAnd (t u:TT):TT:=fun σ H Q=>t σ H fun c H1=>if c = true then u σ H1 Q else Q false H1
def tOr (t u:TT):TT:=fun σ H Q=>t σ H fun c H1=>if c = true then Q true H1 else u σ H1 Q
def tNot (t:TT):TT:=fun σ H Q=>t σ H fun c H1=>Q (!c) H1
theorem zEg (ha:PT X a tA):PW X (.BoolOp .And [a] pos) tA:=by
 intro wh pins s σ H Q I h
 refine isTrue_and (thn (ha pins s σ H Q I h) fun c s1 e=>?_)
 cases c with
 | true=>exact isTrue_and_nil e
 | false=>exact e
theorem zS4 (ha:PT X a tA):PW X (.BoolOp .Or [a] pos) tA:=by
 intro wh pins s σ H Q I h
 refine isTrue_or (thn (ha pins s σ H Q I h) fun c s1 e=>?_)
 cases c with
 | false=>exact isTrue_or_nil e
 | true=>exact e
theorem zGu (ha:PT X a tA) (hb:PW X (.BoolOp .And (b :: rest) pos) tB'):PW X (.BoolOp .And (a :: b :: rest) pos) (tAnd tA tB'):=by
 intro wh pins s σ H Q I h
 refine isTrue_and (thn (ha pins s σ H _ I h) fun c s1 ⟨H1,I1,q1⟩=>?_)
 cases c with
 | true=>exact hb wh pins s1 σ H1 Q I1 q1
 | false=>exact ⟨H1,I1,q1⟩
theorem pw_or (ha:PT X a tA) (hb:PW X (.BoolOp .Or (b :: rest) pos) tB'):PW X (.BoolOp .Or (a :: b :: rest) pos) (tOr tA tB'):=by
 intro wh pins s σ H Q I h
 refine isTrue_or (thn (ha pins s σ H _ I h) fun c s1 ⟨H1,I1,q1⟩=>?_)
 cases c with
 | true=>exact ⟨H1,I1,q1⟩
 | false=>exact hb wh pins s1 σ H1 Q I1 q1
theorem zJw (ha:PT X a tA):PT X (.UnaryOp .Not a pos) (tNot tA):=by
 intro pins s σ H Q I h
 exact isTrue_not (ha pins s σ H (fun c H1=>Q (!c) H1) I h)
def tAndV (ta tb:TE):TE:=fun σ H Q=>ta σ H fun x H1=>∃ c,x = .bl c∧if c = true then tb σ H1 Q else Q (.bl false) H1
theorem zQu {op} {t:TE} (h:PE X a t):PE X (.BoolOp op [a] pos) t:=fun pins s σ H Q I hw=>BoolOp_one (h pins s σ H Q I hw)
theorem zTh (ha:PE X a ta) (hb:PE X (.BoolOp .And (b :: rest) pos) tb):PE X (.BoolOp .And (a :: b :: rest) pos) (tAndV ta tb):=by
 intro pins s σ H Q I h
 refine BoolOp_and (thn (ha pins s σ H _ I h) fun v s1 ⟨x,H1,I1,r1,q1⟩=>?_)
 obtain ⟨c,rfl,q1⟩:=q1
 cases r1
 refine wpAny_truthy_bool ?_
 cases c with
 | true=>exact hb pins s1 σ H1 Q I1 q1
 | false=>exact ⟨.bl false,H1,I1,rfl,q1⟩
def tIf (t:TT) (ta tb:TE):TE:=fun σ H Q=>t σ H fun c H1=>if c = true then ta σ H1 Q else tb σ H1 Q
theorem zSw {c:Expr} (hc:PT X c tA) (ha:PE X a ta) (hb:PE X b tb):PE X (.IfExp c a b pos) (tIf tA ta tb):=by
 intro pins s σ H Q I h
 refine wpAny_IfExp (thn (hc pins s σ H _ I h) fun d s1 ⟨H1,I1,q1⟩=>?_)
 cases d with
 | true=>exact ha pins s1 σ H1 Q I1 q1
 | false=>exact hb pins s1 σ H1 Q I1 q1
end
end L2

namespace L2
open PySem PySem.Spec PyProof.Rows

def SqL (K:PySem.W.Frag) (H:Hp) (a:Addr) (xs:List V):Prop :=
 Rd H a (.lst xs) ∨
  ∃ (o:Obj) (its:Array Value) (n:Nat),K.lookup a = some o∧o.cls = .type "list" ∧ o.dict = none∧o.data = .seq its n∧its.size≤sizeLine∧Vals xs its.toList
def SqT (K:PySem.W.Frag) (H:Hp) (a:Addr) (xs:List V):Prop :=
 Rd H a (.tup xs) ∨
  ∃ (o:Obj) (its:Array Value) (n:Nat),K.lookup a = some o∧o.cls = .type "tuple" ∧ o.data = .seq its n∧its.size≤sizeLine∧Vals xs its.toList
def absV:Value→Option V
 | .none=>some .non
 | .bool b=>some (.bl b)
 | .int i _=>some (.int i)
 | .str x _=>some (.str x)
 | .bytes b _=>some (.byt b)
 | .float b _=>some (.flt b)
 | .ref a=>some (.ref a)
 | .type n=>some (.ty n)
 | _=>none
theorem RelV.abs {x:V} {u:Value} (r:RelV x u):absV u = some x:=by
 cases x with
 | non=>cases r; rfl
 | bl _=>cases r; rfl
 | int _=>obtain ⟨t,rfl⟩:=r; rfl
 | str _=>obtain ⟨t,rfl⟩:=r; rfl
 | byt _=>obtain ⟨t,rfl⟩:=r; rfl
 | flt _=>obtain ⟨t,rfl⟩:=r; rfl
 | ref _=>cases r; rfl
 | ty _=>cases r; rfl
theorem RelV.inj {x y:V} {u:Value} (r:RelV x u) (q:RelV y u):x = y:=Option.some.inj (r.abs.symm.trans q.abs)
theorem Vals.inj:∀ {xs ys:List V} {us:List Value},Vals xs us→Vals ys us→xs = ys
 | _,_,_,.nil,.nil=>rfl
 | _,_,_,.cons r t,.cons r' t'=>by rw [r.inj r',Vals.inj t t']
section
variable {X:Cx} {pins:List (Addr × Obj)} {σ:St} {H:Hp} {s:Shared} {a:Addr} {xs ys:List V}
theorem SqL.of {K:PySem.W.Frag} (h:H a = some (.lst xs)):SqL K H a xs:=.inl (.inl h)
theorem SqT.of {K:PySem.W.Frag} (h:H a = some (.tup xs)):SqT K H a xs:=.inl (.inl h)
theorem Inv.list (I:Inv X pins σ H s) (h:SqL X.K H a xs):∃ its:List Value,Vals xs its∧PlainL s.heap a its.toArray∧xs.length≤sizeLine:=by
 rcases h with h | ⟨o,its,n,hk,hc,hd,hs,hz,r⟩
 ·obtain ⟨z,its,n,r,e⟩:=h.ok I.hok
  exact ⟨its,r,⟨_,n,e,rfl,rfl,rfl⟩,z⟩
 ·refine ⟨its.toList,r,⟨o,n,I.kIn a o hk,hc,hd,by simpa using hs⟩,?_⟩
  have e:=r.length
  simp only [Array.length_toList] at e
  omega
theorem Inv.tuple (I:Inv X pins σ H s) (h:SqT X.K H a xs):∃ its:List Value,Vals xs its∧IsTup s.heap a its.toArray∧xs.length≤sizeLine:=by
 rcases h with h | ⟨o,its,n,hk,hc,hs,hz,r⟩
 ·obtain ⟨z,its,r,p⟩:=h.ok I.hok
  exact ⟨its,r,p,z⟩
 ·refine ⟨its.toList,r,⟨o,I.kIn a o hk,hc,n,by simpa using hs⟩,?_⟩
  have e:=r.length
  simp only [Array.length_toList] at e
  omega
theorem Inv.list_inj (I:Inv X pins σ H s) (h:SqL X.K H a xs) (h':SqL X.K H a ys):xs = ys:=by
 obtain ⟨its,r,⟨o,n,e,_,_,d⟩,_⟩:=I.list h
 obtain ⟨its',r',⟨o',n',e',_,_,d'⟩,_⟩:=I.list h'
 rw [e] at e'; cases e'
 rw [d] at d'
 injection d' with d1 _
 have:its = its':=by simpa using congrArg Array.toList d1
 subst this
 exact r.inj r'
theorem Inv.tuple_inj (I:Inv X pins σ H s) (h:SqT X.K H a xs) (h':SqT X.K H a ys):xs = ys:=by
 obtain ⟨its,r,⟨o,e,_,n,d⟩,_⟩:=I.tuple h
 obtain ⟨its',r',⟨o',e',_,n',d'⟩,_⟩:=I.tuple h'
 rw [e] at e'; cases e'
 rw [d] at d'
 injection d' with d1 _
 have:its = its':=by simpa using congrArg Array.toList d1
 subst this
 exact r.inj r'
end

abbrev Cx.wish (X:Cx) (E:Value→Shared→Prop):Cx:={ X with xe:=E }
abbrev Cx.nox (X:Cx):Cx:=X.wish fun _ _=>False
theorem Cx.Ok.wish {X:Cx} (ok:X.Ok) (E:Value→Shared→Prop):(X.wish E).Ok :=
 ⟨ok.mod,ok.kind,ok.glob,ok.blt,ok.above,ok.inj,ok.has,ok.cab,ok.hd,ok.frames,ok.stk,ok.exf,ok.bs,ok.bsz,ok.noex,ok.exfs,ok.funs,ok.frf⟩
theorem Cx.Ok.unwish {X:Cx} {E:Value→Shared→Prop} (ok:(X.wish E).Ok):X.Ok :=
 ⟨ok.mod,ok.kind,ok.glob,ok.blt,ok.above,ok.inj,ok.has,ok.cab,ok.hd,ok.frames,ok.stk,ok.exf,ok.bs,ok.bsz,ok.noex,ok.exfs,ok.funs,ok.frf⟩
section
variable {X:Cx} {pins:List (Addr × Obj)} {σ:St} {H:Hp} {s:Shared} {E:Value→Shared→Prop}
theorem Inv.wish (I:Inv X pins σ H s) (E:Value→Shared→Prop):Inv (X.wish E) pins σ H s:=⟨I.ok.wish E,I.os,I.bare,I.base,I.loc,I.cell,I.free,I.freeC,I.pin,I.hok,I.len⟩
theorem Inv.unwish (I:Inv (X.wish E) pins σ H s):Inv X pins σ H s:=⟨I.ok.unwish,I.os,I.bare,I.base,I.loc,I.cell,I.free,I.freeC,I.pin,I.hok,I.len⟩
theorem SP.unwish {D:Ends} {f:Flow} {s':Shared} (h:SP (X.wish E) pins D f s'):SP X pins D f s':=by
 cases f with
 | next=>obtain ⟨σ',H',I,q⟩:=h; exact ⟨σ',H',I.unwish,q⟩
 | brk=>obtain ⟨σ',H',I,q⟩:=h; exact ⟨σ',H',I.unwish,q⟩
 | cont=>obtain ⟨σ',H',I,q⟩:=h; exact ⟨σ',H',I.unwish,q⟩
 | ret u=>obtain ⟨v,σ',H',I,r,q⟩:=h; exact ⟨v,σ',H',I.unwish,r,q⟩
theorem PSs.nox {st:List Stmt} {t:TS} (h:PSs X.nox st t):PSs X st t:=fun pins s σ H D I hw =>
 wpAny_mono (h pins s σ H D (I.wish _) hw) (fun _ _ q=>q.unwish) fun _ _ z=>False.elim z
end

section
variable {X:Cx} {st:Stmt} {rest:List Stmt} {t u:TS} {e:Expr} {te:TE} {pos:Pos}
def tNext:TS:=fun D σ H=>D.nx σ H
def tSeq (t u:TS):TS:=fun D σ H=>t { D with nx:=u D } σ H
theorem zAx:PSs X [] tNext:=fun _ _ σ H _ I h=>wpAny_execs_nil ⟨σ,H,I,h⟩
theorem zAg (h1:PS X st t) (h2:PSs X rest u):PSs X (st :: rest) (tSeq t u):=by
 intro pins s σ H D I h
 refine wpAny_execs_cons (thn (h1 pins s σ H { D with nx:=u D } I h) fun f s1 q=>?_)
 cases f with
 | next =>
  obtain ⟨σ',H',I',q⟩:=q
  exact h2 pins s1 σ' H' D I' q
 | ret v=>exact q
 | brk=>exact q
 | cont=>exact q
theorem zAi (h1:PS X st t):PSs X [st] t:=by
 intro pins s σ H D I h
 refine wpAny_execs_cons (thn (h1 pins s σ H D I h) fun f s1 q=>?_)
 cases f with
 | next=>exact wpAny_execs_nil q
 | ret v=>exact q
 | brk=>exact q
 | cont=>exact q
theorem Inv.quiet {pins:List (Addr × Obj)} {σ:St} {H:Hp} {s:Shared} (I:Inv X pins σ H s):interactive X.env = false:=by simp [interactive,I.ok.kind]
def tDrop (te:TE):TS:=fun D σ H=>te σ H fun _ H1=>D.nx σ H1
theorem zIq (he:PE X e te) (hs:swapsWith e none pos.line X.env = pure false:=by rfl):PS X (.Expr e pos) (tDrop te):=by
 intro pins s σ H D I h
 exact wpAny_Expr_any (thn (he pins s σ H _ I h) fun v s1 ⟨x,H1,I1,r1,q1⟩=>⟨σ,H1,I1,q1⟩) I.quiet hs
def tRet (te:TE):TS:=fun D σ H=>te σ H D.rt
theorem zAp (he:PE X e te):PS X (.Return (some e) pos) (tRet te):=by
 intro pins s σ H D I h
 exact wpAny_Return_some (thn (he pins s σ H _ I h) fun v s1 ⟨x,H1,I1,r1,q1⟩=>⟨x,σ,H1,I1,r1,q1⟩)
def tIfS (c:TT) (t u:TS):TS:=fun D σ H=>c σ H fun b H1=>if b = true then t D σ H1 else u D σ H1
theorem zBj {c:Expr} {a b:List Stmt} {tc:TT} (hc:PT X c tc) (ha:PSs X a t) (hb:PSs X b u):PS X (.If c a b pos) (tIfS tc t u):=by
 intro pins s σ H D I h
 refine wpAny_If (thn (hc pins s σ H _ I h) fun d s1 ⟨H1,I1,q1⟩=>?_)
 cases d with
 | true=>exact ha pins s1 σ H1 D I1 q1
 | false=>exact hb pins s1 σ H1 D I1 q1
end

abbrev TG:=V→St→Hp→(St→Hp→Prop)→Prop
abbrev TGs:=List V→St→Hp→(St→Hp→Prop)→Prop
def PG (X:Cx) (target:Expr) (t:TG):Prop :=
 ∀ (pins:List (Addr × Obj)) (s:Shared) (σ:St) (H:Hp) (v:V) (u:Value) (Q:St→Hp→Prop),Inv X pins σ H s→RelV v u→t v σ H Q →
  wpAny (model X.prog X.w) X.A (assign target X.env u) (fun _ s'=>∃ σ' H',Inv X pins σ' H' s'∧Q σ' H') X.xe s
def PGs (X:Cx) (ts:List Expr) (t:TGs):Prop :=
 ∀ (pins:List (Addr × Obj)) (s:Shared) (σ:St) (H:Hp) (vs:List V) (us:List Value) (Q:St→Hp→Prop),Inv X pins σ H s→Vals vs us→t vs σ H Q →
  wpAny (model X.prog X.w) X.A (assignInOrder ((assignEach ts X.env).map (·.2)) us) (fun _ s'=>∃ σ' H',Inv X pins σ' H' s'∧Q σ' H') X.xe s
abbrev TSet:=V→V→V→Hp→(Hp→Prop)→Prop
def PSet (X:Cx) (t:TSet):Prop :=
 ∀ (pins:List (Addr × Obj)) (s:Shared) (σ:St) (H:Hp) (o i v:V) (ov iv u:Value) (Q:Hp→Prop),Inv X pins σ H s→RelV o ov→RelV i iv→RelV v u→t o i v H Q →
  wpAny (model X.prog X.w) X.A (setItem ov iv u) (fun _ s'=>∃ H',Inv X pins σ H' s'∧Q H') X.xe s
section
variable {X:Cx} {pos:Pos}
def zTt (i:Nat):TG:=fun v σ H Q=>Q (σ.set i (some v)) H
theorem zAt {i:Nat} {x:Str} (hN:X.N.Nodup) (hi:X.N[i]? = some x) (hx:Loc X.env.scope x) (hf:X.fn x = true∨X.env.scope.names.lookup x = some .local:=by first | exact .inl rfl | exact .inr rfl | assumption):PG X (.Name x pos) (zTt i):=by
 intro pins s σ H v u Q I r h
 exact wpAny_assign_Name (zEp I hN hi hx r (fun s' I'=>⟨_,H,I',h⟩) hf)
def gNil:TGs:=fun vs σ H Q=>vs = []∧Q σ H
def gCons (t:TG) (u:TGs):TGs:=fun vs σ H Q=>∃ v r,vs = v :: r∧t v σ H fun σ' H'=>u r σ' H' Q
theorem zEx:PGs X [] gNil:=by
 intro pins s σ H vs us Q I r h
 obtain ⟨e,h⟩:=h
 subst e
 cases r
 exact assignInOrder_nil ⟨σ,H,I,h⟩
theorem zA7 {e:Expr} {es:List Expr} {t:TG} {u:TGs} (h1:PG X e t) (h2:PGs X es u)
  (hs:(assignEach (e :: es) X.env).map (·.2) = assign e X.env :: (assignEach es X.env).map (·.2):=by rfl):PGs X (e :: es) (gCons t u):=by
 intro pins s σ H vs us Q I r h
 obtain ⟨v,vr,e1,h⟩:=h
 subst e1
 cases r with
 | cons r rr =>
  rw [hs]
  refine assignInOrder_cons (thn (h1 pins s σ H _ _ _ I r h) fun _ s1 ⟨σ1,H1,I1,q1⟩=>?_)
  exact h2 pins s1 σ1 H1 _ _ Q I1 rr q1
def gTup (K:PySem.W.Frag) (n:Nat) (t:TGs):TG:=fun v σ H Q=>∃ a xs,v = .ref a∧SqT K H a xs∧xs.length = n∧t xs σ H Q
theorem zG8 {es:List Expr} {k:Nat} {t:TGs} {n:Nat} (hc:X.calm = true) (h:PGs X es t)
  (hn:(assignEach es X.env).length = n:=by rfl) (hst:(assignEach es X.env).findIdx? (·.1) = none:=by rfl):PG X (.Tuple es k pos) (gTup X.K n t):=by
 intro pins s σ H v u Q I r hw
 obtain ⟨a,xs,e1,hq,hl,hw⟩:=hw
 subst e1
 cases r
 obtain ⟨its,rv,ht,hz⟩:=I.tuple hq
 refine assign_Tuple_tuple (I.ok.hd hc) ht (by simp [hn,← hl,rv.length]) hst fun h' hx=>?_
 have I1:Inv X pins σ H { s with heap:=h' }:=I.kept (t':=s.toks) fun b o e=>hx b o (Nat.ne_of_lt (Heap.lt_size e)) e
 exact h pins _ σ H xs _ Q I1 (by simpa using rv) hw
def gSub (to ti:TE) (t:TSet):TG:=fun v σ H Q=>to σ H fun o H1=>ti σ H1 fun i H2=>t o i v H2 fun H3=>Q σ H3
theorem pg_sub {o i:Expr} {to ti:TE} {t:TSet} (ho:PE X o to) (hi:PE X i ti) (hs:PSet X t)
  (ha:∀ v,assign (.Subscript o i pos) X.env v = (do
   let ov ← holding [v] (eval o X.env)
   let iv ← holding [v,ov] (eval i X.env)
   standAt pos
   holding [v,ov,iv] (setItem ov iv v)
   release [v,ov,iv] []):=by intro _; rfl):PG X (.Subscript o i pos) (gSub to ti t):=by
 intro pins s σ H v u Q I r h
 rw [ha]
 refine wpAny_bind (wpAny_holding (thn (ho pins s σ H _ I h) fun ov s1 ⟨x,H1,I1,r1,q1⟩=>?_))
 refine wpAny_bind (wpAny_holding (thn (hi pins s1 σ H1 _ I1 q1) fun iv s2 ⟨y,H2,I2,r2,q2⟩=>?_))
 refine wpAny_bind (wpAny_standAt (wpAny_bind (wpAny_holding (thn (hs pins s2 σ H2 x y v ov iv u _ I2 r1 r2 r q2) fun _ s3 ⟨H3,I3,q3⟩=>?_))))
 exact wpAny_release ⟨σ,H3,I3,q3⟩
def tAsg (te:TE) (g:TG):TS:=fun D σ H=>te σ H fun x H1=>g x σ H1 D.nx
theorem zNv {tg e:Expr} {te:TE} {g:TG} (he:PE X e te) (hg:PG X tg g) (hs:swapsWithSole [tg] e pos.line X.env = pure false:=by rfl) (hw:swappedStores [tg] e X.env = pure none:=by rfl)
  (h1:(assignEach [tg] X.env).map (·.2) = [assign tg X.env]:=by rfl):PS X (.Assign [tg] e pos) (tAsg te g):=by
 intro pins s σ H D I h
 refine wpAny_Assign_stores (thn (he pins s σ H _ I h) fun v s1 ⟨x,H1,I1,r1,q1⟩=>?_) hs hw
 rw [h1]
 exact thn (hg pins s1 σ H1 x v _ I1 r1 q1) fun _ s2 q=>q
theorem zAr {i:Nat} {x:Str} {e:Expr} {te:TE} {pos':Pos} (hN:X.N.Nodup) (hi:X.N[i]? = some x) (hx:Loc X.env.scope x) (he:PE X e te) (hs:swapsWith e (some (.Name x pos')) pos.line X.env = pure false:=by rfl) (hf:X.fn x = true∨X.env.scope.names.lookup x = some .local:=by first | exact .inl rfl | exact .inr rfl | assumption) :
  PS X (.Assign [.Name x pos'] e pos) (tAsg te (zTt i)):=by
 intro pins s σ H D I h
 refine wpAny_Assign_Name (thn (he pins s σ H _ I h) fun v s1 ⟨y,H1,I1,r1,q1⟩=>?_) hs
 exact zEp I1 hN hi hx r1 (fun s2 I2=>⟨_,H1,I2,q1⟩) hf
def tPar (i j:Nat) (ta:TA):TS:=fun D σ H=>ta σ H fun vs H1=>∃ v w,vs = [v,w]∧D.nx ((σ.set i (some v)).set j (some w)) H1
theorem ps_par {i j:Nat} {x y:Str} {a b:Expr} {ta:TA} {px py pt:Pos} {kt k2 pt2} (hc:X.calm = true) (hN:X.N.Nodup) (hi:X.N[i]? = some x) (hj:X.N[j]? = some y) (hij:i≠j)
  (hx:X.env.scope.names.lookup x = some .local) (hy:X.env.scope.names.lookup y = some .local) (ha:PA X [a,b] ta)
  (hw:swappedStores [.Tuple [.Name x px,.Name y py] kt pt] (.Tuple [a,b] k2 pt2) X.env = pure (some [x,y]))
  (hs:swapsWithSole [.Tuple [.Name x px,.Name y py] kt pt] (.Tuple [a,b] k2 pt2) pos.line X.env = pure false:=by rfl) :
  PS X (.Assign [.Tuple [.Name x px,.Name y py] kt pt] (.Tuple [a,b] k2 pt2) pos) (tPar i j ta):=by
 intro pins s σ H D I h
 rw [exec_Assign_arm]
 refine wpAny_bind (wpAny_standAt ?_)
 rw [hs]
 refine wpAny_bind (wpAny_pure ?_)
 rw [if_neg (by decide)]
 refine wpAny_bind (Tuple_ (thn (ha _ pins s σ H _ I h) fun us s1 ⟨vs,H1,I1,r1,q1⟩=>?_))
 obtain ⟨v,w,e1,q1⟩:=q1
 subst e1
 obtain ⟨u1,u2,rfl,rv,rw'⟩:∃ u1 u2,us = [u1,u2]∧RelV v u1∧RelV w u2:=by
  cases r1 with
  | cons p q =>
   cases q with
   | cons p' q' =>
    cases q'
    exact ⟨_,_,rfl,p,p'⟩
 refine wpAny_newObj_type ?_ (by show 2≤sizeLine; decide)
 have I2:Inv X pins σ H1 { s1 with heap:=s1.heap.push { cls:=.type "tuple", data:=.seq [u1,u2].toArray } }:=I1.kept (t':=s1.toks) fun b o e=>Heap.get?_push_of_some _ e
 rw [hw]
 refine wpAny_bind (wpAny_pure ?_)
 show wpAny (model X.prog X.w) X.A (do rule "assign.swapped-stores"; let items ← unpackItems (.ref s1.heap.objs.size) 2 none; assignInOrder [fun v=>bindName X.env y v,fun v=>bindName X.env x v] items.reverse; pure Flow.next) _ _ _
 refine wpAny_bind (wpAny_rule (wpAny_bind (unpackItems_tuple (items:=#[u1,u2]) (I.ok.hd hc) (IsTup.new s1.heap _) fun h' hx'=>?_)))
 have I3:=I2.kept (h':=h') (t':=s1.toks) fun b o e=>hx' b o (Nat.ne_of_lt (Heap.lt_size e)) e
 show wpAny _ _ (assignInOrder [fun v=>bindName X.env y v,fun v=>bindName X.env x v] [u2,u1] >>= fun _=>pure Flow.next) _ _ _
 refine wpAny_bind (assignInOrder_cons (wpAny_bindName (zEp I3 hN hj (.inl hy) rw' (fun s2 I4=>?_) (.inr hy))))
 refine assignInOrder_cons (wpAny_bindName (zEp I4 hN hi (.inl hx) rv (fun s3 I5=>assignInOrder_nil (wpAny_pure ?_)) (.inr hx)))
 rw [List.set_comm _ _ (Ne.symm hij)] at I5
 exact ⟨_,H1,I5,q1⟩
end

section
variable {X:Cx} {pos:Pos}
def zS8 (c:TT) (tb:TS):TS:=fun D σ H=>∃ W:Nat→St→Hp→Prop,(∃ m,W m σ H)∧∀ m σ H,W m σ H →
 c σ H fun b H1=>if b = true then ∃ N:St→Hp→Prop,(∀ σ' H',N σ' H'→∃ m',m' < m∧W m' σ' H')∧tb { D with nx:=N,ct:=N,bk:=D.nx } σ H1 else D.nx σ H1
theorem zF5 {c:Expr} {body:List Stmt} {tc:TT} {tb:TS} (hp:PassesOwn (model X.prog X.w) X.A X.env X.xe) (hc:PT X c tc) (hb:PSs X body tb):PS X (.While c body [] pos) (zS8 tc tb):=by
 intro pins s σ H D I h
 obtain ⟨W,⟨m0,w0⟩,turn⟩:=h
 refine wpAny_While (codeAny_whileLoop (fun n s'=>∃ σ' H',Inv X pins σ' H' s'∧W n σ' H') ?_ m0 ⟨σ,H,I,w0⟩)
 rintro n s1 ⟨σ1,H1,I1,w1⟩
 refine wpAny_passesOwn hp (thn (hc pins s1 σ1 H1 _ I1 (turn n σ1 H1 w1)) fun b s2 ⟨H2,I2,q2⟩=>?_)
 cases b with
 | true =>
  obtain ⟨N,hN,q2⟩:=q2
  rw [if_pos rfl]
  refine wpAny_passesOwn hp (thn (hb pins s2 σ1 H2 _ I2 q2) fun f s3 q3=>?_)
  cases f with
  | next =>
   obtain ⟨σ3,H3,I3,n3⟩:=q3
   obtain ⟨m',hm,w3⟩:=hN σ3 H3 n3
   exact ⟨m',hm,σ3,H3,I3,w3⟩
  | cont =>
   obtain ⟨σ3,H3,I3,n3⟩:=q3
   obtain ⟨m',hm,w3⟩:=hN σ3 H3 n3
   exact ⟨m',hm,σ3,H3,I3,w3⟩
  | brk=>exact q3
  | ret v=>exact q3
 | false =>
  rw [if_neg Bool.false_ne_true]
  exact wpAny_execs_nil ⟨σ1,H2,I2,q2⟩
end

structure It where
 go:Nat→Hp→Prop
 yld:Nat→Hp→V→Hp→Prop
 stop:Nat→Hp→Prop
def FpOk (X:Cx) (pins:List (Addr × Obj)) (H:Hp) (b:Addr):Prop :=
 H b = none∧b≠X.env.locals∧b ∉ X.fs∧(b∈X.ex∨X.s₀.heap.objs.size≤b)∧(∀ x c,X.env.cells.lookup x = some c→c≠b)∧∀ p∈X.pn ++ pins,p.1≠b
theorem Inv.fpOk {X:Cx} {pins:List (Addr × Obj)} {σ:St} {H H':Hp} {s:Shared} {b:Addr} (I:Inv X pins σ H s) (hb:s.heap.objs.size≤b) (hn:H' b = none):FpOk X pins H' b:=by
 refine ⟨hn,Nat.ne_of_gt (Nat.lt_of_lt_of_le I.lt hb),I.nofs hb,.inr (Nat.le_trans I.sz hb),fun x c e z=>?_,fun p hp z=>?_⟩
 ·obtain ⟨v,q⟩:=I.cell x c e
  exact absurd (Nat.lt_of_lt_of_le q.lt (by rw [z]; exact hb)) (Nat.lt_irrefl _)
 ·exact absurd (Nat.lt_of_lt_of_le (Heap.lt_size (I.pin p hp).1) (by rw [z]; exact hb)) (Nat.lt_irrefl _)
structure Turn (P:Program) (w:World) (K:PySem.W.Frag) (tg:Expr) (J:It) (fp:List Addr) (it:Addr) (tn:Nat→Heap→Prop):Prop where
 mem:it∈fp
 obj:∀ i h,tn i h→∀ b∈fp,∃ o,h.get? b = some o∧∀ v,o.data≠.cell v
 keep:∀ i h h',tn i h→(∀ b∈fp,∀ o,h.get? b = some o→h'.get? b = some o)→tn i h'
 item:∀ (X:Cx),X.prog = P→X.w = w→X.K = K→X.calm = true→∀ (i:Nat) (pins:List (Addr × Obj)) (s:Shared) (σ:St) (H:Hp) (E:Value→Shared→Prop),Inv X pins σ H s→(∀ b∈fp,FpOk X pins H b)→tn i s.heap→J.go i H →
  wpAny (model P w) X.A (pyNext (.ref it)) (fun r s1=>∃ u,r = some u ∧
   wpAny (model P w) X.A (letOwnedTupleGo tg (.ref it) u) (fun _ s2=>∃ x H',Inv X pins σ H' s2∧RelV x u∧J.yld i H x H'∧tn (i + 1) s2.heap∧∀ b∈fp,H' b = none) E s1) E s
 done:∀ (X:Cx),X.prog = P→X.w = w→X.K = K→X.calm = true→∀ (i:Nat) (pins:List (Addr × Obj)) (s:Shared) (σ:St) (H:Hp) (E:Value→Shared→Prop),Inv X pins σ H s→(∀ b∈fp,FpOk X pins H b)→tn i s.heap→J.stop i H →
  wpAny (model P w) X.A (pyNext (.ref it)) (fun r s1=>r = none∧Inv X pins σ H s1) E s
 self:∀ (A:Around) (i:Nat) (s:Shared) (Q:Value→Shared→Prop) (E:Value→Shared→Prop),tn i s.heap→Q (.ref it) s→wpAny (model P w) A (pyIter (.ref it)) Q E s
abbrev TI:=St→Hp→(It→Hp→Prop)→Prop
def PIE (X:Cx) (pins:List (Addr × Obj)) (σ:St) (tg:Expr) (R:It→Hp→Prop) (itv:Value) (s2:Shared):Prop :=
 ∃ (it:Addr) (fp:List Addr) (tn:Nat→Heap→Prop) (J:It) (H':Hp),itv = .ref it∧Inv X pins σ H' s2∧Turn X.prog X.w X.K tg J fp it tn∧tn 0 s2.heap∧(∀ b∈fp,FpOk X pins H' b)∧R J H'
def PI (X:Cx) (tg iter:Expr) (wi:TI):Prop :=
 ∀ (pins:List (Addr × Obj)) (s:Shared) (σ:St) (H:Hp) (R:It→Hp→Prop),Inv X pins σ H s→wi σ H R →
  wpAny (model X.prog X.w) X.A (eval iter X.env) (fun v s1=>wpAny (model X.prog X.w) X.A (pyIter v) (PIE X pins σ tg R) X.xe s1) X.xe s

theorem zTl {M:Model} {A:Around} {E:Value→Shared→Prop} {s:Shared} {tg:Expr} {it:Addr} {u:Value} {o:Obj} {n:String} {vs:Array Value} {Q:Unit→Shared→Prop} (ho:s.heap.get? it = some o) (hc:o.cls = .type n) (hd:o.data = .fields vs)
  (hn:["enumerate", "zip", "dict_itemiterator", "dict_reverseitemiterator", "odict_iterator", "itertools.zip_longest", "itertools.pairwise"].contains n = false) (hQ:Q () s):wpAny M A (letOwnedTupleGo tg (.ref it) u) Q E s:=by
 unfold letOwnedTupleGo
 cases tg <;> first
  | exact wpAny_pure hQ
  | (cases u <;> first
    | exact wpAny_pure hQ
    | (refine wpAny_bind (wpAny_load ho ?_)
       rw [hc,hd]
       show wpAny M A (if (["enumerate", "zip", "dict_itemiterator", "dict_reverseitemiterator", "odict_iterator", "itertools.zip_longest", "itertools.pairwise"].contains n && vs[0]? == some (rawInt _)) = true then _ else _) Q E s
       rw [if_neg (by intro h; rw [hn,Bool.false_and] at h; cases h)]
       exact wpAny_pure hQ))

def Itl (K:PySem.W.Frag) (a:Addr):It :=
 ⟨fun i H=>∃ xs x,SqL K H a xs∧xs[i]? = some x,fun i H x H'=>H' = H∧∀ xs,SqL K H a xs→xs[i]? = some x,fun i H=>∃ xs,SqL K H a xs∧xs.length≤i⟩
def Itt (K:PySem.W.Frag) (a:Addr):It :=
 ⟨fun i H=>∃ xs x,SqT K H a xs∧xs[i]? = some x,fun i H x H'=>H' = H∧∀ xs,SqT K H a xs→xs[i]? = some x,fun i H=>∃ xs,SqT K H a xs∧xs.length≤i⟩
def Itr (lo:Int) (n:Nat):It:=⟨fun i _=>i < n,fun i H x H'=>H' = H∧x = .int (lo + i),fun i _=>n≤i⟩
theorem zLl {P:Program} {w:World} {K:PySem.W.Frag} {tg:Expr} (a it:Addr):Turn P w K tg (Itl K a) [it] it (fun i h=>h.IsListIter it a i) where
 mem:=by simp
 obj:=fun i h st b hb=>by
  have e:b = it:=by simpa using hb
  subst e
  obtain ⟨o,e,c,d⟩:=st
  exact ⟨o,e,fun v z=>by rw [d] at z; cases z⟩
 keep:=fun i h h' st k=>st.at fun o e=>k it (by simp) o e
 item:=by
  intro X hP hw hK hc i pins s σ H E I hf st hg
  subst hP hw hK
  obtain ⟨xs,x,hq,hx⟩:=hg
  obtain ⟨its,rv,p,hz⟩:=I.list hq
  obtain ⟨u,hu,ru⟩:=rv.get hx
  obtain ⟨f0,f1,f2,f3,f4,f5⟩:=hf it (by simp)
  refine wpAny_pyNext_list_item st p.isList (x:=u) (by simpa using hu) fun h' st' sb=>?_
  have I1:Inv X pins σ H { s with heap:=h' }:=I.turned (t':=s.toks) (fun b o hb e=>(sb.2 b hb).trans e) f0 f1 f3 f4 f5
  obtain ⟨o,e,c,d⟩:=id st'
  exact ⟨u,rfl,zTl (s:={ s with heap:=h' }) e c d (by decide) ⟨x,H,I1,ru,⟨rfl,fun ys hy=>by rw [I.list_inj hy hq]; exact hx⟩,st',fun b hb=>(hf b hb).1⟩⟩
 done:=by
  intro X hP hw hK hc i pins s σ H E I hf st hg
  subst hP hw hK
  obtain ⟨xs,hq,hx⟩:=hg
  obtain ⟨its,rv,p,hz⟩:=I.list hq
  obtain ⟨f0,f1,f2,f3,f4,f5⟩:=hf it (by simp)
  have hl:=rv.length
  exact wpAny_pyNext_list_end (I.ok.hd hc) st p.isList (by simp; omega) fun h' eb=>⟨rfl,I.turned (t':=s.toks) (fun b o hb e=>eb b o hb e) f0 f1 f3 f4 f5⟩
 self:=fun _ _ _ _ _ st h=>wpAny_pyIter_listiter st h
theorem zJs {P:Program} {w:World} {K:PySem.W.Frag} {tg:Expr} (a it:Addr):Turn P w K tg (Itt K a) [it] it (fun i h=>h.IsTupleIter it a i) where
 mem:=by simp
 obj:=fun i h st b hb=>by
  have e:b = it:=by simpa using hb
  subst e
  obtain ⟨o,e,c,d⟩:=st
  exact ⟨o,e,fun v z=>by rw [d] at z; cases z⟩
 keep:=fun i h h' st k=>st.at fun o e=>k it (by simp) o e
 item:=by
  intro X hP hw hK hc i pins s σ H E I hf st hg
  subst hP hw hK
  obtain ⟨xs,x,hq,hx⟩:=hg
  obtain ⟨its,rv,p,hz⟩:=I.tuple hq
  obtain ⟨u,hu,ru⟩:=rv.get hx
  obtain ⟨f0,f1,f2,f3,f4,f5⟩:=hf it (by simp)
  refine wpAny_pyNext_tuple_item st (show s.heap.IsTuple a its.toArray from p) (x:=u) (by simpa using hu) fun h' st' sb=>?_
  have I1:Inv X pins σ H { s with heap:=h' }:=I.turned (t':=s.toks) (fun b o hb e=>(sb.2 b hb).trans e) f0 f1 f3 f4 f5
  obtain ⟨o,e,c,d⟩:=id st'
  exact ⟨u,rfl,zTl (s:={ s with heap:=h' }) e c d (by decide) ⟨x,H,I1,ru,⟨rfl,fun ys hy=>by rw [I.tuple_inj hy hq]; exact hx⟩,st',fun b hb=>(hf b hb).1⟩⟩
 done:=by
  intro X hP hw hK hc i pins s σ H E I hf st hg
  subst hP hw hK
  obtain ⟨xs,hq,hx⟩:=hg
  obtain ⟨its,rv,p,hz⟩:=I.tuple hq
  obtain ⟨f0,f1,f2,f3,f4,f5⟩:=hf it (by simp)
  have hl:=rv.length
  exact wpAny_pyNext_tuple_end (I.ok.hd hc) st (show s.heap.IsTuple a its.toArray from p) (by simp; omega) fun h' eb=>⟨rfl,I.turned (t':=s.toks) (fun b o hb e=>eb b o hb e) f0 f1 f3 f4 f5⟩
 self:=fun _ _ _ _ _ st h=>wpAny_pyIter_tupleiter st h
theorem zOc {P:Program} {w:World} {K:PySem.W.Frag} {tg:Expr} (it:Addr) (lo:Int) (n:Nat):Turn P w K tg (Itr lo n) [it] it (fun i h=>IsRangeIter h it (lo + (i:Nat) * 1) ((n:Int) - (i:Nat)) 1) where
 mem:=by simp
 obj:=fun i h st b hb=>by
  have e:b = it:=by simpa using hb
  subst e
  exact ⟨_,st,fun v z=>by
   have z':Data.fields _ = Data.cell v:=z
   cases z'⟩
 keep:=fun i h h' st k=>k it (by simp) _ st
 item:=by
  intro X hP hw hK hc i pins s σ H E I hf st hg
  subst hP hw hK
  obtain ⟨f0,f1,f2,f3,f4,f5⟩:=hf it (by simp)
  have W:=Walks.range (prog:=X.prog) (w:=X.w) (I.ok.hd hc) it lo 1 n
  refine W.item i s _ _ hg st fun v h' tk hv st' kk=>?_
  obtain ⟨t,rfl⟩:=hv
  have I1:Inv X pins σ H { s with heap:=h',toks:=tk }:=I.turned (fun b o hb e=>kk b o (by simpa using hb) e) f0 f1 f3 f4 f5
  refine ⟨_,rfl,zTl (s:={ s with heap:=h',toks:=tk }) (n := "range_iterator") st' rfl rfl (by decide) ⟨.int (lo + i),H,I1,⟨t,?_⟩,⟨rfl,rfl⟩,st',fun b hb=>(hf b hb).1⟩⟩
  rw [Int.mul_one]
 done:=by
  intro X hP hw hK hc i pins s σ H E I hf st hg
  subst hP hw hK
  obtain ⟨f0,f1,f2,f3,f4,f5⟩:=hf it (by simp)
  exact wpAny_pyNext_range_end (I.ok.hd hc) st (by have:n≤i:=hg; omega) fun h' eb=>⟨rfl,I.turned (t':=s.toks) (fun b o hb e=>eb b o hb e) f0 f1 f3 f4 f5⟩
 self:=fun _ _ _ _ _ st h=>wpAny_pyIter_rangeiter st h
end L2

namespace L2
open PySem PySem.Spec PyProof.Rows
section
variable {X:Cx} {tg:Expr}
def iList (K:PySem.W.Frag) (tl:TE):TI:=fun σ H R=>tl σ H fun x H1=>∃ a,x = .ref a∧(∃ xs,SqL K H1 a xs)∧R (Itl K a) H1
def iTup (K:PySem.W.Frag) (tl:TE):TI:=fun σ H R=>tl σ H fun x H1=>∃ a,x = .ref a∧(∃ xs,SqT K H1 a xs)∧R (Itt K a) H1
theorem zRn {l:Expr} {tl:TE} (hl:PE X l tl):PI X tg l (iList X.K tl):=by
 intro pins s σ H R I h
 refine thn (hl pins s σ H _ I h) fun v s1 ⟨x,H1,I1,r1,q1⟩=>?_
 obtain ⟨a,e,⟨xs,hq⟩,q⟩:=q1
 subst e
 cases r1
 obtain ⟨its,rv,p,hz⟩:=I1.list hq
 refine wpAny_pyIter_list p.isList ?_
 refine ⟨s1.heap.objs.size,[s1.heap.objs.size],_,_,H1,rfl,I1.kept (t':=s1.toks) fun b o e=>Heap.get?_push_of_some _ e,zLl a _,⟨_,Heap.get?_push_size _ rfl,rfl,rfl⟩,fun b hb=>?_,q⟩
 have e:b = s1.heap.objs.size:=by simpa using hb
 subst e
 exact I1.fpOk (Nat.le_refl _) (I1.hok.fresh (Nat.le_refl _))
theorem pi_tup {l:Expr} {tl:TE} (hl:PE X l tl):PI X tg l (iTup X.K tl):=by
 intro pins s σ H R I h
 refine thn (hl pins s σ H _ I h) fun v s1 ⟨x,H1,I1,r1,q1⟩=>?_
 obtain ⟨a,e,⟨xs,hq⟩,q⟩:=q1
 subst e
 cases r1
 obtain ⟨its,rv,p,hz⟩:=I1.tuple hq
 refine wpAny_pyIter_tuple (show s1.heap.IsTuple a its.toArray from p) ?_
 refine ⟨s1.heap.objs.size,[s1.heap.objs.size],_,_,H1,rfl,I1.kept (t':=s1.toks) fun b o e=>Heap.get?_push_of_some _ e,zJs a _,⟨_,Heap.get?_push_size _ rfl,rfl,rfl⟩,fun b hb=>?_,q⟩
 have e:b = s1.heap.objs.size:=by simpa using hb
 subst e
 exact I1.fpOk (Nat.le_refl _) (I1.hok.fresh (Nat.le_refl _))
theorem zNp {pins:List (Addr × Obj)} {σ:St} {H:Hp} {s:Shared} {R:It→Hp→Prop} {E:Value→Shared→Prop} {lo hi:Int} {t u v:Tok} {tk:Nat} (I:Inv X pins σ H s) (h1 : -(2 ^ 62)≤lo) (h2:lo < 2 ^ 62) (h3 : -(2 ^ 62)≤hi) (h4:hi < 2 ^ 62)
  (q:R (Itr lo (hi - lo).toNat) H):wpAny (model X.prog X.w) X.A (pyIter (.ref s.heap.objs.size)) (PIE X pins σ tg R) E { s with heap:=s.heap.push { cls:=.type "range", data:=.fields #[.int lo t,.int hi u,.int 1 v] },toks:=tk }:=by
 refine wpAny_pyIter_range (IsRange.new ..) (small_one h1 h2 h3 h4) ?_
 have I1:Inv X pins σ H { s with heap:=s.heap.push { cls:=.type "range", data:=.fields #[.int lo t,.int hi u,.int 1 v] },toks:=tk }:=I.kept fun b o e=>Heap.get?_push_of_some _ e
 refine ⟨(s.heap.push { cls:=.type "range", data:=.fields #[.int lo t,.int hi u,.int 1 v] }).objs.size,[(s.heap.push { cls:=.type "range", data:=.fields #[.int lo t,.int hi u,.int 1 v] }).objs.size],_,_,H,rfl,
  I1.kept (t':=tk) fun b o e=>Heap.get?_push_of_some _ e,zOc _ lo (hi - lo).toNat,?_,fun b hb=>?_,q⟩
 ·have e1:lo + ((0:Nat):Int) * 1 = lo:=by simp
  have e2:(((hi - lo).toNat:Nat):Int) - ((0:Nat):Int) = Builtin.Range.rangeSize lo hi 1:=by rw [rangeSize_one]; split <;> omega
  show IsRangeIter _ _ (lo + ((0:Nat):Int) * 1) ((((hi - lo).toNat:Nat):Int) - ((0:Nat):Int)) 1
  rw [e1,e2]
  exact Heap.get?_push_size _ rfl
 ·have e:b = (s.heap.push { cls:=.type "range", data:=.fields #[.int lo t,.int hi u,.int 1 v] }).objs.size:=by simpa using hb
  subst e
  exact I1.fpOk (Nat.le_refl _) (I1.hok.fresh (Nat.le_refl _))
def iRng1 (ta:TA):TI:=fun σ H R=>ta σ H fun vs H1=>∃ j:Int,vs = [.int j]∧-(2 ^ 62)≤j∧j < 2 ^ 62∧R (Itr 0 j.toNat) H1
def iRng2 (ta:TA):TI:=fun σ H R=>ta σ H fun vs H1=>∃ i j:Int,vs = [.int i,.int j]∧(-(2 ^ 62)≤i∧i < 2 ^ 62∧-(2 ^ 62)≤j∧j < 2 ^ 62)∧R (Itr i (j - i).toNat) H1
theorem zDj {a:Expr} {ta:TA} {p pos:Pos} (hg:Gl X "range") (hm:X.mg "range" = none) (ha:PA X [a] ta) (hs:starEach [a] X.env = [(false,eval a X.env)]:=by rfl):PI X tg (.Call (.Name "range" p) [a] [] pos) (iRng1 ta):=by
 intro pins s σ H R I h
 refine Call_ (zJo I hg hm boot_range (PyProof.Rows.callWith_type1 (thn (ha pos pins s σ H _ I h) fun us s1 ⟨vs,H1,I1,r1,q1⟩=>?_) hs rfl))
 obtain ⟨j,e,q1,q2,q⟩:=q1
 subst e
 cases r1 with
 | cons r rr =>
  cases rr
  obtain ⟨t,rfl⟩:=r
  exact call_range_1 (zNp I1 (by omega) (by omega) q1 q2 (by simpa using q))
theorem zP5 {a b:Expr} {ta:TA} {p pos:Pos} (hg:Gl X "range") (hm:X.mg "range" = none) (ha:PA X [a,b] ta) (hs:starEach [a,b] X.env = [(false,eval a X.env),(false,eval b X.env)]:=by rfl) (hs2:starEach [b] X.env = [(false,eval b X.env)]:=by rfl) :
  PI X tg (.Call (.Name "range" p) [a,b] [] pos) (iRng2 ta):=by
 intro pins s σ H R I h
 refine Call_ (zJo I hg hm boot_range (PyProof.Rows.callWith_type1 (thn (ha pos pins s σ H _ I h) fun us s1 ⟨vs,H1,I1,r1,q1⟩=>?_) (by rw [hs,hs2]) (by rw [hs2]; rfl)))
 obtain ⟨i,j,e,⟨q1,q2,q3,q4⟩,q⟩:=q1
 subst e
 cases r1 with
 | cons r rr =>
  cases rr with
  | cons r' rr =>
   cases rr
   obtain ⟨t,rfl⟩:=r
   obtain ⟨t',rfl⟩:=r'
   exact call_range_2 (zNp I1 q1 q2 q3 q4 q)

def tFor (wi:TI) (g:TG) (tb:TS):TS:=fun D σ H=>wi σ H fun J H1=>∃ W:Nat→Nat→St→Hp→Prop,(∃ m,W 0 m σ H1)∧∀ i m σ H,W i m σ H →
 (J.stop i H∧D.nx σ H)∨(J.go i H∧∃ N:St→Hp→Prop,(∀ σ' H',N σ' H'→∃ m',m' < m∧W (i + 1) m' σ' H')∧∀ x H',J.yld i H x H'→g x σ H' fun σ2 H2=>tb { D with nx:=N,ct:=N,bk:=D.nx } σ2 H2)
def zJe (fp:List Addr) (h:Heap):List (Addr × Obj):=fp.filterMap fun b=>(h.get? b).map fun o=>(b,o)
theorem zDf {fp:List Addr} {h:Heap} {b:Addr} {o:Obj} (hb:b∈fp) (e:h.get? b = some o):(b,o)∈zJe fp h:=List.mem_filterMap.mpr ⟨b,hb,by rw [e]; rfl⟩
theorem zQ1 {fp:List Addr} {h:Heap} {p:Addr × Obj} (hp:p∈zJe fp h):p.1∈fp∧h.get? p.1 = some p.2:=by
 obtain ⟨b,hb,e⟩:=List.mem_filterMap.mp hp
 cases q:h.get? b with
 | none=>rw [q] at e; cases e
 | some o =>
  rw [q] at e
  have e':(b,o) = p:=Option.some.inj e
  subst e'
  exact ⟨hb,q⟩
theorem Inv.pinned {pins:List (Addr × Obj)} {σ:St} {H:Hp} {s:Shared} {fp:List Addr} (I:Inv X pins σ H s) (hf:∀ b∈fp,FpOk X pins H b) (ho:∀ b∈fp,∃ o,s.heap.get? b = some o∧∀ v,o.data≠.cell v):Inv X (pins ++ zJe fp s.heap) σ H s :=
 I.pins_of fun p hp=>(List.mem_append.mp hp).elim (fun z=>I.pin p (List.mem_append_right _ z)) fun z=>by
  obtain ⟨hb,e⟩:=zQ1 z
  obtain ⟨f0,f1,f2,_⟩:=hf p.1 hb
  obtain ⟨o,e',d⟩:=ho p.1 hb
  rw [e] at e'; cases e'
  exact ⟨e,f0,f1,f2,d⟩
theorem Inv.unpinned {pins pl:List (Addr × Obj)} {σ:St} {H:Hp} {s:Shared} (I:Inv X (pins ++ pl) σ H s):Inv X pins σ H s:=I.pins_of fun p hp=>I.pin p (List.mem_append_right _ (List.mem_append_left _ hp))
theorem zCk {iter:Expr} {body:List Stmt} {wi:TI} {g:TG} {tb:TS} {pos:Pos} (hp:PassesOwn (model X.prog X.w) X.A X.env X.xe) (hc:X.calm = true) (hi:PI X tg iter wi) (hg:PG X tg g) (hb:PSs X body tb)
  (hs:∀ x,foldedSetIterable iter X.env x = pure x:=by intro _; rfl):PS X (.For tg iter body [] pos) (tFor wi g tb):=by
 intro pins s σ H D I h
 refine wpAny_For (thn (hi pins s σ H _ I h) fun v s1 h1=>thn h1 fun itv s2 h2=>?_) hs
 obtain ⟨it,fp,tn,J,H2,e,I2,T,st2,f2,W,⟨m0,w0⟩,turn⟩:=h2
 subst e
 have stat:∀ {H':Hp},(∀ b∈fp,H' b = none)→∀ b∈fp,FpOk X pins H' b:=fun hn b hb=>⟨hn b hb,(f2 b hb).2⟩
 refine codeAny_forLoop_any (fun n s'=>∃ i σ' H',Inv X pins σ' H' s'∧tn i s'.heap∧(∀ b∈fp,H' b = none)∧W i n σ' H') ?_ m0 ⟨0,σ,H2,I2,st2,fun b hb=>(f2 b hb).1,w0⟩
 rintro n s3 ⟨i,σ3,H3,I3,st3,fr3,w3⟩
 rcases turn i n σ3 H3 w3 with ⟨stop,qn⟩ | ⟨go,N,hN,step⟩
 ·refine wpAny_passesOwn hp (thn (T.done X rfl rfl rfl hc i pins s3 σ3 H3 X.xe I3 (stat fr3) st3 stop) fun r s4 ⟨hr,I4⟩=>?_)
  subst hr
  exact wpAny_execs_nil ⟨σ3,H3,I4,qn⟩
 ·refine wpAny_passesOwn hp (thn (T.item X rfl rfl rfl hc i pins s3 σ3 H3 X.xe I3 (stat fr3) st3 go) fun r s4 ⟨u,hr,h4⟩=>?_)
  subst hr
  refine wpAny_passesOwn hp (thn h4 fun _ s5 ⟨x,H5,I5,r5,y5,st5,fr5⟩=>?_)
  have I5':=I5.pinned (stat fr5) (T.obj _ _ st5)
  refine wpAny_passesOwn hp (thn (hg _ s5 σ3 H5 x u _ I5' r5 (step x H5 y5)) fun _ s6 ⟨σ6,H6,I6,q6⟩=>?_)
  refine wpAny_passesOwn hp (thn (hb _ s6 σ6 H6 _ I6 q6) fun f s7 q7=>?_)
  have again:∀ {σ7:St} {H7:Hp},Inv X (pins ++ zJe fp s5.heap) σ7 H7 s7→N σ7 H7→∃ m,m < n∧∃ i σ' H',Inv X pins σ' H' s7∧tn i s7.heap∧(∀ b∈fp,H' b = none)∧W i m σ' H':=fun {σ7 H7} I7 n7=>by
   obtain ⟨m',hm,w7⟩:=hN σ7 H7 n7
   refine ⟨m',hm,i + 1,σ7,H7,I7.unpinned,T.keep _ _ _ st5 fun b hb o e=>(I7.pin (b,o) (List.mem_append_right _ (List.mem_append_right _ (zDf hb e)))).1,fun b hb=>?_,w7⟩
   obtain ⟨o,e,d⟩:=T.obj _ _ st5 b hb
   exact (I7.pin (b,o) (List.mem_append_right _ (List.mem_append_right _ (zDf hb e)))).2.1
  cases f with
  | next=>obtain ⟨σ7,H7,I7,n7⟩:=q7; exact again I7 n7
  | cont=>obtain ⟨σ7,H7,I7,n7⟩:=q7; exact again I7 n7
  | brk=>obtain ⟨σ7,H7,I7,q7⟩:=q7; exact ⟨σ7,H7,I7.unpinned,q7⟩
  | ret v=>obtain ⟨x7,σ7,H7,I7,r7,q7⟩:=q7; exact ⟨x7,σ7,H7,I7.unpinned,r7,q7⟩
end

theorem zCd {K:PySem.W.Frag} {a:Addr} {xs:List V} {g:TG} {tb:TS} {D:Ends} {σ:St} {H:Hp} (Pv:Nat→St→Hp→Prop) (h0:Pv 0 σ H) (hl:∀ i σ H,i≤xs.length→Pv i σ H→SqL K H a xs)
  (hs:∀ i x σ H,xs[i]? = some x→Pv i σ H→g x σ H fun σ2 H2=>tb { D with nx:=Pv (i + 1),ct:=Pv (i + 1),bk:=D.nx } σ2 H2) (hd:∀ σ H,Pv xs.length σ H→D.nx σ H) :
  ∃ W:Nat→Nat→St→Hp→Prop,(∃ m,W 0 m σ H)∧∀ i m σ H,W i m σ H →
   ((Itl K a).stop i H∧D.nx σ H)∨((Itl K a).go i H∧∃ N:St→Hp→Prop,(∀ σ' H',N σ' H'→∃ m',m' < m∧W (i + 1) m' σ' H')∧∀ x H',(Itl K a).yld i H x H'→g x σ H' fun σ2 H2=>tb { D with nx:=N,ct:=N,bk:=D.nx } σ2 H2):=by
 refine ⟨fun i m σ H=>m = xs.length - i∧i≤xs.length∧Pv i σ H,⟨xs.length,by simp,Nat.zero_le _,h0⟩,?_⟩
 rintro i m σ H ⟨rfl,hi,p⟩
 have q:=hl i σ H hi p
 by_cases hlt:i < xs.length
 ·refine .inr ⟨⟨xs,xs[i],q,by simp [hlt]⟩,Pv (i + 1),fun σ' H' p'=>⟨xs.length - (i + 1),by omega,rfl,hlt,p'⟩,fun x H' y=>?_⟩
  obtain ⟨e,y⟩:=y
  subst e
  exact hs i x σ _ (y xs q) p
 ·have e:i = xs.length:=by omega
  subst e
  exact .inl ⟨⟨xs,q,Nat.le_refl _⟩,hd σ H p⟩
theorem zPy {K:PySem.W.Frag} {a:Addr} {xs:List V} {g:TG} {tb:TS} {D:Ends} {σ:St} {H:Hp} (Pv:Nat→St→Hp→Prop) (h0:Pv 0 σ H) (hl:∀ i σ H,i≤xs.length→Pv i σ H→SqT K H a xs)
  (hs:∀ i x σ H,xs[i]? = some x→Pv i σ H→g x σ H fun σ2 H2=>tb { D with nx:=Pv (i + 1),ct:=Pv (i + 1),bk:=D.nx } σ2 H2) (hd:∀ σ H,Pv xs.length σ H→D.nx σ H) :
  ∃ W:Nat→Nat→St→Hp→Prop,(∃ m,W 0 m σ H)∧∀ i m σ H,W i m σ H →
   ((Itt K a).stop i H∧D.nx σ H)∨((Itt K a).go i H∧∃ N:St→Hp→Prop,(∀ σ' H',N σ' H'→∃ m',m' < m∧W (i + 1) m' σ' H')∧∀ x H',(Itt K a).yld i H x H'→g x σ H' fun σ2 H2=>tb { D with nx:=N,ct:=N,bk:=D.nx } σ2 H2):=by
 refine ⟨fun i m σ H=>m = xs.length - i∧i≤xs.length∧Pv i σ H,⟨xs.length,by simp,Nat.zero_le _,h0⟩,?_⟩
 rintro i m σ H ⟨rfl,hi,p⟩
 have q:=hl i σ H hi p
 by_cases hlt:i < xs.length
 ·refine .inr ⟨⟨xs,xs[i],q,by simp [hlt]⟩,Pv (i + 1),fun σ' H' p'=>⟨xs.length - (i + 1),by omega,rfl,hlt,p'⟩,fun x H' y=>?_⟩
  obtain ⟨e,y⟩:=y
  subst e
  exact hs i x σ _ (y xs q) p
 ·have e:i = xs.length:=by omega
  subst e
  exact .inl ⟨⟨xs,q,Nat.le_refl _⟩,hd σ H p⟩
theorem zD6 {lo:Int} {n:Nat} {g:TG} {tb:TS} {D:Ends} {σ:St} {H:Hp} (Pv:Nat→St→Hp→Prop) (h0:Pv 0 σ H)
  (hs:∀ i σ H,i < n→Pv i σ H→g (.int (lo + i)) σ H fun σ2 H2=>tb { D with nx:=Pv (i + 1),ct:=Pv (i + 1),bk:=D.nx } σ2 H2) (hd:∀ σ H,Pv n σ H→D.nx σ H) :
  ∃ W:Nat→Nat→St→Hp→Prop,(∃ m,W 0 m σ H)∧∀ i m σ H,W i m σ H →
   ((Itr lo n).stop i H∧D.nx σ H)∨((Itr lo n).go i H∧∃ N:St→Hp→Prop,(∀ σ' H',N σ' H'→∃ m',m' < m∧W (i + 1) m' σ' H')∧∀ x H',(Itr lo n).yld i H x H'→g x σ H' fun σ2 H2=>tb { D with nx:=N,ct:=N,bk:=D.nx } σ2 H2):=by
 refine ⟨fun i m σ H=>m = n - i∧i≤n∧Pv i σ H,⟨n,by simp,Nat.zero_le _,h0⟩,?_⟩
 rintro i m σ H ⟨rfl,hi,p⟩
 by_cases hlt:i < n
 ·refine .inr ⟨hlt,Pv (i + 1),fun σ' H' p'=>⟨n - (i + 1),by omega,rfl,hlt,p'⟩,fun x H' y=>?_⟩
  obtain ⟨e,y⟩:=y
  subst e y
  exact hs i σ _ hlt p
 ·have e:i = n:=by omega
  subst e
  exact .inl ⟨Nat.le_refl _,hd σ H p⟩
theorem zEi {c:TT} {tb:TS} {D:Ends} {σ:St} {H:Hp} (Pv:St→Hp→Prop) (μ:St→Hp→Nat) (h0:Pv σ H)
  (hs:∀ σ H,Pv σ H→c σ H fun b H1=>if b = true then tb { D with nx:=fun σ' H'=>Pv σ' H'∧μ σ' H' < μ σ H,ct:=fun σ' H'=>Pv σ' H'∧μ σ' H' < μ σ H,bk:=D.nx } σ H1 else D.nx σ H1)
  (mono:∀ σ H Q Q',(∀ b H1,Q b H1→Q' b H1)→c σ H Q→c σ H Q'):zS8 c tb D σ H:=by
 refine ⟨fun m σ H=>m = μ σ H∧Pv σ H,⟨_,rfl,h0⟩,?_⟩
 rintro m σ H ⟨rfl,p⟩
 refine mono σ H _ _ (fun b H1 q=>?_) (hs σ H p)
 cases b with
 | true=>exact ⟨_,fun σ' H' ⟨p',l⟩=>⟨_,l,rfl,p'⟩,q⟩
 | false=>exact q
end L2

namespace L2
open PySem PySem.Spec PyProof.Rows

abbrev R2:=V→V→Hp→VK→Prop
def OpR (X:Cx) (f:Value→Value→Sem Value) (r:R2):Prop :=
 ∀ (pins:List (Addr × Obj)) (s:Shared) (σ:St) (H:Hp) (x y:V) (v u:Value) (Q:VK),Inv X pins σ H s→RelV x v→RelV y u→r x y H Q →
  wpAny (model X.prog X.w) X.A (f v u) (EP X pins σ Q) X.xe s
def UnR (X:Cx) (f:Value→Sem Value) (r:V→Hp→VK→Prop):Prop :=
 ∀ (pins:List (Addr × Obj)) (s:Shared) (σ:St) (H:Hp) (x:V) (v:Value) (Q:VK),Inv X pins σ H s→RelV x v→r x H Q →
  wpAny (model X.prog X.w) X.A (f v) (EP X pins σ Q) X.xe s
def zI9 (X:Cx) (f:Value) (r:List V→Hp→VK→Prop):Prop :=
 ∀ (pins:List (Addr × Obj)) (s:Shared) (σ:St) (H:Hp) (xs:List V) (us:List Value) (Q:VK),Inv X pins σ H s→Vals xs us→r xs H Q →
  wpAny (model X.prog X.w) X.A (call f us) (EP X pins σ Q) X.xe s
def TruR (X:Cx) (r:V→Hp→(Bool→Hp→Prop)→Prop):Prop :=
 ∀ (pins:List (Addr × Obj)) (s:Shared) (σ:St) (H:Hp) (x:V) (v:Value) (Q:Bool→Hp→Prop),Inv X pins σ H s→RelV x v→r x H Q →
  wpAny (model X.prog X.w) X.A (truthy v) (TP X pins σ Q) X.xe s

def tOp (r:R2) (ta tb:TE):TE:=fun σ H Q=>ta σ H fun x H1=>tb σ H1 fun y H2=>r x y H2 Q
def tUn (r:V→Hp→VK→Prop) (ta:TE):TE:=fun σ H Q=>ta σ H fun x H1=>r x H1 Q
inductive RI (C:Int→Int→Prop) (g:Int→Int→V) (x y:V) (H:Hp) (Q:VK):Prop where
 | mk (i j:Int) (ex:x = .int i) (ey:y = .int j) (c:C i j) (q:Q (g i j) H)
def rI (C:Int→Int→Prop) (g:Int→Int→V):R2:=fun x y H Q=>RI C g x y H Q
inductive RI0 (g:Int→Int→V) (x y:V) (H:Hp) (Q:VK):Prop where
 | mk (i j:Int) (ex:x = .int i) (ey:y = .int j) (q:Q (g i j) H)
def rI0 (g:Int→Int→V):R2:=fun x y H Q=>RI0 g x y H Q
inductive RU (g:Int→V) (x:V) (H:Hp) (Q:VK):Prop where
 | mk (i:Int) (ex:x = .int i) (q:Q (g i) H)
def rU (g:Int→V):V→Hp→VK→Prop:=fun x H Q=>RU g x H Q

section
variable {X:Cx} {a b c:Expr} {ta tb tc:TE} {pos:Pos}

theorem binT (ha:PE X a ta) (hb:PE X b tb) {pins:List (Addr × Obj)} {s:Shared} {σ:St} {H:Hp} {R:V→V→Hp→Prop} (I:Inv X pins σ H s)
  (h:ta σ H fun x H1=>tb σ H1 fun y H2=>R x y H2) {Q:Value→Shared→Prop} {f:Value→Value→Sem Value}
  (hf:∀ v u s2 x y H2,Inv X pins σ H2 s2→RelV x v→RelV y u→R x y H2→wpAny (model X.prog X.w) X.A (f v u) Q X.xe s2) :
  wpAny (model X.prog X.w) X.A (eval a X.env) (fun v s₁=>wpAny (model X.prog X.w) X.A (eval b X.env) (fun u s₂=>wpAny (model X.prog X.w) X.A (f v u) Q X.xe s₂) X.xe s₁) X.xe s:=by
 refine thn (ha pins s σ H _ I h) fun v s1 ⟨x,H1,I1,r1,q1⟩=>?_
 refine thn (hb pins s1 σ H1 _ I1 q1) fun u s2 ⟨y,H2,I2,r2,q2⟩=>?_
 exact hf v u s2 x y H2 I2 r1 r2 q2

theorem zAm {op:Operator} {r:R2} (ho:OpR X (binaryOp op) r) (ha:PE X a ta) (hb:PE X b tb):PE X (.BinOp a op b pos) (tOp r ta tb):=by
 intro pins s σ H Q I h
 exact wpAny_BinOp (binT ha hb I h fun v u s2 x y H2 I2 rx ry q=>ho pins s2 σ H2 x y v u Q I2 rx ry q)
theorem zMq {op:UnaryOp} {r:V→Hp→VK→Prop} (ho:UnR X (unaryOp op) r) (ha:PE X a ta):PE X (.UnaryOp op a pos) (tUn r ta):=by
 intro pins s σ H Q I h
 exact UnaryOp_ (thn (ha pins s σ H _ I h) fun v s1 ⟨x,H1,I1,r1,q1⟩=>ho pins s1 σ H1 x v Q I1 r1 q1)
theorem opI {f:Value→Value→Sem Value} {C:Int→Int→Prop} {g:Int→Int→Int}
  (rule:∀ (i j:Int) (t u:Tok) (s:Shared) (Q:Value→Shared→Prop) (E:Value→Shared→Prop),C i j→Q (.int (g i j) s.toks) { s with toks:=s.toks + 1 }→wpAny (model X.prog X.w) X.A (f (.int i t) (.int j u)) Q E s) :
  OpR X f (rI C fun i j=>.int (g i j)):=by
 intro pins s σ H x y v u Q I rx ry h
 obtain ⟨i,j,rfl,rfl,hc,q⟩:=h
 obtain ⟨t,rfl⟩:=rx
 obtain ⟨t',rfl⟩:=ry
 exact rule i j t t' s _ _ hc ⟨.int (g i j),H,I.tok _,⟨_,rfl⟩,q⟩
theorem opI0 {f:Value→Value→Sem Value} {g:Int→Int→Int}
  (rule:∀ (i j:Int) (t u:Tok) (s:Shared) (Q:Value→Shared→Prop) (E:Value→Shared→Prop),Q (.int (g i j) s.toks) { s with toks:=s.toks + 1 }→wpAny (model X.prog X.w) X.A (f (.int i t) (.int j u)) Q E s) :
  OpR X f (rI0 fun i j=>.int (g i j)):=by
 intro pins s σ H x y v u Q I rx ry h
 obtain ⟨i,j,rfl,rfl,q⟩:=h
 obtain ⟨t,rfl⟩:=rx
 obtain ⟨t',rfl⟩:=ry
 exact rule i j t t' s _ _ ⟨.int (g i j),H,I.tok _,⟨_,rfl⟩,q⟩
theorem opB0 {f:Value→Value→Sem Value} {g:Int→Int→Bool}
  (rule:∀ (i j:Int) (t u:Tok) (s:Shared) (Q:Value→Shared→Prop) (E:Value→Shared→Prop),Q (.bool (g i j)) s→wpAny (model X.prog X.w) X.A (f (.int i t) (.int j u)) Q E s) :
  OpR X f (rI0 fun i j=>.bl (g i j)):=by
 intro pins s σ H x y v u Q I rx ry h
 obtain ⟨i,j,rfl,rfl,q⟩:=h
 obtain ⟨t,rfl⟩:=rx
 obtain ⟨t',rfl⟩:=ry
 exact rule i j t t' s _ _ ⟨.bl (g i j),H,I,rfl,q⟩

def CPow (i j:Int):Prop:=0≤j∧j≤1000000∧i.natAbs < 2 ^ 64
def CMul (i j:Int):Prop:=(-(2 ^ 64) < i∧i < 2 ^ 64)∨(-(2 ^ 64) < j∧j < 2 ^ 64)
theorem CMul.ok {i j:Int} (h:CMul i j):IntMulOk i j:=by
 rcases h with ⟨h1,h2⟩ | ⟨h1,h2⟩
 ·exact .of_left (intBits_le_64 h1 h2)
 ·exact .of_right (intBits_le_64 h1 h2)
theorem zB1:OpR X (binaryOp .Add) (rI0 fun i j=>.int (i + j)):=opI0 fun _ _ _ _ _ _ _ q=>add_int q
theorem zBw:OpR X (binaryOp .Sub) (rI0 fun i j=>.int (i - j)):=opI0 fun _ _ _ _ _ _ _ q=>sub_int q
theorem zBa:OpR X (binaryOp .Mult) (rI CMul fun i j=>.int (i * j)):=opI fun _ _ _ _ _ _ _ hc q=>mul_int q hc.ok
theorem zA8:OpR X (binaryOp .Mod) (rI (fun _ j=>0 < j) fun i j=>.int (i % j)):=opI fun i j _ _ _ _ _ hc q=>by
 have h1:(0:Int) < j:=hc
 exact mod_int' (by omega) (by rw [Int.fmod_eq_emod_of_nonneg i (by omega)]; exact q)
theorem zQ5:OpR X (binaryOp .Pow) (rI CPow fun i j=>.int (i ^ j.toNat)):=opI fun _ _ _ _ _ _ _ hc q=>pow_int_small hc.1 hc.2.1 hc.2.2 q
theorem unI {f:Value→Sem Value} {g:Int→Int}
  (rule:∀ (i:Int) (t:Tok) (s:Shared) (Q:Value→Shared→Prop) (E:Value→Shared→Prop),Q (.int (g i) s.toks) { s with toks:=s.toks + 1 }→wpAny (model X.prog X.w) X.A (f (.int i t)) Q E s) :
  UnR X f (rU fun i=>.int (g i)):=by
 intro pins s σ H x v Q I rx h
 obtain ⟨i,rfl,q⟩:=h
 obtain ⟨t,rfl⟩:=rx
 exact rule i t s _ _ ⟨.int (g i),H,I.tok _,⟨_,rfl⟩,q⟩
theorem zIn:UnR X (unaryOp .USub) (rU fun i=>.int (-i)):=unI fun _ _ _ _ _ q=>neg_int q
end

def scal:V→V→Bool
 | .non,.non=>true | .non,.int _=>true | .int _,.non=>true | .non,.bl _=>true | .bl _,.non=>true | .non,.str _=>true | .str _,.non=>true
 | .int _,.int _=>true | .bl _,.bl _=>true | .str _,.str _=>true | .byt _,.byt _=>true
 | .int _,.str _=>true | .str _,.int _=>true | .bl _,.str _=>true | .str _,.bl _=>true
 | _,_=>false
def rEq:R2:=fun x y H Q=>scal x y = true∧Q (.bl (decide (x = y))) H
def rNe:R2:=fun x y H Q=>scal x y = true∧Q (.bl (!decide (x = y))) H

theorem zRe {i j:Int} : decide (V.int i = V.int j) = (i == j):=by
 rw [Bool.eq_iff_iff]
 simp
theorem zTd {i j:Bool} : decide (V.bl i = V.bl j) = (i == j):=by
 rw [Bool.eq_iff_iff]
 simp
theorem zPa {i j:Str} : decide (V.str i = V.str j) = (i == j):=by
 rw [Bool.eq_iff_iff]
 simp
theorem zQ0 {i j:Array UInt8} : decide (V.byt i = V.byt j) = (i.toList == j.toList):=by
 rw [Bool.eq_iff_iff]
 cases i
 cases j
 simp

section
variable {X:Cx} {a b c:Expr} {ta tb tc:TE} {pos:Pos}
theorem zBb {pins:List (Addr × Obj)} {σ:St} {H:Hp} {s:Shared} {Q:VK} {k k':Bool} (I:Inv X pins σ H s) (q:Q (.bl k) H) (e:k = k'):EP X pins σ Q (.bool k') s:=by
 subst e
 exact ⟨.bl k,H,I,rfl,q⟩
theorem zFu:OpR X (compareOp .Eq) rEq:=by
 intro pins s σ H x y v u Q I rx ry h
 obtain ⟨hs,q⟩:=h
 cases x with
 | non =>
  cases rx
  cases y with
  | non=>cases ry; exact PySem.EqNone.eq_none_none (zBb I q (by simp))
  | bl j=>cases ry; exact PySem.EqNone.eq_none_bool (zBb I q (by simp))
  | int j=>obtain ⟨t',rfl⟩:=ry; exact PySem.EqNone.eq_none_int (zBb I q (by simp))
  | str j=>obtain ⟨t',rfl⟩:=ry; exact PySem.EqNone.eq_none_str (zBb I q (by simp))
  | _=>exact absurd (show false = true from hs) Bool.false_ne_true
 | bl i =>
  cases rx
  cases y with
  | non=>cases ry; exact PySem.EqNone.eq_bool_none (zBb I q (by simp))
  | bl j=>cases ry; exact eq_bool (zBb I q zTd)
  | str j=>obtain ⟨t',rfl⟩:=ry; exact PySem.EqMixed.eq_bool_str (zBb I q (by simp))
  | _=>exact absurd (show false = true from hs) Bool.false_ne_true
 | int i =>
  obtain ⟨t,rfl⟩:=rx
  cases y with
  | non=>cases ry; exact PySem.EqNone.eq_int_none (zBb I q (by simp))
  | int j=>obtain ⟨t',rfl⟩:=ry; exact eq_int (zBb I q zRe)
  | str j=>obtain ⟨t',rfl⟩:=ry; exact PySem.EqMixed.eq_int_str (zBb I q (by simp))
  | _=>exact absurd (show false = true from hs) Bool.false_ne_true
 | str i =>
  obtain ⟨t,rfl⟩:=rx
  cases y with
  | non=>cases ry; exact PySem.EqNone.eq_str_none (zBb I q (by simp))
  | bl j=>cases ry; exact PySem.EqMixed.eq_str_bool (zBb I q (by simp))
  | int j=>obtain ⟨t',rfl⟩:=ry; exact PySem.EqMixed.eq_str_int (zBb I q (by simp))
  | str j=>obtain ⟨t',rfl⟩:=ry; exact eq_str (zBb I q zPa)
  | _=>exact absurd (show false = true from hs) Bool.false_ne_true
 | byt i =>
  obtain ⟨t,rfl⟩:=rx
  cases y with
  | byt j=>obtain ⟨t',rfl⟩:=ry; exact PySem.W.eq_bytes (zBb I q zQ0)
  | _=>exact absurd (show false = true from hs) Bool.false_ne_true
 | _=>cases y <;> exact absurd (show false = true from hs) Bool.false_ne_true
theorem zRa:OpR X (compareOp .NotEq) rNe:=by
 intro pins s σ H x y v u Q I rx ry h
 obtain ⟨hs,q⟩:=h
 cases x with
 | non =>
  cases rx
  cases y with
  | non=>cases ry; exact PySem.EqNone.ne_none_none (zBb I q (by simp))
  | bl j=>cases ry; exact PySem.EqNone.ne_none_bool (zBb I q (by simp))
  | int j=>obtain ⟨t',rfl⟩:=ry; exact PySem.EqNone.ne_none_int (zBb I q (by simp))
  | str j=>obtain ⟨t',rfl⟩:=ry; exact PySem.EqNone.ne_none_str (zBb I q (by simp))
  | _=>exact absurd (show false = true from hs) Bool.false_ne_true
 | bl i =>
  cases rx
  cases y with
  | non=>cases ry; exact PySem.EqNone.ne_bool_none (zBb I q (by simp))
  | bl j=>cases ry; exact ne_bool (zBb I q (congrArg not zTd))
  | str j=>obtain ⟨t',rfl⟩:=ry; exact PySem.EqMixed.ne_bool_str (zBb I q (by simp))
  | _=>exact absurd (show false = true from hs) Bool.false_ne_true
 | int i =>
  obtain ⟨t,rfl⟩:=rx
  cases y with
  | non=>cases ry; exact PySem.EqNone.ne_int_none (zBb I q (by simp))
  | int j=>obtain ⟨t',rfl⟩:=ry; exact ne_int (zBb I q (congrArg not zRe))
  | str j=>obtain ⟨t',rfl⟩:=ry; exact PySem.EqMixed.ne_int_str (zBb I q (by simp))
  | _=>exact absurd (show false = true from hs) Bool.false_ne_true
 | str i =>
  obtain ⟨t,rfl⟩:=rx
  cases y with
  | non=>cases ry; exact PySem.EqNone.ne_str_none (zBb I q (by simp))
  | bl j=>cases ry; exact PySem.EqMixed.ne_str_bool (zBb I q (by simp))
  | int j=>obtain ⟨t',rfl⟩:=ry; exact PySem.EqMixed.ne_str_int (zBb I q (by simp))
  | str j=>obtain ⟨t',rfl⟩:=ry; exact ne_str (zBb I q (congrArg not zPa))
  | _=>exact absurd (show false = true from hs) Bool.false_ne_true
 | byt i =>
  obtain ⟨t,rfl⟩:=rx
  cases y with
  | byt j=>obtain ⟨t',rfl⟩:=ry; exact PySem.W.ne_bytes (zBb I q (congrArg not zQ0))
  | _=>exact absurd (show false = true from hs) Bool.false_ne_true
 | _=>cases y <;> exact absurd (show false = true from hs) Bool.false_ne_true

theorem zL2:OpR X (compareOp .Lt) (rI0 fun i j=>.bl (decide (i < j))):=opB0 fun _ _ _ _ _ _ _ q=>lt_int q
theorem op_le:OpR X (compareOp .LtE) (rI0 fun i j=>.bl (decide (i≤j))):=opB0 fun _ _ _ _ _ _ _ q=>le_int q
theorem zIe:OpR X (compareOp .Gt) (rI0 fun i j=>.bl (decide (j < i))):=opB0 fun _ _ _ _ _ _ _ q=>gt_int q
theorem zM8:OpR X (compareOp .Is) (fun x y H Q=>y = .non∧Q (.bl (decide (x = .non))) H):=by
 intro pins s σ H x y v u Q I rx ry h
 obtain ⟨rfl,q⟩:=h
 cases ry
 refine is_none_gen (zBb I q ?_)
 cases x <;> first
  | (cases rx; rfl)
  | (obtain ⟨t,rfl⟩:=rx; rfl)
theorem zIw:OpR X (compareOp .IsNot) (fun x y H Q=>y = .non∧Q (.bl (!decide (x = .non))) H):=by
 intro pins s σ H x y v u Q I rx ry h
 obtain ⟨rfl,q⟩:=h
 cases ry
 refine isnot_none_gen (zBb I q ?_)
 cases x <;> first
  | (cases rx; rfl)
  | (obtain ⟨t,rfl⟩:=rx; rfl)

theorem zAy (b:Expr) {op:CmpOp} (h:op≠.In:=by decide) (h2:op≠.NotIn:=by decide):behindInMarks op b = false:=by
 have e1:(op == CmpOp.In) = false:=by cases op <;> first | rfl | exact absurd rfl h
 have e2:(op == CmpOp.NotIn) = false:=by cases op <;> first | rfl | exact absurd rfl h2
 cases b <;> simp [behindInMarks,e1,e2]
theorem zG1 {op:CmpOp} {r:R2} (ho:OpR X (compareOp op) r) (ha:PE X a ta) (hb:PE X b tb) (hm:behindInMarks op b = false):PE X (.Compare a [op] [b] pos) (tOp r ta tb):=by
 intro pins s σ H Q I h
 exact wpAny_Compare1 (binT ha hb I h fun v u s2 x y H2 I2 rx ry q=>ho pins s2 σ H2 x y v u Q I2 rx ry q) hm
def zR8 (t:TE):TT:=fun σ H Q=>t σ H fun x H'=>∃ k,x = .bl k∧Q k H'
theorem zAu {op:CmpOp} {r:R2} (ho:OpR X (compareOp op) r) (ha:PE X a ta) (hb:PE X b tb) (hm:behindInMarks op b = false):PT X (.Compare a [op] [b] pos) (zR8 (tOp r ta tb)):=by
 intro pins s σ H Q I h
 refine wpAny_isTrue_Compare1 (thn (ha pins s σ H _ I h) fun v s1 ⟨x,H1,I1,r1,q1⟩=>thn (hb pins s1 σ H1 _ I1 q1) fun u s2 ⟨y,H2,I2,r2,q2⟩ =>
  thn (ho pins s2 σ H2 x y v u _ I2 r1 r2 q2) fun c s3 ⟨z,H3,I3,r3,k,e,q3⟩=>?_) hm
 subst e
 cases r3
 exact wpAny_truthy_bool ⟨H3,I3,q3⟩
def TruV (K:PySem.W.Frag) (x:V) (H:Hp) (k:Bool):Prop :=
 match x with
 | .non=>k = false
 | .bl b=>k = b
 | .int i=>k = (i != 0)
 | .str y=>y.length≤sizeLine∧k = ((y.length:Int) != 0)
 | .byt y=>y.size≤sizeLine∧k = ((y.size:Int) != 0)
 | .ref p=>(∃ xs,SqL K H p xs∧k = !xs.isEmpty)∨(∃ xs,SqT K H p xs∧k = !xs.isEmpty)∨∃ kvs,H p = some (.dK kvs)∧k = !kvs.isEmpty
 | _=>False
theorem zO1 {κ:Type} {kvs:List (κ × V)} {vs:List (κ × Value)} (r:KV kvs vs):(!vs.isEmpty) = !kvs.isEmpty:=by
 cases r <;> rfl
theorem zJt {xs:List V} {its:List Value} (r:Vals xs its):(!its.toArray.isEmpty) = !xs.isEmpty:=by
 cases r <;> simp
theorem zK8:(sizeLine:Nat) < 2 ^ 63:=by rw [sizeLine_eq]; decide
theorem tru_ok:TruR X (fun x H Q=>∃ k,TruV X.K x H k∧Q k H):=by
 intro pins s σ H x v Q I rx h
 obtain ⟨k,e,q⟩:=h
 have hl:=zK8
 have hs:sizeLine = 16777216:=sizeLine_eq
 cases x with
 | non =>
  cases rx
  have e':k = false:=e
  subst e'
  exact truthy_none ⟨H,I,q⟩
 | bl b =>
  cases rx
  have e':k = b:=e
  subst e'
  exact wpAny_truthy_bool ⟨H,I,q⟩
 | int i =>
  obtain ⟨t,rfl⟩:=rx
  have e':k = (i != 0):=e
  subst e'
  exact PySem.P.truthy_int ⟨H,I,q⟩
 | str y =>
  obtain ⟨t,rfl⟩:=rx
  obtain ⟨hy,e'⟩:y.length≤sizeLine∧k = ((y.length:Int) != 0):=e
  subst e'
  exact PySem.P.truthy_str (by omega) ⟨H,I.tok _,q⟩
 | byt y =>
  obtain ⟨t,rfl⟩:=rx
  obtain ⟨hy,e'⟩:y.size≤sizeLine∧k = ((y.size:Int) != 0):=e
  subst e'
  exact PySem.W.truthy_bytes (by omega) ⟨H,I.tok _,q⟩
 | ref p =>
  cases rx
  have e':(∃ xs,SqL X.K H p xs∧k = !xs.isEmpty)∨(∃ xs,SqT X.K H p xs∧k = !xs.isEmpty)∨∃ kvs,H p = some (.dK kvs)∧k = !kvs.isEmpty:=e
  rcases e' with ⟨xs,hx,e'⟩ | ⟨xs,hx,e'⟩ | ⟨kvs,hx,e'⟩
  ·subst e'
   obtain ⟨its,r,pl,hz⟩:=I.list hx
   have hlen:=r.length
   exact wpAny_truthy_list pl.isList (by simp only [List.size_toArray]; omega) ⟨H,I.tok _,by rw [zJt r]; exact q⟩
  ·subst e'
   obtain ⟨its,r,pl,hz⟩:=I.tuple hx
   have hlen:=r.length
   exact truthy_tuple pl (by simp only [List.size_toArray]; omega) ⟨H,I.tok _,by rw [zJt r]; exact q⟩
  ·subst e'
   obtain ⟨hz,hS,vs,r,m⟩:kvs.length≤sizeLine∧(p == sysModules) = false∧∃ vs,KV kvs vs∧s.heap.DictOf (zCh X.prog X.w) p vs:=I.hok p _ hx
   have hlen:kvs.length = vs.length:=Paired.length r
   exact wpAny_truthy_dict hS m (by omega) ⟨H,I.tok _,by rw [zO1 r]; exact q⟩
 | _=>exact (show False from e).elim
theorem zSe {x:V} {us:List Value} (r:Vals [x] us):∃ u,us = [u]∧RelV x u:=by
 cases r with
 | cons r1 r2=>cases r2; exact ⟨_,rfl,r1⟩
theorem zB2:zI9 X (.builtin "abs") (fun xs H Q=>∃ i,xs = [.int i]∧Q (.int (if i < 0 then -i else i)) H):=by
 intro pins s σ H xs us Q I r h
 obtain ⟨i,rfl,q⟩:=h
 obtain ⟨u,rfl,t,rfl⟩:=zSe r
 exact call_abs_int fun u tk=>⟨.int (if i < 0 then -i else i),H,I.tok _,⟨_,rfl⟩,q⟩
end
end L2

namespace L2
open PySem PySem.Spec PyProof.Rows

structure ObjM (h:Heap) (x dx C:Addr) (mA:Str→Option Value):Prop where
 obj:h.get? x = some (PySem.W.instObj C dx)
 ns:h.Ns1 dx mA
 ne:dx≠x

section
variable {prog:Program} {w:World} {A:Around} {E:Value→Shared→Prop} {s:Shared} {K:PySem.W.Frag} {x dx C f:Addr} {mA:Str→Option Value} {name:Str} {v:Value}

end

section
variable {P:Program} {w:World} {H H':Hp} {h h':Heap} {a C dx:Addr} {fs fs':List (Str × V)}
end

structure Cls (K:PySem.W.Frag) (C:Addr):Prop where
 pg:PySem.W.plainGet K C Str.empty = true
 hd:PySem.W.hasDictIn K C = true
 po:PySem.W.plainOver K C = true
 sa:PySem.W.findIn K (.ref C) "__setattr__" = some (some (.builtin "object.__setattr__"))
structure Con (K:PySem.W.Frag) (C:Addr) (f:Str) (v:V) (u:Value):Prop where
 at_:PySem.W.findIn K (.ref C) f = some (some u)
 rel:RelV v u
 get:PySem.W.specialIn K u "__get__" = some none
 cp:PySem.W.copiedNames.contains f = false
structure Meth (K:PySem.W.Frag) (C:Addr) (m:Str) (f:Addr):Prop where
 at_:PySem.W.findIn K (.ref C) m = some (some (.ref f))
 fn:PySem.W.isFn K (.ref f) = true
 kp:PySem.W.keepIn K (.ref f) = true

section
variable {X:Cx} {pins:List (Addr × Obj)} {σ:St} {H:Hp} {s:Shared} {a C dx:Addr} {fs:List (Str × V)} {f:Str} {v:V} {A:Around} {E:Value→Shared→Prop}

end

section
variable {X:Cx} {o e value:Expr} {f:Str} {pos pos' tpos:Pos} {ta tv:TE}
end

section
variable {X:Cx} {pins:List (Addr × Obj)} {σ:St} {H:Hp} {s:Shared} {A:Around} {E:Value→Shared→Prop} {Q:Value→Shared→Prop} {c:Value} {b:Bool}
inductive TyOf (K:PySem.W.Frag) (H:Hp):V→Value→Prop where
 | non:TyOf K H .non (.type "NoneType")
 | bl (x:Bool):TyOf K H (.bl x) (.type "bool")
 | int (i:Int):TyOf K H (.int i) (.type "int")
 | str (x:Str):TyOf K H (.str x) (.type "str")
 | flt (x:UInt64):TyOf K H (.flt x) (.type "float")
 | lst {a:Addr} {xs:List V} (e:H a = some (.lst xs)):TyOf K H (.ref a) (.type "list")
 | frz {a:Addr} {o:Obj} {xs:List V} (e:H a = some (.frz o (.lst xs))):TyOf K H (.ref a) (.type "list")
 | tup {a:Addr} {xs:List V} (e:H a = some (.tup xs)):TyOf K H (.ref a) (.type "tuple")
 | dK {a:Addr} {kvs:List (Key × V)} (e:H a = some (.dK kvs)):TyOf K H (.ref a) (.type "dict")
 | dT {a:Addr} {kvs:List (List Key × V)} (e:H a = some (.dT kvs)):TyOf K H (.ref a) (.type "dict")
 | ins {a C dx:Addr} {fs:List (Str × V)} (e:H a = some (.ins C dx fs)) (cl:Cls K C) (ha:PySem.W.findIn K (.ref C) "__class__" = some (some (.builtin "object.__class__")))
   (hn:PySem.W.specialIn K (.builtin "object.__class__") "__get__" = some (some (.builtin "getset_descriptor.__get__"))) (htk:PySem.W.takesIn K (.builtin "object.__class__") = some true)
   (hm:PySem.W.mroIn K C (.type "object") = some true):TyOf K H (.ref a) (.ref C)
end
end L2

namespace L2
open PySem PySem.Spec PyProof.Rows

structure Room (k:Nat) (A:Around):Prop where
 hd:A.handled = none
 dp:A.depth + 3 * k + 5 < recursionLimit
 un:A.units + 16 * k + 200 < cLine
theorem Room.mono {j k:Nat} {A:Around} (r:Room k A) (h:j≤k):Room j A:=⟨r.hd,by have:=r.dp; omega,by have:=r.un; omega⟩
theorem Room.deeper {k:Nat} {A:Around} (r:Room (k + 1) A) (env:Env):Room k (A.deeper env) :=
 ⟨r.hd,by have:=r.dp; show A.depth + 1 + 3 * k + 5 < _; omega,by have:=r.un; show A.units + 3 + 16 * k + 200 < _; omega⟩
theorem Room.in1 {k:Nat} {A:Around} (r:Room (k + 1) A):Room k A.in1 :=
 ⟨r.hd,by have:=r.dp; show A.depth + 3 * k + 5 < _; omega,by have:=r.un; show A.units + 1 + 16 * k + 200 < _; omega⟩
theorem Room.depth {k:Nat} {A:Around} (r:Room k A):A.depth < recursionLimit:=by have:=r.dp; omega
theorem Room.units {k:Nat} {A:Around} (r:Room k A):A.units + 64 < cLine:=by have:=r.un; omega
theorem Room.units0 {k:Nat} {A:Around} (r:Room k A):A.units < cLine:=by have:=r.un; omega

def tNil:TA:=fun _ H Q=>Q [] H
def zUc (ta:TE) (tr:TA):TA:=fun σ H Q=>ta σ H fun x H1=>tr σ H1 fun xs H2=>Q (x :: xs) H2
section
variable {X:Cx} {e:Expr} {es:List Expr} {te:TE} {t:TA} {pos:Pos}
theorem zAd:PA X [] tNil:=fun _ _ _ _ H Q I h=>Calls.spliced_nil ⟨[],H,I,.nil,h⟩
theorem zAa (ha:PE X e te) (hr:PA X es t) (hs:starEach (e :: es) X.env = (false,eval e X.env) :: starEach es X.env:=by rfl):PA X (e :: es) (zUc te t):=by
 intro pos pins s σ H Q I h
 rw [hs]
 show wpAny _ _ (spliced ((false,eval e X.env) :: backTo pos (starEach es X.env))) _ _ s
 refine Calls.spliced_cons (thn (ha pins s σ H _ I h) fun u s1 ⟨x,H1,I1,r1,q1⟩=>?_)
 exact thn (hr pos pins s1 σ H1 _ I1 q1) fun us s2 ⟨xs,H2,I2,r2,q2⟩=>⟨x :: xs,H2,I2,.cons r1 r2,q2⟩

def tTup (t:TA):TE:=fun σ H Q=>t σ H fun xs H1=>xs.length≤sizeLine∧∀ p,H1 p = none→Q (.ref p) (upd H1 p (.tup xs))
def tLst (t:TA):TE:=fun σ H Q=>t σ H fun xs H1=>xs.length≤sizeLine∧∀ p,H1 p = none→Q (.ref p) (upd H1 p (.lst xs))
theorem zBe {x1} (h:PA X es t):PE X (.Tuple es x1 pos) (tTup t):=by
 intro pins s σ H Q I hq
 refine wpAny_Tuple_spliced (thn (h pos pins s σ H _ I hq) fun us s1 ⟨xs,H1,I1,r,z,q⟩=>⟨by rw [← r.length]; exact z,?_⟩)
 have hf:H1 s1.heap.objs.size = none:=I1.hok.fresh (Nat.le_refl _)
 refine ⟨.ref s1.heap.objs.size,upd H1 s1.heap.objs.size (.tup xs),I1.laid (t':=s1.toks) (fun b u e=>Heap.get?_push_of_some _ e) (Nat.le_refl _) ?_,rfl,q _ hf⟩
 exact ⟨z,us,r,⟨_,Heap.get?_push_size _ rfl,rfl,_,rfl⟩⟩
theorem zCz (h:PA X es t):PE X (.List es pos) (tLst t):=by
 intro pins s σ H Q I hq
 refine wpAny_List_spliced (thn (h pos pins s σ H _ I hq) fun us s1 ⟨xs,H1,I1,r,z,q⟩=>⟨by rw [← r.length]; exact z,?_⟩)
 have hf:H1 s1.heap.objs.size = none:=I1.hok.fresh (Nat.le_refl _)
 refine ⟨.ref s1.heap.objs.size,upd H1 s1.heap.objs.size (.lst xs),I1.laid (t':=s1.toks) (fun b u e=>Heap.get?_push_of_some _ e) (Nat.le_refl _) ?_,rfl,q _ hf⟩
 exact ⟨z,us,0,r,Heap.get?_push_size _ rfl⟩
end

abbrev Sp:=List V→Hp→VK→XK→Prop
abbrev CXT:=List Env→Hp→Shared→XK→Value→Shared→Prop

structure Env0 (P:Program) (w:World) (K:PySem.W.Frag) (mg:Str→Option Value) (base:Heap) (A:Around) (outer:List Env) (s:Shared) (H:Hp):Prop where
 frames:A.frames = some outer
 mod:Mod K mg base
 bs:∀ b o,base.get? b = some o→s.heap.get? b = some o∧H b = none
 bsz:base.objs.size≤s.heap.objs.size
 funs:s.heap.FunFrames base outer
 frf:∀ b∈frs outer,H b = none
 hok:HOk P w H s.heap
 bare:AllBare s.gens
def CE (outer:List Env) (P:Program) (w:World) (H:Hp) (s:Shared) (Q:VK) (u:Value) (s':Shared):Prop :=
 ∃ v H',s'.os = s.os∧AllBare s'.gens∧Un (frs outer) [] H H' s.heap s'.heap∧HOk P w H' s'.heap∧RelV v u∧Q v H'
def CR (CX:CXT) (outer:List Env) (P:Program) (w:World) (H:Hp) (s:Shared) (Q:VK) (E:XK) (r:Result) (s':Shared):Prop :=
 match r with
 | .ok (.ret u)=>CE outer P w H s Q u s'
 | .ok _=>False
 | .error e=>CX outer H s E e s'
structure FnOk (P:Program) (w:World) (K:PySem.W.Frag) (mg:Str→Option Value) (base:Heap) (CX:CXT) (k:Nat) (f:Addr) (fd:FuncData) (ps:List Str) (sp:Sp):Prop where
 len:∀ vs H Q E,sp vs H Q E→vs.length = ps.length
 run:∀ (A:Around) (outer:List Env) (s:Shared) (H:Hp) (args:Args) (us:List Value) (vs:List V) (Q:VK) (E:XK),Room k A→Env0 P w K mg base A outer s H→BindsTo s fd args (ps.zip us)→Vals vs us→sp vs H Q E →
  codeAny (model P w) A (.call (.ref f) args) (CR CX outer P w H s Q E) s
theorem Env0.in1 {P:Program} {w:World} {K:PySem.W.Frag} {mg:Str→Option Value} {base:Heap} {A:Around} {outer:List Env} {s:Shared} {H:Hp} (e:Env0 P w K mg base A outer s H) :
  Env0 P w K mg base A.in1 outer s H:=⟨e.frames,e.mod,e.bs,e.bsz,e.funs,e.frf,e.hok,e.bare⟩

section
variable {X:Cx} {pins:List (Addr × Obj)} {σ:St} {H:Hp} {s s':Shared}
theorem Inv.env0 (I:Inv X pins σ H s):Env0 X.prog X.w X.K X.mg X.base X.A X.stack s H :=
 ⟨I.ok.frames,I.ok.mod,I.bs,Nat.le_trans I.ok.bsz I.sz,I.stack,I.stkFree,I.hok,I.bare⟩
theorem Inv.after {Q:VK} {u:Value} (I:Inv X pins σ H s) (h:CE X.stack X.prog X.w H s Q u s'):EP X pins σ Q u s':=by
 obtain ⟨v,H',os,bare,un,hok,r,q⟩:=h
 obtain ⟨hh,g,d,t,os'⟩:=s'
 obtain rfl:os' = s.os:=os
 exact ⟨v,H',I.call (h':=hh) (g':=g) (d':=d) (t':=t) (ch:=[]) un hok bare (fun b z=>absurd z (by simp)),r,q⟩
end

def zTk (sp:Sp) (dvs:List V) (E:XK) (t:TA):TE:=fun σ H Q=>t σ H fun vs H1=>sp (vs ++ dvs) H1 Q E
def zL7 (K:PySem.W.Frag) (fd:FuncData) (ps:List Str) (ds:List Value):Prop :=
 ∀ (s:Shared) (us:List Value),K.In s.heap→(us ++ ds).length = ps.length→BindsTo s fd ⟨us,[]⟩ (ps.zip (us ++ ds))
theorem zL7.all {K:PySem.W.Frag} {fd:FuncData} {ps:List Str} (h:∀ us:List Value,us.length = ps.length→bindArgs fd ⟨us,[]⟩ = pure (ps.zip us)):zL7 K fd ps []:=fun s us _ hl=>by
 rw [List.append_nil] at hl ⊢
 exact .of_eq (h us hl)

def zPq (CX:CXT) (X:Cx) (E:XK):Prop:=∀ (pins:List (Addr × Obj)) (σ:St) (H:Hp) (s:Shared) (e:Value) (s':Shared),Inv X pins σ H s→CX X.stack H s E e s'→X.xe e s'

section
variable {X:Cx} {CX:CXT} {k:Nat} {f C:Addr} {fd:FuncData} {ps:List Str} {sp:Sp} {dvs:List V} {ds:List Value} {E:XK} {x m:Str} {p pos apos:Pos} {e o:Expr} {es:List Expr} {ta:TE} {t:TA}

theorem run_fn {pins:List (Addr × Obj)} {σ:St} {H:Hp} {s:Shared} {Q:VK} {us:List Value} {vs:List V} (F:FnOk X.prog X.w X.K X.mg X.base CX k f fd ps sp) (hr:Room k X.A) (hb:zL7 X.K fd ps ds) (hd:Vals dvs ds) (hx:zPq CX X E)
  (I:Inv X pins σ H s) (r:Vals vs us) (h:sp (vs ++ dvs) H Q E):wpAny (model X.prog X.w) X.A (call (.ref f) us) (EP X pins σ Q) X.xe s:=by
 have r2:Vals (vs ++ dvs) (us ++ ds):=r.append hd
 have hl:(us ++ ds).length = ps.length:=by rw [← r2.length]; exact F.len _ _ _ _ h
 refine wpAny_call (codeAny_mono (F.run X.A X.stack s H ⟨us,[]⟩ (us ++ ds) (vs ++ dvs) Q E hr I.env0 (hb s us I.kIn hl) r2 h) fun r s' hq=>?_)
 cases r with
 | error e=>exact hx pins σ H s e s' I hq
 | ok fl =>
  cases fl with
  | ret u=>exact I.after hq
  | next=>exact False.elim hq
  | brk=>exact False.elim hq
  | cont=>exact False.elim hq

theorem zT6 (F:FnOk X.prog X.w X.K X.mg X.base CX k f fd ps sp) (hr:Room k X.A) (hg:Gl X x) (hm:X.mg x = some (.ref f)) (hk:PySem.W.keepIn X.K (.ref f) = true) (hb:zL7 X.K fd ps ds) (hd:Vals dvs ds) (hx:zPq CX X E)
  (ha:PA X (e :: es) t) (hdb:(x == ("__debug__" : Str)) = false:=by decide) (he:starEach (e :: es) X.env = (false,eval e X.env) :: starEach es X.env:=by rfl) (hpl:(backTo pos (starEach es X.env)).any (·.1) = false:=by rfl) :
  PE X (.Call (.Name x p) (e :: es) [] pos) (zTk sp dvs E t):=by
 intro pins s σ H Q I h
 refine wpAny_Call_Name_kw (zTq I hg hm ?_ hdb)
 refine PySem.W.callWith_K (h₀:=X.base) I.ok.mod.kin hk (thn (ha pos pins s σ H _ I h) fun us s1 ⟨vs,H1,I1,r,q⟩=>⟨I1.kIn,?_⟩) he hpl
 exact run_fn F hr hb hd hx I1 r q
structure Mk (K:PySem.W.Frag) (C f:Addr):Prop where
 makes:PySem.W.makesIn K C = true
 init:PySem.W.findIn K (.ref C) "__init__" = some (some (.ref f))
 fn:PySem.W.isFn K (.ref f) = true
 kp:PySem.W.keepIn K (.ref C) = true

end

def PK (X:Cx) (kws:List Keyword) (t:TA):Prop :=
 ∀ (pos:Pos) (pins:List (Addr × Obj)) (s:Shared) (σ:St) (H:Hp) (Q:List V→Hp→Prop),Inv X pins σ H s→t σ H Q→wpAny (model X.prog X.w) X.A (evalAll ((backToKw pos (keywordEach kws X.env)).map (·.2))) (AP X pins σ Q) X.xe s
section
variable {X:Cx} {CX:CXT} {k:Nat} {f C:Addr} {fd:FuncData} {ps ks:List Str} {sp:Sp} {E:XK} {x m:Str} {p pos apos kpos:Pos} {e o:Expr} {es:List Expr} {kws:List Keyword} {te ta:TE} {t tk:TA} {nm:Option Str}
theorem pk_nil:PK X [] tNil:=fun _ _ _ _ H Q I h=>wpAny_evalAll_nil ⟨[],H,I,.nil,h⟩
theorem zT9 (ha:PE X e te) (hr:PK X kws t):PK X (⟨nm,e,kpos⟩ :: kws) (zUc te t):=by
 intro pos pins s σ H Q I h
 show wpAny _ _ (evalAll ((do let v ← eval e X.env; standAt pos; pure v) :: (backToKw pos (keywordEach kws X.env)).map (·.2))) _ _ s
 refine wpAny_evalAll_cons (wpAny_bind (thn (ha pins s σ H _ I h) fun u s1 ⟨x,H1,I1,r1,q1⟩=>wpAny_bind (wpAny_standAt (wpAny_pure ?_))))
 exact thn (hr pos pins s1 σ H1 _ I1 q1) fun us s2 ⟨xs,H2,I2,r2,q2⟩=>⟨x :: xs,H2,I2,.cons r1 r2,q2⟩

structure KBinds (K:PySem.W.Frag) (fd:FuncData) (ps ks:List Str) (g:List Value→List Value→List Value) (gV:List V→List V→List V):Prop where
 to:∀ (s:Shared) (us ws:List Value),K.In s.heap→(g us ws).length = ps.length→BindsTo s fd ⟨us,ks.zip ws⟩ (ps.zip (g us ws))
 rel:∀ {vs:List V} {us:List Value} {zs:List V} {ws:List Value},Vals vs us→Vals zs ws→Vals (gV vs zs) (g us ws)
variable {g:List Value→List Value→List Value} {gV:List V→List V→List V}
end

structure zAq (N P:List Str) (sc:Scope):Prop where
 kind:sc.kind = .function
 co:sc.isCoroutine = false
 gen:sc.isGenerator = false
 nd:N.Nodup
 pre:N.take P.length = P
 par:∀ x∈P,sc.names.lookup x = some .local∨sc.names.lookup x = some .cell
 nofree:∀ y∈sc.names,y.2≠.free

theorem zK4 {kindOf:Str→Option NameKind} {x:Str} : ∀ {binds:List (Str × Value)} {m:Str→Option Value},(∀ v,(x,v) ∉ binds)→bindL kindOf binds m x = m x
 | [],_,_=>rfl
 | (n,v) :: r,m,h=>by
  unfold bindL
  rw [zK4 fun w hw=>h w (List.mem_cons_of_mem _ hw)]
  split
  ·have:x≠n:=by rintro rfl; exact h v List.mem_cons_self
   simp [this]
  ·rfl
theorem zK2 {kindOf:Str→Option NameKind} {x:Str} : ∀ {binds:List (Str × Value)} {m:Str→Option Value},(∀ v,(x,v) ∉ binds)→bindC kindOf binds m x = m x
 | [],_,_=>rfl
 | (n,v) :: r,m,h=>by
  unfold bindC
  rw [zK2 fun w hw=>h w (List.mem_cons_of_mem _ hw)]
  split
  ·rfl
  ·have:x≠n:=by rintro rfl; exact h v List.mem_cons_self
   simp [this]
theorem zK9 {kindOf:Str→Option NameKind} {x:Str} {v:Value} : ∀ {P:List Str} {vs:List Value} {i:Nat} {m:Str→Option Value},P.Nodup→P[i]? = some x→vs[i]? = some v→kindOf x = some .local →
  bindL kindOf (P.zip vs) m x = some v
 | [],_,_,_,_,h,_,_=>by simp at h
 | _ :: _,[],_,_,_,_,h,_=>by simp at h
 | p :: P,w :: vs,0,m,nd,h1,h2,hk=>by
  simp at h1 h2; subst h1; subst h2
  show bindL kindOf ((p,w) :: P.zip vs) m p = _
  unfold bindL
  rw [zK4 fun v hv=>(List.nodup_cons.mp nd).1 (List.of_mem_zip hv).1,if_pos hk]
  simp
 | p :: P,w :: vs,i + 1,m,nd,h1,h2,hk=>by
  show bindL kindOf ((p,w) :: P.zip vs) m x = _
  unfold bindL
  exact zK9 (i:=i) (List.nodup_cons.mp nd).2 (by simpa using h1) (by simpa using h2) hk
theorem zK5 {kindOf:Str→Option NameKind} {x:Str} {v:Value} : ∀ {P:List Str} {vs:List Value} {i:Nat} {m:Str→Option Value},P.Nodup→P[i]? = some x→vs[i]? = some v→kindOf x≠some .local →
  bindC kindOf (P.zip vs) m x = some v
 | [],_,_,_,_,h,_,_=>by simp at h
 | _ :: _,[],_,_,_,_,h,_=>by simp at h
 | p :: P,w :: vs,0,m,nd,h1,h2,hk=>by
  simp at h1 h2; subst h1; subst h2
  show bindC kindOf ((p,w) :: P.zip vs) m p = _
  unfold bindC
  rw [zK2 fun v hv=>(List.nodup_cons.mp nd).1 (List.of_mem_zip hv).1,if_neg hk]
  simp
 | p :: P,w :: vs,i + 1,m,nd,h1,h2,hk=>by
  show bindC kindOf ((p,w) :: P.zip vs) m x = _
  unfold bindC
  exact zK5 (i:=i) (List.nodup_cons.mp nd).2 (by simpa using h1) (by simpa using h2) hk

def start (N:List Str) (vs:List V):St:=vs.map some ++ List.replicate (N.length - vs.length) none

def cxOf (CX:CXT) (P:Program) (w:World) (K:PySem.W.Frag) (mg:Str→Option Value) (base:Heap) (N:List Str) (qual:Str) (scope:Scope) (f:Addr) (cd:Value) (A:Around) (outer:List Env) (s:Shared) (H:Hp) (E:XK):Cx where
 prog:=P
 w:=w
 K:=K
 mg:=mg
 base:=base
 A:=A.deeper (envOfC qual scope s.heap.objs.size f cd)
 N:=N
 s₀:=s
 H₀:=H
 env:=envOfC qual scope s.heap.objs.size f cd
 outer:=outer
 stack:=envOfC qual scope s.heap.objs.size f cd :: outer
 ex:=[]
 calm:=true
 fn:=fun _=>true
 pn:=[]
 xe:=fun e s'=>wpAny (model P w) (A.deeper (envOfC qual scope s.heap.objs.size f cd)) (leaving (envOfC qual scope s.heap.objs.size f cd) e) (fun _ s''=>CX outer H s E e s'') (fun e' s''=>CX outer H s E e' s'') s'

theorem zNm {sc:Scope} {n:Nat} {x:Str} (h:sc.names.lookup x = some .cell):∃ c,(cellsFrom n sc.names []).lookup x = some c:=by
 have q:=PySem.W.cellsFrom_some sc.names n [] (.inl h)
 exact Option.isSome_iff_exists.mp q

theorem zRf {CX:CXT} {P:Program} {w:World} {K:PySem.W.Frag} {mg:Str→Option Value} {base:Heap} {N ps:List Str} {qual:Str} {scope:Scope} {f:Addr} {cd:Value} {A:Around} {outer:List Env} {s s1:Shared} {H:Hp} {E:XK} {us:List Value} {vs:List V}
  (S:zAq N ps scope) (hd:A.handled = none) (e0:Env0 P w K mg base A outer s H) (hl:vs.length = ps.length) (r:Vals vs us)
  (x:InCallC s s.heap.objs.size (bindL (envOfC qual scope s.heap.objs.size f cd).kindOf (ps.zip us) fun _=>none) (cellsFrom (s.heap.objs.size + 1) scope.names []) (bindC (envOfC qual scope s.heap.objs.size f cd).kindOf (ps.zip us) fun _=>none) s1) :
  Inv (cxOf CX P w K mg base N qual scope f cd A outer s H E) [] (start N vs) H s1:=by
 have hpl:ps.length≤N.length:=by have:=congrArg List.length S.pre; rw [List.length_take] at this; omega
 obtain ⟨h1,tk,rfl,hk⟩:=x.done
 have noA:∀ b:Addr,b ∉ (cxOf CX P w K mg base N qual scope f cd A outer s H E).ex:=fun b z=>absurd (show b∈([]:List Addr) from z) (by simp)
 refine ⟨⟨e0.mod,S.kind,rfl,rfl,Nat.le_refl _,fun y z c h1 h2=>?_,fun y hy=>?_,fun y c _ h=>?_,fun _=>hd,Around.frames_deeper e0.frames,.inr ⟨rfl,rfl⟩,fun b z=>absurd z (noA b),e0.bs,e0.bsz,fun b _ _=>noA b,fun b z=>absurd z (noA b),e0.funs,e0.frf⟩,
  rfl,e0.bare,Un.kept hk,⟨_,x.toInCall.ns,fun i y v h1 h2 h3=>?_⟩,fun y c h=>⟨_,x.cell y c h⟩,e0.hok.fresh (Nat.le_refl _),fun y c h=>?_,fun p hp=>absurd (show p∈([]:List (Addr × Obj)) from hp) (by simp),e0.hok.kept hk,?_⟩
 ·exact name_of_addr x.apart (PySem.mem_of_lookup h1) (PySem.mem_of_lookup h2)
 ·have hy:scope.names.lookup y = some .cell∨scope.names.lookup y = some .free:=hy
  rcases hy with hy | hy
  ·exact zNm hy
  ·exact absurd rfl (S.nofree _ (PySem.mem_of_lookup hy))
 ·exact Nat.le_of_lt (x.above y c (PySem.mem_of_lookup h))
 ·have hi:i < vs.length:=by
   unfold start at h2
   by_cases hi:i < vs.length
   ·exact hi
   ·rw [List.getElem?_append_right (by simpa using hi)] at h2
    rw [List.getElem?_replicate] at h2
    split at h2 <;> cases h2
  have ha:vs[i]? = some v:=by
   unfold start at h2
   rw [List.getElem?_append_left (by simpa using hi),List.getElem?_map] at h2
   cases e:vs[i]? with
   | none=>rw [e] at h2; cases h2
   | some a=>rw [e] at h2; cases h2; rfl
  obtain ⟨u,hu,rv⟩:=r.get ha
  have hp:ps[i]? = some y:=by
   rw [← S.pre,List.getElem?_take_of_lt (by omega)]; exact h1
  have ndP:ps.Nodup:=by rw [← S.pre]; exact S.nd.sublist (List.take_sublist _ _)
  refine ⟨u,rv,?_⟩
  rcases S.par y (List.mem_of_getElem? hp) with k | k
  ·exact .inl ⟨k,zK9 ndP hp hu k⟩
  ·obtain ⟨c,e⟩:=zNm (n:=s.heap.objs.size + 1) k
   refine .inr ⟨.inl k,c,e,?_⟩
   have q:=x.cell y c e
   rw [zK5 ndP hp hu (by show scope.names.lookup y≠_; rw [k]; decide)] at q
   exact q
 ·exact e0.hok.fresh (Nat.le_of_lt (x.above y c (PySem.mem_of_lookup h)))
 ·unfold start
  show _ = N.length
  rw [List.length_append,List.length_map,List.length_replicate]
  omega

theorem fn_of {CX:CXT} {P:Program} {w:World} {K:PySem.W.Frag} {mg:Str→Option Value} {base:Heap} {k:Nat} {f:Addr} {name qual:Str} {params:Arguments} {body:List Stmt} {scope:Scope} {dV kV doc pm cdv ct oc:Value} {an od:Option Addr}
  {osl:Array (Option Value)} {N ps:List Str} {sp:Sp} (lk:K.lookup f = some ⟨oc,od,.func (PySem.W.fnOf name qual params body scope dV kV doc pm an cdv ct),osl⟩) (hcd:PySem.W.codeIn K cdv qual = true) (S:zAq N ps scope)
  (len:∀ vs H Q E,sp vs H Q E→vs.length = ps.length)
  (hbody:∀ (A:Around) (outer:List Env) (s:Shared) (H:Hp) (vs:List V) (Q:VK) (E:XK),Room k (A.deeper (envOfC qual scope s.heap.objs.size f cdv))→sp vs H Q E →
   ∃ t,PSs (cxOf CX P w K mg base N qual scope f cdv A outer s H E) body t∧t { nx:=fun _ H'=>Q .non H',rt:=Q } (start N vs) H) :
  FnOk P w K mg base CX (k + 1) f (PySem.W.fnOf name qual params body scope dV kV doc pm an cdv ct) ps sp:=by
 refine ⟨len,fun A outer s H args us vs Q E hr e0 hb r hsp=>?_⟩
 have hl:=len _ _ _ _ hsp
 have KX:K.In s.heap:=e0.mod.kin.keeps fun b o e=>(e0.bs b o e).1
 have lim:s.heap.NoLimit:=e0.mod.nolimit.keeps fun b o e=>(e0.bs b o e).1
 have hkind:∀ y∈ps.zip us,scope.names.lookup y.1 = some .local∨(scope.names.lookup y.1 = some .cell∧((cellsFrom (s.heap.objs.size + 1) scope.names []).lookup y.1).isSome = true):=fun ⟨n,v⟩ hy=>by
  rcases S.par n (List.of_mem_zip hy).1 with q | q
  ·exact .inl q
  ·exact .inr ⟨q,PySem.W.cellsFrom_some _ _ _ (.inl q)⟩
 refine codeAny_call_function hr.depth (KX _ _ lk) rfl S.co S.gen rfl (PySem.W.codeRec_of KX hcd) (hb _ _ _ _ ?_)
 refine wpAny_newFunctionEnv_cells S.kind hkind fun env he s1 x=>?_
 subst he
 refine ⟨lim.keeps x.toInCall.keep,codeAny_func ?_⟩
 obtain ⟨t,ht,hq⟩:=hbody A outer s H vs Q E (hr.deeper _) hsp
 have I:Inv (cxOf CX P w K mg base N qual scope f cdv A outer s H E) [] (start N vs) H s1:=zRf S hr.hd e0 hl r x
 refine wpAny_mono (ht [] s1 (start N vs) H _ I hq) (fun fl s' hs=>?_) fun e s' hs=>hs
 have fin:∀ {σ':St} {H':Hp} {v:V} {u:Value},Inv (cxOf CX P w K mg base N qual scope f cdv A outer s H E) [] σ' H' s'→RelV v u→Q v H'→CE outer P w H s Q u s' :=
  fun {σ' H' v u} J rv q=>⟨v,H',J.os,J.bare,J.base,J.hok,rv,q⟩
 cases fl with
 | ret u =>
  obtain ⟨v,σ',H',J,rv,q⟩:=hs
  exact fin J rv q
 | next =>
  obtain ⟨σ',H',J,q⟩:=hs
  exact fin (v:=V.non) (u:=Value.none) J rfl q
 | brk =>
  obtain ⟨_,_,_,q⟩:=hs
  exact False.elim q
 | cont =>
  obtain ⟨_,_,_,q⟩:=hs
  exact False.elim q
end L2

namespace L2
open PySem PySem.Spec PyProof.Rows
section
variable {X:Cx} {x:Str} {p pos:Pos} {e:Expr} {es:List Expr} {t:TA} {id T:String} {r:List V→Hp→VK→Prop}

def tCB (r:List V→Hp→VK→Prop) (t:TA):TE:=fun σ H Q=>t σ H fun vs H1=>r vs H1 Q
theorem zAw (hc:zI9 X (.builtin id) r) (hg:Gl X x) (hm:X.mg x = none) (hv:bootBuiltins x = some (.builtin id)) (ha:PA X (e :: es) t) (hn:x ≠ "__name__" := by decide) (hdb:(x == ("__debug__" : Str)) = false:=by decide)
  (he:starEach (e :: es) X.env = (false,eval e X.env) :: starEach es X.env:=by rfl) (hpl:(backTo pos (starEach es X.env)).any (·.1) = false:=by rfl):PE X (.Call (.Name x p) (e :: es) [] pos) (tCB r t):=by
 intro pins s σ H Q I h
 refine wpAny_Call_Name_kw (zJo I hg hm hv ?_ hn hdb)
 exact PyProof.Rows.callWith_builtin1 (thn (ha pos pins s σ H _ I h) fun us s1 ⟨vs,H1,I1,r1,q1⟩=>hc pins s1 σ H1 vs us Q I1 r1 q1) he hpl
theorem zCb (hc:zI9 X (.type T) r) (hg:Gl X x) (hm:X.mg x = none) (hv:bootBuiltins x = some (.type T)) (ha:PA X (e :: es) t) (hn:x ≠ "__name__" := by decide) (hdb:(x == ("__debug__" : Str)) = false:=by decide)
  (he:starEach (e :: es) X.env = (false,eval e X.env) :: starEach es X.env:=by rfl) (hpl:(backTo pos (starEach es X.env)).any (·.1) = false:=by rfl):PE X (.Call (.Name x p) (e :: es) [] pos) (tCB r t):=by
 intro pins s σ H Q I h
 refine wpAny_Call_Name_kw (zJo I hg hm hv ?_ hn hdb)
 exact PyProof.Rows.callWith_type1 (thn (ha pos pins s σ H _ I h) fun us s1 ⟨vs,H1,I1,r1,q1⟩=>hc pins s1 σ H1 vs us Q I1 r1 q1) he hpl
end
end L2

namespace HT
open PySem PyProof.Rows

def lexLt:List Int→List Int→Bool
 | [],[]=>false
 | [],_ :: _=>true
 | _ :: _,[]=>false
 | x :: xs,y :: ys=>if x = y then lexLt xs ys else decide (x < y)
theorem lexLt_cons (x y:Int) (xs ys:List Int):lexLt (x :: xs) (y :: ys) = if x = y then lexLt xs ys else decide (x < y):=rfl
section
open PySem.SeqAt
open PySem.AutoSeq1 (wpAny_loadPart')
open PySem.MeetsSeq PySem.MeetsSeq2 PySem.MeetsSeq3

end

section
variable {prog:Program} {w:World} {A:Around} {E:Value→Shared→Prop} {s:Shared}

theorem cat_tup {t b:Addr} {vs ws:List Value} {Q:Value→Shared→Prop} (ht:IsTup s.heap t vs.toArray) (hb:IsTup s.heap b ws.toArray) (hv:vs≠[])
  (h1:ws = []→Q (.ref t) s) (h2:ws≠[]→Q (.ref s.heap.objs.size) { s with heap:=s.heap.push { cls:=.type "tuple", data:=.seq (vs ++ ws).toArray } })
  (hsz:vs.length + ws.length≤sizeLine):wpAny (model prog w) A (binaryOp .Add (.ref t) (.ref b)) Q E s:=by
 obtain ⟨⟨cls,dd,data,sl⟩,ho,hc,n,hd⟩:=id ht
 obtain ⟨⟨cls2,dd2,data2,sl2⟩,ho2,hc2,n2,hd2⟩:=id hb
 simp only at hc hd hc2 hd2
 subst hc hd hc2 hd2
 have e:vs.toArray ++ ws.toArray = (vs ++ ws).toArray:=by simp
 by_cases hw:ws = []
 ·exact concat_meets ⟨_,ho,rfl⟩ ⟨_,ho2,rfl⟩ noFill_tuple_add seq_tuple_add PySem.F.slot_tuple_add PySem.F.entry_tuple_add (PySem.F.args_tuple_add_2 _ _)
   (tuple_addW1 t b vs.toArray ws.toArray n n2 dd dd2 sl sl2 (by simpa using hv) (by simp [hw])) ⟨ho,ho2,h1 hw⟩
 ·refine concat_meets ⟨_,ho,rfl⟩ ⟨_,ho2,rfl⟩ noFill_tuple_add seq_tuple_add PySem.F.slot_tuple_add PySem.F.entry_tuple_add (PySem.F.args_tuple_add_2 _ _)
   (tuple_addW2 t b vs.toArray ws.toArray n n2 dd dd2 sl sl2 (by simpa using hv) (by simpa using hw) (by rw [List.size_toArray,List.size_toArray]; exact hsz)) ⟨ho,ho2,?_⟩
  rw [e]
  exact h2 hw

def sIx (n d:Nat):Option Int→Nat
 | none=>d
 | some v=>if v < 0 then (v + (n:Int)).toNat else min v.toNat n
theorem sIx_nat (n d k:Nat):sIx n d (some (k:Int)) = min k n:=by
 show (if (k:Int) < 0 then ((k:Int) + (n:Int)).toNat else min (k:Int).toNat n) = min k n
 rw [if_neg (by omega),Int.toNat_natCast]
theorem sIx_le (n d:Nat) (hd:d≤n) (o:Option Int):sIx n d o≤n:=by
 cases o with
 | none=>exact hd
 | some v =>
  show (if v < 0 then (v + (n:Int)).toNat else min v.toNat n)≤n
  by_cases hv:v < 0
  ·rw [if_pos hv]; omega
  ·rw [if_neg hv]; exact Nat.min_le_right _ _
theorem zQ8 (v:Int) (n d:Nat):(if v < 0 then max (v + (n:Int)) 0 else min v (n:Int)) = ((sIx n d (some v):Nat):Int):=by
 show (if v < 0 then max (v + (n:Int)) 0 else min v (n:Int)) = (((if v < 0 then (v + (n:Int)).toNat else min v.toNat n):Nat):Int)
 by_cases hv:v < 0
 ·simp only [if_pos hv]; omega
 ·simp only [if_neg hv]; omega
theorem zOq (lo hi:Option Int) (n:Nat):Builtin.Slice.sliceAdjust lo hi 1 (n:Int) = (((sIx n 0 lo:Nat):Int),((sIx n n hi:Nat):Int)):=by
 have h1:¬ ((1:Int) < 0):=by omega
 unfold Builtin.Slice.sliceAdjust
 simp only [h1,if_false]
 refine Prod.ext ?_ ?_
 ·cases lo with
  | none=>rfl
  | some v=>exact zQ8 v n 0
 ·cases hi with
  | none=>rfl
  | some v=>exact zQ8 v n n
theorem zO7 (i j:Nat):Builtin.Slice.slicePlaces (i:Int) (j:Int) 1 = j - i:=by
 unfold Builtin.Slice.slicePlaces
 have h1:(1:Int) > 0:=by omega
 simp only [h1,if_true,Int.ediv_one]
 split <;> omega
theorem zJi {v:Value} {o:Option Int} {Q:Option Int→Shared→Prop} (p:IsPart v o) (h:Q o s):wpAny (model prog w) A (Builtin.Slice.slicePartIndex v) Q E s:=by
 cases p with
 | none=>exact slicePart_none h
 | int i t=>exact slicePart_int h
theorem zHe {sl:Addr} {vl vu:Value} {lo hi:Option Int} {n:Nat} {Q:Int × Int × Nat→Shared→Prop} (hs:s.heap.IsSliceOf sl vl vu .none) (pl:IsPart vl lo) (pu:IsPart vu hi)
  (h:Q (((sIx n 0 lo:Nat):Int),1,sIx n n hi - sIx n 0 lo) s):wpAny (model prog w) A (Builtin.Slice.sliceApplied (.ref sl) (pure (n:Int))) Q E s:=by
 obtain ⟨os,hos,hcs,hds⟩:=id hs
 unfold Builtin.Slice.sliceApplied Builtin.Slice.sliceFields
 refine wpAny_bind (wpAny_bind (wpAny_field hos hds (x:=vl) rfl (wpAny_bind (wpAny_field hos hds (x:=vu) rfl (wpAny_bind (wpAny_field hos hds (x:=.none) rfl (wpAny_pure ?_)))))))
 refine wpAny_bind (slicePart_none ?_)
 show wpAny _ _ (if ((1:Int) == 0) = true then _ else _) _ _ s
 rw [if_neg (by decide)]
 refine wpAny_bind (zJi pl (wpAny_bind (zJi pu (wpAny_bind (wpAny_pure ?_)))))
 show wpAny _ _ (match Builtin.Slice.sliceAdjust lo hi 1 (n:Int) with | (lo,hi)=>pure (lo,(1:Int),Builtin.Slice.slicePlaces lo hi 1)) _ _ s
 rw [zOq lo hi n]
 show wpAny _ _ (pure (((sIx n 0 lo:Nat):Int),(1:Int),Builtin.Slice.slicePlaces ((sIx n 0 lo:Nat):Int) ((sIx n n hi:Nat):Int) 1)) _ _ s
 rw [zO7]
 exact wpAny_pure h
theorem zSn (xs:Array Value) (i k:Nat):((List.range k).filterMap fun (m:Nat)=>xs[((i:Int) + (m:Int) * 1).toNat]?).toArray = ((xs.toList.drop i).take k).toArray:=by
 have e:(fun (m:Nat)=>xs[((i:Int) + (m:Int) * 1).toNat]?) = fun m=>xs[i + m]?:=by
  funext m
  have:((i:Int) + (m:Int) * 1).toNat = i + m:=by omega
  rw [this]
 rw [e]
 have:=pick_run xs i k
 rw [List.filterMap_map] at this
 have e2:((fun x=>xs[x]?) ∘ fun x=>i + x) = fun m=>xs[i + m]?:=rfl
 rw [e2] at this
 rw [this]

theorem getItem_tuple_cut {t sl:Addr} {items:Array Value} {vl vu:Value} {lo hi:Option Int} {Q:Value→Shared→Prop} (ht:IsTup s.heap t items) (hs:s.heap.IsSliceOf sl vl vu .none) (pl:IsPart vl lo) (pu:IsPart vu hi)
  (hw:¬ (sIx items.size 0 lo = 0∧sIx items.size items.size hi = items.size))
  (h:Q (.ref s.heap.objs.size) { s with heap:=s.heap.push { cls:=.type "tuple", data:=.seq ((items.toList.drop (sIx items.size 0 lo)).take (sIx items.size items.size hi - sIx items.size 0 lo)).toArray } })
  (hsz:items.size≤sizeLine):wpAny (model prog w) A (getItem (.ref t) (.ref sl)) Q E s:=by
 have htake:sizeOk (.seq ((items.toList.drop (sIx items.size 0 lo)).take (sIx items.size items.size hi - sIx items.size 0 lo)).toArray):=by
  show ((items.toList.drop (sIx items.size 0 lo)).take (sIx items.size items.size hi - sIx items.size 0 lo)).toArray.size≤sizeLine
  rw [List.size_toArray,List.length_take,List.length_drop,Array.length_toList]
  omega
 have hj:sIx items.size items.size hi≤items.size:=sIx_le _ _ (Nat.le_refl _) hi
 obtain ⟨os,hos,hcs,hds⟩:=id hs
 have hTs:s.TypeIs (.ref sl) "slice" := ⟨os,hos,hcs⟩
 unfold getItem
 try with_reducible refine wpAny_holding ?_
 first | refine wpAny_bind (wpAny_pure ?_) | skip
 refine wpAny_bind (wpAny_sequenceKey ht.typeIs (by decide) ?_)
 refine wpAny_bind (wpAny_callSpecial?_slot (name:=Str.ofString "__getitem__") ht.typeIs PyProof.Rows.slot_tuple_getitem
  (wpAny_call_entry PyProof.Rows.slot_tuple_getitem ht.typeIs entry_tuple_getitem ?_ (args_tuple_getitem _ _)))
 show wpAny _ _ (Builtin.Tuple.tupleItemsOf (.ref t) >>= _) _ _ s
 refine wpAny_bind (tupleItemsOf_ ht ?_)
 refine wpAny_bind (wpAny_typeOf hTs ?_)
 rw [if_pos (by decide)]
 refine wpAny_bind (zHe hs pl pu ?_)
 have hno:¬ ((((sIx items.size 0 lo:Nat):Int) == 0 && (1:Int) == 1 && (sIx items.size items.size hi - sIx items.size 0 lo) == items.size) = true):=by
  intro q
  rw [Bool.and_eq_true,Bool.and_eq_true] at q
  have q1:((sIx items.size 0 lo:Nat):Int) = 0:=eq_of_beq q.1.1
  have q2:sIx items.size items.size hi - sIx items.size 0 lo = items.size:=eq_of_beq q.2
  exact hw ⟨by omega,by omega⟩
 show wpAny _ _ (if (((sIx items.size 0 lo:Nat):Int) == 0 && (1:Int) == 1 && (sIx items.size items.size hi - sIx items.size 0 lo) == items.size) = true then _ else _) _ _ s
 rw [if_neg hno,zSn]
 first
  | exact wpAny_bind (m:=Builtin.Tuple.tupleExact _) (wpAny_newObj_type (wpAny_pure ⟨_,rfl,wpAny_pure h⟩) htake)
  | exact wpAny_bind (m:=Builtin.Tuple.tupleExact _) (wpAny_newObj_type (wpAny_bind (wpAny_pure (wpAny_pure ⟨_,rfl,wpAny_pure h⟩))) htake)
  | exact wpAny_bind (wpAny_bind (m:=Builtin.Tuple.tupleExact _) (wpAny_newObj_type (wpAny_pure (wpAny_pure ⟨_,rfl,wpAny_pure h⟩)) htake))
  | exact wpAny_bind (wpAny_bind (m:=Builtin.Tuple.tupleExact _) (wpAny_newObj_type (wpAny_pure ⟨_,rfl,wpAny_pure h⟩) htake))
end
end HT

namespace L2
open PySem PySem.Spec PyProof.Rows

abbrev TO:=St→Hp→(Option Int→Hp→Prop)→Prop
def PO (X:Cx) (e:Option Expr) (t:TO):Prop :=
 ∀ (pins:List (Addr × Obj)) (s:Shared) (σ:St) (H:Hp) (Q:Option Int→Hp→Prop),Inv X pins σ H s→t σ H Q →
  wpAny (model X.prog X.w) X.A (evalPart e X.env) (fun u s'=>∃ o H',Inv X pins σ H' s'∧IsPart u o∧Q o H') X.xe s
def zTs:TO:=fun _ H Q=>Q none H
def tPart (t:TE):TO:=fun σ H Q=>t σ H fun x H1=>∃ i,x = .int i∧Q (some i) H1

theorem zJm {ns:List Int} : ∀ {us:List Value},Vals (ns.map V.int) us→IntsAre us ns:=by
 induction ns with
 | nil=>intro us r; rw [List.map_nil] at r; cases r; exact .nil
 | cons n ns ih =>
  intro us r
  rw [List.map_cons] at r
  cases r with
  | cons r1 r2 =>
   obtain ⟨t,e⟩:=r1
   subst e
   exact .cons n t (ih r2)

section
variable {X:Cx} {e:Expr} {te:TE} {lo hi:Option Expr} {tl th:TO} {pos p2:Pos}

theorem zCf:PO X none zTs:=by
 intro pins s σ H Q I h
 rw [evalPart_none]
 exact wpAny_pure ⟨none,H,I,.none,h⟩
theorem zCi (h:PE X e te):PO X (some e) (tPart te):=by
 intro pins s σ H Q I hw
 rw [evalPart_some]
 refine thn (h pins s σ H _ I hw) fun u s1 ⟨x,H1,I1,r1,q1⟩=>?_
 obtain ⟨i,rfl,q⟩:=q1
 obtain ⟨t,rfl⟩:=r1
 exact ⟨some i,H1,I1,.int i t,q⟩

def SlR (X:Cx) (r:V→Option Int→Option Int→Hp→VK→Prop):Prop :=
 ∀ (pins:List (Addr × Obj)) (s:Shared) (σ:St) (H:Hp) (x:V) (v vl vu:Value) (lo hi:Option Int) (sl:Addr) (Q:VK),Inv X pins σ H s→RelV x v→s.heap.IsSliceOf sl vl vu .none→IsPart vl lo→IsPart vu hi→r x lo hi H Q →
  ∃ T id,typeLookup (.type T) "__getitem__" = pure (some (.builtin id))∧s.TypeIs v T∧wpAny (model X.prog X.w) X.A (getItem v (.ref sl)) (EP X pins σ Q) X.xe s
def tSl (r:V→Option Int→Option Int→Hp→VK→Prop) (te:TE) (tl th:TO):TE:=fun σ H Q=>te σ H fun x H1=>tl σ H1 fun l H2=>th σ H2 fun u H3=>r x l u H3 Q
theorem zBp {r:V→Option Int→Option Int→Hp→VK→Prop} (hr:SlR X r) (he:PE X e te) (hl:PO X lo tl) (hu:PO X hi th):PE X (.Subscript e (.Slice lo hi none p2) pos) (tSl r te tl th):=by
 intro pins s σ H Q I h
 refine Subscript_ (thn (he pins s σ H _ I h) fun v s1 ⟨x,H1,I1,r1,q1⟩=>?_)
 refine wpAny_Slice (thn (hl pins s1 σ H1 _ I1 q1) fun vl s2 ⟨l,H2,I2,pl,q2⟩=>thn (hu pins s2 σ H2 _ I2 q2) fun vu s3 ⟨u,H3,I3,pu,q3⟩=>?_)
 rw [evalPart_none]
 refine wpAny_pure ?_
 have I4:Inv X pins σ H3 { s3 with heap:=s3.heap.push { cls:=.type "slice", data:=.fields #[vl,vu,.none] } }:=I3.kept (t':=s3.toks) fun b ob q=>Heap.get?_push_of_some _ q
 obtain ⟨T,id,hT,ht,hg⟩:=hr pins { s3 with heap:=s3.heap.push { cls:=.type "slice", data:=.fields #[vl,vu,.none] } } σ H3 x v vl vu l u s3.heap.objs.size Q I4 r1 (Heap.IsSliceOf.new ..) pl pu q3
 show wpAny (model X.prog X.w) X.A (subscriptTail e (.Slice lo hi none p2) v (.ref s3.heap.objs.size)) (EP X pins σ Q) X.xe { s3 with heap:=s3.heap.push { cls:=.type "slice", data:=.fields #[vl,vu,.none] } }
 exact tail_any (ops:=[.ref s3.heap.objs.size,v]) ht hT hg (by with_unfolding_all rfl)

def cutV (xs:List V) (lo hi:Option Int):List V:=(xs.drop (HT.sIx xs.length 0 lo)).take (HT.sIx xs.length xs.length hi - HT.sIx xs.length 0 lo)
theorem zHw (xs:List V) (lo hi:Option Int):(cutV xs lo hi).length≤xs.length:=by
 unfold cutV
 rw [List.length_take,List.length_drop]
 omega
def rSlT (K:PySem.W.Frag):V→Option Int→Option Int→Hp→VK→Prop:=fun x lo hi H Q=>∃ a xs,x = .ref a∧SqT K H a xs ∧
 ¬ (HT.sIx xs.length 0 lo = 0∧HT.sIx xs.length xs.length hi = xs.length)∧∀ p,H p = none→Q (.ref p) (upd H p (.tup (cutV xs lo hi)))
theorem zS7:SlR X (rSlT X.K):=by
 intro pins s σ H x v vl vu lo hi sl Q I rx hs pl pu h
 obtain ⟨a,xs,rfl,hx,hw,q⟩:=h
 cases rx
 obtain ⟨its,r,ht,hz⟩:=I.tuple hx
 have hlen:its.toArray.size = xs.length:=by rw [List.size_toArray]; exact r.length.symm
 refine ⟨"tuple", _,PyProof.Rows.slot_tuple_getitem.lookup,ht.typeIs,?_⟩
 refine HT.getItem_tuple_cut ht hs pl pu (by rw [hlen]; exact hw) ?_ (by rw [hlen]; exact hz)
 rw [hlen]
 refine ⟨.ref s.heap.objs.size,_,I.laid (t':=s.toks) (o:=.tup (cutV xs lo hi)) (fun b ob q=>Heap.get?_push_of_some _ q) (Nat.le_refl _) ?_,rfl,q _ (I.hok.fresh (Nat.le_refl _))⟩
 exact ⟨Nat.le_trans (zHw xs lo hi) hz,_,(r.drop (HT.sIx xs.length 0 lo)).take (HT.sIx xs.length xs.length hi - HT.sIx xs.length 0 lo),IsTup.new _ _⟩

def rCatT (K:PySem.W.Frag):R2:=fun x y H Q=>∃ a b xs ys,x = .ref a∧y = .ref b∧SqT K H a xs∧SqT K H b ys∧xs≠[]∧xs.length + ys.length≤sizeLine ∧
 (ys = []→Q (.ref a) H)∧(ys≠[]→∀ p,H p = none→Q (.ref p) (upd H p (.tup (xs ++ ys))))
theorem Vals.nil_iff {xs:List V} {us:List Value} (r:Vals xs us):us = []↔xs = []:=by
 cases r with
 | nil=>simp
 | cons _ _=>simp
theorem zP9:OpR X (binaryOp .Add) (rCatT X.K):=by
 intro pins s σ H x y v u Q I rx ry h
 obtain ⟨a,b,xs,ys,rfl,rfl,ha,hb,hx,hz,q1,q2⟩:=h
 cases rx
 cases ry
 obtain ⟨its,r1,p1,_⟩:=I.tuple ha
 obtain ⟨its2,r2,p2,_⟩:=I.tuple hb
 refine HT.cat_tup p1 p2 (fun z=>hx (r1.nil_iff.mp z)) (fun z=>⟨.ref a,H,I,rfl,q1 (r2.nil_iff.mp z)⟩) (fun z=>?_) (by rw [← r1.length,← r2.length]; exact hz)
 refine ⟨.ref s.heap.objs.size,_,I.laid (t':=s.toks) (o:=.tup (xs ++ ys)) (fun b ob q=>Heap.get?_push_of_some _ q) (Nat.le_refl _) ?_,rfl,q2 (fun w=>z (r2.nil_iff.mpr w)) _ (I.hok.fresh (Nat.le_refl _))⟩
 exact ⟨by rw [List.length_append]; exact hz,_,r1.append r2,IsTup.new _ _⟩
end
end L2

namespace L2
open PySem PySem.Spec PyProof.Rows

def ixN (n:Nat) (i:Int):Option Nat:=if 0≤i then (if i < n then some i.toNat else none) else if -(n:Int)≤i then some (i + n).toNat else none
def atI {α:Type} (xs:List α) (i:Int):Option α:=(ixN xs.length i).bind fun j=>xs[j]?
theorem zQ9 {n:Nat} {i:Int} {j:Nat} (h:ixN n i = some j):seqIndex? i n = some j∧j < n∧-(n:Int)≤i∧i < n:=by
 unfold ixN at h
 by_cases h0:0≤i
 ·rw [if_pos h0] at h
  by_cases h1:i < n
  ·rw [if_pos h1] at h
   have e:i.toNat = j:=Option.some.inj h
   exact ⟨by rw [seqIndex_of h0 h1,e],by omega,by omega,h1⟩
  ·rw [if_neg h1] at h; cases h
 ·rw [if_neg h0] at h
  by_cases h1 : -(n:Int)≤i
  ·rw [if_pos h1] at h
   have e:(i + n).toNat = j:=Option.some.inj h
   exact ⟨by rw [seqIndex_neg (by omega) h1,e],by omega,h1,by omega⟩
  ·rw [if_neg h1] at h; cases h
theorem zRt {α:Type} {xs:List α} {i:Int} {v:α} (h:atI xs i = some v):∃ j,seqIndex? i xs.length = some j∧xs[j]? = some v∧j < xs.length∧-(xs.length:Int)≤i∧i < xs.length:=by
 unfold atI at h
 cases e:ixN xs.length i with
 | none=>rw [e] at h; cases h
 | some j =>
  rw [e] at h
  obtain ⟨h1,h2,h3,h4⟩:=zQ9 e
  exact ⟨j,h1,h,h2,h3,h4⟩
theorem zDm {α:Type} {xs:List α} {j:Nat} {v:α} (h:xs[j]? = some v):atI xs (j:Int) = some v:=by
 have hj:j < xs.length:=(List.getElem?_eq_some_iff.mp h).1
 have e:ixN xs.length (j:Int) = some j:=by
  unfold ixN
  rw [if_pos (by omega),if_pos (by omega)]; simp
 unfold atI; rw [e]; exact h
def zTw (b:Expr):Prop:=∀ o i,subscripted b false o i = operate [o,i] (getItem o i)
def IxR (X:Cx) (r:R2):Prop :=
 ∀ (value slice:Expr) (pins:List (Addr × Obj)) (s:Shared) (σ:St) (H:Hp) (x y:V) (v u:Value) (Q:VK),Inv X pins σ H s→RelV x v→RelV y u→r x y H Q →
  subscripted slice false v u = operate [v,u] (getItem v u)→wpAny (model X.prog X.w) X.A (subscriptTail value slice v u) (EP X pins σ Q) X.xe s
def MtR (X:Cx) (id:String) (r:V→List V→Hp→VK→Prop):Prop :=
 ∀ (pins:List (Addr × Obj)) (s:Shared) (σ:St) (H:Hp) (x:V) (xs:List V) (v:Value) (us:List Value) (Q:VK),Inv X pins σ H s→RelV x v→Vals xs us→r x xs H Q →
  wpAny (model X.prog X.w) X.A (call (.builtin id) (v :: us)) (EP X pins σ Q) X.xe s
section
variable {X:Cx} {a b:Expr} {ta tb:TE} {pos:Pos}
theorem zAn {r:R2} (hr:IxR X r) (ha:PE X a ta) (hb:PE X b tb) (hs:zTw b):PE X (.Subscript a b pos) (tOp r ta tb):=by
 intro pins s σ H Q I h
 exact Subscript_ (binT ha hb I h fun v u s2 x y H2 I2 rx ry q=>hr a b pins s2 σ H2 x y v u Q I2 rx ry q (hs _ _))

def rIxL (K:PySem.W.Frag):R2:=fun x y H Q=>∃ p xs i v,x = .ref p∧y = .int i∧SqL K H p xs∧atI xs i = some v∧Q v H
def rIxT (K:PySem.W.Frag):R2:=fun x y H Q=>∃ p xs i v,x = .ref p∧y = .int i∧SqT K H p xs∧atI xs i = some v∧Q v H
theorem zUl:IxR X (rIxL X.K):=by
 intro value slice pins s σ H x y v u Q I rx ry h hs
 obtain ⟨p,xs,i,z,rfl,rfl,hq,he,q⟩:=h
 cases rx
 obtain ⟨t,rfl⟩:=ry
 obtain ⟨its,r,pl,hz⟩:=I.list hq
 obtain ⟨j,h1,h2,h3,h4,h5⟩:=zRt he
 obtain ⟨w,ew,rw'⟩:=r.get h2
 have hl:=r.length
 have hn:=zK8
 have fin:EP X pins σ Q w s:=⟨z,H,I,rw',q⟩
 by_cases h0:0≤i
 ·have hj:i.toNat = j:=by
   rw [seqIndex_of h0 h5] at h1
   exact Option.some.inj h1
  exact item_listR pl.isList h0 (by omega) (by rw [hj]; simpa using ew) fin hs
 ·have hj:(i + (its.toArray.size:Int)).toNat = j:=by
   rw [seqIndex_neg (by omega) h4] at h1
   rw [List.size_toArray,← hl]
   exact Option.some.inj h1
  exact subscriptTail_builtinR (x:=w) pl.isList.typeIs slot_list_getitem.lookup
   (wpAny_getItem_list_neg (Q:=fun r s'=>r = w∧EP X pins σ Q r s') pl.isList (by omega) (by rw [List.size_toArray] <;> omega) (by omega) (by rw [hj]; simpa using ew) ⟨rfl,fin⟩) hs
theorem ix_tup:IxR X (rIxT X.K):=by
 intro value slice pins s σ H x y v u Q I rx ry h hs
 obtain ⟨p,xs,i,z,rfl,rfl,hq,he,q⟩:=h
 cases rx
 obtain ⟨t,rfl⟩:=ry
 obtain ⟨its,r,pl,hz⟩:=I.tuple hq
 obtain ⟨j,h1,h2,h3,h4,h5⟩:=zRt he
 obtain ⟨w,ew,rw'⟩:=r.get h2
 have hl:=r.length
 have hn:=zK8
 have fin:EP X pins σ Q w s:=⟨z,H,I,rw',q⟩
 exact subscriptTail_builtinR (x:=w) pl.typeIs slot_tuple_getitem.lookup
  (getItem_tuple (j:=j) (Q:=fun r s'=>r = w∧EP X pins σ Q r s') pl (by omega) (by omega) (by rw [List.size_toArray,← hl]; exact h1) (by simpa using ew) ⟨rfl,fin⟩) hs
theorem zN9 (its:List Value) (n j:Nat) (u:Value):Obj.mapSeq (·.setIfInBounds j u) { cls:=.type "list", data:=.seq its.toArray n } = { cls:=.type "list", data:=.seq (its.set j u).toArray n }:=by
 simp [Obj.mapSeq]
theorem Inv.lst {pins:List (Addr × Obj)} {σ:St} {H:Hp} {s:Shared} {p:Addr} {xs:List V} (I:Inv X pins σ H s) (h:H p = some (.lst xs)) :
  ∃ (its:List Value) (n:Nat),Vals xs its∧s.heap.get? p = some { cls:=.type "list", data:=.seq its.toArray n }∧xs.length≤sizeLine:=by
 obtain ⟨z,its,n,r,e⟩:=I.hok p _ h
 exact ⟨its,n,r,e,z⟩
theorem Inv.lstUpd {pins:List (Addr × Obj)} {σ:St} {H:Hp} {s:Shared} {p:Addr} {xs ys:List V} {its its':List Value} {n n':Nat} {f:Obj→Obj} (I:Inv X pins σ H s) (h:H p = some (.lst xs))
  (ho:s.heap.get? p = some { cls:=.type "list", data:=.seq its.toArray n }) (hf:f { cls:=.type "list", data:=.seq its.toArray n } = { cls:=.type "list", data:=.seq its'.toArray n' }) (r:Vals ys its') (hz:ys.length≤sizeLine) (t:Nat) :
  Inv X pins σ (upd H p (.lst ys)) { s with heap:=s.heap.update p f,toks:=t }:=by
 have e:(s.heap.update p f).get? p = some { cls:=.type "list", data:=.seq its'.toArray n' }:=by
  rw [Heap.get?_update_self f ho (by rw [hf] <;> rfl),hf]
 refine I.write (x:=p) (e:=p) (by rw [h]; trivial) (.inl rfl) (fun b u hb q=>(Heap.get?_update_other _ _ (Ne.symm hb)).trans q) ⟨_,e⟩ ?_
 exact ⟨hz,its',n',r,e⟩
def rSetL:V→V→V→Hp→(Hp→Prop)→Prop:=fun o i v H Q=>∃ p xs k j,o = .ref p∧i = .int k∧H p = some (.lst xs)∧ixN xs.length k = some j∧Q (upd H p (.lst (xs.set j v)))
theorem zSi:PSet X rSetL:=by
 intro pins s σ H o i v ov iv u Q I ro ri rv h
 obtain ⟨p,xs,k,j,rfl,rfl,hp,hj,q⟩:=h
 cases ro
 obtain ⟨t,rfl⟩:=ri
 obtain ⟨its,n,r,ho,hz⟩:=I.lst hp
 obtain ⟨h1,h2,h3,h4⟩:=zQ9 hj
 have hl:=r.length
 have hn:=zK8
 have I':Inv X pins σ (upd H p (.lst (xs.set j v))) { s with heap:=s.heap.update p (Obj.mapSeq (·.setIfInBounds j u)) } :=
  I.lstUpd hp ho (zN9 its n j u) (r.set rv j) (by rw [List.length_set]; exact hz) s.toks
 by_cases h0:0≤k
 ·have hk:k.toNat = j:=by
   rw [seqIndex_of h0 h4] at h1
   exact Option.some.inj h1
  exact PySem.W.ki_setAt ho h0 (by omega) (by rw [List.size_toArray,← hl]; exact h4) (by rw [hk]; exact ⟨_,I',q⟩)
 ·have hk:(k + (its.toArray.size:Int)).toNat = j:=by
   rw [seqIndex_neg (by omega) h3] at h1
   rw [List.size_toArray,← hl]
   exact Option.some.inj h1
  exact PySem.W.ki_setBack ho (by omega) (by rw [List.size_toArray,← hl]; exact h3) (by omega) (by rw [hk]; exact ⟨_,I',q⟩)

theorem zL5 (lo hi:Option Int) (n:Nat):(sliceBounds lo hi none n).1 = ((HT.sIx n 0 lo:Nat):Int)∧(sliceBounds lo hi none n).2.1 = ((HT.sIx n n hi:Nat):Int)∧(sliceBounds lo hi none n).2.2 = 1:=by
 refine ⟨?_,?_,rfl⟩
 ·cases lo with
  | none=>simp [sliceBounds,HT.sIx]
  | some i =>
   simp only [sliceBounds,HT.sIx,Option.getD_none,show (1:Int) > 0 by decide,if_true]
   by_cases h:i < 0
   ·simp only [h,if_true] <;> omega
   ·simp only [h,if_false] <;> omega
 ·cases hi with
  | none=>simp [sliceBounds,HT.sIx]
  | some i =>
   simp only [sliceBounds,HT.sIx,Option.getD_none,show (1:Int) > 0 by decide,if_true]
   by_cases h:i < 0
   ·simp only [h,if_true] <;> omega
   ·simp only [h,if_false] <;> omega
theorem zKy (its:List Value) (lo hi:Option Int):slicePick its.toArray lo hi none = ((its.drop (HT.sIx its.length 0 lo)).take (HT.sIx its.length its.length hi - HT.sIx its.length 0 lo)).toArray:=by
 obtain ⟨h1,h2,h3⟩:=zL5 lo hi its.toArray.size
 unfold slicePick
 rw [h1,h2,h3]
 simp only [sliceRange_one,pick_run,List.size_toArray] <;> rfl
def rSlL (K:PySem.W.Frag):V→Option Int→Option Int→Hp→VK→Prop:=fun x lo hi H Q=>∃ a xs,x = .ref a∧SqL K H a xs∧∀ p,H p = none→Q (.ref p) (upd H p (.lst (cutV xs lo hi)))
theorem zC0:SlR X (rSlL X.K):=by
 intro pins s σ H x v vl vu lo hi sl Q I rx hs pl pu h
 obtain ⟨a,xs,rfl,hx,q⟩:=h
 cases rx
 obtain ⟨its,r,ht,hz⟩:=I.list hx
 have hlen:=r.length
 refine ⟨"list", _,slot_list_getitem.lookup,ht.isList.typeIs,?_⟩
 refine wpAny_getItem_list_slice ht.isList hs pl pu .none (by simp) ?_ (by rw [List.size_toArray] <;> omega)
 rw [zKy,← hlen]
 refine ⟨.ref s.heap.objs.size,_,I.laid (t':=s.toks) (o:=.lst (cutV xs lo hi)) (fun b ob q=>Heap.get?_push_of_some _ q) (Nat.le_refl _) ?_,rfl,q _ (I.hok.fresh (Nat.le_refl _))⟩
 exact ⟨Nat.le_trans (zHw xs lo hi) hz,_,0,(r.drop (HT.sIx xs.length 0 lo)).take (HT.sIx xs.length xs.length hi - HT.sIx xs.length 0 lo),Heap.get?_push_size _ rfl⟩

theorem zA1:zI9 X (.builtin "len") (fun xs H Q=>∃ p ys,xs = [.ref p]∧(SqL X.K H p ys∨SqT X.K H p ys)∧Q (.int ys.length) H):=by
 intro pins s σ H xs us Q I r h
 obtain ⟨p,ys,rfl,hq,q⟩:=h
 obtain ⟨u,rfl,rx⟩:=zSe r
 cases rx
 have hn:=zK8
 rcases hq with hq | hq
 ·obtain ⟨its,r',pl,hz⟩:=I.list hq
  have hlen:=r'.length
  exact Calls.call_len_list pl.isList (by simp only [List.size_toArray] <;> omega) ⟨.int ys.length,H,I.tok _,⟨s.toks + 1,by rw [List.size_toArray,hlen]⟩,q⟩
 ·obtain ⟨its,r',pl,hz⟩:=I.tuple hq
  have hlen:=r'.length
  exact len_tuple pl (by simp only [List.size_toArray] <;> omega) ⟨.int ys.length,H,I.tok _,⟨s.toks + 1,by rw [List.size_toArray,hlen]⟩,q⟩
theorem zB9:zI9 X (.type "list") (fun xs H Q=>∃ p ys,xs = [.ref p]∧(SqL X.K H p ys∨SqT X.K H p ys)∧∀ l,H l = none→Q (.ref l) (upd H l (.lst ys))):=by
 intro pins s σ H xs us Q I r h
 obtain ⟨p,ys,rfl,hq,q⟩:=h
 obtain ⟨u,rfl,rx⟩:=zSe r
 cases rx
 have fin:∀ (its:List Value),Vals ys its→ys.length≤sizeLine→∀ (h':Heap) (c':Nat),(∀ b o',s.heap.get? b = some o'→h'.get? b = some o') →
   h'.get? s.heap.objs.size = some { cls:=.type "list", dict:=none,data:=.seq its.toArray c',slots:=#[] }→EP X pins σ Q (.ref s.heap.objs.size) { s with heap:=h' }:=fun its r' hz h' c' kp e =>
  ⟨.ref s.heap.objs.size,_,I.laid (t':=s.toks) kp (Nat.le_refl _) (show zDh X.prog X.w _ h' _ (.lst ys) from ⟨hz,its,c',r',e⟩),rfl,q _ (I.hok.fresh (Nat.le_refl _))⟩
 rcases hq with hq | hq
 ·obtain ⟨its,r',pl,hz⟩:=I.list hq
  have hlen:=r'.length
  obtain ⟨o,ho,hc,n,hd⟩:=pl.isList
  exact call_list_seq p (.inl rfl) ho hc hd (fun h' c' kp e=>fin its r' hz h' c' kp e) (by simp only [List.size_toArray] <;> omega)
 ·obtain ⟨its,r',pl,hz⟩:=I.tuple hq
  have hlen:=r'.length
  obtain ⟨o,ho,hc,n,hd⟩:=pl
  exact call_list_seq p (.inr rfl) ho hc hd (fun h' c' kp e=>fin its r' hz h' c' kp e) (by simp only [List.size_toArray] <;> omega)
theorem zKg:zI9 X (.type "tuple") (fun xs H Q=>∃ p ys,xs = [.ref p]∧((SqL X.K H p ys∧∀ l,H l = none→Q (.ref l) (upd H l (.tup ys)))∨(SqT X.K H p ys∧Q (.ref p) H))):=by
 intro pins s σ H xs us Q I r h
 obtain ⟨p,ys,rfl,h⟩:=h
 obtain ⟨u,rfl,rx⟩:=zSe r
 cases rx
 rcases h with ⟨hq,q⟩ | ⟨hq,q⟩
 ·obtain ⟨its,r',pl,hz⟩:=I.list hq
  have hlen:=r'.length
  refine call_tuple_list pl.isList (fun h' kp=>?_) (by simp only [List.size_toArray] <;> omega)
  have I1:Inv X pins σ H { s with heap:=h' }:=I.kept (t':=s.toks) kp
  have I2:Inv X pins σ (upd H h'.objs.size (.tup ys)) { s with heap:=h'.push { cls:=.type "tuple", data:=.seq its.toArray } } :=
   I1.laid (t':=s.toks) (fun b o e=>Heap.get?_push_of_some _ e) (Nat.le_refl _) (show zDh X.prog X.w _ _ _ (.tup ys) from ⟨hz,its,r',IsTup.new _ _⟩)
  exact ⟨.ref h'.objs.size,_,I2,rfl,q _ (I1.hok.fresh (Nat.le_refl _))⟩
 ·obtain ⟨its,r',pl,hz⟩:=I.tuple hq
  exact call_tuple_same pl ⟨.ref p,H,I,rfl,q⟩

def tyV (K:PySem.W.Frag) (T:String) (x:V) (H:Hp):Prop:=match x with
 | .str _=>T = "str"
 | .int _=>T = "int"
 | .ref p=>(T = "list" ∧ ∃ xs,SqL K H p xs)∨(T = "tuple" ∧ ∃ o,K.lookup p = some o∧o.cls = .type "tuple" ∧ o.dict = none) ∨
   (T = "dict" ∧ ((∃ kvs,H p = some (.dK kvs))∨∃ kvs,H p = some (.dT kvs)))∨(T = "set" ∧ ∃ S n,H p = some (.set S n))
 | _=>False
theorem tyV_is {pins:List (Addr × Obj)} {σ:St} {H:Hp} {s:Shared} {T:String} {x:V} {v:Value} (I:Inv X pins σ H s) (r:RelV x v) (ty:tyV X.K T x H) :
  s.TypeIs v T∧∀ a,v = .ref a→∃ ob,s.heap.get? a = some ob∧ob.dict = none:=by
 cases x with
 | str z =>
  obtain ⟨t,rfl⟩:=r
  cases (show T = "str" from ty)
  exact ⟨typeIs_str s z t,fun _ e=>nomatch e⟩
 | int i =>
  obtain ⟨t,rfl⟩:=r
  cases (show T = "int" from ty)
  exact ⟨typeIs_int s i t,fun _ e=>nomatch e⟩
 | ref p =>
  cases r
  rcases ty with ⟨rfl,xs,hq⟩ | ⟨rfl,o,hk,hc,hd⟩ | ⟨rfl,hk⟩ | ⟨rfl,S,n,hk⟩
  ·obtain ⟨its,_,pl,_⟩:=I.list hq
   refine ⟨pl.isList.typeIs,fun a e=>?_⟩
   cases e
   obtain ⟨o,n,e,c,hd,_⟩:=pl
   exact ⟨o,e,hd⟩
  ·refine ⟨⟨o,I.kIn p o hk,hc⟩,fun a e=>?_⟩
   cases e
   exact ⟨o,I.kIn _ o hk,hd⟩
  ·have z:∃ o,s.heap.get? p = some o∧o.ExactDict:=by
    rcases hk with ⟨kvs,hk⟩ | ⟨kvs,hk⟩
    ·obtain ⟨_,_,_,_,o,_,_,e,ex,_⟩:=I.hok p _ hk
     exact ⟨o,e,ex⟩
    ·obtain ⟨_,_,_,_,o,_,_,e,ex,_⟩:=I.hok p _ hk
     exact ⟨o,e,ex⟩
   obtain ⟨o,e,ex⟩:=z
   refine ⟨⟨o,e,ex.1⟩,fun a e2=>?_⟩
   cases e2
   exact ⟨o,e,ex.2.1⟩
  ·obtain ⟨o,_,_,_,e,ex,_⟩:=I.hok p _ hk
   refine ⟨⟨o,e,ex.1⟩,fun a e2=>?_⟩
   cases e2
   exact ⟨o,e,ex.2.1⟩
 | _=>exact False.elim ty
def tBM (K:PySem.W.Frag) (T:String) (r:V→List V→Hp→VK→Prop) (to:TE) (t:TA):TE:=fun σ H Q=>to σ H fun x H1=>tyV K T x H1∧t σ H1 fun xs H2=>r x xs H2 Q
variable {o e:Expr} {es:List Expr} {to:TE} {t:TA} {name:Str} {apos cpos:Pos} {T id:String} {r:V→List V→Hp→VK→Prop}
theorem zPm (pa:PlainAttrs T) (slot:Slot T name id) (hty:typeOf (.builtin id) = pure (.type "method_descriptor")) (hm:MtR X id r) (ho:PE X o to) (ha:PA X (e :: es) t)
  (hbase:attributeBase o name X.env (eval o X.env) = eval o X.env:=by rfl)
  (hfew:((backTo cpos (starEach (e :: es) X.env)).all (fun x=>!x.1) && (backToKw cpos (keywordEach [] X.env)).all (fun x=>x.1.isSome)
   && decide ((e :: es).length + ([]:List Keyword).length + (if ([]:List Keyword).isEmpty then 0 else 1) < 30)) = true:=by rfl)
  (hline:(apos.endLine == cpos.line) = true:=by rfl) (hs:starEach (e :: es) X.env = (false,eval e X.env) :: starEach es X.env:=by rfl) (hplain:(backTo cpos (starEach es X.env)).any (·.1) = false:=by rfl) :
  PE X (.Call (.Attribute o name apos) (e :: es) [] cpos) (tBM X.K T r to t):=by
 intro pins s σ H Q I h
 refine wpAny_Call_method_late hbase hfew hline rfl (thn (ho pins s σ H _ I h) fun v s1 ⟨x,H1,I1,r1,ty,q1⟩=>?_)
 obtain ⟨h1,h2⟩:=tyV_is I1 r1 ty
 refine ⟨T,id,pa,slot,hty,h1,h2,?_⟩
 have hA:=ha cpos pins s1 σ H1 _ I1 q1
 rw [hs] at hA ⊢
 refine Calls.callWith_builtin (by show (false || (backTo cpos (starEach es X.env)).any (·.1)) = false; rw [hplain] <;> rfl) (Calls.evalArgs_plain ?_)
 exact thn hA fun us s2 ⟨vs,H2,I2,r2,q2⟩=>hm pins s2 σ H2 x vs v us Q I2 r1 r2 q2
end
end L2

namespace L2
open PySem PySem.Spec PyProof.Rows

def MtM (X:Cx) (id:String) (r:V→List V→Hp→VK→Prop):Prop :=
 ∀ (pins:List (Addr × Obj)) (s:Shared) (σ:St) (H:Hp) (x:V) (xs:List V) (v:Value) (us:List Value) (Q:VK),Inv X pins σ H s→RelV x v→Vals xs us→r x xs H Q →
  wpAny (model X.prog X.w) X.A (call (.builtin id) (v :: us)) (EP X pins σ Q) X.xe s

theorem Vals.one:∀ {x:V} {us:List Value},Vals [x] us→∃ u,us = [u]∧RelV x u
 | _,_,.cons r .nil=>⟨_,rfl,r⟩
theorem Vals.zero:∀ {us:List Value},Vals [] us→us = []
 | _,.nil=>rfl
section
variable {X:Cx} {pins:List (Addr × Obj)} {σ:St} {H:Hp} {s:Shared} {l b:Addr} {xs ys zs:List V}

theorem Inv.lset {its its':List Value} {n:Nat} {f:Array Value→Array Value} {t':Nat} (I:Inv X pins σ H s) (hH:H l = some (.lst xs))
  (e:s.heap.get? l = some { cls:=.type "list", data:=.seq its.toArray n }) (hf:f its.toArray = its'.toArray) (hv:Vals ys its') (hz:ys.length≤sizeLine) :
  Inv X pins σ (upd H l (.lst ys)) { s with heap:=s.heap.update l (Obj.mapSeq f),toks:=t' }:=by
 have q:=PySem.IsL.update e f
 rw [hf] at q
 refine I.write (x:=l) (e:=l) (by rw [hH]; exact trivial) (.inl rfl) (fun b' u hb hu=>(Heap.get?_update_other s.heap (Obj.mapSeq f) (Ne.symm hb)).trans hu) ⟨_,q⟩ ?_
 exact ⟨hz,its',_,hv,q⟩
theorem Inv.lnew {its:List Value} {t':Nat} (I:Inv X pins σ H s) (hv:Vals ys its) (hz:ys.length≤sizeLine) :
  Inv X pins σ (upd H s.heap.objs.size (.lst ys)) { s with heap:=s.heap.push { cls:=.type "list", data:=.seq its.toArray },toks:=t' } :=
 I.laid (fun _ _ q=>Heap.get?_push_of_some _ q) (Nat.le_refl _) ⟨hz,its,0,hv,Heap.get?_push_size _ rfl⟩
theorem Inv.fresh (I:Inv X pins σ H s):H s.heap.objs.size = none:=I.hok.fresh (Nat.le_refl _)
theorem Inv.lstM (I:Inv X pins σ H s) (hH:H l = some (.lst xs)):xs.length≤sizeLine∧∃ (its:List Value) (n:Nat),Vals xs its∧xs.length = its.length∧s.heap.get? l = some { cls:=.type "list", data:=.seq its.toArray n }:=by
 obtain ⟨z,its,n,r,e⟩:=I.hok l _ hH
 exact ⟨z,its,n,r,r.length,e⟩

theorem zSf {n:Nat} (h:n≤sizeLine):Builtin.List.listTooLong n = false:=by
 unfold Builtin.List.listTooLong
 exact decide_eq_false (by omega)
end

section
variable {X:Cx}

def zT3:V→List V→Hp→VK→Prop:=fun x vs H Q=>∃ l xs y,x = .ref l∧vs = [y]∧H l = some (.lst xs)∧xs.length < sizeLine∧Q .non (upd H l (.lst (xs ++ [y])))
theorem zDn:MtM X "list.append" zT3:=by
 intro pins s σ H x vs v us Q I rx rv h
 obtain ⟨l,xs,y,rfl,rfl,hH,hz,q⟩:=h
 cases rx
 obtain ⟨u,rfl,ru⟩:=rv.one
 obtain ⟨z,its,n,r,hl,e⟩:=I.lstM hH
 refine call_meets F.slot_list_append ⟨_,e,rfl⟩ F.entry_list_append (F.args_list_append_2 _ _) (PySem.list_append l its.toArray n u (by rw [List.size_toArray]; omega)) ⟨e,?_⟩
 refine ⟨.non,_,I.lset (its':=its ++ [u]) hH e (by simp) (r.append (.cons ru .nil)) ?_,rfl,q⟩
 rw [List.length_append,List.length_singleton]
 omega

def zTj:V→List V→Hp→VK→Prop:=fun x vs H Q=>∃ l b xs zs,x = .ref l∧vs = [.ref b]∧H l = some (.lst xs)∧H b = some (.lst zs)∧xs.length + zs.length≤sizeLine∧Q .non (upd H l (.lst (xs ++ zs)))
theorem mt_extend:MtM X "list.extend" zTj:=by
 intro pins s σ H x vs v us Q I rx rv h
 obtain ⟨l,b,xs,zs,rfl,rfl,hH,hB,hz,q⟩:=h
 cases rx
 obtain ⟨u,rfl,ru⟩:=rv.one
 cases ru
 obtain ⟨z,its,n,r,hl,e⟩:=I.lstM hH
 obtain ⟨z2,its2,n2,r2,hl2,e2⟩:=I.lstM hB
 have hsz:its.toArray.size + its2.toArray.size≤sizeLine:=by rw [List.size_toArray,List.size_toArray]; omega
 have hlong:¬ (!its.toArray.isEmpty && Builtin.List.listTooLong (its.toArray.size + its2.toArray.size)) = true:=by
  rw [zSf hsz,Bool.and_false]
  exact Bool.false_ne_true
 refine call_meets F.slot_list_extend ⟨_,e,rfl⟩ F.entry_list_extend (F.args_list_extend_2 _ _)
  (AutoSeq1.list_extend_list_list_0 l its.toArray n b its2.toArray n2 hlong (by rw [List.size_toArray]; omega) (by omega)) ⟨e,e2,?_⟩
 refine ⟨.non,_,I.lset (its':=its ++ its2) hH e (by simp) (r.append r2) ?_,rfl,q⟩
 rw [List.length_append]
 omega

def rCat:R2:=fun x y H Q=>∃ l b xs zs,x = .ref l∧y = .ref b∧H l = some (.lst xs)∧H b = some (.lst zs)∧xs.length + zs.length≤sizeLine∧∀ p,H p = none→Q (.ref p) (upd H p (.lst (xs ++ zs)))
theorem zL1:OpR X (binaryOp .Add) rCat:=by
 intro pins s σ H x y v u Q I rx ry h
 obtain ⟨l,b,xs,zs,rfl,rfl,hH,hB,hz,q⟩:=h
 cases rx
 cases ry
 obtain ⟨z,its,n,r,hl,e⟩:=I.lstM hH
 obtain ⟨z2,its2,n2,r2,hl2,e2⟩:=I.lstM hB
 refine PySem.P.add_list e e2 ?_ (by rw [List.size_toArray,List.size_toArray]; omega)
 have ea:its.toArray ++ its2.toArray = (its ++ its2).toArray:=by simp
 rw [ea]
 exact ⟨.ref _,_,I.lnew (t':=s.toks) (r.append r2) (by rw [List.length_append]; omega),rfl,q _ I.fresh⟩
end

section
variable {prog:Program} {w:World} {A:Around} {E:Value→Shared→Prop} {s:Shared}
set_option maxRecDepth 100000 in
end

section
variable {X:Cx}
end
end L2

namespace Att
open PySem PySem.W PySem.Calls PyProof.Rows

theorem zH0 {P:Params} {h:Heap} : ∀ (ns:List Int) (vs:List Value),WellAll P h vs (ns.map WData.int)→IntsAre vs ns:=by
 intro ns
 induction ns with
 | nil =>
  intro vs w
  rw [List.map_nil] at w
  cases w
  exact .nil
 | cons n ns ih =>
  intro vs w
  rw [List.map_cons] at w
  cases w with
  | cons a b =>
   cases a
   exact .cons _ _ (ih _ b)

theorem zRm {l:OpenLaw} {n:Nat} (hn:l.most = some n) {P:Params} {h:Heap} {args:List WData} {vals:List Value}
  (hpre:l.row.toRowW.claim.pre args = true) (hwl:WellAll P h vals args) :
  ∃ a vs ns,vals = [Value.ref a]∧args = [WData.list (ns.map WData.int)]∧h.get? a = some { cls:=.type "list", data:=.seq vs.toArray }∧IntsAre vs ns∧ns.length≤n:=by
 have hsh:WShape.hasAll [] args [.list .int] = true:=(pre_splitW hpre).1
 have hc:l.pre.holds [] { args:=args } = true:=(pre_splitW hpre).2
 obtain ⟨d,r,rfl,h1,h2⟩:=hasAllW_cons hsh
 obtain rfl:=hasAllW_nil h2
 obtain ⟨xs,rfl,h3⟩:=hasW_list h1
 obtain ⟨ns,rfl⟩:=items_int h3
 have hlen:ns.length≤n:=by
  unfold OpenLaw.pre at hc
  have h4:(WTm.not (.lt (.lit (.int (n:Int))) (.len (.arg 0)))).holds [] { args:=[.list (ns.map .int)] } = true:=by
   have h4:=(holds_andW hc).1
   rw [hn] at h4
   exact h4
  have h5:=condW_of h4 (w_not (w_lt w_lit (w_len_list (w_arg rfl))))
  rw [List.length_map] at h5
  refine Nat.le_of_not_lt fun q=>?_
  have q':(n:Int) < ((ns.length:Nat):Int):=by omega
  first
   | (rw [decide_eq_true q'] at h5; exact absurd h5 (by decide))
   | (simp at h5; omega)
 cases hwl with
 | cons w1 w2 =>
  cases w2
  cases w1 with
  | list ho hall=>exact ⟨_,_,ns,rfl,rfl,ho,zH0 ns _ hall,hlen⟩

theorem zRp (l:OpenLaw) (args:List WData):l.row.toRowW.claim.post args (.bool true) args = true :=
 postW_of (r:=l.row.toRowW) (X:=(true == true))
  (show WShape.has [] (.bool true) .bool = true by first | rfl | decide | simp [WShape.has,WShape.arms,WShape.armsAll])
  (show (WTm.eq .res (.lit (.bool true))).value [] { args:=args,res:=some (.bool true),after:=args } = some (.bool (true == true)) from w_eq_bool (w_res rfl) w_lit) rfl

theorem attach_call {l:OpenLaw} {n:Nat} {q:Program} {loose:List Str} {XP:(Str→Option Value)→Heap→Prop} {YP:World→Heap→Prop} {d:DefRec}
  (hn:l.most = some n) (hdf:d.params.defaults = [])
  (call:∀ (w:World) (s₀ s₁:Shared) (mg mb:Str→Option Value) (fa:Addr) (o:Obj) (pm cd doc:Value) (a:Addr) (vs:List Value) (ns:List Int),
   Ground q loose [] XP w s₀ mg mb s₁.heap→YP w s₁.heap →
   s₁.heap.get? fa = some o→o.data = .func (docDef d.name d.params d.body d.scope pm cd doc)→s₁.heap.CodeRec cd d.name→mg d.name = some (.ref fa) →
   s₁.heap.get? a = some { cls:=.type "list", data:=.seq vs.toArray }→IntsAre vs ns→ns.length≤n→s₁.gens = #[] →
   codeAny (model l.prog w) callerA (.call (.ref fa) ⟨[.ref a],[]⟩) (fun r s'=>r = .ok (.ret (.bool true))∧OldK s₁.heap s'.heap∧s'.os = s₁.os∧AllBare s'.gens) s₁) :
  WalkO q loose XP YP l.row.toRowW d [] (fun f vs=>PySem.call f vs):=by
 intro w s₀ s₁ mg mb G Y fa o pm cd doc dV kV ho hd hcd hD hmg hg args vals as hpre hlay hrd hwl hlo
 obtain rfl:dV = .none:=Dflts.none hD hdf
 obtain rfl:kV = .none:=Dflts.noKw hD
 obtain ⟨a,vs,ns,rfl,rfl,hobj,hints,hlen⟩:=zRm hn hpre hwl
 refine enter_call (codeAny_mono (call w s₀ s₁ mg mb fa o pm cd doc a vs ns G Y ho (fd_plain hd) hcd hmg hobj hints hlen hg) fun r s' hq=>?_)
 obtain ⟨rfl,h2,h3,h4⟩:=hq
 exact ⟨.inl ⟨.bool true,.bool true,[],rfl,fun _=>rfl,.bool true,zRp l _,fun _=>⟨List.Pairwise.nil,fun _ hm=>(nomatch hm)⟩⟩,h2,h3,h4⟩

section
variable {prog:Program} {w:World} {A:Around} {E:Value→Shared→Prop} {s:Shared} {K:Frag}

end
end Att

namespace L2
open PySem PySem.Spec PyProof.Rows

theorem zIb:∀ {vs:List Value} {ns:List Int},IntsAre vs ns→Vals (ns.map V.int) vs
 | _,_,.nil=>.nil
 | _,_,.cons n t h=>.cons ⟨t,rfl⟩ (zIb h)

end L2

namespace L2
open PySem PySem.Spec PyProof.Rows

end L2

namespace L2
open PySem PySem.Spec PyProof.Rows


abbrev CX0:CXT:=fun _ _ _ _ _ _=>False
abbrev E0:XK:=fun _ _ _=>False
theorem pass0 {X:Cx} : zPq CX0 X E0:=fun _ _ _ _ _ _ _ h=>h.elim

structure Fun (K:PySem.W.Frag) (x qual:Str) (st:Stmt) (f:Addr) (fd:FuncData):Prop where
 ex:∃ (oc:Value) (od:Option Addr) (kV doc pm:Value) (an:Option Addr) (cdv ct:Value) (osl:Array (Option Value)),
  fd = PySem.W.fnOf x qual (zC1 st) (zCe st) (zAl st) .none kV doc pm an cdv ct∧K.lookup f = some ⟨oc,od,.func fd,osl⟩∧PySem.W.codeIn K cdv qual = true
 kp:PySem.W.keepIn K (.ref f) = true
section
variable {P:Program} {w:World} {K:PySem.W.Frag} {mg:Str→Option Value} {base:Heap}
theorem Fun.ok {x qual:Str} {st:Stmt} {f:Addr} {fd:FuncData} {N ps:List Str} {k:Nat} {sp:Sp} (F:Fun K x qual st f fd) (S:zAq N ps (zAl st)) (len:∀ vs H Q E,sp vs H Q E→vs.length = ps.length)
  (hbody:∀ (cdv:Value) (A:Around) (outer:List Env) (s:Shared) (H:Hp) (vs:List V) (Q:VK) (E:XK),Room k (A.deeper (envOfC qual (zAl st) s.heap.objs.size f cdv))→sp vs H Q E →
   ∃ t,PSs (cxOf CX0 P w K mg base N qual (zAl st) f cdv A outer s H E).nox (zCe st) t∧t { nx:=fun _ H'=>Q .non H',rt:=Q } (start N vs) H):FnOk P w K mg base CX0 (k + 1) f fd ps sp:=by
 obtain ⟨oc,od,kV,doc,pm,an,cdv,ct,osl,rfl,lk,hcd⟩:=F.ex
 refine fn_of lk hcd S len fun A outer s H vs Q E hr hsp=>?_
 obtain ⟨t,h,q⟩:=hbody cdv A outer s H vs Q E hr hsp
 exact ⟨t,h.nox,q⟩
theorem Fun.binds {x qual:Str} {st:Stmt} {f:Addr} {fd:FuncData} {ps:List Str} (F:Fun K x qual st f fd)
  (h:∀ (kV doc pm:Value) (an:Option Addr) (cdv ct:Value) (us:List Value),us.length = ps.length→bindArgs (PySem.W.fnOf x qual (zC1 st) (zCe st) (zAl st) .none kV doc pm an cdv ct) ⟨us,[]⟩ = pure (ps.zip us)):zL7 K fd ps []:=by
 obtain ⟨oc,od,kV,doc,pm,an,cdv,ct,osl,rfl,lk,hcd⟩:=F.ex
 exact .all (h kV doc pm an cdv ct)
theorem fun_mk {x qual:Str} {st:Stmt} {f:Addr} {oc:Value} {od an:Option Addr} {osl:Array (Option Value)} {kV doc pm cdv ct:Value} (l:K.lookup f = some ⟨oc,od,.func (PySem.W.fnOf x qual (zC1 st) (zCe st) (zAl st) .none kV doc pm an cdv ct),osl⟩)
  (c:PySem.W.codeIn K cdv qual = true) (k:PySem.W.keepIn K (.ref f) = true):Fun K x qual st f (PySem.W.fnOf x qual (zC1 st) (zCe st) (zAl st) .none kV doc pm an cdv ct):=⟨⟨oc,od,kV,doc,pm,an,cdv,ct,osl,rfl,l,c⟩,k⟩
end
theorem zA2 {n:Nat} (h:n≤1000):n < sizeLine:=Nat.lt_of_le_of_lt h (by decide)

section
variable {X:Cx}
theorem pv (i:Nat) {x:Str} {pos:Pos} (hN:X.N[i]? = some x:=by rfl) (hv:Vis X.env.scope x:=by first | exact Or.inl rfl | exact Or.inr (Or.inl rfl) | exact Or.inr (Or.inr rfl)) (hd:(x == ("__debug__" : Str)) = false:=by decide)
  (hcd:(x == ("__classdict__" : Str)) = false:=by decide):PE X (.Name x pos) (tVar i):=pe_var hN hv hd hcd
end

theorem iteF {A B:Prop} (h:B):if false = true then A else B:=by
 rw [if_neg Bool.false_ne_true]
 exact h
theorem iteT {A B:Prop} (h:A):if true = true then A else B:=by
 rw [if_pos rfl]
 exact h
def Same (H H':Hp):Prop:=∀ b o,H b = some o→H' b = some o
theorem Same.refl (H:Hp):Same H H:=fun _ _ h=>h
theorem Same.trans {H H1 H2:Hp} (a:Same H H1) (b:Same H1 H2):Same H H2:=fun c o h=>b c o (a c o h)
theorem Same.free {H H':Hp} (e:Same H H') {l:Addr} (h:H' l = Option.none):H l = Option.none:=by
 cases q:H l with
 | none=>rfl
 | some o =>
  rw [e l o q] at h
  cases h
theorem Same.seq {K:PySem.W.Frag} {H H':Hp} {a:Addr} {xs:List V} (e:Same H H') (h:SqL K H a xs):SqL K H' a xs:=by
 rcases h with (h | ⟨o,h⟩) | h
 ·exact .inl (.inl (e _ _ h))
 ·exact .inl (.inr ⟨o,e _ _ h⟩)
 ·exact .inr h

end L2

namespace Sea
def gcdL (ns:List Int):Nat:=ns.foldl (fun g n=>Nat.gcd g n.natAbs) 0
theorem zK0 (ns:List Int) (n:Int):gcdL (ns ++ [n]) = Nat.gcd (gcdL ns) n.natAbs:=by
 unfold gcdL
 rw [List.foldl_append]
 rfl
theorem zNo:∀ (ns:List Int) (g:Nat),ns.foldl (fun g n=>Nat.gcd g n.natAbs) g ∣ g∧∀ n∈ns,ns.foldl (fun g n=>Nat.gcd g n.natAbs) g ∣ n.natAbs
 | [],g=>⟨Nat.dvd_refl g,fun _ h=>nomatch h⟩
 | x :: r,g=>by
  obtain ⟨h1,h2⟩:=zNo r (Nat.gcd g x.natAbs)
  refine ⟨Nat.dvd_trans h1 (Nat.gcd_dvd_left _ _),fun n hn=>?_⟩
  rcases List.mem_cons.mp hn with e | e
  ·rw [e]
   exact Nat.dvd_trans h1 (Nat.gcd_dvd_right _ _)
  ·exact h2 n e
theorem zFl {ns:List Int} {n:Int} (h:n∈ns):gcdL ns ∣ n.natAbs:=(zNo ns 0).2 n h
theorem zBs {ns:List Int} {n:Int} (h:n∈ns):(gcdL ns:Int) ∣ n:=Int.ofNat_dvd_left.mpr (zFl h)
theorem zNq {d:Nat} : ∀ (ns:List Int) (g:Nat),d ∣ g→(∀ n∈ns,d ∣ n.natAbs)→d ∣ ns.foldl (fun g n=>Nat.gcd g n.natAbs) g
 | [],_,h,_=>h
 | x :: r,g,h,hr=>zNq r _ (Nat.dvd_gcd h (hr x List.mem_cons_self)) fun n hn=>hr n (List.mem_cons_of_mem _ hn)
theorem zRv {d:Nat} {ns:List Int} (h:∀ n∈ns,d ∣ n.natAbs):d ∣ gcdL ns:=zNq ns 0 (Nat.dvd_zero d) h
theorem zB4 {ns:List Int} {n:Int} (h:n∈ns) (h0:n≠0):0 < gcdL ns:=by
 rcases Nat.eq_zero_or_pos (gcdL ns) with e | e
 ·have q:=zFl h
  rw [e,Nat.zero_dvd] at q
  omega
 ·exact e
theorem zIj {ns:List Int} {n:Int} (h:n∈ns) (h0:n≠0):(gcdL ns:Int)≤n.natAbs:=by
 have q:=Nat.le_of_dvd (by omega) (zFl h)
 omega
def lowL (ns:List Int):List Int:=ns.map fun n=>n / (gcdL ns:Int)
theorem zA9 {ns:List Int} {n:Int} (h:n∈ns):n / (gcdL ns:Int) * (gcdL ns:Int) = n:=Int.ediv_mul_cancel (zBs h)
theorem zIg {ns:List Int} (h:0 < gcdL ns):gcdL (lowL ns) = 1:=by
 have key:gcdL ns * gcdL (lowL ns) ∣ gcdL ns:=by
  refine zRv fun n hn=>?_
  have h1:gcdL (lowL ns) ∣ (n / (gcdL ns:Int)).natAbs:=zFl (List.mem_map.mpr ⟨n,hn,rfl⟩)
  obtain ⟨c,hc⟩:=h1
  have h2:=congrArg Int.natAbs (zA9 hn)
  rw [Int.natAbs_mul,Int.natAbs_natCast,hc] at h2
  rw [← h2]
  exact ⟨c,by rw [Nat.mul_comm,Nat.mul_assoc]⟩
 obtain ⟨c,hc⟩:=key
 have h3:gcdL ns * (gcdL (lowL ns) * c) = gcdL ns * 1:=by
  rw [← Nat.mul_assoc,← hc,Nat.mul_one]
 have h4:=Nat.eq_of_mul_eq_mul_left h h3
 exact Nat.dvd_one.mp ⟨c,h4.symm⟩
theorem zGf (x y:Int):gcdL [x,y] = Nat.gcd x.natAbs y.natAbs:=by
 show Nat.gcd (Nat.gcd 0 x.natAbs) y.natAbs = _
 rw [Nat.gcd_zero_left]
theorem zOy (x y z:Int):gcdL [x,y,z] = Nat.gcd (Nat.gcd x.natAbs y.natAbs) z.natAbs:=by
 show Nat.gcd (Nat.gcd (Nat.gcd 0 x.natAbs) y.natAbs) z.natAbs = _
 rw [Nat.gcd_zero_left]
theorem zNl (ns:List Int):gcdL (ns.map fun n=>-n) = gcdL ns:=by
 have key:∀ (l:List Int) (g:Nat),(l.map fun n=>-n).foldl (fun g n=>Nat.gcd g n.natAbs) g = l.foldl (fun g n=>Nat.gcd g n.natAbs) g:=by
  intro l
  induction l with
  | nil=>intro g; rfl
  | cons x r ih =>
   intro g
   show (r.map fun n=>-n).foldl _ (Nat.gcd g (-x).natAbs) = r.foldl _ (Nat.gcd g x.natAbs)
   rw [ih,Int.natAbs_neg]
 exact key ns 0
theorem zKi {a b:Int} (ha:0≤a) (hb:0 < b):Nat.gcd b.toNat (a % b).toNat = Nat.gcd a.toNat b.toNat:=by
 obtain ⟨m,rfl⟩:=Int.eq_ofNat_of_zero_le ha
 obtain ⟨n,rfl⟩:=Int.eq_ofNat_of_zero_le (Int.le_of_lt hb)
 have e:((m:Int) % (n:Int)).toNat = m % n:=by
  rw [← Int.natCast_emod]
  rfl
 show Nat.gcd n ((m:Int) % (n:Int)).toNat = Nat.gcd m n
 rw [e,Nat.gcd_comm m n,Nat.gcd_rec n m,Nat.gcd_comm]
theorem zN0 (i:Int):(if i < 0 then -i else i) = (i.natAbs:Int):=by
 split <;> omega
end Sea
namespace Sea
structure zEu (t b x y:Int):Prop where
 pos:1≤y
 low:Nat.gcd x.natAbs y.natAbs = 1
 eq:x * b = y * t
 xle:x.natAbs≤t.natAbs
 yle:y.natAbs≤b.natAbs
theorem zB5 (n:Int) {g:Int} (hg:0 < g) (h:g ∣ n):(n / g).natAbs≤n.natAbs:=by
 obtain ⟨c,hc⟩:=h
 subst hc
 rw [Int.mul_ediv_cancel_left c (by omega),Int.natAbs_mul]
 exact Nat.le_mul_of_pos_left _ (by omega)
theorem zJy (t:Int) {b:Int} (hb:b≠0):∃ x y:Int,(lowL (if b < 0 then [t,b].map (fun n=>-n) else [t,b])) = [x,y]∧zEu t b x y:=by
 have key:∀ (t b:Int),0 < b→∃ x y:Int,lowL [t,b] = [x,y]∧zEu t b x y:=fun t b hb=>by
  have gp:0 < gcdL [t,b]:=zB4 (n:=b) (by simp) (by omega)
  have e1:=zA9 (ns:=[t,b]) (n:=t) (by simp)
  have e2:=zA9 (ns:=[t,b]) (n:=b) (by simp)
  have gI:(0:Int) < (gcdL [t,b]:Int):=by omega
  refine ⟨t / (gcdL [t,b]:Int),b / (gcdL [t,b]:Int),rfl,?_,?_,?_,zB5 t gI (zBs (by simp)),zB5 b gI (zBs (by simp))⟩
  ·exact Int.ediv_pos_of_pos_of_dvd hb (Int.le_of_lt gI) (zBs (by simp))
  ·have h3:=zIg gp
   rw [← zGf]
   exact h3
  ·generalize (gcdL [t,b]:Int) = g at e1 e2
   calc t / g * b = t / g * (b / g * g):=by rw [e2]
    _ = b / g * (t / g * g):=by rw [← Int.mul_assoc,← Int.mul_assoc,Int.mul_comm (t / g)]
    _ = b / g * t:=by rw [e1]
 by_cases h:b < 0
 ·rw [if_pos h]
  obtain ⟨x,y,e,p⟩:=key (-t) (-b) (by omega)
  refine ⟨x,y,e,p.pos,p.low,?_,by have:=p.xle; omega,by have:=p.yle; omega⟩
  have q:=p.eq
  rw [Int.mul_neg,Int.mul_neg] at q
  omega
 ·rw [if_neg h]
  exact key t b (by omega)
end Sea
namespace Sea
theorem zAh (a b:Int) {m n:Nat} (ha:a.natAbs≤m) (hb:b.natAbs≤n):(a * b).natAbs≤m * n:=by
 rw [Int.natAbs_mul]
 exact Nat.mul_le_mul ha hb
theorem big_ok {b:Int} (h:b.natAbs≤10 ^ 40):b.natAbs < 10 ^ 500:=Nat.lt_of_le_of_lt h (by decide +kernel)
theorem zL3 {c b x y:Int} (p:zEu (0 * c) b x y):x = 0∧y = 1:=by
 have h1:=p.xle
 rw [Int.zero_mul] at h1
 have hx:x = 0:=by
  have:(0:Int).natAbs = 0:=rfl
  omega
 have h2:=p.low
 rw [hx] at h2
 have h3:y.natAbs = 1:=by
  have e:Nat.gcd (0:Int).natAbs y.natAbs = y.natAbs:=Nat.gcd_zero_left _
  omega
 have h4:=p.pos
 exact ⟨hx,by omega⟩
end Sea
namespace Sea
theorem zHx {X Y:Int} (h:X≠0∨Y≠0):∃ x y:Int,lowL [X,Y] = [x,y]∧0 < gcdL [X,Y]∧(gcdL [X,Y]≤X.natAbs∨gcdL [X,Y]≤Y.natAbs)∧Nat.gcd x.natAbs y.natAbs = 1∧x * Y - y * X = 0∧0 < x * X + y * Y∧x.natAbs≤X.natAbs∧y.natAbs≤Y.natAbs:=by
 have gp:0 < gcdL [X,Y]:=by
  rcases h with h | h
  ·exact zB4 (n:=X) (by simp) h
  ·exact zB4 (n:=Y) (by simp) h
 have gI:(0:Int) < (gcdL [X,Y]:Int):=by omega
 have e1:=zA9 (ns:=[X,Y]) (n:=X) (by simp)
 have e2:=zA9 (ns:=[X,Y]) (n:=Y) (by simp)
 refine ⟨X / (gcdL [X,Y]:Int),Y / (gcdL [X,Y]:Int),rfl,gp,?_,?_,?_,?_,zB5 X gI (zBs (by simp)),zB5 Y gI (zBs (by simp))⟩
 ·rcases h with h | h
  ·exact .inl (Nat.le_of_dvd (by omega) (zFl (by simp)))
  ·exact .inr (Nat.le_of_dvd (by omega) (zFl (by simp)))
 ·rw [← zGf]
  exact zIg gp
 ·generalize (gcdL [X,Y]:Int) = g at e1 e2
  generalize X / g = x at e1
  generalize Y / g = y at e2
  rw [← e1,← e2,← Int.mul_assoc,← Int.mul_assoc,Int.mul_comm x y]
  omega
 ·generalize (gcdL [X,Y]:Int) = g at e1 e2 gI
  have f1:0≤X / g * X:=by
   have:X / g * X = X / g * (X / g) * g:=by rw [Int.mul_assoc,e1]
   rw [this]
   exact Int.mul_nonneg (by rw [← Int.natAbs_mul_self]; exact Int.natCast_nonneg _) (Int.le_of_lt gI)
  have f2:0≤Y / g * Y:=by
   have:Y / g * Y = Y / g * (Y / g) * g:=by rw [Int.mul_assoc,e2]
   rw [this]
   exact Int.mul_nonneg (by rw [← Int.natAbs_mul_self]; exact Int.natCast_nonneg _) (Int.le_of_lt gI)
  rcases h with h | h
  ·have:X / g * X≠0:=Int.mul_ne_zero (fun z=>h (by rw [← e1,z,Int.zero_mul])) h
   omega
  ·have:Y / g * Y≠0:=Int.mul_ne_zero (fun z=>h (by rw [← e2,z,Int.zero_mul])) h
   omega
end Sea
namespace Sea
end Sea
namespace Sea
def upL (X Y W:Int):List Int:=if W < 0 then [-X,-Y,-W] else [X,Y,W]
theorem zUg {X Y W:Int} (h:W≠0):upL (-X) (-Y) (-W) = upL X Y W:=by
 unfold upL
 by_cases c:W < 0
 ·rw [if_pos c,if_neg (by omega)]
 ·rw [if_neg c,if_pos (by omega),Int.neg_neg,Int.neg_neg,Int.neg_neg]
structure zRh (X Y W x y w:Int):Prop where
 pos:1≤w
 low:Nat.gcd (Nat.gcd x.natAbs y.natAbs) w.natAbs = 1
 ex:x * W = X * w
 ey:y * W = Y * w
 xle:x.natAbs≤X.natAbs
 yle:y.natAbs≤Y.natAbs
 wle:w.natAbs≤W.natAbs
theorem zNj {X Y W:Int} (h:0 < W):∃ x y w:Int,lowL [X,Y,W] = [x,y,w]∧zRh X Y W x y w:=by
 have gp:0 < gcdL [X,Y,W]:=zB4 (n:=W) (by simp) (by omega)
 have gI:(0:Int) < (gcdL [X,Y,W]:Int):=by omega
 have e1:=zA9 (ns:=[X,Y,W]) (n:=X) (by simp)
 have e2:=zA9 (ns:=[X,Y,W]) (n:=Y) (by simp)
 have e3:=zA9 (ns:=[X,Y,W]) (n:=W) (by simp)
 have lo:=zIg gp
 refine ⟨X / (gcdL [X,Y,W]:Int),Y / (gcdL [X,Y,W]:Int),W / (gcdL [X,Y,W]:Int),rfl,Int.ediv_pos_of_pos_of_dvd h (Int.le_of_lt gI) (zBs (by simp)),?_,?_,?_,zB5 X gI (zBs (by simp)),zB5 Y gI (zBs (by simp)),zB5 W gI (zBs (by simp))⟩
 ·rw [← zOy]
  exact lo
 ·generalize (gcdL [X,Y,W]:Int) = g at e1 e3
  generalize X / g = x at e1
  generalize W / g = w at e3
  rw [← e1,← e3,Int.mul_assoc,Int.mul_comm g w]
 ·generalize (gcdL [X,Y,W]:Int) = g at e2 e3
  generalize Y / g = y at e2
  generalize W / g = w at e3
  rw [← e2,← e3,Int.mul_assoc,Int.mul_comm g w]
theorem zF9 {X Y W:Int} (h:W≠0):∃ x y w:Int,lowL (upL X Y W) = [x,y,w]∧zRh X Y W x y w:=by
 unfold upL
 by_cases c:W < 0
 ·rw [if_pos c]
  obtain ⟨x,y,w,e,p⟩:=zNj (X:=-X) (Y:=-Y) (W:=-W) (by omega)
  refine ⟨x,y,w,e,p.pos,p.low,?_,?_,by have:=p.xle; omega,by have:=p.yle; omega,by have:=p.wle; omega⟩
  ·have q:=p.ex
   rw [Int.mul_neg,Int.neg_mul] at q
   omega
  ·have q:=p.ey
   rw [Int.mul_neg,Int.neg_mul] at q
   omega
 ·rw [if_neg c]
  exact zNj (by omega)
theorem zKk {A B C X Y W x y w:Int} (h:W≠0) (p:zRh X Y W x y w) (e:A * X + B * Y = C * W):A * x + B * y = C * w:=by
 refine Int.eq_of_mul_eq_mul_right h ?_
 have e1:(A * x + B * y) * W = A * (x * W) + B * (y * W):=by rw [Int.add_mul,Int.mul_assoc,Int.mul_assoc]
 have e2:A * (X * w) + B * (Y * w) = (A * X + B * Y) * w:=by rw [Int.add_mul,Int.mul_assoc,Int.mul_assoc]
 rw [e1,p.ex,p.ey,e2,e,Int.mul_assoc,Int.mul_comm W w,← Int.mul_assoc]
theorem zO8 (A1 B1 C1 A2 B2 C2:Int):A1 * (C1 * B2 - B1 * C2) + B1 * (A1 * C2 - C1 * A2) = C1 * (A1 * B2 - B1 * A2):=by
 simp only [Int.mul_sub,Int.mul_comm,Int.mul_left_comm]
 omega
theorem zQw (A1 B1 C1 A2 B2 C2:Int):A2 * (C1 * B2 - B1 * C2) + B2 * (A1 * C2 - C1 * A2) = C2 * (A1 * B2 - B1 * A2):=by
 simp only [Int.mul_sub,Int.mul_comm,Int.mul_left_comm]
 omega
end Sea
namespace Sea
end Sea

namespace Sea
theorem zJx {a b:Int} (h:a≠0∨b≠0):1≤a * a + b * b:=by
 have s1:0≤a * a:=by rw [← Int.natAbs_mul_self]; exact Int.natCast_nonneg _
 have s2:0≤b * b:=by rw [← Int.natAbs_mul_self]; exact Int.natCast_nonneg _
 rcases h with h | h
 ·have:a * a≠0:=Int.mul_ne_zero h h
  omega
 ·have:b * b≠0:=Int.mul_ne_zero h h
  omega
end Sea
namespace Sea
end Sea

namespace Sea
abbrev SpT:=Nat × Int × Int × Int
def ahB (s t:SpT):Bool:=if s.2.1 * t.2.2.2 - t.2.1 * s.2.2.2 = 0 then decide (s.2.2.1 * t.2.2.2 < t.2.2.1 * s.2.2.2) else decide (s.2.1 * t.2.2.2 - t.2.1 * s.2.2.2 < 0)
def zBg:List SpT→List SpT→List SpT
 | xs,[]=>xs
 | xs,o :: r=>xs.takeWhile (fun x=>!ahB o x) ++ o :: zBg (xs.dropWhile fun x=>!ahB o x) r
theorem zEh:∀ (ys xs:List SpT),(zBg xs ys).Perm (xs ++ ys)
 | [],xs=>by rw [zBg,List.append_nil]
 | o :: r,xs=>by
  rw [zBg]
  have h:=zEh r (xs.dropWhile fun x=>!ahB o x)
  have e:xs.takeWhile (fun x=>!ahB o x) ++ xs.dropWhile (fun x=>!ahB o x) = xs:=List.takeWhile_append_dropWhile
  refine ((h.cons o).append_left _).trans ?_
  conv=>rhs; rw [← e]
  rw [List.append_assoc]
  refine List.Perm.append_left _ ?_
  exact (List.perm_middle).symm
def zFp:Nat→List SpT→List SpT
 | 0,xs=>xs
 | n + 1,xs=>if xs.length < 2 then xs else zBg (zFp n (xs.take (xs.length / 2))) (zFp n (xs.drop (xs.length / 2)))
theorem zCn:∀ (n:Nat) (xs:List SpT),(zFp n xs).Perm xs
 | 0,_=>List.Perm.refl _
 | n + 1,xs=>by
  rw [zFp]
  split
  ·exact List.Perm.refl _
  ·refine (zEh _ _).trans (((zCn n _).append (zCn n _)).trans ?_)
   rw [List.take_append_drop]
end Sea

namespace L2
open PySem PySem.Spec PyProof.Rows

structure CC where
 C:Addr
 s:Shared
 H:Hp
 fp:List Addr

def zGd (env:Env):List (Str × NameKind)→List (Str × Addr)→List (Str × Addr)
 | [],cs=>cs
 | (n,k) :: r,cs=>zGd env r (if (k == NameKind.free) = true then (n,(env.cells.lookup n).getD 0) :: cs else cs)
theorem zQq {scope:Scope} {env:Env} (h:∀ x∈scope.names,x.2 = .free→∃ c,env.cells.lookup x.1 = some c):closureFor scope env = pure (zGd env scope.names []):=by
 simp only [closureFor]
 have key:∀ (names:List (Str × NameKind)) (cs:List (Str × Addr)),(∀ x∈names,x.2 = .free→∃ c,env.cells.lookup x.1 = some c) →
  (forIn names cs (fun (x:Str × NameKind) (r:List (Str × Addr))=>match x with | (name,kind)=>if (kind == NameKind.free) = true then (do let a ← cellOf env name; pure (ForInStep.yield ((name,a) :: r))) else pure (ForInStep.yield r)):Sem (List (Str × Addr))) = pure (zGd env names cs):=by
  intro names
  induction names with
  | nil=>intro cs _; rfl
  | cons x r ih =>
   intro cs hx
   obtain ⟨n,k⟩:=x
   rw [List.forIn_cons]
   have hr:=ih (if (k == NameKind.free) = true then (n,(env.cells.lookup n).getD 0) :: cs else cs) fun y hy=>hx y (List.mem_cons_of_mem _ hy)
   by_cases hk:(k == NameKind.free) = true
   ·obtain ⟨c,hc⟩:=hx (n,k) List.mem_cons_self (by simpa using hk)
    have e:cellOf env n = pure c:=by unfold cellOf; rw [hc]
    rw [if_pos hk] at hr
    have hc':env.cells.lookup n = some c:=hc
    rw [hc'] at hr
    show (((if (k == NameKind.free) = true then (do let a ← cellOf env n; pure (ForInStep.yield ((n,a) :: cs))) else pure (ForInStep.yield cs)):Sem _) >>= _) = _
    rw [if_pos hk,e]
    refine Eq.trans ?_ (hr.trans ?_)
    ·rfl
    ·rw [zGd,if_pos hk,hc']
   ·rw [if_neg hk] at hr
    show (((if (k == NameKind.free) = true then (do let a ← cellOf env n; pure (ForInStep.yield ((n,a) :: cs))) else pure (ForInStep.yield cs)):Sem _) >>= _) = _
    rw [if_neg hk]
    refine Eq.trans ?_ (hr.trans ?_)
    ·rfl
    ·rw [zGd,if_neg hk]
 exact congrArg (fun (z:Sem (List (Str × Addr)))=>z >>= fun cs=>pure cs) (key scope.names [] h)
theorem zEr {env:Env} : ∀ (names:List (Str × NameKind)) (cs:List (Str × Addr)),(∀ x∈names,x.2 = .free→∃ c,env.cells.lookup x.1 = some c) →
  (∀ x c,cs.lookup x = some c→env.cells.lookup x = some c)→∀ x c,(zGd env names cs).lookup x = some c→env.cells.lookup x = some c
 | [],_,_,hc=>hc
 | (n,k) :: r,cs,h,hc=>by
  refine zEr r _ (fun y hy=>h y (List.mem_cons_of_mem _ hy)) fun x c=>?_
  by_cases hk:(k == NameKind.free) = true
  ·rw [if_pos hk]
   obtain ⟨d,hd⟩:=h (n,k) List.mem_cons_self (by simpa using hk)
   have hd':env.cells.lookup n = some d:=hd
   intro e
   rw [List.lookup_cons] at e
   cases hx:x == n with
   | true =>
    rw [hx,hd'] at e
    have ex:x = n:=by simpa using hx
    rw [ex,hd']
    exact e
   | false =>
    rw [hx] at e
    exact hc x c e
  ·rw [if_neg hk]
   exact hc x c
theorem zHv {env:Env} : ∀ (names:List (Str × NameKind)) (cs:List (Str × Addr)) (x:Str),((x,NameKind.free)∈names∨∃ c,cs.lookup x = some c)→∃ c,(zGd env names cs).lookup x = some c
 | [],_,_,h=>h.elim (fun z=>nomatch z) id
 | (n,k) :: r,cs,x,h=>by
  refine zHv r _ x ?_
  by_cases hk:(k == NameKind.free) = true
  ·rw [if_pos hk]
   cases hx:x == n with
   | true=>exact .inr ⟨_,by rw [List.lookup_cons,hx]⟩
   | false =>
    rcases h with h | ⟨c,h⟩
    ·rcases List.mem_cons.mp h with e | e
     ·injection e with e1 _
      subst e1
      simp at hx
     ·exact .inl e
    ·exact .inr ⟨c,by rw [List.lookup_cons,hx]; exact h⟩
  ·rw [if_neg hk]
   rcases h with h | h
   ·rcases List.mem_cons.mp h with e | e
    ·injection e with _ e2
     subst e2
     exact absurd rfl hk
    ·exact .inl e
   ·exact .inr h
theorem zG7 {env:Env} : ∀ {names:List (Str × NameKind)} {x:Str},names.lookup x = some .free →
  (names.map fun (n,k)=>if (k == NameKind.free && env.scope.kind == .function && env.kindOf n == some .cell) then (n,NameKind.cell) else (n,k)).lookup x = some .cell ∨
  (names.map fun (n,k)=>if (k == NameKind.free && env.scope.kind == .function && env.kindOf n == some .cell) then (n,NameKind.cell) else (n,k)).lookup x = some .free
 | [],_,h=>by simp at h
 | (n,k) :: r,x,h=>by
  have ih:=@zG7 env r x
  show List.lookup x ((if (k == NameKind.free && env.scope.kind == .function && env.kindOf n == some .cell) = true then (n,NameKind.cell) else (n,k)) :: _) = _∨List.lookup x ((if (k == NameKind.free && env.scope.kind == .function && env.kindOf n == some .cell) = true then (n,NameKind.cell) else (n,k)) :: _) = _
  by_cases hc:(k == NameKind.free && env.scope.kind == .function && env.kindOf n == some .cell) = true
  ·rw [if_pos hc]
   cases hx:x == n with
   | true=>exact .inl (by rw [List.lookup_cons,hx])
   | false =>
    rw [List.lookup_cons,hx] at h
    rw [List.lookup_cons,hx]
    exact ih h
  ·rw [if_neg hc]
   cases hx:x == n with
   | true =>
    rw [List.lookup_cons,hx] at h
    exact .inr (by rw [List.lookup_cons,hx]; exact h)
   | false =>
    rw [List.lookup_cons,hx] at h
    rw [List.lookup_cons,hx]
    exact ih h
theorem zFb {env:Env} : ∀ {names:List (Str × NameKind)} {x:Str} {j:NameKind},(∀ y∈names,y.2≠.cell)→(j = .cell∨j = .free) →
  (names.map fun (n,k)=>if (k == NameKind.free && env.scope.kind == .function && env.kindOf n == some .cell) then (n,NameKind.cell) else (n,k)).lookup x = some j→(x,NameKind.free)∈names
 | [],_,_,_,_,h=>by simp at h
 | (n,k) :: r,x,j,hn,hj,h=>by
  have ih:=@zFb env r x j (fun y hy=>hn y (List.mem_cons_of_mem _ hy)) hj
  have hk0:k≠.cell:=hn (n,k) List.mem_cons_self
  replace h:List.lookup x ((if (k == NameKind.free && env.scope.kind == .function && env.kindOf n == some .cell) = true then (n,NameKind.cell) else (n,k)) :: (r.map fun (n,k)=>if (k == NameKind.free && env.scope.kind == .function && env.kindOf n == some .cell) then (n,NameKind.cell) else (n,k))) = some j:=h
  by_cases hc:(k == NameKind.free && env.scope.kind == .function && env.kindOf n == some .cell) = true
  ·rw [if_pos hc] at h
   have hf:k = .free:=by
    simp only [Bool.and_eq_true] at hc
    simpa using hc.1.1
   cases hx:x == n with
   | true =>
    have ex:x = n:=by simpa using hx
    subst ex
    rw [← hf]
    exact List.mem_cons_self
   | false =>
    rw [List.lookup_cons,hx] at h
    exact List.mem_cons_of_mem _ (ih h)
  ·rw [if_neg hc] at h
   cases hx:x == n with
   | true =>
    rw [List.lookup_cons,hx] at h
    have ex:x = n:=by simpa using hx
    have ek:k = j:=Option.some.inj h
    subst ex
    rcases hj with hj | hj
    ·exact absurd (ek.trans hj) hk0
    ·rw [← hj,← ek]
     exact List.mem_cons_self
   | false =>
    rw [List.lookup_cons,hx] at h
    exact List.mem_cons_of_mem _ (ih h)

def zBx (X:Cx) (N:List Str) (scope:Scope) (c:CC):Cx where
 prog:=X.prog
 w:=X.w
 K:=X.K
 mg:=X.mg
 base:=X.base
 A:=X.A
 N:=N
 s₀:=c.s
 H₀:=c.H
 env:=compEnvC scope (zGd X.env scope.names []) c.C X.env
 outer:=X.stack
 stack:=X.stack
 ex:=c.fp
 fn:=fun _=>false
 calm:=X.calm
 pn:=[]
 xe:=fun _ _=>False

def zJl (X:Cx) (scope:Scope):List (Str × Nat)→Prop
 | []=>True
 | p :: r=>(X.N[p.2]? = some p.1∧scope.names.lookup p.1 = some .free∧(X.env.kindOf p.1 = some .cell∨X.env.kindOf p.1 = some .free))∧zJl X scope r
theorem zJl.mem {X:Cx} {scope:Scope} : ∀ {caps:List (Str × Nat)},zJl X scope caps→∀ p∈caps,X.N[p.2]? = some p.1∧scope.names.lookup p.1 = some .free∧(X.env.kindOf p.1 = some .cell∨X.env.kindOf p.1 = some .free)
 | [],_,_,h=>nomatch h
 | q :: r,h,p,hp=>by
  rcases List.mem_cons.mp hp with e | e
  ·rw [e]; exact h.1
  ·exact zJl.mem h.2 p e
structure zEa (X:Cx) (caps:List (Str × Nat)) (scope:Scope):Prop where
 kind:scope.kind = .function
 nocell:∀ y∈scope.names,y.2≠.cell
 loc:∀ y∈scope.names,y.2 = .local→scope.names.lookup y.1 = some .local
 clos:(scope.names.all fun x=>!(x.2 == .free) || (X.env.cells.lookup x.1).isSome) = true
 cap:zJl X scope caps
theorem zEa.cells {X:Cx} {caps:List (Str × Nat)} {scope:Scope} (S:zEa X caps scope):∀ x∈scope.names,x.2 = .free→∃ c,X.env.cells.lookup x.1 = some c:=fun x hx hf=>by
 have h:=List.all_eq_true.mp S.clos x hx
 rw [hf] at h
 simp only [Bool.or_eq_true] at h
 rcases h with h | h
 ·exact absurd h (by decide)
 ·exact Option.isSome_iff_exists.mp h

def zOv (caps:List (Str × Nat)) (nt:Nat) (σ:St):St:=List.replicate nt none ++ caps.map fun p=>(σ[p.2]?).join

def PIfs (Y:Cx) (ifs:List Expr) (t:TT):Prop :=
 ∀ (pins:List (Addr × Obj)) (s:Shared) (σ:St) (H:Hp) (Q:Bool→Hp→Prop),Inv Y pins σ H s→t σ H Q →
  wpAny (model Y.prog Y.w) Y.A (forIn ifs true fun c r=>if r = true then do let ok ← isTrue c Y.env (eval c Y.env); pure (ForInStep.yield ok) else pure (ForInStep.yield r)) (TP Y pins σ Q) Y.xe s
def tYes:TT:=fun _ H Q=>Q true H
theorem zCc {Y:Cx} : PIfs Y [] tYes:=fun _ _ _ H _ I h=>wpAny_tests_nil ⟨H,I,h⟩
theorem zNn {Y:Cx} {c:Expr} {t:TT} (h:PT Y c t):PIfs Y [c] t:=fun pins s σ H Q I q=>wpAny_tests_one (h pins s σ H Q I q)

def zKj (J:It) (D:Addr) (g:TG) (tt:TT) (te:TE) (σ0:St) (H1:Hp) (Q:VK):Prop :=
 ∃ W:Nat→Nat→St→List V→Hp→Prop,(∃ m,W 0 m σ0 [] (upd H1 D (.lst [])))∧∀ i m σ ys H,W i m σ ys H→H D = some (.lst ys) ∧
  ((J.stop i H∧Q (.ref D) H)∨(J.go i H∧∃ N:St→List V→Hp→Prop,(∀ σ' zs H',N σ' zs H'→∃ m',m' < m∧W (i + 1) m' σ' zs H')∧∀ x H',J.yld i H x H'→g x σ H' fun σ2 H2=>tt σ2 H2 fun b H3 =>
   if b = true then te σ2 H3 fun y H4=>H4 D = some (.lst ys)∧ys.length < sizeLine∧N σ2 (ys ++ [y]) (upd H4 D (.lst (ys ++ [y]))) else N σ2 ys H3))
def zT8 (nt:Nat) (caps:List (Str × Nat)) (wi:TI) (g:CC→TG) (tt:CC→TT) (te:CC→TE):TE:=fun σ H Q =>
 wi σ H fun J H1=>∀ (c:CC) (D:Addr),H1 D = none→zKj J D (g c) (tt c) (te c) (zOv caps nt σ) H1 Q

theorem thnF {α:Type} {t:Sem α} {Q Q':α→Shared→Prop} {M:Model} {A:Around} {E:Value→Shared→Prop} {s:Shared} (h:wpAny M A t Q (fun _ _=>False) s) (hQ:∀ a s,Q a s→Q' a s):wpAny M A t Q' E s:=wpAny_mono h hQ fun _ _ x=>x.elim
theorem Un.same {fs ex:List Addr} {H H':Hp} {h h1 h2:Heap} {C:Addr} (u:Un fs ex H H' h h1) (sb:Heap.SameBut C h1 h2) (hC:h.get? C = none):Un fs ex H H' h h2:=by
 have ne:∀ b o,h.get? b = some o→b≠C:=fun b o e z=>by rw [z,hC] at e; cases e
 refine ⟨fun b o e n hb hx=>(sb.2 b (ne b o e)).trans (u.keep b o e n hb hx),fun b o e n hb hx=>?_,u.free,fun b o e hx=>?_,u.tups,u.frzs,u.tbls⟩
 ·obtain ⟨sl,q⟩:=u.slot b o e n hb hx
  exact ⟨sl,(sb.2 b (ne b o e)).trans q⟩
 ·obtain ⟨o',q⟩:=u.there b o e hx
  exact ⟨o',(sb.2 b (ne b o e)).trans q⟩
theorem HOk.same {P:Program} {w:World} {H:Hp} {h h':Heap} {C:Addr} (k:HOk P w H h) (sb:Heap.SameBut C h h') (hC:H C = none):HOk P w H h':=fun b o e=>by
 refine (k b o e).stay (fun c v hc q=>(sb.2 c ?_).trans q) (fun _ q=>q) fun _ _ q=>q
 rintro rfl
 rcases hc with z | z
 ·rw [z,e] at hC; cases hC
 ·rw [hC] at z; cases z

section
variable {X:Cx} {T:List Str} {caps:List (Str × Nat)} {scope:Scope} {elt target iter:Expr} {ifs:List Expr} {pos:Pos} {wi:TI} {g:CC→TG} {tt:CC→TT} {te:CC→TE}

theorem zJq {pins:List (Addr × Obj)} {σ:St} {H2:Hp} {s2:Shared} {fp:List Addr} {C D:Addr} {h1:Heap} {tk:Nat} {m:Str→Option Value} (S:zEa X caps scope) (I2:Inv X pins σ H2 s2) (f2:∀ b∈fp,FpOk X pins H2 b)
  (hfp:∀ b∈fp,b < s2.heap.objs.size) (hD:s2.heap.objs.size≤D) (hC:s2.heap.objs.size≤C) (hDC:C≠D) (old:∀ b o,s2.heap.get? b = some o→h1.get? b = some o)
  (acc:∃ n,h1.get? D = some { cls:=.type "list", data:=.seq ([]:List Value).toArray n }) (hn:h1.Ns C m) :
  Inv (zBx X (T ++ caps.map (·.1)) scope ⟨C,s2,H2,fp⟩) [] (zOv caps T.length σ) (upd H2 D (.lst [])) { s2 with heap:=h1,toks:=tk }:=by
 have cs:=zEr (env:=X.env) scope.names [] S.cells (fun _ _ z=>by cases z)
 have cellOld:∀ x c,X.env.cells.lookup x = some c→c < s2.heap.objs.size:=fun x c e=>by
  obtain ⟨v,q⟩:=I2.cell x c e
  exact q.lt
 have stkNo:∀ b∈fp,b ∉ frs X.stack:=fun b hb z=>by
  rcases List.mem_cons.mp (I2.stkSub b z) with e | e
  ·exact (f2 b hb).2.1 e
  ·exact (f2 b hb).2.2.1 e
 have fr:H2 D = none:=I2.hok.fresh hD
 refine ⟨⟨I2.ok.mod,S.kind,I2.ok.glob,I2.ok.blt,hC,fun x y c e1 e2=>I2.ok.inj x y c (cs x c e1) (cs y c e2),fun x hx=>?_,fun _ _ z=>absurd (show false = true from z) Bool.false_ne_true,I2.ok.hd,I2.ok.frames,.inl rfl,fun b hb=>⟨?_,fun x c e=>(f2 b hb).2.2.2.2.1 x c (cs x c e)⟩,
  fun b o e=>I2.bs b o e,Nat.le_trans I2.ok.bsz I2.sz,fun b o e hb=>?_,stkNo,I2.stack,I2.stkFree⟩,rfl,I2.bare,?_,⟨m,hn,fun i x v e1 e2 e3=>?_⟩,fun x c e=>?_,?_,fun x c e=>?_,fun p hp=>absurd (show p∈([]:List (Addr × Obj)) from hp) (by simp),?_,?_⟩
 ·have hx':(x,NameKind.free)∈scope.names:=by
   rcases hx with z | z
   ·exact zFb S.nocell (.inl rfl) z
   ·exact zFb S.nocell (.inr rfl) z
  exact zHv scope.names [] x (.inl hx')
 ·exact Nat.ne_of_lt (Nat.lt_of_lt_of_le (hfp b hb) hC)
 ·rcases (f2 b hb).2.2.2.1 with z | z
  ·exact I2.ok.noex b o e z
  ·exact absurd (Nat.lt_of_lt_of_le (Heap.lt_size (show X.base.get? b = some o from e)) (Nat.le_trans I2.ok.bsz z)) (Nat.lt_irrefl _)
 ·exact Un.laid old hD fr
 ·have hlt:¬ i < T.length:=fun hi=>by
   unfold zOv at e2
   rw [List.getElem?_append_left (by simpa using hi),List.getElem?_replicate,if_pos hi] at e2
   cases e2
  have hge:T.length≤i:=Nat.le_of_not_lt hlt
  have e1':(T ++ caps.map (·.1))[i]? = some x:=e1
  rw [List.getElem?_append_right hge,List.getElem?_map] at e1'
  unfold zOv at e2
  rw [List.getElem?_append_right (by simpa using hge),List.length_replicate,List.getElem?_map] at e2
  cases hp:caps[i - T.length]? with
  | none=>rw [hp] at e1'; cases e1'
  | some p =>
   rw [hp] at e1' e2
   have ex:p.1 = x:=Option.some.inj e1'
   have ev:(σ[p.2]?).join = some v:=Option.some.inj e2
   obtain ⟨hN,hf,hk⟩:=S.cap.mem p (List.mem_of_getElem? hp)
   have ev':σ[p.2]? = some (some v):=by
    cases hq:σ[p.2]? with
    | none=>rw [hq] at ev; cases ev
    | some o =>
     rw [hq] at ev
     exact congrArg some ev
   obtain ⟨m2,_,hl2⟩:=I2.loc
   obtain ⟨u,ru,l⟩:=hl2 p.2 p.1 v hN ev' (hk.elim (fun z=>.inr (.inl z)) fun z=>.inr (.inr z))
   refine ⟨u,ru,.inr ⟨?_,?_⟩⟩
   ·rw [← ex]
    exact zG7 (env:=X.env) hf
   ·rcases l with ⟨kl,_⟩ | ⟨_,c,ec,hcell⟩
    ·rcases hk with z | z <;> (rw [kl] at z; cases z)
    ·obtain ⟨d,hd⟩:=zHv (env:=X.env) scope.names [] p.1 (.inl (PySem.mem_of_lookup hf))
     have hd':=cs p.1 d hd
     rw [ec] at hd'
     cases hd'
     obtain ⟨o,ho,hod⟩:=hcell
     exact ⟨c,by rw [← ex]; exact hd,o,old c o ho,hod⟩
 ·obtain ⟨v,o,ho,hd⟩:=I2.cell x c (cs x c e)
  exact ⟨v,o,old c o ho,hd⟩
 ·show upd H2 D (.lst []) C = none
  rw [zAs hDC]
  exact I2.hok.fresh hC
 ·show upd H2 D (.lst []) c = none
  rw [zAs (Nat.ne_of_lt (Nat.lt_of_lt_of_le (cellOld x c (cs x c e)) hD))]
  exact I2.freeC x c (cs x c e)
 ·obtain ⟨n,e⟩:=acc
  exact I2.hok.laid old hD ⟨Nat.zero_le _,[],n,.nil,e⟩
 ·show (zOv caps T.length σ).length = (T ++ caps.map (·.1)).length
  unfold zOv
  rw [List.length_append,List.length_append,List.length_map,List.length_map,List.length_replicate]

theorem zEq (S:zEa X caps scope) (hc:X.calm = true) (hi:PI X target iter wi) (hg:∀ c,PG (zBx X (T ++ caps.map (·.1)) scope c) target (g c)) (ht:∀ c,PIfs (zBx X (T ++ caps.map (·.1)) scope c) ifs (tt c)) (he:∀ c,PE (zBx X (T ++ caps.map (·.1)) scope c) elt (te c))
  (hs:∀ x,foldedSetIterable iter X.env x = pure x:=by intro _; rfl):PE X (.ListComp elt [⟨target,iter,ifs,0⟩] scope pos) (zT8 T.length caps wi g tt te):=by
 intro pins s σ H Q I h
 rw [eval_ListComp]
 refine wpAny_comprehension_free (use:=none) rfl hs (zQq S.cells) S.kind S.loc (thn (hi pins s σ H _ I h) fun v s1 h1=>thn h1 fun itv s2 h2=>?_)
 obtain ⟨it,fp,tn,J,H2,e,I2,TT,st2,f2,q2⟩:=h2
 subst e
 refine wpAny_newObj_type (wpAny_newFunctionEnv S.nocell (by intro y hy; simp at hy) (fun h1 hn hsb=>?_) S.kind)
 dsimp only at hn hsb ⊢
 generalize hg2:s2.heap.push { cls:=.type "list", dict:=none,data:=.seq ([]:List Value).toArray } = G at hn hsb ⊢
 have hCv:G.objs.size = s2.heap.objs.size + 1:=by rw [← hg2,Heap.size_push]
 have hDC:G.objs.size≠s2.heap.objs.size:=by rw [hCv]; exact Nat.succ_ne_self _
 have hCle:s2.heap.objs.size≤G.objs.size:=by rw [hCv]; exact Nat.le_succ _
 have old:∀ b o,s2.heap.get? b = some o→h1.get? b = some o:=fun b o e=>hsb.extBut b o (Nat.ne_of_lt (Nat.lt_of_lt_of_le (Heap.lt_size e) hCle)) (Heap.get?_push_of_some _ (hg2 ▸ Heap.get?_push_of_some _ e))
 have hacc:∃ n,h1.get? s2.heap.objs.size = some { cls:=.type "list", data:=.seq ([]:List Value).toArray n }:=⟨_,hsb.extBut _ _ (Ne.symm hDC) (Heap.get?_push_of_some _ (hg2 ▸ Heap.get?_push_size _ rfl))⟩
 have hfp:∀ b∈fp,b < s2.heap.objs.size:=fun b hb=>by
  obtain ⟨o,e,_⟩:=TT.obj _ _ st2 b hb
  exact Heap.lt_size e
 have cs:=zEr (env:=X.env) scope.names [] S.cells (fun _ _ z=>by cases z)
 have I0:=zJq (T:=T) (tk:=s2.toks + ([]:List (Str × Value)).length) S I2 f2 hfp (Nat.le_refl _) hCle hDC old hacc hn
 have st0:tn 0 h1:=TT.keep _ _ _ st2 fun b _ o e=>old b o e
 obtain ⟨W,⟨m0,w0⟩,turn⟩:=q2 ⟨G.objs.size,s2,H2,fp⟩ s2.heap.objs.size (I2.hok.fresh (Nat.le_refl _))
 have fr0:∀ b∈fp,upd H2 s2.heap.objs.size (.lst []) b = none:=fun b hb=>by
  rw [zAs (Nat.ne_of_lt (hfp b hb))]
  exact (f2 b hb).1
 have stat:∀ {H':Hp},(∀ b∈fp,H' b = none)→∀ b∈fp,FpOk (zBx X (T ++ caps.map (·.1)) scope ⟨G.objs.size,s2,H2,fp⟩) [] H' b:=fun {H'} hn' b hb =>
  ⟨hn' b hb,Nat.ne_of_lt (Nat.lt_of_lt_of_le (hfp b hb) hCle),I0.ok.exfs b hb,.inl hb,fun x c e=>(f2 b hb).2.2.2.2.1 x c (cs x c e),fun p hp=>absurd (show p∈([]:List (Addr × Obj)) from hp) (by simp)⟩
 have loop:codeAny (model X.prog X.w) X.A (.compLoop (.ListComp elt [⟨target,iter,ifs,0⟩] scope pos) 0 (.ref it) (.ref s2.heap.objs.size) (compEnvC scope (zGd X.env scope.names []) G.objs.size X.env))
   (compPost (model X.prog X.w) X.A X.xe none (EP X pins σ Q) (.ref s2.heap.objs.size) G.objs.size) { s2 with heap:=h1,toks:=s2.toks + ([]:List (Str × Value)).length }:=by
  refine codeAny_loop rfl (fun n s'=>∃ i σ' ys H',Inv (zBx X (T ++ caps.map (·.1)) scope ⟨G.objs.size,s2,H2,fp⟩) [] σ' H' s'∧tn i s'.heap∧(∀ b∈fp,H' b = none)∧W i n σ' ys H') (fun n s3 hI=>?_) m0 ⟨0,_,[],_,I0,st0,fr0,w0⟩
  obtain ⟨i,σ3,ys,H3,I3,st3,fr3,w3⟩:=hI
  show wpAny _ X.A ((compTurn (.ListComp elt [⟨target,iter,ifs,0⟩] scope pos) 0 (.ref it) (.ref s2.heap.objs.size) (compEnvC scope (zGd X.env scope.names []) G.objs.size X.env)).onRaise (fun x=>do noteFrame x (compEnvC scope (zGd X.env scope.names []) G.objs.size X.env); theTreesLotGoes x)) _ _ s3
  refine wpAny_noted ?_
  rw [compTurn_list]
  refine wpAny_bind (wpAny_standAt (wpAny_bind ?_))
  obtain ⟨hD3,turn3⟩:=turn i n σ3 ys H3 w3
  rcases turn3 with ⟨stop,qn⟩ | ⟨go,N,hN,step⟩
  ·refine thnF (TT.done (zBx X (T ++ caps.map (·.1)) scope ⟨G.objs.size,s2,H2,fp⟩) rfl rfl rfl hc i [] s3 σ3 H3 _ I3 (stat fr3) st3 stop) fun r s4 ⟨hr,I4⟩=>?_
   subst hr
   refine wpAny_pure ?_
   show ∃ m,s4.heap.Ns G.objs.size m∧∀ h',Heap.SameBut G.objs.size s4.heap h'→EP X pins σ Q (.ref s2.heap.objs.size) { s4 with heap:=h' }
   obtain ⟨m4,hn4,_⟩:=I4.loc
   refine ⟨m4,hn4,fun h' sb=>⟨.ref s2.heap.objs.size,H3,?_,rfl,qn⟩⟩
   refine I2.call' (s':={ s4 with heap:=h' }) (ch:=fp) I4.os (Un.same I4.base sb (Heap.get?_none_of_le hCle)) (HOk.same I4.hok sb I4.free) I4.bare fun b hb=>?_
   obtain ⟨_,f1,_,f3,f4,f5⟩:=f2 b hb
   exact ⟨f3,f1,f4,f5⟩
  ·refine thnF (TT.item (zBx X (T ++ caps.map (·.1)) scope ⟨G.objs.size,s2,H2,fp⟩) rfl rfl rfl hc i [] s3 σ3 H3 _ I3 (stat fr3) st3 go) fun r s4 ⟨u,hr,h4⟩=>?_
   subst hr
   refine wpAny_bind (thnF h4 fun _ s5 ⟨x,H5,I5,r5,y5,st5,fr5⟩=>?_)
   have I5':=I5.pinned (stat fr5) (TT.obj _ _ st5)
   refine wpAny_bind (thnF (hg _ _ s5 σ3 H5 x u _ I5' r5 (step x H5 y5)) fun _ s6 ⟨σ6,H6,I6,q6⟩=>?_)
   have again:∀ {s7:Shared} {σ7:St} {zs:List V} {H7:Hp},Inv (zBx X (T ++ caps.map (·.1)) scope ⟨G.objs.size,s2,H2,fp⟩) ([] ++ zJe fp s5.heap) σ7 H7 s7→N σ7 zs H7 →
     ∃ m,m < n∧∃ i σ' ys H',Inv (zBx X (T ++ caps.map (·.1)) scope ⟨G.objs.size,s2,H2,fp⟩) [] σ' H' s7∧tn i s7.heap∧(∀ b∈fp,H' b = none)∧W i m σ' ys H':=fun {s7 σ7 zs H7} I7 n7=>by
    obtain ⟨m',hm,w7⟩:=hN σ7 zs H7 n7
    refine ⟨m',hm,i + 1,σ7,zs,H7,I7.unpinned,TT.keep _ _ _ st5 fun b hb o e=>(I7.pin (b,o) (List.mem_append_right _ (List.mem_append_right _ (zDf hb e)))).1,fun b hb=>?_,w7⟩
    obtain ⟨o,e,d⟩:=TT.obj _ _ st5 b hb
    exact (I7.pin (b,o) (List.mem_append_right _ (List.mem_append_right _ (zDf hb e)))).2.1
   refine wpAny_bind (thnF (ht _ _ s6 σ6 H6 _ I6 q6) fun ok s7 ⟨H7,I7,q7⟩=>?_)
   cases ok with
   | false=>exact wpAny_pure ⟨rfl,again I7 q7⟩
   | true =>
    refine wpAny_bind (wpAny_bind (thnF (he _ _ s7 σ6 H7 _ I7 q7) fun y s8 ⟨yv,H8,I8,r8,hD8,hl8,q8⟩=>?_))
    refine wpAny_bind (thnF (zDn _ s8 σ6 H8 (.ref s2.heap.objs.size) [yv] (.ref s2.heap.objs.size) [y] (fun _ H9=>N σ6 (ys ++ [yv]) H9) I8 rfl (.cons r8 .nil) ⟨_,ys,yv,rfl,rfl,hD8,hl8,q8⟩) fun _ s9 ⟨_,H9,I9,_,q9⟩=>?_)
    exact wpAny_pure (wpAny_pure ⟨rfl,again I9 q9⟩)
 exact codeAny_compStart_list loop (TT.self _ 0 _ _ _ st0 loop)
end
end L2

namespace L2
open PySem PySem.Spec PyProof.Rows

theorem zDt:bootBuiltins "len" = some (.builtin "len"):=by decide +kernel
theorem zEt:bootBuiltins "abs" = some (.builtin "abs"):=by decide +kernel
theorem zE6:bootBuiltins "list" = some (.type "list"):=by decide +kernel
theorem zSt:bootBuiltins "tuple" = some (.type "tuple"):=by decide +kernel
def Has (P:Program) (w:World) (K:PySem.W.Frag) (mg:Str→Option Value) (base:Heap) (x:Str) (n:Nat) (ps:List Str) (sp:Sp):Prop :=
 ∃ (f:Addr) (fd:FuncData),FnOk P w K mg base CX0 n f fd ps sp∧zL7 K fd ps []∧PySem.W.keepIn K (.ref f) = true∧mg x = some (.ref f)
section
variable {X:Cx} {x:Str} {p pos:Pos} {e:Expr} {es:List Expr} {t:TA} {n:Nat} {ps:List Str} {sp:Sp}
theorem zAf (h:Has X.prog X.w X.K X.mg X.base x n ps sp) (hr:Room n X.A) (hg:Gl X x) (ha:PA X (e :: es) t) (hdb:(x == ("__debug__" : Str)) = false:=by decide)
  (he:starEach (e :: es) X.env = (false,eval e X.env) :: starEach es X.env:=by rfl) (hpl:(backTo pos (starEach es X.env)).any (·.1) = false:=by rfl):PE X (.Call (.Name x p) (e :: es) [] pos) (zTk sp [] E0 t):=by
 obtain ⟨f,fd,F,b,k,m⟩:=h
 exact zT6 F hr hg m k b .nil pass0 ha hdb he hpl
end

section
variable {X:Cx}
def zEw (i j:Int):Prop:=0 < j∧j.natAbs < 2 ^ 4096
theorem zC9:OpR X (binaryOp .FloorDiv) (rI zEw fun i j=>.int (i / j)):=opI fun i j _ _ _ _ _ hc q=>by
 have h1:(0:Int) < j:=hc.1
 have h3:j.natAbs.log2 < 9000:=Nat.lt_trans ((Nat.log2_lt (by omega)).mpr hc.2) (by decide)
 exact floordiv_int (by omega) (by rw [Int.fdiv_eq_ediv_of_nonneg i (by omega)]; exact q) (.inl (PyProof.noPylong_of_log2 h3))
theorem zEw.of {i j:Int} (h:0 < j) (h2:j < 10 ^ 600):zEw i j:=by
 refine ⟨h,?_⟩
 have e:(10:Nat) ^ 600 < 2 ^ 4096:=by decide +kernel
 omega
def zKl (i j:Int):Prop:=i.natAbs < 2 ^ 4096∧j.natAbs < 2 ^ 4096
theorem zJ0 {i:Int} (h:i.natAbs < 2 ^ 4096):Builtin.Int.intBits i≤2 ^ 20:=by
 unfold Builtin.Int.intBits
 split
 ·exact Nat.zero_le _
 ·have q:i.natAbs.log2 < 4096:=by
   rcases Nat.eq_zero_or_pos i.natAbs with h0 | hp
   ·rw [h0]; decide
   ·exact (Nat.log2_lt (Nat.ne_of_gt hp)).mpr h
  have e:(2:Nat) ^ 20 = 1048576:=by decide
  omega
theorem zBy:OpR X (binaryOp .Mult) (rI zKl fun i j=>.int (i * j)):=opI fun _ _ _ _ _ _ _ hc q=>mul_int q (IntMulOk.of_bits (zJ0 hc.1) (zJ0 hc.2))

def Sq (K:PySem.W.Frag) (H:Hp) (p:Addr) (xs:List V):Prop:=SqL K H p xs∨SqT K H p xs
inductive RIx (K:PySem.W.Frag) (x y:V) (H:Hp) (Q:VK):Prop where
 | mk (p:Addr) (xs:List V) (i:Int) (v:V) (ex:x = .ref p) (ey:y = .int i) (sq:Sq K H p xs) (at':atI xs i = some v) (q:Q v H)
def rIxA (K:PySem.W.Frag):R2:=fun x y H Q=>RIx K x y H Q
theorem zAj:IxR X (rIxA X.K):=by
 intro value slice pins s σ H x y v u Q I rx ry q hs
 obtain ⟨p,xs,i,z,e1,e2,hq,ha,q⟩:=q
 rcases hq with hq | hq
 ·exact zUl value slice pins s σ H x y v u Q I rx ry ⟨p,xs,i,z,e1,e2,hq,ha,q⟩ hs
 ·exact ix_tup value slice pins s σ H x y v u Q I rx ry ⟨p,xs,i,z,e1,e2,hq,ha,q⟩ hs
def iSeq (K:PySem.W.Frag) (tl:TE):TI:=fun σ H R=>tl σ H fun x H1=>∃ a,x = .ref a∧(((∃ xs,SqL K H1 a xs)∧R (Itl K a) H1)∨((∃ xs,SqT K H1 a xs)∧R (Itt K a) H1))
theorem zCg {tg l:Expr} {tl:TE} (hl:PE X l tl):PI X tg l (iSeq X.K tl):=by
 intro pins s σ H R I h
 refine thn (hl pins s σ H _ I h) fun v s1 ⟨x,H1,I1,r1,q1⟩=>?_
 obtain ⟨a,e,q⟩:=q1
 subst e
 cases r1
 have own:∀ b,b∈[s1.heap.objs.size]→FpOk X pins H1 b:=fun b hb=>by
  rw [List.mem_singleton] at hb
  subst hb
  exact I1.fpOk (Nat.le_refl _) (I1.hok.fresh (Nat.le_refl _))
 rcases q with ⟨⟨xs,hq⟩,q⟩ | ⟨⟨xs,hq⟩,q⟩
 ·obtain ⟨its,rv,p,hz⟩:=I1.list hq
  exact wpAny_pyIter_list p.isList ⟨s1.heap.objs.size,[s1.heap.objs.size],_,_,H1,rfl,I1.kept (t':=s1.toks) fun b o e=>Heap.get?_push_of_some _ e,zLl a _,⟨_,Heap.get?_push_size _ rfl,rfl,rfl⟩,own,q⟩
 ·obtain ⟨its,rv,p,hz⟩:=I1.tuple hq
  exact wpAny_pyIter_tuple (show s1.heap.IsTuple a its.toArray from p) ⟨s1.heap.objs.size,[s1.heap.objs.size],_,_,H1,rfl,I1.kept (t':=s1.toks) fun b o e=>Heap.get?_push_of_some _ e,zJs a _,⟨_,Heap.get?_push_size _ rfl,rfl,rfl⟩,own,q⟩
end

section
variable {K:PySem.W.Frag} {a D:Addr} {xs:List V} {g:TG} {tt:TT} {te:TE} {σ0:St} {H1:Hp} {Q:VK}
theorem zIc (Pv:Nat→St→List V→Hp→Prop) (h0:Pv 0 σ0 [] (upd H1 D (.lst []))) (hl:∀ i σ ys H,i≤xs.length→Pv i σ ys H→SqL K H a xs∧H D = some (.lst ys))
  (hs:∀ i x σ ys H,xs[i]? = some x→Pv i σ ys H→g x σ H fun σ2 H2=>tt σ2 H2 fun b H3 =>
   if b = true then te σ2 H3 fun y H4=>H4 D = some (.lst ys)∧ys.length < sizeLine∧Pv (i + 1) σ2 (ys ++ [y]) (upd H4 D (.lst (ys ++ [y]))) else Pv (i + 1) σ2 ys H3)
  (hd:∀ σ ys H,Pv xs.length σ ys H→Q (.ref D) H):zKj (Itl K a) D g tt te σ0 H1 Q:=by
 refine ⟨fun i m σ ys H=>m = xs.length - i∧i≤xs.length∧Pv i σ ys H,⟨xs.length,by simp,Nat.zero_le _,h0⟩,?_⟩
 rintro i m σ ys H ⟨rfl,hi,p⟩
 obtain ⟨q,qd⟩:=hl i σ ys H hi p
 refine ⟨qd,?_⟩
 by_cases hlt:i < xs.length
 ·refine .inr ⟨⟨xs,xs[i],q,by simp [hlt]⟩,Pv (i + 1),fun σ' zs H' z=>⟨xs.length - (i + 1),by omega,rfl,hlt,z⟩,fun x H' y=>?_⟩
  obtain ⟨e,y⟩:=y
  subst e
  exact hs i x σ ys _ (y xs q) p
 ·have e:i = xs.length:=by omega
  subst e
  exact .inl ⟨⟨xs,q,Nat.le_refl _⟩,hd σ ys H p⟩
theorem zSq (Pv:Nat→St→List V→Hp→Prop) (h0:Pv 0 σ0 [] (upd H1 D (.lst []))) (hl:∀ i σ ys H,i≤xs.length→Pv i σ ys H→SqT K H a xs∧H D = some (.lst ys))
  (hs:∀ i x σ ys H,xs[i]? = some x→Pv i σ ys H→g x σ H fun σ2 H2=>tt σ2 H2 fun b H3 =>
   if b = true then te σ2 H3 fun y H4=>H4 D = some (.lst ys)∧ys.length < sizeLine∧Pv (i + 1) σ2 (ys ++ [y]) (upd H4 D (.lst (ys ++ [y]))) else Pv (i + 1) σ2 ys H3)
  (hd:∀ σ ys H,Pv xs.length σ ys H→Q (.ref D) H):zKj (Itt K a) D g tt te σ0 H1 Q:=by
 refine ⟨fun i m σ ys H=>m = xs.length - i∧i≤xs.length∧Pv i σ ys H,⟨xs.length,by simp,Nat.zero_le _,h0⟩,?_⟩
 rintro i m σ ys H ⟨rfl,hi,p⟩
 obtain ⟨q,qd⟩:=hl i σ ys H hi p
 refine ⟨qd,?_⟩
 by_cases hlt:i < xs.length
 ·refine .inr ⟨⟨xs,xs[i],q,by simp [hlt]⟩,Pv (i + 1),fun σ' zs H' z=>⟨xs.length - (i + 1),by omega,rfl,hlt,z⟩,fun x H' y=>?_⟩
  obtain ⟨e,y⟩:=y
  subst e
  exact hs i x σ ys _ (y xs q) p
 ·have e:i = xs.length:=by omega
  subst e
  exact .inl ⟨⟨xs,q,Nat.le_refl _⟩,hd σ ys H p⟩
theorem zOf {lo:Int} {n:Nat} (Pv:Nat→St→List V→Hp→Prop) (h0:Pv 0 σ0 [] (upd H1 D (.lst []))) (hl:∀ i σ ys H,i≤n→Pv i σ ys H→H D = some (.lst ys))
  (hs:∀ i σ ys H,i < n→Pv i σ ys H→g (.int (lo + i)) σ H fun σ2 H2=>tt σ2 H2 fun b H3 =>
   if b = true then te σ2 H3 fun y H4=>H4 D = some (.lst ys)∧ys.length < sizeLine∧Pv (i + 1) σ2 (ys ++ [y]) (upd H4 D (.lst (ys ++ [y]))) else Pv (i + 1) σ2 ys H3)
  (hd:∀ σ ys H,Pv n σ ys H→Q (.ref D) H):zKj (Itr lo n) D g tt te σ0 H1 Q:=by
 refine ⟨fun i m σ ys H=>m = n - i∧i≤n∧Pv i σ ys H,⟨n,by simp,Nat.zero_le _,h0⟩,?_⟩
 rintro i m σ ys H ⟨rfl,hi,p⟩
 have qd:=hl i σ ys H hi p
 refine ⟨qd,?_⟩
 by_cases hlt:i < n
 ·refine .inr ⟨hlt,Pv (i + 1),fun σ' zs H' z=>⟨n - (i + 1),by omega,rfl,hlt,z⟩,fun x H' y=>?_⟩
  obtain ⟨e,y⟩:=y
  subst e y
  exact hs i σ ys _ hlt p
 ·have e:i = n:=by omega
  subst e
  exact .inl ⟨Nat.le_refl _,hd σ ys H p⟩
end
section
variable {K:PySem.W.Frag} {a D:Addr} {xs:List V} {g:TG} {te:TE} {σ0:St} {H1:Hp} {Q:VK}
theorem zCa (Pv:Nat→St→List V→Hp→Prop) (h0:Pv 0 σ0 [] (upd H1 D (.lst []))) (hl:∀ i σ ys H,i≤xs.length→Pv i σ ys H→SqL K H a xs∧H D = some (.lst ys))
  (hs:∀ i x σ ys H,xs[i]? = some x→Pv i σ ys H→g x σ H fun σ2 H2=>te σ2 H2 fun y H4=>H4 D = some (.lst ys)∧ys.length < sizeLine∧Pv (i + 1) σ2 (ys ++ [y]) (upd H4 D (.lst (ys ++ [y]))))
  (hd:∀ σ ys H,Pv xs.length σ ys H→Q (.ref D) H):zKj (Itl K a) D g tYes te σ0 H1 Q:=zIc Pv h0 hl (fun i x σ ys H e p=>hs i x σ ys H e p) hd
theorem zLc (Pv:Nat→St→List V→Hp→Prop) (h0:Pv 0 σ0 [] (upd H1 D (.lst []))) (hl:∀ i σ ys H,i≤xs.length→Pv i σ ys H→SqT K H a xs∧H D = some (.lst ys))
  (hs:∀ i x σ ys H,xs[i]? = some x→Pv i σ ys H→g x σ H fun σ2 H2=>te σ2 H2 fun y H4=>H4 D = some (.lst ys)∧ys.length < sizeLine∧Pv (i + 1) σ2 (ys ++ [y]) (upd H4 D (.lst (ys ++ [y]))))
  (hd:∀ σ ys H,Pv xs.length σ ys H→Q (.ref D) H):zKj (Itt K a) D g tYes te σ0 H1 Q:=zSq Pv h0 hl (fun i x σ ys H e p=>hs i x σ ys H e p) hd
theorem zH8 {lo:Int} {n:Nat} (Pv:Nat→St→List V→Hp→Prop) (h0:Pv 0 σ0 [] (upd H1 D (.lst []))) (hl:∀ i σ ys H,i≤n→Pv i σ ys H→H D = some (.lst ys))
  (hs:∀ i σ ys H,i < n→Pv i σ ys H→g (.int (lo + i)) σ H fun σ2 H2=>te σ2 H2 fun y H4=>H4 D = some (.lst ys)∧ys.length < sizeLine∧Pv (i + 1) σ2 (ys ++ [y]) (upd H4 D (.lst (ys ++ [y]))))
  (hd:∀ σ ys H,Pv n σ ys H→Q (.ref D) H):zKj (Itr lo n) D g tYes te σ0 H1 Q:=zOf Pv h0 hl (fun i σ ys H e p=>hs i σ ys H e p) hd
end
end L2

namespace L2
open PySem PySem.Spec PyProof.Rows
section
variable {X:Cx}
end
end L2

namespace L2
open PySem PySem.Spec PyProof.Rows

section
variable {prog:Program} {w:World} {A:Around} {E:Value→Shared→Prop} {s:Shared}
end
end L2

namespace L2
open PySem PySem.Spec PyProof.Rows
section
variable {X:Cx}
end
section
variable {K:PySem.W.Frag} {b1 b2:Bool} {l1 l2 D:Addr} {xs ys:List V} {g:TG} {tt:TT} {te:TE} {σ0:St} {H1:Hp} {Q:VK}
end
end L2

namespace L2
open PySem PySem.Spec PyProof.Rows
theorem ifD {p A B:Prop} [Decidable p] (h1:p→A) (h2:¬ p→B):if decide p = true then A else B:=by
 by_cases h:p
 ·rw [if_pos (decide_eq_true h)]; exact h1 h
 ·rw [if_neg (by rw [decide_eq_false h]; exact Bool.false_ne_true)]; exact h2 h
theorem ifN {p A B:Prop} [Decidable p] (h1:¬ p→A) (h2:p→B):if (!decide p) = true then A else B:=by
 by_cases h:p
 ·rw [if_neg (by rw [decide_eq_true h]; exact Bool.false_ne_true)]; exact h2 h
 ·rw [if_pos (by rw [decide_eq_false h]; rfl)]; exact h1 h
theorem ifE {x y:Int} {A B:Prop} (h1:x = y→A) (h2:x≠y→B):if decide (V.int x = V.int y) = true then A else B :=
 ifD (fun h=>h1 (V.int.inj h)) fun h=>h2 fun e=>h (congrArg V.int e)
theorem ifNe {x y:Int} {A B:Prop} (h1:x≠y→A) (h2:x = y→B):if (!decide (V.int x = V.int y)) = true then A else B :=
 ifN (fun h=>h1 fun e=>h (congrArg V.int e)) fun h=>h2 (V.int.inj h)
theorem zAe {H:Hp} {p:Addr} (h:H p = none) (o:HO):Same H (upd H p o):=fun b u q=>by rw [zAs (zA0 q h)]; exact q
theorem Sq.same {K:PySem.W.Frag} {H H':Hp} {a:Addr} {xs:List V} (h:Sq K H a xs) (e:Same H H'):Sq K H' a xs:=by
 rcases h with h | h
 ·exact .inl (e.seq h)
 ·refine .inr ?_
  rcases h with h | h
  ·rcases h with h | ⟨o,h⟩
   ·exact .inl (.inl (e _ _ h))
   ·exact .inl (.inr ⟨o,e _ _ h⟩)
  ·exact .inr h
theorem zCp {ns:List Int} {i:Nat} {x:V} (h:(ns.map V.int)[i]? = some x):∃ n,ns[i]? = some n∧x = .int n:=by
 rw [List.getElem?_map] at h
 cases e:ns[i]? with
 | none=>rw [e] at h; cases h
 | some n=>rw [e] at h; exact ⟨n,rfl,(Option.some.inj h).symm⟩
theorem zBi {α:Type} {l:List α} {i:Nat} {x:α} (h:l[i]? = some x):l.take (i + 1) = l.take i ++ [x]:=by
 rw [List.take_succ,h]; rfl
theorem small {n:Nat} (h:n≤1000):n≤sizeLine:=Nat.le_of_lt (zA2 h)
end L2
namespace L2
open PySem PySem.Spec PyProof.Rows
theorem SqT.same {K:PySem.W.Frag} {H H':Hp} {a:Addr} {xs:List V} (h:SqT K H a xs) (e:Same H H'):SqT K H' a xs:=by
 rcases h with h | h
 ·rcases h with h | ⟨o,h⟩
  ·exact .inl (.inl (e _ _ h))
  ·exact .inl (.inr ⟨o,e _ _ h⟩)
 ·exact .inr h
end L2
namespace L2
open PySem PySem.Spec PyProof.Rows
def zMb (t:TT):Prop:=∀ (σ:St) (H:Hp) (Q Q':Bool→Hp→Prop),(∀ b H1,Q b H1→Q' b H1)→t σ H Q→t σ H Q'
def zI5 (t:TE):Prop:=∀ (σ:St) (H:Hp) (Q Q':VK),(∀ b H1,Q b H1→Q' b H1)→t σ H Q→t σ H Q'
def zQs (t:TA):Prop:=∀ (σ:St) (H:Hp) (Q Q':List V→Hp→Prop),(∀ b H1,Q b H1→Q' b H1)→t σ H Q→t σ H Q'
def zUa (r:R2):Prop:=∀ (x y:V) (H:Hp) (Q Q':VK),(∀ b H1,Q b H1→Q' b H1)→r x y H Q→r x y H Q'
def MonoC (r:List V→Hp→VK→Prop):Prop:=∀ (xs:List V) (H:Hp) (Q Q':VK),(∀ b H1,Q b H1→Q' b H1)→r xs H Q→r xs H Q'
theorem zD2 {i:Nat} : zI5 (tVar i):=fun _ _ _ _ hq ⟨v,e,z⟩=>⟨v,e,hq _ _ z⟩
theorem mo_c {v:V} : zI5 (tC v):=fun _ _ _ _ hq z=>hq _ _ z
theorem zMh {r:R2} {ta tb:TE} (hr:zUa r) (ha:zI5 ta) (hb:zI5 tb):zI5 (tOp r ta tb):=fun σ _ _ _ hq z=>ha σ _ _ _ (fun _ _ z=>hb σ _ _ _ (fun _ _ z=>hr _ _ _ _ _ hq z) z) z
theorem zOk {g:Int→Int→V} : zUa (rI0 g):=fun _ _ _ _ _ hq ⟨i,j,e1,e2,z⟩=>⟨i,j,e1,e2,hq _ _ z⟩
theorem mo_ixA {K:PySem.W.Frag} : zUa (rIxA K):=fun _ _ _ _ _ hq ⟨p,xs,i,v,a,b,c,d,z⟩=>⟨p,xs,i,v,a,b,c,d,hq _ _ z⟩
theorem zG2 {t:TE} (h:zI5 t):zMb (zR8 t):=fun σ _ _ _ hq z=>h σ _ _ _ (fun _ _ ⟨k,e,z⟩=>⟨k,e,hq _ _ z⟩) z
theorem mo_b {t:TE} (h:zI5 t):zMb (tB t):=fun σ _ _ _ hq z=>h σ _ _ _ (fun _ _ ⟨k,e,z⟩=>⟨k,e,hq _ _ z⟩) z
theorem mo_not {t:TT} (h:zMb t):zMb (tNot t):=fun σ _ _ _ hq z=>h σ _ _ _ (fun _ _ z=>hq _ _ z) z
theorem zRq {t u:TT} (h:zMb t) (h':zMb u):zMb (tAnd t u):=fun σ _ _ _ hq z=>h σ _ _ _ (fun b _ z=>by
 cases b with
 | true=>exact h' σ _ _ _ hq z
 | false=>exact hq _ _ z) z
theorem zLk:zQs tNil:=fun _ _ _ _ hq z=>hq _ _ z
theorem zG3 {te:TE} {ta:TA} (h:zI5 te) (h':zQs ta):zQs (zUc te ta):=fun σ _ _ _ hq z=>h σ _ _ _ (fun _ _ z=>h' σ _ _ _ (fun _ _ z=>hq _ _ z) z) z
theorem zSp {r:List V→Hp→VK→Prop} {t:TA} (hr:MonoC r) (h:zQs t):zI5 (tCB r t):=fun σ _ _ _ hq z=>h σ _ _ _ (fun _ _ z=>hr _ _ _ _ hq z) z
theorem zNh {K:PySem.W.Frag} : MonoC (fun xs H Q=>∃ p ys,xs = [.ref p]∧(SqL K H p ys∨SqT K H p ys)∧Q (.int ys.length) H):=fun _ _ _ _ hq ⟨p,ys,e,s,z⟩=>⟨p,ys,e,s,hq _ _ z⟩
theorem zIf (ns:List Int) (lo hi:Option Int):cutV (ns.map V.int) lo hi = ((ns.drop (HT.sIx ns.length 0 lo)).take (HT.sIx ns.length ns.length hi - HT.sIx ns.length 0 lo)).map V.int:=by
 unfold cutV
 rw [List.length_map,List.map_take,List.map_drop]
theorem ifTF {b:Bool} {A B:Prop} (h1:b = true→A) (h2:b = false→B):if b = true then A else B:=by
 cases b with
 | true=>exact h1 rfl
 | false=>exact h2 rfl
end L2
namespace L2
open PySem PySem.Spec PyProof.Rows
end L2

namespace L2
open PySem PySem.Spec PyProof.Rows
theorem zTe {A:Around} {s:Shared} {xs ys:List Int} {us ws:List Value} (r1:Vals (xs.map V.int) us) (r2:Vals (ys.map V.int) ws):∀ j (h1:j < us.toArray.size) (h2:j < ws.toArray.size),
  SeqAt.EqAt A s us.toArray[j] ws.toArray[j] (decide (xs[j]? = ys[j]?)):=fun j h1 h2=>by
 have l1:=r1.length
 have l2:=r2.length
 rw [List.length_map] at l1 l2
 have g1:j < us.length:=by simpa using h1
 have g2:j < ws.length:=by simpa using h2
 have k1:j < xs.length:=by omega
 have k2:j < ys.length:=by omega
 obtain ⟨u,hu,t,ru⟩:=r1.get (i:=j) (x:=.int xs[j]) (by rw [List.getElem?_map,List.getElem?_eq_getElem k1]; rfl)
 obtain ⟨w,hw,t',rw'⟩:=r2.get (i:=j) (x:=.int ys[j]) (by rw [List.getElem?_map,List.getElem?_eq_getElem k2]; rfl)
 have e1:us.toArray[j] = .int xs[j] t:=by
  have z:=List.getElem?_eq_getElem g1
  rw [hu] at z
  rw [List.getElem_toArray,← Option.some.inj z,ru]
 have e2:ws.toArray[j] = .int ys[j] t':=by
  have z:=List.getElem?_eq_getElem g2
  rw [hw] at z
  rw [List.getElem_toArray,← Option.some.inj z,rw']
 rw [e1,e2]
 have e3:decide (xs[j]? = ys[j]?) = (xs[j] == ys[j]):=by
  rw [List.getElem?_eq_getElem k1,List.getElem?_eq_getElem k2]
  by_cases h:xs[j] = ys[j]
  ·rw [h]; simp
  ·rw [decide_eq_false (fun z=>h (Option.some.inj z))]
   exact (beq_eq_false_iff_ne.mpr h).symm
 rw [e3]
 exact SeqAt.EqAt.int_int _ _ _ _
theorem zQk {xs ys:List Int} : ((List.range (min xs.length ys.length)).all (fun j=>decide (xs[j]? = ys[j]?)) && xs.length == ys.length) = decide (xs = ys):=by
 by_cases h:xs = ys
 ·subst h
  rw [decide_eq_true rfl,Bool.and_eq_true]
  exact ⟨List.all_eq_true.mpr fun j _=>decide_eq_true rfl,by simp⟩
 ·rw [decide_eq_false h,Bool.and_eq_false_iff]
  by_cases hl:xs.length = ys.length
  ·left
   rw [Bool.eq_false_iff]
   intro z
   apply h
   rw [List.all_eq_true] at z
   refine List.ext_getElem? fun j=>?_
   by_cases hj:j < xs.length
   ·exact of_decide_eq_true (z j (List.mem_range.mpr (by omega)))
   ·rw [List.getElem?_eq_none (by omega),List.getElem?_eq_none (by omega)]
  ·right
   exact beq_eq_false_iff_ne.mpr hl
section
variable {X:Cx}
def rEqT (K:PySem.W.Frag) (neg:Bool):R2:=fun x y H Q=>∃ (a b:Addr) (xs ys:List Int),x = .ref a∧y = .ref b∧SqT K H a (xs.map V.int)∧SqT K H b (ys.map V.int)∧Q (.bl (if neg then !decide (xs = ys) else decide (xs = ys))) H
theorem op_neT (hu:X.A.units < cLine):OpR X (compareOp .NotEq) (rEqT X.K true):=by
 intro pins s σ H x y v u Q I rx ry h
 obtain ⟨a,b,xs,ys,rfl,rfl,h1,h2,q⟩:=h
 cases rx
 cases ry
 obtain ⟨us,r1,p1,_⟩:=I.tuple h1
 obtain ⟨ws,r2,p2,_⟩:=I.tuple h2
 refine SeqAt.RcNeAt.tuples (e:=fun j=>decide (xs[j]? = ys[j]?)) (show s.heap.IsTuple a us.toArray from p1) (show s.heap.IsTuple b ws.toArray from p2) hu (zTe r1 r2) X.prog X.w _ _ ?_
 have l1:=r1.length
 have l2:=r2.length
 rw [List.length_map] at l1 l2
 rw [List.size_toArray,List.size_toArray,← l1,← l2,zQk]
 exact ⟨.bl (!decide (xs = ys)),H,I,rfl,q⟩
end
end L2
namespace L2
open PySem
theorem zDq {rows:List Int} {P:Int→Prop} (bd:∀ x∈rows,P x) {k:Int} (k0:0≤k) (k1:k < rows.length):∃ v:Int,atI (rows.map V.int) k = some (.int v)∧P v:=by
 have hk:k.toNat < rows.length:=by omega
 refine ⟨rows[k.toNat],?_,bd _ (List.getElem_mem hk)⟩
 have q:atI (rows.map V.int) ((k.toNat:Nat):Int) = some (.int rows[k.toNat]):=zDm (by rw [List.getElem?_map,List.getElem?_eq_getElem hk] <;> rfl)
 rw [show ((k.toNat:Nat):Int) = k from by omega] at q
 exact q
end L2
namespace L2
theorem zKl.of {i j:Int} (hi:i.natAbs≤10 ^ 100) (hj:j.natAbs≤10 ^ 100):zKl i j :=
 ⟨Nat.lt_of_le_of_lt hi (by decide +kernel),Nat.lt_of_le_of_lt hj (by decide +kernel)⟩
theorem zT0 {n:Nat} (h:n≤10 ^ 40):n≤10 ^ 100:=Nat.le_trans h (by decide +kernel)
end L2

namespace L2
open PySem PySem.Spec PyProof.Rows
section
variable {X:Cx} {T:List Str} {caps:List (Str × Nat)} {scope:Scope} {elt target iter:Expr} {ifs:List Expr} {pos cpos:Pos} {wi:TI} {g:CC→TG} {tt:CC→TT} {te:CC→TE}
theorem zSc (S:zEa X caps scope) (hc:X.calm = true) (hi:PI X target iter wi) (hg:∀ c,PG (zBx X (T ++ caps.map (·.1)) scope c) target (g c)) (ht:∀ c,PIfs (zBx X (T ++ caps.map (·.1)) scope c) ifs (tt c)) (he:∀ c,PE (zBx X (T ++ caps.map (·.1)) scope c) elt (te c))
  {use:Option (Value→Sem Unit)} {Qv:Value→Shared→Prop} {pins:List (Addr × Obj)} {s:Shared} {σ:St} {H:Hp} {Q:VK} (I:Inv X pins σ H s) (h:zT8 T.length caps wi g tt te σ H Q)
  (hfin:∀ (D C:Addr) (s4:Shared) (H3:Hp),Inv X pins σ H3 s4→Q (.ref D) H3→∀ m,s4.heap.Ns C m→H3 C = none→C≠X.env.locals→X.s₀.heap.objs.size≤C→(∀ x c,X.env.cells.lookup x = some c→c≠C)→(∀ p∈X.pn ++ pins,p.1≠C)→compPost (model X.prog X.w) X.A X.xe use Qv (.ref D) C (.ok .next) s4)
  (hs:∀ x,foldedSetIterable iter X.env x = pure x:=by intro _; rfl) :
  wpAny (model X.prog X.w) X.A (comprehension (.ListComp elt [⟨target,iter,ifs,0⟩] scope pos) scope X.env cpos (newList []) false (eval iter X.env) use) Qv X.xe s:=by
 refine wpAny_comprehension_free (use:=use) rfl hs (zQq S.cells) S.kind S.loc (thn (hi pins s σ H _ I h) fun v s1 h1=>thn h1 fun itv s2 h2=>?_)
 obtain ⟨it,fp,tn,J,H2,e,I2,TT,st2,f2,q2⟩:=h2
 subst e
 refine wpAny_newObj_type (wpAny_newFunctionEnv S.nocell (by intro y hy; simp at hy) (fun h1 hn hsb=>?_) S.kind)
 dsimp only at hn hsb ⊢
 generalize hg2:s2.heap.push { cls:=.type "list", dict:=none,data:=.seq ([]:List Value).toArray } = G at hn hsb ⊢
 have hCv:G.objs.size = s2.heap.objs.size + 1:=by rw [← hg2,Heap.size_push]
 have hDC:G.objs.size≠s2.heap.objs.size:=by rw [hCv]; exact Nat.succ_ne_self _
 have hCle:s2.heap.objs.size≤G.objs.size:=by rw [hCv]; exact Nat.le_succ _
 have old:∀ b o,s2.heap.get? b = some o→h1.get? b = some o:=fun b o e=>hsb.extBut b o (Nat.ne_of_lt (Nat.lt_of_lt_of_le (Heap.lt_size e) hCle)) (Heap.get?_push_of_some _ (hg2 ▸ Heap.get?_push_of_some _ e))
 have hacc:∃ n,h1.get? s2.heap.objs.size = some { cls:=.type "list", data:=.seq ([]:List Value).toArray n }:=⟨_,hsb.extBut _ _ (Ne.symm hDC) (Heap.get?_push_of_some _ (hg2 ▸ Heap.get?_push_size _ rfl))⟩
 have hfp:∀ b∈fp,b < s2.heap.objs.size:=fun b hb=>by
  obtain ⟨o,e,_⟩:=TT.obj _ _ st2 b hb
  exact Heap.lt_size e
 have cs:=zEr (env:=X.env) scope.names [] S.cells (fun _ _ z=>by cases z)
 have I0:=zJq (T:=T) (tk:=s2.toks + ([]:List (Str × Value)).length) S I2 f2 hfp (Nat.le_refl _) hCle hDC old hacc hn
 have st0:tn 0 h1:=TT.keep _ _ _ st2 fun b _ o e=>old b o e
 obtain ⟨W,⟨m0,w0⟩,turn⟩:=q2 ⟨G.objs.size,s2,H2,fp⟩ s2.heap.objs.size (I2.hok.fresh (Nat.le_refl _))
 have fr0:∀ b∈fp,upd H2 s2.heap.objs.size (.lst []) b = none:=fun b hb=>by
  rw [zAs (Nat.ne_of_lt (hfp b hb))]
  exact (f2 b hb).1
 have stat:∀ {H':Hp},(∀ b∈fp,H' b = none)→∀ b∈fp,FpOk (zBx X (T ++ caps.map (·.1)) scope ⟨G.objs.size,s2,H2,fp⟩) [] H' b:=fun {H'} hn' b hb =>
  ⟨hn' b hb,Nat.ne_of_lt (Nat.lt_of_lt_of_le (hfp b hb) hCle),I0.ok.exfs b hb,.inl hb,fun x c e=>(f2 b hb).2.2.2.2.1 x c (cs x c e),fun p hp=>absurd (show p∈([]:List (Addr × Obj)) from hp) (by simp)⟩
 have loop:codeAny (model X.prog X.w) X.A (.compLoop (.ListComp elt [⟨target,iter,ifs,0⟩] scope pos) 0 (.ref it) (.ref s2.heap.objs.size) (compEnvC scope (zGd X.env scope.names []) G.objs.size X.env))
   (compPost (model X.prog X.w) X.A X.xe use Qv (.ref s2.heap.objs.size) G.objs.size) { s2 with heap:=h1,toks:=s2.toks + ([]:List (Str × Value)).length }:=by
  refine codeAny_loop rfl (fun n s'=>∃ i σ' ys H',Inv (zBx X (T ++ caps.map (·.1)) scope ⟨G.objs.size,s2,H2,fp⟩) [] σ' H' s'∧tn i s'.heap∧(∀ b∈fp,H' b = none)∧W i n σ' ys H') (fun n s3 hI=>?_) m0 ⟨0,_,[],_,I0,st0,fr0,w0⟩
  obtain ⟨i,σ3,ys,H3,I3,st3,fr3,w3⟩:=hI
  show wpAny _ X.A ((compTurn (.ListComp elt [⟨target,iter,ifs,0⟩] scope pos) 0 (.ref it) (.ref s2.heap.objs.size) (compEnvC scope (zGd X.env scope.names []) G.objs.size X.env)).onRaise (fun x=>do noteFrame x (compEnvC scope (zGd X.env scope.names []) G.objs.size X.env); theTreesLotGoes x)) _ _ s3
  refine wpAny_noted ?_
  rw [compTurn_list]
  refine wpAny_bind (wpAny_standAt (wpAny_bind ?_))
  obtain ⟨hD3,turn3⟩:=turn i n σ3 ys H3 w3
  rcases turn3 with ⟨stop,qn⟩ | ⟨go,N,hN,step⟩
  ·refine thnF (TT.done (zBx X (T ++ caps.map (·.1)) scope ⟨G.objs.size,s2,H2,fp⟩) rfl rfl rfl hc i [] s3 σ3 H3 _ I3 (stat fr3) st3 stop) fun r s4 ⟨hr,I4⟩=>?_
   subst hr
   refine wpAny_pure ?_
   obtain ⟨m4,hn4,_⟩:=I4.loc
   have J4:Inv X pins σ H3 s4:=by
    refine I2.call' (s':=s4) (ch:=fp) I4.os I4.base I4.hok I4.bare fun b hb=>?_
    obtain ⟨_,f1,_,f3,f4,f5⟩:=f2 b hb
    exact ⟨f3,f1,f4,f5⟩
   refine hfin _ G.objs.size s4 H3 J4 qn m4 hn4 I4.free (Nat.ne_of_gt (Nat.lt_of_lt_of_le I2.lt hCle)) (Nat.le_trans I2.sz hCle) (fun x c e z=>?_) (fun p hp z=>?_)
   ·obtain ⟨v,qq⟩:=I2.cell x c e
    exact absurd (Nat.lt_of_lt_of_le qq.lt (by rw [z]; exact hCle)) (Nat.lt_irrefl _)
   ·exact absurd (Nat.lt_of_lt_of_le (Heap.lt_size (I2.pin p hp).1) (by rw [z]; exact hCle)) (Nat.lt_irrefl _)
  ·refine thnF (TT.item (zBx X (T ++ caps.map (·.1)) scope ⟨G.objs.size,s2,H2,fp⟩) rfl rfl rfl hc i [] s3 σ3 H3 _ I3 (stat fr3) st3 go) fun r s4 ⟨u,hr,h4⟩=>?_
   subst hr
   refine wpAny_bind (thnF h4 fun _ s5 ⟨x,H5,I5,r5,y5,st5,fr5⟩=>?_)
   have I5':=I5.pinned (stat fr5) (TT.obj _ _ st5)
   refine wpAny_bind (thnF (hg _ _ s5 σ3 H5 x u _ I5' r5 (step x H5 y5)) fun _ s6 ⟨σ6,H6,I6,q6⟩=>?_)
   have again:∀ {s7:Shared} {σ7:St} {zs:List V} {H7:Hp},Inv (zBx X (T ++ caps.map (·.1)) scope ⟨G.objs.size,s2,H2,fp⟩) ([] ++ zJe fp s5.heap) σ7 H7 s7→N σ7 zs H7 →
     ∃ m,m < n∧∃ i σ' ys H',Inv (zBx X (T ++ caps.map (·.1)) scope ⟨G.objs.size,s2,H2,fp⟩) [] σ' H' s7∧tn i s7.heap∧(∀ b∈fp,H' b = none)∧W i m σ' ys H':=fun {s7 σ7 zs H7} I7 n7=>by
    obtain ⟨m',hm,w7⟩:=hN σ7 zs H7 n7
    refine ⟨m',hm,i + 1,σ7,zs,H7,I7.unpinned,TT.keep _ _ _ st5 fun b hb o e=>(I7.pin (b,o) (List.mem_append_right _ (List.mem_append_right _ (zDf hb e)))).1,fun b hb=>?_,w7⟩
    obtain ⟨o,e,d⟩:=TT.obj _ _ st5 b hb
    exact (I7.pin (b,o) (List.mem_append_right _ (List.mem_append_right _ (zDf hb e)))).2.1
   refine wpAny_bind (thnF (ht _ _ s6 σ6 H6 _ I6 q6) fun ok s7 ⟨H7,I7,q7⟩=>?_)
   cases ok with
   | false=>exact wpAny_pure ⟨rfl,again I7 q7⟩
   | true =>
    refine wpAny_bind (wpAny_bind (thnF (he _ _ s7 σ6 H7 _ I7 q7) fun y s8 ⟨yv,H8,I8,r8,hD8,hl8,q8⟩=>?_))
    refine wpAny_bind (thnF (zDn _ s8 σ6 H8 (.ref s2.heap.objs.size) [yv] (.ref s2.heap.objs.size) [y] (fun _ H9=>N σ6 (ys ++ [yv]) H9) I8 rfl (.cons r8 .nil) ⟨_,ys,yv,rfl,rfl,hD8,hl8,q8⟩) fun _ s9 ⟨_,H9,I9,_,q9⟩=>?_)
    exact wpAny_pure (wpAny_pure ⟨rfl,again I9 q9⟩)
 exact codeAny_compStart_list loop (TT.self _ 0 _ _ _ st0 loop)
theorem zFi {i:Nat} {y:Str} {py spos:Pos} (hN:X.N.Nodup) (hy:X.N[i]? = some y) (hloc:X.env.scope.names.lookup y = some .local) (S:zEa X caps scope) (hc:X.calm = true) (hi:PI X target iter wi) (hg:∀ c,PG (zBx X (T ++ caps.map (·.1)) scope c) target (g c)) (ht:∀ c,PIfs (zBx X (T ++ caps.map (·.1)) scope c) ifs (tt c)) (he:∀ c,PE (zBx X (T ++ caps.map (·.1)) scope c) elt (te c))
  (hsw:swapsWith (.ListComp elt [⟨target,iter,ifs,0⟩] scope pos) (some (.Name y py)) spos.line X.env = pure true:=by rfl) (hs:∀ x,foldedSetIterable iter X.env x = pure x:=by intro _; rfl) :
  PS X (.Assign [.Name y py] (.ListComp elt [⟨target,iter,ifs,0⟩] scope pos) spos) (tAsg (zT8 T.length caps wi g tt te) (zTt i)):=by
 intro pins s σ H D I h
 rw [exec_Assign_Name_used _ _ _ _ hsw]
 refine wpAny_bind (wpAny_standAt (wpAny_bind ?_))
 show wpAny _ X.A (do let _ ← comprehension (.ListComp elt [⟨target,iter,ifs,0⟩] scope pos) scope X.env _ (newList []) false (eval iter X.env) (some (assign (.Name y py) X.env))) _ _ s
 refine wpAny_bind (wpAny_mono (zSc (Qv:=fun _ s'=>SP X pins D .next s') S hc hi hg ht he I h (fun D' C s4 H3 J4 q4 m4 hn4 hC hL hS hcell hpin=>?_) hs) (fun _ s' hq=>wpAny_pure (wpAny_pure hq)) fun _ _ e=>e)
 show wpAny (model X.prog X.w) X.A (assign (.Name y py) X.env (.ref D')) (fun _ s''=>∃ m,s''.heap.Ns C m∧∀ h',Heap.SameBut C s''.heap h'→SP X pins D .next { s'' with heap:=h' }) X.xe s4
 refine wpAny_assign_Name (zK6 J4 hN hy (.inl hloc) (v:=.ref D') rfl (fun s5 J5 hb=>?_) (.inr hloc))
 obtain ⟨a,sb,ha⟩:=hb
 have hCa:C≠a:=by
  rcases ha with z | z
  ·rw [z]; exact hL
  ·exact fun e=>hcell y a z e.symm
 refine ⟨m4,hn4.sameBut sb hCa,fun h' sb'=>⟨_,H3,?_,q4⟩⟩
 exact J5.turned (t':=s5.toks) (fun b o hb e=>(sb'.2 b hb).trans e) hC hL (.inr hS) hcell hpin
end
end L2

namespace L2
open PySem PySem.Spec PyProof.Rows
theorem zLb:bootBuiltins "enumerate" = some (.type "enumerate"):=by decide +kernel
def Ite (K:PySem.W.Frag) (l:Addr):It :=
 ⟨fun k H=>∃ xs x,SqL K H l xs∧xs[k]? = some x,
   fun k H v H'=>∃ T x,v = .ref T∧H T = none∧H' = upd H T (.tup [.int k,x])∧∀ xs,SqL K H l xs→xs[k]? = some x,
   fun k H=>∃ xs,SqL K H l xs∧xs.length≤k⟩
theorem zPz {P:Program} {w:World} {K:PySem.W.Frag} {elts:List Expr} {kt:Nat} {pt:Pos} {e it l:Addr} (hne:e≠it) :
  Turn P w K (.Tuple elts kt pt) (Ite K l) [e,it] e (fun k h=>(∃ old,IsEnum h e it k old)∧h.IsListIter it l k) where
 mem:=by simp
 obj:=fun k h st b hb=>by
  obtain ⟨⟨old,he⟩,h1⟩:=st
  obtain ⟨o1,g1,_,d1⟩:=h1
  simp only [List.mem_cons,List.not_mem_nil,or_false] at hb
  rcases hb with rfl | rfl
  ·exact ⟨_,he,fun v z=>by cases z⟩
  ·exact ⟨_,g1,fun v z=>by rw [d1] at z; cases z⟩
 keep:=fun k h h' st kp=>by
  obtain ⟨⟨old,he⟩,h1⟩:=st
  exact ⟨⟨old,kp e (by simp) _ he⟩,h1.at fun o z=>kp it (by simp) o z⟩
 item:=by
  intro X hP hw hK hc k pins s σ H E I hf st hg
  subst hP hw hK
  obtain ⟨⟨old,he⟩,h1⟩:=st
  obtain ⟨xs,x,q1,hx⟩:=hg
  obtain ⟨its,r1,p1,_⟩:=I.list q1
  obtain ⟨u1,e1,v1⟩:=r1.get hx
  have fresh:H s.heap.objs.size = none:=I.hok.fresh (Nat.le_refl _)
  refine wpAny_pyNext_enum_item he h1 p1.isList (by simpa using e1) hne fun h' z1 j1 t1 _ kp=>?_
  refine ⟨_,rfl,wpAny_letOwnedTupleGo_enum z1 fun h2' z2 sb=>?_⟩
  have kp2:∀ c o,c ∉ [e,it]→s.heap.get? c = some o→h2'.get? c = some o:=fun c o hc q=>by
   simp only [List.mem_cons,List.not_mem_nil,or_false,not_or] at hc
   exact sb.extBut c o hc.1 (kp c o hc.1 hc.2 q)
  have neT:∀ b o,s.heap.get? b = some o→b≠s.heap.objs.size:=fun b o q=>Nat.ne_of_lt (Heap.lt_size q)
  have neH:∀ b o,H b = some o→b ∉ [e,it]:=fun b o q hb=>by
   rw [(hf b hb).1] at q
   cases q
  have upn:∀ b o,H b = some o→upd H s.heap.objs.size (.tup [.int k,x]) b = some o:=fun b o q=>by
   rw [zAs (zA0 q fresh)]
   exact q
  refine ⟨.ref s.heap.objs.size,upd H s.heap.objs.size (.tup [.int k,x]),?_,rfl,⟨_,x,rfl,fresh,rfl,fun zs hz'=>by rw [I.list_inj hz' q1]; exact hx⟩,?_,fun b hb=>?_⟩
  ·refine Inv.step (s:=s) (h':=h2') (g':=s.gens) (d':=s.drawn) (t':=s.toks + 1) (ch:=[e,it]) I (fun b hb=>?_) (fun b o _ _ hc q _=>kp2 b o hc q) (fun b o _ _ hc q _=>⟨o.slots,kp2 b o hc q⟩) (fun b o _ q n=>?_) (fun b o hc q=>⟨o,kp2 b o hc q⟩)
    (fun b zs q=>upn b _ q) (fun b o zs q=>upn b _ q) (fun b ps q=>⟨#[],by rw [upn b _ q]; simp⟩) (fun m hm=>?_) (fun b o q=>?_) I.bare
   ·obtain ⟨_,f1,_,f3,f4,f5⟩:=hf b hb
    exact ⟨f3,f1,f4,f5⟩
   ·rw [zAs (neT b o q)]
    exact n
   ·obtain ⟨o,es,ep,ho,r⟩:=hm
    refine ⟨o,es,ep,kp2 _ o (fun hb=>?_) ho,r⟩
    exact (hf _ hb).2.1 rfl
   ·by_cases hb:b = s.heap.objs.size
    ·subst hb
     rw [zAb] at q
     cases q
     exact ⟨by show 2≤sizeLine; decide,[_,u1],.cons ⟨_,rfl⟩ (.cons v1 .nil),_,sb.extBut _ _ (Nat.ne_of_gt (Heap.lt_size he)) t1,rfl,_,rfl⟩
    ·rw [zAs hb] at q
     refine (I.hok b o q).stay (fun c u hc z=>kp2 c u ?_ z) (fun c z=>upn c _ z) fun c zs z=>upn c _ z
     rcases hc with hc | hc
     ·rw [hc]; exact neH b o q
     ·exact neH c _ hc
  ·exact ⟨⟨_,z2⟩,j1.at fun o z=>sb.extBut _ o (Ne.symm hne) z⟩
  ·obtain ⟨o,q,_⟩:∃ o,s.heap.get? b = some o∧True:=by
    obtain ⟨o1,g1,_⟩:=h1
    simp only [List.mem_cons,List.not_mem_nil,or_false] at hb
    rcases hb with rfl | rfl
    ·exact ⟨_,he,trivial⟩
    ·exact ⟨_,g1,trivial⟩
   rw [zAs (neT b o q)]
   exact (hf b hb).1
 done:=by
  intro X hP hw hK hc k pins s σ H E I hf st hg
  subst hP hw hK
  obtain ⟨⟨old,he⟩,h1⟩:=st
  obtain ⟨xs,q1,hend⟩:=hg
  obtain ⟨its,r1,p1,_⟩:=I.list q1
  have l1':=r1.length
  refine wpAny_pyNext_enum_end (I.ok.hd hc) he h1 p1.isList (Array.getElem?_eq_none (by rw [List.size_toArray]; omega)) fun h' eb=>⟨rfl,?_⟩
  obtain ⟨f0,f1,f2,f3,f4,f5⟩:=hf it (by simp)
  exact I.turned (t':=s.toks) (fun b o hb q=>eb b o hb q) f0 f1 f3 f4 f5
 self:=fun _ _ _ _ _ st h=>by
  obtain ⟨⟨old,he⟩,_⟩:=st
  exact wpAny_pyIter_enum he h
section
variable {X:Cx}
def iEnum (K:PySem.W.Frag) (ta:TA):TI:=fun σ H R=>ta σ H fun vs H1=>∃ (l:Addr) (xs:List V),vs = [.ref l]∧H1 l = some (.lst xs)∧R (Ite K l) H1
theorem zT5 {elts:List Expr} {kt:Nat} {pt:Pos} {a:Expr} {ta:TA} {p pos:Pos} (hg:Gl X "enumerate") (hm:X.mg "enumerate" = none) (ha:PA X [a] ta) (hs:starEach [a] X.env = [(false,eval a X.env)]:=by rfl) :
  PI X (.Tuple elts kt pt) (.Call (.Name "enumerate" p) [a] [] pos) (iEnum X.K ta):=by
 intro pins s σ H R I h
 refine Call_ (zJo I hg hm zLb (PyProof.Rows.callWith_type1 (thn (ha pos pins s σ H _ I h) fun us s1 ⟨vs,H1,I1,r1,q1⟩=>?_) hs rfl))
 obtain ⟨l,xs,e,hl,q⟩:=q1
 subst e
 obtain ⟨u1,rfl,v1⟩:=Vals.one r1
 cases v1
 obtain ⟨_,its,n,_,_,eo⟩:=I1.lstM hl
 refine call_enumerate_1 eo fun h' he hi _ kp=>?_
 refine wpAny_pyIter_enum he ?_
 refine ⟨_,_,_,_,H1,rfl,I1.kept (t':=s1.toks) kp,zPz (Nat.succ_ne_self _),⟨⟨_,he⟩,hi⟩,fun b hb=>?_,q⟩
 have hge:s1.heap.objs.size≤b:=by
  simp only [List.mem_cons,List.not_mem_nil,or_false] at hb
  rcases hb with rfl | rfl <;> omega
 exact I1.fpOk hge (I1.hok.fresh hge)
end
section
variable {K:PySem.W.Frag} {l D:Addr} {xs:List V} {g:TG} {tt:TT} {te:TE} {σ0:St} {H1:Hp} {Q:VK}
theorem zRk (Pv:Nat→St→List V→Hp→Prop) (h0:Pv 0 σ0 [] (upd H1 D (.lst []))) (hl:∀ i σ zs H,Pv i σ zs H→SqL K H l xs∧H D = some (.lst zs))
  (hs:∀ i x T σ zs H,xs[i]? = some x→H T = none→Pv i σ zs H→g (.ref T) σ (upd H T (.tup [.int i,x])) fun σ2 H2=>tt σ2 H2 fun b H3 =>
   if b = true then te σ2 H3 fun z H4=>H4 D = some (.lst zs)∧zs.length < sizeLine∧Pv (i + 1) σ2 (zs ++ [z]) (upd H4 D (.lst (zs ++ [z]))) else Pv (i + 1) σ2 zs H3)
  (hd:∀ σ zs H,Pv xs.length σ zs H→Q (.ref D) H):zKj (Ite K l) D g tt te σ0 H1 Q:=by
 refine ⟨fun i m σ zs H=>m = xs.length - i∧i≤xs.length∧Pv i σ zs H,⟨_,rfl,Nat.zero_le _,h0⟩,?_⟩
 rintro i m σ zs H ⟨rfl,hi,p⟩
 obtain ⟨q1,qd⟩:=hl i σ zs H p
 refine ⟨qd,?_⟩
 by_cases hlt:i < xs.length
 ·refine .inr ⟨⟨xs,xs[i],q1,by simp [hlt]⟩,Pv (i + 1),fun σ' zs' H' z=>⟨xs.length - (i + 1),by omega,rfl,hlt,z⟩,fun v H' y=>?_⟩
  obtain ⟨T,x,rfl,hT,rfl,y1⟩:=y
  exact hs i x T σ zs H (y1 xs q1) hT p
 ·have e:i = xs.length:=by omega
  subst e
  exact .inl ⟨⟨xs,q1,Nat.le_refl _⟩,hd σ zs H p⟩
end
end L2

namespace L2
open PySem PySem.Spec PyProof.Rows
section
variable {X:Cx} {e:Expr} {te:TE} {lo hi:Option Expr} {st:Expr} {tl th ts:TO} {pos p2:Pos}
end
theorem zEm:∀ {rs:List Addr} {us:List Value},Vals (rs.map V.ref) us→us = rs.map Value.ref
 | [],_,r=>by cases r; rfl
 | a :: rs,_,r=>by
  cases r with
  | cons r1 r2 =>
   cases r1
   rw [zEm r2]
   rfl
section
variable {X:Cx}
theorem zHb (n:Nat):(List.range n).all (fun _=>true) = true:=List.all_eq_true.mpr fun _ _=>rfl
end
theorem Same.putNew {H H4:Hp} {D:Addr} {o:HO} (s:Same H H4) (h:H D = none):Same H (upd H4 D o):=fun b u q=>by
 rw [zAs (zA0 q h)]
 exact s _ _ q
abbrev Pr:=Addr × Int × Int
abbrev zGj (ps:List Pr):List V:=(ps.map (·.1)).map V.ref
def PrOk (H:Hp) (M:Nat) (ps:List Pr):Prop:=∀ t∈ps,H t.1 = some (.tup [.int t.2.1,.int t.2.2])∧t.2.1.natAbs≤M∧t.2.2.natAbs≤M
theorem zKo (ps:List Pr):(zGj ps).length = ps.length:=by simp [zGj]
end L2
namespace L2
open PySem PySem.Spec PyProof.Rows
theorem zGx:∀ {xs ys:List Int},xs.map V.int = ys.map V.int→xs = ys
 | [],[],_=>rfl
 | [],_ :: _,h=>nomatch h
 | _ :: _,[],h=>nomatch h
 | x :: xs,y :: ys,h=>by
  rw [List.map_cons,List.map_cons] at h
  injection h with h1 h2
  rw [V.int.inj h1,zGx h2]
section
variable {X:Cx}
theorem zP4 {pins:List (Addr × Obj)} {s:Shared} {σ:St} {H:Hp} (I:Inv X pins σ H s) {A:Around} (hu:A.units < cLine) {a b:Addr} {xs ys:List Int} (h1:H a = some (.tup (xs.map V.int))) (h2:H b = some (.tup (ys.map V.int))) :
  SeqAt.EqAt A s (.ref a) (.ref b) (decide (xs = ys)):=by
 by_cases e:a = b
 ·subst e
  rw [h1] at h2
  have z:xs = ys:=zGx (by injection (Option.some.inj h2))
  rw [decide_eq_true z]
  exact SeqAt.EqAt.same _
 ·obtain ⟨us,r1,p1,_⟩:=I.tuple (SqT.of h1)
  obtain ⟨ws,r2,p2,_⟩:=I.tuple (SqT.of h2)
  have q:=SeqAt.RcAt.tuples (A:=A) (s:=s) (l:=a) (b:=b) (items:=us.toArray) (items2:=ws.toArray) (e:=fun j=>decide (xs[j]? = ys[j]?)) p1 p2 hu (zTe r1 r2)
  have l1:=r1.length
  have l2:=r2.length
  rw [List.length_map] at l1 l2
  rw [List.size_toArray,List.size_toArray,← l1,← l2,zQk] at q
  exact SeqAt.EqAt.of_refs e q
end
end L2

namespace PySem.W
open PySem PySem.Calls PyProof.Rows
def zC5 {α:Type} (n:Nat) (lt:Nat→Nat→Bool):KasT α→(α→Prop)→Prop
 | .ret a,Q=>Q a
 | .ask i j k,Q=>i < n∧j < n∧zC5 n lt (k (lt i j)) Q
theorem zC5.bind {α β:Type} {n:Nat} {lt:Nat→Nat→Bool} {f:α→KasT β} {Q:β→Prop} : ∀ {t:KasT α},zC5 n lt t (fun a=>zC5 n lt (f a) Q)→zC5 n lt (t.bind f) Q
 | .ret _,h=>h
 | .ask _ _ _,h=>⟨h.1,h.2.1,zC5.bind h.2.2⟩
theorem zC5.wp {α:Type} {n:Nat} {lt:Nat→Nat→Bool} {cmp:Nat→Nat→(Bool→Shared→Prop)→Shared→Prop} {P:α→Prop} {Q:α→Shared→Prop} {s:Shared}
  (hc:∀ i j (C:Bool→Shared→Prop),i < n→j < n→C (lt i j) s→cmp i j C s) (hq:∀ a,P a→Q a s):∀ {t:KasT α},zC5 n lt t P→t.kasWp cmp Q s
 | .ret a,h=>hq a h
 | .ask i j _,h=>hc i j _ h.1 h.2.1 (zC5.wp hc hq h.2.2)
section
variable {O:KeyOrd} (key:Nat→O.α)
def KP (p:Array Nat) (i:Nat):O.α:=key (p.getD i 0)
def SoT (p:Array Nat) (k:Nat):Prop:=∀ i j,i≤j→j < k→O.kle (KP key p i) (KP key p j)
def NiT (p:Array Nat) (k:Nat):Prop:=∀ i j,i≤j→j < k→O.kle (KP key p j) (KP key p i)
structure PIn (n:Nat) (p:Array Nat):Prop where
 perm:p.Perm (List.toArray (List.range n))
variable {key} {n:Nat}
theorem PIn.size {p:Array Nat} (h:PIn n p):p.size = n:=by rw [h.perm.size_eq]; simp
theorem PIn.lt {p:Array Nat} (h:PIn n p) {i:Nat} (hi:i < n):p.getD i 0 < n:=by
 have hs:=h.size
 have e:p.getD i 0 = p[i]'(by omega):=by simp [Array.getD,show i < p.size by omega]
 rw [e]
 have hm:p[i]'(by omega)∈p.toList:=by simp
 have:=(Array.perm_iff_toList_perm.mp h.perm).mem_iff.mp hm
 simpa using this
theorem PIn.rev {p:Array Nat} (h:PIn n p) (i j:Nat):PIn n (kas_rev p i j):=⟨(mirror_perm _ _ _ _).trans h.perm⟩
theorem PIn.bub {p:Array Nat} (h:PIn n p) (i j:Nat):PIn n (bubble p i j):=⟨(bubble_perm _ _ _).trans h.perm⟩
theorem zGc {p q:Array Nat} {i j:Nat} (h:p[i]? = q[j]?):KP key p i = KP key q j:=by
 unfold KP; rw [Array.getD_eq_getD_getElem?,Array.getD_eq_getD_getElem?,h]
theorem zTb {p:Array Nat} {src d:Nat} (hs:src < p.size) (hd:d≤src) (k:Nat) :
  KP key (bubble p src d) k = if k = src - d then KP key p src else if src - d < k∧k≤src then KP key p (k - 1) else KP key p k:=by
 have e:=getElem?_bubble hs d hd k
 split
 ·rename_i h; rw [if_pos h] at e; exact zGc e
 ·rename_i h
  rw [if_neg h] at e
  split
  ·rename_i h2; rw [if_pos h2] at e; exact zGc e
  ·rename_i h2; rw [if_neg h2] at e; exact zGc e
theorem zPs {p:Array Nat} {i j:Nat} (hj:j≤p.size) (k:Nat):KP key (kas_rev p i j) k = if i≤k∧k < j then KP key p (i + j - 1 - k) else KP key p k:=by
 have e:=getElem?_mirror_all (i:=i) hj k
 split
 ·rename_i h; rw [if_pos h] at e; exact zGc e
 ·rename_i h; rw [if_neg h] at e; exact zGc e
theorem zEy {p:Array Nat} {i j:Nat} (hj:j≤p.size) (he:∀ k,i≤k→k < j→KP key p k = KP key p (j - 1)) (k:Nat):KP key (kas_rev p i j) k = KP key p k:=by
 rw [zPs hj]
 split
 ·rw [he _ (by omega) (by omega),he k (by omega) (by omega)]
 ·rfl
abbrev ltK (key:Nat→O.α) (i j:Nat):Bool:=O.blt (key i) (key j)

theorem zUt {p:Array Nat} : SoT key p 1:=by
 intro i j hij hj
 have e:i = j:=by omega
 subst e
 exact KeyOrd.kle_refl _
theorem zMi {p:Array Nat} (hp:PIn n p) {Q:Nat→Prop} : ∀ (f a:Nat),1≤a→a + f≤n→SoT key p a →
  (∀ m,a≤m→m≤a + f→SoT key p m→(m = a + f∨O.klt (KP key p m) (KP key p (m - 1)))→Q m)→zC5 n (ltK key) (kas_asc p f a) Q
 | 0,a,_,_,hs,q=>q a (Nat.le_refl _) (by omega) hs (.inl rfl)
 | f + 1,a,h1,hn,hs,q=>by
  refine ⟨hp.lt (by omega),hp.lt (by omega),?_⟩
  dsimp only
  by_cases hl:ltK key (p.getD a 0) (p.getD (a - 1) 0) = true
  ·rw [if_pos hl]
   exact q a (Nat.le_refl _) (by omega) hs (.inr hl)
  ·rw [if_neg hl]
   refine zMi hp f (a + 1) (by omega) (by omega) (fun i j hij hj=>?_) fun m m1 m2 hm ho=>q m (by omega) (by omega) hm (ho.imp (by omega) id)
   by_cases hja:j < a
   ·exact hs i j hij hja
   ·have hj':j = a:=by omega
    subst hj'
    by_cases hi:i = j
    ·subst hi; exact KeyOrd.kle_refl _
    ·exact KeyOrd.kle_trans (hs i (j - 1) (by omega) (by omega)) (KeyOrd.kle_of_not_klt hl)

theorem zLf {p:Array Nat} (hp:PIn n p) {m:Nat} {Q:Nat × Array Nat→Prop} (h1:1≤m) (hm:m≤n) (hs:NiT key p m)
  (q:∀ k p',PIn n p'→1≤k→k≤n→SoT key p' k→Q (k,p')):zC5 n (ltK key) (kas_tail3 m n p) Q:=by
 have hz:m≤p.size:=by rw [hp.size]; exact hm
 refine zC5.bind (zMi (hp.rev 0 m) (n - m) m h1 (by omega) (fun i j hij hj=>?_) fun k k1 k2 hk _=>q k _ (hp.rev 0 m) (by omega) (by omega) hk)
 rw [zPs hz,zPs hz,if_pos (by omega),if_pos (by omega)]
 exact hs _ _ (by omega) (by omega)

theorem zHn {Q:Array Nat × Nat × Nat→Prop} : ∀ (f:Nat) (p:Array Nat) (a e:Nat),PIn n p→1≤a→a + f = n→NiT key p a→e + 1≤a→(∀ i,a - (e + 1)≤i→i < a→KP key p i = KP key p (a - 1)) →
  (∀ p' m e',PIn n p'→1≤m→m≤n→NiT key p' m→e' + 1≤m→(∀ i,m - (e' + 1)≤i→i < m→KP key p' i = KP key p' (m - 1))→Q (p',m,e'))→zC5 n (ltK key) (kas_desc f p a e) Q
 | 0,p,a,e,hp,h1,hf,hs,he,heq,q=>q p a e hp h1 (by omega) hs he heq
 | f + 1,p,a,e,hp,h1,hf,hs,he,heq,q=>by
  have hz:a≤p.size:=by rw [hp.size]; omega
  refine ⟨hp.lt (by omega),hp.lt (by omega),?_⟩
  dsimp only
  by_cases hl:ltK key (p.getD a 0) (p.getD (a - 1) 0) = true
  ·rw [if_pos hl]
   have step:∀ p',(∀ k,KP key p' k = KP key p k)→NiT key p' (a + 1):=by
    intro p' hk i j hij hj
    rw [hk,hk]
    by_cases hja:j < a
    ·exact hs i j hij hja
    ·have hj':j = a:=by omega
     subst hj'
     by_cases hi:i = j
     ·subst hi; exact KeyOrd.kle_refl _
     ·exact KeyOrd.kle_trans (KeyOrd.kle_of_klt hl) (hs i (j - 1) (by omega) (by omega))
   split
   ·exact zHn f _ (a + 1) 0 (hp.rev _ _) (by omega) (by omega) (step _ (zEy hz heq)) (by omega) (fun i i1 i2=>by congr 1; omega) q
   ·exact zHn f p (a + 1) 0 hp (by omega) (by omega) (step _ fun _=>rfl) (by omega) (fun i i1 i2=>by congr 1; omega) q
  ·rw [if_neg hl]
   refine ⟨hp.lt (by omega),hp.lt (by omega),?_⟩
   dsimp only
   by_cases hg:ltK key (p.getD (a - 1) 0) (p.getD a 0) = true
   ·rw [if_pos hg]
    exact q p a e hp h1 (by omega) hs he heq
   ·rw [if_neg hg]
    have ee:KP key p a = KP key p (a - 1):=KeyOrd.kle_antisymm (KeyOrd.kle_of_not_klt hg) (KeyOrd.kle_of_not_klt hl)
    refine zHn f p (a + 1) (e + 1) hp (by omega) (by omega) (fun i j hij hj=>?_) (by omega) (fun i i1 i2=>?_) q
    ·by_cases hja:j < a
     ·exact hs i j hij hja
     ·have hj':j = a:=by omega
      subst hj'
      by_cases hi:i = j
      ·subst hi; exact KeyOrd.kle_refl _
      ·rw [ee]; exact hs i (j - 1) (by omega) (by omega)
    ·rw [show a + 1 - 1 = a by omega]
     by_cases hi:i = a
     ·rw [hi]
     ·rw [ee]; exact heq i (by omega) (by omega)

theorem zG4 {p:Array Nat} (hp:PIn n p) {m:Nat} {Q:Nat × Array Nat→Prop} (hm:m + 1≤n) (hs:NiT key p (m + 1))
  (q:∀ k p',PIn n p'→1≤k→k≤n→SoT key p' k→Q (k,p')):zC5 n (ltK key) (kas_descPart m n p) Q:=by
 refine zC5.bind (zHn (n - (m + 1)) p (m + 1) 0 hp (by omega) (by omega) hs (by omega) (fun i i1 i2=>by congr 1; omega) fun p' k e hp' k1 k2 hs' he heq=>?_)
 have hz:k≤p'.size:=by rw [hp'.size]; exact k2
 dsimp only
 split
 ·refine zLf (hp'.rev _ _) k1 k2 (fun i j hij hj=>?_) q
  rw [zEy hz heq,zEy hz heq]
  exact hs' i j hij hj
 ·exact zLf hp' k1 k2 hs' q

theorem zPn {p:Array Nat} (hp:PIn n p) {Q:Nat × Array Nat→Prop} (hn:1≤n)
  (q:∀ k p',PIn n p'→1≤k→k≤n→SoT key p' k→Q (k,p')):zC5 n (ltK key) (kas_count n p) Q:=by
 refine zC5.bind (zMi hp (n - 1) 1 (Nat.le_refl _) (by omega) zUt fun m m1 m2 hm ho=>?_)
 have hz:m≤p.size:=by rw [hp.size]; omega
 by_cases hmn:m = n
 ·rw [if_pos (by simpa using hmn)]
  exact q m p hp m1 (by omega) hm
 ·rw [if_neg (by simpa using hmn)]
  have hlt:O.klt (KP key p m) (KP key p (m - 1)):=ho.resolve_left (by omega)
  split
  ·refine ⟨hp.lt (by omega),hp.lt (by omega),?_⟩
   dsimp only
   by_cases hr:ltK key (p.getD 0 0) (p.getD (m - 1) 0) = true
   ·rw [if_pos hr]
    exact q m p hp m1 (by omega) hm
   ·rw [if_neg hr]
    have hall:∀ k,0≤k→k < m→KP key p k = KP key p (m - 1):=by
     intro k _ hk
     have a1:=hm 0 k (by omega) hk
     have a2:=hm k (m - 1) (by omega) (by omega)
     exact KeyOrd.kle_antisymm a2 (KeyOrd.kle_trans (KeyOrd.kle_of_not_klt hr) a1)
    refine zG4 (hp.rev _ _) (by omega) (fun i j hij hj=>?_) q
    rw [zEy hz hall,zEy hz hall]
    by_cases hjm:j < m
    ·rw [hall i (by omega) (by omega),hall j (by omega) hjm]; exact KeyOrd.kle_refl _
    ·have hj':j = m:=by omega
     subst hj'
     by_cases hi:i = j
     ·subst hi; exact KeyOrd.kle_refl _
     ·rw [hall i (by omega) (by omega)]; exact KeyOrd.kle_of_klt hlt
  ·have hm1:m = 1:=by omega
   subst hm1
   refine zG4 hp (by omega) (fun i j hij hj=>?_) q
   by_cases hi:i = j
   ·subst hi; exact KeyOrd.kle_refl _
   ·have hi0:i = 0:=by omega
    have hj1:j = 1:=by omega
    subst hi0; subst hj1
    exact KeyOrd.kle_of_klt hlt

theorem zIv {p:Array Nat} (hp:PIn n p) {k:Nat} (hk:k < n) (hs:SoT key p k) {Q:Nat→Prop}
  (q:∀ l,l≤k→(∀ i,i < l→O.kle (KP key p i) (KP key p k))→(∀ i,l≤i→i < k→O.klt (KP key p k) (KP key p i))→Q l):∀ (f l r:Nat),l≤r→r≤k→r - l≤f →
   (∀ i,i < l→O.kle (KP key p i) (KP key p k))→(∀ i,r≤i→i < k→O.klt (KP key p k) (KP key p i))→zC5 n (ltK key) (kas_place p k f l r) Q
 | 0,l,r,h1,h2,h3,lo,hi=>q l (by omega) lo (by rw [show l = r by omega]; exact hi)
 | f + 1,l,r,h1,h2,h3,lo,hi=>by
  show zC5 n (ltK key) (if l ≥ r then _ else _) Q
  by_cases hlr:l ≥ r
  ·rw [if_pos hlr]
   exact q l (by omega) lo (by rw [show l = r by omega]; exact hi)
  ·rw [if_neg hlr]
   refine ⟨hp.lt hk,hp.lt (by omega),?_⟩
   dsimp only
   by_cases hl:ltK key (p.getD k 0) (p.getD ((l + r) / 2) 0) = true
   ·rw [if_pos hl]
    exact zIv hp hk hs q f l ((l + r) / 2) (by omega) (by omega) (by omega) lo fun i i1 i2=>KeyOrd.klt_of_klt_of_kle hl (hs _ _ i1 i2)
   ·rw [if_neg hl]
    exact zIv hp hk hs q f ((l + r) / 2 + 1) r (by omega) h2 (by omega) (fun i i1=>KeyOrd.kle_trans (hs i ((l + r) / 2) (by omega) (by omega)) (KeyOrd.kle_of_not_klt hl)) hi

theorem zPu {Q:Array Nat→Prop} (q:∀ p',PIn n p'→SoT key p' n→Q p'):∀ (f:Nat) (p:Array Nat) (k:Nat),PIn n p→k + f = n→SoT key p k→zC5 n (ltK key) (kas_bin f p k) Q
 | 0,p,k,hp,h,hs=>q p hp (by rw [← h]; exact hs)
 | f + 1,p,k,hp,h,hs=>by
  have hks:k < p.size:=by rw [hp.size]; omega
  refine zC5.bind (zIv hp (by omega) hs (fun l hl lo hi=>?_) k 0 k (by omega) (by omega) (by omega) (fun i hi=>absurd hi (by omega)) (fun i h1 h2=>absurd h2 (by omega)))
  refine zPu q f _ (k + 1) (hp.bub _ _) (by omega) fun i j hij hj=>?_
  rw [zTb hks (by omega),zTb hks (by omega),show k - (k - l) = l by omega]
  repeat' split
  all_goals first
   | (exfalso; omega)
   | exact KeyOrd.kle_refl _
   | exact lo _ (by omega)
   | exact KeyOrd.kle_of_klt (hi _ (by omega) (by omega))
   | exact hs _ _ (by omega) (by omega)

theorem zSl {Q:Array Nat→Prop} (hn:2≤n) (q:∀ p',PIn n p'→SoT key p' n→Q p'):zC5 n (ltK key) (kas_sort n) Q:=by
 refine zC5.bind (zPn ⟨Array.Perm.refl _⟩ (by omega) fun k p hp k1 k2 hs=>?_)
 dsimp only
 split
 ·rw [show max k 1 = k by omega]
  exact zPu q (n - k) p k hp (by omega) hs
 ·exact q p hp (by rw [show n = k by omega]; exact hs)
end
end PySem.W

namespace PySem.W
open PySem PySem.Calls PyProof.Rows
section
variable {prog:Program} {w:World} {A:Around} {E:Value→Shared→Prop} {s:Shared}
def zD0 (h:Heap) (a:Addr) (vs:List Value):Heap:=((h.update a (Obj.mapSeq fun _=>#[])).push (seqObj "tuple" vs.toArray 0)).push (seqObj "list" #[] 0)
theorem zMl {h:Heap} {a b:Addr} {vs:List Value} (hb:b≠a) {o:Obj} (e:h.get? b = some o):(zD0 h a vs).get? b = some o:=by
 unfold zD0
 refine Heap.get?_push_of_some _ (Heap.get?_push_of_some _ ?_)
 rw [Heap.get?_update_ne _ _ _ _ hb]
 exact e
theorem zOu {a:Addr} {vs:List Value} {n:Nat} {κ:SortKind} {G:List Value→Prop} {P:PySem.Fin→Shared→Prop} (ho:s.heap.get? a = some (seqObj "list" vs.toArray n)) (h64:vs.length < 64)
  (hk:2≤vs.length→∀ Q:SortKind→Shared→Prop,Q κ { s with heap:=zD0 s.heap a vs }→wpAny (model prog w) A (keyKind' vs.toArray) Q E { s with heap:=zD0 s.heap a vs })
  (ask:2≤vs.length→(kas_sort vs.length).kasWp (kas_ask prog w A κ vs) (fun p s'=>s' = { s with heap:=zD0 s.heap a vs }∧G (p.toList.map fun i=>vs.getD i Value.none)) { s with heap:=zD0 s.heap a vs })
  (few:vs.length < 2→G vs)
  (h:∀ out:List Value,out.length = vs.length→G out→P (.done (.ret .none)) { s with heap:=sortedHeap s.heap a vs out.toArray }) :
  wpAny (model prog w) A (Builtin.«list.sort» ⟨[.ref a],[]⟩) P E s:=by
 have ha:a < s.heap.objs.size:=Heap.lt_size ho
 obtain ⟨e1,ho1⟩:∃ e1,(s.heap.update a (Obj.mapSeq fun _=>(#[]:Array Value))).get? a = some (seqObj "list" #[] e1):=⟨_,get?_update_seq ho fun _=>#[]⟩
 have ho3:(zD0 s.heap a vs).get? a = some (seqObj "list" #[] e1):=Heap.get?_push_of_some _ (Heap.get?_push_of_some _ ho1)
 rw [list_sort_plain]
 refine wpAny_bind (listItems_at ho rfl ?_)
 refine wpAny_bind (listUpdate_at ho rfl ?_ (by rw [List.size_toArray,sizeLine_eq]; omega) (Nat.zero_le _))
 refine wpAny_bind (seqEpoch_at ho1 rfl ?_)
 refine wpAny_bind (wpAny_newTuple ?_ (by show vs.length≤_; rw [sizeLine_eq]; omega))
 refine wpAny_bind (wpAny_newList ?_ (Nat.zero_le _))
 refine wpAny_holding ?_
 show wpAny (model prog w) A _ P E { s with heap:=zD0 s.heap a vs }
 dsimp only
 by_cases h2:vs.toArray.size < 2
 ·rw [if_pos h2,if_pos h2]
  rw [List.size_toArray] at h2
  refine wpAny_bind (wpAny_pure ?_)
  rw [StateT.run_pure]
  refine wpAny_bind (wpAny_pure ?_)
  dsimp only
  refine wpAny_bind (seqEpoch_at ho3 rfl ?_)
  have hout:(vs.toArray.zip vs.toArray).map (·.2) = vs.toArray:=by
   apply Array.toList_inj.mp
   rw [Array.toList_map,Array.toList_zip]
   exact List.map_snd_zip (Nat.le_refl _)
  refine wpAny_bind (listUpdate_at ho3 rfl ?_ (Nat.zero_le _) (by
   refine Nat.le_trans (Nat.le_of_eq ((congrArg Array.size hout).trans List.size_toArray)) ?_
   rw [sizeLine_eq]; omega))
  simp only [bne_self_eq_false,Bool.false_eq_true,if_false]
  refine wpAny_pure ?_
  have hq:=h vs rfl (few h2)
  rw [← hout] at hq
  exact hq
 ·rw [if_neg h2,if_neg h2]
  rw [List.size_toArray] at h2
  have h2':2≤vs.length:=by omega
  refine wpAny_bind (hk h2' _ ?_)
  refine wpAny_bind (wpAny_mono (kat_run (E:=E) (Q:=fun st' s'=>s' = { s with heap:=zD0 s.heap a vs }∧∃ p:Array Nat,p.size = vs.length∧arrOf st' = p.map (kas_item (vs.toArray.zip vs.toArray))∧failedOf st' = none∧G (p.toList.map fun i=>vs.getD i Value.none))
   rfl h2' h64 (fun p' st' s' a1 a2 a3 a4=>⟨a4.1,p',a1,a2,a3,a4.2⟩) (ask h2')) ?_ fun _ _ e=>e)
  rintro ⟨⟨⟩,st'⟩ s' ⟨rfl,p,hp,har,hf,hg⟩
  dsimp only
  have hout:=kat_snds rfl har
  have hsz:(p.toList.map fun i=>vs.getD i Value.none).length = vs.length:=by rw [List.length_map,Array.length_toList,hp]
  rw [hout]
  refine wpAny_bind (seqEpoch_at ho3 rfl ?_)
  refine wpAny_bind (listUpdate_at ho3 rfl ?_ (Nat.zero_le _) (by rw [List.size_toArray,hsz,sizeLine_eq]; omega))
  rw [hf]
  simp only [bne_self_eq_false,Bool.false_eq_true,if_false]
  exact wpAny_pure (h _ hsz hg)
def zCo (h:Heap) (vs:List Value):Heap:=((h.push (seqObj "list" #[] 0)).update h.objs.size (Obj.mapSeq (· ++ vs.toArray))).push (seqObj "list" vs.toArray 0)
theorem zId {h:Heap} {b:Addr} {vs:List Value} {o:Obj} (e:h.get? b = some o):(zCo h vs).get? b = some o:=by
 have hlt:b < h.objs.size:=Heap.lt_size e
 unfold zCo
 refine Heap.get?_push_of_some _ ?_
 rw [Heap.get?_update_ne _ _ _ _ (Nat.ne_of_lt hlt),Heap.get?_push_ne _ _ _ (Nat.ne_of_lt hlt)]
 exact e
theorem zQz {l:Addr} {vs:List Value} {κ:SortKind} {G:List Value→Prop} {Q:Value→Shared→Prop} (hl:s.heap.IsList l vs.toArray) (h64:vs.length < 64)
  (hk:2≤vs.length→∀ s':Shared,(∀ b o,s.heap.get? b = some o→s'.heap.get? b = some o)→∀ (E':Value→Shared→Prop) (Q:SortKind→Shared→Prop),Q κ s'→wpAny (model prog w) A.in1.in1 (keyKind' vs.toArray) Q E' s')
  (ask:2≤vs.length→∀ s':Shared,(∀ b o,s.heap.get? b = some o→s'.heap.get? b = some o)→(kas_sort vs.length).kasWp (kas_ask prog w A.in1.in1 κ vs) (fun p s''=>s'' = s'∧G (p.toList.map fun i=>vs.getD i Value.none)) s')
  (few:vs.length < 2→G vs)
  (h:∀ out:List Value,out.length = vs.length→G out→Q (.ref (s.heap.objs.size + 1)) { s with heap:=sortedAll s.heap vs out.toArray }) :
  wpAny (model prog w) A (call (.builtin "sorted") [.ref l]) Q E s:=by
 refine Calls.call_function_entry kind_sorted plain_sorted entry_sorted (args_sorted1 _) ?_
 unfold Builtin.«sorted»
 refine wpAny_bind (m:=checkCount "sorted" 1 1 _) (wpAny_pure ?_)
 refine wpAny_bind (collect_list hl ?_ (by rw [sizeLine_eq]; omega))
 refine wpAny_bind (wpAny_newList ?_ (by rw [sizeLine_eq]; omega))
 have hsz:((s.heap.push (seqObj "list" #[] 0)).update s.heap.objs.size (Obj.mapSeq (· ++ vs.toArray))).objs.size = s.heap.objs.size + 1:=by
  rw [Heap.size_update,size_push']
 have hoL:(zCo s.heap vs).get? (s.heap.objs.size + 1) = some (seqObj "list" vs.toArray 0):=by
  unfold zCo
  rw [← hsz]; exact Heap.get?_push_size _ rfl
 have keep:∀ b o,s.heap.get? b = some o→(zD0 (zCo s.heap vs) (s.heap.objs.size + 1) vs).get? b = some o:=fun b o e=>by
  have hlt:b < s.heap.objs.size:=Heap.lt_size e
  exact zMl (Nat.ne_of_lt (Nat.lt_succ_of_lt hlt)) (zId e)
 show wpAny _ _ _ _ _ { s with heap:=zCo s.heap vs }
 rw [hsz]
 refine wpAny_bind (wpAny_holding (wpAny_call_entry slot_list_sort ⟨_,hoL,rfl⟩ entry_list_sort ?body (args_list_sort _)))
 case body =>
  exact zOu (s:={ s with heap:=zCo s.heap vs }) hoL h64 (fun h2 Q' hq=>hk h2 _ keep _ Q' hq) (fun h2=>ask h2 _ keep) few fun out hz hg=>⟨_,rfl,wpAny_pure ⟨_,rfl,h out hz hg⟩⟩
end
end PySem.W

namespace L2
open PySem PySem.Spec PyProof.Rows PySem.W
theorem zLo:∀ a:List Int,HT.lexLt a a = false
 | []=>rfl
 | x :: xs=>by rw [HT.lexLt_cons,if_pos rfl]; exact zLo xs
theorem zNz:∀ a b c:List Int,HT.lexLt a b = true→HT.lexLt b c = true→HT.lexLt a c = true
 | [],[],_,h,_=>nomatch h
 | [],_ :: _,[],_,h=>nomatch h
 | [],_ :: _,_ :: _,_,_=>rfl
 | _ :: _,[],_,h,_=>nomatch h
 | _ :: _,_ :: _,[],_,h=>nomatch h
 | x :: xs,y :: ys,z :: zs,h1,h2=>by
  rw [HT.lexLt_cons] at h1 h2 ⊢
  by_cases e1:x = y
  ·rw [if_pos e1] at h1
   by_cases e2:y = z
   ·rw [if_pos e2] at h2
    rw [if_pos (e1.trans e2)]
    exact zNz xs ys zs h1 h2
   ·rw [if_neg e2] at h2
    rw [if_neg (by omega),e1]
    exact h2
  ·rw [if_neg e1] at h1
   have g1:=of_decide_eq_true h1
   by_cases e2:y = z
   ·rw [if_neg (by omega),← e2]
    exact h1
   ·rw [if_neg e2] at h2
    have g2:=of_decide_eq_true h2
    rw [if_neg (by omega)]
    exact decide_eq_true (by omega)
theorem zNr:∀ a b c:List Int,HT.lexLt a c = true→HT.lexLt a b = true∨HT.lexLt b c = true
 | [],_,[],h=>nomatch h
 | [],[],_ :: _,_=>.inr rfl
 | [],_ :: _,_ :: _,_=>.inl rfl
 | _ :: _,_,[],h=>nomatch h
 | _ :: _,[],_ :: _,_=>.inr rfl
 | x :: xs,y :: ys,z :: zs,h=>by
  rw [HT.lexLt_cons] at h ⊢
  rw [HT.lexLt_cons]
  by_cases e1:x = y
  ·by_cases e2:y = z
   ·rw [if_pos (e1.trans e2)] at h
    rw [if_pos e1,if_pos e2]
    exact zNr xs ys zs h
   ·rw [if_neg (by omega)] at h
    right
    rw [if_neg e2,← e1]
    exact h
  ·by_cases e2:y = z
   ·rw [if_neg (by omega)] at h
    left
    rw [if_neg e1,e2]
    exact h
   ·rw [if_neg e1,if_neg e2]
    by_cases g:x < y
    ·exact .inl (decide_eq_true g)
    ·right
     by_cases e3:x = z
     ·exact decide_eq_true (by omega)
     ·rw [if_neg e3] at h
      have:=of_decide_eq_true h
      exact decide_eq_true (by omega)
theorem zI1:∀ a b:List Int,HT.lexLt a b = false→HT.lexLt b a = false→a = b
 | [],[],_,_=>rfl
 | [],_ :: _,h,_=>nomatch h
 | _ :: _,[],_,h=>nomatch h
 | x :: xs,y :: ys,h1,h2=>by
  rw [HT.lexLt_cons] at h1 h2
  by_cases e:x = y
  ·rw [if_pos e] at h1
   rw [if_pos e.symm] at h2
   rw [e,zI1 xs ys h1 h2]
  ·rw [if_neg e] at h1
   rw [if_neg (fun z=>e z.symm)] at h2
   have g1:=of_decide_eq_false h1
   have g2:=of_decide_eq_false h2
   omega
def ordL:KeyOrd where
 α:=List Int
 blt:=HT.lexLt
 irrefl:=zLo
 trans:=zNz
 negTrans:=zNr
 total:=zI1
def TupN (h:Heap) (v:Value) (ns:List Int):Prop:=∃ (a:Addr) (o:Obj) (n:Nat) (its:List Value),v = .ref a∧h.get? a = some o∧o.cls = .type "tuple" ∧ o.data = .seq its.toArray n∧Vals (ns.map V.int) its
theorem TupN.keep {h h':Heap} {v:Value} {t:List Int} (e:TupN h v t) (k:∀ b o,h.get? b = some o→h'.get? b = some o):TupN h' v t:=by
 obtain ⟨a,o,n,its,e1,e2,e3⟩:=e
 exact ⟨a,o,n,its,e1,k _ _ e2,e3⟩
section
variable {prog:Program} {w:World} {A:Around} {E:Value→Shared→Prop} {s:Shared}
theorem zNw {C:Bool→Shared→Prop} : ∀ {ns ms:List Int} {us ws:List Value} (_:Vals (ns.map V.int) us) (_:Vals (ms.map V.int) ws) (_:ns.length = ms.length) (i:Nat) (_:C (HT.lexLt ns ms) s),KatLex prog w A true false C (us.zip ws) i s
 | [],[],_,_,r1,r2,_,i,h=>by
  cases r1
  cases r2
  exact kat_nil h
 | [],_ :: _,_,_,_,_,hl,_,_=>nomatch hl
 | _ :: _,[],_,_,_,_,hl,_,_=>nomatch hl
 | x :: xs,y :: ys,_,_,r1,r2,hl,i,h=>by
  cases r1 with
  | cons p1 q1 =>
   cases r2 with
   | cons p2 q2 =>
    obtain ⟨t,rfl⟩:=p1
    obtain ⟨t',rfl⟩:=p2
    rw [List.zip_cons_cons]
    refine kat_cons (wpAny_eqBool_int ?_)
    rw [HT.lexLt_cons] at h
    by_cases e:x = y
    ·rw [if_pos e] at h
     rw [show (x == y) = true from by simpa using e]
     exact kat_yes (zNw q1 q2 (by simpa using hl) (i + 1) h)
    ·rw [if_neg e] at h
     rw [show (x == y) = false from by simpa using e]
     refine kat_no ?_
     cases i with
     | zero=>exact oneLt_int h
     | succ i=>exact kat_one _ _ (wpAny_lt_int h)
theorem zT7 {u v:Value} {a b:List Int} {C:Bool→Shared→Prop} (hu:TupN s.heap u a) (hv:TupN s.heap v b) (hl:a.length = b.length) (h:C (HT.lexLt a b) s):wpAny (model prog w) A (keyLt' (tuples' true) u v) C E s:=by
 obtain ⟨p,o,n,us,rfl,ho,_,hd,r1⟩:=hu
 obtain ⟨q,o',n',ws,rfl,ho',_,hd',r2⟩:=hv
 refine kat_lt ho hd ho' hd' ?_
 have l1:=r1.length
 have l2:=r2.length
 rw [List.length_map] at l1 l2
 rw [show decide (us.toArray.size < ws.toArray.size) = false from decide_eq_false (by rw [List.size_toArray,List.size_toArray]; omega)]
 exact zNw r1 r2 hl 0 h
theorem zQ7 {h:Heap} : ∀ (vs:List Value),(∀ v∈vs,∃ x xs,TupN h v (x :: xs))→∃ fs:List Value,KatTups h vs fs∧fs.length = vs.length∧∀ v∈fs,∃ i t,v = Value.int i t
 | [],_=>⟨[],.nil,rfl,fun _ hv=>absurd hv (List.not_mem_nil)⟩
 | v :: vs,hv=>by
  obtain ⟨fs,a1,a2,a3⟩:=zQ7 vs fun u hu=>hv u (.tail _ hu)
  obtain ⟨x,xs,p,o,n,its,rfl,ho,hc,hd,r⟩:=hv v (.head _)
  cases r with
  | cons p1 q1 =>
   obtain ⟨t,rfl⟩:=p1
   refine ⟨.int x t :: fs,KatTups.cons ho hc hd rfl a1,by rw [List.length_cons,List.length_cons,a2],fun u hu=>?_⟩
   rcases List.mem_cons.mp hu with rfl | hu
   ·exact ⟨_,_,rfl⟩
   ·exact a3 u hu
theorem zMa {l:Addr} {vs:List Value} {ks:List (List Int)} {m:Nat} {Q:Value→Shared→Prop} (hl:s.heap.IsList l vs.toArray) (h64:vs.length < 64) (hT:∀ i,i < vs.length→TupN s.heap (vs.getD i Value.none) (ks.getD i [])∧(ks.getD i []).length = m + 1)
  (h:∀ is:List Nat,is.Perm (List.range vs.length)→(is.map fun i=>ks.getD i []).Pairwise (fun a b=>HT.lexLt b a = false) →
   Q (.ref (s.heap.objs.size + 1)) { s with heap:=sortedAll s.heap vs (is.map fun i=>vs.getD i Value.none).toArray }) :
  wpAny (model prog w) A (call (.builtin "sorted") [.ref l]) Q E s:=by
 refine zQz (κ:=tuples' true) (G:=fun out=>∃ is:List Nat,is.Perm (List.range vs.length)∧(is.map fun i=>ks.getD i []).Pairwise (fun a b=>HT.lexLt b a = false)∧out = is.map fun i=>vs.getD i Value.none)
  hl h64 (fun h2 s' kp E' Q' hq=>?_) (fun h2 s' kp=>?_) (fun h2=>?_) fun out hz ⟨is,p1,p2,e⟩=>by rw [e]; exact h is p1 p2
 ·obtain ⟨fs,a1,a2,a3⟩:=zQ7 (h:=s'.heap) vs fun v hv=>by
   obtain ⟨i,hi,rfl⟩:=List.getElem_of_mem hv
   obtain ⟨e,en⟩:=hT i hi
   have e':=e.keep kp
   rw [show vs.getD i Value.none = vs[i] by simp [hi]] at e'
   cases ek:ks.getD i [] with
   | nil=>rw [ek] at en; cases en
   | cons x xs=>rw [ek] at e'; exact ⟨x,xs,e'⟩
  refine kat_kind (T:=Value.type "int") a1 (by omega) (fun v hv=>?_) rfl (by first | exact hq | (rw [show (Value.type "int" != Value.type "tuple") = true from by first | decide | simp]; exact hq))
  obtain ⟨i,t,rfl⟩:=a3 v hv
  exact .now
 ·refine zC5.wp (n:=vs.length) (lt:=ltK (O:=ordL) fun i=>ks.getD i []) (fun i j C hi hj hc=>?_) (fun p hp=>⟨rfl,hp⟩) (zSl (O:=ordL) (key:=fun i=>ks.getD i []) h2 fun p hp hs=>?_)
  ·exact zT7 ((hT i hi).1.keep kp) ((hT j hj).1.keep kp) (by rw [(hT i hi).2,(hT j hj).2]) hc
  ·refine ⟨p.toList,by simpa using Array.perm_iff_toList_perm.mp hp.perm,?_,rfl⟩
   rw [List.pairwise_map,List.pairwise_iff_getElem]
   intro i j hi hj hij
   have hi':i < p.size:=by simpa using hi
   have hj':j < p.size:=by simpa using hj
   have q:=hs i j (Nat.le_of_lt hij) (by rw [← hp.size]; exact hj')
   unfold KP at q
   rw [show p.getD i 0 = p.toList[i] by simp [Array.getD,hi'],show p.getD j 0 = p.toList[j] by simp [Array.getD,hj']] at q
   exact q
 ·refine ⟨List.range vs.length,.refl _,?_,?_⟩
  ·rw [List.pairwise_map,List.pairwise_iff_getElem]
   intro i j hi hj hij
   rw [List.length_range] at hj
   omega
  ·refine List.ext_getElem (by simp) fun i h1 h3=>?_
   rw [List.getElem_map,List.getElem_range]
   simp [h1]
end
theorem zI7 {α β:Type} (f:α→β) (d:α) (e:β) (xs:List α):((List.range xs.length).map fun i=>f (xs.getD i d)) = xs.map f:=by
 refine List.ext_getElem (by simp) fun i h1 h2=>?_
 have hi:i < xs.length:=by simpa using h1
 rw [List.getElem_map,List.getElem_range,List.getElem_map]
 simp [hi]
theorem zD7:∀ rs:List Addr,Vals (rs.map V.ref) (rs.map Value.ref)
 | []=>.nil
 | _ :: rs=>.cons rfl (zD7 rs)
section
variable {X:Cx}
theorem zCy:bootBuiltins "sorted" = some (.builtin "sorted"):=by decide +kernel
theorem zCx:zI9 X (.builtin "sorted") (fun xs H Q=>∃ (l:Addr) (ts:List (Addr × List Int)) (m:Nat),xs = [.ref l]∧SqL X.K H l ((ts.map (·.1)).map V.ref)∧ts.length < 64∧(∀ t∈ts,H t.1 = some (.tup (t.2.map V.int))∧t.2.length = m + 1) ∧
  ∀ (p:Addr) (us:List (Addr × List Int)),H p = none→us.Perm ts→us.Pairwise (fun a b=>HT.lexLt b.2 a.2 = false)→Q (.ref p) (upd H p (.lst ((us.map (·.1)).map V.ref)))):=by
 intro pins s σ H xs us Q I r h
 obtain ⟨l,ts,m,rfl,hq,h64,hts,q⟩:=h
 obtain ⟨u,rfl,ru⟩:=Vals.one r
 cases ru
 obtain ⟨its,rv,pl,hz⟩:=I.list hq
 have ei:=zEm rv
 subst ei
 have hn:((ts.map (·.1)).map Value.ref).length = ts.length:=by rw [List.length_map,List.length_map]
 refine zMa (ks:=ts.map (·.2)) (m:=m) pl.isList (by rw [hn]; exact h64) (fun i hi=>?_) fun is hp hs=>?_
 ·rw [hn] at hi
  have ht:=hts ts[i] (List.getElem_mem hi)
  have e1:((ts.map (·.1)).map Value.ref).getD i Value.none = Value.ref ts[i].1:=by simp [hi]
  have e2:(ts.map (·.2)).getD i [] = ts[i].2:=by simp [hi]
  rw [e1,e2]
  refine ⟨?_,ht.2⟩
  obtain ⟨its,r1,⟨o,e,c,n,d⟩,_⟩:=I.tuple (SqT.of ht.1)
  exact ⟨_,o,n,its,rfl,e,c,d,r1⟩
 ·rw [hn] at hp
  have lt:∀ i∈is,i < ts.length:=fun i hi=>List.mem_range.mp (hp.mem_iff.mp hi)
  let d:Addr × List Int:=(0,[])
  have pm:(is.map fun i=>ts.getD i d).Perm ts:=by
   have z:=hp.map fun i=>ts.getD i d
   have e:=zI7 (fun t:Addr × List Int=>t) d d ts
   rw [show (List.range ts.length).map (fun i=>ts.getD i d) = ts from by simpa using e] at z
   exact z
  have e1:(is.map fun i=>((ts.map (·.1)).map Value.ref).getD i Value.none) = ((is.map fun i=>ts.getD i d).map (·.1)).map Value.ref:=by
   simp only [List.map_map]
   refine List.map_congr_left fun i hi=>?_
   have:=lt i hi
   simp [this]
  have e2:(is.map fun i=>(ts.map (·.2)).getD i []) = (is.map fun i=>ts.getD i d).map (·.2):=by
   rw [List.map_map]
   refine List.map_congr_left fun i hi=>?_
   have:=lt i hi
   simp [this]
  rw [e2,List.pairwise_map] at hs
  rw [e1]
  obtain ⟨e,at'⟩:=sortedAll_at s.heap ((ts.map (·.1)).map Value.ref) (((is.map fun i=>ts.getD i d).map (·.1)).map Value.ref).toArray
  have fr:H (s.heap.objs.size + 1) = none:=I.hok.fresh (Nat.le_succ _)
  refine ⟨.ref (s.heap.objs.size + 1),_,I.laid (t':=s.toks) (a:=s.heap.objs.size + 1) (o:=.lst (((is.map fun i=>ts.getD i d).map (·.1)).map V.ref)) (fun b ob q=>sortedAll_old q) (Nat.le_succ _) ?_,rfl,q _ _ fr pm hs⟩
  refine ⟨?_,_,e,zD7 _,at'⟩
  rw [List.length_map,List.length_map,pm.length_eq]
  exact Nat.le_trans (Nat.le_of_lt h64) (by rw [sizeLine_eq]; decide)
end
end L2
namespace L2
open PySem PySem.Spec PyProof.Rows
section
variable {X:Cx}
def rNeV (K:PySem.W.Frag):R2:=fun x y H Q=>∃ (a b:Addr) (ts us:List (Addr × List Int)),x = .ref a∧y = .ref b∧SqL K H a ((ts.map (·.1)).map V.ref)∧SqL K H b ((us.map (·.1)).map V.ref) ∧
 (∀ t∈ts,H t.1 = some (.tup (t.2.map V.int)))∧(∀ t∈us,H t.1 = some (.tup (t.2.map V.int)))∧ts.map (·.2) = us.map (·.2)∧Q (.bl false) H
theorem zS9 (hu:X.A.units + 64 < cLine):OpR X (compareOp .NotEq) (rNeV X.K):=by
 intro pins s σ H x y v u Q I rx ry h
 obtain ⟨a,b,ts,us,rfl,rfl,h1,h2,k1,k2,e,q⟩:=h
 cases rx
 cases ry
 obtain ⟨is,r1,p1,_⟩:=I.list h1
 obtain ⟨js,r2,p2,_⟩:=I.list h2
 have e1:=zEm r1
 have e2:=zEm r2
 subst e1 e2
 have hl:ts.length = us.length:=by
  have z:=congrArg List.length e
  rwa [List.length_map,List.length_map] at z
 refine SeqAt.RcNeAt.lists (e:=fun _=>true) p1.isList p2.isList (by simp [hl]) (show X.A.units < cLine by omega) (fun j g1 g2=>?_) X.prog X.w _ _ ?_
 ·have j1:j < ts.length:=by simpa using g1
  have j2:j < us.length:=by omega
  have et:ts[j].2 = us[j].2:=by
   have z:=congrArg (fun l=>l[j]?) e
   simp only [List.getElem?_map,List.getElem?_eq_getElem j1,List.getElem?_eq_getElem j2,Option.map_some] at z
   exact Option.some.inj z
  have z:=zP4 I (A:=X.A.in1) (show X.A.units + 1 < cLine by omega) (k1 ts[j] (List.getElem_mem j1)) (k2 us[j] (List.getElem_mem j2))
  rw [decide_eq_true et] at z
  simpa using z
 ·rw [zHb]
  exact ⟨.bl false,H,I,rfl,q⟩
end
end L2

namespace Sea
open PySem L2
theorem zT2 {a b c p q r:Int} (hp:0 < p) (hq:0 < q) (hr:0 < r) (h1:a * q≤b * p) (h2:b * r≤c * q):a * r≤c * p:=by
 have e1:=Int.mul_le_mul_of_nonneg_right h1 (Int.le_of_lt hr)
 have e2:=Int.mul_le_mul_of_nonneg_right h2 (Int.le_of_lt hp)
 have e3:a * q * r = a * r * q:=Int.mul_right_comm a q r
 have e4:b * p * r = b * r * p:=Int.mul_right_comm b p r
 have e5:c * q * p = c * p * q:=Int.mul_right_comm c q p
 exact Int.le_of_mul_le_mul_right (by omega) hq
theorem zS1 {a b c p q r:Int} (hp:0 < p) (hq:0 < q) (hr:0 < r) (h1:a * q < b * p) (h2:b * r≤c * q):a * r < c * p:=by
 have e1:=Int.mul_lt_mul_of_pos_right h1 hr
 have e2:=Int.mul_le_mul_of_nonneg_right h2 (Int.le_of_lt hp)
 have e3:a * q * r = a * r * q:=Int.mul_right_comm a q r
 have e4:b * p * r = b * r * p:=Int.mul_right_comm b p r
 have e5:c * q * p = c * p * q:=Int.mul_right_comm c q p
 exact Int.lt_of_mul_lt_mul_right (by omega) (Int.le_of_lt hq)
theorem fr_lt2 {a b c p q r:Int} (hp:0 < p) (hq:0 < q) (hr:0 < r) (h1:a * q≤b * p) (h2:b * r < c * q):a * r < c * p:=by
 have e1:=Int.mul_le_mul_of_nonneg_right h1 (Int.le_of_lt hr)
 have e2:=Int.mul_lt_mul_of_pos_right h2 hp
 have e3:a * q * r = a * r * q:=Int.mul_right_comm a q r
 have e4:b * p * r = b * r * p:=Int.mul_right_comm b p r
 have e5:c * q * p = c * p * q:=Int.mul_right_comm c q p
 exact Int.lt_of_mul_lt_mul_right (by omega) (Int.le_of_lt hq)
def leS (s t:SpT):Prop:=ahB t s = false
theorem zKz (s t:SpT):leS s t↔s.2.1 * t.2.2.2 < t.2.1 * s.2.2.2∨(s.2.1 * t.2.2.2 = t.2.1 * s.2.2.2∧s.2.2.1 * t.2.2.2≤t.2.2.1 * s.2.2.2):=by
 unfold leS ahB
 by_cases h:t.2.1 * s.2.2.2 - s.2.1 * t.2.2.2 = 0
 ·rw [if_pos h,decide_eq_false_iff_not]
  omega
 ·rw [if_neg h,decide_eq_false_iff_not]
  omega
theorem zH9 {s t:SpT} (h:ahB s t = true):leS s t:=by
 rw [zKz]
 unfold ahB at h
 by_cases e:s.2.1 * t.2.2.2 - t.2.1 * s.2.2.2 = 0
 ·rw [if_pos e] at h
  have:=of_decide_eq_true h
  omega
 ·rw [if_neg e] at h
  have:=of_decide_eq_true h
  omega
theorem zPp {s t u:SpT} (hs:0 < s.2.2.2) (ht:0 < t.2.2.2) (hu:0 < u.2.2.2) (h1:leS s t) (h2:leS t u):leS s u:=by
 rw [zKz] at h1 h2 ⊢
 rcases h1 with h1 | ⟨h1,g1⟩
 ·left
  rcases h2 with h2 | ⟨h2,g2⟩
  ·exact zS1 hs ht hu h1 (Int.le_of_lt h2)
  ·exact zS1 hs ht hu h1 (Int.le_of_eq h2)
 ·rcases h2 with h2 | ⟨h2,g2⟩
  ·left
   exact fr_lt2 hs ht hu (Int.le_of_eq h1) h2
  ·right
   refine ⟨Int.le_antisymm (zT2 hs ht hu (Int.le_of_eq h1) (Int.le_of_eq h2)) ?_,zT2 hs ht hu g1 g2⟩
   have z:=zT2 (a:=u.2.1) (b:=t.2.1) (c:=s.2.1) hu ht hs (Int.le_of_eq h2.symm) (Int.le_of_eq h1.symm)
   exact z
def WPos (xs:List SpT):Prop:=∀ t∈xs,0 < t.2.2.2
theorem zI3 {p:SpT→Bool} : ∀ {xs:List SpT} {x:SpT},x∈xs.takeWhile p→p x = true∧x∈xs
 | [],_,h=>nomatch h
 | y :: ys,x,h=>by
  by_cases hy:p y = true
  ·rw [List.takeWhile_cons_of_pos hy] at h
   rcases List.mem_cons.mp h with rfl | h
   ·exact ⟨hy,List.mem_cons_self ..⟩
   ·exact ⟨(zI3 h).1,List.mem_cons_of_mem _ (zI3 h).2⟩
  ·rw [List.takeWhile_cons_of_neg hy] at h
   exact nomatch h
theorem zJ5 {p:SpT→Bool} : ∀ {xs:List SpT},xs.dropWhile p = []∨∃ y ys,xs.dropWhile p = y :: ys∧p y = false
 | []=>.inl rfl
 | y :: ys=>by
  by_cases hy:p y = true
  ·rw [List.dropWhile_cons_of_pos hy]
   exact zJ5
  ·rw [List.dropWhile_cons_of_neg hy]
   exact .inr ⟨y,ys,rfl,by simpa using hy⟩
theorem zIi:∀ (ys xs:List SpT),WPos xs→WPos ys→xs.Pairwise leS→ys.Pairwise leS→(zBg xs ys).Pairwise leS
 | [],xs,_,_,hx,_=>by rw [zBg]; exact hx
 | o :: r,xs,wx,wy,hx,hy=>by
  rw [zBg]
  have wo:0 < o.2.2.2:=wy o (List.mem_cons_self ..)
  have wr:WPos r:=fun t ht=>wy t (List.mem_cons_of_mem _ ht)
  obtain ⟨hor,hr⟩:=List.pairwise_cons.mp hy
  have sd:(xs.dropWhile fun x=>!ahB o x).Sublist xs:=List.dropWhile_sublist _
  have st:(xs.takeWhile fun x=>!ahB o x).Sublist xs:=List.takeWhile_sublist _
  have wd:WPos (xs.dropWhile fun x=>!ahB o x):=fun t ht=>wx t (sd.subset ht)
  have ih:=zIi r (xs.dropWhile fun x=>!ahB o x) wd wr (hx.sublist sd) hr
  have od:∀ y∈xs.dropWhile (fun x=>!ahB o x),leS o y:=fun y hyd=>by
   rcases zJ5 (p:=fun x=>!ahB o x) (xs:=xs) with e | ⟨z,zs,e,hz⟩
   ·rw [e] at hyd
    exact nomatch hyd
   ·have hz':ahB o z = true:=by simpa using hz
    have pw:=hx.sublist sd
    rw [e] at hyd pw
    rcases List.mem_cons.mp hyd with rfl | h
    ·exact zH9 hz'
    ·have wz:0 < z.2.2.2:=wd z (by rw [e]; exact List.mem_cons_self ..)
     have wy':0 < y.2.2.2:=wd y (by rw [e]; exact List.mem_cons_of_mem _ h)
     exact zPp wo wz wy' (zH9 hz') ((List.pairwise_cons.mp pw).1 y h)
  have om:∀ y∈zBg (xs.dropWhile fun x=>!ahB o x) r,leS o y:=fun y hym=>by
   rcases List.mem_append.mp ((zEh r _).mem_iff.mp hym) with h | h
   ·exact od y h
   ·exact hor y h
  rw [List.pairwise_append]
  refine ⟨hx.sublist st,List.pairwise_cons.mpr ⟨om,ih⟩,fun a ha b hb=>?_⟩
  obtain ⟨pa,ma⟩:=zI3 ha
  have la:leS a o:=by
   show ahB o a = false
   simpa using pa
  rcases List.mem_cons.mp hb with rfl | hb
  ·exact la
  ·have wb:0 < b.2.2.2:=by
    rcases List.mem_append.mp ((zEh r _).mem_iff.mp hb) with h | h
    ·exact wd b h
    ·exact wr b h
   exact zPp (wx a ma) wo wb la (om b hb)
theorem zGw:∀ (n:Nat) (xs:List SpT),xs.length≤2 ^ n→WPos xs→(zFp n xs).Pairwise leS
 | 0,xs,h,_=>by
  rw [zFp]
  match xs,h with
  | [],_=>exact .nil
  | [x],_=>exact List.pairwise_singleton ..
  | _ :: _ :: _,h=>rw [List.length_cons,List.length_cons] at h; omega
 | n + 1,xs,h,w=>by
  rw [zFp]
  split
  ·rename_i h2
   match xs,h2 with
   | [],_=>exact .nil
   | [x],_=>exact List.pairwise_singleton ..
   | _ :: _ :: _,h=>rw [List.length_cons,List.length_cons] at h; omega
  ·have e:2 ^ (n + 1) = 2 ^ n * 2:=Nat.pow_succ 2 n
   have w1:WPos (xs.take (xs.length / 2)):=fun t ht=>w t (List.mem_of_mem_take ht)
   have w2:WPos (xs.drop (xs.length / 2)):=fun t ht=>w t (List.mem_of_mem_drop ht)
   refine zIi _ _ (fun t ht=>w1 t ((zCn n _).mem_iff.mp ht)) (fun t ht=>w2 t ((zCn n _).mem_iff.mp ht)) (zGw n _ (by rw [List.length_take]; omega) w1) (zGw n _ (by rw [List.length_drop]; omega) w2)
theorem zRc:∀ {xs ys:List (List Int)},xs.Perm ys→xs.Pairwise (fun a b=>HT.lexLt b a = false)→ys.Pairwise (fun a b=>HT.lexLt b a = false)→xs = ys
 | [],ys,h,_,_=>(List.nil_perm.mp h).symm
 | x :: xs,[],h,_,_=>absurd (List.perm_nil.mp h) (by simp)
 | x :: xs,y :: ys,h,hx,hy=>by
  obtain ⟨hx1,hx2⟩:=List.pairwise_cons.mp hx
  obtain ⟨hy1,hy2⟩:=List.pairwise_cons.mp hy
  have e:x = y:=by
   have m1:x∈y :: ys:=h.mem_iff.mp (List.mem_cons_self ..)
   have m2:y∈x :: xs:=h.mem_iff.mpr (List.mem_cons_self ..)
   rcases List.mem_cons.mp m1 with e | m1
   ·exact e
   ·rcases List.mem_cons.mp m2 with e | m2
    ·exact e.symm
    ·exact zI1 _ _ (hy1 x m1) (hx1 y m2)
  subst e
  rw [zRc (List.perm_cons x |>.mp h) hx2 hy2]
end Sea

namespace L2
open PySem PySem.Spec PyProof.Rows
section
variable {κ:Type} [DecidableEq κ]
def valV (kvs:List (κ × V)) (k:κ):Option V:=(kvs.find? fun kv=>decide (kv.1 = k)).map (·.2)
def putK (kvs:List (κ × V)) (k:κ) (v:V):List (κ × V) :=
 if (kvs.any fun kv=>decide (kv.1 = k)) = true then kvs.map (fun kv=>if kv.1 = k then (kv.1,v) else kv) else kvs ++ [(k,v)]
theorem zNt {p:κ × V} {r:List (κ × V)} {k:κ} (e:p.1 = k):valV (p :: r) k = some p.2:=by simp [valV,List.find?_cons,e]
theorem zNs {p:κ × V} {r:List (κ × V)} {k:κ} (e:¬ p.1 = k):valV (p :: r) k = valV r k:=by simp [valV,List.find?_cons,e]
theorem zNf (k:κ):∀ kvs:List (κ × V),(kvs.any fun kv=>decide (kv.1 = k)) = (valV kvs k).isSome
 | []=>rfl
 | p :: r=>by
  rw [List.any_cons]
  by_cases e:p.1 = k
  ·simp only [zNt e,decide_eq_true e,Bool.true_or,Option.isSome_some]
  ·rw [zNs e,decide_eq_false e,Bool.false_or]; exact zNf k r
theorem zH2 (kvs:List (κ × V)) (k:κ) (v:V):(putK kvs k v).length≤kvs.length + 1:=by
 unfold putK
 split
 ·rw [List.length_map]; omega
 ·rw [List.length_append,List.length_cons,List.length_nil]; omega
theorem RelO.isSome_eq {o:Option V} {u:Option Value} (r:RelO o u):o.isSome = u.isSome:=by
 cases o with
 | none=>cases u with
  | none=>rfl
  | some _=>exact (show False from r).elim
 | some _=>cases u with
  | none=>exact (show False from r).elim
  | some _=>rfl
theorem KV.any {kvs:List (κ × V)} {vs:List (κ × Value)} (r:KV kvs vs) (k:κ):(kvs.any fun kv=>decide (kv.1 = k)) = vs.any fun kv=>decide (kv.1 = k):=by
 unfold KV at r
 induction r with
 | nil=>rfl
 | cons h t ih=>rw [List.any_cons,List.any_cons,ih,h.1]
theorem KV.repl {kvs:List (κ × V)} {vs:List (κ × Value)} (r:KV kvs vs) (k:κ) {y:V} {u:Value} (ry:RelV y u) :
  KV (kvs.map fun kv=>if kv.1 = k then (kv.1,y) else kv) (vs.map fun kv=>if kv.1 = k then (kv.1,u) else kv):=by
 unfold KV at r ⊢
 induction r with
 | nil=>exact .nil
 | @cons p q ps qs h t ih =>
  rw [List.map_cons,List.map_cons]
  refine .cons ?_ ih
  obtain ⟨h1,h2⟩:=h
  by_cases e:p.1 = k
  ·rw [if_pos e,if_pos (h1.symm.trans e)]; exact ⟨h1,ry⟩
  ·rw [if_neg e,if_neg (fun z=>e (h1.trans z))]; exact ⟨h1,h2⟩
theorem KV.put {kvs:List (κ × V)} {vs:List (κ × Value)} (r:KV kvs vs) (k:κ) {y:V} {u:Value} (ry:RelV y u):KV (putK kvs k y) (stored vs k u):=by
 unfold putK stored
 rw [r.any k]
 by_cases e:(vs.any fun kv=>decide (kv.1 = k)) = true
 ·rw [if_pos e,if_pos e]; exact r.repl k ry
 ·rw [if_neg e,if_neg e]; exact Paired.snoc r ⟨rfl,ry⟩
theorem KV.length {kvs:List (κ × V)} {vs:List (κ × Value)} (r:KV kvs vs):kvs.length = vs.length:=Paired.length r
end


theorem kV_is {P:Program} {w:World} {k:Key} {u:Value} (r:RelV (kV k) u):(zCh P w).is k u = true:=by
 cases k with
 | inl i=>obtain ⟨t,e⟩:=(show ∃ t,u = Value.int i t from r); subst e; exact zMo P w i t
 | inr x=>obtain ⟨t,e⟩:=(show ∃ t,u = Value.str x t from r); subst e; exact zMu P w x t
theorem zLi {P:Program} {w:World} : ∀ {ks:List Key} {us:List Value},Vals (ks.map kV) us→ItemsAre (zCh P w) ks us
 | [],_,r=>by rw [List.map_nil] at r; cases r; exact .nil
 | k :: ks,_,r=>by
  rw [List.map_cons] at r
  cases r with
  | cons h t=>exact .cons (kV_is h) (zLi t)

abbrev KT (H:Hp):List (List Key × V)→List (List Key × Addr × Value)→Prop:=Paired fun p q=>p.1 = q.1∧H q.2.1 = some (.tup (p.1.map kV))∧RelV p.2 q.2.2
theorem KT.val {H:Hp} {kvs:List (List Key × V)} {xs:List (List Key × Addr × Value)} (r:KT H kvs xs) (k:List Key):RelO (valV kvs k) ((atKey xs k).map (·.2)):=by
 induction r with
 | nil=>exact True.intro
 | @cons p q ps qs h t ih =>
  obtain ⟨h1,_,h2⟩:=h
  by_cases e:p.1 = k
  ·have e':q.1 = k:=h1.symm.trans e
   have b:atKey (q :: qs) k = some q.2:=by simp [atKey,List.find?_cons,e']
   rw [zNt e,b]; exact h2
  ·have e':¬ q.1 = k:=fun z=>e (h1.trans z)
   have b:atKey (q :: qs) k = atKey qs k:=by simp [atKey,List.find?_cons,e']
   rw [zNs e,b]; exact ih
theorem KT.repl {H:Hp} {kvs:List (List Key × V)} {xs:List (List Key × Addr × Value)} (r:KT H kvs xs) (k:List Key) {y:V} {u:Value} (ry:RelV y u) :
  KT H (kvs.map fun kv=>if kv.1 = k then (kv.1,y) else kv) (xs.map (putAt k u)):=by
 induction r with
 | nil=>exact .nil
 | @cons p q ps qs h t ih =>
  rw [List.map_cons,List.map_cons]
  refine .cons ?_ ih
  obtain ⟨h1,h2,h3⟩:=h
  unfold putAt
  by_cases e:p.1 = k
  ·rw [if_pos e,if_pos (h1.symm.trans e)]; exact ⟨h1,h2,ry⟩
  ·rw [if_neg e,if_neg (fun z=>e (h1.trans z))]; exact ⟨h1,h2,h3⟩
theorem KT.put {H:Hp} {kvs:List (List Key × V)} {xs:List (List Key × Addr × Value)} (r:KT H kvs xs) (k:List Key) {b:Addr} {y:V} {u:Value} (hb:H b = some (.tup (k.map kV))) (ry:RelV y u) :
  KT H (putK kvs k y) (storedH xs k b u):=by
 have e:(kvs.any fun kv=>decide (kv.1 = k)) = (atKey xs k).isSome:=by
  rw [zNf,(r.val k).isSome_eq,Option.isSome_map]
 unfold putK storedH
 rw [e]
 by_cases q:(atKey xs k).isSome = true
 ·rw [if_pos q,if_pos q]; exact r.repl k ry
 ·rw [if_neg q,if_neg q]; exact Paired.snoc r ⟨rfl,hb,ry⟩
theorem KT.keeps {H H':Hp} {kvs:List (List Key × V)} {xs:List (List Key × Addr × Value)} (r:KT H kvs xs) (ht:∀ b ys,H b = some (.tup ys)→H' b = some (.tup ys)):KT H' kvs xs :=
 Paired.mapP r fun _ _ z=>⟨z.1,ht _ _ z.2.1,z.2.2⟩

section
variable {P:Program} {w:World} {H:Hp} {h:Heap} {a:Addr}
theorem rd_of {u:HO} (ok:HOk P w H h) (e:Rd H a u):zDh P w H h a u:=e.ok ok
theorem dk_rd {kvs:List (Key × V)} (ok:HOk P w H h) (e:Rd H a (.dK kvs)):kvs.length≤sizeLine∧(a == sysModules) = false∧∃ vs,KV kvs vs∧h.DictOf (zCh P w) a vs :=
 show zDh P w H h a (.dK kvs) from rd_of ok e
theorem dk_of {kvs:List (Key × V)} (ok:HOk P w H h) (e:H a = some (.dK kvs)):kvs.length≤sizeLine∧(a == sysModules) = false∧∃ vs,KV kvs vs∧h.DictOf (zCh P w) a vs:=dk_rd ok (.inl e)
theorem zTg {ks:List Key} (ok:HOk P w H h) (e:H a = some (.tup (ks.map kV))):(tupleKind (zCh P w)).is h ks a:=by
 obtain ⟨_,its,r,o,h1,h2,n,h3⟩:=(show zDh P w H h a (.tup (ks.map kV)) from ok a _ e)
 exact ⟨o,its.toArray,n,h1,h2,h3,by simpa using zLi r⟩
theorem dt_rd {kvs:List (List Key × V)} (ok:HOk P w H h) (e:Rd H a (.dT kvs)):kvs.length≤sizeLine∧(a == sysModules) = false ∧
  ∃ xs,KT H kvs xs∧h.DictOfH (tupleKind (zCh P w)) a xs:=by
 obtain ⟨z,y,xs,r,o,es,ep,h1,h2,h3,h4,h5⟩:=(show zDh P w H h a (.dT kvs) from rd_of ok e)
 refine ⟨z,y,xs,r,o,es,ep,h1,h2,h3,h4,fun x hx=>?_,h5⟩
 have all:∀ {l:List (List Key × V)} {m:List (List Key × Addr × Value)},KT H l m→∀ x∈m,(tupleKind (zCh P w)).is h x.1 x.2.1:=by
  intro l m q
  induction q with
  | nil=>intro x hx; exact nomatch hx
  | @cons p q ps qs hq t ih =>
   intro x hx
   rcases List.mem_cons.mp hx with e | hx
   ·subst e
    exact zTg ok (by rw [← hq.1]; exact hq.2.1)
   ·exact ih x hx
 exact all r x hx
theorem dt_of {kvs:List (List Key × V)} (ok:HOk P w H h) (e:H a = some (.dT kvs)):kvs.length≤sizeLine∧(a == sysModules) = false ∧
  ∃ xs,KT H kvs xs∧h.DictOfH (tupleKind (zCh P w)) a xs:=dt_rd ok (.inl e)
end

def DPut (H:Hp) (a:Addr) (y v:V) (H':Hp):Prop :=
 (∃ kvs k,H a = some (.dK kvs)∧y = kV k∧kvs.length < sizeLine∧H' = upd H a (.dK (putK kvs k v))) ∨
 ∃ kvs k b,H a = some (.dT kvs)∧y = .ref b∧H b = some (.tup (k.map kV))∧kvs.length < sizeLine∧H' = upd H a (.dT (putK kvs k v))
theorem DPut.t {H:Hp} {a b:Addr} {kvs:List (List Key × V)} {k:List Key} {v:V} (e:H a = some (.dT kvs)) (eb:H b = some (.tup (k.map kV))) (hl:kvs.length < sizeLine) :
  DPut H a (.ref b) v (upd H a (.dT (putK kvs k v))):=.inr ⟨kvs,k,b,e,rfl,eb,hl,rfl⟩


section
variable {X:Cx} {pins:List (Addr × Obj)} {σ:St} {H:Hp} {s:Shared} {a:Addr} {y v:V} {u r:Value} {o:Option V} {A:Around} {E:Value→Shared→Prop}

theorem Inv.big (I:Inv X pins σ H s):sysModules < s.heap.objs.size:=by
 have h:mainGlobals < s.heap.objs.size:=(I.mod.glob.keeps I.bk).lt
 exact Nat.lt_trans (by decide) h

theorem zQh {h':Heap} {t':Nat} {ob:HO} (I:Inv X pins σ H s) (mu:Mut (H a)) (hs:Heap.SameBut a s.heap h') (he:∃ q,h'.get? a = some q) (new:zDh X.prog X.w (upd H a ob) h' a ob) :
  Inv X pins σ (upd H a ob) { s with heap:=h',toks:=t' } :=
 I.write (x:=a) (e:=a) mu (.inl rfl) (fun b q hb z=>(hs.2 b hb).trans z) he new
theorem dk_new {P:Program} {w:World} {H':Hp} {h':Heap} {kvs:List (Key × V)} {vs:List (Key × Value)} (z:kvs.length≤sizeLine) (hd:(a == sysModules) = false) (rel:KV kvs vs) (dd:h'.DictOf (zCh P w) a vs) :
  zDh P w H' h' a (.dK kvs):=⟨z,hd,vs,rel,dd⟩
theorem zRo {H':Hp} {Q:Unit→Shared→Prop} (hu:A.units + 1 < cLine) (I:Inv X pins σ H s) (g:DPut H a y v H') (ry:RelV y u) (rv:RelV v r) (h:∀ s',Inv X pins σ H' s'→Q () s') :
  wpAny (model X.prog X.w) A (setItem (.ref a) u r) Q E s:=by
 rcases g with ⟨kvs,k,e,ey,l,eH⟩ | ⟨kvs,k,b,e,ey,eb,l,eH⟩
 ·subst ey eH
  obtain ⟨z,hd,vs,rel,dd⟩:=dk_of I.hok e
  have hz:vs.length≤sizeLine:=by rw [← rel.length]; exact z
  have hl:(putK kvs k v).length≤sizeLine:=by have:=zH2 kvs k v; omega
  refine wpAny_setItem_pairs (hsz:=hz) (kV_is ry) dd fun h' dd' hs=>h _ ?_
  have he:∃ q,h'.get? a = some q:=let ⟨q,_,_,hq,_⟩:=dd'; ⟨q,hq⟩
  exact zQh I (by rw [e]; exact True.intro) hs he (dk_new hl hd (rel.put k rv) dd')
 ·subst ey eH
  cases (show u = Value.ref b from ry)
  obtain ⟨z,hd,xs,rel,dd⟩:=dt_of I.hok e
  have hz:xs.length≤sizeLine:=by rw [← Paired.length rel]; exact z
  have hl:(putK kvs k v).length≤sizeLine:=by have:=zH2 kvs k v; omega
  refine wpAny_setItem_heap (hsz:=hz) (tupleKind_room_in1 hu) (zTg I.hok eb) dd fun h' dd' hs=>h _ ?_
  obtain ⟨q,es,ep,hq,h2,h3,h4,_,h5⟩:=dd'
  refine zQh I (by rw [e]; exact True.intro) hs ⟨q,hq⟩ ⟨hl,hd,_,(rel.put k eb rv).keeps fun c ys ec=>?_,q,es,ep,hq,h2,h3,h4,h5⟩
  rw [zAs (zI4 ec e (fun z=>nomatch z))]
  exact ec
end

section
variable {X:Cx} {pins:List (Addr × Obj)} {σ:St} {H:Hp} {s:Shared} {a:Addr} {kvs:List (Key × V)} {k:Key} {u:Value} {A:Around} {E:Value→Shared→Prop}
end


def sDPut (td ty tv:TE):TS:=fun D σ H=>tv σ H fun v H1=>td σ H1 fun x H2=>ty σ H2 fun y H3=>∃ a H4,x = .ref a∧DPut H3 a y v H4∧D.nx σ H4
section
variable {X:Cx} {o i e value:Expr} {pos pos' tpos:Pos} {td ty tv:TE}
theorem zRb (hu:X.A.units + 1 < cLine) (ho:PE X o td) (hi:PE X i ty) (hv:PE X value tv) (hs:swapsWith value (some (.Subscript o i pos')) pos.line X.env = pure false) :
  PS X (.Assign [.Subscript o i pos'] value pos) (sDPut td ty tv):=by
 intro pins s σ H D I h
 refine wpAny_Assign_Subscript (thn (hv pins s σ H _ I h) fun r s1 ⟨v,H1,I1,rv,q1⟩=>thn (ho pins s1 σ H1 _ I1 q1) fun u s2 ⟨x,H2,I2,rx,q2⟩=>thn (hi pins s2 σ H2 _ I2 q2) fun iv s3 ⟨y,H3,I3,ry,a,H4,ex,g,q3⟩=>?_) hs
 subst ex
 obtain rfl:u = Value.ref a:=rx
 exact zRo hu I3 g ry rv fun s4 I4=>⟨σ,H4,I4,q3⟩
end


theorem zSg {P:Program} {w:World} {H:Hp} (h:Heap) (hb:sysModules < h.objs.size):zDh P w H (h.push { cls:=.type "dict", data:=.dict #[] }) h.objs.size (.dT []) :=
 ⟨Nat.zero_le _,beq_eq_false_iff_ne.mpr (Ne.symm (Nat.ne_of_lt hb)),[],.nil,_,#[],0,Heap.get?_push_size _ rfl,⟨rfl,rfl,rfl⟩,rfl,rfl,List.nodup_nil⟩
def tDNewT:TE:=fun _ H Q=>∀ p,H p = none→Q (.ref p) (upd H p (.dT []))
section
variable {X:Cx} {pos:Pos}
theorem zNc:PE X (.Dict [] [] pos) tDNewT:=fun pins s σ H Q I h =>
 wpAny_Dict_empty ⟨.ref s.heap.objs.size,_,I.laid (a:=s.heap.objs.size) (o:=.dT []) (t':=s.toks) (fun _ _ q=>Heap.get?_push_of_some _ q) (Nat.le_refl _) (zSg s.heap I.big),rfl,h _ (I.hok.fresh (Nat.le_refl _))⟩
end

end L2

namespace L2
open PySem PySem.Spec PyProof.Rows
def RawD (h:Heap) (a:Addr) (rows:Array DictEntry) (age:Nat):Prop:=∃ ob,h.get? a = some ob∧ob.ExactDict∧ob.data = .dict rows age
theorem RawD.at {h h':Heap} {a:Addr} {rows:Array DictEntry} {age:Nat} (x:RawD h a rows age) (e:∀ ob,h.get? a = some ob→h'.get? a = some ob):RawD h' a rows age:=let ⟨ob,g,r⟩:=x; ⟨ob,e _ g,r⟩
theorem RawD.typeIs {z:Shared} {a:Addr} {rows:Array DictEntry} {age:Nat} (x:RawD z.heap a rows age):z.TypeIs (.ref a) "dict" := let ⟨ob,g,c,_⟩:=x; ⟨ob,g,c.1⟩
section
variable {prog:Program} {w:World} {A:Around} {E:Value→Shared→Prop} {z:Shared} {it a:Addr} {rows:Array DictEntry} {age k:Nat}
theorem zSo {R:Value→Shared→Prop} (hs:(a == sysModules) = false) (x:RawD z.heap a rows age) (hR:R (.ref z.heap.objs.size) { z with heap:=z.heap.push { cls:=.type "dict_keyiterator", data:=.fields #[.ref a,.int 0 0,.int rows.size 0,.int age 0] } }) :
  wpAny (model prog w) A (pyIter (.ref a)) R E z:=by
 have ty:=x.typeIs
 obtain ⟨ob,g,_,dat⟩:=x
 refine wpAny_pyIter_slot ty F.slot_dict_iter (wpAny_call_entry F.slot_dict_iter ty F.entry_dict_iter ?walk (F.args_dict_iter_1 _))
 case walk =>
  unfold Builtin.«dict.__iter__» Builtin.Dict.dictSlotNone
  refine wpAny_bind (wpAny_bind (wpAny_notOrdered_dict ty (show wpAny _ _ (pure (Value.ref a)) _ _ z from wpAny_pure ?_)))
  show wpAny _ _ (Builtin.Dict.showsAll a >>= _) _ _ z
  unfold Builtin.Dict.showsAll
  rw [if_neg (by rw [hs]; decide)]
  refine wpAny_bind (wpAny_pure (wpAny_bind (wpAny_dictEntries g dat (wpAny_bind (wpAny_dictEpoch g dat ?_)))))
  refine wpAny_bind (wpAny_newObj_type (wpAny_pure ⟨_,rfl, "dict_keyiterator", _,⟨_,Heap.get?_push_size _ rfl,rfl⟩,F.slot_dict_keyiterator_next.lookup,?_⟩))
  simpa [rawInt] using hR
theorem zR6 {R:Option Value→Shared→Prop} (ki:z.heap.IsKeyIter it a k rows.size age) (x:RawD z.heap a rows age) (hk:k < rows.size)
  (hR:∀ h',h'.IsKeyIter it a (k + 1) rows.size age→Heap.SameBut it z.heap h'→R (some rows[k].key) { z with heap:=h' }):wpAny (model prog w) A (pyNext (.ref it)) R E z:=by
 have ty:=ki.typeIs
 obtain ⟨oi,gi,ci,di⟩:=id ki
 obtain ⟨ob,g,_,dat⟩:=x
 unfold pyNext
 refine wpAny_bind (wpAny_attempt (wpAny_callSpecial?_slot (name:=Str.ofString "__next__") ty F.slot_dict_keyiterator_next (wpAny_call_entry F.slot_dict_keyiterator_next ty F.entry_dict_keyiterator_next ?walk (F.args_dict_keyiterator_next_1 _))))
 case walk =>
  refine wpAny_bind (wpAny_pure (wpAny_bind (wpAny_bind ?_)))
  first | refine wpAny_bind (wpAny_typeNameOfWhole_keyiter ty (wpAny_pure (wpAny_bind (wpAny_fieldsOf gi di ?_)))) | refine wpAny_bind (wpAny_typeNameOf_keyiter ty (wpAny_pure (wpAny_bind (wpAny_fieldsOf gi di ?_))))
  simp only [show Builtin.Dict_items.ownsTuple "dict_keyiterator" = false by decide,Bool.false_eq_true,if_false]
  show wpAny _ _ (if (Value.ref a == Value.none) = true then _ else _) _ _ z
  rw [if_neg (show ¬ ((Value.ref a == Value.none) = true) from Bool.false_ne_true)]
  refine wpAny_bind (wpAny_pure (wpAny_bind (wpAny_dictEntries g dat ?_)))
  rw [if_neg (by simp)]
  refine wpAny_bind (wpAny_pure (wpAny_bind (wpAny_dictEpoch g dat ?_)))
  rw [if_neg (by simp)]
  refine wpAny_pure ?_
  simp only [show ¬ ((k:Int) < 0) from by omega,if_false,Int.toNat_natCast,Array.getElem?_eq_getElem hk]
  refine wpAny_bind ?_
  first | refine wpAny_bind (wpAny_typeNameOfWhole_keyiter ty (wpAny_pure (wpAny_bind (wpAny_isOneOf_keyiter ty ?_)))) | refine wpAny_bind (wpAny_typeNameOf_keyiter ty (wpAny_pure (wpAny_bind (wpAny_isOneOf_keyiter ty ?_))))
  show wpAny _ _ (setField (.ref it) 1 (rawInt ((k:Int) + 1)) >>= _) _ _ z
  refine wpAny_bind (wpAny_setField gi di (by simp) ?_)
  have ki':(z.heap.update it (Obj.mapFields (·.setIfInBounds 1 (rawInt ((k:Int) + 1))))).IsKeyIter it a (k + 1) rows.size age :=
   ⟨_,Heap.get?_update_self _ gi (Obj.isFreed_of_fields (Obj.data_mapFields di _)),(Obj.cls_mapFields ..).trans ci,by rw [Obj.data_mapFields di]; simp [rawInt]⟩
  refine wpAny_bind (wpAny_holding (wpAny_bind (wpAny_isOneOf_keyiter (s:={ z with heap:=z.heap.update it (Obj.mapFields (·.setIfInBounds 1 (rawInt ((k:Int) + 1)))) }) ki'.typeIs ?_)))
  show wpAny _ _ (pure rows[k].key) _ _ _
  exact wpAny_pure (wpAny_pure ⟨_,rfl,wpAny_pure (hR _ ki' (Heap.SameBut.update ..))⟩)
theorem zUh {R:Option Value→Shared→Prop} (hh:A.handled = none) (ki:z.heap.IsKeyIter it a k rows.size age) (x:RawD z.heap a rows age) (hk:rows.size≤k)
  (hR:∀ h',Heap.ExtBut it z.heap h'→R none { z with heap:=h' }):wpAny (model prog w) A (pyNext (.ref it)) R E z:=by
 have ty:=ki.typeIs
 obtain ⟨oi,gi,ci,di⟩:=id ki
 obtain ⟨ob,g,_,dat⟩:=x
 unfold pyNext
 refine wpAny_bind (wpAny_attempt (wpAny_callSpecial?_slot (name:=Str.ofString "__next__") ty F.slot_dict_keyiterator_next (wpAny_call_entry F.slot_dict_keyiterator_next ty F.entry_dict_keyiterator_next ?walk (F.args_dict_keyiterator_next_1 _))))
 case walk =>
  refine wpAny_bind (wpAny_pure (wpAny_bind (wpAny_bind ?_)))
  first | refine wpAny_bind (wpAny_typeNameOfWhole_keyiter ty (wpAny_pure (wpAny_bind (wpAny_fieldsOf gi di ?_)))) | refine wpAny_bind (wpAny_typeNameOf_keyiter ty (wpAny_pure (wpAny_bind (wpAny_fieldsOf gi di ?_))))
  simp only [show Builtin.Dict_items.ownsTuple "dict_keyiterator" = false by decide,Bool.false_eq_true,if_false]
  show wpAny _ _ (if (Value.ref a == Value.none) = true then _ else _) _ _ z
  rw [if_neg (show ¬ ((Value.ref a == Value.none) = true) from Bool.false_ne_true)]
  refine wpAny_bind (wpAny_pure (wpAny_bind (wpAny_dictEntries g dat ?_)))
  rw [if_neg (by simp)]
  refine wpAny_bind (wpAny_pure (wpAny_bind (wpAny_dictEpoch g dat ?_)))
  rw [if_neg (by simp)]
  refine wpAny_pure ?_
  simp only [show ¬ ((k:Int) < 0) from by omega,if_false,Int.toNat_natCast,Array.getElem?_eq_none hk]
  refine wpAny_bind ?_
  first | refine wpAny_bind (wpAny_typeNameOfWhole_keyiter ty (wpAny_pure ?_)) | refine wpAny_bind (wpAny_typeNameOf_keyiter ty (wpAny_pure ?_))
  show wpAny _ _ (setField (.ref it) 0 .none >>= _) _ _ z
  refine wpAny_bind (wpAny_setField gi di (by simp) (show wpAny _ _ (newExc (.type "StopIteration") [] >>= _) _ _ _ from wpAny_bind ?_))
  simp only [newExc,newTuple]
  refine wpAny_bind (wpAny_newObj_type (wpAny_bind (m:=firstArgMember _ _) (wpAny_of_eq (a:=Value.none) (by first | rfl | (simp only [firstArgMember]; rfl)) (wpAny_newObj_type ?_ (by size_fits)))) (by size_fits))
  simp only [raiseNew]
  refine wpAny_bind (wpAny_handled ?_)
  rw [show A.in1.handled = none from hh]
  refine wpAny_bind (wpAny_pure (wpAny_throw ?_))
  refine wpAny_bind (wpAny_isInstance (T := "StopIteration") (b:=true) ⟨_,Heap.get?_push_size _ rfl,rfl⟩ isSubtype_stop ?_)
  exact wpAny_pure (hR _ (((Heap.SameBut.update ..).extBut.push _).push _))
theorem zPk (hh:A.handled = none) (hne:a≠it):Walks prog w A it [it,a] [it] rows.size (fun i v=>∃ h:i < rows.size,v = rows[i].key) (fun i h=>h.IsKeyIter it a i rows.size age∧RawD h a rows age) where
 sub:=fun b hb=>by simp at hb; simp [hb]
 frame:=fun _ _ _ st hk=>⟨st.1.at fun o e=>hk it (by simp) o e,st.2.at fun o e=>hk a (by simp) o e⟩
 item:=fun i s Q E hi st hQ=>zR6 st.1 st.2 hi fun h' ki' hs' =>
  hQ _ h' s.toks ⟨hi,rfl⟩ ⟨ki',st.2.at fun o e=>hs'.extBut a o hne e⟩ fun b o hb e=>hs'.extBut b o (fun h=>hb (by simp [h])) e
 done:=fun s Q E st hQ=>zUh hh st.1 st.2 (Nat.le_refl _) fun h' he'=>hQ h' s.toks fun b o hb e=>he' b o (fun h=>hb (by simp [h])) e
 self:=fun _ _ _ _ st hQ=>wpAny_pyIter_keyiter st.1 hQ
theorem zTr (hs:(a == sysModules) = false):PySem.W.KdlSrc prog w "dict" a a rows.size (fun i v=>∃ h:i < rows.size,v = rows[i].key) (fun h=>RawD h a rows age) where
 type:=fun _ x=>x.typeIs
 there:=fun _ x=>let ⟨_,g,_⟩:=x; ⟨Heap.lt_size g,Heap.lt_size g⟩
 keep:=fun _ _ x hk=>x.at fun o e=>hk a (.inl rfl) o e
 notList:=by decide
 notTuple:=by decide
 hint:=fun _ _ _ _ x hq=>PySem.W.kdl_hint_dict x.typeIs hq
 iter:=fun _ s hh x=>⟨_,_,(fun _ _ hq=>zSo hs x hq),zPk hh (let ⟨_,g,_⟩:=x; Nat.ne_of_lt (Heap.lt_size g)),⟨⟨_,Heap.get?_push_size _ rfl,rfl,rfl⟩,x.at fun o e=>Heap.get?_push_of_some _ e⟩⟩
end
section
variable {X:Cx}
theorem zG9 (hc:X.calm = true):zI9 X (.type "list") (fun xs H Q=>∃ (d:Addr) (kvs:List (List Key × V)),xs = [.ref d]∧H d = some (.dT kvs) ∧
  ∀ (p:Addr) (ts:List (Addr × List Key)),H p = none→ts.map (·.2) = kvs.map (·.1)→(∀ t∈ts,H t.1 = some (.tup (t.2.map kV)))→Q (.ref p) (upd H p (.lst ((ts.map (·.1)).map V.ref)))):=by
 intro pins s σ H xs us Q I r h
 obtain ⟨d,kvs,rfl,hd,q⟩:=h
 obtain ⟨u,rfl,ru⟩:=Vals.one r
 cases ru
 obtain ⟨hz,hsm,ys,rel,ob,es,age,g,ex,dat,hes,hjunk⟩:=dt_of I.hok hd
 have hsz:es.size = ys.length:=size_of_entries hes
 have hlen:kvs.length = ys.length:=Paired.length rel
 refine PySem.W.kdl_call (zTr (rows:=es) (age:=age) hsm) (show X.A.handled = none from I.ok.hd hc) ⟨ob,g,ex,dat⟩ (by rw [hsz,← hlen]; exact hz) fun h' tk acc c keep at' its=>?_
 have eqs:acc.toList = ((ys.map fun y=>(y.2.1,y.1)).map (·.1)).map Value.ref:=by
  refine List.ext_getElem? fun j=>?_
  by_cases hj:j < ys.length
  ·have ja:j < acc.size:=by rw [its.1,hsz]; exact hj
   obtain ⟨hj',e⟩:=its.2 j acc[j] (by simp [ja])
   have ek:=entry_at hes j
   rw [Array.getElem?_eq_getElem hj',List.getElem?_eq_getElem hj,Option.map_some] at ek
   have ev:es[j].key = Value.ref ys[j].2.1:=by rw [Option.some.inj ek]; rfl
   rw [Array.getElem?_toList,Array.getElem?_eq_getElem ja,e,ev,List.getElem?_map,List.getElem?_map,List.getElem?_map,List.getElem?_eq_getElem hj]
   rfl
  ·rw [List.getElem?_eq_none (by rw [Array.length_toList,its.1,hsz]; omega),List.getElem?_eq_none (by simp; omega)]
 have props:(ys.map fun y=>(y.2.1,y.1)).map (·.2) = kvs.map (·.1)∧∀ t∈ys.map (fun y=>(y.2.1,y.1)),H t.1 = some (.tup (t.2.map kV)):=by
  clear hes hsz hlen q eqs hd hz hjunk
  induction rel with
  | nil=>exact ⟨rfl,fun t ht=>nomatch ht⟩
  | @cons p y ps zs hp t ih =>
   refine ⟨by rw [List.map_cons,List.map_cons,List.map_cons,ih.1,hp.1],fun t' ht'=>?_⟩
   rcases List.mem_cons.mp ht' with e | ht'
   ·subst e
    show H y.2.1 = some (.tup (y.1.map kV))
    rw [← hp.1]
    exact hp.2.1
   ·exact ih.2 t' ht'
 have fr:H s.heap.objs.size = none:=I.hok.fresh (Nat.le_refl _)
 refine ⟨.ref s.heap.objs.size,_,I.laid (t':=tk) (a:=s.heap.objs.size) (o:=.lst (((ys.map fun y=>(y.2.1,y.1)).map (·.1)).map V.ref)) keep (Nat.le_refl _) ?_,rfl,q _ _ fr props.1 props.2⟩
 refine ⟨by rw [List.length_map,List.length_map,List.length_map,← hlen]; exact hz,_,c,zD7 _,?_⟩
 rw [← eqs,Array.toArray_toList]
 exact at'
end
end L2

namespace Sea
open PySem L2
abbrev Sd:=Addr × Int × Int × Int
abbrev zAo (ss:List Sd):List V:=(ss.map (·.1)).map V.ref
def SdOk (H:Hp) (ss:List Sd):Prop:=∀ t∈ss,H t.1 = some (.tup [.int t.2.1,.int t.2.2.1,.int t.2.2.2])∧(t.2.1≠0∨t.2.2.1≠0)∧t.2.1.natAbs≤10 ^ 9∧t.2.2.1.natAbs≤10 ^ 9∧t.2.2.2.natAbs≤10 ^ 13
theorem SdOk.same {H H':Hp} {ss:List Sd} (h:SdOk H ss) (s:Same H H'):SdOk H' ss:=fun t ht=>⟨s _ _ (h t ht).1,(h t ht).2⟩
theorem zAk (ss:List Sd):(zAo ss).length = ss.length:=by simp [zAo]
theorem zBt {ss:List Sd} {i:Nat} {v:V} (h:(zAo ss)[i]? = some v):∃ t,ss[i]? = some t∧v = .ref t.1∧i < ss.length:=by
 rw [List.getElem?_map,List.getElem?_map] at h
 cases e:ss[i]? with
 | none=>rw [e] at h; cases h
 | some t=>rw [e] at h; exact ⟨t,rfl,(Option.some.inj h).symm,(List.getElem?_eq_some_iff.mp e).1⟩
theorem zBf {ss:List Sd} {i:Nat} {k:Int} (e:k = i) (h:i < ss.length):∃ t,t∈ss∧ss[i]? = some t∧atI (zAo ss) k = some (.ref t.1):=by
 refine ⟨ss[i],List.getElem_mem h,List.getElem?_eq_getElem h,?_⟩
 rw [e]
 exact zDm (by rw [List.getElem?_map,List.getElem?_map,List.getElem?_eq_getElem h] <;> rfl)
def wayB (ss:List Sd) (x y:Int):Bool:=ss.all fun t=>decide (t.2.1 * x + t.2.2.1 * y≤0)
def WK (ss:List Sd) (n:Nat) (k:List Int):Prop:=∃ j t,j < n∧ss[j]? = some t∧((k = lowL [-t.2.2.1,t.2.1]∧wayB ss (-t.2.2.1) t.2.1 = true)∨(k = lowL [t.2.2.1,-t.2.1]∧wayB ss t.2.2.1 (-t.2.1) = true))
theorem zUj (ss:List Sd) (k:List Int):¬ WK ss 0 k:=fun ⟨_,_,h,_⟩=>absurd h (Nat.not_lt_zero _)
theorem zT4 {ss:List Sd} {n:Nat} {t:Sd} (h:ss[n]? = some t) (k:List Int):WK ss (n + 1) k↔WK ss n k∨(k = lowL [-t.2.2.1,t.2.1]∧wayB ss (-t.2.2.1) t.2.1 = true)∨(k = lowL [t.2.2.1,-t.2.1]∧wayB ss t.2.2.1 (-t.2.1) = true):=by
 constructor
 ·rintro ⟨j,u,hj,hu,r⟩
  by_cases e:j = n
  ·subst e
   rw [h] at hu
   cases hu
   exact .inr r
  ·exact .inl ⟨j,u,by omega,hu,r⟩
 ·rintro (⟨j,u,hj,hu,r⟩ | r)
  ·exact ⟨j,u,by omega,hu,r⟩
  ·exact ⟨n,t,by omega,h,r⟩
theorem zRz {ss:List Sd} {x y g:Int} (hg:0 < g):wayB ss (x * g) (y * g) = wayB ss x y:=by
 unfold wayB
 congr 1
 funext t
 refine decide_eq_decide.mpr ?_
 have e:t.2.1 * (x * g) + t.2.2.1 * (y * g) = (t.2.1 * x + t.2.2.1 * y) * g:=by rw [Int.add_mul,Int.mul_assoc,Int.mul_assoc]
 rw [e]
 constructor
 ·intro h
  by_cases c:t.2.1 * x + t.2.2.1 * y≤0
  ·exact c
  ·have:=Int.mul_pos (show 0 < t.2.1 * x + t.2.2.1 * y by omega) hg
   omega
 ·intro h
  have:=Int.mul_nonneg (show 0≤-(t.2.1 * x + t.2.2.1 * y) by omega) (Int.le_of_lt hg)
  rw [Int.neg_mul] at this
  omega
theorem gcd2 {x y:Int} (n:x≠0∨y≠0) (m0:x.natAbs≤10 ^ 9) (m1:y.natAbs≤10 ^ 9):0 < gcdL [x,y]∧(gcdL [x,y]:Int) < 10 ^ 600:=by
 have gp:0 < gcdL [x,y]:=by
  rcases n with n | n
  ·exact zB4 (n:=x) (by simp) n
  ·exact zB4 (n:=y) (by simp) n
 have z:(gcdL [x,y]:Int)≤10 ^ 9:=by
  rcases n with n | n
  ·have:=zIj (ns:=[x,y]) (n:=x) (by simp) n
   omega
  ·have:=zIj (ns:=[x,y]) (n:=y) (by simp) n
   omega
 exact ⟨gp,Int.lt_of_le_of_lt z (by decide +kernel)⟩
theorem zMm {ss:List Sd} {x y:Int} (gp:0 < gcdL [x,y]):wayB ss (x / (gcdL [x,y]:Int)) (y / (gcdL [x,y]:Int)) = wayB ss x y:=by
 have gI:(0:Int) < (gcdL [x,y]:Int):=by omega
 have e1:=zA9 (ns:=[x,y]) (n:=x) (by simp)
 have e2:=zA9 (ns:=[x,y]) (n:=y) (by simp)
 have z:=zRz (ss:=ss) (x:=x / (gcdL [x,y]:Int)) (y:=y / (gcdL [x,y]:Int)) gI
 rw [e1,e2] at z
 exact z.symm
def keyI (ns:List Int):List Key:=ns.map Sum.inl
theorem zIs (ns:List Int):(keyI ns).map kV = ns.map V.int:=by
 unfold keyI
 rw [List.map_map]
 rfl
theorem zSk {a b:List Int} (h:keyI a = keyI b):a = b:=by
 have z:=congrArg (List.map kV) h
 rw [zIs,zIs] at z
 exact zGx z
structure TabK (kvs:List (List Key × V)) (ks:List (List Int)):Prop where
 keys:kvs.map (·.1) = ks.map keyI
 nodup:ks.Nodup
theorem TabK.nil:TabK [] []:=⟨rfl,List.nodup_nil⟩
theorem TabK.put {kvs:List (List Key × V)} {ks:List (List Int)} (h:TabK kvs ks) (k:List Int) (v:V):∃ ks',TabK (putK kvs (keyI k) v) ks'∧(∀ x,x∈ks'↔x∈ks∨x = k)∧ks'.length≤ks.length + 1:=by
 have hm:∀ kv∈kvs,∃ x∈ks,kv.1 = keyI x:=fun kv hkv=>by
  have z:kv.1∈ks.map keyI:=by rw [← h.keys]; exact List.mem_map_of_mem hkv
  obtain ⟨x,hx,e⟩:=List.mem_map.mp z
  exact ⟨x,hx,e.symm⟩
 unfold putK
 by_cases c:(kvs.any fun kv=>decide (kv.1 = keyI k)) = true
 ·rw [if_pos c]
  obtain ⟨kv,hkv,e⟩:=List.any_eq_true.mp c
  obtain ⟨x,hx,ex⟩:=hm kv hkv
  have exk:x = k:=zSk (ex.symm.trans (of_decide_eq_true e))
  refine ⟨ks,⟨?_,h.nodup⟩,fun y=>⟨.inl,fun z=>z.elim id fun z=>by rw [z,← exk]; exact hx⟩,Nat.le_succ _⟩
  rw [List.map_map,← h.keys]
  refine List.map_congr_left fun a _=>?_
  show (if a.1 = keyI k then (a.1,v) else a).1 = a.1
  split <;> rfl
 ·rw [if_neg c]
  have nk:k ∉ ks:=fun hk=>c (by
   have z:keyI k∈kvs.map (·.1):=by rw [h.keys]; exact List.mem_map_of_mem hk
   obtain ⟨kv,hkv,e⟩:=List.mem_map.mp z
   exact List.any_eq_true.mpr ⟨kv,hkv,decide_eq_true e⟩)
  refine ⟨ks ++ [k],⟨by rw [List.map_append,List.map_append,h.keys]; rfl,?_⟩,fun y=>by rw [List.mem_append,List.mem_singleton],by rw [List.length_append]; exact Nat.le_refl _⟩
  rw [List.nodup_append]
  refine ⟨h.nodup,by simp,fun a ha b hb=>?_⟩
  rw [List.mem_singleton] at hb
  intro e
  exact nk (hb ▸ e ▸ ha)
theorem TabK.len {kvs:List (List Key × V)} {ks:List (List Int)} (h:TabK kvs ks):kvs.length = ks.length:=by
 have z:=congrArg List.length h.keys
 rwa [List.length_map,List.length_map] at z
theorem TabK.refs {H:Hp} {kvs:List (List Key × V)} {ks:List (List Int)} {ts:List (Addr × List Key)} (h:TabK kvs ks) (e:ts.map (·.2) = kvs.map (·.1)) (ht:∀ t∈ts,H t.1 = some (.tup (t.2.map kV))) :
  ∃ us:List (Addr × List Int),us.map (·.1) = ts.map (·.1)∧us.map (·.2) = ks∧∀ u∈us,H u.1 = some (.tup (u.2.map V.int)):=by
 rw [h.keys] at e
 clear h
 induction ts generalizing ks with
 | nil =>
  cases ks with
  | nil=>exact ⟨[],rfl,rfl,fun u hu=>nomatch hu⟩
  | cons k ks=>exact absurd e (by simp)
 | cons t ts ih =>
  cases ks with
  | nil=>exact absurd e (by simp)
  | cons k ks =>
   rw [List.map_cons,List.map_cons] at e
   injection e with e1 e2
   obtain ⟨us,h1,h2,h3⟩:=ih e2 fun t' ht'=>ht t' (List.mem_cons_of_mem _ ht')
   refine ⟨(t.1,k) :: us,by rw [List.map_cons,List.map_cons,h1],by rw [List.map_cons,h2],fun u hu=>?_⟩
   rcases List.mem_cons.mp hu with rfl | hu
   ·have z:=ht t (List.mem_cons_self ..)
    rw [e1,zIs] at z
    exact z
   ·exact h3 u hu
structure zQe (H:Hp) (l:Addr) (ss:List Sd) (us:List (Addr × List Int)):Prop where
 at':H l = some (.lst ((us.map (·.1)).map V.ref))
 all:∀ u∈us,H u.1 = some (.tup (u.2.map V.int))
 rises:(us.map (·.2)).Pairwise (fun a b=>HT.lexLt b a = false)
 nodup:(us.map (·.2)).Nodup
 mem:∀ k,k∈us.map (·.2)↔WK ss ss.length k
 few:us.length≤80
structure SdSt (H0:Hp) (D:Addr) (ss:List Sd) (H:Hp):Prop where
 same:Same H0 H
 new:H0 D = none
 at':H D = some (.lst (zAo ss))
 all:SdOk H ss
theorem SdSt.app {H0 H H2:Hp} {D p:Addr} {ss:List Sd} {a b c:Int} (P:SdSt H0 D ss H) (s:Same H H2) (hp:H p = none) (ep:H2 p = some (.tup [.int a,.int b,.int c])) (n:a≠0∨b≠0) (ma:a.natAbs≤10 ^ 9) (mb:b.natAbs≤10 ^ 9) (mc:c.natAbs≤10 ^ 13) :
  SdSt H0 D (ss ++ [(p,a,b,c)]) (upd H2 D (.lst (zAo ss ++ [.ref p]))):=by
 have npD:p≠D:=fun e=>by rw [e,P.at'] at hp; cases hp
 refine ⟨(P.same.trans s).putNew P.new,P.new,by rw [zAb]; simp [zAo],fun t ht=>?_⟩
 rcases List.mem_append.mp ht with h | h
 ·obtain ⟨h1,h2⟩:=P.all t h
  refine ⟨?_,h2⟩
  rw [zAs (zI4 h1 P.at' (by intro z; cases z))]
  exact s _ _ h1
 ·rw [List.mem_singleton] at h
  subst h
  refine ⟨?_,n,ma,mb,mc⟩
  show upd H2 D _ p = _
  rw [zAs npD]
  exact ep
theorem cutS {ok:Addr→List Sd→Hp→Prop} {G:Prop} {R:Addr→List Sd→Hp→Prop} (h1:(∀ D ss H,ok D ss H→R D ss H)→G) (h2:∀ D ss H,ok D ss H→R D ss H):G:=h1 h2
end Sea

namespace Sea
open PySem L2
theorem cm_l {i j:Int} (h:i.natAbs≤10 ^ 18):CMul i j:=.inl ⟨by omega,by omega⟩
abbrev P3:=Int × Int × Int
abbrev zEs (qs:List (Addr × P3)):List V:=(qs.map (·.1)).map V.ref
def zM2 (H:Hp) (qs:List (Addr × P3)):Prop:=∀ t∈qs,H t.1 = some (.tup [.int t.2.1,.int t.2.2.1,.int t.2.2.2])∧0 < t.2.2.2∧Nat.gcd (Nat.gcd t.2.1.natAbs t.2.2.1.natAbs) t.2.2.2.natAbs = 1
theorem zM2.same {H H':Hp} {qs:List (Addr × P3)} (h:zM2 H qs) (s:Same H H'):zM2 H' qs:=fun t ht=>⟨s _ _ (h t ht).1,(h t ht).2⟩
def sv (t p:P3):Int:=t.1 * p.1 + t.2.1 * p.2.1 - t.2.2 * p.2.2
def tn (e s:P3):Int:=e.1 * s.2.1 - e.2.1 * s.1
def dl (e p q:P3):Int:=e.1 * (p.2.1 * q.2.2 - q.2.1 * p.2.2) - e.2.1 * (p.1 * q.2.2 - q.1 * p.2.2)
theorem zS3 (a b u v X Y:Int):(a * a + b * b) * (u * X + v * Y) = (a * Y - b * X) * (a * v - b * u) + (a * X + b * Y) * (a * u + b * v):=by
 simp only [Int.mul_sub,Int.sub_mul,Int.mul_add,Int.add_mul,Int.mul_comm,Int.mul_left_comm]
 omega
theorem zIu (s p q:P3):sv s p * q.2.2 - sv s q * p.2.2 = s.1 * (p.1 * q.2.2 - q.1 * p.2.2) + s.2.1 * (p.2.1 * q.2.2 - q.2.1 * p.2.2):=by
 unfold sv
 simp only [Int.mul_sub,Int.sub_mul,Int.add_mul,Int.mul_add,Int.mul_comm,Int.mul_left_comm]
 omega
theorem zQj {e p q:P3} (hp:sv e p = 0) (hq:sv e q = 0) (s:P3):(e.1 * e.1 + e.2.1 * e.2.1) * (sv s p * q.2.2 - sv s q * p.2.2) = dl e p q * tn e s:=by
 have z:=zIu e p q
 rw [hp,hq,Int.zero_mul,Int.zero_mul,Int.sub_self] at z
 rw [zIu s p q,zS3,← z,Int.zero_mul,Int.add_zero]
 rfl
theorem zMt {x y h:Int} (hh:h * h = 1):(x * h) * (y * h) = x * y:=by
 have e:(x * h) * (y * h) = x * y * (h * h):=by simp only [Int.mul_comm,Int.mul_left_comm]
 rw [e,hh,Int.mul_one]
theorem zKe {e p q:P3} {h:Int} (hh:h * h = 1) (hN:0 < e.1 * e.1 + e.2.1 * e.2.1) (hp:sv e p = 0) (hq:sv e q = 0) (pw:0 < p.2.2) (qw:0 < q.2.2) (s:P3) (hs:(dl e p q * h) * (tn e s * h)≤0) (hv:sv s q≤0):sv s p≤0:=by
 have k:=zQj hp hq s
 rw [← zMt (x:=dl e p q) (y:=tn e s) hh] at k
 rw [← k] at hs
 have h1:sv s p * q.2.2 - sv s q * p.2.2≤0:=by
  by_cases c:sv s p * q.2.2 - sv s q * p.2.2≤0
  ·exact c
  ·have:=Int.mul_pos hN (show 0 < sv s p * q.2.2 - sv s q * p.2.2 by omega)
   omega
 have h2:sv s q * p.2.2≤0:=by
  have:=Int.mul_nonneg (show 0≤-sv s q by omega) (Int.le_of_lt pw)
  rw [Int.neg_mul] at this
  omega
 by_cases c:sv s p≤0
 ·exact c
 ·have:=Int.mul_pos (show 0 < sv s p by omega) qw
  omega
theorem zLa {e p q s:P3} {h:Int} (hh:h * h = 1) (hN:0 < e.1 * e.1 + e.2.1 * e.2.1) (hp:sv e p = 0) (hq:sv e q = 0) (pw:0 < p.2.2) (h0:sv s p = 0) (hv:sv s q≤0) (ht:0 < tn e s * h):0≤dl e p q * h:=by
 have k:=zQj hp hq s
 rw [h0,Int.zero_mul,← zMt (x:=dl e p q) (y:=tn e s) hh] at k
 have h2:0≤-sv s q * p.2.2:=Int.mul_nonneg (by omega) (Int.le_of_lt pw)
 rw [Int.neg_mul] at h2
 have h3:=Int.mul_nonneg (Int.le_of_lt hN) (show 0≤0 - sv s q * p.2.2 by omega)
 rw [k] at h3
 by_cases c:0≤dl e p q * h
 ·exact c
 ·have:=Int.mul_pos (show 0 < -(dl e p q * h) by omega) ht
  rw [Int.neg_mul] at this
  omega
theorem zTp {e p q s:P3} {h:Int} (hh:h * h = 1) (hN:0 < e.1 * e.1 + e.2.1 * e.2.1) (hp:sv e p = 0) (hq:sv e q = 0) (pw:0 < p.2.2) (h0:sv s p = 0) (hv:0 < sv s q) (ht:0 < tn e s * h):dl e p q * h≤0:=by
 have k:=zQj hp hq s
 rw [h0,Int.zero_mul,← zMt (x:=dl e p q) (y:=tn e s) hh] at k
 have h2:=Int.mul_pos hv pw
 have h3:=Int.mul_nonneg (Int.le_of_lt hN) (show 0≤sv s q * p.2.2 by omega)
 have h4:(e.1 * e.1 + e.2.1 * e.2.1) * (0 - sv s q * p.2.2) = -((e.1 * e.1 + e.2.1 * e.2.1) * (sv s q * p.2.2)):=by rw [Int.zero_sub,Int.mul_neg]
 rw [h4] at k
 by_cases c:dl e p q * h≤0
 ·exact c
 ·have:=Int.mul_pos (show 0 < dl e p q * h by omega) ht
  omega
def pt3 (l:List Int):P3:=match l with
 | [x,y,w]=>(x,y,w)
 | _=>(0,0,1)
def crL (e s:P3):List Int:=lowL (upL (e.2.2 * s.2.1 - e.2.1 * s.2.2) (e.1 * s.2.2 - e.2.2 * s.1) (e.1 * s.2.1 - e.2.1 * s.1))
def ftL (t:P3):List Int:=lowL (upL (t.1 * t.2.2) (t.2.1 * t.2.2) (t.1 * t.1 + t.2.1 * t.2.1))
structure zTc (l:List Int) (p:P3):Prop where
 list:l = [p.1,p.2.1,p.2.2]
 pos:0 < p.2.2
 low:Nat.gcd (Nat.gcd p.1.natAbs p.2.1.natAbs) p.2.2.natAbs = 1
theorem zB0 {e s:P3} (h:tn e s≠0):zTc (crL e s) (pt3 (crL e s))∧sv e (pt3 (crL e s)) = 0∧sv s (pt3 (crL e s)) = 0:=by
 obtain ⟨x,y,w,el,sp⟩:=zF9 (X:=e.2.2 * s.2.1 - e.2.1 * s.2.2) (Y:=e.1 * s.2.2 - e.2.2 * s.1) (W:=e.1 * s.2.1 - e.2.1 * s.1) h
 have e1:crL e s = [x,y,w]:=el
 rw [e1]
 refine ⟨⟨rfl,by have:=sp.pos; show 0 < w; omega,sp.low⟩,?_,?_⟩
 ·have z:=zKk (A:=e.1) (B:=e.2.1) (C:=e.2.2) h sp (zO8 e.1 e.2.1 e.2.2 s.1 s.2.1 s.2.2)
  show e.1 * x + e.2.1 * y - e.2.2 * w = 0
  omega
 ·have z:=zKk (A:=s.1) (B:=s.2.1) (C:=s.2.2) h sp (zQw e.1 e.2.1 e.2.2 s.1 s.2.1 s.2.2)
  show s.1 * x + s.2.1 * y - s.2.2 * w = 0
  omega
theorem zC2 {t:P3} (h:t.1≠0∨t.2.1≠0):0 < t.1 * t.1 + t.2.1 * t.2.1:=zJx h
theorem zUp {t:P3} (h:t.1≠0∨t.2.1≠0):zTc (ftL t) (pt3 (ftL t))∧sv t (pt3 (ftL t)) = 0:=by
 have hw:=zC2 h
 obtain ⟨x,y,w,el,sp⟩:=zF9 (X:=t.1 * t.2.2) (Y:=t.2.1 * t.2.2) (W:=t.1 * t.1 + t.2.1 * t.2.1) (by omega)
 have e1:ftL t = [x,y,w]:=el
 rw [e1]
 refine ⟨⟨rfl,by have:=sp.pos; show 0 < w; omega,sp.low⟩,?_⟩
 have z:=zKk (A:=t.1) (B:=t.2.1) (C:=t.2.2) (show t.1 * t.1 + t.2.1 * t.2.1≠0 by omega) sp (by simp only [Int.mul_add,Int.mul_comm,Int.mul_left_comm])
 show t.1 * x + t.2.1 * y - t.2.2 * w = 0
 omega
def inW (ss:List Sd) (p:P3):Prop:=∀ t∈ss,sv t.2 p≤0
def zHd (ss:List Sd) (e:P3) (h:Int):Option Nat→Prop
 | none=>∀ t∈ss,tn e t.2 * h≤0
 | some j=>∃ t,ss[j]? = some t∧0 < tn e t.2 * h∧∀ u∈ss,0 < tn e u.2 * h→sv u.2 (pt3 (crL e t.2))≤0
theorem zA3 {x h:Int} (h0:0 < x * h):x≠0:=fun z=>by rw [z,Int.zero_mul] at h0; exact absurd h0 (by decide)
theorem zJc {ss:List Sd} {e z:P3} {h:Int} {j:Nat} {t:Sd} (hh:h * h = 1) (hN:0 < e.1 * e.1 + e.2.1 * e.2.1) (hz:sv e z = 0) (zw:0 < z.2.2) (wz:inW ss z) (gt:ss[j]? = some t) (h0:0 < tn e t.2 * h) (ha:∀ u∈ss,0 < tn e u.2 * h→sv u.2 (pt3 (crL e t.2))≤0):inW ss (pt3 (crL e t.2)):=fun u hu=>by
 obtain ⟨sp,c1,c2⟩:=zB0 (zA3 h0)
 by_cases hp:0 < tn e u.2 * h
 ·exact ha u hu hp
 ·have d0:=zLa hh hN c1 hz sp.pos c2 (wz t (List.mem_of_getElem? gt)) h0
  refine zKe hh hN c1 hz sp.pos zw u.2 ?_ (wz u hu)
  have:=Int.mul_nonneg d0 (show 0≤-(tn e u.2 * h) by omega)
  rw [Int.mul_neg] at this
  omega
theorem zPx {ss:List Sd} {e z p:P3} (hN:0 < e.1 * e.1 + e.2.1 * e.2.1) (hz:sv e z = 0) (zw:0 < z.2.2) (wz:inW ss z) (hp:sv e p = 0) (pw:0 < p.2.2) (n1:zHd ss e 1 none) (n2:zHd ss e (-1) none):inW ss p:=fun u hu=>by
 have e1:=n1 u hu
 have e2:=n2 u hu
 rw [Int.mul_one] at e1
 have e0:tn e u.2 = 0:=by
  rw [Int.mul_neg,Int.mul_one] at e2
  omega
 refine zKe (h:=1) (by decide) hN hp hz pw zw u.2 ?_ (wz u hu)
 rw [e0,Int.zero_mul,Int.mul_zero]
 exact Int.le_refl _
theorem zP6 (t p z:P3) (b a:Int):sv t (b * p.1 + a * z.1,b * p.2.1 + a * z.2.1,b * p.2.2 + a * z.2.2) = b * sv t p + a * sv t z:=by
 unfold sv
 simp only [Int.mul_sub,Int.mul_add,Int.mul_comm,Int.mul_left_comm]
 omega
theorem zUe {ss:List Sd} {e p z:P3} (wp:inW ss p) (wz:inW ss z) (pw:0 < p.2.2) (zw:0 < z.2.2) (hp:0 < sv e p) (hz:sv e z≤0):∃ m:P3,sv e m = 0∧0 < m.2.2∧inW ss m:=by
 refine ⟨(-sv e z * p.1 + sv e p * z.1,-sv e z * p.2.1 + sv e p * z.2.1,-sv e z * p.2.2 + sv e p * z.2.2),?_,?_,fun t ht=>?_⟩
 ·rw [zP6,Int.neg_mul,Int.mul_comm (sv e p)]
  omega
 ·have h1:=Int.mul_nonneg (show 0≤-sv e z by omega) (Int.le_of_lt pw)
  have h2:=Int.mul_pos hp zw
  show 0 < -sv e z * p.2.2 + sv e p * z.2.2
  omega
 ·rw [zP6]
  have h1:=Int.mul_nonneg (show 0≤-sv e z by omega) (show 0≤-sv t.2 p by have:=wp t ht; omega)
  have h2:=Int.mul_nonneg (Int.le_of_lt hp) (show 0≤-sv t.2 z by have:=wz t ht; omega)
  rw [Int.mul_neg] at h1 h2
  omega
end Sea

namespace L2
open PySem PySem.Spec PyProof.Rows
section
variable {X:Cx} {pos:Pos}
end
end L2
namespace Sea
open PySem L2
theorem zTy {e s:P3} (h:tn e s≠0):crL e s = crL s e:=by
 unfold crL
 have e1:s.2.2 * e.2.1 - s.2.1 * e.2.2 = -(e.2.2 * s.2.1 - e.2.1 * s.2.2):=by rw [Int.mul_comm s.2.2,Int.mul_comm s.2.1]; omega
 have e2:s.1 * e.2.2 - s.2.2 * e.1 = -(e.1 * s.2.2 - e.2.2 * s.1):=by rw [Int.mul_comm s.1,Int.mul_comm s.2.2]; omega
 have e3:s.1 * e.2.1 - s.2.1 * e.1 = -(e.1 * s.2.1 - e.2.1 * s.1):=by rw [Int.mul_comm s.1,Int.mul_comm s.2.1]; omega
 rw [e1,e2,e3,zUg (show e.1 * s.2.1 - e.2.1 * s.1≠0 from h)]
end Sea

namespace Sea
open PySem L2
theorem zIh (e p q:P3):dl e p q = -dl e q p:=by
 unfold dl
 simp only [Int.mul_sub]
 omega
theorem two_eq {a b X Y:Int} (hN:0 < a * a + b * b) (h1:a * X + b * Y = 0) (h2:a * Y - b * X = 0):X = 0∧Y = 0:=by
 have e1:(a * a + b * b) * X = a * (a * X + b * Y) - b * (a * Y - b * X):=by
  simp only [Int.mul_sub,Int.mul_add,Int.add_mul,Int.mul_comm,Int.mul_left_comm]
  omega
 have e2:(a * a + b * b) * Y = b * (a * X + b * Y) + a * (a * Y - b * X):=by
  simp only [Int.mul_sub,Int.mul_add,Int.add_mul,Int.mul_comm,Int.mul_left_comm]
  omega
 rw [h1,h2,Int.mul_zero,Int.mul_zero] at e1 e2
 constructor
 ·rcases Int.mul_eq_zero.mp e1 with z | z
  ·omega
  ·exact z
 ·rcases Int.mul_eq_zero.mp e2 with z | z
  ·omega
  ·exact z
theorem zJu {e p q:P3} (hN:0 < e.1 * e.1 + e.2.1 * e.2.1) (hp:sv e p = 0) (hq:sv e q = 0) (hd:dl e p q = 0):p.1 * q.2.2 = q.1 * p.2.2∧p.2.1 * q.2.2 = q.2.1 * p.2.2:=by
 have z:=zIu e p q
 rw [hp,hq,Int.zero_mul,Int.zero_mul,Int.sub_self] at z
 have w:=two_eq hN z.symm hd
 omega
theorem zJf {x y w x2 y2 v:Int} (hv:0 < v) (h1:x * v = x2 * w) (h2:y * v = y2 * w) (low:Nat.gcd (Nat.gcd x.natAbs y.natAbs) w.natAbs = 1):w.natAbs ∣ v.natAbs:=by
 have d1:w.natAbs ∣ v.natAbs * x.natAbs:=by
  rw [← Int.natAbs_mul,Int.mul_comm,h1,Int.natAbs_mul]
  exact Nat.dvd_mul_left _ _
 have d2:w.natAbs ∣ v.natAbs * y.natAbs:=by
  rw [← Int.natAbs_mul,Int.mul_comm,h2,Int.natAbs_mul]
  exact Nat.dvd_mul_left _ _
 have d3:w.natAbs ∣ v.natAbs * w.natAbs:=Nat.dvd_mul_left _ _
 have d:=Nat.dvd_gcd (Nat.dvd_gcd d1 d2) d3
 rw [Nat.gcd_mul_left,Nat.gcd_mul_left,low,Nat.mul_one] at d
 exact d
theorem zCw {p q:P3} (pp:0 < p.2.2) (pq:0 < q.2.2) (lp:Nat.gcd (Nat.gcd p.1.natAbs p.2.1.natAbs) p.2.2.natAbs = 1) (lq:Nat.gcd (Nat.gcd q.1.natAbs q.2.1.natAbs) q.2.2.natAbs = 1) (h1:p.1 * q.2.2 = q.1 * p.2.2) (h2:p.2.1 * q.2.2 = q.2.1 * p.2.2):p = q:=by
 have d1:=zJf pq h1 h2 lp
 have d2:=zJf pp h1.symm h2.symm lq
 have e:=Nat.dvd_antisymm d1 d2
 have ew:p.2.2 = q.2.2:=by omega
 rw [ew] at h1 h2
 have e1:=Int.eq_of_mul_eq_mul_right (by omega) h1
 have e2:=Int.eq_of_mul_eq_mul_right (by omega) h2
 exact Prod.ext e1 (Prod.ext e2 ew)
def Cor (ss:List Sd) (P:P3):Prop:=∃ t∈ss,∃ u∈ss,tn t.2 u.2≠0∧P = pt3 (crL t.2 u.2)∧inW ss P
def zI8 (ss:List Sd) (e:P3) (h:Int) (qs:List P3):Prop:=zHd ss e h none∨∃ (j:Nat) (t:Sd),ss[j]? = some t∧0 < tn e t.2 * h∧(∀ u∈ss,0 < tn e u.2 * h→sv u.2 (pt3 (crL e t.2))≤0)∧pt3 (crL e t.2)∈qs
theorem zI8.app {ss:List Sd} {e:P3} {h:Int} {qs rs:List P3} (f:zI8 ss e h qs):zI8 ss e h (qs ++ rs):=by
 rcases f with f | ⟨j,t,g,p,a,m⟩
 ·exact .inl f
 ·exact .inr ⟨j,t,g,p,a,List.mem_append_left _ m⟩
theorem zUm {ss:List Sd} {e:P3} {s:Sd} {h:Int} {qs:List P3} (hh:h * h = 1) (hN:0 < e.1 * e.1 + e.2.1 * e.2.1) (hs:s∈ss) (hp:0 < tn e s.2 * h) (hw:inW ss (pt3 (crL e s.2))) (f:zI8 ss e h qs):pt3 (crL e s.2)∈qs:=by
 rcases f with f | ⟨j,t,g,p,a,m⟩
 ·have:=f s hs
  omega
 ·obtain ⟨s1,o1,o2⟩:=zB0 (zA3 hp)
  obtain ⟨s2,r1,r2⟩:=zB0 (zA3 p)
  have d1:=zLa hh hN o1 r1 s1.pos o2 (a s hs hp) hp
  have d2:=zLa hh hN r1 o1 s2.pos r2 (hw t (List.mem_of_getElem? g)) p
  rw [zIh,Int.neg_mul] at d2
  have d0:dl e (pt3 (crL e s.2)) (pt3 (crL e t.2)) * h = 0:=by omega
  have d3:dl e (pt3 (crL e s.2)) (pt3 (crL e t.2)) = 0:=by
   have z:dl e (pt3 (crL e s.2)) (pt3 (crL e t.2)) * h * h = 0:=by rw [d0,Int.zero_mul]
   rw [Int.mul_assoc,hh,Int.mul_one] at z
   exact z
  obtain ⟨x1,x2⟩:=zJu hN o1 r1 d3
  rw [zCw s1.pos s2.pos s1.low s2.low x1 x2]
  exact m
theorem zUf {x:Int} (h:x≠0):∃ k:Int,(k = 1∨k = -1)∧k * k = 1∧0 < x * k:=by
 by_cases c:0 < x
 ·exact ⟨1,.inl rfl,by decide,by omega⟩
 ·exact ⟨-1,.inr rfl,by decide,by omega⟩
theorem zNg {e s:P3} (h:tn e s≠0) (b1:e.1.natAbs≤10 ^ 9) (b2:e.2.1.natAbs≤10 ^ 9) (b3:e.2.2.natAbs≤10 ^ 13) (c1:s.1.natAbs≤10 ^ 9) (c2:s.2.1.natAbs≤10 ^ 9) (c3:s.2.2.natAbs≤10 ^ 13) :
  (pt3 (crL e s)).1.natAbs≤10 ^ 40∧(pt3 (crL e s)).2.1.natAbs≤10 ^ 40∧(pt3 (crL e s)).2.2.natAbs≤10 ^ 40:=by
 obtain ⟨x,y,w,el,sp⟩:=zF9 (X:=e.2.2 * s.2.1 - e.2.1 * s.2.2) (Y:=e.1 * s.2.2 - e.2.2 * s.1) (W:=e.1 * s.2.1 - e.2.1 * s.1) h
 have e1:crL e s = [x,y,w]:=el
 rw [e1]
 have z1:=zAh e.2.2 s.2.1 b3 c2
 have z2:=zAh e.2.1 s.2.2 b2 c3
 have z3:=zAh e.1 s.2.2 b1 c3
 have z4:=zAh e.2.2 s.1 b3 c1
 have z5:=zAh e.1 s.2.1 b1 c2
 have z6:=zAh e.2.1 s.1 b2 c1
 have x1:=sp.xle
 have x2:=sp.yle
 have x3:=sp.wle
 refine ⟨?_,?_,?_⟩
 ·show x.natAbs≤10 ^ 40
  omega
 ·show y.natAbs≤10 ^ 40
  omega
 ·show w.natAbs≤10 ^ 40
  omega
theorem zKs {α:Type} [DecidableEq α]:∀ {xs ys:List α},xs.Nodup→(∀ a∈xs,a∈ys)→xs.length≤ys.length
 | [],_,_,_=>Nat.zero_le _
 | x :: xs,ys,hx,h=>by
  have hx':=List.nodup_cons.mp hx
  have m:x∈ys:=h x (List.mem_cons_self ..)
  have z:=zKs (ys:=ys.erase x) hx'.2 fun a ha=>by
   have ne:a≠x:=fun e=>hx'.1 (by rw [← e]; exact ha)
   exact (List.mem_erase_of_ne ne).mpr (h a (List.mem_cons_of_mem _ ha))
  have:=List.length_erase_of_mem m
  have hp:0 < ys.length:=List.length_pos_of_mem m
  rw [List.length_cons]
  omega
end Sea

namespace Sea
open PySem L2
def absI (x:Int):Int:=if x < 0 then -x else x
def zBd (a b:Int):Int:=absI a + absI b
theorem zD8 {a b:Int} (h:a≠0∨b≠0):0 < zBd a b:=by
 unfold zBd absI
 split <;> split <;> omega
theorem par {e1 e2 s1 s2:Int} (h:e1 * s2 = e2 * s1) (hs:e2 * s2≤0):absI e2 * s1 + absI s2 * e1 = 0:=by
 unfold absI
 rw [Int.mul_comm e1 s2] at h
 by_cases c:e2 < 0
 ·rw [if_pos c]
  by_cases d:s2 < 0
  ·have:=Int.mul_pos_of_neg_of_neg c d
   omega
  ·rw [if_neg d,Int.neg_mul]
   omega
 ·rw [if_neg c]
  by_cases d:s2 < 0
  ·rw [if_pos d,Int.neg_mul]
   omega
  ·rw [if_neg d]
   have z:e2 * s2 = 0:=by
    have:=Int.mul_nonneg (show 0≤e2 by omega) (show 0≤s2 by omega)
    omega
   rcases Int.mul_eq_zero.mp z with z | z
   ·rw [z,Int.zero_mul] at h
    rw [z,Int.zero_mul,h]
    rfl
   ·rw [z,Int.zero_mul] at h
    rw [z,Int.zero_mul,← h]
    rfl
theorem zJv {x y:Int} (h:x + y < 0) (hp:0≤x * y):x≤0∧y≤0:=by
 by_cases cx:x≤0
 ·by_cases cy:y≤0
  ·exact ⟨cx,cy⟩
  ·by_cases c0:x = 0
   ·omega
   ·have:=Int.mul_neg_of_neg_of_pos (show x < 0 by omega) (show 0 < y by omega)
    omega
 ·by_cases cy:y < 0
  ·have:=Int.mul_neg_of_pos_of_neg (show 0 < x by omega) cy
   omega
  ·omega
theorem sq_nn (x:Int):0≤x * x:=by
 by_cases h:0≤x
 ·exact Int.mul_nonneg h h
 ·exact Int.le_of_lt (Int.mul_pos_of_neg_of_neg (by omega) (by omega))
theorem zSv {e s f P:P3} (ht:tn e s = 0) (hN:0 < e.1 * e.1 + e.2.1 * e.2.1) (he:e.1≠0∨e.2.1≠0) (fw:0 < f.2.2) (pw:0 < P.2.2) (h1:sv e f = 0) (h2:0 < sv s f) (h3:sv s P≤0) (h4:0 < sv e P) :
  zBd e.1 e.2.1 * s.1 + zBd s.1 s.2.1 * e.1 = 0∧zBd e.1 e.2.1 * s.2.1 + zBd s.1 s.2.1 * e.2.1 = 0∧zBd e.1 e.2.1 * s.2.2 + zBd s.1 s.2.1 * e.2.2 < 0:=by
 have d1:=zIu e P f
 have d2:=zIu s P f
 rw [h1,Int.zero_mul] at d1
 have p1:=Int.mul_pos h4 fw
 have p2:=Int.mul_pos h2 pw
 have p3:sv s P * f.2.2≤0:=by
  have:=Int.mul_nonneg (show 0≤-sv s P by omega) (Int.le_of_lt fw)
  rw [Int.neg_mul] at this
  omega
 have k:=zS3 e.1 e.2.1 s.1 s.2.1 (P.1 * f.2.2 - f.1 * P.2.2) (P.2.1 * f.2.2 - f.2.1 * P.2.2)
 rw [← d1,← d2,show e.1 * s.2.1 - e.2.1 * s.1 = 0 from ht,Int.mul_zero,Int.zero_add] at k
 have n1:(e.1 * e.1 + e.2.1 * e.2.1) * (sv s P * f.2.2 - sv s f * P.2.2) < 0:=Int.mul_neg_of_pos_of_neg hN (by omega)
 rw [k] at n1
 have dot:e.1 * s.1 + e.2.1 * s.2.1 < 0:=by
  by_cases c:e.1 * s.1 + e.2.1 * s.2.1 < 0
  ·exact c
  ·have:=Int.mul_nonneg (show 0≤sv e P * f.2.2 - 0 by omega) (show 0≤e.1 * s.1 + e.2.1 * s.2.1 by omega)
   omega
 have cr:e.1 * s.2.1 = e.2.1 * s.1:=by unfold tn at ht; omega
 have pr:0≤(e.1 * s.1) * (e.2.1 * s.2.1):=by
  have e0:(e.1 * s.1) * (e.2.1 * s.2.1) = (e.1 * s.2.1) * (e.2.1 * s.1):=by simp only [Int.mul_comm,Int.mul_left_comm]
  rw [e0,← cr]
  exact sq_nn _
 obtain ⟨o1,o2⟩:=zJv dot pr
 have a1:=par (e1:=e.1) (e2:=e.1) (s1:=s.1) (s2:=s.1) rfl o1
 have a2:=par (e1:=e.1) (e2:=e.2.1) (s1:=s.1) (s2:=s.2.1) cr o2
 have a3:=par (e1:=e.2.1) (e2:=e.1) (s1:=s.2.1) (s2:=s.1) cr.symm o1
 have a4:=par (e1:=e.2.1) (e2:=e.2.1) (s1:=s.2.1) (s2:=s.2.1) rfl o2
 have z1:zBd e.1 e.2.1 * s.1 + zBd s.1 s.2.1 * e.1 = 0:=by
  unfold zBd
  rw [Int.add_mul,Int.add_mul]
  omega
 have z2:zBd e.1 e.2.1 * s.2.1 + zBd s.1 s.2.1 * e.2.1 = 0:=by
  unfold zBd
  rw [Int.add_mul,Int.add_mul]
  omega
 refine ⟨z1,z2,?_⟩
 have up:=zD8 he
 generalize zBd e.1 e.2.1 = u at z1 z2 up ⊢
 generalize zBd s.1 s.2.1 = v at z1 z2 ⊢
 have q:(u * s.2.2 + v * e.2.2) * f.2.2 = (u * s.1 + v * e.1) * f.1 + (u * s.2.1 + v * e.2.1) * f.2.1 - u * sv s f - v * sv e f:=by
  unfold sv
  simp only [Int.mul_sub,Int.mul_add,Int.add_mul,Int.mul_comm,Int.mul_left_comm]
  omega
 rw [z1,z2,h1,Int.zero_mul,Int.zero_mul,Int.mul_zero] at q
 have q2:=Int.mul_pos up h2
 by_cases c:u * s.2.2 + v * e.2.2 < 0
 ·exact c
 ·have:=Int.mul_nonneg (show 0≤u * s.2.2 + v * e.2.2 by omega) (Int.le_of_lt fw)
  omega
structure zSb (ss:List Sd) (j:Nat) (e:Sd) (P:P3):Prop where
 at':ss[j]? = some e
 pos:0 < P.2.2
 ahead:inW (ss.take j) P
 out:0 < sv e.2 P
 no:∀ z:P3,sv e.2 z = 0→0 < z.2.2→¬ inW (ss.take j) z
theorem zSb.none {ss:List Sd} {j:Nat} {e:Sd} {P:P3} (S:zSb ss j e P) (z:P3) (zw:0 < z.2.2):¬ inW ss z:=fun wz=>by
 obtain ⟨m,m1,m2,m3⟩:=zUe S.ahead (fun u hu=>wz u (List.mem_of_mem_take hu)) S.pos zw S.out (wz e (List.mem_of_getElem? S.at'))
 exact S.no m m1 m2 m3
theorem zL6 {e p f s:P3} (hN:0 < e.1 * e.1 + e.2.1 * e.2.1) (hp:sv e p = 0) (hf:sv e f = 0) (pw:0 < p.2.2) (fw:0 < f.2.2) (ht:tn e s = 0) (hs:sv s f≤0):sv s p≤0:=by
 refine zKe (h:=1) (by decide) hN hp hf pw fw s ?_ hs
 rw [ht,Int.zero_mul,Int.mul_zero]
 exact Int.le_refl _
theorem zHm {x h:Int} : x * -h = -(x * h):=Int.mul_neg _ _
theorem zM9 {ss:List Sd} {e f:P3} {h:Int} (hh:h * h = 1) (hN:0 < e.1 * e.1 + e.2.1 * e.2.1) (hf:sv e f = 0) (fw:0 < f.2.2) (no:∀ z:P3,sv e z = 0→0 < z.2.2→¬ inW ss z) (bes:∀ t∈ss,tn e t.2 = 0→sv t.2 f≤0) {r:Option Nat} (n:zHd ss e h none) (o:zHd ss e (-h) r):False:=by
 cases r with
 | none =>
  refine no f hf fw fun t ht=>bes t ht ?_
  have a:=n t ht
  have b:=o t ht
  rw [zHm] at b
  have z:tn e t.2 * h = 0:=by omega
  rcases Int.mul_eq_zero.mp z with z | z
  ·exact z
  ·rw [z] at hh
   exact absurd hh (by decide)
 | some j =>
  obtain ⟨t,gt,hp,ha⟩:=o
  obtain ⟨sp,c1,c2⟩:=zB0 (zA3 hp)
  refine no _ c1 sp.pos fun u hu=>?_
  by_cases c:0 < tn e u.2 * -h
  ·exact ha u hu c
  ·have a:=n u hu
   rw [zHm] at c
   have z:tn e u.2 * h = 0:=by omega
   rcases Int.mul_eq_zero.mp z with z | z
   ·exact zL6 hN c1 hf sp.pos fw z (bes u hu z)
   ·rw [z] at hh
    exact absurd hh (by decide)
theorem three {ss:List Sd} {e f P:P3} {a b:Sd} {h:Int} (hh:h * h = 1) (hN:0 < e.1 * e.1 + e.2.1 * e.2.1) (hf:sv e f = 0) (fw:0 < f.2.2) (no:∀ z:P3,sv e z = 0→0 < z.2.2→¬ inW ss z) (bes:∀ t∈ss,tn e t.2 = 0→sv t.2 f≤0)
  (ma:a∈ss) (mb:b∈ss) (ha:0 < tn e a.2 * h) (hb:0 < tn e b.2 * -h) (ta:∀ u∈ss,0 < tn e u.2 * h→sv u.2 (pt3 (crL e a.2))≤0) (tb:∀ u∈ss,0 < tn e u.2 * -h→sv u.2 (pt3 (crL e b.2))≤0)
  (pw:0 < P.2.2) (wP:inW ss P) (oP:0 < sv e P) :
  0 < tn b.2 e * h∧0 < tn e a.2 * h∧0 < tn a.2 b.2 * h∧(tn b.2 e * a.2.2.2 + tn e a.2 * b.2.2.2 + tn a.2 b.2 * e.2.2) * h < 0:=by
 obtain ⟨sa,a1,a2⟩:=zB0 (zA3 ha)
 obtain ⟨sb,b1,b2⟩:=zB0 (zA3 hb)
 have hh' : -h * -h = 1:=by rw [Int.neg_mul_neg]; exact hh
 have outb:0 < sv b.2 (pt3 (crL e a.2)):=by
  by_cases c:0 < sv b.2 (pt3 (crL e a.2))
  ·exact c
  ·refine absurd ?_ (no _ a1 sa.pos)
   have d:=zLa hh' hN b1 a1 sb.pos b2 (show sv b.2 (pt3 (crL e a.2))≤0 by omega) hb
   intro u hu
   by_cases c1:0 < tn e u.2 * h
   ·exact ta u hu c1
   ·by_cases c2:0 < tn e u.2 * -h
    ·refine zKe hh' hN a1 b1 sa.pos sb.pos u.2 ?_ (tb u hu c2)
     rw [zIh,Int.neg_mul] 
     have:=Int.mul_nonneg d (Int.le_of_lt c2)
     rw [Int.neg_mul]
     omega
    ·rw [zHm] at c2
     have z:tn e u.2 * h = 0:=by omega
     rcases Int.mul_eq_zero.mp z with z | z
     ·exact zL6 hN a1 hf sa.pos fw z (bes u hu z)
     ·rw [z] at hh
      exact absurd hh (by decide)
 have A:0 < tn b.2 e * h:=by
  rw [zHm] at hb
  have z:tn b.2 e = -tn e b.2:=by unfold tn; rw [Int.mul_comm b.2.1,Int.mul_comm b.2.2.1]; omega
  rw [z,Int.neg_mul]
  omega
 have S:∀ z:P3,tn b.2 e * sv a.2 z + tn e a.2 * sv b.2 z + tn a.2 b.2 * sv e z = -((tn b.2 e * a.2.2.2 + tn e a.2 * b.2.2.2 + tn a.2 b.2 * e.2.2) * z.2.2):=fun z=>by
  unfold tn sv
  simp only [Int.mul_sub,Int.sub_mul,Int.mul_add,Int.add_mul,Int.mul_comm,Int.mul_left_comm]
  omega
 have k1:=S (pt3 (crL e a.2))
 rw [a1,a2,Int.mul_zero,Int.mul_zero,Int.zero_add,Int.add_zero] at k1
 have k2:=S P
 generalize tn b.2 e * a.2.2.2 + tn e a.2 * b.2.2.2 + tn a.2 b.2 * e.2.2 = M at k1 k2 ⊢
 have m1:M * h < 0:=by
  have p:=Int.mul_pos ha outb
  have e1:tn e a.2 * h * sv b.2 (pt3 (crL e a.2)) = -(M * h * (pt3 (crL e a.2)).2.2):=by
   rw [Int.mul_right_comm,k1,Int.neg_mul,Int.mul_right_comm]
  rw [e1] at p
  by_cases c:M * h < 0
  ·exact c
  ·have:=Int.mul_nonneg (show 0≤M * h by omega) (Int.le_of_lt sa.pos)
   omega
 refine ⟨A,ha,?_,m1⟩
 have e2:tn b.2 e * h * sv a.2 P + tn e a.2 * h * sv b.2 P + tn a.2 b.2 * h * sv e P = -(M * h * P.2.2):=by
  have z:(tn b.2 e * sv a.2 P + tn e a.2 * sv b.2 P + tn a.2 b.2 * sv e P) * h = -(M * P.2.2) * h:=by rw [k2]
  rw [Int.neg_mul,Int.mul_right_comm M] at z
  rw [← z,Int.add_mul,Int.add_mul,Int.mul_right_comm,Int.mul_right_comm (tn e a.2),Int.mul_right_comm (tn a.2 b.2)]
 have x1:=Int.mul_nonneg (Int.le_of_lt A) (show 0≤-sv a.2 P by have:=wP a ma; omega)
 have x2:=Int.mul_nonneg (Int.le_of_lt ha) (show 0≤-sv b.2 P by have:=wP b mb; omega)
 have x3:=Int.mul_pos (show 0 < -(M * h) by omega) pw
 rw [Int.mul_neg] at x1 x2
 rw [Int.neg_mul] at x3
 by_cases c:0 < tn a.2 b.2 * h
 ·exact c
 ·have:=Int.mul_nonneg (show 0≤-(tn a.2 b.2 * h) by omega) (Int.le_of_lt oP)
  rw [Int.neg_mul] at this
  omega
theorem zBm {x h:Int} (hh:h = 1∨h = -1) (hx:0 < x * h):absI x = x * h:=by
 unfold absI
 rcases hh with rfl | rfl
 ·rw [if_neg (by omega)]
  omega
 ·rw [if_pos (by omega)]
  omega
theorem zN4 (a b e:P3):tn b e * a.1 + tn e a * b.1 + tn a b * e.1 = 0∧tn b e * a.2.1 + tn e a * b.2.1 + tn a b * e.2.1 = 0:=by
 unfold tn
 constructor
 ·simp only [Int.sub_mul,Int.mul_sub,Int.mul_comm,Int.mul_left_comm]
  omega
 ·simp only [Int.sub_mul,Int.mul_sub,Int.mul_comm,Int.mul_left_comm]
  omega
def zMw (ss:List Sd) (cs:List (Int × Int)):Prop :=
 (∃ (i j:Nat) (u v:Int) (s t:Sd),cs = [((i:Int),u),((j:Int),v)]∧i < j∧ss[i]? = some s∧ss[j]? = some t∧0 < u∧0 < v∧u≤10 ^ 19∧v≤10 ^ 19 ∧
  u * s.2.1 + v * t.2.1 = 0∧u * s.2.2.1 + v * t.2.2.1 = 0∧u * s.2.2.2 + v * t.2.2.2 < 0) ∨
 ∃ (i j k:Nat) (u v x:Int) (s t r:Sd),cs = [((i:Int),u),((j:Int),v),((k:Int),x)]∧i < j∧j < k∧ss[i]? = some s∧ss[j]? = some t∧ss[k]? = some r∧0 < u∧0 < v∧0 < x∧u≤10 ^ 19∧v≤10 ^ 19∧x≤10 ^ 19 ∧
  u * s.2.1 + v * t.2.1 + x * r.2.1 = 0∧u * s.2.2.1 + v * t.2.2.1 + x * r.2.2.1 = 0∧u * s.2.2.2 + v * t.2.2.2 + x * r.2.2.2 < 0
theorem z_of {x g:Int} (hg:0 < g) (h:x * g = 0):x = 0:=by
 rcases Int.mul_eq_zero.mp h with z | z
 ·exact z
 ·omega
theorem n_of {x g:Int} (hg:0 < g) (h:x * g < 0):x < 0:=by
 by_cases c:x < 0
 ·exact c
 ·have:=Int.mul_nonneg (show 0≤x by omega) (Int.le_of_lt hg)
  omega
theorem zS5 {ws:List Int} {n:Int} (h:n∈ws) (h0:0 < n) (hb:n≤10 ^ 30):0 < gcdL ws∧(gcdL ws:Int) < 10 ^ 600:=by
 refine ⟨zB4 h (by omega),?_⟩
 have h1:=zIj h (show n≠0 by omega)
 exact Int.lt_of_le_of_lt (show (gcdL ws:Int)≤10 ^ 30 by omega) (by decide +kernel)
theorem zIm {ws:List Int} {n:Int} (h:n∈ws) (h0:0 < n):0 < n / (gcdL ws:Int)∧n / (gcdL ws:Int)≤n:=by
 have gp:=zB4 h (show n≠0 by omega)
 have e:=zA9 h
 have p:0 < n / (gcdL ws:Int):=by
  by_cases c:0 < n / (gcdL ws:Int)
  ·exact c
  ·have:=Int.mul_nonneg (show 0≤-(n / (gcdL ws:Int)) by omega) (show (0:Int)≤(gcdL ws:Int) by omega)
   rw [Int.neg_mul] at this
   omega
 refine ⟨p,?_⟩
 have:=Int.mul_le_mul_of_nonneg_left (show (1:Int)≤(gcdL ws:Int) by omega) (Int.le_of_lt p)
 omega
theorem zQa {ss:List Sd} {i j:Nat} {s t:Sd} {U V:Int} (hij:i < j) (gs:ss[i]? = some s) (gt:ss[j]? = some t) (hU:0 < U) (hV:0 < V) (bU:U≤10 ^ 19) (bV:V≤10 ^ 19)
  (z1:U * s.2.1 + V * t.2.1 = 0) (z2:U * s.2.2.1 + V * t.2.2.1 = 0) (z3:U * s.2.2.2 + V * t.2.2.2 < 0):zMw ss ([(i:Int),(j:Int)].zip (lowL [U,V])):=by
 have mU:U∈[U,V]:=by simp
 have mV:V∈[U,V]:=by simp
 have gp:(0:Int) < (gcdL [U,V]:Int):=by have:=zB4 mU (show U≠0 by omega); omega
 have pU:=zIm mU hU
 have pV:=zIm mV hV
 have eU:=zA9 mU
 have eV:=zA9 mV
 have sum:∀ a b:Int,(U / (gcdL [U,V]:Int) * a + V / (gcdL [U,V]:Int) * b) * (gcdL [U,V]:Int) = U * a + V * b:=fun a b=>by
  rw [Int.add_mul,Int.mul_right_comm,eU,Int.mul_right_comm,eV]
 refine .inl ⟨i,j,U / (gcdL [U,V]:Int),V / (gcdL [U,V]:Int),s,t,rfl,hij,gs,gt,pU.1,pV.1,Int.le_trans pU.2 bU,Int.le_trans pV.2 bV,?_,?_,?_⟩
 ·exact z_of gp (by rw [sum]; exact z1)
 ·exact z_of gp (by rw [sum]; exact z2)
 ·exact n_of gp (by rw [sum]; exact z3)
theorem zMv {ss:List Sd} {i j k:Nat} {s t r:Sd} {U V X:Int} (hij:i < j) (hjk:j < k) (gs:ss[i]? = some s) (gt:ss[j]? = some t) (gr:ss[k]? = some r) (hU:0 < U) (hV:0 < V) (hX:0 < X) (bU:U≤10 ^ 19) (bV:V≤10 ^ 19) (bX:X≤10 ^ 19)
  (z1:U * s.2.1 + V * t.2.1 + X * r.2.1 = 0) (z2:U * s.2.2.1 + V * t.2.2.1 + X * r.2.2.1 = 0) (z3:U * s.2.2.2 + V * t.2.2.2 + X * r.2.2.2 < 0):zMw ss ([(i:Int),(j:Int),(k:Int)].zip (lowL [U,V,X])):=by
 have mU:U∈[U,V,X]:=by simp
 have mV:V∈[U,V,X]:=by simp
 have mX:X∈[U,V,X]:=by simp
 have gp:(0:Int) < (gcdL [U,V,X]:Int):=by have:=zB4 mU (show U≠0 by omega); omega
 have pU:=zIm mU hU
 have pV:=zIm mV hV
 have pX:=zIm mX hX
 have eU:=zA9 mU
 have eV:=zA9 mV
 have eX:=zA9 mX
 have sum:∀ a b c:Int,(U / (gcdL [U,V,X]:Int) * a + V / (gcdL [U,V,X]:Int) * b + X / (gcdL [U,V,X]:Int) * c) * (gcdL [U,V,X]:Int) = U * a + V * b + X * c:=fun a b c=>by
  rw [Int.add_mul,Int.add_mul,Int.mul_right_comm,eU,Int.mul_right_comm,eV,Int.mul_right_comm,eX]
 refine .inr ⟨i,j,k,U / (gcdL [U,V,X]:Int),V / (gcdL [U,V,X]:Int),X / (gcdL [U,V,X]:Int),s,t,r,rfl,hij,hjk,gs,gt,gr,pU.1,pV.1,pX.1,Int.le_trans pU.2 bU,Int.le_trans pV.2 bV,Int.le_trans pX.2 bX,?_,?_,?_⟩
 ·exact z_of gp (by rw [sum]; exact z1)
 ·exact z_of gp (by rw [sum]; exact z2)
 ·exact n_of gp (by rw [sum]; exact z3)
theorem sum2 {u v:Int} {s t z:P3} (h1:u * s.1 + v * t.1 = 0) (h2:u * s.2.1 + v * t.2.1 = 0):u * sv s z + v * sv t z = -((u * s.2.2 + v * t.2.2) * z.2.2):=by
 have e:u * sv s z + v * sv t z = (u * s.1 + v * t.1) * z.1 + (u * s.2.1 + v * t.2.1) * z.2.1 - (u * s.2.2 + v * t.2.2) * z.2.2:=by
  unfold sv
  simp only [Int.mul_sub,Int.mul_add,Int.add_mul,Int.mul_comm,Int.mul_left_comm]
  omega
 rw [e,h1,h2,Int.zero_mul,Int.zero_mul]
 omega
theorem sum3 {u v x:Int} {s t r z:P3} (h1:u * s.1 + v * t.1 + x * r.1 = 0) (h2:u * s.2.1 + v * t.2.1 + x * r.2.1 = 0):u * sv s z + v * sv t z + x * sv r z = -((u * s.2.2 + v * t.2.2 + x * r.2.2) * z.2.2):=by
 have e:u * sv s z + v * sv t z + x * sv r z = (u * s.1 + v * t.1 + x * r.1) * z.1 + (u * s.2.1 + v * t.2.1 + x * r.2.1) * z.2.1 - (u * s.2.2 + v * t.2.2 + x * r.2.2) * z.2.2:=by
  unfold sv
  simp only [Int.mul_sub,Int.mul_add,Int.add_mul,Int.mul_comm,Int.mul_left_comm]
  omega
 rw [e,h1,h2,Int.zero_mul,Int.zero_mul]
 omega
theorem zLj {u x:Int} (hu:0 < u) (hx:x≤0):u * x≤0:=by
 have:=Int.mul_nonneg (Int.le_of_lt hu) (show 0≤-x by omega)
 rw [Int.mul_neg] at this
 omega
theorem zMw.no {ss:List Sd} {cs:List (Int × Int)} (h:zMw ss cs) (z:P3) (zw:0 < z.2.2):¬ inW ss z:=fun wz=>by
 rcases h with ⟨i,j,u,v,s,t,_,_,gs,gt,hu,hv,_,_,z1,z2,z3⟩ | ⟨i,j,k,u,v,x,s,t,r,_,_,_,gs,gt,gr,hu,hv,hx,_,_,_,z1,z2,z3⟩
 ·have e:=sum2 (z:=z) (s:=s.2) (t:=t.2) z1 z2
  have a1:=zLj hu (wz s (List.mem_of_getElem? gs))
  have a2:=zLj hv (wz t (List.mem_of_getElem? gt))
  have a3:=Int.mul_neg_of_neg_of_pos z3 zw
  omega
 ·have e:=sum3 (z:=z) (s:=s.2) (t:=t.2) (r:=r.2) z1 z2
  have a1:=zLj hu (wz s (List.mem_of_getElem? gs))
  have a2:=zLj hv (wz t (List.mem_of_getElem? gt))
  have a4:=zLj hx (wz r (List.mem_of_getElem? gr))
  have a3:=Int.mul_neg_of_neg_of_pos z3 zw
  omega
def Cand (ss:List Sd) (P:P3):Prop:=P = (0,0,1)∨(∃ t∈ss,P = pt3 (ftL t.2))∨∃ t∈ss,∃ u∈ss,tn t.2 u.2≠0∧P = pt3 (crL t.2 u.2)
theorem zFf {e:P3} {h:Int} (hh:h * h = 1) (hN:0 < e.1 * e.1 + e.2.1 * e.2.1):∀ ss:List Sd,(∀ t∈ss,tn e t.2 * h≤0)∨∃ t∈ss,0 < tn e t.2 * h∧∀ u∈ss,0 < tn e u.2 * h→sv u.2 (pt3 (crL e t.2))≤0
 | []=>.inl fun _ h=>nomatch h
 | s :: ss=>by
  by_cases hs:0 < tn e s.2 * h
  ·obtain ⟨sp1,r1,r2⟩:=zB0 (zA3 hs)
   rcases zFf hh hN ss with n | ⟨t,mt,ht,a⟩
   ·refine .inr ⟨s,List.mem_cons_self ..,hs,fun u hu hp=>?_⟩
    rcases List.mem_cons.mp hu with rfl | hu
    ·exact Int.le_of_eq r2
    ·have:=n u hu
     omega
   ·obtain ⟨sp0,q1,q2⟩:=zB0 (zA3 ht)
    by_cases hin:sv s.2 (pt3 (crL e t.2))≤0
    ·refine .inr ⟨t,List.mem_cons_of_mem _ mt,ht,fun u hu hp=>?_⟩
     rcases List.mem_cons.mp hu with rfl | hu
     ·exact hin
     ·exact a u hu hp
    ·have d1:=zTp hh hN r1 q1 sp1.pos r2 (show 0 < sv s.2 (pt3 (crL e t.2)) by omega) hs
     refine .inr ⟨s,List.mem_cons_self ..,hs,fun u hu hp=>?_⟩
     rcases List.mem_cons.mp hu with rfl | hu
     ·exact Int.le_of_eq r2
     ·refine zKe hh hN r1 q1 sp1.pos sp0.pos u.2 ?_ (a u hu hp)
      have:=Int.mul_nonneg (show 0≤-(dl e (pt3 (crL e s.2)) (pt3 (crL e t.2)) * h) by omega) (Int.le_of_lt hp)
      rw [Int.neg_mul] at this
      omega
  ·rcases zFf hh hN ss with n | ⟨t,mt,ht,a⟩
   ·refine .inl fun u hu=>?_
    rcases List.mem_cons.mp hu with rfl | hu
    ·omega
    ·exact n u hu
   ·refine .inr ⟨t,List.mem_cons_of_mem _ mt,ht,fun u hu hp=>?_⟩
    rcases List.mem_cons.mp hu with rfl | hu
    ·exact absurd hp hs
    ·exact a u hu hp
end Sea

namespace L2
open PySem PySem.Spec PyProof.Rows PySem.W
section
variable {X:Cx}
theorem zLg:zI9 X (.builtin "sorted") (fun xs H Q=>∃ (l:Addr) (ns:List Int),xs = [.ref l]∧SqL X.K H l (ns.map V.int)∧ns.length < 64 ∧
  ∀ (p:Addr) (ms:List Int),H p = none→ms.Perm ns→ms.Pairwise (·≤·)→Q (.ref p) (upd H p (.lst (ms.map V.int)))):=by
 intro pins s σ H xs us Q I r h
 obtain ⟨l,ns,rfl,hq,h64,q⟩:=h
 obtain ⟨u,rfl,ru⟩:=Vals.one r
 cases ru
 obtain ⟨its,rv,pl,hz⟩:=I.list hq
 have hn:=rv.length
 rw [List.length_map] at hn
 refine sorted_ints (ns:=ns) pl.isList (zJm rv) (by omega) fun out ms a1 a2 a3=>?_
 obtain ⟨e,at'⟩:=sortedAll_at s.heap its out
 have fr:H (s.heap.objs.size + 1) = none:=I.hok.fresh (Nat.le_succ _)
 refine ⟨.ref (s.heap.objs.size + 1),_,I.laid (t':=s.toks) (a:=s.heap.objs.size + 1) (o:=.lst (ms.map V.int)) (fun b ob q=>sortedAll_old q) (Nat.le_succ _) ?_,rfl,q _ ms fr a2 a3⟩
 refine ⟨?_,out.toList,e,zIb a1,by simpa using at'⟩
 rw [List.length_map,a2.length_eq]
 exact Nat.le_trans (Nat.le_of_lt h64) (by rw [sizeLine_eq]; decide)
end
theorem zQb {ns:List Int} {i:Nat} {k:Int} (e:k = i) (h:i < ns.length):∃ n,ns[i]? = some n∧atI (ns.map V.int) k = some (.int n):=by
 refine ⟨ns[i],List.getElem?_eq_getElem h,?_⟩
 rw [e]
 exact zDm (by rw [List.getElem?_map,List.getElem?_eq_getElem h] <;> rfl)
theorem zFg {a b:Int} {ms:List Int} (h:ms.Perm [a,b]) (s:ms.Pairwise (·≤·)):(ms = [a,b]∧a≤b)∨(ms = [b,a]∧b≤a):=by
 match ms,h,s,h.length_eq with
 | [c,d],h,s,_ =>
  have le:c≤d:=by simpa using s
  have mc:c∈[a,b]:=h.mem_iff.mp (List.mem_cons_self ..)
  rw [List.mem_cons,List.mem_singleton] at mc
  rcases mc with rfl | rfl
  ·have z:=List.perm_cons c |>.mp h
   have e:=List.perm_singleton.mp z
   cases e
   exact .inl ⟨rfl,le⟩
  ·have z:=List.perm_cons c |>.mp (h.trans (List.Perm.swap c a []))
   have e:=List.perm_singleton.mp z
   cases e
   exact .inr ⟨rfl,le⟩
def PrAt (H:Hp) (cs:List Pr):Prop:=∀ t∈cs,H t.1 = some (.tup [.int t.2.1,.int t.2.2])
theorem PrAt.same {H H':Hp} {cs:List Pr} (h:PrAt H cs) (s:Same H H'):PrAt H' cs:=fun t ht=>s _ _ (h t ht)
end L2

namespace Sea
open PySem L2
theorem flat {a b x y u v:Int} (hn:a≠0∨b≠0) (h1:a * x + b * y = 0) (h2:a * u + b * v = 0):x * v - y * u = 0:=by
 have e1:a * (x * v - y * u) = (a * x + b * y) * v - (a * u + b * v) * y:=by
  simp only [Int.mul_sub,Int.add_mul,Int.mul_add,Int.mul_comm,Int.mul_left_comm]
  omega
 have e2:b * (x * v - y * u) = (a * u + b * v) * x - (a * x + b * y) * u:=by
  simp only [Int.mul_sub,Int.add_mul,Int.mul_add,Int.mul_comm,Int.mul_left_comm]
  omega
 rw [h1,h2,Int.zero_mul,Int.zero_mul,Int.sub_self] at e1 e2
 rcases hn with h | h
 ·exact (Int.mul_eq_zero.mp e1).resolve_left h
 ·exact (Int.mul_eq_zero.mp e2).resolve_left h
theorem zSj {x y u v:Int} (h1:Nat.gcd x.natAbs y.natAbs = 1) (h2:Nat.gcd u.natAbs v.natAbs = 1) (h:x * v - y * u = 0) (hp:0 < x * u + y * v):x = u∧y = v:=by
 have e:x.natAbs * v.natAbs = y.natAbs * u.natAbs:=by
  rw [← Int.natAbs_mul,← Int.natAbs_mul]
  congr 1
  omega
 have d1:x.natAbs ∣ u.natAbs:=Nat.Coprime.dvd_of_dvd_mul_left (m:=y.natAbs) h1 (by rw [← e]; exact Nat.dvd_mul_right _ _)
 have d2:u.natAbs ∣ x.natAbs:=Nat.Coprime.dvd_of_dvd_mul_right (n:=v.natAbs) h2 (by rw [e]; exact Nat.dvd_mul_left _ _)
 have h1':Nat.gcd y.natAbs x.natAbs = 1:=by rw [Nat.gcd_comm]; exact h1
 have h2':Nat.gcd v.natAbs u.natAbs = 1:=by rw [Nat.gcd_comm]; exact h2
 have d3:y.natAbs ∣ v.natAbs:=Nat.Coprime.dvd_of_dvd_mul_left (m:=x.natAbs) h1' (by rw [e]; exact Nat.dvd_mul_right _ _)
 have d4:v.natAbs ∣ y.natAbs:=Nat.Coprime.dvd_of_dvd_mul_right (n:=u.natAbs) h2' (by rw [← e]; exact Nat.dvd_mul_left _ _)
 have ex:=Nat.dvd_antisymm d1 d2
 have ey:=Nat.dvd_antisymm d3 d4
 have sx:x = u∨x = -u:=by omega
 have sy:y = v∨y = -v:=by omega
 have q1:0≤u * u:=by
  by_cases c:0≤u
  ·exact Int.mul_nonneg c c
  ·exact Int.le_of_lt (Int.mul_pos_of_neg_of_neg (by omega) (by omega))
 have q2:0≤v * v:=by
  by_cases c:0≤v
  ·exact Int.mul_nonneg c c
  ·exact Int.le_of_lt (Int.mul_pos_of_neg_of_neg (by omega) (by omega))
 rcases sx with rfl | rfl
 ·rcases sy with rfl | rfl
  ·exact ⟨rfl,rfl⟩
  ·rw [Int.neg_mul,Int.mul_comm v] at h
   have z:x * v = 0:=by omega
   rcases Int.mul_eq_zero.mp z with z | z
   ·rw [z,Int.zero_mul,Int.neg_mul] at hp
    omega
   ·rw [z]
    exact ⟨rfl,rfl⟩
 ·rcases sy with rfl | rfl
  ·rw [Int.neg_mul,Int.mul_comm y] at h
   have z:u * y = 0:=by omega
   rcases Int.mul_eq_zero.mp z with z | z
   ·rw [z]
    exact ⟨rfl,rfl⟩
   ·rw [z,Int.zero_mul,Int.neg_mul] at hp
    omega
  ·rw [Int.neg_mul,Int.neg_mul] at hp
   omega
structure zB6 (ss:List Sd) (x y:Int):Prop where
 low:Nat.gcd x.natAbs y.natAbs = 1
 way:∀ t∈ss,t.2.1 * x + t.2.2.1 * y≤0
 edge:∃ t∈ss,(t.2.1≠0∨t.2.2.1≠0)∧t.2.1 * x + t.2.2.1 * y = 0
theorem zIa {a b p q:Int} (h:a * p + b * q = 0) (hp:p≤0) (hq:q≤0) (hab:0 < a * b):p = 0∧q = 0:=by
 have ha:a≠0:=fun z=>by rw [z,Int.zero_mul] at hab; omega
 have hb:b≠0:=fun z=>by rw [z,Int.mul_zero] at hab; omega
 by_cases c:0 < a
 ·have cb:0 < b:=by
   by_cases d:0 < b
   ·exact d
   ·have:=Int.mul_neg_of_pos_of_neg c (show b < 0 by omega)
    omega
  have z1:=Int.mul_nonneg (Int.le_of_lt c) (show 0≤-p by omega)
  have z2:=Int.mul_nonneg (Int.le_of_lt cb) (show 0≤-q by omega)
  rw [Int.mul_neg] at z1 z2
  exact ⟨(Int.mul_eq_zero.mp (show a * p = 0 by omega)).resolve_left ha,(Int.mul_eq_zero.mp (show b * q = 0 by omega)).resolve_left hb⟩
 ·have cb:b < 0:=by
   by_cases d:b < 0
   ·exact d
   ·have:=Int.mul_neg_of_neg_of_pos (show a < 0 by omega) (show 0 < b by omega)
    omega
  have z1:=Int.mul_nonneg (show 0≤-a by omega) (show 0≤-p by omega)
  have z2:=Int.mul_nonneg (show 0≤-b by omega) (show 0≤-q by omega)
  rw [Int.neg_mul_neg] at z1 z2
  exact ⟨(Int.mul_eq_zero.mp (show a * p = 0 by omega)).resolve_left ha,(Int.mul_eq_zero.mp (show b * q = 0 by omega)).resolve_left hb⟩
theorem rel3 (a b x1 y1 x2 y2 x3 y3:Int):(x2 * y3 - y2 * x3) * (a * x1 + b * y1) + (x3 * y1 - y3 * x1) * (a * x2 + b * y2) + (x1 * y2 - y1 * x2) * (a * x3 + b * y3) = 0:=by
 simp only [Int.mul_sub,Int.sub_mul,Int.add_mul,Int.mul_add,Int.mul_comm,Int.mul_left_comm]
 omega
theorem zNy {x y:Int} (h:Nat.gcd x.natAbs y.natAbs = 1):x≠0∨y≠0:=by
 by_cases c:x = 0
 ·right
  intro z
  rw [c,z] at h
  exact absurd h (by decide)
 ·exact .inl c
theorem zB6.contra {ss:List Sd} {x1 y1 x2 y2 x3 y3:Int} (w1:zB6 ss x1 y1) (w2:zB6 ss x2 y2) (w3:zB6 ss x3 y3) (h:x1 * y2 - y1 * x2 = 0) (hn:x1 * x2 + y1 * y2 < 0):x1 * y3 - y1 * x3 = 0:=by
 obtain ⟨t,mt,nt,et⟩:=w3.edge
 have p1:=w1.way t mt
 have p2:=w2.way t mt
 have hN:=zJx (zNy w1.low)
 have e:(x1 * x1 + y1 * y1) * (t.2.1 * x2 + t.2.2.1 * y2) = (x1 * x2 + y1 * y2) * (t.2.1 * x1 + t.2.2.1 * y1) + (x1 * y2 - y1 * x2) * (t.2.2.1 * x1 - t.2.1 * y1):=by
  simp only [Int.mul_sub,Int.sub_mul,Int.add_mul,Int.mul_add,Int.mul_comm,Int.mul_left_comm]
  omega
 rw [h,Int.zero_mul,Int.add_zero] at e
 have z1:=Int.mul_nonneg (show 0≤x1 * x1 + y1 * y1 by omega) (show 0≤-(t.2.1 * x2 + t.2.2.1 * y2) by omega)
 have z2:=Int.mul_nonneg (show 0≤-(x1 * x2 + y1 * y2) by omega) (show 0≤-(t.2.1 * x1 + t.2.2.1 * y1) by omega)
 rw [Int.mul_neg] at z1
 rw [Int.neg_mul_neg] at z2
 have z:t.2.1 * x1 + t.2.2.1 * y1 = 0:=(Int.mul_eq_zero.mp (show (x1 * x2 + y1 * y2) * (t.2.1 * x1 + t.2.2.1 * y1) = 0 by omega)).resolve_left (by omega)
 exact flat nt z et
theorem dot_ne {x y u v:Int} (h:x * v - y * u = 0) (n1:x≠0∨y≠0) (n2:u≠0∨v≠0):x * u + y * v≠0:=fun z=>by
 have e:(x * x + y * y) * (u * u + v * v) = (x * u + y * v) * (x * u + y * v) + (x * v - y * u) * (x * v - y * u):=by
  simp only [Int.mul_sub,Int.sub_mul,Int.add_mul,Int.mul_add,Int.mul_comm,Int.mul_left_comm]
  omega
 rw [h,z,Int.zero_mul,Int.add_zero] at e
 have q1:=zJx n1
 have q2:=zJx n2
 have:=Int.mul_pos (show 0 < x * x + y * y by omega) (show 0 < u * u + v * v by omega)
 omega
theorem zB6.same {ss:List Sd} {x1 y1 x2 y2:Int} (w1:zB6 ss x1 y1) (w2:zB6 ss x2 y2) (d:¬ (x1 = x2∧y1 = y2)) (h:x1 * y2 - y1 * x2 = 0):x1 * x2 + y1 * y2 < 0:=by
 have:=dot_ne h (zNy w1.low) (zNy w2.low)
 by_cases c:0 < x1 * x2 + y1 * y2
 ·exact absurd (zSj w1.low w2.low h c) d
 ·omega
theorem zOl {ss:List Sd} {x1 y1 x2 y2 x3 y3:Int} (w1:zB6 ss x1 y1) (w2:zB6 ss x2 y2) (w3:zB6 ss x3 y3) (d12:¬ (x1 = x2∧y1 = y2)) (d13:¬ (x1 = x3∧y1 = y3)) (d23:¬ (x2 = x3∧y2 = y3)):False:=by
 have par:∀ {x1 y1 x2 y2 x3 y3:Int},zB6 ss x1 y1→zB6 ss x2 y2→zB6 ss x3 y3→¬ (x1 = x2∧y1 = y2)→¬ (x1 = x3∧y1 = y3)→¬ (x2 = x3∧y2 = y3)→x1 * y2 - y1 * x2≠0:=fun {x1 y1 x2 y2 x3 y3} w1 w2 w3 d12 d13 d23 h=>by
  have n12:=w1.same w2 d12 h
  have h13:=w1.contra w2 w3 h n12
  have n13:=w1.same w3 d13 h13
  have hN:=zJx (zNy w1.low)
  have e:(x1 * x1 + y1 * y1) * (x2 * x3 + y2 * y3) = (x1 * x2 + y1 * y2) * (x1 * x3 + y1 * y3) + (x1 * y2 - y1 * x2) * (x1 * y3 - y1 * x3):=by
   simp only [Int.mul_sub,Int.sub_mul,Int.add_mul,Int.mul_add,Int.mul_comm,Int.mul_left_comm]
   omega
  have e2:(x1 * x1 + y1 * y1) * (x2 * y3 - y2 * x3) = (x1 * x2 + y1 * y2) * (x1 * y3 - y1 * x3) - (x1 * y2 - y1 * x2) * (x1 * x3 + y1 * y3):=by
   simp only [Int.mul_sub,Int.sub_mul,Int.add_mul,Int.mul_add,Int.mul_comm,Int.mul_left_comm]
   omega
  rw [h,h13,Int.zero_mul,Int.add_zero] at e
  rw [h,h13,Int.zero_mul,Int.mul_zero,Int.sub_self] at e2
  have z:=(Int.mul_eq_zero.mp e2).resolve_left (by omega)
  have n23:=w2.same w3 d23 z
  have p:=Int.mul_pos_of_neg_of_neg n12 n13
  have q:=Int.mul_neg_of_pos_of_neg (show 0 < x1 * x1 + y1 * y1 by omega) n23
  omega
 have sw:∀ x y u v:Int,x * v - y * u = -(u * y - v * x):=fun x y u v=>by rw [Int.mul_comm u,Int.mul_comm v]; omega
 have a0:x2 * y3 - y2 * x3≠0:=par w2 w3 w1 d23 (fun z=>d12 ⟨z.1.symm,z.2.symm⟩) (fun z=>d13 ⟨z.1.symm,z.2.symm⟩)
 have b0:x3 * y1 - y3 * x1≠0:=par w3 w1 w2 (fun z=>d13 ⟨z.1.symm,z.2.symm⟩) (fun z=>d23 ⟨z.1.symm,z.2.symm⟩) d12
 have c0:x1 * y2 - y1 * x2≠0:=par w1 w2 w3 d12 d13 d23
 obtain ⟨t1,m1,n1,e1⟩:=w1.edge
 obtain ⟨t2,m2,n2,e2⟩:=w2.edge
 obtain ⟨t3,m3,n3,e3⟩:=w3.edge
 have r1:=rel3 t1.2.1 t1.2.2.1 x1 y1 x2 y2 x3 y3
 have r2:=rel3 t2.2.1 t2.2.2.1 x1 y1 x2 y2 x3 y3
 have r3:=rel3 t3.2.1 t3.2.2.1 x1 y1 x2 y2 x3 y3
 rw [e1,Int.mul_zero,Int.zero_add] at r1
 rw [e2,Int.mul_zero,Int.add_zero] at r2
 rw [e3,Int.mul_zero,Int.add_zero] at r3
 have k1:¬ 0 < (x3 * y1 - y3 * x1) * (x1 * y2 - y1 * x2):=fun p=>by
  have z:=zIa r1 (w2.way t1 m1) (w3.way t1 m1) p
  exact c0 (flat n1 e1 z.1)
 have k2:¬ 0 < (x2 * y3 - y2 * x3) * (x1 * y2 - y1 * x2):=fun p=>by
  have z:=zIa r2 (w1.way t2 m2) (w3.way t2 m2) p
  exact c0 (flat n2 z.1 e2)
 have k3:¬ 0 < (x2 * y3 - y2 * x3) * (x3 * y1 - y3 * x1):=fun p=>by
  have z:=zIa r3 (w1.way t3 m3) (w2.way t3 m3) p
  exact c0 (flat n3 z.1 z.2)
 generalize x2 * y3 - y2 * x3 = a at *
 generalize x3 * y1 - y3 * x1 = b at *
 generalize x1 * y2 - y1 * x2 = c at *
 have sg:∀ {p q:Int},p≠0→q≠0→¬ 0 < p * q→(0 < p∧q < 0)∨(p < 0∧0 < q):=fun {p q} hp hq h=>by
  by_cases cp:0 < p
  ·by_cases cq:0 < q
   ·exact absurd (Int.mul_pos cp cq) h
   ·exact .inl ⟨cp,by omega⟩
  ·by_cases cq:0 < q
   ·exact .inr ⟨by omega,cq⟩
   ·exact absurd (Int.mul_pos_of_neg_of_neg (by omega) (by omega)) h
 have s1:=sg b0 c0 k1
 have s2:=sg a0 c0 k2
 have s3:=sg a0 b0 k3
 omega
theorem WK.dir {ss:List Sd} {n:Nat} {k:List Int} (hn:∀ t∈ss,t.2.1≠0∨t.2.2.1≠0) (h:WK ss n k):∃ x y:Int,k = [x,y]∧zB6 ss x y:=by
 obtain ⟨j,t,_,gt,h⟩:=h
 have mt:=List.mem_of_getElem? gt
 have nt:=hn t mt
 have one:∀ X Y:Int,(X≠0∨Y≠0)→t.2.1 * X + t.2.2.1 * Y = 0→k = lowL [X,Y]→wayB ss X Y = true→∃ x y:Int,k = [x,y]∧zB6 ss x y:=fun X Y nXY e ek hw=>by
  obtain ⟨x,y,exy,gp,_,low,_⟩:=zHx nXY
  have ex:x = X / (gcdL [X,Y]:Int)∧y = Y / (gcdL [X,Y]:Int):=by
   have z:[X / (gcdL [X,Y]:Int),Y / (gcdL [X,Y]:Int)] = [x,y]:=exy
   cases z
   exact ⟨rfl,rfl⟩
  refine ⟨x,y,ek.trans exy,low,fun u hu=>?_,t,mt,nt,?_⟩
  ·have z:=zMm (ss:=ss) gp
   rw [hw,← ex.1,← ex.2] at z
   exact of_decide_eq_true (List.all_eq_true.mp z u hu)
  ·have g0:(0:Int) < (gcdL [X,Y]:Int):=by omega
   have eX:=zA9 (ns:=[X,Y]) (n:=X) (by simp)
   have eY:=zA9 (ns:=[X,Y]) (n:=Y) (by simp)
   rw [← ex.1] at eX
   rw [← ex.2] at eY
   have z:(t.2.1 * x + t.2.2.1 * y) * (gcdL [X,Y]:Int) = 0:=by
    rw [Int.add_mul,Int.mul_assoc,Int.mul_assoc,eX,eY]
    exact e
   rcases Int.mul_eq_zero.mp z with z | z
   ·exact z
   ·omega
 rcases h with ⟨e,hw⟩ | ⟨e,hw⟩
 ·exact one _ _ (by omega) (by rw [Int.mul_neg,Int.mul_comm t.2.2.1]; omega) e hw
 ·exact one _ _ (by omega) (by rw [Int.mul_neg,Int.mul_comm t.2.2.1]; omega) e hw
theorem zSu {ss:List Sd} {n:Nat} {ks:List (List Int)} (hn:∀ t∈ss,t.2.1≠0∨t.2.2.1≠0) (nd:ks.Nodup) (h:∀ k∈ks,WK ss n k):ks.length≤2:=by
 match ks,nd,h with
 | [],_,_=>exact Nat.zero_le _
 | [_],_,_=>exact (by decide:1≤2)
 | [_,_],_,_=>exact Nat.le_refl 2
 | a :: b :: c :: r,nd,h =>
  obtain ⟨x1,y1,rfl,w1⟩:=(h a (by simp)).dir hn
  obtain ⟨x2,y2,rfl,w2⟩:=(h b (by simp)).dir hn
  obtain ⟨x3,y3,rfl,w3⟩:=(h c (by simp)).dir hn
  simp only [List.nodup_cons,List.mem_cons,not_or] at nd
  exact (zOl w1 w2 w3 (fun z=>nd.1.1 (by rw [z.1,z.2])) (fun z=>nd.1.2.1 (by rw [z.1,z.2])) (fun z=>nd.2.1.1 (by rw [z.1,z.2]))).elim
end Sea

namespace Sea
open PySem L2
def dt (s g:P3):Int:=s.1 * g.1 + s.2.1 * g.2.1
theorem zFz (s t:P3):tn s t = -tn t s:=by
 unfold tn
 rw [Int.mul_comm s.1,Int.mul_comm s.2.1]
 omega
theorem zM5 (s:P3):tn s s = 0:=by
 unfold tn
 rw [Int.mul_comm]
 omega
theorem zP0 (t e g:P3):tn t e * (g.1 * g.1 + g.2.1 * g.2.1) = tn t g * dt e g + tn g e * dt t g:=by
 unfold tn dt
 simp only [Int.mul_sub,Int.sub_mul,Int.mul_add,Int.add_mul,Int.mul_comm,Int.mul_left_comm]
 omega
theorem pluck (t u e g:P3):tn t u * tn e g = tn t e * tn u g + tn t g * tn e u:=by
 unfold tn
 simp only [Int.mul_sub,Int.sub_mul,Int.mul_comm,Int.mul_left_comm]
 omega
theorem zCq {x y:Int} (h:0 < x * y) (hy:0 < y):0 < x:=by
 by_cases c:0 < x
 ·exact c
 ·have:=Int.mul_nonneg (show 0≤-x by omega) (Int.le_of_lt hy)
  rw [Int.neg_mul] at this
  omega
theorem zKx {α:Type} {p q:α→Bool} : ∀ {l:List α},(∀ a∈l,p a = true→q a = true)→(∃ a∈l,q a = true∧p a = false)→l.countP p < l.countP q
 | [],_,⟨_,h,_⟩=>nomatch h
 | x :: l,h,⟨a,ha,q1,p1⟩=>by
  have le:l.countP p≤l.countP q:=List.countP_mono_left fun b hb=>h b (List.mem_cons_of_mem _ hb)
  rw [List.countP_cons,List.countP_cons]
  rcases List.mem_cons.mp ha with rfl | ha
  ·rw [q1,p1]
   simp
   omega
  ·have z:=zKx (fun b hb=>h b (List.mem_cons_of_mem _ hb)) ⟨a,ha,q1,p1⟩
   by_cases hx:p x = true
   ·rw [hx,h x (List.mem_cons_self ..) hx]
    omega
   ·have hx':p x = false:=by simpa using hx
    rw [hx',if_neg (by decide)]
    omega
structure zM0 (ss:List Sd) (g:P3):Prop where
 nz:∀ t∈ss,t.2.1≠0∨t.2.2.1≠0
 gz:g.1≠0∨g.2.1≠0
 ways:∀ t∈ss,∀ h:Int,(h = 1∨h = -1)→(∀ s∈ss,tn t.2 s.2 * h≤0)→tn t.2 g * h≤0
 lead:¬ ∀ s∈ss,dt s.2 g≤0
 one:∀ t∈ss,tn t.2 g = 0→0 < dt t.2 g→∀ P:P3,0 < P.2.2→sv t.2 P = 0→¬ inW ss P
theorem zM0.right {ss:List Sd} {g:P3} (B:zM0 ss g) (two:∀ t∈ss,0 < tn t.2 g→∃ e∈ss,0 < tn t.2 e.2∧(∀ u∈ss,0 < tn t.2 u.2→sv u.2 (pt3 (crL t.2 e.2))≤0)∧¬ (0 < tn g e.2∧inW ss (pt3 (crL t.2 e.2)))) :
  ∀ (n:Nat) (t:Sd),t∈ss→0 < tn t.2 g→ss.countP (fun u=>decide (0 < tn u.2 g) && decide (0 < tn t.2 u.2)) < n→∀ P:P3,0 < P.2.2→sv t.2 P = 0→inW ss P→False
 | 0,_,_,_,h,_,_,_,_=>absurd h (Nat.not_lt_zero _)
 | n + 1,t,mt,ht,hc,P,pw,oP,wP=>by
  have hN:=zC2 (B.nz t mt)
  obtain ⟨e,me,he,ha,hno⟩:=two t mt ht
  obtain ⟨j,gj⟩:=List.getElem?_of_mem me
  have w1:=zJc (h:=1) (by decide) hN oP pw wP gj (by omega) (fun u hu hp=>ha u hu (by omega))
  obtain ⟨sp,c1,c2⟩:=zB0 (show tn t.2 e.2≠0 by omega)
  have hge:¬ 0 < tn g e.2:=fun z=>hno ⟨z,w1⟩
  have an:=zFz g e.2
  by_cases h0:tn g e.2 = 0
  ·have k:=zP0 t.2 e.2 g
   rw [h0,Int.zero_mul,Int.add_zero] at k
   have p:=Int.mul_pos he (zC2 B.gz)
   rw [k,Int.mul_comm] at p
   exact B.one e me (by omega) (zCq p ht) _ sp.pos c2 w1
  ·have heg:0 < tn e.2 g:=by omega
   refine zM0.right B two n e me heg (Nat.lt_of_lt_of_le (zKx (q:=fun u=>decide (0 < tn u.2 g) && decide (0 < tn t.2 u.2)) (fun u hu hp=>?_) ⟨e,me,?_,?_⟩) (Nat.le_of_lt_succ hc)) _ sp.pos c2 w1
   ·rw [Bool.and_eq_true,decide_eq_true_iff,decide_eq_true_iff] at hp ⊢
    refine ⟨hp.1,?_⟩
    have k:=pluck t.2 u.2 e.2 g
    have p1:=Int.mul_pos he hp.1
    have p2:=Int.mul_pos ht hp.2
    exact zCq (y:=tn e.2 g) (by omega) heg
   ·rw [decide_eq_true heg,decide_eq_true he]
    rfl
   ·rw [decide_eq_false (p:=0 < tn e.2 e.2) (by rw [zM5]; decide),Bool.and_false]
theorem zM0.left {ss:List Sd} {g:P3} (B:zM0 ss g) (rt:∀ t∈ss,0 < tn t.2 g→∀ P:P3,0 < P.2.2→sv t.2 P = 0→inW ss P→False) :
  ∀ (n:Nat) (t:Sd),t∈ss→0 < tn g t.2→ss.countP (fun u=>decide (0 < tn g u.2) && decide (0 < tn u.2 t.2)) < n→∀ P:P3,0 < P.2.2→sv t.2 P = 0→inW ss P→False
 | 0,_,_,_,h,_,_,_,_=>absurd h (Nat.not_lt_zero _)
 | n + 1,t,mt,ht,hc,P,pw,oP,wP=>by
  have hN:=zC2 (B.nz t mt)
  have at':=zFz t.2 g
  rcases zFf (h:=-1) (by decide) hN ss with no | ⟨e,me,he,ha⟩
  ·have:=B.ways t mt (-1) (.inr rfl) no
   omega
  ·obtain ⟨j,gj⟩:=List.getElem?_of_mem me
   have w1:=zJc (h:=-1) (by decide) hN oP pw wP gj he ha
   obtain ⟨sp,c1,c2⟩:=zB0 (zA3 he)
   have a1:=zFz t.2 e.2
   have a2:=zFz g e.2
   have het:0 < tn e.2 t.2:=by omega
   by_cases h1:0 < tn e.2 g
   ·exact rt e me h1 _ sp.pos c2 w1
   ·by_cases h0:tn e.2 g = 0
    ·have k:=zP0 e.2 t.2 g
     rw [h0,Int.zero_mul,Int.zero_add] at k
     have p:=Int.mul_pos het (zC2 B.gz)
     rw [k,Int.mul_comm] at p
     exact B.one e me h0 (zCq p ht) _ sp.pos c2 w1
    ·have hge:0 < tn g e.2:=by omega
     refine zM0.left B rt n e me hge (Nat.lt_of_lt_of_le (zKx (q:=fun u=>decide (0 < tn g u.2) && decide (0 < tn u.2 t.2)) (fun u hu hp=>?_) ⟨e,me,?_,?_⟩) (Nat.le_of_lt_succ hc)) _ sp.pos c2 w1
     ·rw [Bool.and_eq_true,decide_eq_true_iff,decide_eq_true_iff] at hp ⊢
      refine ⟨hp.1,?_⟩
      have k:=pluck u.2 t.2 e.2 g
      have p1:=Int.mul_pos hp.2 ht
      have p2:=Int.mul_pos hp.1 het
      have e1:tn u.2 t.2 * tn g e.2 = tn u.2 e.2 * tn g t.2 + tn g u.2 * tn e.2 t.2:=by
       have b1:=zFz e.2 g
       have b2:=zFz u.2 g
       rw [b1,at',b2,Int.mul_neg,Int.mul_neg,Int.neg_mul] at k
       omega
      exact zCq (y:=tn g e.2) (by omega) hge
     ·rw [decide_eq_true hge,decide_eq_true het]
      rfl
     ·rw [decide_eq_false (p:=0 < tn e.2 e.2) (by rw [zM5]; decide),Bool.and_false]
theorem no_far {ss:List Sd} {g:P3} (B:zM0 ss g) (two:∀ t∈ss,0 < tn t.2 g→∃ e∈ss,0 < tn t.2 e.2∧(∀ u∈ss,0 < tn t.2 u.2→sv u.2 (pt3 (crL t.2 e.2))≤0)∧¬ (0 < tn g e.2∧inW ss (pt3 (crL t.2 e.2))))
  {z:P3} (zw:0 < z.2.2) (wz:inW ss z):False:=by
 have rt:∀ t∈ss,0 < tn t.2 g→∀ P:P3,0 < P.2.2→sv t.2 P = 0→inW ss P→False:=fun t mt ht=>B.right two _ t mt ht (Nat.lt_succ_self _)
 have lf:∀ t∈ss,0 < tn g t.2→∀ P:P3,0 < P.2.2→sv t.2 P = 0→inW ss P→False:=fun t mt ht=>B.left rt _ t mt ht (Nat.lt_succ_self _)
 let e0:P3:=(g.2.1 * z.2.2,-(g.1 * z.2.2),g.2.1 * z.1 - g.1 * z.2.1)
 have o0:sv e0 z = 0:=by
  show g.2.1 * z.2.2 * z.1 + -(g.1 * z.2.2) * z.2.1 - (g.2.1 * z.1 - g.1 * z.2.1) * z.2.2 = 0
  simp only [Int.sub_mul,Int.mul_sub,Int.neg_mul,Int.mul_neg,Int.mul_comm,Int.mul_left_comm]
  omega
 have t0:∀ t:P3,tn e0 t = dt t g * z.2.2:=fun t=>by
  show g.2.1 * z.2.2 * t.2.1 - -(g.1 * z.2.2) * t.1 = (t.1 * g.1 + t.2.1 * g.2.1) * z.2.2
  simp only [Int.add_mul,Int.mul_add,Int.neg_mul,Int.mul_neg,Int.mul_comm,Int.mul_left_comm]
  omega
 have n0:e0.1≠0∨e0.2.1≠0:=by
  rcases B.gz with h | h
  ·right
   show -(g.1 * z.2.2)≠0
   have:=Int.mul_ne_zero h (show z.2.2≠0 by omega)
   omega
  ·left
   exact Int.mul_ne_zero h (by omega)
 have hN:=zC2 n0
 rcases zFf (h:=1) (by decide) hN ss with no | ⟨t,mt,ht,ha⟩
 ·refine B.lead fun s hs=>?_
  have:=no s hs
  rw [t0,Int.mul_one] at this
  by_cases c:dt s.2 g≤0
  ·exact c
  ·have:=Int.mul_pos (show 0 < dt s.2 g by omega) zw
   omega
 ·obtain ⟨j,gj⟩:=List.getElem?_of_mem mt
  have w1:=zJc (h:=1) (by decide) hN o0 zw wz gj ht ha
  obtain ⟨sp,c1,c2⟩:=zB0 (zA3 ht)
  have hd:0 < dt t.2 g:=by
   rw [t0,Int.mul_one] at ht
   exact zCq ht zw
  have an:=zFz g t.2
  by_cases h1:0 < tn t.2 g
  ·exact rt t mt h1 _ sp.pos c2 w1
  ·by_cases h0:tn t.2 g = 0
   ·exact B.one t mt h0 hd _ sp.pos c2 w1
   ·exact lf t mt (by omega) _ sp.pos c2 w1
end Sea

namespace L2
open PySem PySem.Spec PyProof.Rows PySem.W
def TupF (h:Heap) (v:Value) (x:Int):Prop:=∃ (a:Addr) (o:Obj) (n:Nat) (t:Tok) (rest:List Value),v = .ref a∧h.get? a = some o∧o.cls = .type "tuple" ∧ o.data = .seq (Value.int x t :: rest).toArray n
theorem TupF.keep {h h':Heap} {v:Value} {x:Int} (e:TupF h v x) (k:∀ b o,h.get? b = some o→h'.get? b = some o):TupF h' v x:=by
 obtain ⟨a,o,n,t,r,e1,e2,e3⟩:=e
 exact ⟨a,o,n,t,r,e1,k _ _ e2,e3⟩
theorem zRx:kas_sort 2 = .ask 1 0 fun c=>if c = true then .ret #[1,0] else .ret #[0,1]:=by
 have e:kas_sort 2 = .ask 1 0 fun c=>match c with | true=>.ret #[1,0] | false=>.ret #[0,1]:=by
  unfold kas_sort
  show KasT.ask 1 0 _ = _
  congr 1
  funext c
  cases c <;> rfl
 rw [e]
 congr 1
 funext c
 cases c <;> rfl
section
variable {prog:Program} {w:World} {A:Around} {E:Value→Shared→Prop} {s:Shared}
theorem zRl {u v:Value} {x y:Int} {C:Bool→Shared→Prop} (hu:TupF s.heap u x) (hv:TupF s.heap v y) (hn:x≠y) (h:C (decide (x < y)) s):wpAny (model prog w) A (keyLt' (tuples' true) u v) C E s:=by
 obtain ⟨p,o,n,t,us,rfl,ho,_,hd⟩:=hu
 obtain ⟨q,o',n',t',ws,rfl,ho',_,hd'⟩:=hv
 refine kat_lt ho hd ho' hd' ?_
 show KatLex prog w A true _ C ((Value.int x t,Value.int y t') :: us.zip ws) 0 s
 refine kat_cons (wpAny_eqBool_int ?_)
 rw [show (x == y) = false from by simpa using hn]
 exact kat_no (oneLt_int h)
theorem zOp {l:Addr} {u v:Value} {x y:Int} {Q:Value→Shared→Prop} (hl:s.heap.IsList l [u,v].toArray) (hu:TupF s.heap u x) (hv:TupF s.heap v y) (hn:x≠y)
  (h:Q (.ref (s.heap.objs.size + 1)) { s with heap:=sortedAll s.heap [u,v] (if y < x then [v,u] else [u,v]).toArray }) :
  wpAny (model prog w) A (call (.builtin "sorted") [.ref l]) Q E s:=by
 refine zQz (κ:=tuples' true) (G:=fun out=>out = if y < x then [v,u] else [u,v]) hl (by show 2 < 64; decide) (fun h2 s' kp E' Q' hq=>?_) (fun h2 s' kp=>?_) (fun h2=>absurd (show 2 < 2 from h2) (by decide)) fun out hz e=>by rw [e]; exact h
 ·have hu':=hu.keep kp
  have hv':=hv.keep kp
  obtain ⟨p,o,n,t,us,e1,ho,hc,hd⟩:=hu'
  obtain ⟨q,o',n',t',ws,e2,ho',hc',hd'⟩:=hv'
  have a1:KatTups s'.heap [u,v] [.int x t,.int y t']:=by
   rw [e1,e2]
   exact KatTups.cons ho hc hd rfl (KatTups.cons ho' hc' hd' rfl .nil)
  refine kat_kind (T:=Value.type "int") a1 (by show 0 < 2; decide) (fun z hz=>?_) rfl (by first | exact hq | (rw [show (Value.type "int" != Value.type "tuple") = true from by first | decide | simp]; exact hq))
  rcases List.mem_cons.mp hz with rfl | hz
  ·exact .now
  ·rw [List.mem_singleton] at hz
   rw [hz]
   exact .now
 ·rw [show [u,v].length = 2 from rfl,zRx]
  show kas_ask prog w A.in1.in1 (tuples' true) [u,v] 1 0 _ s'
  refine zRl (hv.keep kp) (hu.keep kp) (fun z=>hn z.symm) ?_
  by_cases c:y < x
  ·rw [decide_eq_true c,if_pos c]
   exact ⟨rfl,rfl⟩
  ·rw [decide_eq_false c,if_neg c]
   exact ⟨rfl,rfl⟩
end
section
variable {X:Cx}
theorem zLp:zI9 X (.builtin "sorted") (fun xs H Q=>∃ (l a b:Addr) (x y:Int) (us ws:List V),xs = [.ref l]∧SqL X.K H l [.ref a,.ref b]∧H a = some (.tup (.int x :: us))∧H b = some (.tup (.int y :: ws))∧x≠y ∧
  ∀ p:Addr,H p = none→Q (.ref p) (upd H p (.lst (if y < x then [.ref b,.ref a] else [.ref a,.ref b])))):=by
 intro pins s σ H xs us Q I r h
 obtain ⟨l,a,b,x,y,us',ws',rfl,hq,ha,hb,hn,q⟩:=h
 obtain ⟨u,rfl,ru⟩:=Vals.one r
 cases ru
 obtain ⟨its,rv,pl,hz⟩:=I.list hq
 have ei:=zEm (rs:=[a,b]) rv
 subst ei
 have tf:∀ {a:Addr} {x:Int} {us:List V},H a = some (.tup (.int x :: us))→TupF s.heap (.ref a) x:=fun {a x us} ha=>by
  obtain ⟨its,r1,⟨o,e,c,n,d⟩,_⟩:=I.tuple (SqT.of ha)
  cases r1 with
  | cons p1 q1 =>
   obtain ⟨t,rfl⟩:=p1
   exact ⟨_,o,n,t,_,rfl,e,c,d⟩
 refine zOp (u:=.ref a) (v:=.ref b) pl.isList (tf ha) (tf hb) hn ?_
 have fr:H (s.heap.objs.size + 1) = none:=I.hok.fresh (Nat.le_succ _)
 by_cases c:y < x
 ·rw [if_pos c]
  have q':=q _ fr
  rw [if_pos c] at q'
  obtain ⟨e,at'⟩:=sortedAll_at s.heap [.ref a,.ref b] [Value.ref b,Value.ref a].toArray
  exact ⟨.ref (s.heap.objs.size + 1),_,I.laid (t':=s.toks) (a:=s.heap.objs.size + 1) (o:=.lst [.ref b,.ref a]) (fun b ob q=>sortedAll_old q) (Nat.le_succ _) ⟨(by show 2≤sizeLine; rw [sizeLine_eq]; decide),_,e,zD7 [b,a],at'⟩,rfl,q'⟩
 ·rw [if_neg c]
  have q':=q _ fr
  rw [if_neg c] at q'
  obtain ⟨e,at'⟩:=sortedAll_at s.heap [.ref a,.ref b] [Value.ref a,Value.ref b].toArray
  exact ⟨.ref (s.heap.objs.size + 1),_,I.laid (t':=s.toks) (a:=s.heap.objs.size + 1) (o:=.lst [.ref a,.ref b]) (fun b ob q=>sortedAll_old q) (Nat.le_succ _) ⟨(by show 2≤sizeLine; rw [sizeLine_eq]; decide),_,e,zD7 [a,b],at'⟩,rfl,q'⟩
def tOrT (K:PySem.W.Frag) (ta tb:TE):TE:=fun σ H Q=>ta σ H fun x H1=>∃ k,TruV K x H1 k∧if k = true then Q x H1 else tb σ H1 Q
theorem pe_orT {a b:Expr} {rest:List Expr} {pos:Pos} {ta tb:TE} (ha:PE X a ta) (hb:PE X (.BoolOp .Or (b :: rest) pos) tb):PE X (.BoolOp .Or (a :: b :: rest) pos) (tOrT X.K ta tb):=by
 intro pins s σ H Q I h
 refine BoolOp_or (thn (ha pins s σ H _ I h) fun v s1 ⟨x,H1,I1,r1,q1⟩=>?_)
 obtain ⟨k,tk,q1⟩:=q1
 refine thn (tru_ok pins s1 σ H1 x v (fun c H2=>H2 = H1∧c = k) I1 r1 ⟨k,tk,rfl,rfl⟩) fun c s2 ⟨H2,I2,e,ec⟩=>?_
 subst e ec
 cases c with
 | false=>exact hb pins s2 σ H2 Q I2 q1
 | true=>exact ⟨x,H2,I2,r1,q1⟩
end
end L2

namespace Sea
open PySem L2
def Far (ss:List Sd) (g P:P3) (ws:List (Int × Int × Int)):Prop :=
 (∃ (i:Nat) (p q:Int) (s:Sd),ws = [((i:Int),p,q)]∧ss[i]? = some s∧0 < p∧0 < q∧p≤10 ^ 19∧q≤10 ^ 19∧Nat.gcd p.natAbs q.natAbs = 1∧p * s.2.1 = q * g.1∧p * s.2.2.1 = q * g.2.1∧sv s.2 P = 0) ∨
 ∃ (i j:Nat) (p q p' q':Int) (s t:Sd),ws = [((i:Int),p,q),((j:Int),p',q')]∧i < j∧ss[i]? = some s∧ss[j]? = some t∧(0 < p∧0 < q∧p≤10 ^ 19∧q≤10 ^ 19∧Nat.gcd p.natAbs q.natAbs = 1)∧(0 < p'∧0 < q'∧p'≤10 ^ 19∧q'≤10 ^ 19∧Nat.gcd p'.natAbs q'.natAbs = 1) ∧
  p * s.2.1 * q' + p' * t.2.1 * q = q * q' * g.1∧p * s.2.2.1 * q' + p' * t.2.2.1 * q = q * q' * g.2.1∧sv s.2 P = 0∧sv t.2 P = 0
theorem zSr (x:Int):absI (-x) = absI x:=by
 unfold absI
 split <;> split <;> omega
theorem zRw {s g:P3} (ht:tn s g = 0) (hd:0 < dt s g):zBd g.1 g.2.1 * s.1 = zBd s.1 s.2.1 * g.1∧zBd g.1 g.2.1 * s.2.1 = zBd s.1 s.2.1 * g.2.1:=by
 have cr:g.1 * s.2.1 = g.2.1 * s.1:=by
  unfold tn at ht
  rw [Int.mul_comm g.1,Int.mul_comm g.2.1]
  rw [Int.mul_comm s.1,Int.mul_comm s.2.1] at ht
  rw [Int.mul_comm s.2.1 g.1,Int.mul_comm s.1 g.2.1]
  omega
 have pr:0≤(g.1 * -s.1) * (g.2.1 * -s.2.1):=by
  have e0:(g.1 * -s.1) * (g.2.1 * -s.2.1) = (g.1 * s.2.1) * (g.2.1 * s.1):=by
   simp only [Int.mul_neg,Int.neg_mul,Int.neg_neg,Int.mul_comm,Int.mul_left_comm]
  rw [e0,← cr]
  exact sq_nn _
 obtain ⟨o1,o2⟩:=zJv (show g.1 * -s.1 + g.2.1 * -s.2.1 < 0 by
  unfold dt at hd
  rw [Int.mul_neg,Int.mul_neg,Int.mul_comm g.1,Int.mul_comm g.2.1]
  omega) pr
 have cn:g.1 * -s.2.1 = g.2.1 * -s.1:=by rw [Int.mul_neg,Int.mul_neg,cr]
 have a1:=par (e1:=g.1) (e2:=g.1) (s1:=-s.1) (s2:=-s.1) rfl o1
 have a2:=par (e1:=g.1) (e2:=g.2.1) (s1:=-s.1) (s2:=-s.2.1) cn o2
 have a3:=par (e1:=g.2.1) (e2:=g.1) (s1:=-s.2.1) (s2:=-s.1) cn.symm o1
 have a4:=par (e1:=g.2.1) (e2:=g.2.1) (s1:=-s.2.1) (s2:=-s.2.1) rfl o2
 rw [zSr,Int.mul_neg] at a1 a2 a3 a4
 unfold zBd
 constructor
 ·rw [Int.add_mul,Int.add_mul]
  omega
 ·rw [Int.add_mul,Int.add_mul]
  omega
theorem zQc {x y k:Int} (hk:k≠0) (h:x * k = y * k):x = y:=Int.eq_of_mul_eq_mul_right hk h
theorem zKv {t b x y:Int} (pt:zEu t b x y) (ht:0 < t) (hb:0 < b):0 < x∧0 < y:=by
 have hy:=pt.pos
 refine ⟨?_,by omega⟩
 have e:=pt.eq
 have p:=Int.mul_pos (show 0 < y by omega) ht
 rw [← e] at p
 exact zCq p hb
theorem zTz {ss:List Sd} {g P:P3} {i:Nat} {s:Sd} {x y:Int} (gs:ss[i]? = some s) (ns:s.2.1≠0∨s.2.2.1≠0) (ng:g.1≠0∨g.2.1≠0) (ht:tn s.2 g = 0) (hd:0 < dt s.2 g) (pt:zEu (zBd g.1 g.2.1) (zBd s.2.1 s.2.2.1) x y) (b1:zBd g.1 g.2.1≤10 ^ 19) (b2:zBd s.2.1 s.2.2.1≤10 ^ 19) (on:sv s.2 P = 0):Far ss g P [((i:Int),x,y)]:=by
 obtain ⟨e1,e2⟩:=zRw ht hd
 have pS:=zD8 ns
 have pG:=zD8 ng
 obtain ⟨px,py⟩:=zKv pt pG pS
 have xl:=pt.xle
 have yl:=pt.yle
 have e:=pt.eq
 refine .inl ⟨i,x,y,s,rfl,gs,px,py,by omega,by omega,pt.low,?_,?_,on⟩
 ·refine zQc (k:=zBd s.2.1 s.2.2.1) (by omega) ?_
  rw [Int.mul_right_comm,e,Int.mul_assoc,show zBd g.1 g.2.1 * s.2.1 = zBd s.2.1 s.2.2.1 * g.1 from e1,Int.mul_assoc,Int.mul_comm g.1]
 ·refine zQc (k:=zBd s.2.1 s.2.2.1) (by omega) ?_
  rw [Int.mul_right_comm,e,Int.mul_assoc,show zBd g.1 g.2.1 * s.2.2.1 = zBd s.2.1 s.2.2.1 * g.2.1 from e2,Int.mul_assoc,Int.mul_comm g.2.1]
theorem zSs (s t g:P3):tn g t * s.1 + tn s g * t.1 = tn s t * g.1∧tn g t * s.2.1 + tn s g * t.2.1 = tn s t * g.2.1:=by
 unfold tn
 constructor
 ·simp only [Int.sub_mul,Int.mul_sub,Int.mul_comm,Int.mul_left_comm]
  omega
 ·simp only [Int.sub_mul,Int.mul_sub,Int.mul_comm,Int.mul_left_comm]
  omega
theorem zQl {p q p' q' A B W a b c:Int} (hW:W≠0) (h1:p * W = q * A) (h2:p' * W = q' * B) (h:A * a + B * b = W * c):p * a * q' + p' * b * q = q * q' * c:=by
 refine zQc hW ?_
 have e:(p * a * q' + p' * b * q) * W = p * W * (a * q') + p' * W * (b * q):=by
  simp only [Int.add_mul,Int.mul_add,Int.mul_comm,Int.mul_left_comm]
 rw [e,h1,h2]
 have e2:q * A * (a * q') + q' * B * (b * q) = q * q' * (A * a + B * b):=by
  simp only [Int.mul_add,Int.add_mul,Int.mul_comm,Int.mul_left_comm]
 rw [e2,h]
 simp only [Int.mul_comm,Int.mul_left_comm]
theorem zUo {ss:List Sd} {g P:P3} {i j:Nat} {s t:Sd} {p q p' q':Int} (gs:ss[i]? = some s) (gt:ss[j]? = some t) (hW:0 < tn s.2 t.2) (hA:0 < tn g t.2) (hB:0 < tn s.2 g) (p1:zEu (tn g t.2) (tn s.2 t.2) p q) (p2:zEu (tn s.2 g) (tn s.2 t.2) p' q')
  (bA:tn g t.2≤10 ^ 19) (bB:tn s.2 g≤10 ^ 19) (bW:tn s.2 t.2≤10 ^ 19) (o1:sv s.2 P = 0) (o2:sv t.2 P = 0) (hij:i≠j):Far ss g P (if j < i then [((j:Int),p',q'),((i:Int),p,q)] else [((i:Int),p,q),((j:Int),p',q')]):=by
 obtain ⟨c1,c2⟩:=zSs s.2 t.2 g
 obtain ⟨a1,a2⟩:=zKv p1 hA hW
 obtain ⟨a3,a4⟩:=zKv p2 hB hW
 have x1:=p1.xle
 have x2:=p1.yle
 have x3:=p2.xle
 have x4:=p2.yle
 have k1:=zQl (show tn s.2 t.2≠0 by omega) p1.eq p2.eq c1
 have k2:=zQl (show tn s.2 t.2≠0 by omega) p1.eq p2.eq c2
 have w1:0 < p∧0 < q∧p≤10 ^ 19∧q≤10 ^ 19∧Nat.gcd p.natAbs q.natAbs = 1:=⟨a1,a2,by omega,by omega,p1.low⟩
 have w2:0 < p'∧0 < q'∧p'≤10 ^ 19∧q'≤10 ^ 19∧Nat.gcd p'.natAbs q'.natAbs = 1:=⟨a3,a4,by omega,by omega,p2.low⟩
 by_cases c:j < i
 ·rw [if_pos c]
  refine .inr ⟨j,i,p',q',p,q,t,s,rfl,c,gt,gs,w2,w1,?_,?_,o2,o1⟩
  ·rw [Int.mul_comm q' q]
   have z:p * s.2.1 * q' + p' * t.2.1 * q = q * q' * g.1:=k1
   omega
  ·rw [Int.mul_comm q' q]
   have z:p * s.2.2.1 * q' + p' * t.2.2.1 * q = q * q' * g.2.1:=k2
   omega
 ·rw [if_neg c]
  exact .inr ⟨i,j,p,q,p',q',s,t,rfl,by omega,gs,gt,w1,w2,k1,k2,o1,o2⟩
theorem zRi {a b c x y w:Int} (h:a * x + b * y - c * w = 0):a * x + b * y = c * w:=by omega
theorem zR3 {t:P3} (h:t.1≠0∨t.2.1≠0) (b1:t.1.natAbs≤10 ^ 9) (b2:t.2.1.natAbs≤10 ^ 9) (b3:t.2.2.natAbs≤10 ^ 13):(pt3 (ftL t)).1.natAbs≤10 ^ 40∧(pt3 (ftL t)).2.1.natAbs≤10 ^ 40∧(pt3 (ftL t)).2.2.natAbs≤10 ^ 40:=by
 have hw:=zC2 h
 obtain ⟨x,y,w,el,sp⟩:=zF9 (X:=t.1 * t.2.2) (Y:=t.2.1 * t.2.2) (W:=t.1 * t.1 + t.2.1 * t.2.1) (by omega)
 have e1:ftL t = [x,y,w]:=el
 rw [e1]
 have z1:=zAh t.1 t.2.2 b1 b3
 have z2:=zAh t.2.1 t.2.2 b2 b3
 have z3:=zAh t.1 t.1 b1 b1
 have z4:=zAh t.2.1 t.2.1 b2 b2
 have x1:=sp.xle
 have x2:=sp.yle
 have x3:=sp.wle
 refine ⟨?_,?_,?_⟩
 ·show x.natAbs≤10 ^ 40
  omega
 ·show y.natAbs≤10 ^ 40
  omega
 ·show w.natAbs≤10 ^ 40
  omega
theorem Cand.small {ss:List Sd} {P:P3} (c:Cand ss P) (sm:∀ t∈ss,(t.2.1≠0∨t.2.2.1≠0)∧t.2.1.natAbs≤10 ^ 9∧t.2.2.1.natAbs≤10 ^ 9∧t.2.2.2.natAbs≤10 ^ 13):P.1.natAbs≤10 ^ 40∧P.2.1.natAbs≤10 ^ 40∧P.2.2.natAbs≤10 ^ 40:=by
 rcases c with rfl | ⟨t,mt,rfl⟩ | ⟨t,mt,u,mu,h,rfl⟩
 ·exact ⟨by decide,by decide,by decide⟩
 ·obtain ⟨n,b1,b2,b3⟩:=sm t mt
  exact zR3 n b1 b2 b3
 ·obtain ⟨_,b1,b2,b3⟩:=sm t mt
  obtain ⟨_,d1,d2,d3⟩:=sm u mu
  exact zNg h b1 b2 b3 d1 d2 d3
end Sea

namespace Sea
open PySem L2
theorem Far.most {ss:List Sd} {g P:P3} {ws:List (Int × Int × Int)} (h:Far ss g P ws) {z:P3} (zw:0 < z.2.2) (pw:0 < P.2.2) (wz:inW ss z):(g.1 * z.1 + g.2.1 * z.2.1) * P.2.2≤(g.1 * P.1 + g.2.1 * P.2.1) * z.2.2:=by
 have fin:∀ {X Y k:Int},0 < k→X * k≤Y * k→X≤Y:=fun hk h=>Int.le_of_mul_le_mul_right h hk
 rcases h with ⟨i,p,q,s,rfl,gs,hp,hq,_,_,_,e1,e2,on⟩ | ⟨i,j,p,q,p',q',s,t,rfl,hij,gs,gt,⟨hp,hq,_⟩,⟨hp',hq',_⟩,e1,e2,o1,o2⟩
 ·refine fin hq ?_
  have a1:(g.1 * z.1 + g.2.1 * z.2.1) * P.2.2 * q = p * (s.2.1 * z.1 + s.2.2.1 * z.2.1) * P.2.2:=by
   have z1:(g.1 * z.1 + g.2.1 * z.2.1) * P.2.2 * q = (q * g.1 * z.1 + q * g.2.1 * z.2.1) * P.2.2:=by
    simp only [Int.add_mul,Int.mul_add,Int.mul_comm,Int.mul_left_comm]
   rw [z1,← e1,← e2]
   simp only [Int.add_mul,Int.mul_add,Int.mul_comm,Int.mul_left_comm]
  have a2:(g.1 * P.1 + g.2.1 * P.2.1) * z.2.2 * q = p * (s.2.1 * P.1 + s.2.2.1 * P.2.1) * z.2.2:=by
   have z1:(g.1 * P.1 + g.2.1 * P.2.1) * z.2.2 * q = (q * g.1 * P.1 + q * g.2.1 * P.2.1) * z.2.2:=by
    simp only [Int.add_mul,Int.mul_add,Int.mul_comm,Int.mul_left_comm]
   rw [z1,← e1,← e2]
   simp only [Int.add_mul,Int.mul_add,Int.mul_comm,Int.mul_left_comm]
  have o:=zRi (show s.2.1 * P.1 + s.2.2.1 * P.2.1 - s.2.2.2 * P.2.2 = 0 from on)
  have wi:s.2.1 * z.1 + s.2.2.1 * z.2.1 - s.2.2.2 * z.2.2≤0:=wz s (List.mem_of_getElem? gs)
  rw [a1,a2,o]
  have b1:p * (s.2.1 * z.1 + s.2.2.1 * z.2.1) * P.2.2≤p * (s.2.2.2 * z.2.2) * P.2.2:=Int.mul_le_mul_of_nonneg_right (Int.mul_le_mul_of_nonneg_left (by omega) (Int.le_of_lt hp)) (Int.le_of_lt pw)
  refine Int.le_trans b1 (Int.le_of_eq ?_)
  simp only [Int.mul_comm,Int.mul_left_comm]
 ·refine fin (Int.mul_pos hq hq') ?_
  have key:∀ v:P3,(g.1 * v.1 + g.2.1 * v.2.1) * (q * q') = p * q' * (s.2.1 * v.1 + s.2.2.1 * v.2.1) + p' * q * (t.2.1 * v.1 + t.2.2.1 * v.2.1):=fun v=>by
   have z1:(g.1 * v.1 + g.2.1 * v.2.1) * (q * q') = (q * q' * g.1) * v.1 + (q * q' * g.2.1) * v.2.1:=by
    simp only [Int.add_mul,Int.mul_add,Int.mul_comm,Int.mul_left_comm]
   rw [z1,← e1,← e2]
   simp only [Int.add_mul,Int.mul_add,Int.mul_comm,Int.mul_left_comm]
   omega
  rw [Int.mul_right_comm,key z,Int.mul_right_comm (g.1 * P.1 + g.2.1 * P.2.1),key P]
  have oa:=zRi (show s.2.1 * P.1 + s.2.2.1 * P.2.1 - s.2.2.2 * P.2.2 = 0 from o1)
  have ob:=zRi (show t.2.1 * P.1 + t.2.2.1 * P.2.1 - t.2.2.2 * P.2.2 = 0 from o2)
  have wi:s.2.1 * z.1 + s.2.2.1 * z.2.1 - s.2.2.2 * z.2.2≤0:=wz s (List.mem_of_getElem? gs)
  have wj:t.2.1 * z.1 + t.2.2.1 * z.2.1 - t.2.2.2 * z.2.2≤0:=wz t (List.mem_of_getElem? gt)
  rw [oa,ob]
  have c1:=Int.mul_le_mul_of_nonneg_left (show s.2.1 * z.1 + s.2.2.1 * z.2.1≤s.2.2.2 * z.2.2 by omega) (Int.le_of_lt (Int.mul_pos hp hq'))
  have c2:=Int.mul_le_mul_of_nonneg_left (show t.2.1 * z.1 + t.2.2.1 * z.2.1≤t.2.2.2 * z.2.2 by omega) (Int.le_of_lt (Int.mul_pos hp' hq))
  have b1:=Int.mul_le_mul_of_nonneg_right (Int.add_le_add c1 c2) (Int.le_of_lt pw)
  refine Int.le_trans b1 (Int.le_of_eq ?_)
  simp only [Int.add_mul,Int.mul_add,Int.mul_comm,Int.mul_left_comm]
structure FarNums (x y m:Int) (P:P3):Prop where
 a1:(-x * P.2.2).natAbs≤10 ^ 60
 a2:(-y * P.2.2).natAbs≤10 ^ 60
 top:(x * P.1 + y * P.2.1).natAbs≤10 ^ 60
 t0:(-(x * P.1 + y * P.2.1)).natAbs≤10 ^ 60
 t1:(-(x * P.1 + y * P.2.1) - 1).natAbs≤10 ^ 60
 u1:(-x * P.2.2 * m).natAbs≤10 ^ 60
 u2:(-y * P.2.2 * m).natAbs≤10 ^ 60
 u3:(-(x * P.1 + y * P.2.1) * m - 1).natAbs≤10 ^ 60
 nw : -x * P.2.2≠0∨-y * P.2.2≠0
 nm : -x * P.2.2 * m≠0∨-y * P.2.2 * m≠0
 wd:P.2.2.natAbs≤10 ^ 60
end Sea

namespace L2
open PySem PySem.Spec PyProof.Rows

theorem zDa {x:Str} : ∀ (names:List (Str × NameKind)) (n:Nat) (acc:List (Str × Addr)),((x,NameKind.cell)∈names∨∃ c,acc.lookup x = some c)→∃ c,(cellsFrom n names acc).lookup x = some c
 | [],_,_,h=>h.elim (fun z=>nomatch z) id
 | (y,k) :: r,n,acc,h=>by
  unfold cellsFrom
  by_cases hk:(k == NameKind.cell) = true
  ·rw [if_pos hk]
   refine zDa r (n + 1) ((y,n) :: acc) ?_
   cases hx:x == y with
   | true=>exact .inr ⟨n,by rw [List.lookup_cons,hx]⟩
   | false =>
    rcases h with h | ⟨c,h⟩
    ·rcases List.mem_cons.mp h with e | e
     ·injection e with e1 _
      subst e1
      simp at hx
     ·exact .inl e
    ·exact .inr ⟨c,by rw [List.lookup_cons,hx]; exact h⟩
  ·rw [if_neg hk]
   refine zDa r n acc ?_
   rcases h with h | h
   ·rcases List.mem_cons.mp h with e | e
    ·injection e with _ e2
     subst e2
     exact absurd rfl hk
    ·exact .inl e
   ·exact .inr h
theorem zDx:∀ (names:List (Str × NameKind)) (h:Heap) (acc:List (Str × Addr)) (x:Str) (c:Addr),(cellsFrom h.objs.size names acc).lookup x = some c →
  (h.objs.size≤c∧(pushCells h names).IsCell c none∧(x,NameKind.cell)∈names)∨acc.lookup x = some c
 | [],_,_,_,_,e=>.inr e
 | (y,k) :: r,h,acc,x,c,e=>by
  unfold cellsFrom at e
  unfold pushCells
  by_cases hk:(k == NameKind.cell) = true
  ·rw [if_pos hk] at e
   rw [if_pos hk]
   have sz:(h.push { cls:=.type "cell", data:=.cell none }).objs.size = h.objs.size + 1:=Heap.size_push ..
   rcases zDx r (h.push { cls:=.type "cell", data:=.cell none }) ((y,h.objs.size) :: acc) x c (by rw [sz]; exact e) with ⟨a,b,m⟩ | e'
   ·exact .inl ⟨by rw [sz] at a; exact Nat.le_of_succ_le a,b,List.mem_cons_of_mem _ m⟩
   ·rw [List.lookup_cons] at e'
    cases hx:x == y with
    | true =>
     rw [hx] at e'
     have ec:h.objs.size = c:=Option.some.inj e'
     have ex:x = y:=by simpa using hx
     have ek:k = NameKind.cell:=by simpa using hk
     subst ec ex ek
     exact .inl ⟨Nat.le_refl _,⟨_,pushCells_keeps r _ _ _ (Heap.get?_push_size _ rfl),rfl⟩,List.mem_cons_self⟩
    | false =>
     rw [hx] at e'
     exact .inr e'
  ·rw [if_neg hk] at e
   rw [if_neg hk]
   rcases zDx r h acc x c e with ⟨a,b,m⟩ | e'
   ·exact .inl ⟨a,b,List.mem_cons_of_mem _ m⟩
   ·exact .inr e'
theorem zEn:∀ (names:List (Str × NameKind)) (n:Nat) (acc:List (Str × Addr)),(∀ x y c,acc.lookup x = some c→acc.lookup y = some c→x = y)→(∀ x c,acc.lookup x = some c→c < n) →
  ∀ x y c,(cellsFrom n names acc).lookup x = some c→(cellsFrom n names acc).lookup y = some c→x = y
 | [],_,_,hi,_=>hi
 | (z,k) :: r,n,acc,hi,hl=>by
  unfold cellsFrom
  by_cases hk:(k == NameKind.cell) = true
  ·rw [if_pos hk]
   refine zEn r (n + 1) ((z,n) :: acc) (fun x y c e1 e2=>?_) fun x c e=>?_
   ·rw [List.lookup_cons] at e1 e2
    cases hx:x == z with
    | true =>
     rw [hx] at e1
     cases hy:y == z with
     | true=>rw [show x = z by simpa using hx,show y = z by simpa using hy]
     | false =>
      rw [hy] at e2
      have:=hl y c e2
      rw [← Option.some.inj e1] at this
      exact absurd this (Nat.lt_irrefl _)
    | false =>
     rw [hx] at e1
     cases hy:y == z with
     | true =>
      rw [hy] at e2
      have:=hl x c e1
      rw [← Option.some.inj e2] at this
      exact absurd this (Nat.lt_irrefl _)
     | false =>
      rw [hy] at e2
      exact hi x y c e1 e2
   ·rw [List.lookup_cons] at e
    cases hx:x == z with
    | true=>rw [hx] at e; rw [← Option.some.inj e]; exact Nat.lt_succ_self _
    | false=>rw [hx] at e; exact Nat.lt_succ_of_lt (hl x c e)
  ·rw [if_neg hk]
   exact zEn r n acc hi hl
def zHz (scope:Scope) (x:Str):Bool:=scope.names.any fun y=>y.1 == x && y.2 == .cell
structure OwnScope (X:Cx) (caps:List (Str × Nat)) (scope:Scope):Prop where
 kind:scope.kind = .function
 dis:(scope.names.all fun x=>!(x.2 == .free) || !zHz scope x.1) = true
 loc:∀ y∈scope.names,y.2 = .local→scope.names.lookup y.1 = some .local
 clos:(scope.names.all fun x=>!(x.2 == .free) || (X.env.cells.lookup x.1).isSome) = true
 cap:zJl X scope caps
section
variable {X:Cx} {T:List Str} {caps:List (Str × Nat)} {scope:Scope} {elt target iter:Expr} {ifs:List Expr} {pos cpos:Pos} {wi:TI} {g:CC→TG} {tt:CC→TT} {te:CC→TE}

def rEqE (K:PySem.W.Frag):R2:=fun x y H Q=>∃ (a b:Addr) (rs:List Addr),x = .ref a∧y = .ref b∧SqL K H a (rs.map V.ref)∧SqL K H b []∧Q (.bl rs.isEmpty) H
theorem op_eqE (hu:X.A.units < cLine):OpR X (compareOp .Eq) (rEqE X.K):=by
 intro pins s σ H x y v u Q I rx ry h
 obtain ⟨a,b,rs,rfl,rfl,h1,h2,q⟩:=h
 cases rx
 cases ry
 obtain ⟨us,r1,p1,_⟩:=I.list h1
 obtain ⟨ws,r2,p2,_⟩:=I.list h2
 have e1:=zEm r1
 have e2:=Vals.zero r2
 subst e1 e2
 cases rs with
 | nil =>
  refine SeqAt.RcAt.lists (e:=fun _=>true) p1.isList p2.isList rfl hu (fun j g _=>absurd g (by simp)) X.prog X.w _ _ ?_
  exact ⟨.bl true,H,I,rfl,q⟩
 | cons r rs =>
  refine SeqAt.RcAt.lists_lengths p1.isList p2.isList (by simp) hu X.prog X.w _ _ ?_
  exact ⟨.bl false,H,I,rfl,q⟩
end
end L2

namespace Sea
open PySem L2
def InC (ss:List Sd) (x y:Int):Prop:=∀ t∈ss,t.2.1 * x + t.2.2.1 * y≤0
theorem zKp {ss:List Sd} {x y:Int} : wayB ss x y = true↔InC ss x y:=by
 unfold wayB InC
 rw [List.all_eq_true]
 exact ⟨fun h t ht=>of_decide_eq_true (h t ht),fun h t ht=>decide_eq_true (h t ht)⟩
theorem zEe {p q:Int} (hp:0 < p) (h:p * q≤0):q≤0:=by
 refine Int.not_lt.mp fun hq=>?_
 have:=Int.mul_pos hp hq
 omega
theorem zFc {a b m n:Int} (h:a * m + b * n = 0) (u v:Int):(a * a + b * b) * (u * m + v * n) = (a * n - b * m) * (v * a - u * b):=by
 have e:(a * a + b * b) * (u * m + v * n) - (a * n - b * m) * (v * a - u * b) = (a * m + b * n) * (a * u + b * v):=by
  simp only [Int.mul_sub,Int.sub_mul,Int.add_mul,Int.mul_add,Int.mul_comm,Int.mul_left_comm,Int.mul_assoc]
  omega
 rw [h,Int.zero_mul] at e
 omega
theorem zTm {a b:Int} (h:a≠0∨b≠0):0 < a * a + b * b:=zJx h
theorem zM6 {ss:List Sd} {t:Sd} {m n:Int} (nt:t.2.1≠0∨t.2.2.1≠0) (h:t.2.1 * m + t.2.2.1 * n = 0) (hm:m≠0∨n≠0) (hc:InC ss m n):InC ss (-t.2.2.1) t.2.1∨InC ss t.2.2.1 (-t.2.1):=by
 have pos:=zTm nt
 have nl:t.2.1 * n - t.2.2.1 * m≠0:=fun z=>by
  have e1:=zFc h 1 0
  have e2:=zFc h 0 1
  rw [z,Int.zero_mul (0 * t.2.1 - 1 * t.2.2.1)] at e1
  rw [z,Int.zero_mul (1 * t.2.1 - 0 * t.2.2.1)] at e2
  have f1:m = 0:=by
   rcases Int.mul_eq_zero.mp e1 with q | q
   ·omega
   ·omega
  have f2:n = 0:=by
   rcases Int.mul_eq_zero.mp e2 with q | q
   ·omega
   ·omega
  rcases hm with q | q
  ·exact q f1
  ·exact q f2
 rcases Int.lt_or_gt_of_ne nl with l | l
 ·refine .inr fun u hu=>?_
  have e:=zFc h u.2.1 u.2.2.1
  have hl:(t.2.1 * t.2.1 + t.2.2.1 * t.2.2.1) * (u.2.1 * m + u.2.2.1 * n)≤0:=Int.mul_nonpos_of_nonneg_of_nonpos (Int.le_of_lt pos) (hc u hu)
  rw [e] at hl
  have e2:(t.2.1 * n - t.2.2.1 * m) * (u.2.2.1 * t.2.1 - u.2.1 * t.2.2.1) = (-(t.2.1 * n - t.2.2.1 * m)) * (u.2.1 * t.2.2.1 + u.2.2.1 * -t.2.1):=by
   rw [Int.neg_mul,← Int.mul_neg]
   congr 1
   rw [Int.mul_neg]
   omega
  rw [e2] at hl
  exact zEe (by omega) hl
 ·refine .inl fun u hu=>?_
  have e:=zFc h u.2.1 u.2.2.1
  have hl:(t.2.1 * t.2.1 + t.2.2.1 * t.2.2.1) * (u.2.1 * m + u.2.2.1 * n)≤0:=Int.mul_nonpos_of_nonneg_of_nonpos (Int.le_of_lt pos) (hc u hu)
  rw [e] at hl
  have e2:u.2.2.1 * t.2.1 - u.2.1 * t.2.2.1 = u.2.1 * -t.2.2.1 + u.2.2.1 * t.2.1:=by
   rw [Int.mul_neg]
   omega
  rw [e2] at hl
  exact zEe l hl
theorem zK7 {t:Sd} : InC [t] (-t.2.2.1) t.2.1:=fun u hu=>by
 rw [List.mem_singleton.mp hu]
 have:t.2.1 * -t.2.2.1 + t.2.2.1 * t.2.1 = 0:=by rw [Int.mul_neg,Int.mul_comm t.2.2.1]; omega
 omega
theorem InC.cons {s:Sd} {r:List Sd} {x y:Int} (h1:s.2.1 * x + s.2.2.1 * y≤0) (h2:InC r x y):InC (s :: r) x y:=fun t ht=>by
 rcases List.mem_cons.mp ht with e | e
 ·rw [e]; exact h1
 ·exact h2 t e
theorem InC.tail {s:Sd} {r:List Sd} {x y:Int} (h:InC (s :: r) x y):InC r x y:=fun t ht=>h t (List.mem_cons_of_mem _ ht)
theorem zIx {x y:Int} (hxy:x≠0∨y≠0):∀ {ss:List Sd},(∀ t∈ss,t.2.1≠0∨t.2.2.1≠0)→ss≠[]→InC ss x y→∃ t∈ss,InC ss (-t.2.2.1) t.2.1∨InC ss t.2.2.1 (-t.2.1)
 | [],_,h,_=>absurd rfl h
 | [t],_,_,_=>⟨t,List.mem_singleton.mpr rfl,.inl zK7⟩
 | s :: s2 :: r,hn,_,hd=>by
  obtain ⟨t,mt,ht⟩:=zIx hxy (ss:=s2 :: r) (fun t mt=>hn t (List.mem_cons_of_mem _ mt)) (by simp) hd.tail
  have mt':t∈s :: s2 :: r:=List.mem_cons_of_mem _ mt
  have ns:=hn s List.mem_cons_self
  have one:∀ f g:Int,InC (s2 :: r) f g→(InC (s :: s2 :: r) f g∨InC (s :: s2 :: r) (-f) (-g))∨∃ t∈s :: s2 :: r,InC (s :: s2 :: r) (-t.2.2.1) t.2.1∨InC (s :: s2 :: r) t.2.2.1 (-t.2.1):=fun f g hf=>by
   by_cases hs:s.2.1 * f + s.2.2.1 * g≤0
   ·exact .inl (.inl (hf.cons hs))
   have hp:0 < s.2.1 * f + s.2.2.1 * g:=by omega
   have hsd:=hd s List.mem_cons_self
   have eS:s.2.1 * ((s.2.1 * f + s.2.2.1 * g) * x - (s.2.1 * x + s.2.2.1 * y) * f) + s.2.2.1 * ((s.2.1 * f + s.2.2.1 * g) * y - (s.2.1 * x + s.2.2.1 * y) * g) = 0:=by
    simp only [Int.mul_sub,Int.add_mul,Int.mul_add,Int.mul_comm,Int.mul_left_comm,Int.mul_assoc]
    omega
   have hm:InC (s :: s2 :: r) ((s.2.1 * f + s.2.2.1 * g) * x - (s.2.1 * x + s.2.2.1 * y) * f) ((s.2.1 * f + s.2.2.1 * g) * y - (s.2.1 * x + s.2.2.1 * y) * g):=by
    refine InC.cons (Int.le_of_eq eS) fun u hu=>?_
    have e:u.2.1 * ((s.2.1 * f + s.2.2.1 * g) * x - (s.2.1 * x + s.2.2.1 * y) * f) + u.2.2.1 * ((s.2.1 * f + s.2.2.1 * g) * y - (s.2.1 * x + s.2.2.1 * y) * g)
      = (s.2.1 * f + s.2.2.1 * g) * (u.2.1 * x + u.2.2.1 * y) + (-(s.2.1 * x + s.2.2.1 * y)) * (u.2.1 * f + u.2.2.1 * g):=by
     simp only [Int.mul_sub,Int.add_mul,Int.mul_add,Int.neg_mul,Int.mul_neg,Int.neg_add,Int.mul_comm,Int.mul_left_comm,Int.mul_assoc]
     omega
    rw [e]
    have z1:=Int.mul_nonpos_of_nonneg_of_nonpos (Int.le_of_lt hp) (hd.tail u hu)
    have z2:=Int.mul_nonpos_of_nonneg_of_nonpos (a:=-(s.2.1 * x + s.2.2.1 * y)) (by omega) (hf u hu)
    omega
   by_cases hz:(s.2.1 * f + s.2.2.1 * g) * x - (s.2.1 * x + s.2.2.1 * y) * f = 0∧(s.2.1 * f + s.2.2.1 * g) * y - (s.2.1 * x + s.2.2.1 * y) * g = 0
   ·-- the other way of f
    refine .inl (.inr fun u hu=>?_)
    have ne:s.2.1 * x + s.2.2.1 * y≠0:=fun z=>by
     have h1:=hz.1
     have h2:=hz.2
     rw [z,Int.zero_mul,Int.sub_zero] at h1 h2
     rcases hxy with q | q
     ·exact (Int.mul_eq_zero.mp h1).elim (fun e=>by omega) q
     ·exact (Int.mul_eq_zero.mp h2).elim (fun e=>by omega) q
    have lt:s.2.1 * x + s.2.2.1 * y < 0:=by omega
    have e:(-(s.2.1 * x + s.2.2.1 * y)) * (u.2.1 * -f + u.2.2.1 * -g) = (s.2.1 * f + s.2.2.1 * g) * (u.2.1 * x + u.2.2.1 * y):=by
     have a1:(s.2.1 * f + s.2.2.1 * g) * x = (s.2.1 * x + s.2.2.1 * y) * f:=by omega
     have a2:(s.2.1 * f + s.2.2.1 * g) * y = (s.2.1 * x + s.2.2.1 * y) * g:=by omega
     have b1:(s.2.1 * f + s.2.2.1 * g) * (u.2.1 * x + u.2.2.1 * y) = u.2.1 * ((s.2.1 * f + s.2.2.1 * g) * x) + u.2.2.1 * ((s.2.1 * f + s.2.2.1 * g) * y):=by
      rw [Int.mul_add,Int.mul_left_comm,Int.mul_left_comm (s.2.1 * f + s.2.2.1 * g) u.2.2.1]
     have b2:(-(s.2.1 * x + s.2.2.1 * y)) * (u.2.1 * -f + u.2.2.1 * -g) = u.2.1 * ((s.2.1 * x + s.2.2.1 * y) * f) + u.2.2.1 * ((s.2.1 * x + s.2.2.1 * y) * g):=by
      rw [Int.mul_neg,Int.mul_neg,← Int.neg_add,Int.neg_mul_neg,Int.mul_add,Int.mul_left_comm,Int.mul_left_comm (s.2.1 * x + s.2.2.1 * y) u.2.2.1]
     rw [b1,b2,a1,a2]
    have z:=Int.mul_nonpos_of_nonneg_of_nonpos (Int.le_of_lt hp) (hd u hu)
    rw [← e] at z
    exact zEe (by omega) z
   ·refine .inr ⟨s,List.mem_cons_self,zM6 ns eS ?_ hm⟩
    by_cases h1:(s.2.1 * f + s.2.2.1 * g) * x - (s.2.1 * x + s.2.2.1 * y) * f = 0
    ·exact .inr fun h2=>hz ⟨h1,h2⟩
    ·exact .inl h1
  rcases ht with h | h
  ·rcases one _ _ h with (q | q) | q
   ·exact ⟨t,mt',.inl q⟩
   ·rw [Int.neg_neg] at q
    exact ⟨t,mt',.inr q⟩
   ·exact q
  ·rcases one _ _ h with (q | q) | q
   ·exact ⟨t,mt',.inr q⟩
   ·rw [Int.neg_neg] at q
    exact ⟨t,mt',.inl q⟩
   ·exact q
theorem zTi {ss:List Sd} (hn:∀ t∈ss,t.2.1≠0∨t.2.2.1≠0) (ne:ss≠[]) (h:∀ k,¬ WK ss ss.length k) {x y:Int} (hxy:x≠0∨y≠0):wayB ss x y = false:=by
 cases e:wayB ss x y with
 | false=>rfl
 | true =>
  obtain ⟨t,mt,ht⟩:=zIx hxy hn ne (zKp.mp e)
  obtain ⟨j,hj,ej⟩:=List.getElem_of_mem mt
  have gj:ss[j]? = some t:=by rw [List.getElem?_eq_getElem hj,ej]
  rcases ht with q | q
  ·exact absurd ⟨j,t,hj,gj,.inl ⟨rfl,zKp.mpr q⟩⟩ (h _)
  ·exact absurd ⟨j,t,hj,gj,.inr ⟨rfl,zKp.mpr q⟩⟩ (h _)
end Sea

namespace Sea
open PySem L2
theorem zHk {a b:Int} {m n:Nat} (h1:a.natAbs≤m) (h2:b.natAbs≤n):zBd a b≤((m + n:Nat):Int):=by
 unfold zBd absI
 split <;> split <;> omega
structure PIb (t:TE) (σ:St) (i:Int) (n:Nat):Prop where
 rd:∀ (H:Hp) (Q:VK),Q (.int i) H→t σ H Q
 le:i.natAbs≤n
section
variable {σ:St} {ta tb:TE} {i j:Int} {m n:Nat}
end
abbrev rwRefs (xs:List (Addr × List Pr)):List V:=(xs.map (·.1)).map V.ref
structure Leads (G:Hp) (lo:Addr) (M:Nat) (xs:List (Addr × List Pr)):Prop where
 at':G lo = some (.lst (rwRefs xs))
 all:∀ u∈xs,u.1≠lo∧G u.1 = some (.lst (zGj u.2))∧PrOk G M u.2
end Sea

namespace L2
open PySem PySem.Spec PyProof.Rows PySem.W
def cdO (c:Addr) (qual:Str):HO:=.ext fun h=>h.CodeRec (.ref c) qual
def fnO (f:Addr) (name qual:Str) (params:Arguments) (body:List Stmt) (scope:Scope) (clos:List (Str × Addr)) (c':Addr):HO :=
 .ext fun h=>∃ doc pm ctv,h.get? f = some (fnMade name qual params body scope clos doc pm c' ctv)
def zUv (P:Addr) (pos:Pos) (qual:Str) (H:Hp):Prop:=∃ ps:Array Value,H P = some (.tbl ps)∧TriplesOk ps.toList∧(codeAmong pos ps.toList = none∨∃ c',codeAmong pos ps.toList = some (.ref c')∧H c' = some (cdO c' qual))
structure zKq (base:Heap) (mg:Str→Option Value) (c P:Addr):Prop where
 code:CodeHd base c P
 blt:∃ bm ob,mg "__builtins__" = some (.ref bm)∧bm≠builtinsNs∧bm≠mainGlobals∧base.get? bm = some ob∧ob.cls = .type "module" ∧ ob.dict = some builtinsNs∧ob.data = .plain
theorem cdO_ok {P:Program} {w:World} {H:Hp} {h:Heap} {c:Addr} {qual:Str} (r:h.CodeRec (.ref c) qual):zDh P w H h c (cdO c qual):=by
 obtain ⟨c',o,vs,t,e,ho,hd,hv⟩:=id r
 cases e
 refine ⟨r,⟨o,ho⟩,fun h1 h2 r1 k=>?_⟩
 obtain ⟨_,o,vs,t,e,ho,hd,hv⟩:=r1
 cases e
 exact ⟨_,o,vs,t,rfl,k _ ho,hd,hv⟩
theorem zTf {P:Program} {w:World} {H:Hp} {h:Heap} {f c':Addr} {name qual:Str} {params:Arguments} {body:List Stmt} {scope:Scope} {clos:List (Str × Addr)} {doc pm ctv:Value} (e:h.get? f = some (fnMade name qual params body scope clos doc pm c' ctv)) :
  zDh P w H h f (fnO f name qual params body scope clos c') :=
 ⟨⟨doc,pm,ctv,e⟩,⟨_,e⟩,fun _ _ ⟨d,p,v,e⟩ k=>⟨d,p,v,k _ e⟩⟩
def tDef (i:Nat) (P:Addr) (pos:Pos) (name qual:Str) (params:Arguments) (body:List Stmt) (scope:Scope) (clos:List (Str × Addr)):TS:=fun D σ H=>zUv P pos qual H ∧
 ∀ (f c':Addr) (H':Hp),H f = none→f≠P→H' f = some (fnO f name qual params body scope clos c')→H' c' = some (cdO c' qual)→zUv P pos qual H'→(∀ b o,b≠P→H b = some o→H' b = some o)→D.nx (σ.set i (some (.ref f))) H'
section
variable {X:Cx}
theorem ps_def {i:Nat} {name:Str} {params:Arguments} {body:List Stmt} {scope:Scope} {pos:Pos} {c P:Addr} {clos:List (Str × Addr)} (N:zKq X.base X.mg c P) (hcd:X.env.code = .ref c) (hcl:closureFor scope X.env = pure clos)
  (hN:X.N.Nodup) (hi:X.N[i]? = some name) (hx:Loc X.env.scope name) (hd0:params.defaults = []:=by rfl) (hk0:params.kw_defaults = []:=by rfl) (ha:annTrees params none X.env = []:=by rfl)
  (hf:X.fn name = true∨X.env.scope.names.lookup name = some .local:=by first | exact .inl rfl | exact .inr rfl | assumption) :
  PS X (.FunctionDef name params body [] none [] scope none name pos) (tDef i P pos name (qualnameIn X.env name name) params body scope clos):=by
 intro pins s σ H D I h
 obtain ⟨⟨ps,eP,tr,hc⟩,h⟩:=h
 have hP:s.heap.get? P = some (tabObj ps):=I.hok P _ eP
 have hns:s.heap.Ns mainGlobals X.mg:=I.ok.mod.glob.keeps I.bk
 have hgP:mainGlobals≠P:=fun z=>by
  obtain ⟨o,es,ep,e,d,_⟩:=id hns
  rw [z,hP] at e
  cases e
  cases d
 have hb:s.heap.BuiltinsAt X.mg P:=by
  obtain ⟨bm,ob,b1,b2,b3,b4,b5,b6,b7⟩:=N.blt
  refine ⟨bm,ob,b1,b2,b3,fun z=>?_,I.bk _ _ b4,b5,b6,b7⟩
  have e:=I.bk _ _ b4
  rw [z,hP] at e
  cases e
  cases b5
 refine nestDef_K hd0 hk0 ha ?_
 rcases hc with hn | ⟨c',hc',ec'⟩
 ·refine makeFunction_K (mg:=X.mg) hcl I.ok.glob hns hcd (N.code.keeps I.bk) hP tr hn hgP hb fun c' ctv doc h' tk hx' hge hlt hrec htb=>?_
  let o:Obj:=fnMade name (qualnameIn X.env name name) params body scope clos doc ((X.mg "__name__").getD .none) c' ctv
  let ps2:=ps ++ #[rawInt pos.line,rawInt pos.col,.ref c']
  let H3:=upd (upd (upd H P (.tbl ps2)) c' (cdO c' (qualnameIn X.env name name))) h'.objs.size (fnO h'.objs.size name (qualnameIn X.env name name) params body scope clos c')
  have hPlt:P < s.heap.objs.size:=Heap.lt_size hP
  have hcf:c'≠h'.objs.size:=Nat.ne_of_lt hlt
  have nc:∀ b,b < s.heap.objs.size→b≠c':=fun b hb=>Nat.ne_of_lt (Nat.lt_of_lt_of_le hb hge)
  have nf:∀ b,b < s.heap.objs.size→b≠h'.objs.size:=fun b hb=>Nat.ne_of_lt (Nat.lt_of_lt_of_le hb (Nat.le_trans hge (Nat.le_of_lt hlt)))
  have ff:H h'.objs.size = none:=I.hok.fresh (Nat.le_trans hge (Nat.le_of_lt hlt))
  have fP:h'.objs.size≠P:=fun z=>absurd hPlt (by rw [← z]; exact Nat.not_lt_of_ge (Nat.le_trans hge (Nat.le_of_lt hlt)))
  have cP:c'≠P:=(nc P hPlt).symm
  have up:∀ b,b < s.heap.objs.size→b≠P→H3 b = H b:=fun b hb hbP=>by
   show upd (upd (upd H P _) c' _) h'.objs.size _ b = _
   rw [zAs (nf b hb),zAs (nc b hb),zAs hbP]
  have lt:∀ b u,H b = some u→b < s.heap.objs.size:=fun b u e=>I.hok.lt e
  have kp:∀ b u,b≠P→s.heap.get? b = some u→(h'.push o).get? b = some u:=fun b u hb e=>Heap.get?_push_of_some _ (hx' b u hb e)
  have eP3:H3 P = some (.tbl ps2):=by
   show upd (upd (upd H P _) c' _) h'.objs.size _ P = _
   rw [zAs fP.symm,zAs cP.symm,zAb]
  have ec3:H3 c' = some (cdO c' (qualnameIn X.env name name)):=by
   show upd (upd (upd H P _) c' _) h'.objs.size _ c' = _
   rw [zAs hcf,zAb]
  have ef3:H3 h'.objs.size = some (fnO h'.objs.size name (qualnameIn X.env name name) params body scope clos c'):=zAb
  have keep3:∀ b u,b≠P→H b = some u→H3 b = some u:=fun b u hb e=>by rw [up b (lt b u e) hb]; exact e
  have I3:Inv X pins σ H3 { s with heap:=h'.push o,toks:=tk }:=by
   refine I.un (h':=h'.push o) (t':=tk) ⟨fun b u e n _ _=>?_,fun b u e n _ _=>?_,fun b u e n _=>?_,fun b u e _=>?_,fun b xs e=>?_,fun b u v e=>?_,fun b qs e=>?_⟩ fun a u e=>?_
   ·exact kp b u (fun z=>by rw [z,eP] at n; cases n) e
   ·exact ⟨u.slots,kp b u (fun z=>by rw [z,eP] at n; cases n) e⟩
   ·rw [up b (Heap.lt_size e) (fun z=>by rw [z,eP] at n; cases n)]; exact n
   ·by_cases hb:b = P
    ·rw [hb]; exact ⟨_,Heap.get?_push_of_some _ htb⟩
    ·exact ⟨u,kp b u hb e⟩
   ·exact keep3 b _ (fun z=>by rw [z,eP] at e; cases e) e
   ·exact keep3 b _ (fun z=>by rw [z,eP] at e; cases e) e
   ·by_cases hb:b = P
    ·rw [hb,eP] at e
     cases e
     exact ⟨_,by rw [hb]; exact eP3⟩
    ·exact ⟨#[],by rw [keep3 b _ hb e]; simp⟩
   ·by_cases h1:a = h'.objs.size
    ·rw [h1,ef3] at e
     cases e
     rw [h1]
     exact zTf (Heap.get?_push_size _ rfl)
    ·by_cases h2:a = c'
     ·rw [h2,ec3] at e
      cases e
      rw [h2]
      obtain ⟨d,ob,vs,t,e1,ho,r⟩:=hrec
      cases e1
      exact cdO_ok ⟨_,ob,vs,t,rfl,Heap.get?_push_of_some _ ho,r⟩
     ·by_cases h3:a = P
      ·rw [h3,eP3] at e
       cases e
       rw [h3]
       exact Heap.get?_push_of_some _ htb
      ·have e':H a = some u:=by
        have z:upd (upd (upd H P (.tbl ps2)) c' (cdO c' (qualnameIn X.env name name))) h'.objs.size (fnO h'.objs.size name (qualnameIn X.env name name) params body scope clos c') a = some u:=e
        rwa [zAs h1,zAs h2,zAs h3] at z
       refine (I.hok a u e').stay (fun b v hb q=>kp b v (fun z=>?_) q) (fun b q=>keep3 b _ (fun z=>by rw [z,eP] at q; cases q) q) fun b xs q=>keep3 b _ (fun z=>by rw [z,eP] at q; cases q) q
       rcases hb with hb | hb
       ·exact h3 (by rw [← hb]; exact z)
       ·rw [z,eP] at hb; cases hb
  refine zEp I3 hN hi hx (v:=.ref h'.objs.size) rfl (fun s' I'=>⟨_,_,I',h _ c' H3 ff fP ef3 ec3 ⟨ps2,eP3,?_,.inr ⟨c',?_,ec3⟩⟩ keep3⟩) hf
  ·show TriplesOk (ps ++ #[rawInt pos.line,rawInt pos.col,.ref c']).toList
   rw [Array.toList_append]
   exact TriplesOk_snoc _ _ _ _ tr
  ·show codeAmong pos (ps ++ #[rawInt pos.line,rawInt pos.col,.ref c']).toList = _
   rw [Array.toList_append]
   exact codeAmong_snoc _ tr hn
 ·refine makeFunction_hit (mg:=X.mg) hcl I.ok.glob hns hcd (N.code.keeps I.bk) hP tr hc' hb fun ctv doc h' tk hk hsz=>?_
  have ff:H h'.objs.size = none:=I.hok.fresh hsz
  have fP:h'.objs.size≠P:=fun z=>absurd (Heap.lt_size hP) (by rw [← z]; exact Nat.not_lt_of_ge hsz)
  have keep3:∀ b u,b≠P→H b = some u→upd H h'.objs.size (fnO h'.objs.size name (qualnameIn X.env name name) params body scope clos c') b = some u:=fun b u _ e=>by rw [zAs (zA0 e ff)]; exact e
  have I3:=I.laid (a:=h'.objs.size) (o:=fnO h'.objs.size name (qualnameIn X.env name name) params body scope clos c') (t':=tk) (h':=h'.push (fnMade name (qualnameIn X.env name name) params body scope clos doc ((X.mg "__name__").getD .none) c' ctv))
   (fun b u e=>Heap.get?_push_of_some _ (hk b u e)) hsz (zTf (Heap.get?_push_size _ rfl))
  refine zEp I3 hN hi hx (v:=.ref h'.objs.size) rfl (fun s' I'=>⟨_,_,I',h _ c' _ ff fP zAb ?_ ⟨ps,?_,tr,.inr ⟨c',hc',?_⟩⟩ keep3⟩) hf
  ·rw [zAs (zA0 ec' ff)]; exact ec'
  ·rw [zAs fP.symm]; exact eP
  ·rw [zAs (zA0 ec' ff)]; exact ec'
end
structure zF4 (N:List Str) (x y:Str) (j:Nat) (sc:Scope):Prop where
 kind:sc.kind = .function
 co:sc.isCoroutine = false
 gen:sc.isGenerator = false
 nd:N.Nodup
 par:N[0]? = some x
 loc:sc.names.lookup x = some .local
 cap:N[j]? = some y
 fr:sc.names.lookup y = some .free
 own:zHz sc y = false
 only:(sc.names.all fun z=>!(z.2 == .free) || z.1 == y) = true
def zJz (CX:CXT) (P:Program) (w:World) (K:PySem.W.Frag) (mg:Str→Option Value) (base:Heap) (N:List Str) (qual:Str) (scope:Scope) (f:Addr) (cd:Value) (clos:List (Str × Addr)) (A:Around) (outer:List Env) (s:Shared) (H:Hp) (E:XK):Cx where
 prog:=P
 w:=w
 K:=K
 mg:=mg
 base:=base
 A:=A.deeper (envX qual scope s.heap.objs.size f cd (cellsFrom (s.heap.objs.size + 1) scope.names clos))
 N:=N
 s₀:=s
 H₀:=H
 env:=envX qual scope s.heap.objs.size f cd (cellsFrom (s.heap.objs.size + 1) scope.names clos)
 outer:=outer
 stack:=envX qual scope s.heap.objs.size f cd (cellsFrom (s.heap.objs.size + 1) scope.names clos) :: outer
 ex:=[]
 calm:=true
 fn:=zHz scope
 pn:=[]
 xe:=fun e s'=>wpAny (model P w) (A.deeper (envX qual scope s.heap.objs.size f cd (cellsFrom (s.heap.objs.size + 1) scope.names clos))) (leaving (envX qual scope s.heap.objs.size f cd (cellsFrom (s.heap.objs.size + 1) scope.names clos)) e) (fun _ s''=>CX outer H s E e s'') (fun e' s''=>CX outer H s E e' s'') s'
def zLt (N:List Str) (j:Nat) (v:V):St:=(List.replicate N.length none).set j (some v)
theorem zOh {CX:CXT} {P:Program} {w:World} {K:PySem.W.Frag} {mg:Str→Option Value} {base:Heap} {N:List Str} {qual x y:Str} {j:Nat} {scope:Scope} {f cc:Addr} {cd u:Value} {v:V} {A:Around} {outer:List Env} {s:Shared} {H:Hp} {E:XK}
  (S:zF4 N x y j scope) (hd:A.handled = none) (e0:Env0 P w K mg base A outer s H) (hc:s.heap.IsCell cc (some u)) (hH:H cc = none) (rv:RelV v u) :
  Inv (zJz CX P w K mg base N qual scope f cd [(y,cc)] A outer s H E) [] (zLt N j v) H { s with heap:=pushCells (s.heap.push { cls:=.type "frame", data:=.dict #[] }) scope.names }:=by
 have sz:(s.heap.push { cls:=.type "frame", data:=.dict #[] }).objs.size = s.heap.objs.size + 1:=Heap.size_push ..
 have cs:∀ (z:Str) (c:Addr),List.lookup z [(y,cc)] = some c→z = y∧c = cc:=fun z c e=>by
  rw [List.lookup_cons] at e
  cases hz:z == y with
  | true=>rw [hz] at e; exact ⟨by simpa using hz,(Option.some.inj e).symm⟩
  | false=>rw [hz] at e; cases e
 have old:∀ b o,s.heap.get? b = some o→(pushCells (s.heap.push { cls:=.type "frame", data:=.dict #[] }) scope.names).get? b = some o:=fun b o e=>pushCells_keeps _ _ b o (Heap.get?_push_of_some _ e)
 have ltc:cc < s.heap.objs.size:=hc.lt
 have ey:(cellsFrom (s.heap.objs.size + 1) scope.names [(y,cc)]).lookup y = some cc:=by
  obtain ⟨d,hd'⟩:=zDa (x:=y) scope.names (s.heap.objs.size + 1) [(y,cc)] (.inr ⟨cc,by simp⟩)
  rcases zDx scope.names (s.heap.push { cls:=.type "frame", data:=.dict #[] }) [(y,cc)] y d (by rw [sz]; exact hd') with ⟨_,_,m⟩ | z
  ·have h2:zHz scope y = true:=List.any_eq_true.mpr ⟨_,m,by simp⟩
   rw [S.own] at h2
   cases h2
  ·rw [hd',(cs y d z).2]
 have both:∀ z c,(cellsFrom (s.heap.objs.size + 1) scope.names [(y,cc)]).lookup z = some c →
   (s.heap.objs.size + 1≤c∧(pushCells (s.heap.push { cls:=.type "frame", data:=.dict #[] }) scope.names).IsCell c none∧(z,NameKind.cell)∈scope.names)∨(z = y∧c = cc):=fun z c e=>by
  rcases zDx scope.names (s.heap.push { cls:=.type "frame", data:=.dict #[] }) [(y,cc)] z c (by rw [sz]; exact e) with q | q
  ·rw [sz] at q; exact .inl q
  ·exact .inr (cs z c q)
 have hn:(pushCells (s.heap.push { cls:=.type "frame", data:=.dict #[] }) scope.names).Ns s.heap.objs.size (fun _=>none):=(Heap.Ns.new s.heap (.type "frame")).keeps (pushCells_keeps _ _)
 have noA:∀ b:Addr,b ∉ (zJz CX P w K mg base N qual scope f cd [(y,cc)] A outer s H E).ex:=fun b z=>absurd (show b∈([]:List Addr) from z) (by simp)
 have hjN:j < N.length:=(List.getElem?_eq_some_iff.mp S.cap).1
 refine ⟨⟨e0.mod,S.kind,rfl,rfl,Nat.le_refl _,zEn scope.names _ _ (fun a b c e1 e2=>by rw [(cs a c e1).1,(cs b c e2).1]) (fun a c e=>by rw [(cs a c e).2]; exact Nat.lt_succ_of_lt ltc),fun z hz=>?_,fun z c hf e=>?_,fun _=>hd,Around.frames_deeper e0.frames,.inr ⟨rfl,rfl⟩,fun b z=>absurd z (noA b),e0.bs,e0.bsz,fun b _ _=>noA b,fun b z=>absurd z (noA b),e0.funs,e0.frf⟩,
  rfl,e0.bare,Un.kept old,⟨_,hn,fun i z v' h1 h2 h3=>?_⟩,fun z c e=>?_,e0.hok.fresh (Nat.le_refl _),fun z c e=>?_,fun p hp=>absurd (show p∈([]:List (Addr × Obj)) from hp) (by simp),e0.hok.kept old,?_⟩
 ·have hz:scope.names.lookup z = some .cell∨scope.names.lookup z = some .free:=hz
  rcases hz with hz | hz
  ·exact zDa scope.names _ _ (.inl (PySem.mem_of_lookup hz))
  ·have h:=List.all_eq_true.mp S.only _ (PySem.mem_of_lookup hz)
   have ezy:z = y:=by simpa using h
   rw [ezy]
   exact ⟨cc,ey⟩
 ·rcases both z c e with ⟨a,_,_⟩ | ⟨e1,_⟩
  ·exact Nat.le_of_succ_le a
  ·have h2:zHz scope z = true:=hf
   rw [e1,S.own] at h2
   cases h2
 ·unfold zLt at h2
  by_cases hij:j = i
  ·subst hij
   rw [List.getElem?_set_self (by rw [List.length_replicate]; exact hjN)] at h2
   cases h2
   have ez:z = y:=by
    have h1':N[j]? = some z:=h1
    rw [S.cap] at h1'
    exact (Option.some.inj h1').symm
   subst ez
   obtain ⟨o,ho,hdo⟩:=hc
   exact ⟨u,rv,.inr ⟨.inr S.fr,cc,ey,o,old cc o ho,hdo⟩⟩
  ·rw [List.getElem?_set_ne hij,List.getElem?_replicate] at h2
   split at h2 <;> cases h2
 ·rcases both z c e with ⟨_,q,_⟩ | ⟨_,e1⟩
  ·exact ⟨none,q⟩
  ·obtain ⟨o,ho,hdo⟩:=hc
   rw [e1]
   exact ⟨_,o,old cc o ho,hdo⟩
 ·rcases both z c e with ⟨a,_,_⟩ | ⟨_,e1⟩
  ·exact e0.hok.fresh (Nat.le_of_succ_le a)
  ·rw [e1]; exact hH
 ·unfold zLt
  rw [List.length_set,List.length_replicate]
  rfl
theorem zSm {CX:CXT} {P:Program} {w:World} {K:PySem.W.Frag} {mg:Str→Option Value} {base:Heap} {k:Nat} {N:List Str} {name qual x y:Str} {j:Nat} {params:Arguments} {body:List Stmt} {scope:Scope} {f cc c':Addr} {uc u:Value} {vc v:V} {A:Around} {outer:List Env} {s:Shared} {H:Hp} {Q:VK} {E:XK}
  (S:zF4 N x y j scope) (hr:Room (k + 1) A) (e0:Env0 P w K mg base A outer s H) (hc:s.heap.IsCell cc (some uc)) (hH:H cc = none) (rvc:RelV vc uc) (rv:RelV v u)
  (ef:H f = some (fnO f name qual params body scope [(y,cc)] c')) (ec:H c' = some (cdO c' qual))
  (hbind:∀ doc pm ctv,bindArgs (fnX name qual params body scope [(y,cc)] .none .none doc pm none (.ref c') ctv) ⟨[u],[]⟩ = pure [(x,u)])
  (hbody:Room k (A.deeper (envX qual scope s.heap.objs.size f (.ref c') (cellsFrom (s.heap.objs.size + 1) scope.names [(y,cc)]))) →
   ∃ t,PSs (zJz CX P w K mg base N qual scope f (.ref c') [(y,cc)] A outer s H E) body t∧t { nx:=fun _ H'=>Q .non H',rt:=Q } ((zLt N j vc).set 0 (some v)) H) :
  codeAny (model P w) A (.call (.ref f) ⟨[u],[]⟩) (CR CX outer P w H s Q E) s:=by
 obtain ⟨⟨doc,pm,ctv,hfo⟩,_⟩:=e0.hok f _ ef
 obtain ⟨hrec,_⟩:=e0.hok c' _ ec
 refine codeAny_call_function hr.depth hfo rfl S.co S.gen rfl hrec ?_
 rw [hbind]
 refine wpAny_pure ?_
 simp only [newFunctionEnv,Option.isSome_none,Bool.false_eq_true,if_false]
 refine wpAny_bind (wpAny_alloc ?_)
 refine wpAny_bind (wpAny_layCells _ (fun name kind cells=>by cases hkc:kind == NameKind.cell <;> simp [hkc]) _ _ _ _ ?_)
 rw [show ({ s with heap:=s.heap.push { cls:=.type "frame", data:=.dict #[] } } : Shared).heap.objs.size = s.heap.objs.size + 1 from Heap.size_push ..]
 have I0:=zOh (CX:=CX) (qual:=qual) (f:=f) (cd:=.ref c') (E:=E) S hr.hd e0 hc hH rvc
 rw [List.forIn_cons]
 refine wpAny_bind (wpAny_bind (wpAny_bind ?_))
 refine zEp (X:=zJz CX P w K mg base N qual scope f (.ref c') [(y,cc)] A outer s H E) I0 S.nd S.par (.inl S.loc) rv (fun s1 I1=>wpAny_pure ?_) (.inr S.loc)
 dsimp only
 rw [List.forIn_nil]
 refine wpAny_pure (wpAny_pure ⟨I1.nolimit,codeAny_func ?_⟩)
 obtain ⟨t,ht,hq⟩:=hbody (hr.deeper _)
 refine wpAny_mono (ht [] s1 _ H _ I1 hq) (fun fl s' hs=>?_) fun e s' hs=>hs
 have fin:∀ {σ':St} {H':Hp} {v:V} {u:Value},Inv (zJz CX P w K mg base N qual scope f (.ref c') [(y,cc)] A outer s H E) [] σ' H' s'→RelV v u→Q v H'→CE outer P w H s Q u s' :=
  fun {σ' H' v u} J rv q=>⟨v,H',J.os,J.bare,J.base,J.hok,rv,q⟩
 cases fl with
 | ret u =>
  obtain ⟨v,σ',H',J,rv,q⟩:=hs
  exact fin J rv q
 | next =>
  obtain ⟨σ',H',J,q⟩:=hs
  exact fin (v:=V.non) (u:=Value.none) J rfl q
 | brk =>
  obtain ⟨_,_,_,q⟩:=hs
  exact False.elim q
 | cont =>
  obtain ⟨_,_,_,q⟩:=hs
  exact False.elim q
end L2
namespace PySem.W
open PySem PySem.Calls PyProof.Rows
section
variable {prog:Program} {w:World} {A:Around} {E:Value→Shared→Prop} {s:Shared} {a kS:Addr} {vs:List Value} {kz:List Int} {keys:Array Value} {e e1:Nat} {P:PySem.Fin→Shared→Prop}
theorem zJj {st:SortSt} (hoK:s.heap.get? kS = some (seqObj "list" keys e)) (hoA:s.heap.get? a = some (seqObj "list" #[] e1)) (hka:kS≠a)
  (hk:IntsAre keys.toList kz) (hlen:kz.length = vs.length) (h64:vs.length < 64) (hp:(arrOf st).Perm (keys.zip vs.toArray)) (hs:SortedTo (arrOf st) (arrOf st).size) (hfl:failedOf st = none)
  (h:∀ out:Array Value,out.size = vs.length→KskOut false kz vs out.toList→P (.done (.ret .none)) { s with heap:=(s.heap.update kS (Obj.mapSeq fun _=>#[])).update a (Obj.mapSeq fun _=>out) }) :
  wpAny (model prog w) A (ksk_tail a false e1 (.ref kS) st) P E s:=by
 have hsz:keys.size = vs.length:=by
  have h1:=hk.length
  rw [Array.length_toList] at h1
  omega
 have hsz2:((arrOf st).map (·.2)).size = vs.length:=by rw [Array.size_map,hp.size_eq,Array.size_zip,hsz,List.size_toArray,Nat.min_self]
 have s1:=Heap.SameBut.update s.heap kS (Obj.mapSeq fun _=>(#[]:Array Value))
 have na1:(s.heap.update kS (Obj.mapSeq fun _=>(#[]:Array Value))).get? a = some (seqObj "list" #[] e1):=(s1.2 a hka.symm).trans hoA
 unfold ksk_tail
 try dsimp only
 refine wpAny_bind (listUpdate_at hoK rfl ?_ (by rw [hsz,sizeLine_eq]; omega) (Nat.zero_le _))
 refine wpAny_bind (wpAny_letGo ?_)
 refine wpAny_bind (seqEpoch_at na1 rfl ?_)
 refine wpAny_bind (listUpdate_at na1 rfl ?_ (Nat.zero_le _) (Nat.le_trans (Nat.le_of_eq hsz2) (by rw [sizeLine_eq]; omega)))
 rw [hfl]
 simp only [bne_self_eq_false,Bool.false_eq_true,if_false]
 refine wpAny_pure (h _ hsz2 ?_)
 have z:=ksk_out (b:=false) hk hp hs
 simpa using z
theorem zRu (hoK:s.heap.get? kS = some (seqObj "list" keys e)) (hoA:s.heap.get? a = some (seqObj "list" #[] e1)) (hka:kS≠a)
  (hk:IntsAre keys.toList kz) (hlen:kz.length = vs.length) (h64:vs.length < 64)
  (h:∀ out:Array Value,out.size = vs.length→KskOut false kz vs out.toList→P (.done (.ret .none)) { s with heap:=(s.heap.update kS (Obj.mapSeq fun _=>#[])).update a (Obj.mapSeq fun _=>out) }) :
  wpAny (model prog w) A (ksk_end a false vs.toArray e1 (.ref kS) keys) P E s:=by
 have hsz:keys.size = vs.length:=by
  have h1:=hk.length
  rw [Array.length_toList] at h1
  omega
 have hzs:(keys.zip vs.toArray).size = vs.length:=by rw [Array.size_zip,hsz,List.size_toArray,Nat.min_self]
 unfold ksk_end
 simp only [Bool.false_eq_true,if_false]
 by_cases h2:vs.toArray.size < 2
 ·rw [if_pos h2,if_pos h2]
  refine wpAny_bind (wpAny_pure ?_)
  rw [StateT.run_pure]
  refine wpAny_bind (wpAny_pure ?_)
  try dsimp only
  refine zJj (st:=SortSt.mk' general' (keys.zip vs.toArray) #[] 7 none) hoK hoA hka hk hlen h64 (Array.Perm.refl _) ?_ rfl h
  intro i j hij hj
  have hj2:j < (keys.zip vs.toArray).size:=hj
  rw [hzs] at hj2
  rw [List.size_toArray] at h2
  have:i = j:=by omega
  subst this
  exact Int.le_refl _
 ·rw [if_neg h2,if_neg h2]
  rw [List.size_toArray] at h2
  rw [ksk_kind hk (by rw [hsz]; omega)]
  refine wpAny_bind (wpAny_pure ?_)
  refine wpAny_bind (wpAny_mono (wpS_sortRuns (a₀:=keys.zip vs.toArray) (st:=SortSt.mk' oneType' (keys.zip vs.toArray) #[] 7 none)
   (Q:=fun _ st'=>(arrOf st').Perm (keys.zip vs.toArray)∧failedOf st' = none∧SortedTo (arrOf st') (keys.zip vs.toArray).size)
   (ksk_intKeys hk) ⟨Array.Perm.refl _,rfl,rfl,rfl⟩ (by rw [hzs]; omega) (by rw [hzs]; exact h64) fun st' a1 a2 a3=>⟨a1,a2,a3⟩) ?_ fun _ _ e=>e)
  rintro ⟨⟨⟩,st'⟩ s' ⟨rfl,hp,hf,hs⟩
  try dsimp only
  exact zJj hoK hoA hka hk hlen h64 hp (by rw [hp.size_eq]; exact hs) hf h
end
end PySem.W
namespace L2
open PySem PySem.Spec PyProof.Rows PySem.W
theorem zUi {rs:List Addr} {key:Addr→Int} {out:List Value} (h:KskOut false (rs.map key) (rs.map Value.ref) out):∃ us:List Addr,us.Perm rs∧us.Pairwise (fun a b=>key a≤key b)∧out = us.map Value.ref:=by
 obtain ⟨ps,hp,rfl,hs⟩:=h
 have ez:(rs.map key).zip (rs.map Value.ref) = rs.map fun r=>(key r,Value.ref r):=by
  rw [List.zip_map,List.zip_eq_zipWith,List.zipWith_self,List.map_map]
  exact List.map_congr_left fun _ _=>rfl
 rw [ez] at hp
 let back:Value→Addr:=fun v=>match v with | .ref a=>a | _=>0
 have eb:∀ p∈ps,p = (key (back p.2),Value.ref (back p.2)):=fun p hpp=>by
  obtain ⟨r,_,rfl⟩:=List.mem_map.mp (hp.mem_iff.mp hpp)
  rfl
 refine ⟨ps.map fun p=>back p.2,?_,?_,?_⟩
 ·have z:=hp.map fun p=>back p.2
  rw [List.map_map] at z
  have e2:rs.map ((fun p:Int × Value=>back p.2) ∘ fun r=>(key r,Value.ref r)) = rs:=by
   refine Eq.trans (List.map_congr_left fun r _=>?_) (List.map_id rs)
   rfl
  rw [e2] at z
  exact z
 ·rw [List.pairwise_map]
  refine hs.imp_of_mem fun {p q} hpp hq hr=>?_
  have hr':p.1≤q.1:=by simpa using hr
  have e1:p.1 = key (back p.2):=congrArg Prod.fst (eb p hpp)
  have e2:q.1 = key (back q.2):=congrArg Prod.fst (eb q hq)
  rw [← e1,← e2]
  exact hr'
 ·rw [List.map_map]
  exact List.map_congr_left fun p hpp=>congrArg Prod.snd (eb p hpp)
section
variable {X:Cx}
theorem zOn {pins:List (Addr × Obj)} {σ:St} {H:Hp} {s:Shared} {l f:Addr} {rs:List Addr} {key:Addr→Int} {Q:VK} (I:Inv X pins σ H s) (hl:SqL X.K H l (rs.map V.ref)) (h64:rs.length < 64)
  (turn:∀ r∈rs,∀ (pins':List (Addr × Obj)) (H1:Hp) (s1:Shared),Same H H1→Inv X pins' σ H1 s1→wpAny (model X.prog X.w) X.A.in1.in1 (call (.ref f) [.ref r]) (fun u s2=>∃ t H2,u = .int (key r) t∧Inv X pins' σ H2 s2∧Same H1 H2) (fun _ _=>False) s1)
  (q:∀ (p:Addr) (us:List Addr) (H':Hp),H p = none→Same H H'→H' p = some (.lst (us.map V.ref))→us.Perm rs→us.Pairwise (fun a b=>key a≤key b)→Q (.ref p) H') :
  wpAny (model X.prog X.w) X.A (call (.builtin "sorted") [.ref l] [(Str.ofString "key", .ref f)]) (EP X pins σ Q) X.xe s:=by
 obtain ⟨its,rv,pl,hz⟩:=I.list hl
 have ei:=zEm rv
 subst ei
 have hlenV:(rs.map Value.ref).length = rs.length:=List.length_map ..
 refine call_function_entry_kw kind_sorted plain_sorted entry_sorted (ksk_s1 _ _) ?_
 unfold Builtin.«sorted»
 refine wpAny_bind (m:=checkCount "sorted" 1 1 _) (wpAny_pure ?_)
 refine wpAny_bind (collect_list pl.isList ?_ (by rw [hlenV,sizeLine_eq]; omega))
 refine wpAny_bind (wpAny_newList ?_ (by rw [hlenV,sizeLine_eq]; omega))
 have hsz:((s.heap.push (seqObj "list" #[] 0)).update s.heap.objs.size (Obj.mapSeq (· ++ (rs.map Value.ref).toArray))).objs.size = s.heap.objs.size + 1:=by
  rw [Heap.size_update,size_push']
 have hoL:(zCo s.heap (rs.map Value.ref)).get? (s.heap.objs.size + 1) = some (seqObj "list" (rs.map Value.ref).toArray 0):=by
  unfold zCo
  rw [← hsz]; exact Heap.get?_push_size _ rfl
 show wpAny _ _ _ _ _ { s with heap:=zCo s.heap (rs.map Value.ref) }
 rw [hsz]
 refine wpAny_bind (wpAny_holding (wpAny_call_entry_kw slot_list_sort ⟨_,hoL,rfl⟩ entry_list_sort ?body (ksk_l1 _ _)))
 case body =>
 show wpAny (model X.prog X.w) X.A.in1.in1 (Builtin.«list.sort» ⟨[.ref (s.heap.objs.size + 1)],[(Str.ofString "key", .ref f)]⟩) _ _ _
 rw [ksk_t1]
 obtain ⟨e1,ho1⟩:∃ e1,((zCo s.heap (rs.map Value.ref)).update (s.heap.objs.size + 1) (Obj.mapSeq fun _=>(#[]:Array Value))).get? (s.heap.objs.size + 1) = some (seqObj "list" #[] e1):=⟨_,get?_update_seq hoL fun _=>#[]⟩
 unfold ksk_tree
 refine wpAny_bind (listItems_at hoL rfl ?_)
 refine wpAny_bind (listUpdate_at hoL rfl ?_ (by rw [List.size_toArray,hlenV,sizeLine_eq]; omega) (Nat.zero_le _))
 refine wpAny_bind (seqEpoch_at ho1 rfl ?_)
 refine wpAny_bind (wpAny_newTuple ?_ (by show (rs.map Value.ref).length≤_; rw [hlenV,sizeLine_eq]; omega))
 refine wpAny_bind (wpAny_newList ?_ (Nat.zero_le _))
 refine wpAny_holding ?_
 dsimp only
 generalize hh1:((zCo s.heap (rs.map Value.ref)).update (s.heap.objs.size + 1) (Obj.mapSeq fun _=>(#[]:Array Value))).push (seqObj "tuple" (rs.map Value.ref).toArray 0) = h1
 have keep1:∀ b o,s.heap.get? b = some o→h1.get? b = some o:=fun b o e=>by
  have hlt:b < s.heap.objs.size:=Heap.lt_size e
  rw [← hh1]
  refine Heap.get?_push_of_some _ ?_
  rw [Heap.get?_update_ne _ _ _ _ (Nat.ne_of_lt (Nat.lt_succ_of_lt hlt))]
  exact zId e
 have ea1:h1.get? (s.heap.objs.size + 1) = some (seqObj "list" #[] e1):=by rw [← hh1]; exact Heap.get?_push_of_some _ ho1
 have hsz1:h1.objs.size = s.heap.objs.size + 3:=by
  rw [← hh1,size_push',Heap.size_update]
  unfold zCo
  rw [size_push',hsz]
 have fa:H (s.heap.objs.size + 1) = none:=I.hok.fresh (Nat.le_succ _)
 have fk:H h1.objs.size = none:=I.hok.fresh (by rw [hsz1]; omega)
 have hka:h1.objs.size≠s.heap.objs.size + 1:=by rw [hsz1]; omega
 have laL:s.heap.objs.size + 1≠X.env.locals:=Nat.ne_of_gt (Nat.lt_succ_of_lt I.lt)
 have I1:Inv X pins σ H { s with heap:=h1 }:=I.kept (t':=s.toks) keep1
 have I2:Inv X (pins ++ [(s.heap.objs.size + 1,seqObj "list" #[] e1)]) σ (upd H h1.objs.size (.lst [])) { s with heap:=h1.push (seqObj "list" #[] 0) }:=by
  have J:=I1.laid (a:=h1.objs.size) (o:=.lst []) (t':=s.toks) (h':=h1.push (seqObj "list" #[] 0)) (fun b u e=>Heap.get?_push_of_some _ e) (Nat.le_refl _) ⟨Nat.zero_le _,[],0,.nil,Heap.get?_push_size _ rfl⟩
  refine J.pins_of fun p hp=>?_
  rcases List.mem_append.mp hp with hp | hp
  ·exact J.pin p (List.mem_append_right _ hp)
  ·rw [List.mem_singleton.mp hp]
   refine ⟨Heap.get?_push_of_some _ ea1,?_,laL,I.nofs (Nat.le_succ _),fun v z=>nomatch z⟩
   rw [zAs hka.symm]
   exact fa
 have s2:Same H (upd H h1.objs.size (.lst [])):=zAe fk _
 show wpAny (model X.prog X.w) X.A.in1.in1 (ksk_rest (s.heap.objs.size + 1) (.ref f) false (rs.map Value.ref).toArray e1 (.ref h1.objs.size)) _ _ { s with heap:=h1.push (seqObj "list" #[] 0) }
 unfold ksk_rest
 refine wpAny_bind (wpAny_rule ?_)
 rw [List.forIn_toArray]
 refine wpAny_bind (ksk_fold (fun i s'=>∃ H',Inv X (pins ++ [(s.heap.objs.size + 1,seqObj "list" #[] e1)]) σ H' s'∧Same H H'∧H' h1.objs.size = some (.lst ((rs.take i).map fun r=>V.int (key r)))) (rs.map Value.ref) 0 _ ⟨_,I2,s2,zAb⟩ ?step ?done)
 case step =>
  rintro j x s' hx ⟨H1,J,sH,eK⟩
  rw [Nat.zero_add] at eK ⊢
  rw [List.getElem?_map] at hx
  cases er:rs[j]? with
  | none=>rw [er] at hx; cases hx
  | some r =>
   rw [er] at hx
   cases hx
   have hj:j < rs.length:=(List.getElem?_eq_some_iff.mp er).1
   refine wpAny_bind (wpAny_attempt (wpAny_mono (turn r (List.mem_of_getElem? er) _ H1 s' sH J) (fun u s2 hu=>?_) fun _ _ hF=>hF.elim))
   obtain ⟨t,H2,rfl,J2,sH2⟩:=hu
   dsimp only
   have eK2:=sH2 _ _ eK
   obtain ⟨zl,ks,n,rk,ek⟩:=J2.hok _ _ eK2
   have lk:ks.length = j:=by
    have z:=rk.length
    rw [List.length_map,List.length_take] at z
    omega
   refine wpAny_bind (listUpdate_at ek rfl ?_ (by rw [List.size_toArray,lk,sizeLine_eq]; omega) (Nat.le_trans (Nat.le_of_eq (Array.size_push ..)) (by rw [List.size_toArray,lk,sizeLine_eq]; omega)))
   obtain ⟨c2,hc2⟩:∃ c2,(s2.heap.update h1.objs.size (Obj.mapSeq (·.push (.int (key r) t)))).get? h1.objs.size = some (seqObj "list" (ks.toArray.push (.int (key r) t)) c2):=⟨_,get?_update_seq ek (·.push (.int (key r) t))⟩
   have et:(rs.take (j + 1)).map (fun r=>V.int (key r)) = (rs.take j).map (fun r=>V.int (key r)) ++ [V.int (key r)]:=by rw [List.take_add_one,er]; simp
   have J3:=J2.write (x:=h1.objs.size) (e:=h1.objs.size) (o:=.lst ((rs.take (j + 1)).map fun r=>V.int (key r))) (t':=s2.toks) (h':=s2.heap.update h1.objs.size (Obj.mapSeq (·.push (.int (key r) t)))) (by rw [eK2]; exact trivial) (.inl rfl)
    (fun b u hb e=>by rw [Heap.get?_update_ne _ _ _ _ hb]; exact e) ⟨_,hc2⟩ ⟨by rw [List.length_map,List.length_take,sizeLine_eq]; omega,ks ++ [.int (key r) t],c2,by rw [et]; exact rk.append (.cons ⟨t,rfl⟩ .nil),by rw [hc2]; simp [seqObj]⟩
   refine wpAny_pure ⟨rfl,_,J3,fun b o e=>?_,zAb⟩
   rw [zAs (zA0 e fk)]
   exact sH2 _ _ (sH _ _ e)
 case done =>
  rintro s3 ⟨H3,J,sH,eK⟩
  rw [Nat.zero_add,hlenV,List.take_length] at eK
  obtain ⟨zl,ks,n,rk,ek⟩:=J.hok _ _ eK
  try dsimp only
  refine wpAny_bind (listItems_at ek rfl ?_)
  obtain ⟨ea3,na3,_⟩:=J.pin (s.heap.objs.size + 1,seqObj "list" #[] e1) (List.mem_append_right _ (List.mem_append_right _ (List.mem_singleton.mpr rfl)))
  have hki:IntsAre ks.toArray.toList (rs.map key):=by
   rw [List.toList_toArray]
   refine zJm ?_
   rw [List.map_map]
   exact rk
  refine zRu (keys:=ks.toArray) (kz:=rs.map key) ek ea3 hka hki (by rw [List.length_map,List.length_map]) (by rw [hlenV]; exact h64) fun out hout hko=>⟨_,rfl,wpAny_pure ⟨_,rfl,?_⟩⟩
  obtain ⟨us,pm,pw,eo⟩:=zUi hko
  have hb2:=Heap.SameBut.update s3.heap h1.objs.size (Obj.mapSeq fun _=>(#[]:Array Value))
  obtain ⟨c3,hc3⟩:∃ c3,(s3.heap.update h1.objs.size (Obj.mapSeq fun _=>(#[]:Array Value))).get? h1.objs.size = some (seqObj "list" #[] c3):=⟨_,get?_update_seq ek fun _=>#[]⟩
  have J4:=J.write (x:=h1.objs.size) (e:=h1.objs.size) (o:=.lst []) (t':=s3.toks) (h':=s3.heap.update h1.objs.size (Obj.mapSeq fun _=>(#[]:Array Value))) (by rw [eK]; exact trivial) (.inl rfl)
   (fun b u hb e=>(hb2.2 b hb).trans e) ⟨_,hc3⟩ ⟨Nat.zero_le _,[],c3,.nil,hc3⟩
  have na4:upd H3 h1.objs.size (.lst []) (s.heap.objs.size + 1) = none:=by rw [zAs hka.symm]; exact na3
  have ea4:(s3.heap.update h1.objs.size (Obj.mapSeq fun _=>(#[]:Array Value))).get? (s.heap.objs.size + 1) = some (seqObj "list" #[] e1):=(hb2.2 _ hka.symm).trans ea3
  obtain ⟨c4,hc4⟩:∃ c4,((s3.heap.update h1.objs.size (Obj.mapSeq fun _=>(#[]:Array Value))).update (s.heap.objs.size + 1) (Obj.mapSeq fun _=>out)).get? (s.heap.objs.size + 1) = some (seqObj "list" out c4):=⟨_,get?_update_seq ea4 fun _=>out⟩
  have hb4:=Heap.SameBut.update (s3.heap.update h1.objs.size (Obj.mapSeq fun _=>(#[]:Array Value))) (s.heap.objs.size + 1) (Obj.mapSeq fun _=>out)
  have J4':Inv X pins σ (upd H3 h1.objs.size (.lst [])) { s3 with heap:=s3.heap.update h1.objs.size (Obj.mapSeq fun _=>(#[]:Array Value)) }:=J4.unpinned
  have J5:Inv X pins σ (upd (upd H3 h1.objs.size (.lst [])) (s.heap.objs.size + 1) (.lst (us.map V.ref))) { s3 with heap:=(s3.heap.update h1.objs.size (Obj.mapSeq fun _=>(#[]:Array Value))).update (s.heap.objs.size + 1) (Obj.mapSeq fun _=>out) }:=by
   refine Inv.step (s:={ s3 with heap:=s3.heap.update h1.objs.size (Obj.mapSeq fun _=>(#[]:Array Value)) }) (h':=(s3.heap.update h1.objs.size (Obj.mapSeq fun _=>(#[]:Array Value))).update (s.heap.objs.size + 1) (Obj.mapSeq fun _=>out)) (H':=upd (upd H3 h1.objs.size (.lst [])) (s.heap.objs.size + 1) (.lst (us.map V.ref))) (g':=s3.gens) (t':=s3.toks) (d':=s3.drawn) (ch:=[s.heap.objs.size + 1]) J4' (fun b hb=>?_) (fun b o _ _ hc e _=>(hb4.2 b (fun z=>hc (by simp [z]))).trans e) (fun b o _ _ hc e _=>⟨o.slots,(hb4.2 b (fun z=>hc (by simp [z]))).trans e⟩) (fun b o hc _ n=>by rw [zAs (fun z=>hc (by simp [z]))]; exact n)
    (fun b o hc e=>⟨o,(hb4.2 b (fun z=>hc (by simp [z]))).trans e⟩) (fun b xs e=>by rw [zAs (zA0 e na4)]; exact e) (fun b o u e=>by rw [zAs (zA0 e na4)]; exact e) (fun b ps e=>⟨#[],by rw [zAs (zA0 e na4),e]; simp⟩) (fun m hm=>hm.sameBut hb4 laL.symm) (fun b u e=>?_) J4'.bare
   ·have eb:b = s.heap.objs.size + 1:=by simpa using hb
    subst eb
    refine ⟨.inr (Nat.le_succ_of_le I.sz),laL,fun x c e z=>?_,fun p hp z=>?_⟩
    ·obtain ⟨v,qq⟩:=I.cell x c e
     exact Nat.lt_irrefl _ (Nat.lt_of_lt_of_le qq.lt (by rw [z]; exact Nat.le_succ _))
    ·exact Nat.lt_irrefl _ (Nat.lt_of_lt_of_le (Heap.lt_size (I.pin p hp).1) (by rw [z]; exact Nat.le_succ _))
   ·by_cases hb:b = s.heap.objs.size + 1
    ·rw [hb,zAb] at e
     cases e
     rw [hb]
     refine ⟨by rw [List.length_map,pm.length_eq,sizeLine_eq]; omega,us.map Value.ref,c4,zD7 us,?_⟩
     rw [hc4,← eo]
    ·rw [zAs hb] at e
     refine (J4'.hok b u e).stay (fun c v hc q=>(hb4.2 c (fun z=>?_)).trans q) (fun c q=>by rw [zAs (zA0 q na4)]; exact q) fun c xs q=>by rw [zAs (zA0 q na4)]; exact q
     rcases hc with hc | hc
     ·exact hb (by rw [← hc]; exact z)
     ·rw [z,na4] at hc; cases hc
  refine ⟨.ref (s.heap.objs.size + 1),_,J5,rfl,q _ us _ fa (fun b o e=>?_) zAb pm pw⟩
  rw [zAs (zA0 e fa),zAs (zA0 e fk)]
  exact sH _ _ e
end
end L2
namespace L2
open PySem PySem.Spec PyProof.Rows PySem.W
def KeyOk (X:Cx) (σ:St) (H:Hp) (f:Addr) (rs:List Addr) (key:Addr→Int):Prop:=∀ r∈rs,∀ (pins':List (Addr × Obj)) (H1:Hp) (s1:Shared),Same H H1→Inv X pins' σ H1 s1 →
 wpAny (model X.prog X.w) X.A.in1.in1 (call (.ref f) [.ref r]) (fun u s2=>∃ t H2,u = .int (key r) t∧Inv X pins' σ H2 s2∧Same H1 H2) (fun _ _=>False) s1
def tSortK (X:Cx) (ta tk:TA):TE:=fun σ H Q=>ta σ H fun xs H1=>tk σ H1 fun ys H2=>∃ (l f:Addr) (rs:List Addr) (key:Addr→Int),xs = [.ref l]∧ys = [.ref f]∧SqL X.K H2 l (rs.map V.ref)∧rs.length < 64∧KeyOk X σ H2 f rs key ∧
 ∀ (p:Addr) (us:List Addr) (H':Hp),H2 p = none→Same H2 H'→H' p = some (.lst (us.map V.ref))→us.Perm rs→us.Pairwise (fun a b=>key a≤key b)→Q (.ref p) H'
section
variable {X:Cx}
theorem zRy {e kf:Expr} {ta tk:TA} {p pos kpos:Pos} (hg:Gl X "sorted") (hm:X.mg "sorted" = none) (ha:PA X [e] ta) (hk:PK X [⟨some "key", kf,kpos⟩] tk)
  (he:backTo pos (starEach [e] X.env) = (false,eval e X.env) :: backTo pos (starEach [] X.env):=by rfl) (hpl:(backTo pos (starEach [e] X.env)).any (·.1) = false:=by rfl):PE X (.Call (.Name "sorted" p) [e] [⟨some "key", kf,kpos⟩] pos) (tSortK X ta tk):=by
 intro pins s σ H Q I h
 refine wpAny_Call_Name_kw (zJo I hg hm zCy ?_ (by decide) (by decide))
 refine callWith_kw (thn (ha pos pins s σ H _ I h) fun us s1 ⟨xs,H1,I1,r1,q1⟩=>?_) he hpl
 refine thn (hk pos pins s1 σ H1 _ I1 q1) fun ws s2 ⟨ys,H2,I2,r2,l,f,rs,key,ex,ey,hl,h64,ok,q⟩=>?_
 subst ex ey
 obtain ⟨u,rfl,ru⟩:=Vals.one r1
 obtain ⟨v,rfl,rv⟩:=Vals.one r2
 cases ru
 cases rv
 exact zOn I2 hl h64 ok q
theorem zSh {σ:St} {H:Hp} {k j jy:Nat} {N:List Str} {name qual x y:Str} {params:Arguments} {body:List Stmt} {scope:Scope} {f cc c':Addr} {vc:V} {rs:List Addr} {key:Addr→Int}
  (S:zF4 N x y j scope) (hr:Room (k + 3) X.A) (hcc:X.env.cells.lookup y = some cc) (hy:X.N[jy]? = some y) (hk:X.env.scope.names.lookup y = some .cell) (evc:σ[jy]? = some (some vc))
  (ef:H f = some (fnO f name qual params body scope [(y,cc)] c')) (ec:H c' = some (cdO c' qual))
  (hbind:∀ doc pm ctv u,bindArgs (fnX name qual params body scope [(y,cc)] .none .none doc pm none (.ref c') ctv) ⟨[u],[]⟩ = pure [(x,u)])
  (hbody:∀ r∈rs,∀ (A:Around) (outer:List Env) (s1:Shared) (H1:Hp),Same H H1→Room k (A.deeper (envX qual scope s1.heap.objs.size f (.ref c') (cellsFrom (s1.heap.objs.size + 1) scope.names [(y,cc)]))) →
   ∃ t,PSs (zJz CX0 X.prog X.w X.K X.mg X.base N qual scope f (.ref c') [(y,cc)] A outer s1 H1 E0).nox body t∧t { nx:=fun _ H2=>V.non = .int (key r)∧Same H1 H2,rt:=fun v H2=>v = .int (key r)∧Same H1 H2 } ((zLt N j vc).set 0 (some (.ref r))) H1):KeyOk X σ H f rs key:=by
 intro r hrr pins' H1 s1 sH J
 obtain ⟨m,_,hl⟩:=J.loc
 obtain ⟨u,ru,l⟩:=hl jy y vc hy evc (.inr (.inl hk))
 have hcell:s1.heap.IsCell cc (some u):=by
  rcases l with ⟨z,_⟩ | ⟨_,c,e,q⟩
  ·have z':X.env.scope.names.lookup y = some .local:=z
   rw [hk] at z'
   cases z'
  ·rw [hcc] at e
   cases e
   exact q
 refine wpAny_call (codeAny_mono (zSm (CX:=CX0) (Q:=fun v H2=>v = .int (key r)∧Same H1 H2) (E:=E0) (v:=.ref r) S hr.in1.in1 J.env0.in1.in1 hcell (J.freeC y cc hcc) ru rfl (sH _ _ ef) (sH _ _ ec) (fun doc pm ctv=>hbind doc pm ctv _) fun hr2=>?_) fun r' s' hq=>?_)
 ·obtain ⟨t,h,q⟩:=hbody r hrr X.A.in1.in1 X.stack s1 H1 sH hr2
  exact ⟨t,h.nox,q⟩
 ·cases r' with
  | error e=>exact hq
  | ok fl =>
   cases fl with
   | ret w' =>
    obtain ⟨v,H2,J2,rv,e,s2⟩:=J.after hq
    subst e
    obtain ⟨t,rfl⟩:=rv
    exact ⟨t,H2,rfl,J2,s2⟩
   | next=>exact False.elim hq
   | brk=>exact False.elim hq
   | cont=>exact False.elim hq
end
end L2
namespace L2
open PySem PySem.Spec PyProof.Rows PySem.W
theorem zQ4 {P:Program} {w:World} {K:PySem.W.Frag} {mg mb:Str→Option Value} {CX:CXT} {k:Nat} {fa a c Pt:Addr} {fd:FuncData} {x:Str} {sp:Sp} {s₁:Shared} {vs:List Value} {ns:List Int}
  (KX:K.In s₁.heap) (hns:s₁.heap.Ns mainGlobals mg) (hb:s₁.heap.Ns builtinsNs mb) (hbb:∀ x:Str,x ≠ "__name__" → mb x = bootBuiltins x) (hlim:s₁.heap.NoLimit) (hg:s₁.gens = #[])
  (ha:s₁.heap.get? a = some { cls:=.type "list", data:=.seq vs.toArray }) (hi:IntsAre vs ns) (hl:ns.length≤sizeLine) (hr:Room k callerA)
  (hC:CodeHd s₁.heap c Pt) (hT:s₁.heap.get? Pt = some (tabObj #[])) (hKT:K.lookup Pt = none)
  (hbm:∃ bm ob,mg "__builtins__" = some (.ref bm)∧bm≠builtinsNs∧bm≠mainGlobals∧s₁.heap.get? bm = some ob∧ob.cls = .type "module" ∧ ob.dict = some builtinsNs∧ob.data = .plain)
  (F:∀ base:Heap,K.In base→base.Ns mainGlobals mg→zKq base mg c Pt→FnOk P w K mg base CX k fa fd [x] sp) (hbind:∀ (s:Shared) (u:Value),BindsTo s fd ⟨[u],[]⟩ [(x,u)])
  (hsp:∀ H:Hp,H Pt = some (.tbl #[])→SqL K H a (ns.map V.int)→sp [.ref a] H (fun v _=>v = .bl true) fun _ _ _=>False)
  (hCX:∀ H e s',CX [] H s₁ (fun _ _ _=>False) e s'→False) :
  codeAny (model P w) callerA (.call (.ref fa) ⟨[.ref a],[]⟩) (fun r s'=>r = .ok (.ret (.bool true))∧OldK s₁.heap s'.heap∧s'.os = s₁.os∧AllBare s'.gens) s₁:=by
 have rv:=zIb hi
 have lenV:=hi.length
 have haT:a≠Pt:=fun z=>by rw [z,hT] at ha; cases ha
 have core:∀ H:Hp,(∀ b,H b = none∨((∃ o xs,H b = some (.frz o (.lst xs)))∧b = a)∨b = Pt)→H Pt = some (.tbl #[])→SqL K H a (ns.map V.int)→HOk P w H s₁.heap→(H a≠none→K.lookup a = none) →
   codeAny (model P w) callerA (.call (.ref fa) ⟨[.ref a],[]⟩) (fun r s'=>r = .ok (.ret (.bool true))∧OldK s₁.heap s'.heap∧s'.os = s₁.os∧AllBare s'.gens) s₁:=by
  intro H hO hPt hS hok hK
  have base_of:∀ {b:Addr} {o:Obj},s₁.heap.get? b = some o→H b = none→(hidT s₁.heap H).get? b = some o:=fun e n=>zSy e n
  have no:∀ {b:Addr} {o:Obj},s₁.heap.get? b = some o→(∀ xs n,o.data≠.seq xs n)→o.cls≠.none→H b = none:=fun {b o} e d c=>by
   rcases hO b with z | ⟨_,z⟩ | z
   ·exact z
   ·rw [z,ha] at e; cases e; exact absurd rfl (d _ _)
   ·rw [z,hT] at e; cases e; exact absurd rfl c
  have noD:∀ {b:Addr} {o:Obj} {es:Array DictEntry} {ep:Nat},s₁.heap.get? b = some o→o.data = .dict es ep→H b = none:=fun {b o es ep} e d=>by
   rcases hO b with z | ⟨_,z⟩ | z
   ·exact z
   ·rw [z,ha] at e; cases e; cases d
   ·rw [z,hT] at e; cases e; cases d
  have nsK:∀ {b:Addr} {m:Str→Option Value},s₁.heap.Ns b m→(hidT s₁.heap H).Ns b m:=fun {b m} ⟨o,es,ep,e,d,r⟩=>⟨o,es,ep,base_of e (noD e d),d,r⟩
  have hKb:K.In (hidT s₁.heap H):=fun b o e=>base_of (KX b o e) (by
   rcases hO b with z | ⟨⟨ob,xs,z⟩,ez⟩ | z
   ·exact z
   ·rw [ez,hK (by rw [← ez,z]; simp)] at e; cases e
   ·rw [z,hKT] at e; cases e)
  have hNB:zKq (hidT s₁.heap H) mg c Pt:=by
   refine ⟨?_,?_⟩
   ·obtain ⟨o,vs',file,tf,flags,tg,inF,text,tt,e1,e2,e3,r⟩:=hC
    exact ⟨o,vs',file,tf,flags,tg,inF,text,tt,base_of e1 (no e1 (fun xs n z=>by rw [e3] at z; cases z) (fun z=>by rw [e2] at z; cases z)),e2,e3,r⟩
   ·obtain ⟨bm,ob,b1,b2,b3,b4,b5,b6,b7⟩:=hbm
    exact ⟨bm,ob,b1,b2,b3,base_of b4 (no b4 (fun xs n z=>by rw [b7] at z; cases z) (fun z=>by rw [b5] at z; cases z)),b5,b6,b7⟩
  have hM:Mod K mg (hidT s₁.heap H):=⟨hKb,nsK hns,⟨mb,nsK hb,hbb⟩,let ⟨mc,h1,h2⟩:=hlim; ⟨mc,nsK h1,h2⟩⟩
  have e0:Env0 P w K mg (hidT s₁.heap H) callerA [] s₁ H:=⟨rfl,hM,fun b o e=>zUn e,Nat.le_of_eq (zQo _ _),trivial,fun b hb=>absurd (show b∈([]:List Addr) from hb) (by simp),hok,.of_eq hg⟩
  refine codeAny_mono ((F _ hKb (nsK hns) hNB).run callerA [] s₁ H ⟨[.ref a],[]⟩ [.ref a] [.ref a] _ _ hr e0 (hbind s₁ (.ref a)) (.cons rfl .nil) (hsp H hPt hS)) fun r s' h=>?_
  cases r with
  | error e=>exact (hCX H e s' h).elim
  | ok fl =>
   cases fl with
   | next=>exact False.elim h
   | brk=>exact False.elim h
   | cont=>exact False.elim h
   | ret u =>
    obtain ⟨v,H',os,bare,un,hok',r',q⟩:=h
    have q':v = .bl true:=q
    subst q'
    obtain rfl:u = Value.bool true:=r'
    obtain ⟨more,eT⟩:=un.tbls Pt _ hPt
    have eT':s'.heap.get? Pt = some (tabObj (#[] ++ more)):=hok' Pt _ eT
    refine ⟨rfl,⟨fun b o e=>?_,fun b o e=>?_⟩,os,bare⟩
    ·rcases hO b with z | ⟨⟨ob,xs,z⟩,ez⟩ | z
     ·exact .inl (un.keep b o e z (by intro z; exact absurd (show b∈([]:List Addr) from z) (by simp)) (by simp))
     ·have z2:=un.frzs b ob _ z
      obtain ⟨e1,_⟩:=hok b _ z
      obtain ⟨e2,_⟩:=hok' b _ z2
      rw [e] at e1; cases e1
      exact .inl e2
     ·subst z
      rw [hT] at e
      cases e
      exact .inr (.inl ⟨(hC.tab hT).isCodeTable,rfl,#[],more,rfl,eT'⟩)
    ·exact un.there b o e (by simp)
 cases hk:K.lookup a with
 | some o =>
  have e:=KX a o hk
  rw [ha] at e
  cases e
  refine core (fun b=>if b = Pt then some (.tbl #[]) else none) (fun b=>?_) (if_pos rfl) (.inr ⟨_,vs.toArray,_,hk,rfl,rfl,rfl,by rw [List.size_toArray,lenV]; exact hl,by simpa using rv⟩) (fun b u z=>?_) fun z=>absurd (if_neg haT) z
  ·by_cases hb:b = Pt
   ·exact .inr (.inr hb)
   ·exact .inl (if_neg hb)
  ·by_cases hb:b = Pt
   ·have z':=(if_pos hb).symm.trans z
    cases z'
    subst hb
    exact hT
   ·have z':=(if_neg hb).symm.trans z
    cases z'
 | none =>
  refine core (fun b=>if b = a then some (.frz { cls:=.type "list", data:=.seq vs.toArray } (.lst (ns.map V.int))) else if b = Pt then some (.tbl #[]) else none) (fun b=>?_) ((if_neg haT.symm).trans (if_pos rfl)) (.inl (.inr ⟨{ cls:=.type "list", data:=.seq vs.toArray },if_pos rfl⟩)) (fun b u z=>?_) fun _=>hk
  ·by_cases hb:b = a
   ·exact .inr (.inl ⟨⟨_,_,if_pos hb⟩,hb⟩)
   ·by_cases hb2:b = Pt
    ·exact .inr (.inr hb2)
    ·exact .inl ((if_neg hb).trans (if_neg hb2))
  ·by_cases hb:b = a
   ·have z':=(if_pos hb).symm.trans z
    cases z'
    subst hb
    exact ⟨ha,by rw [List.length_map]; exact hl,vs,_,rv,ha⟩
   ·by_cases hb2:b = Pt
    ·have z':=((if_neg hb).trans (if_pos hb2)).symm.trans z
     cases z'
     subst hb2
     exact hT
    ·have z':=((if_neg hb).trans (if_neg hb2)).symm.trans z
     cases z'
def tabC (K:PySem.W.Frag) (x:Str):Addr:=match tabIn K x with
 | some p=>p.1
 | none=>0
def tabP (K:PySem.W.Frag) (x:Str):Addr:=match tabIn K x with
 | some p=>p.2
 | none=>0
def defPos (s:Stmt):Pos:=match s with
 | .FunctionDef _ _ _ _ _ _ _ _ _ p=>p
 | _=>⟨0,0,0,0⟩
theorem tab_nb {base:Heap} {mg:Str→Option Value} {K:PySem.W.Frag} {x:Str} {c P:Addr} (t:tabIn K x = some (c,P)) (N:zKq base mg c P):zKq base mg (tabC K x) (tabP K x):=by
 unfold tabC tabP
 rw [t]
 exact N
theorem Fun.okC {P:Program} {w:World} {K:PySem.W.Frag} {mg:Str→Option Value} {base:Heap} {x qual:Str} {st:Stmt} {f:Addr} {fd:FuncData} {N ps:List Str} {k:Nat} {sp:Sp} (F:Fun K x qual st f fd) (S:zAq N ps (zAl st)) (len:∀ vs H Q E,sp vs H Q E→vs.length = ps.length)
  (hbody:∀ (cdv:Value) (A:Around) (outer:List Env) (s:Shared) (H:Hp) (vs:List V) (Q:VK) (E:XK),fd.code = cdv→Room k (A.deeper (envOfC qual (zAl st) s.heap.objs.size f cdv))→sp vs H Q E →
   ∃ t,PSs (cxOf CX0 P w K mg base N qual (zAl st) f cdv A outer s H E).nox (zCe st) t∧t { nx:=fun _ H'=>Q .non H',rt:=Q } (start N vs) H):FnOk P w K mg base CX0 (k + 1) f fd ps sp:=by
 obtain ⟨oc,od,kV,doc,pm,an,cdv,ct,osl,rfl,lk,hcd⟩:=F.ex
 refine fn_of lk hcd S len fun A outer s H vs Q E hr hsp=>?_
 obtain ⟨t,h,q⟩:=hbody cdv A outer s H vs Q E rfl hr hsp
 exact ⟨t,h.nox,q⟩
theorem walk_ofT {l:PySem.W.OpenLaw} {n k:Nat} {q:Program} {loose:List Str} {XP:(Str→Option Value)→Heap→Prop} {YP:World→Heap→Prop} {d:DefRec} {K:Params→PySem.W.Frag} {CX:World→CXT} {sp:World→Sp} {x y:Str} {c Pt:Addr}
  (hn:l.most = some n) (hn2:n≤sizeLine) (hdf:d.params.defaults = []) (hr:Room k callerA)
  (hY:∀ (w:World) (h:Heap),YP w h→(K w.params).In h) (hfind:((recsOf q).find? (fun e=>e.name == y)).isSome = true) (ht:∀ p:Params,tabIn (K p) y = some (c,Pt)) (hKT:∀ p:Params,(K p).lookup Pt = none)
  (F:∀ (w:World) (mg:Str→Option Value) (fa:Addr) (h:Heap),(K w.params).In h→h.Ns mainGlobals mg→mg d.name = some (.ref fa) →
   ∃ fd:FuncData,(∀ (s:Shared) (u:Value),BindsTo s fd ⟨[u],[]⟩ [(x,u)]) ∧
    ∀ base:Heap,(K w.params).In base→base.Ns mainGlobals mg→zKq base mg c Pt→FnOk l.prog w (K w.params) mg base (CX w) k fa fd [x] (sp w))
  (hsp:∀ (w:World) (H:Hp) (a:Addr) (ns:List Int),ns.length≤n→H Pt = some (.tbl #[])→SqL (K w.params) H a (ns.map V.int)→sp w [.ref a] H (fun v _=>v = .bl true) fun _ _ _=>False)
  (hCX:∀ (w:World) (H:Hp) (s:Shared) (e:Value) (s':Shared),CX w [] H s (fun _ _ _=>False) e s'→False) :
  PySem.W.WalkO q loose XP YP l.row.toRowW d [] (fun f vs=>PySem.call f vs):=by
 refine Att.attach_call hn hdf fun w s₀ s₁ mg mb fa o pm cd doc a vs ns G Y ho hd hcd hmg hobj hints hlen hg=>?_
 have KX:=hY w _ Y
 obtain ⟨fd,hb,hF⟩:=F w mg fa _ KX G.T.g hmg
 obtain ⟨dr,hdr⟩:=Option.isSome_iff_exists.mp hfind
 obtain ⟨hC,hT⟩:=tab_of G.T KX hdr (ht w.params)
 obtain ⟨bm,ob,b1,b2,b3,b4,b5,b6⟩:=G.T.bmain
 have b7:bm≠mainGlobals:=fun z=>by
  obtain ⟨o',es,ep,e,d',_⟩:=G.T.g
  rw [z,e] at b3
  cases b3
  rw [d'] at b6
  cases b6
 exact zQ4 KX G.T.g G.T.b G.T.builtins G.T.nolimit hg hobj hints (Nat.le_trans hlen hn2) hr hC hT (hKT w.params) ⟨bm,ob,b1,b2,b7,b3,b4,b5,b6⟩ hF hb (fun H hO hS=>hsp w H a ns hlen hO hS) fun H e s'=>hCX w H s₁ e s'
end L2

namespace Sea
open PySem L2
def wy (O A:P3):Int × Int:=(A.1 * O.2.2 - O.1 * A.2.2,A.2.1 * O.2.2 - O.2.1 * A.2.2)
def tn2 (a b:Int × Int):Int:=a.1 * b.2 - a.2 * b.1
def c3 (O A B:P3):Int:=O.1 * (A.2.1 * B.2.2 - B.2.1 * A.2.2) - O.2.1 * (A.1 * B.2.2 - B.1 * A.2.2) + O.2.2 * (A.1 * B.2.1 - B.1 * A.2.1)
theorem zQf (O A B:P3):tn2 (wy O A) (wy O B) = O.2.2 * c3 O A B:=by
 unfold tn2 wy c3
 grind
theorem zMs (O A B:P3):c3 O B A = -c3 O A B:=by
 unfold c3
 grind
def fwd (a:Int × Int):Prop:=0 < a.1∨(a.1 = 0∧0 < a.2)
theorem fwd_tr {a b c:Int × Int} (ha:fwd a) (hb:fwd b) (hc:fwd c) (h1:0 < tn2 a b) (h2:0 < tn2 b c):0 < tn2 a c:=by
 obtain ⟨p1,q1⟩:=a
 obtain ⟨p2,q2⟩:=b
 obtain ⟨p3,q3⟩:=c
 unfold fwd at ha hb hc
 unfold tn2 at h1 h2 ⊢
 dsimp only at ha hb hc h1 h2 ⊢
 have id:(p1 * q3 - q1 * p3) * p2 = (p1 * q2 - q1 * p2) * p3 + (p2 * q3 - q2 * p3) * p1:=by grind
 have b0:0 < p2:=by
  rcases hb with h | ⟨h,h'⟩
  ·exact h
  ·subst h
   rw [Int.zero_mul,Int.zero_sub] at h2
   have p3n:0≤p3:=by omega
   have:=Int.mul_nonneg (Int.le_of_lt h') p3n
   omega
 have a0:0 < p1:=by
  rcases ha with h | ⟨h,h'⟩
  ·exact h
  ·subst h
   rw [Int.zero_mul,Int.zero_sub] at h1
   have:=Int.mul_nonneg (Int.le_of_lt h') (Int.le_of_lt b0)
   omega
 have p3n:0≤p3:=by omega
 have z1:=Int.mul_nonneg (Int.le_of_lt h1) p3n
 have z2:=Int.mul_pos h2 a0
 have z3:0 < (p1 * q3 - q1 * p3) * p2:=by rw [id]; omega
 rcases Int.lt_trichotomy (p1 * q3 - q1 * p3) 0 with h | h | h
 ·have:=Int.mul_neg_of_neg_of_pos h b0
  omega
 ·rw [h,Int.zero_mul] at z3
  omega
 ·exact h
theorem zHu {s t:SpT} (h:ahB s t = true):fwd (wy s.2 t.2):=by
 have z:leS s t:=zH9 h
 have z2:¬ leS t s:=fun q=>by unfold leS at q; rw [h] at q; cases q
 rw [zKz] at z z2
 unfold fwd wy
 dsimp only
 omega
theorem zMd {e f p q:P3} (h:tn e f≠0) (hp:0 < p.2.2) (hq:0 < q.2.2) (e1:sv e p = 0) (e2:sv f p = 0) (e3:sv e q = 0) (e4:sv f q = 0):p.1 * q.2.2 = q.1 * p.2.2∧p.2.1 * q.2.2 = q.2.1 * p.2.2:=by
 unfold sv at e1 e2 e3 e4
 unfold tn at h
 have x1:(e.1 * f.2.1 - e.2.1 * f.1) * (p.1 * q.2.2 - q.1 * p.2.2) = 0:=by grind
 have x2:(e.1 * f.2.1 - e.2.1 * f.1) * (p.2.1 * q.2.2 - q.2.1 * p.2.2) = 0:=by grind
 have y1:=(Int.mul_eq_zero.mp x1).resolve_left h
 have y2:=(Int.mul_eq_zero.mp x2).resolve_left h
 omega
theorem zE7 {ss:List Sd} {P:P3} (c:Cor ss P):∃ e f:P3,tn e f≠0∧sv e P = 0∧sv f P = 0∧(∀ Q,inW ss Q→sv e Q≤0∧sv f Q≤0)∧inW ss P∧0 < P.2.2∧Nat.gcd (Nat.gcd P.1.natAbs P.2.1.natAbs) P.2.2.natAbs = 1:=by
 obtain ⟨t,ht,u,hu,h,rfl,w⟩:=c
 obtain ⟨sp,o1,o2⟩:=zB0 h
 exact ⟨t.2,u.2,h,o1,o2,fun Q hQ=>⟨hQ t ht,hQ u hu⟩,w,sp.pos,sp.low⟩
theorem zQ3 {ss:List Sd} {O A B:P3} (cO:Cor ss O) (cA:Cor ss A) (cB:Cor ss B) {l m n:Int} (hm:0 < m) (hn:0 < n) (e1:l * A.1 = m * B.1 + n * O.1) (e2:l * A.2.1 = m * B.2.1 + n * O.2.1) (e3:l * A.2.2 = m * B.2.2 + n * O.2.2):O = A:=by
 obtain ⟨e,f,hef,s1,s2,hw,_,pA,lA⟩:=zE7 cA
 obtain ⟨_,_,_,_,_,_,wO,pO,lO⟩:=zE7 cO
 obtain ⟨_,_,_,_,_,_,wB,_,_⟩:=zE7 cB
 have key:∀ g:P3,sv g A = 0→sv g B≤0→sv g O≤0→sv g O = 0:=fun g g1 g2 g3=>by
  have z:l * sv g A = m * sv g B + n * sv g O:=by unfold sv; grind
  rw [g1,Int.mul_zero] at z
  have y1:=Int.mul_nonneg (Int.le_of_lt hm) (show 0≤-sv g B by omega)
  rw [Int.mul_neg] at y1
  have y2:=Int.mul_nonneg (Int.le_of_lt hn) (show 0≤-sv g O by omega)
  rw [Int.mul_neg] at y2
  have y3:n * sv g O = 0:=by omega
  exact (Int.mul_eq_zero.mp y3).resolve_left (by omega)
 obtain ⟨x1,x2⟩:=zMd hef pO pA (key e s1 (hw B wB).1 (hw O wO).1) (key f s2 (hw B wB).2 (hw O wO).2) s1 s2
 exact zCw pO pA lO lA x1 x2
theorem zN2 {ss:List Sd} {O A B:P3} (cO:Cor ss O) (cA:Cor ss A) (cB:Cor ss B) (hA:O≠A) (hB:O≠B) (hAB:A≠B) {s t:Int} (hs:0 < s) (ht:0 < t) (e1:s * (wy O A).1 = t * (wy O B).1) (e2:s * (wy O A).2 = t * (wy O B).2):False:=by
 obtain ⟨_,_,_,_,_,_,_,pO,lO⟩:=zE7 cO
 obtain ⟨_,_,_,_,_,_,_,pA,lA⟩:=zE7 cA
 obtain ⟨_,_,_,_,_,_,_,pB,lB⟩:=zE7 cB
 unfold wy at e1 e2
 dsimp only at e1 e2
 rcases Int.lt_trichotomy (s * A.2.2 - t * B.2.2) 0 with h | h | h
 ·exact hB (zQ3 (l:=t * O.2.2) (m:=s * O.2.2) (n:=t * B.2.2 - s * A.2.2) cO cB cA (Int.mul_pos hs pO) (by omega) (by grind) (by grind) (by grind))
 ·refine hAB (zCw pA pB lA lB ?_ ?_)
  ·have z:O.2.2 * (s * A.1 - t * B.1) = 0:=by grind
   have z2:=(Int.mul_eq_zero.mp z).resolve_left (by omega)
   have z3:s * (A.1 * B.2.2 - B.1 * A.2.2) = 0:=by grind
   have z4:=(Int.mul_eq_zero.mp z3).resolve_left (by omega)
   omega
  ·have z:O.2.2 * (s * A.2.1 - t * B.2.1) = 0:=by grind
   have z2:=(Int.mul_eq_zero.mp z).resolve_left (by omega)
   have z3:s * (A.2.1 * B.2.2 - B.2.1 * A.2.2) = 0:=by grind
   have z4:=(Int.mul_eq_zero.mp z3).resolve_left (by omega)
   omega
 ·exact hA (zQ3 (l:=s * O.2.2) (m:=t * O.2.2) (n:=s * A.2.2 - t * B.2.2) cO cA cB (Int.mul_pos ht pO) h (by grind) (by grind) (by grind))
theorem zNb {ss:List Sd} {O A B:P3} (cO:Cor ss O) (cA:Cor ss A) (cB:Cor ss B) (hA:O≠A) (hB:O≠B) (hAB:A≠B) (fA:fwd (wy O A)) (fB:fwd (wy O B)):c3 O A B≠0:=fun z=>by
 have z2:=zQf O A B
 rw [z,Int.mul_zero] at z2
 unfold tn2 at z2
 rcases fA with h | ⟨h,h'⟩
 ·rcases fB with k | ⟨k,k'⟩
  ·exact zN2 (s:=(wy O B).1) (t:=(wy O A).1) cO cA cB hA hB hAB k h (Int.mul_comm _ _) (by grind)
  ·rw [k,Int.mul_zero] at z2
   have:=Int.mul_pos h k'
   omega
 ·rcases fB with k | ⟨k,k'⟩
  ·rw [h,Int.zero_mul] at z2
   have:=Int.mul_pos h' k
   omega
  ·exact zN2 (s:=(wy O B).2) (t:=(wy O A).2) cO cA cB hA hB hAB k' h' (by rw [h,k]; simp) (Int.mul_comm _ _)
def cntA (O:P3) (qs:List P3) (B:P3):Nat:=(qs.filter fun A=>decide (0 < tn2 (wy O A) (wy O B))).length
theorem zLx {α:Type} {p q:α→Bool} : ∀ {l:List α},(∀ a∈l,p a = true→q a = true)→(∃ a∈l,q a = true∧p a = false)→(l.filter p).length < (l.filter q).length
 | [],_,h=>by obtain ⟨a,h,_⟩:=h; cases h
 | x :: l,hpq,h=>by
  have le:∀ (l:List α),(∀ a∈l,p a = true→q a = true)→(l.filter p).length≤(l.filter q).length:=fun l=>by
   induction l with
   | nil=>intro _; exact Nat.le_refl _
   | cons y l ih =>
    intro hl
    have z:=ih fun a ha=>hl a (.tail _ ha)
    rw [List.filter_cons,List.filter_cons]
    cases hp:p y with
    | true =>
     rw [hl y (.head _) hp,if_pos rfl,if_pos rfl,List.length_cons,List.length_cons]
     omega
    | false =>
     rw [if_neg (by decide)]
     split
     ·rw [List.length_cons]; omega
     ·exact z
  have le2:=le l fun a ha=>hpq a (.tail _ ha)
  rw [List.filter_cons,List.filter_cons]
  obtain ⟨a,ha,hq,hp⟩:=h
  rcases List.mem_cons.mp ha with e | ha
  ·subst e
   rw [hq,hp,if_pos rfl,if_neg (by decide),List.length_cons]
   omega
  ·have ih:=zLx (l:=l) (fun a ha=>hpq a (.tail _ ha)) ⟨a,ha,hq,hp⟩
   cases hpx:p x with
   | true =>
    rw [hpq x (.head _) hpx,if_pos rfl,if_pos rfl,List.length_cons,List.length_cons]
    omega
   | false =>
    rw [if_neg (by decide)]
    split
    ·rw [List.length_cons]; omega
    ·exact ih
theorem zR1 (a:Int × Int):tn2 a a = 0:=by unfold tn2; grind
theorem cnt_lt {O:P3} {qs:List P3} {A B:P3} (hq:∀ C∈qs,C = O∨fwd (wy O C)) (hA:A∈qs) (fA:fwd (wy O A)) (fB:fwd (wy O B)) (h:0 < tn2 (wy O A) (wy O B)):cntA O qs A < cntA O qs B:=by
 refine zLx (fun C hC hp=>?_) ⟨A,hA,decide_eq_true h,?_⟩
 ·have hp':=of_decide_eq_true hp
  rcases hq C hC with e | fC
  ·have z:wy O O = (0,0):=by unfold wy; rw [Int.sub_self,Int.sub_self]
   rw [e,z] at hp'
   unfold tn2 at hp'
   simp at hp'
  ·exact decide_eq_true (fwd_tr fC fA fB hp' h)
 ·rw [zR1]
  rfl
theorem zP1 {ss:List Sd} {O:P3} {qs rs us:List P3} (cO:Cor ss O) (hq:∀ C∈qs,C = O∨fwd (wy O C)) (hr:∀ A∈rs,Cor ss A∧A∈qs∧O≠A∧fwd (wy O A)) (nd:us.Nodup) (pm:us.Perm rs) (pw:us.Pairwise fun A B=>cntA O qs A≤cntA O qs B) :
  us.Pairwise fun A B=>0 < c3 O A B:=by
 refine (List.Pairwise.and pw nd).imp_of_mem fun {A B} hA hB ⟨h,ne⟩=>?_
 obtain ⟨cA,mA,oA,fA⟩:=hr A (pm.mem_iff.mp hA)
 obtain ⟨cB,mB,oB,fB⟩:=hr B (pm.mem_iff.mp hB)
 obtain ⟨_,_,_,_,_,_,_,pO,_⟩:=zE7 cO
 have nz:=zNb cO cA cB oA oB ne fA fB
 rcases Int.lt_trichotomy (c3 O A B) 0 with z | z | z
 ·have z2:0 < tn2 (wy O B) (wy O A):=by
   rw [zQf,zMs]
   exact Int.mul_pos pO (by omega)
  have:=cnt_lt hq mB fB fA z2
  omega
 ·exact absurd z nz
 ·exact z
end Sea

namespace Sea
open PySem L2
theorem zKf {e:P3} {h:Int} (hh:h * h = 1) (hN:0 < e.1 * e.1 + e.2.1 * e.2.1):∀ {ss:List Sd},(∃ t∈ss,0 < tn e t.2 * h)→∃ t∈ss,0 < tn e t.2 * h∧∀ u∈ss,0 < tn e u.2 * h→sv u.2 (pt3 (crL e t.2))≤0
 | [],h=>by obtain ⟨t,ht,_⟩:=h; cases ht
 | x :: r,hex=>by
  by_cases hr:∃ t∈r,0 < tn e t.2 * h
  ·obtain ⟨t,ht,tp,tm⟩:=zKf hh hN hr
   by_cases hx:0 < tn e x.2 * h
   ·by_cases hs:sv x.2 (pt3 (crL e t.2))≤0
    ·refine ⟨t,.tail _ ht,tp,fun u hu up=>?_⟩
     rcases List.mem_cons.mp hu with rfl | hu
     ·exact hs
     ·exact tm u hu up
    ·refine ⟨x,.head _,hx,fun u hu up=>?_⟩
     obtain ⟨s1,o1,o2⟩:=zB0 (zA3 hx)
     obtain ⟨s2,r1,r2⟩:=zB0 (zA3 tp)
     rcases List.mem_cons.mp hu with rfl | hu
     ·rw [o2]
      exact Int.le_refl _
     ·have d:=zTp hh hN o1 r1 s1.pos o2 (by omega) hx
      refine zKe hh hN o1 r1 s1.pos s2.pos u.2 ?_ (tm u hu up)
      have z:=Int.mul_nonneg (show 0≤-(dl e (pt3 (crL e x.2)) (pt3 (crL e t.2)) * h) by omega) (Int.le_of_lt up)
      rw [Int.neg_mul] at z
      omega
   ·refine ⟨t,.tail _ ht,tp,fun u hu up=>?_⟩
    rcases List.mem_cons.mp hu with rfl | hu
    ·exact absurd up hx
    ·exact tm u hu up
  ·obtain ⟨t,ht,tp⟩:=hex
   rcases List.mem_cons.mp ht with rfl | ht
   ·refine ⟨t,.head _,tp,fun u hu up=>?_⟩
    rcases List.mem_cons.mp hu with rfl | hu
    ·rw [(zB0 (zA3 tp)).2.2]
     exact Int.le_refl _
    ·exact absurd ⟨u,hu,up⟩ hr
   ·exact absurd ⟨t,ht,tp⟩ hr
theorem zLs {ss:List Sd} {e z:P3} (hN:0 < e.1 * e.1 + e.2.1 * e.2.1) (hz:sv e z = 0) (zw:0 < z.2.2) (wz:inW ss z) (h1:∃ t∈ss,0 < tn e t.2 * 1) (h2:∃ t∈ss,0 < tn e t.2 * (-1)) {g:P3}
  (hg:∀ t∈ss,tn e t.2≠0→inW ss (pt3 (crL e t.2))→sv g (pt3 (crL e t.2))≤0):sv g z≤0:=by
 obtain ⟨t,ht,tp,tm⟩:=zKf (by decide) hN h1
 obtain ⟨u,hu,up,um⟩:=zKf (by decide) hN h2
 obtain ⟨s1,o1,o2⟩:=zB0 (zA3 tp)
 obtain ⟨s2,r1,r2⟩:=zB0 (zA3 up)
 obtain ⟨i,hi,ei⟩:=List.getElem_of_mem ht
 obtain ⟨j,hj,ej⟩:=List.getElem_of_mem hu
 have w1:=zJc (by decide) hN hz zw wz (by rw [List.getElem?_eq_getElem hi,ei]) tp tm
 have w2:=zJc (by decide) hN hz zw wz (by rw [List.getElem?_eq_getElem hj,ej]) up um
 have g1:=hg t ht (zA3 tp) w1
 have g2:=hg u hu (zA3 up) w2
 have d1:=zLa (by decide) hN o1 hz s1.pos o2 (wz t ht) tp
 have d2:=zLa (by decide) hN r1 hz s2.pos r2 (wz u hu) up
 by_cases hg0:0≤tn e g
 ·refine zKe (h:=1) (by decide) hN hz o1 zw s1.pos g ?_ g1
  rw [zIh e z]
  have z1:=Int.mul_nonneg d1 (show 0≤tn e g * 1 by omega)
  rw [Int.neg_mul,Int.neg_mul]
  omega
 ·refine zKe (h:=1) (by decide) hN hz r1 zw s2.pos g ?_ g2
  rw [zIh e z]
  have z1:=Int.mul_nonneg d2 (show 0≤-(tn e g * 1) by omega)
  have e1:dl e (pt3 (crL e u.2)) z * (-1) * -(tn e g * 1) = dl e (pt3 (crL e u.2)) z * tn e g:=by grind
  have e2 : -dl e (pt3 (crL e u.2)) z * 1 * (tn e g * 1) = -(dl e (pt3 (crL e u.2)) z * tn e g):=by grind
  rw [e1] at z1
  rw [e2]
  omega
theorem zEk {ss:List Sd} (hw:∀ x y:Int,(x≠0∨y≠0)→wayB ss x y = false) {e:P3} (he:e.1≠0∨e.2.1≠0) {h:Int} (hh:h = 1∨h = -1):∃ t∈ss,0 < tn e t.2 * h:=by
 have z:=hw (-e.2.1 * h) (e.1 * h) (by rcases hh with rfl | rfl <;> omega)
 unfold wayB at z
 obtain ⟨t,ht,q⟩:=List.all_eq_false.mp z
 refine ⟨t,ht,?_⟩
 have q':¬ (t.2.1 * (-e.2.1 * h) + t.2.2.1 * (e.1 * h)≤0):=fun y=>q (decide_eq_true y)
 have e1:t.2.1 * (-e.2.1 * h) + t.2.2.1 * (e.1 * h) = tn e t.2 * h:=by unfold tn; grind
 omega
theorem hull {ss:List Sd} (hn:∀ t∈ss,t.2.1≠0∨t.2.2.1≠0) (ne:ss≠[]) (hw:∀ x y:Int,(x≠0∨y≠0)→wayB ss x y = false) {g:P3} (hg:∀ C,Cor ss C→sv g C≤0) {p:P3} (pw:0 < p.2.2) (wp:inW ss p):sv g p≤0:=by
 obtain ⟨t0,r,rfl⟩:=List.exists_cons_of_ne_nil ne
 have n0:=hn t0 (.head _)
 have edge:∀ t∈t0 :: r,∀ q:P3,0 < q.2.2→sv t.2 q = 0→inW (t0 :: r) q→sv g q≤0:=fun t ht q hq e1 wq=>by
  refine zLs (zC2 (hn t ht)) e1 hq wq (zEk hw (hn t ht) (.inl rfl)) (zEk hw (hn t ht) (.inr rfl)) fun u hu htu hwu=>?_
  exact hg _ ⟨t,ht,u,hu,htu,rfl,hwu⟩
 have h0:t0.2.1 * p.2.2≠0∨t0.2.2.1 * p.2.2≠0:=n0.imp (fun z=>Int.mul_ne_zero z (by omega)) fun z=>Int.mul_ne_zero z (by omega)
 refine zLs (e:=(t0.2.1 * p.2.2,t0.2.2.1 * p.2.2,t0.2.1 * p.1 + t0.2.2.1 * p.2.1)) (zC2 h0) (by unfold sv; grind) pw wp (zEk hw h0 (.inl rfl)) (zEk hw h0 (.inr rfl)) fun u hu htu hwu=>?_
 obtain ⟨s1,o1,o2⟩:=zB0 htu
 exact edge u hu _ s1.pos o2 hwu
def rt (A B:P3):P3:=(-(A.2.1 * B.2.2 - A.2.2 * B.2.1),A.1 * B.2.2 - A.2.2 * B.1,A.1 * B.2.1 - A.2.1 * B.1)
theorem rt_sv (A B p:P3):sv (rt A B) p = -c3 A B p:=by
 unfold sv rt c3
 grind
theorem zHy (A B C:P3):c3 B C A = c3 A B C:=by
 unfold c3
 grind
theorem zMe (A B C:P3):c3 B A C = -c3 A B C:=by
 unfold c3
 grind
theorem bary (g O A B p:P3):c3 O A B * sv g p = c3 A B p * sv g O + c3 B O p * sv g A + c3 O A p * sv g B:=by
 unfold c3 sv
 grind
theorem zLh {ss:List Sd} {O A B C:P3} (cO:Cor ss O) (cA:Cor ss A) (cB:Cor ss B) (cC:Cor ss C) (hOB:O≠B) (h1:0 < c3 A C B) (h2:0≤c3 C O B) (h3:0≤c3 O A B) (hD:0 < c3 O A C):False:=by
 obtain ⟨e,f,hef,s1,s2,hw,_,pB,lB⟩:=zE7 cB
 obtain ⟨_,_,_,_,_,_,wO,pO,lO⟩:=zE7 cO
 obtain ⟨_,_,_,_,_,_,wA,_,_⟩:=zE7 cA
 obtain ⟨_,_,_,_,_,_,wC,_,_⟩:=zE7 cC
 have key:∀ g:P3,sv g B = 0→sv g O≤0→sv g A≤0→sv g C≤0→sv g O = 0:=fun g g0 g1 g2 g3=>by
  have z:=bary g O A C B
  rw [g0,Int.mul_zero] at z
  have y1:=Int.mul_nonneg (Int.le_of_lt h1) (show 0≤-sv g O by omega)
  have y2:=Int.mul_nonneg h2 (show 0≤-sv g A by omega)
  have y3:=Int.mul_nonneg h3 (show 0≤-sv g C by omega)
  rw [Int.mul_neg] at y1 y2 y3
  have y4:c3 A C B * sv g O = 0:=by omega
  exact (Int.mul_eq_zero.mp y4).resolve_left (by omega)
 obtain ⟨x1,x2⟩:=zMd hef pO pB (key e s1 (hw O wO).1 (hw A wA).1 (hw C wC).1) (key f s2 (hw O wO).2 (hw A wA).2 (hw C wC).2) s1 s2
 exact hOB (zCw pO pB lO lB x1 x2)
structure Rg (ss:List Sd) (O:P3) (rest:List P3):Prop where
 nz:∀ t∈ss,t.2.1≠0∨t.2.2.1≠0
 ne:ss≠[]
 nw:∀ x y:Int,(x≠0∨y≠0)→wayB ss x y = false
 mem:∀ P:P3,P∈O :: rest↔Cor ss P
 fw:∀ A∈rest,O≠A∧fwd (wy O A)
 left:rest.Pairwise fun A B=>0 < c3 O A B
section
variable {ss:List Sd} {O:P3} {rest:List P3} {p:P3}
theorem Rg.cO (R:Rg ss O rest):Cor ss O:=(R.mem O).mp (.head _)
theorem Rg.cA (R:Rg ss O rest) {k:Nat} (hk:k < rest.length):Cor ss rest[k]:=(R.mem _).mp (.tail _ (List.getElem_mem hk))
theorem Rg.lt (R:Rg ss O rest) {i j:Nat} (hij:i < j) (hj:j < rest.length):0 < c3 O (rest[i]'(by omega)) rest[j]:=List.pairwise_iff_getElem.mp R.left i j (by omega) hj hij
theorem zPi (A B:P3):c3 A B A = 0:=by unfold c3; grind
theorem zOx (A B:P3):c3 A B B = 0:=by unfold c3; grind
theorem Rg.corner (R:Rg ss O rest) {C:P3} (cC:Cor ss C):C = O∨∃ k,∃ h:k < rest.length,C = rest[k]:=by
 rcases List.mem_cons.mp ((R.mem C).mpr cC) with e | h
 ·exact .inl e
 ·obtain ⟨k,hk,e⟩:=List.getElem_of_mem h
  exact .inr ⟨k,hk,e.symm⟩
theorem Rg.hull (R:Rg ss O rest) {A B:P3} (h:∀ C,Cor ss C→0≤c3 A B C) (pw:0 < p.2.2) (wp:inW ss p):0≤c3 A B p:=by
 have z:=Sea.hull R.nz R.ne R.nw (g:=rt A B) (fun C cC=>by rw [rt_sv]; have:=h C cC; omega) pw wp
 rw [rt_sv] at z
 omega
theorem Rg.fwd_in (R:Rg ss O rest) (two:2≤rest.length) (pw:0 < p.2.2) (wp:inW ss p):0≤c3 (rest[rest.length - 1]'(by omega)) O p∧0≤c3 O (rest[0]'(by omega)) p∧∀ k,(h:k + 1 < rest.length)→0≤c3 (rest[k]'(by omega)) rest[k + 1] p:=by
 refine ⟨R.hull (fun C cC=>?_) pw wp,R.hull (fun C cC=>?_) pw wp,fun k h=>R.hull (fun C cC=>?_) pw wp⟩
 ·rw [← zHy]
  rcases R.corner cC with rfl | ⟨k,hk,rfl⟩
  ·rw [← zHy,zPi]
   exact Int.le_refl _
  ·by_cases e:k = rest.length - 1
   ·subst e
    rw [zOx]
    exact Int.le_refl _
   ·exact Int.le_of_lt (R.lt (by omega) (by omega))
 ·rcases R.corner cC with rfl | ⟨k,hk,rfl⟩
  ·rw [zPi]
   exact Int.le_refl _
  ·by_cases e:k = 0
   ·subst e
    rw [zOx]
    exact Int.le_refl _
   ·exact Int.le_of_lt (R.lt (by omega) hk)
 ·have hAB:=R.lt (show k < k + 1 by omega) h
  rcases R.corner cC with rfl | ⟨j,hj,rfl⟩
  ·rw [zHy]
   exact Int.le_of_lt hAB
  ·by_cases e1:j = k
   ·subst e1
    rw [zPi]
    exact Int.le_refl _
   ·by_cases e2:j = k + 1
    ·subst e2
     rw [zOx]
     exact Int.le_refl _
    ·rcases Int.lt_or_le (c3 (rest[k]'(by omega)) rest[k + 1] rest[j]) 0 with z | z
     ·exfalso
      by_cases lt:j < k
      ·refine zLh (O:=O) (A:=rest[j]) (B:=rest[k]'(by omega)) (C:=rest[k + 1]) R.cO (R.cA hj) (R.cA (by omega)) (R.cA h) (R.fw _ (List.getElem_mem _)).1 ?_ ?_ ?_ (R.lt (by omega) h)
       ·have e:c3 rest[j] rest[k + 1] (rest[k]'(by omega)) = -c3 (rest[k]'(by omega)) rest[k + 1] rest[j]:=by unfold c3; grind
        omega
       ·have e:c3 rest[k + 1] O (rest[k]'(by omega)) = c3 O (rest[k]'(by omega)) rest[k + 1]:=by unfold c3; grind
        omega
       ·exact Int.le_of_lt (R.lt lt (by omega))
      ·refine zLh (O:=O) (A:=rest[k]'(by omega)) (B:=rest[k + 1]) (C:=rest[j]) R.cO (R.cA (by omega)) (R.cA h) (R.cA hj) (R.fw _ (List.getElem_mem _)).1 ?_ ?_ (Int.le_of_lt hAB) (R.lt (by omega) hj)
       ·have e:c3 (rest[k]'(by omega)) rest[j] rest[k + 1] = -c3 (rest[k]'(by omega)) rest[k + 1] rest[j]:=by unfold c3; grind
        omega
       ·have e:c3 rest[j] O rest[k + 1] = c3 O rest[k + 1] rest[j]:=by unfold c3; grind
        have:=R.lt (show k + 1 < j by omega) hj
        omega
     ·exact z
end
end Sea

namespace Sea
open PySem L2
def arS (O:P3) (r:Nat→P3):Nat→Int × Int
 | 0=>(0,1)
 | j + 1=>((arS O r j).1 * (r (j + 1)).2.2 + c3 O (r j) (r (j + 1)) * (arS O r j).2,(arS O r j).2 * (r j).2.2)
def arB (O:P3) (r:Nat→P3) (j:Nat):Int:=2 * O.2.2 * (arS O r j).2 * (r j).2.2
structure Fq (x y N B:Int):Prop where
 pos:1≤y
 low:Nat.gcd x.natAbs y.natAbs = 1
 eq:x * B = y * N
theorem Fq.yle {x y N B:Int} (f:Fq x y N B) (hB:B≠0):y.natAbs≤B.natAbs:=by
 have d:y.natAbs ∣ x.natAbs * B.natAbs:=by
  rw [← Int.natAbs_mul,f.eq,Int.natAbs_mul]
  exact Nat.dvd_mul_right _ _
 have d2:=Nat.Coprime.dvd_of_dvd_mul_left (Nat.Coprime.symm f.low) d
 exact Nat.le_of_dvd (by omega) d2
theorem Fq.xle {x y N B:Int} (f:Fq x y N B) (hB:B≠0):x.natAbs≤N.natAbs:=by
 by_cases hN:N = 0
 ·have z:=f.eq
  rw [hN,Int.mul_zero] at z
  have:=(Int.mul_eq_zero.mp z).resolve_right hB
  rw [this]
  exact Nat.zero_le _
 ·have d:x.natAbs ∣ y.natAbs * N.natAbs:=by
   rw [← Int.natAbs_mul,← f.eq,Int.natAbs_mul]
   exact Nat.dvd_mul_right _ _
  have d2:=Nat.Coprime.dvd_of_dvd_mul_left f.low d
  exact Nat.le_of_dvd (by omega) d2
theorem zP7 {x1 y1 x2 y2 x y N P w0 w w' c:Int} (hw0:0 < w0) (hw:0 < w) (hy1:1≤y1) (hy2:1≤y2) (e1:x1 * (2 * w0 * P * w) = y1 * N) (e2:x2 * (2 * w0 * w * w') = y2 * c) (e3:x * (y1 * y2) = y * (x1 * y2 + x2 * y1)) :
  x * (2 * w0 * (P * w) * w') = y * (N * w' + c * P):=by
 have k:(x * (2 * w0 * (P * w) * w') - y * (N * w' + c * P)) * (y1 * y2 * (2 * w0 * w)) = 0:=by
  have a1:x * (2 * w0 * (P * w) * w') * (y1 * y2 * (2 * w0 * w)) = (x * (y1 * y2)) * ((2 * w0 * P * w) * (2 * w0 * w * w')):=by grind
  have a2:y * (x1 * y2 + x2 * y1) * ((2 * w0 * P * w) * (2 * w0 * w * w')) = y * ((x1 * (2 * w0 * P * w)) * (y2 * (2 * w0 * w * w')) + (x2 * (2 * w0 * w * w')) * (y1 * (2 * w0 * P * w))):=by grind
  rw [Int.sub_mul,a1,e3,a2,e1,e2]
  grind
 have n1:y1 * y2 * (2 * w0 * w)≠0:=Int.mul_ne_zero (Int.mul_ne_zero (by omega) (by omega)) (Int.mul_ne_zero (by omega) (by omega))
 have:=(Int.mul_eq_zero.mp k).resolve_right n1
 omega
theorem Fq.plus {O:P3} {r:Nat→P3} {j:Nat} {x1 y1 x2 y2 x y:Int} (hO:0 < O.2.2) (hr:0 < (r j).2.2) (f:Fq x1 y1 (arS O r j).1 (arB O r j)) (p2:zEu (O.2.2 * c3 O (r j) (r (j + 1))) (2 * O.2.2 ^ 2 * (r j).2.2 * (r (j + 1)).2.2) x2 y2)
  (p:zEu (x1 * y2 + x2 * y1) (y1 * y2) x y):Fq x y (arS O r (j + 1)).1 (arB O r (j + 1)):=by
 refine ⟨p.pos,p.low,?_⟩
 have e2:x2 * (2 * O.2.2 * (r j).2.2 * (r (j + 1)).2.2) = y2 * c3 O (r j) (r (j + 1)):=by
  have z:=p2.eq
  have k:(x2 * (2 * O.2.2 * (r j).2.2 * (r (j + 1)).2.2) - y2 * c3 O (r j) (r (j + 1))) * O.2.2 = 0:=by
   have a:x2 * (2 * O.2.2 ^ 2 * (r j).2.2 * (r (j + 1)).2.2) = x2 * (2 * O.2.2 * (r j).2.2 * (r (j + 1)).2.2) * O.2.2:=by grind
   rw [a] at z
   rw [Int.sub_mul,z]
   grind
  have:=(Int.mul_eq_zero.mp k).resolve_right (by omega)
  omega
 exact zP7 hO hr f.pos p2.pos f.eq e2 p.eq
theorem zKn {O:P3} {r:Nat→P3} : ∀ j,(∀ i,i < j→0 < (r i).2.2)→0 < (arS O r j).2
 | 0,_=>(show (0:Int) < 1 by decide)
 | j + 1,h=>Int.mul_pos (zKn j fun i hi=>h i (by omega)) (h j (by omega))
theorem zMp {O:P3} {r:Nat→P3} {j:Nat} (hO:0 < O.2.2) (h:∀ i,i≤j→0 < (r i).2.2):0 < arB O r j :=
 Int.mul_pos (Int.mul_pos (Int.mul_pos (by decide) hO) (zKn j fun i hi=>h i (by omega))) (h j (Nat.le_refl _))
theorem arS_nn {O:P3} {r:Nat→P3} : ∀ j,(∀ i,i≤j→0 < (r i).2.2)→(∀ i,i < j→0≤c3 O (r i) (r (i + 1)))→0≤(arS O r j).1
 | 0,_,_=>(show (0:Int)≤0 by decide)
 | j + 1,h,hc=>by
  have z1:=Int.mul_nonneg (arS_nn j (fun i hi=>h i (by omega)) fun i hi=>hc i (by omega)) (Int.le_of_lt (h (j + 1) (Nat.le_refl _)))
  have z2:=Int.mul_nonneg (hc j (by omega)) (Int.le_of_lt (zKn (O:=O) (r:=r) j fun i hi=>h i (by omega)))
  show 0≤(arS O r j).1 * (r (j + 1)).2.2 + c3 O (r j) (r (j + 1)) * (arS O r j).2
  omega
structure Fine (p:P3):Prop where
 x:p.1.natAbs≤10 ^ 23
 y:p.2.1.natAbs≤10 ^ 23
 w:p.2.2.natAbs≤10 ^ 19
 pos:0 < p.2.2
theorem zPg {O A B:P3} (hO:Fine O) (hA:Fine A) (hB:Fine B):(c3 O A B).natAbs≤10 ^ 66:=by
 have e1:(10:Nat) ^ 23 * 10 ^ 19 = 10 ^ 42:=by decide +kernel
 have e2:(10:Nat) ^ 23 * 10 ^ 23 = 10 ^ 46:=by decide +kernel
 have e3:(10:Nat) ^ 23 * (10 ^ 42 + 10 ^ 42) = 2 * 10 ^ 65:=by decide +kernel
 have e4:(10:Nat) ^ 19 * (10 ^ 46 + 10 ^ 46) = 2 * 10 ^ 65:=by decide +kernel
 have z1:=zAh A.2.1 B.2.2 hA.y hB.w
 have z2:=zAh B.2.1 A.2.2 hB.y hA.w
 have z3:=zAh A.1 B.2.2 hA.x hB.w
 have z4:=zAh B.1 A.2.2 hB.x hA.w
 have z5:=zAh A.1 B.2.1 hA.x hB.y
 have z6:=zAh B.1 A.2.1 hB.x hA.y
 rw [e1] at z1 z2 z3 z4
 rw [e2] at z5 z6
 have y1:=zAh O.1 (A.2.1 * B.2.2 - B.2.1 * A.2.2) hO.x (n:=10 ^ 42 + 10 ^ 42) (by omega)
 have y2:=zAh O.2.1 (A.1 * B.2.2 - B.1 * A.2.2) hO.y (n:=10 ^ 42 + 10 ^ 42) (by omega)
 have y3:=zAh O.2.2 (A.1 * B.2.1 - B.1 * A.2.1) hO.w (n:=10 ^ 46 + 10 ^ 46) (by omega)
 rw [e3] at y1 y2
 rw [e4] at y3
 have e5:6 * (10:Nat) ^ 65≤10 ^ 66:=by decide +kernel
 unfold c3
 generalize O.1 * (A.2.1 * B.2.2 - B.2.1 * A.2.2) = a at y1 ⊢
 generalize O.2.1 * (A.1 * B.2.2 - B.1 * A.2.2) = b at y2 ⊢
 generalize O.2.2 * (A.1 * B.2.1 - B.1 * A.2.1) = d at y3 ⊢
 clear z1 z2 z3 z4 z5 z6 e1 e2 e3 e4
 generalize (10:Nat) ^ 65 = M at y1 y2 y3 e5
 generalize (10:Nat) ^ 66 = M' at e5 ⊢
 omega
theorem zKc {O:P3} {r:Nat→P3} (hO:Fine O):∀ j,(∀ i,i≤j→Fine (r i))→(arS O r j).1.natAbs≤j * 10 ^ (66 + 19 * j)∧(arS O r j).2.natAbs≤10 ^ (19 * j)
 | 0,_=>⟨(show (0:Int).natAbs≤0 * 10 ^ (66 + 19 * 0) by decide),(show (1:Int).natAbs≤10 ^ (19 * 0) by decide)⟩
 | j + 1,h=>by
  obtain ⟨h1,h2⟩:=zKc hO j fun i hi=>h i (by omega)
  have z1:=zAh (arS O r j).1 (r (j + 1)).2.2 h1 (h (j + 1) (Nat.le_refl _)).w
  have z2:=zAh (c3 O (r j) (r (j + 1))) (arS O r j).2 (zPg hO (h j (by omega)) (h (j + 1) (Nat.le_refl _))) h2
  have z3:=zAh (arS O r j).2 (r j).2.2 h2 (h j (by omega)).w
  have e1:(10:Nat) ^ (66 + 19 * (j + 1)) = 10 ^ (66 + 19 * j) * 10 ^ 19:=by rw [← Nat.pow_add]; congr 1
  have e2:(10:Nat) ^ (19 * (j + 1)) = 10 ^ (19 * j) * 10 ^ 19:=by rw [← Nat.pow_add]; congr 1
  have e3:(10:Nat) ^ 66 * 10 ^ (19 * j) = 10 ^ (66 + 19 * j):=by rw [← Nat.pow_add]
  have e4:(10:Nat) ^ (66 + 19 * j)≤10 ^ (66 + 19 * j) * 10 ^ 19:=Nat.le_mul_of_pos_right _ (by decide)
  refine ⟨?_,by rw [e2]; exact z3⟩
  show ((arS O r j).1 * (r (j + 1)).2.2 + c3 O (r j) (r (j + 1)) * (arS O r j).2).natAbs≤(j + 1) * 10 ^ (66 + 19 * (j + 1))
  rw [e3] at z2
  rw [Nat.mul_assoc] at z1
  rw [e1,Nat.add_mul,Nat.one_mul]
  have t:=Int.natAbs_add_le ((arS O r j).1 * (r (j + 1)).2.2) (c3 O (r j) (r (j + 1)) * (arS O r j).2)
  omega
theorem arN_le {O:P3} {r:Nat→P3} {j:Nat} (hO:Fine O) (hj:j≤16) (h:∀ i,i≤j→Fine (r i)):(arS O r j).1.natAbs≤10 ^ 372:=by
 have z:=(zKc hO j h).1
 refine Nat.le_trans z (Nat.le_trans (Nat.mul_le_mul hj (Nat.pow_le_pow_right (by decide) (show 66 + 19 * j≤370 by omega))) (by decide +kernel))
theorem arB_le {O:P3} {r:Nat→P3} {j:Nat} (hO:Fine O) (hj:j≤16) (h:∀ i,i≤j→Fine (r i)):(arB O r j).natAbs≤10 ^ 343:=by
 have z:=(zKc hO j h).2
 have z1:=zAh (2 * O.2.2) (arS O r j).2 (m:=2 * 10 ^ 19) (by have:=hO.w; omega) (Nat.le_trans z (Nat.pow_le_pow_right (by decide) (show 19 * j≤304 by omega)))
 have z2:=zAh (2 * O.2.2 * (arS O r j).2) (r j).2.2 z1 (h j (Nat.le_refl _)).w
 exact Nat.le_trans z2 (by decide +kernel)
theorem zN1 {ss:List Sd} {P:P3} (sm:∀ t∈ss,t.2.1.natAbs≤10 ^ 9∧t.2.2.1.natAbs≤10 ^ 9∧t.2.2.2.natAbs≤10 ^ 13) (c:Cor ss P):Fine P:=by
 obtain ⟨e,he,s,hs,h,rfl,_⟩:=c
 obtain ⟨b1,b2,b3⟩:=sm e he
 obtain ⟨c1,c2,c3⟩:=sm s hs
 obtain ⟨x,y,w,el,sp⟩:=zF9 (X:=e.2.2.2 * s.2.2.1 - e.2.2.1 * s.2.2.2) (Y:=e.2.1 * s.2.2.2 - e.2.2.2 * s.2.1) (W:=e.2.1 * s.2.2.1 - e.2.2.1 * s.2.1) h
 have e1:crL e.2 s.2 = [x,y,w]:=el
 rw [e1]
 have z1:=zAh e.2.2.2 s.2.2.1 b3 c2
 have z2:=zAh e.2.2.1 s.2.2.2 b2 c3
 have z3:=zAh e.2.1 s.2.2.2 b1 c3
 have z4:=zAh e.2.2.2 s.2.1 b3 c1
 have z5:=zAh e.2.1 s.2.2.1 b1 c2
 have z6:=zAh e.2.2.1 s.2.1 b2 c1
 have x1:=sp.xle
 have x2:=sp.yle
 have x3:=sp.wle
 have x4:=sp.pos
 exact ⟨by show x.natAbs≤_; omega,by show y.natAbs≤_; omega,by show w.natAbs≤_; omega,by show 0 < w; omega⟩
theorem Rg.nodup {ss:List Sd} {O:P3} {rest:List P3} (R:Rg ss O rest):(O :: rest).Nodup:=by
 refine List.nodup_cons.mpr ⟨fun h=>(R.fw O h).1 rfl,?_⟩
 rw [List.nodup_iff_pairwise_ne] 
 exact R.left.imp fun {A B} h e=>by
  rw [e,zOx] at h
  exact absurd h (by decide)
end Sea

namespace Sea
open PySem L2
structure Rel (b x y:Int) (P P':P3):Prop where
 pos:0 < P.2.2
 pos':0 < P'.2.2
 ex:(b * P.1 + x * P.2.2) * P'.2.2 = P'.1 * P.2.2
 ey:(b * P.2.1 + y * P.2.2) * P'.2.2 = P'.2.1 * P.2.2
def zIk (P:P3):Prop:=0 < P.2.2∧Nat.gcd (Nat.gcd P.1.natAbs P.2.1.natAbs) P.2.2.natAbs = 1
section
variable {b x y:Int}
def leP (P Q:P3):Prop:=leS (0,P) (0,Q)
theorem zUr (P Q:P3):ahB (0,P) (0,Q) = true↔P.1 * Q.2.2 - Q.1 * P.2.2 < 0∨(P.1 * Q.2.2 - Q.1 * P.2.2 = 0∧P.2.1 * Q.2.2 - Q.2.1 * P.2.2 < 0):=by
 unfold ahB
 dsimp only
 split
 ·rename_i h
  rw [decide_eq_true_iff]
  omega
 ·rename_i h
  rw [decide_eq_true_iff]
  omega
theorem zR7 {P Q:P3} (lP:zIk P) (lQ:zIk Q) (h1:leP P Q) (h2:leP Q P):P = Q:=by
 have n1:¬ ahB (0,Q) (0,P) = true:=by intro z; have h1:ahB (0,Q) (0,P) = false:=h1; rw [h1] at z; cases z
 have n2:¬ ahB (0,P) (0,Q) = true:=by intro z; have h2:ahB (0,P) (0,Q) = false:=h2; rw [h2] at z; cases z
 rw [zUr] at n1 n2
 exact zCw lP.1 lQ.1 lP.2 lQ.2 (by omega) (by omega)
theorem zB8 {ss:List Sd} {P:P3} (c:Cor ss P):zIk P:=by
 obtain ⟨t,_,u,_,h,rfl,_⟩:=c
 obtain ⟨sp,_,_⟩:=zB0 h
 exact ⟨sp.pos,sp.low⟩
theorem zLm {p q p' q':Int} (h:p' * q = q' * p) (hq:1≤q) (hq':1≤q') (l:Nat.gcd p.natAbs q.natAbs = 1) (l':Nat.gcd p'.natAbs q'.natAbs = 1):p' = p∧q' = q:=by
 have d1:q.natAbs ∣ q'.natAbs * p.natAbs:=by rw [← Int.natAbs_mul,← h,Int.natAbs_mul]; exact Nat.dvd_mul_left _ _
 have d2:q'.natAbs ∣ p'.natAbs * q.natAbs:=by rw [← Int.natAbs_mul,h,Int.natAbs_mul]; exact Nat.dvd_mul_right _ _
 have e1:=Nat.Coprime.dvd_of_dvd_mul_right (Nat.Coprime.symm l) d1
 have e2:=Nat.Coprime.dvd_of_dvd_mul_left (Nat.Coprime.symm l') d2
 have eq:q' = q:=by
  have:=Nat.dvd_antisymm e1 e2
  omega
 refine ⟨?_,eq⟩
 rw [eq,Int.mul_comm] at h
 exact Int.eq_of_mul_eq_mul_left (by omega) h
end
end Sea

namespace Sea
open PySem L2
def crR (A B:P3):Rat:=((A.1 * B.2.1 - B.1 * A.2.1:Int):Rat) / ((A.2.2 * B.2.2:Int):Rat)
theorem zKa (A B:P3):crR B A = - crR A B:=by
 unfold crR
 rw [show B.1 * A.2.1 - A.1 * B.2.1 = -(A.1 * B.2.1 - B.1 * A.2.1) by omega,Int.mul_comm B.2.2]
 rw [Rat.intCast_neg]
 grind
theorem zE2 {a:Int} (h:0 < a):(a:Rat)≠0:=by
 intro z
 have:=Rat.intCast_inj.mp (z.trans (by rfl:(0:Rat) = ((0:Int):Rat)))
 omega
theorem c3R {O A B:P3} (hO:0 < O.2.2) (hA:0 < A.2.2) (hB:0 < B.2.2):((c3 O A B:Int):Rat) / ((O.2.2 * A.2.2 * B.2.2:Int):Rat) = crR O A + crR A B + crR B O:=by
 have nO:=zE2 hO
 have nA:=zE2 hA
 have nB:=zE2 hB
 unfold c3 crR
 simp only [Rat.intCast_mul,Rat.intCast_sub,Rat.intCast_add]
 generalize (O.1:Rat) = o1
 generalize (O.2.1:Rat) = o2
 generalize (O.2.2:Rat) = ow at *
 generalize (A.1:Rat) = a1
 generalize (A.2.1:Rat) = a2
 generalize (A.2.2:Rat) = aw at *
 generalize (B.1:Rat) = b1
 generalize (B.2.1:Rat) = b2
 generalize (B.2.2:Rat) = bw at *
 grind
def sumR:List Rat→Rat
 | []=>0
 | x :: l=>x + sumR l
theorem zFt:∀ l m:List Rat,sumR (l ++ m) = sumR l + sumR m
 | [],m=>by show sumR m = 0 + sumR m; grind
 | x :: l,m=>by show x + sumR (l ++ m) = x + sumR l + sumR m; rw [zFt l m]; grind
theorem zPe {l m:List Rat} (h:l.Perm m):sumR l = sumR m:=by
 induction h with
 | nil=>rfl
 | cons x _ ih=>show x + _ = x + _; rw [ih]
 | swap x y l=>show y + (x + sumR l) = x + (y + sumR l); grind
 | trans _ _ h1 h2=>exact h1.trans h2
def pth (r:Nat→P3) (j:Nat):List (P3 × P3):=(List.range j).map fun i=>(r i,r (i + 1))
def edg (O:P3) (r:Nat→P3) (j:Nat):List (P3 × P3):=(O,r 0) :: (pth r j ++ [(r j,O)])
def sumE (l:List (P3 × P3)):Rat:=sumR (l.map fun e=>crR e.1 e.2)
theorem zR5 (r:Nat→P3) (j:Nat):pth r (j + 1) = pth r j ++ [(r j,r (j + 1))]:=by
 unfold pth
 rw [List.range_succ,List.map_append]
 rfl
theorem zNe (O:P3) (r:Nat→P3) (j:Nat):sumE (edg O r j) = crR O (r 0) + (sumE (pth r j) + crR (r j) O):=by
 unfold sumE edg
 rw [List.map_cons,List.map_append]
 show crR O (r 0) + sumR _ = _
 rw [zFt]
 show _ = crR O (r 0) + (sumR _ + crR (r j) O)
 congr 2
 show crR (r j) O + 0 = crR (r j) O
 grind
theorem zR2 {N v cc Q w u:Rat} (n1:w≠0) (n2:u≠0) (n3:v≠0) (n4:Q≠0):2 * (N * v + cc * Q) / (2 * w * (Q * u) * v) = 2 * N / (2 * w * Q * u) + cc / (w * u * v):=by
 have e1:2 * N / (2 * w * Q * u) = 2 * N * v / (2 * w * (Q * u) * v):=by grind
 have e2:cc / (w * u * v) = 2 * (cc * Q) / (2 * w * (Q * u) * v):=by grind
 rw [e1,e2]
 grind
theorem zRg {O:P3} {r:Nat→P3} (hO:0 < O.2.2):∀ j:Nat,(∀ i,i≤j→0 < (r i).2.2)→2 * (((arS O r j).1:Int):Rat) / ((arB O r j:Int):Rat) = sumE (edg O r j)
 | 0,h=>by
  rw [zNe]
  have e:=zKa O (r 0)
  have z:sumE (pth r 0) = 0:=rfl
  rw [e,z]
  show 2 * ((0:Int):Rat) / _ = _
  rw [show ((0:Int):Rat) = 0 from rfl]
  grind
 | j + 1,h=>by
  have ih:=zRg hO j fun i hi=>h i (by omega)
  have hj:=h j (by omega)
  have hj1:=h (j + 1) (Nat.le_refl _)
  have hP:=zKn (O:=O) (r:=r) j fun i hi=>h i (by omega)
  have c:=c3R hO hj hj1
  have an:=zKa O (r j)
  rw [zNe] at ih ⊢
  have es:sumE (pth r (j + 1)) = sumE (pth r j) + crR (r j) (r (j + 1)):=by
   rw [zR5]
   unfold sumE
   rw [List.map_append,zFt]
   congr 1
   show crR (r j) (r (j + 1)) + 0 = _
   grind
  rw [es]
  unfold arB at ih ⊢
  show 2 * (((arS O r j).1 * (r (j + 1)).2.2 + c3 O (r j) (r (j + 1)) * (arS O r j).2:Int):Rat) / ((2 * O.2.2 * ((arS O r j).2 * (r j).2.2) * (r (j + 1)).2.2:Int):Rat) = _
  have n1:=zE2 hO
  have n2:=zE2 hj
  have n3:=zE2 hj1
  have n4:=zE2 hP
  simp only [Rat.intCast_mul,Rat.intCast_add] at ih c ⊢
  rw [show ((2:Int):Rat) = 2 from rfl] at ih ⊢
  generalize (((arS O r j).1:Int):Rat) = N at *
  generalize (((arS O r j).2:Int):Rat) = Q at *
  generalize ((c3 O (r j) (r (j + 1)):Int):Rat) = cc at *
  generalize ((O.2.2:Int):Rat) = w at *
  generalize (((r j).2.2:Int):Rat) = u at *
  generalize (((r (j + 1)).2.2:Int):Rat) = v at *
  have k:=zR2 (N:=N) (cc:=cc) n1 n2 n3 n4
  rw [k,ih,c]
  generalize crR (r j) O = x1 at *
  generalize crR O (r j) = x2 at *
  grind
theorem Fq.rat {s t N B:Int} (f:Fq s t N B) (hB:0 < B):((N:Int):Rat) / ((B:Int):Rat) = ((s:Int):Rat) / ((t:Int):Rat):=by
 have n1:=zE2 hB
 have p:=f.pos
 have n2:=zE2 (show 0 < t by omega)
 have e:=congrArg (fun i:Int=>(i:Rat)) f.eq
 simp only [Rat.intCast_mul] at e
 grind
theorem zPh {s t s' t':Int} (ht:0 < t) (ht':0 < t') (h:((s:Int):Rat) / ((t:Int):Rat) = ((s':Int):Rat) / ((t':Int):Rat)):s' * t = t' * s:=by
 have n1:=zE2 ht
 have n2:=zE2 ht'
 have z:((s' * t:Int):Rat) = ((t' * s:Int):Rat):=by
  rw [Rat.intCast_mul,Rat.intCast_mul]
  grind
 exact Rat.intCast_inj.mp z
def tu (g:Bool) (P:P3):P3:=(if g then P.2.1 else -P.2.1,P.1,P.2.2)
def tv (g:Bool) (P:P3):P3:=(P.2.1,if g then P.1 else -P.1,P.2.2)
def sg (g:Bool):Int:=if g then -1 else 1
section
variable {g:Bool}
theorem zPj (P:P3):tu g (tv g P) = P:=by
 obtain ⟨x,y,w⟩:=P
 cases g
 ·show (- -x,y,w) = _
  rw [Int.neg_neg]
 ·rfl
theorem tv_tu (P:P3):tv g (tu g P) = P:=by
 obtain ⟨x,y,w⟩:=P
 cases g
 ·show (x,- -y,w) = _
  rw [Int.neg_neg]
 ·rfl
theorem zG5 {P Q:P3} (h:tu g P = tu g Q):P = Q:=by rw [← tv_tu (g:=g) P,h,tv_tu]
theorem zOz (t P:P3):sv (tu g t) (tu g P) = sv t P:=by
 unfold sv tu
 cases g <;> dsimp only [if_true,if_false,Bool.false_eq_true] <;> grind
theorem tn_tu (t u:P3):tn (tu g t) (tu g u) = sg g * tn t u:=by
 unfold tn tu sg
 cases g <;> dsimp only [if_true,if_false,Bool.false_eq_true] <;> grind
theorem sg_ne:sg g≠0:=by cases g <;> decide
theorem zNd {t u:P3} : tn (tu g t) (tu g u)≠0↔tn t u≠0:=by
 rw [tn_tu]
 exact ⟨fun h z=>h (by rw [z,Int.mul_zero]),fun h z=>h ((Int.mul_eq_zero.mp z).resolve_left sg_ne)⟩
theorem zR9 (O A B:P3):c3 (tu g O) (tu g A) (tu g B) = sg g * c3 O A B:=by
 unfold c3 tu sg
 cases g <;> dsimp only [if_true,if_false,Bool.false_eq_true] <;> grind
theorem zS0 (A B:P3):crR (tu g A) (tu g B) = ((sg g:Int):Rat) * crR A B:=by
 unfold crR
 have e:(tu g A).1 * (tu g B).2.1 - (tu g B).1 * (tu g A).2.1 = sg g * (A.1 * B.2.1 - B.1 * A.2.1):=by
  unfold tu sg
  cases g <;> dsimp only [if_true,if_false,Bool.false_eq_true] <;> grind
 rw [e,Rat.intCast_mul]
 show _ / ((A.2.2 * B.2.2:Int):Rat) = _
 grind
theorem zLu {P:P3} : zIk (tu g P)↔zIk P:=by
 unfold zIk tu
 have e:(if g then P.2.1 else -P.2.1).natAbs = P.2.1.natAbs:=by cases g <;> simp
 dsimp only
 rw [e,Nat.gcd_comm P.2.1.natAbs]
def Tm (g:Bool) (ss ss':List Sd):Prop:=ss'.map (·.2) = ss.map fun t=>tu g t.2
theorem Tm.fwd {ss ss':List Sd} (h:Tm g ss ss') {t:Sd} (ht:t∈ss):∃ t'∈ss',t'.2 = tu g t.2:=by
 have z:tu g t.2∈ss'.map (·.2):=by rw [h]; exact List.mem_map_of_mem (f:=fun t:Sd=>tu g t.2) ht
 obtain ⟨t',h1,h2⟩:=List.mem_map.mp z
 exact ⟨t',h1,h2⟩
theorem Tm.bwd {ss ss':List Sd} (h:Tm g ss ss') {t':Sd} (ht:t'∈ss'):∃ t∈ss,t'.2 = tu g t.2:=by
 have z:t'.2∈ss.map fun t=>tu g t.2:=by rw [← h]; exact List.mem_map_of_mem (f:=fun t:Sd=>t.2) ht
 obtain ⟨t,h1,h2⟩:=List.mem_map.mp z
 exact ⟨t,h1,h2.symm⟩
theorem Tm.len {ss ss':List Sd} (h:Tm g ss ss'):ss'.length = ss.length:=by
 have z:=congrArg List.length h
 rwa [List.length_map,List.length_map] at z
theorem Tm.inW {ss ss':List Sd} (h:Tm g ss ss') {P:P3} : Sea.inW ss' (tu g P)↔Sea.inW ss P:=by
 constructor
 ·intro w t ht
  obtain ⟨t',h1,h2⟩:=h.fwd ht
  have z:=w t' h1
  rwa [h2,zOz] at z
 ·intro w t' ht'
  obtain ⟨t,h1,h2⟩:=h.bwd ht'
  rw [h2,zOz]
  exact w t h1
theorem Tm.place {ss ss':List Sd} (h:Tm g ss ss'):(∃ z:P3,0 < z.2.2∧Sea.inW ss' z)↔∃ z:P3,0 < z.2.2∧Sea.inW ss z:=by
 constructor
 ·rintro ⟨z,zw,wz⟩
  exact ⟨tv g z,zw,h.inW.mp (by rw [zPj]; exact wz)⟩
 ·rintro ⟨z,zw,wz⟩
  exact ⟨tu g z,zw,h.inW.mpr wz⟩
theorem cr_is {t u P:P3} (h:tn t u≠0) (lP:zIk P) (e1:sv t P = 0) (e2:sv u P = 0):P = pt3 (crL t u):=by
 obtain ⟨sp,f1,f2⟩:=zB0 h
 obtain ⟨x1,x2⟩:=zMd h lP.1 sp.pos e1 e2 f1 f2
 exact zCw lP.1 sp.pos lP.2 sp.low x1 x2
theorem Tm.cor {ss ss':List Sd} (h:Tm g ss ss') {P:P3} : Cor ss' (tu g P)↔Cor ss P:=by
 constructor
 ·intro c
  have lP:=zLu.mp (zB8 c)
  obtain ⟨t',ht',u',hu',hn',e,wP⟩:=c
  obtain ⟨_,f1,f2⟩:=zB0 hn'
  rw [← e] at f1 f2
  obtain ⟨t,ht,et⟩:=h.bwd ht'
  obtain ⟨u,hu,eu⟩:=h.bwd hu'
  rw [et,zOz] at f1
  rw [eu,zOz] at f2
  have hn:tn t.2 u.2≠0:=by rw [et,eu] at hn'; exact zNd.mp hn'
  exact ⟨t,ht,u,hu,hn,cr_is hn lP f1 f2,h.inW.mp wP⟩
 ·intro c
  have lP:=zLu (g:=g) |>.mpr (zB8 c)
  obtain ⟨t,ht,u,hu,hn,e,wP⟩:=c
  obtain ⟨_,f1,f2⟩:=zB0 hn
  rw [← e] at f1 f2
  obtain ⟨t',ht',et⟩:=h.fwd ht
  obtain ⟨u',hu',eu⟩:=h.fwd hu
  have hn':tn t'.2 u'.2≠0:=by rw [et,eu]; exact zNd.mpr hn
  exact ⟨t',ht',u',hu',hn',cr_is hn' lP (by rw [et,zOz]; exact f1) (by rw [eu,zOz]; exact f2),h.inW.mpr wP⟩
theorem Tm.cor' {ss ss':List Sd} (h:Tm g ss ss') {P':P3} (c:Cor ss' P'):∃ P,Cor ss P∧P' = tu g P:=⟨tv g P',h.cor.mp (by rw [zPj]; exact c),(zPj _).symm⟩
def mvL (g:Bool) (k:List Int):List Int:=[if g then k.getD 1 0 else -k.getD 1 0,k.getD 0 0]
theorem zE8 (x y:Int):lowL (mvL g [x,y]) = mvL g (lowL [x,y]):=by
 have e1:gcdL (mvL g [x,y]) = gcdL [x,y]:=by
  unfold mvL
  rw [zGf,zGf,Nat.gcd_comm]
  cases g <;> simp
 have dv:(gcdL [x,y]:Int) ∣ y:=zBs (by simp)
 show [(if g then y else -y) / (gcdL (mvL g [x,y]):Int),x / (gcdL (mvL g [x,y]):Int)] = _
 rw [e1]
 cases g
 ·show [-y / (gcdL [x,y]:Int),x / (gcdL [x,y]:Int)] = [-(y / (gcdL [x,y]:Int)),x / (gcdL [x,y]:Int)]
  rw [Int.neg_ediv_of_dvd dv]
 ·rfl
theorem Tm.way {ss ss':List Sd} (h:Tm g ss ss') (u v:Int):wayB ss' (if g then v else -v) u = wayB ss u v:=by
 unfold wayB
 have e:∀ (l:List Sd) (a b:Int),(l.all fun t=>decide (t.2.1 * a + t.2.2.1 * b≤0)) = (l.map (·.2)).all fun t=>decide (t.1 * a + t.2.1 * b≤0):=fun l a b=>by rw [List.all_map]; rfl
 rw [e,e,h,List.all_map,List.all_map]
 congr 1
 funext t
 refine decide_eq_decide.mpr ?_
 show (if g then t.2.2.1 else -t.2.2.1) * (if g then v else -v) + t.2.1 * u≤0↔t.2.1 * u + t.2.2.1 * v≤0
 cases g
 ·simp only [Bool.false_eq_true,if_false,Int.neg_mul_neg]
  omega
 ·simp only [if_true]
  omega
theorem Tm.wk {ss ss':List Sd} (h:Tm g ss ss') (k':List Int):WK ss' ss'.length k'↔∃ k,WK ss ss.length k∧k' = mvL g k:=by
 have at':∀ (j:Nat) (t':Sd),ss'[j]? = some t'→∃ t,ss[j]? = some t∧t'.2 = tu g t.2:=fun j t' e=>by
  have z:=congrArg (fun l:List P3=>l[j]?) h
  simp only [List.getElem?_map,e,Option.map_some] at z
  cases q:ss[j]? with
  | none=>rw [q] at z; cases z
  | some t=>rw [q] at z; exact ⟨t,rfl,Option.some.inj z⟩
 have at2:∀ (j:Nat) (t:Sd),ss[j]? = some t→∃ t',ss'[j]? = some t'∧t'.2 = tu g t.2:=fun j t e=>by
  have z:=congrArg (fun l:List P3=>l[j]?) h
  simp only [List.getElem?_map,e,Option.map_some] at z
  cases q:ss'[j]? with
  | none=>rw [q] at z; cases z
  | some t'=>rw [q] at z; exact ⟨t',rfl,Option.some.inj z⟩
 rw [h.len]
 have w1:∀ a b:Int,wayB ss' (if g then b else -b) a = wayB ss a b:=fun a b=>h.way a b
 constructor
 ·rintro ⟨j,t',hj,q,r⟩
  obtain ⟨t,q2,e⟩:=at' j t' q
  have ea:t'.2.1 = if g then t.2.2.1 else -t.2.2.1:=by rw [e]; rfl
  have eb:t'.2.2.1 = t.2.1:=by rw [e]; rfl
  rw [ea,eb] at r
  cases g
  ·have r:(k' = lowL [-t.2.1,-t.2.2.1]∧wayB ss' (-t.2.1) (-t.2.2.1) = true)∨(k' = lowL [t.2.1,- -t.2.2.1]∧wayB ss' t.2.1 (- -t.2.2.1) = true):=r
   rcases r with ⟨r1,r2⟩ | ⟨r1,r2⟩
   ·refine ⟨lowL [-t.2.2.1,t.2.1],⟨j,t,hj,q2,.inl ⟨rfl,?_⟩⟩,by rw [r1,← zE8]; rfl⟩
    rw [← w1]; exact r2
   ·refine ⟨lowL [t.2.2.1,-t.2.1],⟨j,t,hj,q2,.inr ⟨rfl,?_⟩⟩,?_⟩
    ·rw [← w1]; show wayB ss' (- -t.2.1) t.2.2.1 = true; rw [Int.neg_neg]; rw [Int.neg_neg] at r2; exact r2
    ·rw [r1,← zE8,Int.neg_neg]; show _ = lowL [- -t.2.1,t.2.2.1]; rw [Int.neg_neg]
  ·have r:(k' = lowL [-t.2.1,t.2.2.1]∧wayB ss' (-t.2.1) t.2.2.1 = true)∨(k' = lowL [t.2.1,-t.2.2.1]∧wayB ss' t.2.1 (-t.2.2.1) = true):=r
   rcases r with ⟨r1,r2⟩ | ⟨r1,r2⟩
   ·exact ⟨lowL [t.2.2.1,-t.2.1],⟨j,t,hj,q2,.inr ⟨rfl,by rw [← w1]; exact r2⟩⟩,by rw [r1,← zE8]; rfl⟩
   ·exact ⟨lowL [-t.2.2.1,t.2.1],⟨j,t,hj,q2,.inl ⟨rfl,by rw [← w1]; exact r2⟩⟩,by rw [r1,← zE8]; rfl⟩
 ·rintro ⟨k,⟨j,t,hj,q,r⟩,rfl⟩
  obtain ⟨t',q2,e⟩:=at2 j t q
  have ea:t'.2.1 = if g then t.2.2.1 else -t.2.2.1:=by rw [e]; rfl
  have eb:t'.2.2.1 = t.2.1:=by rw [e]; rfl
  refine ⟨j,t',hj,q2,?_⟩
  rw [ea,eb]
  cases g
  ·show (_ = lowL [-t.2.1,-t.2.2.1]∧wayB ss' (-t.2.1) (-t.2.2.1) = true)∨(_ = lowL [t.2.1,- -t.2.2.1]∧wayB ss' t.2.1 (- -t.2.2.1) = true)
   rcases r with ⟨rfl,r2⟩ | ⟨rfl,r2⟩
   ·refine .inl ⟨by rw [← zE8]; rfl,?_⟩
    rw [← w1] at r2; exact r2
   ·refine .inr ⟨?_,?_⟩
    ·rw [← zE8,Int.neg_neg]; show lowL [- -t.2.1,t.2.2.1] = _; rw [Int.neg_neg]
    ·rw [← w1] at r2; have r2:wayB ss' (- -t.2.1) t.2.2.1 = true:=r2; rw [Int.neg_neg] at r2; rw [Int.neg_neg]; exact r2
  ·show (_ = lowL [-t.2.1,t.2.2.1]∧wayB ss' (-t.2.1) t.2.2.1 = true)∨(_ = lowL [t.2.1,-t.2.2.1]∧wayB ss' t.2.1 (-t.2.2.1) = true)
   rcases r with ⟨rfl,r2⟩ | ⟨rfl,r2⟩
   ·exact .inr ⟨by rw [← zE8]; rfl,by rw [← w1] at r2; exact r2⟩
   ·exact .inl ⟨by rw [← zE8]; rfl,by rw [← w1] at r2; exact r2⟩
end
theorem zUd {ss:List Sd} {A B C:P3} (cA:Cor ss A) (cB:Cor ss B) (cC:Cor ss C) (hAB:A≠B) (hAC:A≠C) (hBC:B≠C):c3 A B C≠0:=by
 have tri:∀ {P Q:P3},Cor ss P→Cor ss Q→P≠Q→ahB (0,P) (0,Q) = true∨ahB (0,Q) (0,P) = true:=fun {P Q} cP cQ ne=>by
  by_cases h1:ahB (0,P) (0,Q) = true
  ·exact .inl h1
  ·by_cases h2:ahB (0,Q) (0,P) = true
   ·exact .inr h2
   ·exact absurd (zR7 (zB8 cP) (zB8 cQ) (show ahB (0,Q) (0,P) = false by simpa using h2) (show ahB (0,P) (0,Q) = false by simpa using h1)) ne
 have go:∀ {P Q R:P3},Cor ss P→Cor ss Q→Cor ss R→P≠Q→P≠R→Q≠R→ahB (0,P) (0,Q) = true→ahB (0,P) (0,R) = true→c3 P Q R≠0:=fun {P Q R} cP cQ cR n1 n2 n3 a1 a2=>zNb cP cQ cR n1 n2 n3 (zHu (s:=(0,P)) (t:=(0,Q)) a1) (zHu (s:=(0,P)) (t:=(0,R)) a2)
 have tr:∀ {P Q R:P3},Cor ss P→Cor ss Q→Cor ss R→P≠R→ahB (0,P) (0,Q) = true→ahB (0,Q) (0,R) = true→ahB (0,P) (0,R) = true:=fun {P Q R} cP cQ cR n a1 a2=>by
  rcases tri cP cR n with h | h
  ·exact h
  ·exfalso
   have l1:=zPp (s:=(0,P)) (t:=(0,Q)) (u:=(0,R)) (zB8 cP).1 (zB8 cQ).1 (zB8 cR).1 (zH9 a1) (zH9 a2)
   have l1:ahB (0,R) (0,P) = false:=l1
   rw [l1] at h
   cases h
 have s1:=zHy A B C
 have s2:=zMe A B C
 have s3:=zMs A B C
 have s4:=zHy C A B
 rcases tri cA cB hAB with ab | ba
 ·rcases tri cA cC hAC with ac | ca
  ·exact go cA cB cC hAB hAC hBC ab ac
  ·have cb:=tr cC cA cB (Ne.symm hBC) ca ab
   have z:=go cC cA cB (Ne.symm hAC) (Ne.symm hBC) hAB ca cb
   rw [s4]
   exact z
 ·rcases tri cB cC hBC with bc | cb
  ·have z:=go cB cC cA hBC (Ne.symm hAB) (Ne.symm hAC) bc ba
   rw [s1] at z
   exact z
  ·have ca:=tr cC cB cA (Ne.symm hAC) cb ba
   have z:=go cC cA cB (Ne.symm hAC) (Ne.symm hBC) hAB ca cb
   rw [s4]
   exact z
def Edge (ss:List Sd) (A B:P3):Prop:=Cor ss A∧Cor ss B∧A≠B∧∀ C,Cor ss C→0≤c3 A B C
theorem Edge.fn {ss:List Sd} {A B C:P3} (h:Edge ss A B) (k:Edge ss A C):B = C:=by
 by_cases e:B = C
 ·exact e
 ·exfalso
  have z:=zUd h.1 h.2.1 k.2.1 h.2.2.1 k.2.2.1 e
  have z1:=h.2.2.2 C k.2.1
  have z2:=k.2.2.2 B h.2.1
  have z3:=zMs A B C
  omega
theorem Tm.edge {g:Bool} {ss ss':List Sd} (h:Tm g ss ss') {A B:P3} : (if g then Edge ss' (tu g B) (tu g A) else Edge ss' (tu g A) (tu g B))↔Edge ss A B:=by
 cases g
 ·simp only [Bool.false_eq_true,if_false]
  constructor
  ·rintro ⟨h1,h2,h3,h4⟩
   refine ⟨h.cor.mp h1,h.cor.mp h2,fun e=>h3 (by rw [e]),fun C cC=>?_⟩
   have z:=h4 (tu false C) (h.cor.mpr cC)
   rw [zR9,show sg false = 1 from rfl,Int.one_mul] at z
   exact z
  ·rintro ⟨h1,h2,h3,h4⟩
   refine ⟨h.cor.mpr h1,h.cor.mpr h2,fun e=>h3 (zG5 e),fun C' cC'=>?_⟩
   obtain ⟨C,cC,rfl⟩:=h.cor' cC'
   rw [zR9,show sg false = 1 from rfl,Int.one_mul]
   exact h4 C cC
 ·simp only [if_true]
  constructor
  ·rintro ⟨h1,h2,h3,h4⟩
   refine ⟨h.cor.mp h2,h.cor.mp h1,fun e=>h3 (by rw [e]),fun C cC=>?_⟩
   have z:=h4 (tu true C) (h.cor.mpr cC)
   rw [zR9,show sg true = -1 from rfl] at z
   have z2:=zMe A B C
   omega
  ·rintro ⟨h1,h2,h3,h4⟩
   refine ⟨h.cor.mpr h2,h.cor.mpr h1,fun e=>h3 (zG5 e).symm,fun C' cC'=>?_⟩
   obtain ⟨C,cC,rfl⟩:=h.cor' cC'
   rw [zR9,show sg true = -1 from rfl]
   have z:=h4 C cC
   have z2:=zMe A B C
   omega
def zJh (ss:List Sd) (g:P3) (xs:List V):Prop :=
 (xs = [.str "none"]∧∀ z:P3,0 < z.2.2→¬ inW ss z)∨(xs = [.str "open"]∧(∃ z:P3,0 < z.2.2∧inW ss z)∧∃ x y:Int,0 < g.1 * x + g.2.1 * y∧wayB ss x y = true) ∨
 ∃ (a b:Int) (P:P3),xs = [.str "far", .int a,.int b]∧0 < P.2.2∧inW ss P∧(∀ z:P3,0 < z.2.2→inW ss z→(g.1 * z.1 + g.2.1 * z.2.1) * P.2.2≤(g.1 * P.1 + g.2.1 * P.2.1) * z.2.2)∧1≤b∧Nat.gcd a.natAbs b.natAbs = 1∧a * P.2.2 = b * (g.1 * P.1 + g.2.1 * P.2.1)
theorem zQm {ss:List Sd} {g P:P3} {x y:Int} (hg:0 < g.1 * x + g.2.1 * y) (hw:wayB ss x y = true) (pw:0 < P.2.2) (wP:inW ss P) (most:∀ z:P3,0 < z.2.2→inW ss z→(g.1 * z.1 + g.2.1 * z.2.1) * P.2.2≤(g.1 * P.1 + g.2.1 * P.2.1) * z.2.2):False:=by
 have z:=most (P.1 + x * P.2.2,P.2.1 + y * P.2.2,P.2.2) pw (fun t ht=>?_)
 ·dsimp only at z
  have e:(g.1 * (P.1 + x * P.2.2) + g.2.1 * (P.2.1 + y * P.2.2)) * P.2.2 = (g.1 * P.1 + g.2.1 * P.2.1) * P.2.2 + (g.1 * x + g.2.1 * y) * P.2.2 * P.2.2:=by grind
  have p:=Int.mul_pos (Int.mul_pos hg pw) pw
  omega
 ·have h1:=wP t ht
  have h2:=of_decide_eq_true (List.all_eq_true.mp hw t ht)
  unfold sv at h1 ⊢
  dsimp only
  have e:t.2.1 * (P.1 + x * P.2.2) + t.2.2.1 * (P.2.1 + y * P.2.2) - t.2.2.2 * P.2.2 = (t.2.1 * P.1 + t.2.2.1 * P.2.1 - t.2.2.2 * P.2.2) + (t.2.1 * x + t.2.2.1 * y) * P.2.2:=by grind
  have p:=Int.mul_nonneg (show 0≤-(t.2.1 * x + t.2.2.1 * y) by omega) (Int.le_of_lt pw)
  rw [Int.neg_mul] at p
  omega
theorem zKu {b:Bool} (g P:P3):(tu b g).1 * (tu b P).1 + (tu b g).2.1 * (tu b P).2.1 = g.1 * P.1 + g.2.1 * P.2.1:=by
 unfold tu
 cases b <;> dsimp only [if_true,if_false,Bool.false_eq_true] <;> grind
theorem zJh.same {b:Bool} {ss ss':List Sd} (h:Tm b ss ss') {g g':P3} (eg:g'.1 = (tu b g).1∧g'.2.1 = (tu b g).2.1) {xs xs':List V} (f:zJh ss g xs) (f':zJh ss' g' xs'):xs' = xs:=by
 obtain ⟨e1,e2⟩:=eg
 unfold zJh at f'
 rw [e1,e2] at f'
 have noP:(∀ z:P3,0 < z.2.2→¬ inW ss z)→∀ z:P3,0 < z.2.2→¬ inW ss' z:=fun no z zw wz=>by
  obtain ⟨z1,z2,z3⟩:=h.place.mp ⟨z,zw,wz⟩
  exact no z1 z2 z3
 have noP':(∀ z:P3,0 < z.2.2→¬ inW ss' z)→∀ z:P3,0 < z.2.2→¬ inW ss z:=fun no z zw wz=>by
  obtain ⟨z1,z2,z3⟩:=h.place.mpr ⟨z,zw,wz⟩
  exact no z1 z2 z3
 have wayF:∀ x y:Int,0 < g.1 * x + g.2.1 * y→wayB ss x y = true→0 < (tu b g).1 * (if b then y else -y) + (tu b g).2.1 * x∧wayB ss' (if b then y else -y) x = true:=fun x y hg hw=>by
  refine ⟨?_,by rw [h.way]; exact hw⟩
  have z:=zKu (b:=b) g (x,y,1)
  have z:(tu b g).1 * (if b then y else -y) + (tu b g).2.1 * x = g.1 * x + g.2.1 * y:=z
  omega
 have wayB':∀ x y:Int,0 < (tu b g).1 * x + (tu b g).2.1 * y→wayB ss' x y = true→0 < g.1 * y + g.2.1 * (if b then x else -x)∧wayB ss y (if b then x else -x) = true:=fun x y hg hw=>by
  have ex:(if b then (if b then x else -x) else -(if b then x else -x)) = x:=by cases b <;> simp
  refine ⟨?_,by rw [← h.way,ex]; exact hw⟩
  have z:=zKu (b:=b) g (y,if b then x else -x,1)
  have z:(tu b g).1 * (if b then (if b then x else -x) else -(if b then x else -x)) + (tu b g).2.1 * y = g.1 * y + g.2.1 * (if b then x else -x):=z
  rw [ex] at z
  omega
 rcases f with ⟨e,no⟩ | ⟨e,pl,x,y,hg,hw⟩ | ⟨a,c,P,e,pw,wP,most,c1,low,eq⟩
 ·rcases f' with ⟨e',_⟩ | ⟨_,⟨z,zw,wz⟩,_⟩ | ⟨_,_,P',_,pw',wP',_⟩
  ·rw [e,e']
  ·exact absurd wz (noP no z zw)
  ·exact absurd wP' (noP no P' pw')
 ·rcases f' with ⟨e',no'⟩ | ⟨e',_⟩ | ⟨_,_,P',_,pw',wP',most',_⟩
  ·obtain ⟨z,zw,wz⟩:=pl
   exact absurd wz (noP' no' z zw)
  ·rw [e,e']
  ·exfalso
   obtain ⟨k1,k2⟩:=wayF x y hg hw
   exact zQm k1 k2 pw' wP' most'
 ·rcases f' with ⟨e',no'⟩ | ⟨e',_,x,y,hg,hw⟩ | ⟨a',c',P',e',pw',wP',most',c1',low',eq'⟩
  ·exact absurd wP (noP' no' P pw)
  ·exfalso
   obtain ⟨k1,k2⟩:=wayB' x y hg hw
   exact zQm k1 k2 pw wP most
  ·have m1:=most' (tu b P) pw (h.inW.mpr wP)
   have m2:=most (tv b P') pw' (h.inW.mp (by rw [zPj]; exact wP'))
   have g1:=zKu (b:=b) g P
   have g2:=zKu (b:=b) g (tv b P')
   rw [zPj] at g2
   rw [g1] at m1
   rw [← g2] at m2
   have m2:((tu b g).1 * P'.1 + (tu b g).2.1 * P'.2.1) * P.2.2≤(g.1 * P.1 + g.2.1 * P.2.1) * P'.2.2:=m2
   have m1:(g.1 * P.1 + g.2.1 * P.2.1) * P'.2.2≤((tu b g).1 * P'.1 + (tu b g).2.1 * P'.2.1) * P.2.2:=m1
   generalize g.1 * P.1 + g.2.1 * P.2.1 = N at *
   generalize (tu b g).1 * P'.1 + (tu b g).2.1 * P'.2.1 = N' at *
   have me:N * P'.2.2 = N' * P.2.2:=by omega
   have k:(a' * c - c' * a) * (P.2.2 * P'.2.2) = 0:=by
    have z:(a' * c - c' * a) * (P.2.2 * P'.2.2) = (a' * P'.2.2) * c * P.2.2 - c' * (a * P.2.2) * P'.2.2:=by grind
    rw [z,eq,eq']
    have z2:c' * N' * c * P.2.2 - c' * (c * N) * P'.2.2 = c' * c * (N' * P.2.2 - N * P'.2.2):=by grind
    rw [z2,me,Int.sub_self,Int.mul_zero]
   have:=(Int.mul_eq_zero.mp k).resolve_right (Int.ne_of_gt (Int.mul_pos pw pw'))
   obtain ⟨k1,k2⟩:=zLm (p:=a) (q:=c) (p':=a') (q':=c') (by omega) c1 c1' low low'
   rw [e,e',k1,k2]
end Sea

namespace L2
open PySem PySem.Spec PyProof.Rows
section
variable {X:Cx}
theorem op_one {op:Value→Value→Sem Value} {r1 r2:R2} (h1:OpR X op r1) (h2:OpR X op r2):OpR X op (fun x y H Q=>r1 x y H Q∨r2 x y H Q):=by
 intro pins s σ H x y v u Q I rx ry h
 rcases h with h | h
 ·exact h1 pins s σ H x y v u Q I rx ry h
 ·exact h2 pins s σ H x y v u Q I rx ry h
def rNeS (K:PySem.W.Frag):R2:=fun x y H Q=>∃ (a b:Addr) (xs:List V),x = .ref a∧y = .ref b∧SqT K H a xs∧SqT K H b xs∧(∀ v∈xs,(∃ i,v = .int i)∨∃ t,v = .str t)∧Q (.bl false) H
theorem Vals.atS {xs:List V} {us:List Value} (r:Vals xs us) {j:Nat} (h1:j < xs.length) (h2:j < us.length):RelV xs[j] us[j]:=by
 obtain ⟨u,e,ru⟩:=r.get (List.getElem?_eq_getElem h1)
 rw [List.getElem?_eq_getElem h2] at e
 cases e
 exact ru
theorem op_neS (hu:X.A.units + 64 < cLine):OpR X (compareOp .NotEq) (rNeS X.K):=by
 intro pins s σ H x y v u Q I rx ry h
 obtain ⟨a,b,xs,rfl,rfl,h1,h2,hv,q⟩:=h
 cases rx
 cases ry
 obtain ⟨us,r1,k1,_⟩:=I.tuple h1
 obtain ⟨ws,r2,k2,_⟩:=I.tuple h2
 have l1:=r1.length
 have l2:=r2.length
 refine SeqAt.RcNeAt.tuples (e:=fun _=>true) (show s.heap.IsTuple _ us.toArray from k1) (show s.heap.IsTuple _ ws.toArray from k2) (show X.A.units < cLine by omega) (fun j h1 h2=>?_) X.prog X.w _ _ ?_
 ·have j1:j < us.length:=by simpa using h1
  have j2:j < ws.length:=by simpa using h2
  have jx:j < xs.length:=by omega
  have e1:=r1.atS jx j1
  have e2:=r2.atS jx j2
  have e3:us.toArray[j] = us[j]:=by simp
  have e4:ws.toArray[j] = ws[j]:=by simp
  rw [e3,e4]
  rcases hv _ (List.getElem_mem jx) with ⟨i,ei⟩ | ⟨t,et⟩
  ·rw [ei] at e1 e2
   obtain ⟨p,e1⟩:=e1
   obtain ⟨q,e2⟩:=e2
   rw [e1,e2]
   have z:=SeqAt.EqAt.int_int (A:=X.A.in1) (s:=s) i p i q
   rw [beq_self_eq_true] at z
   exact z
  ·rw [et] at e1 e2
   obtain ⟨p,e1⟩:=e1
   obtain ⟨q,e2⟩:=e2
   rw [e1,e2]
   have z:=SeqAt.EqAt.str_str (A:=X.A.in1) (s:=s) t p t q
   rw [beq_self_eq_true] at z
   exact z
 ·rw [zHb,List.size_toArray,List.size_toArray,← l1,← l2,beq_self_eq_true]
  exact ⟨.bl false,H,I,rfl,q⟩
end
end L2

-- LAW
namespace Sea
open PySem L2
structure Zs (mg:Str→Option Value):Prop where
 abs:mg "abs" = none
 enumerate:mg "enumerate" = none
 len:mg "len" = none
 list:mg "list" = none
 range:mg "range" = none
 sorted:mg "sorted" = none
 tuple:mg "tuple" = none
theorem zA4:zAq ["numbers", "shared", "number", "rest", "smaller"] ["numbers"] (zAl zBu):=⟨rfl,rfl,rfl,by decide +kernel,rfl,by decide +kernel,by decide +kernel⟩
theorem zIl:zAq ["numbers", "shared"] ["numbers"] (zAl zFd):=⟨rfl,rfl,rfl,by decide +kernel,rfl,by decide +kernel,by decide +kernel⟩
theorem zK1:zAq ["numbers"] ["numbers"] (zAl zEc):=⟨rfl,rfl,rfl,by decide +kernel,rfl,by decide +kernel,by decide +kernel⟩
theorem zPl:zAq ["top", "bottom"] ["top", "bottom"] (zAl zHq):=⟨rfl,rfl,rfl,by decide +kernel,rfl,by decide +kernel,by decide +kernel⟩
theorem zQ6:zAq ["one", "other"] ["one", "other"] (zAl zHo):=⟨rfl,rfl,rfl,by decide +kernel,rfl,by decide +kernel,by decide +kernel⟩
theorem zQx:zAq ["x", "y", "w"] ["x", "y", "w"] (zAl zHf):=⟨rfl,rfl,rfl,by decide +kernel,rfl,by decide +kernel,by decide +kernel⟩
theorem zJd:zAq ["one", "other", "east"] ["one", "other"] (zAl zGb):=⟨rfl,rfl,rfl,by decide +kernel,rfl,by decide +kernel,by decide +kernel⟩
theorem zDg:zAq ["ones", "others", "told", "taken", "other"] ["ones", "others"] (zAl zFj):=⟨rfl,rfl,rfl,by decide +kernel,rfl,by decide +kernel,by decide +kernel⟩
theorem zGk:zAq ["spots", "middle"] ["spots"] (zAl zCv):=⟨rfl,rfl,rfl,by decide +kernel,rfl,by decide +kernel,by decide +kernel⟩
theorem zLz:zAq ["one", "other"] ["one", "other"] (zAl zGp):=⟨rfl,rfl,rfl,by decide +kernel,rfl,by decide +kernel,by decide +kernel⟩
theorem zO4:zAq ["one", "other"] ["one", "other"] (zAl zGt):=⟨rfl,rfl,rfl,by decide +kernel,rfl,by decide +kernel,by decide +kernel⟩
theorem zO0:zAq ["direction"] ["direction"] (zAl zGl):=⟨rfl,rfl,rfl,by decide +kernel,rfl,by decide +kernel,by decide +kernel⟩
theorem zM7:zAq ["side", "spot"] ["side", "spot"] (zAl zFo):=⟨rfl,rfl,rfl,by decide +kernel,rfl,by decide +kernel,by decide +kernel⟩
theorem zN7:zAq ["side", "spot"] ["side", "spot"] (zAl zF3):=⟨rfl,rfl,rfl,by decide +kernel,rfl,by decide +kernel,by decide +kernel⟩
theorem zC6:zAq ["one", "other", "w", "x", "y"] ["one", "other"] (zAl zDu):=⟨rfl,rfl,rfl,by decide +kernel,rfl,by decide +kernel,by decide +kernel⟩
theorem zGr:zAq ["sides", "place", "side"] ["sides", "place"] (zAl zDs):=⟨rfl,rfl,rfl,by decide +kernel,rfl,by decide +kernel,by decide +kernel⟩
theorem zP3:zAq ["side"] ["side"] (zAl zHi):=⟨rfl,rfl,rfl,by decide +kernel,rfl,by decide +kernel,by decide +kernel⟩
theorem zBl:zAq ["sides", "edge", "hand", "found", "place", "number", "side"] ["sides", "edge", "hand"] (zAl zDw):=⟨rfl,rfl,rfl,by decide +kernel,rfl,by decide +kernel,by decide +kernel⟩
theorem zFr:zAq ["sides", "edge", "numbers"] ["sides", "edge"] (zAl zC7):=⟨rfl,rfl,rfl,by decide +kernel,rfl,by decide +kernel,by decide +kernel⟩
theorem zEb:zAq ["sides", "edge", "place"] ["sides", "edge"] (zAl zB3):=⟨rfl,rfl,rfl,by decide +kernel,rfl,by decide +kernel,by decide +kernel⟩
theorem zEf:zAq ["sides", "place", "number"] ["sides"] (zAl zFk):=⟨rfl,rfl,rfl,by decide +kernel,rfl,by decide +kernel,by decide +kernel⟩
theorem zJa:zAq ["sides"] ["sides"] (zAl zC3):=⟨rfl,rfl,rfl,by decide +kernel,rfl,by decide +kernel,by decide +kernel⟩
theorem zDo:zAq ["sides", "found", "edge", "place"] ["sides"] (zAl zEj):=⟨rfl,rfl,rfl,by decide +kernel,rfl,by decide +kernel,by decide +kernel⟩
theorem zL9:zAq ["start", "end"] ["start", "end"] (zAl zFm):=⟨rfl,rfl,rfl,by decide +kernel,rfl,by decide +kernel,by decide +kernel⟩
abbrev zIz:Stmt:=(zCe zGm).getD 1 (.Pass ⟨0,0,0,0⟩)
theorem zJk:zF4 ["place", "sight", "rising"] "place" "rising" 2 (zAl zIz):=⟨rfl,rfl,rfl,by decide +kernel,rfl,rfl,rfl,rfl,rfl,by decide +kernel⟩
theorem zH7:zAq ["sides", "rising", "count_ahead"] ["sides"] (zAl zGm):=⟨rfl,rfl,rfl,by decide +kernel,rfl,by decide +kernel,by decide +kernel⟩
theorem zH4:zAq ["sides", "direction", "side"] ["sides", "direction"] (zAl zFh):=⟨rfl,rfl,rfl,by decide +kernel,rfl,by decide +kernel,by decide +kernel⟩
theorem zF7:zAq ["sides", "found", "side", "direction"] ["sides"] (zAl zHp):=⟨rfl,rfl,rfl,by decide +kernel,rfl,by decide +kernel,by decide +kernel⟩
theorem zIo:zAq ["sides"] ["sides"] (zAl zCt):=⟨rfl,rfl,rfl,by decide +kernel,rfl,by decide +kernel,by decide +kernel⟩
theorem zMn:zAq ["sides"] ["sides"] (zAl zFe):=⟨rfl,rfl,rfl,by decide +kernel,rfl,by decide +kernel,by decide +kernel⟩
theorem zGo:zAq ["first", "one", "other", "twice"] ["first", "one", "other"] (zAl zDr):=⟨rfl,rfl,rfl,by decide +kernel,rfl,by decide +kernel,by decide +kernel⟩
theorem zE1:zAq ["sides", "places", "total", "number"] ["sides"] (zAl zHg):=⟨rfl,rfl,rfl,by decide +kernel,rfl,by decide +kernel,by decide +kernel⟩
theorem zRr:zAq ["direction"] ["direction"] (zAl zHh):=⟨rfl,rfl,rfl,by decide +kernel,rfl,by decide +kernel,by decide +kernel⟩
theorem zHa:zAq ["numbers", "weights", "least"] ["numbers", "weights"] (zAl zEl):=⟨rfl,rfl,rfl,by decide +kernel,rfl,by decide +kernel,by decide +kernel⟩
theorem zA5:zAq ["sides", "last", "edge", "numbers", "one", "other", "weights"] ["sides", "last"] (zAl zBn):=⟨rfl,rfl,rfl,by decide +kernel,rfl,by decide +kernel,by decide +kernel⟩
theorem zD9:zAq ["sides", "last", "edge", "number", "side"] ["sides"] (zAl zF8):=⟨rfl,rfl,rfl,by decide +kernel,rfl,by decide +kernel,by decide +kernel⟩
theorem zE5:zAq ["sides", "direction", "way"] ["sides", "direction"] (zAl zCu):=⟨rfl,rfl,rfl,by decide +kernel,rfl,by decide +kernel,by decide +kernel⟩
theorem zCj:zAq ["sides", "direction", "number", "side", "place"] ["sides", "direction"] (zAl zCr):=⟨rfl,rfl,rfl,by decide +kernel,rfl,by decide +kernel,by decide +kernel⟩
theorem zBc:zAq ["sides", "numbers", "direction", "one", "other", "whole", "shares"] ["sides", "numbers", "direction"] (zAl zBo):=⟨rfl,rfl,rfl,by decide +kernel,rfl,by decide +kernel,by decide +kernel⟩
theorem zBr:zAq ["sides", "direction", "number", "one", "end", "place"] ["sides", "direction"] (zAl zCs):=⟨rfl,rfl,rfl,by decide +kernel,rfl,by decide +kernel,by decide +kernel⟩
theorem zG0:zAq ["sides", "direction", "shown", "way"] ["sides", "direction"] (zAl zGh):=⟨rfl,rfl,rfl,by decide +kernel,rfl,by decide +kernel,by decide +kernel⟩
theorem zHt:zAq ["_law_one", "_law_other"] ["_law_one", "_law_other"] (zAl zJ7):=⟨rfl,rfl,rfl,by decide +kernel,rfl,by decide +kernel,by decide +kernel⟩
theorem zOb:zAq ["_law_number"] ["_law_number"] (zAl zF6):=⟨rfl,rfl,rfl,by decide +kernel,rfl,by decide +kernel,by decide +kernel⟩
theorem zBv:zAq ["_law_script", "_law_many_here", "_law_rows", "_law_mix", "_law_cell", "_law_rest"] ["_law_script", "_law_many_here"] (zAl zGg):=⟨rfl,rfl,rfl,by decide +kernel,rfl,by decide +kernel,by decide +kernel⟩
theorem zOm:zAq ["_law_some", "_law_sides_here"] ["_law_some", "_law_sides_here"] (zAl zGi):=⟨rfl,rfl,rfl,by decide +kernel,rfl,by decide +kernel,by decide +kernel⟩
theorem zHj:zAq ["_law_one", "_law_two", "_law_wide", "_law_x", "_law_y"] ["_law_one", "_law_two", "_law_wide"] (zAl zJ9):=⟨rfl,rfl,rfl,by decide +kernel,rfl,by decide +kernel,by decide +kernel⟩
theorem zD5:zAq ["_law_d", "_law_a", "_law_b", "_law_c"] ["_law_d"] (zAl zHs):=⟨rfl,rfl,rfl,by decide +kernel,rfl,by decide +kernel,by decide +kernel⟩
theorem zDe:zAq ["_law_some", "_law_many_here", "_law_rows", "_law_x", "_law_y"] ["_law_some", "_law_many_here"] (zAl zGq):=⟨rfl,rfl,rfl,by decide +kernel,rfl,by decide +kernel,by decide +kernel⟩
theorem zQn:zAq ["_law_one", "_law_two", "_law_few", "_law_most"] ["_law_one", "_law_two", "_law_few", "_law_most"] (zAl zHl):=⟨rfl,rfl,rfl,by decide +kernel,rfl,by decide +kernel,by decide +kernel⟩
theorem zOa:zAq ["_law_one", "_law_glass"] ["_law_one", "_law_glass"] (zAl zGs):=⟨rfl,rfl,rfl,by decide +kernel,rfl,by decide +kernel,by decide +kernel⟩
theorem zBq:zAq ["_law_sides_here", "_law_direction", "_law_told", "_law_x", "_law_y", "_law_w", "_law_top", "_law_by"] ["_law_sides_here", "_law_direction"] (zAl zEo):=⟨rfl,rfl,rfl,by decide +kernel,rfl,by decide +kernel,by decide +kernel⟩
theorem zJp:zAq ["_law_script", "_law_some", "_law_sides_here", "_law_one", "_law_glass", "_law_others"] ["_law_script"] (zAl zMg):=⟨rfl,rfl,rfl,by decide +kernel,rfl,by decide +kernel,by decide +kernel⟩
section
variable {P:Program} {w:World} {K:PySem.W.Frag} {mg:Str→Option Value} {base:Heap} {f:Addr} {fd:FuncData}
def zDv (K:PySem.W.Frag):Sp:=fun vs H Q _=>∃ (a:Addr) (ns:List Int),vs = [.ref a]∧Sq K H a (ns.map V.int)∧Q (.int (gcdL ns)) H
theorem zGe (F:Fun K "common_factor" "common_factor" zBu f fd) (Z:Zs mg):FnOk P w K mg base CX0 1 f fd ["numbers"] (zDv K):=by
 refine F.ok zA4 (fun vs H Q E h=>?_) (fun cdv A outer s H vs Q E hr h=>?_)
 ·obtain ⟨a,ns,rfl,_⟩:=h
  rfl
 obtain ⟨a,ns,rfl,hS,q⟩:=h
 refine ⟨_,(zAg (zAr (i:=1) zA4.nd rfl (Or.inl rfl) zAc)
   (zAg (zCk PassesOwn.never rfl (zCg (pv 0)) (zAt (i:=2) zA4.nd rfl (Or.inl rfl)) (zAg (zAr (i:=3) zA4.nd rfl (Or.inl rfl) (zAw zB2 rfl Z.abs zEt (zAa (pv 2) zAd)))
   (zAi (zF5 PassesOwn.never (zAu zRa (pv 3) zAc (zAy _)) (zAg (zAr (i:=4) zA4.nd rfl (Or.inl rfl) (zAm zA8 (pv 1) (pv 3)))
   (zAg (zAr (i:=1) zA4.nd rfl (Or.inl rfl) (pv 3))
   (zAi (zAr (i:=3) zA4.nd rfl (Or.inl rfl) (pv 4)))))))))
   (zAi (zAp (pv 1))))),?_⟩
 have mono:∀ (σ:St) (H:Hp) (Q Q':Bool→Hp→Prop),(∀ b H1,Q b H1→Q' b H1)→zR8 (tOp rNe (tVar 3) (tC (.int 0))) σ H Q→zR8 (tOp rNe (tVar 3) (tC (.int 0))) σ H Q':=fun σ H Q Q' hq z=>by
  obtain ⟨v,hv,hs,k,hk,z⟩:=z
  exact ⟨v,hv,hs,k,hk,hq _ _ z⟩
 rcases hS with hS | hS
 ·refine ⟨_,rfl,a,rfl,.inl ⟨⟨_,hS⟩,zCd (K:=K) (a:=a) (xs:=ns.map V.int) (fun i σ H'=>H' = H∧∃ (u v z:Option V),σ = [some (.ref a),some (.int (gcdL (ns.take i))),u,v,z]) ⟨rfl,none,none,none,rfl⟩ (fun i σ H' _ ⟨e,_⟩=>by rw [e]; exact hS) ?_ ?_⟩⟩
  ·rintro i x σ H' hi ⟨rfl,u,v,z,rfl⟩
   obtain ⟨n,hn,rfl⟩:=zCp hi
   refine ⟨_,rfl,n,rfl,?_⟩
   refine zEi (fun σ H1=>H1 = H'∧∃ (g r:Int) (y:Option V),σ = [some (.ref a),some (.int g),some (.int n),some (.int r),y]∧0≤g∧0≤r∧Nat.gcd g.toNat r.toNat = gcdL (ns.take (i + 1)))
    (fun σ _=>match σ with | [_,_,_,some (.int r),_]=>r.toNat | _=>0) ⟨rfl,_,_,_,rfl,Int.natCast_nonneg _,by split <;> omega,?_⟩ ?_ mono
   ·rw [zBi hn,zK0,zN0]; rfl
   ·rintro σ H1 ⟨rfl,g,r,y,rfl,h1,h2,h3⟩
    refine ⟨_,rfl,rfl,_,rfl,?_⟩
    refine ifNe (fun hr0=>?_) (fun hr0=>?_)
    ·refine ⟨_,rfl,_,rfl,_,_,rfl,rfl,(by show (0:Int) < r; omega),_,rfl,_,rfl,⟨rfl,_,_,_,rfl,h2,Int.emod_nonneg g hr0,?_⟩,?_⟩
     ·rw [zKi h1 (by omega)]; exact h3
     ·have h4:=Int.emod_lt_of_pos g (show 0 < r by omega)
      show (g % r).toNat < r.toNat
      omega
    ·subst hr0
     have h5:g = ((gcdL (ns.take (i + 1)):Nat):Int):=by
      rw [← h3]
      show g = ((Nat.gcd g.toNat 0:Nat):Int)
      rw [Nat.gcd_zero_right]
      omega
     exact ⟨rfl,some (.int n),some (.int 0),y,by rw [h5]⟩
  ·rintro σ H' ⟨rfl,u,v,z,rfl⟩
   refine ⟨_,rfl,?_⟩
   rw [List.length_map,List.take_length]
   exact q
 ·refine ⟨_,rfl,a,rfl,.inr ⟨⟨_,hS⟩,zPy (K:=K) (a:=a) (xs:=ns.map V.int) (fun i σ H'=>H' = H∧∃ (u v z:Option V),σ = [some (.ref a),some (.int (gcdL (ns.take i))),u,v,z]) ⟨rfl,none,none,none,rfl⟩ (fun i σ H' _ ⟨e,_⟩=>by rw [e]; exact hS) ?_ ?_⟩⟩
  ·rintro i x σ H' hi ⟨rfl,u,v,z,rfl⟩
   obtain ⟨n,hn,rfl⟩:=zCp hi
   refine ⟨_,rfl,n,rfl,?_⟩
   refine zEi (fun σ H1=>H1 = H'∧∃ (g r:Int) (y:Option V),σ = [some (.ref a),some (.int g),some (.int n),some (.int r),y]∧0≤g∧0≤r∧Nat.gcd g.toNat r.toNat = gcdL (ns.take (i + 1)))
    (fun σ _=>match σ with | [_,_,_,some (.int r),_]=>r.toNat | _=>0) ⟨rfl,_,_,_,rfl,Int.natCast_nonneg _,by split <;> omega,?_⟩ ?_ mono
   ·rw [zBi hn,zK0,zN0]; rfl
   ·rintro σ H1 ⟨rfl,g,r,y,rfl,h1,h2,h3⟩
    refine ⟨_,rfl,rfl,_,rfl,?_⟩
    refine ifNe (fun hr0=>?_) (fun hr0=>?_)
    ·refine ⟨_,rfl,_,rfl,_,_,rfl,rfl,(by show (0:Int) < r; omega),_,rfl,_,rfl,⟨rfl,_,_,_,rfl,h2,Int.emod_nonneg g hr0,?_⟩,?_⟩
     ·rw [zKi h1 (by omega)]; exact h3
     ·have h4:=Int.emod_lt_of_pos g (show 0 < r by omega)
      show (g % r).toNat < r.toNat
      omega
    ·subst hr0
     have h5:g = ((gcdL (ns.take (i + 1)):Nat):Int):=by
      rw [← h3]
      show g = ((Nat.gcd g.toNat 0:Nat):Int)
      rw [Nat.gcd_zero_right]
      omega
     exact ⟨rfl,some (.int n),some (.int 0),y,by rw [h5]⟩
  ·rintro σ H' ⟨rfl,u,v,z,rfl⟩
   refine ⟨_,rfl,?_⟩
   rw [List.length_map,List.take_length]
   exact q
def zCm (K:PySem.W.Frag):Sp:=fun vs H Q _=>∃ (a:Addr) (ns:List Int),vs = [.ref a]∧Sq K H a (ns.map V.int)∧ns.length≤1000∧0 < gcdL ns∧(gcdL ns:Int) < 10 ^ 600 ∧
 ∀ (p:Addr) (H':Hp),Same H H'→H p = none→H' p = some (.tup ((lowL ns).map V.int))→Q (.ref p) H'
theorem zMk (F:Fun K "lowest" "lowest" zFd f fd) (Z:Zs mg) (h_p_common_factor:Has P w K mg base "common_factor" 1 ["numbers"] (zDv K)):FnOk P w K mg base CX0 2 f fd ["numbers"] (zCm K):=by
 refine F.ok zIl (fun vs H Q E h=>?_) (fun cdv A outer s H vs Q E hr h=>?_)
 ·obtain ⟨a,ns,rfl,_⟩:=h
  rfl
 obtain ⟨a,ns,rfl,hS,hl,hg,hg2,q⟩:=h
 refine ⟨_,(zAg (zAr (i:=1) zIl.nd rfl (Or.inr rfl) (zAf h_p_common_factor (hr.mono (by decide)) rfl (zAa (pv 0) zAd)))
   (zAi (zAp (zCb zKg rfl Z.tuple zSt (zAa (zEq (T:=["number"]) (caps:=[("shared", 1)]) ⟨rfl,by decide +kernel,by decide +kernel,rfl,⟨⟨rfl,rfl,Or.inl rfl⟩,True.intro⟩⟩ rfl (zCg (pv 0)) (fun _=>(zAt (i:=0) (show (["number", "shared"]:List Str).Nodup by decide +kernel) rfl (Or.inl rfl))) (fun _=>zCc) (fun _=>(zAm zC9 (pv 0) (pv 1)))) zAd))))),?_⟩
 refine ⟨_,rfl,a,ns,rfl,hS,?_⟩
 have fin:∀ (D:Addr) (H':Hp),H D = none→Same H H'→H' D = some (.lst ((lowL ns).map V.int))→∀ l,H' l = none→Q (.ref l) (upd H' l (.tup ((lowL ns).map V.int))):=fun D H' hD hs e l hl =>
  q l _ (hs.trans (zAe hl _)) (hs.free hl) zAb
 have len:∀ i,((ns.take i).map fun n=>V.int (n / (gcdL ns:Int))).length < sizeLine:=fun i=>zA2 (by rw [List.length_map,List.length_take]; omega)
 rcases hS with hS | hS
 ·refine ⟨_,rfl,a,rfl,.inl ⟨⟨_,hS⟩,fun c D hD=>zCa (K:=K) (a:=a) (xs:=ns.map V.int) (fun i σ ys H'=>H' = upd H D (.lst ys)∧ys = (ns.take i).map (fun n=>V.int (n / (gcdL ns:Int)))∧∃ u,σ = [u,some (.int (gcdL ns))])
   ⟨rfl,rfl,none,rfl⟩ (fun i σ ys H' _ ⟨e,_⟩=>by rw [e]; exact ⟨(zAe hD _).seq hS,zAb⟩) ?_ ?_⟩⟩
  ·rintro i x σ ys H' hi ⟨rfl,rfl,u,rfl⟩
   obtain ⟨n,hn,rfl⟩:=zCp hi
   refine ⟨_,rfl,_,rfl,_,_,rfl,rfl,zEw.of (by omega) hg2,zAb,len i,?_⟩
   refine ⟨zKw,?_,_,rfl⟩
   rw [zBi hn,List.map_append]
   rfl
  ·rintro σ ys H' ⟨rfl,rfl,u,rfl⟩
   rw [List.length_map,List.take_length]
   have e:(ns.map fun n=>V.int (n / (gcdL ns:Int))) = (lowL ns).map V.int:=by unfold lowL; rw [List.map_map]; rfl
   rw [e]
   exact ⟨D,_,rfl,.inl ⟨SqL.of zAb,fin D _ hD (zAe hD _) zAb⟩⟩
 ·refine ⟨_,rfl,a,rfl,.inr ⟨⟨_,hS⟩,fun c D hD=>zLc (K:=K) (a:=a) (xs:=ns.map V.int) (fun i σ ys H'=>H' = upd H D (.lst ys)∧ys = (ns.take i).map (fun n=>V.int (n / (gcdL ns:Int)))∧∃ u,σ = [u,some (.int (gcdL ns))])
   ⟨rfl,rfl,none,rfl⟩ (fun i σ ys H' _ ⟨e,_⟩=>by rw [e]; exact ⟨SqT.same hS (zAe hD _),zAb⟩) ?_ ?_⟩⟩
  ·rintro i x σ ys H' hi ⟨rfl,rfl,u,rfl⟩
   obtain ⟨n,hn,rfl⟩:=zCp hi
   refine ⟨_,rfl,_,rfl,_,_,rfl,rfl,zEw.of (by omega) hg2,zAb,len i,?_⟩
   refine ⟨zKw,?_,_,rfl⟩
   rw [zBi hn,List.map_append]
   rfl
  ·rintro σ ys H' ⟨rfl,rfl,u,rfl⟩
   rw [List.length_map,List.take_length]
   have e:(ns.map fun n=>V.int (n / (gcdL ns:Int))) = (lowL ns).map V.int:=by unfold lowL; rw [List.map_map]; rfl
   rw [e]
   exact ⟨D,_,rfl,.inl ⟨SqL.of zAb,fin D _ hD (zAe hD _) zAb⟩⟩
def zDp (K:PySem.W.Frag):Sp:=fun vs H Q _=>∃ (a:Addr) (ns:List Int) (l:Int),vs = [.ref a]∧Sq K H a (ns.map V.int)∧ns.length≤1000∧atI (ns.map V.int) (-1) = some (.int l)∧l∈ns∧l≠0∧l.natAbs < 10 ^ 500 ∧
 ∀ (p:Addr) (H':Hp),Same H H'→H p = none→H' p = some (.tup ((lowL (if l < 0 then ns.map (fun n=>-n) else ns)).map V.int))→Q (.ref p) H'
theorem zLw (F:Fun K "upright" "upright" zEc f fd) (Z:Zs mg) (h_p_lowest:Has P w K mg base "lowest" 2 ["numbers"] (zCm K)):FnOk P w K mg base CX0 3 f fd ["numbers"] (zDp K):=by
 refine F.ok zK1 (fun vs H Q E h=>?_) (fun cdv A outer s H vs Q E hr h=>?_)
 ·obtain ⟨a,ns,l,rfl,_⟩:=h
  rfl
 obtain ⟨a,ns,l,rfl,hS,hl,hat,hm,h0,hb,q⟩:=h
 refine ⟨_,(zAg (zBj (zAu zL2 (zAn zAj (pv 0) (zMq zIn zAc) (fun _ _=>rfl)) zAc (zAy _)) (zAi (zAp (zAf h_p_lowest (hr.mono (by decide)) rfl (zAa (zEq (T:=["number"]) (caps:=[]) ⟨rfl,by decide +kernel,by decide +kernel,rfl,True.intro⟩ rfl (zCg (pv 0)) (fun _=>(zAt (i:=0) (show (["number"]:List Str).Nodup by decide +kernel) rfl (Or.inl rfl))) (fun _=>zCc) (fun _=>(zMq zIn (pv 0)))) zAd)))) zAx)
   (zAi (zAp (zAf h_p_lowest (hr.mono (by decide)) rfl (zAa (pv 0) zAd))))),?_⟩
 refine ⟨_,rfl,_,rfl,a,_,_,_,rfl,rfl,hS,hat,_,_,rfl,rfl,_,rfl,?_⟩
 have gp:0 < gcdL ns:=zB4 hm h0
 have gb:(gcdL ns:Int) < 10 ^ 600:=by
  have h1:=zIj hm h0
  have h2:(10:Nat) ^ 500 < 10 ^ 600:=by decide +kernel
  have h3:((10:Int) ^ 600) = ((10 ^ 600:Nat):Int):=by rw [Int.natCast_pow]; rfl
  rw [h3]
  omega
 refine ifD (fun hneg=>?_) (fun hneg=>?_)
 ·have len:∀ i,((ns.take i).map fun n=>V.int (-n)).length < sizeLine:=fun i=>zA2 (by rw [List.length_map,List.length_take]; omega)
  have fin:∀ (D:Addr) (H':Hp),H D = none→Same H H'→H' D = some (.lst ((ns.map fun n=>-n).map V.int))→zCm K [.ref D] H' Q E0:=fun D H' hD hs e=>by
   refine ⟨D,ns.map fun n=>-n,rfl,.inl (SqL.of e),by rw [List.length_map]; exact hl,by rw [zNl]; exact gp,by rw [zNl]; exact gb,fun p H2 s2 hp e2=>?_⟩
   exact q p H2 (hs.trans s2) (hs.free hp) (by rw [if_pos hneg]; exact e2)
  rcases hS with hS | hS
  ·refine ⟨_,rfl,a,rfl,.inl ⟨⟨_,hS⟩,fun c D hD=>zCa (K:=K) (a:=a) (xs:=ns.map V.int) (fun i σ ys H'=>H' = upd H D (.lst ys)∧ys = (ns.take i).map (fun n=>V.int (-n))∧∃ u,σ = [u])
    ⟨rfl,rfl,none,rfl⟩ (fun i σ ys H' _ ⟨e,_⟩=>by rw [e]; exact ⟨(zAe hD _).seq hS,zAb⟩) ?_ ?_⟩⟩
   ·rintro i x σ ys H' hi ⟨rfl,rfl,u,rfl⟩
    obtain ⟨n,hn,rfl⟩:=zCp hi
    refine ⟨_,rfl,_,rfl,zAb,len i,?_⟩
    refine ⟨zKw,?_,_,rfl⟩
    rw [zBi hn,List.map_append]
    rfl
   ·rintro σ ys H' ⟨rfl,rfl,u,rfl⟩
    rw [List.length_map,List.take_length]
    have e:(ns.map fun n=>V.int (-n)) = (ns.map fun n=>-n).map V.int:=by rw [List.map_map]; rfl
    rw [e]
    exact fin D _ hD (zAe hD _) zAb
  ·refine ⟨_,rfl,a,rfl,.inr ⟨⟨_,hS⟩,fun c D hD=>zLc (K:=K) (a:=a) (xs:=ns.map V.int) (fun i σ ys H'=>H' = upd H D (.lst ys)∧ys = (ns.take i).map (fun n=>V.int (-n))∧∃ u,σ = [u])
    ⟨rfl,rfl,none,rfl⟩ (fun i σ ys H' _ ⟨e,_⟩=>by rw [e]; exact ⟨SqT.same hS (zAe hD _),zAb⟩) ?_ ?_⟩⟩
   ·rintro i x σ ys H' hi ⟨rfl,rfl,u,rfl⟩
    obtain ⟨n,hn,rfl⟩:=zCp hi
    refine ⟨_,rfl,_,rfl,zAb,len i,?_⟩
    refine ⟨zKw,?_,_,rfl⟩
    rw [zBi hn,List.map_append]
    rfl
   ·rintro σ ys H' ⟨rfl,rfl,u,rfl⟩
    rw [List.length_map,List.take_length]
    have e:(ns.map fun n=>V.int (-n)) = (ns.map fun n=>-n).map V.int:=by rw [List.map_map]; rfl
    rw [e]
    exact fin D _ hD (zAe hD _) zAb
 ·refine ⟨_,rfl,a,ns,rfl,hS,hl,gp,gb,fun p H2 s2 hp e2=>?_⟩
  exact q p H2 s2 hp (by rw [if_neg hneg]; exact e2)
def zD3 (K:PySem.W.Frag):Sp:=fun vs H Q _=>∃ (t b:Int),vs = [.int t,.int b]∧b≠0∧b.natAbs < 10 ^ 500 ∧
 ∀ (p:Addr) (x y:Int) (H':Hp),Same H H'→H p = none→H' p = some (.tup [.int x,.int y])→zEu t b x y→Q (.ref p) H'
theorem zQr (F:Fun K "part" "part" zHq f fd) (Z:Zs mg) (h_p_upright:Has P w K mg base "upright" 3 ["numbers"] (zDp K)):FnOk P w K mg base CX0 4 f fd ["top", "bottom"] (zD3 K):=by
 refine F.ok zPl (fun vs H Q E h=>?_) (fun cdv A outer s H vs Q E hr h=>?_)
 ·obtain ⟨t,b,rfl,_⟩:=h
  rfl
 obtain ⟨t,b,rfl,hb,hb2,q⟩:=h
 refine ⟨_,(zAi (zAp (zAf h_p_upright (hr.mono (by decide)) rfl (zAa (zBe (zAa (pv 0) (zAa (pv 1) zAd))) zAd)))),?_⟩
 refine ⟨_,rfl,_,rfl,(by show 2≤sizeLine; decide),fun p hp=>⟨p,[t,b],b,rfl,.inr (SqT.of zAb),by show 2≤1000; decide,rfl,by simp,hb,hb2,fun r H2 s2 hr2 e2=>?_⟩⟩
 obtain ⟨x,y,exy,hxy⟩:=zJy t hb
 rw [exy] at e2
 exact q r x y H2 ((zAe hp _).trans s2) ((zAe hp _).free hr2) e2 hxy
def zL0 (K:PySem.W.Frag):Sp:=fun vs H Q _=>∃ (a b:Addr) (x1 y1 x2 y2:Int),vs = [.ref a,.ref b]∧H a = some (.tup [.int x1,.int y1])∧H b = some (.tup [.int x2,.int y2]) ∧
 x1.natAbs≤10 ^ 401∧y1.natAbs≤10 ^ 401∧x2.natAbs≤10 ^ 401∧y2.natAbs≤10 ^ 401∧y1≠0∧y2≠0∧(y1 * y2).natAbs < 10 ^ 500∧∀ (p:Addr) (x y:Int) (H':Hp),Same H H'→H p = none→H' p = some (.tup [.int x,.int y])→zEu (x1 * y2 + x2 * y1) (y1 * y2) x y→Q (.ref p) H'
theorem zPf (F:Fun K "plus" "plus" zHo f fd) (Z:Zs mg) (h_p_part:Has P w K mg base "part" 4 ["top", "bottom"] (zD3 K)):FnOk P w K mg base CX0 5 f fd ["one", "other"] (zL0 K):=by
 refine F.ok zQ6 (fun vs H Q E h=>?_) (fun cdv A outer s H vs Q E hr h=>?_)
 ·obtain ⟨a,b,x1,y1,x2,y2,rfl,_⟩:=h
  rfl
 obtain ⟨a,b,x1,y1,x2,y2,rfl,ha',hb',m1,m2,m3,m4,n1,n2,hy,q⟩:=h
 have ha:Sq K H a [.int x1,.int y1]:=.inr (SqT.of ha')
 have hb:Sq K H b [.int x2,.int y2]:=.inr (SqT.of hb')
 have c3:∀ {i j:Int},i.natAbs≤10 ^ 401→j.natAbs≤10 ^ 401→zKl i j:=fun {i j} hi hj=>⟨Nat.lt_of_le_of_lt hi (by decide +kernel),Nat.lt_of_le_of_lt hj (by decide +kernel)⟩
 refine ⟨_,(zAi (zAp (zAf h_p_part (hr.mono (by decide)) rfl (zAa (zAm zB1 (zAm zBy (zAn zAj (pv 0) zAc (fun _ _=>rfl)) (zAn zAj (pv 1) zAc (fun _ _=>rfl))) (zAm zBy (zAn zAj (pv 1) zAc (fun _ _=>rfl)) (zAn zAj (pv 0) zAc (fun _ _=>rfl)))) (zAa (zAm zBy (zAn zAj (pv 0) zAc (fun _ _=>rfl)) (zAn zAj (pv 1) zAc (fun _ _=>rfl))) zAd))))),?_⟩
 exact ⟨_,rfl,a,_,_,.int x1,rfl,rfl,ha,rfl,_,rfl,b,_,_,.int y2,rfl,rfl,hb,rfl,_,_,rfl,rfl,c3 m1 m4,
  _,rfl,b,_,_,.int x2,rfl,rfl,hb,rfl,_,rfl,a,_,_,.int y1,rfl,rfl,ha,rfl,_,_,rfl,rfl,c3 m3 m2,_,_,rfl,rfl,
  _,rfl,a,_,_,.int y1,rfl,rfl,ha,rfl,_,rfl,b,_,_,.int y2,rfl,rfl,hb,rfl,_,_,rfl,rfl,c3 m2 m4,
  _,_,rfl,Int.mul_ne_zero n1 n2,hy,q⟩
def zIt (K:PySem.W.Frag):Sp:=fun vs H Q _=>∃ (X Y W:Int),vs = [.int X,.int Y,.int W]∧W≠0∧W.natAbs < 10 ^ 500∧∀ (p:Addr) (H':Hp),Same H H'→H p = none→H' p = some (.tup ((lowL (upL X Y W)).map V.int))→Q (.ref p) H'
theorem zO9 (F:Fun K "spot" "spot" zHf f fd) (Z:Zs mg) (h_p_upright:Has P w K mg base "upright" 3 ["numbers"] (zDp K)):FnOk P w K mg base CX0 4 f fd ["x", "y", "w"] (zIt K):=by
 refine F.ok zQx (fun vs H Q E h=>?_) (fun cdv A outer s H vs Q E hr h=>?_)
 ·obtain ⟨X,Y,W,rfl,_⟩:=h
  rfl
 obtain ⟨X,Y,W,rfl,hw,hw2,q⟩:=h
 refine ⟨_,(zAi (zAp (zAf h_p_upright (hr.mono (by decide)) rfl (zAa (zBe (zAa (pv 0) (zAa (pv 1) (zAa (pv 2) zAd)))) zAd)))),?_⟩
 refine ⟨_,rfl,_,rfl,_,rfl,(by show 3≤sizeLine; decide),fun p hp=>⟨p,[X,Y,W],W,rfl,.inr (SqT.of zAb),by show 3≤1000; decide,rfl,by simp,hw,hw2,fun r H2 s2 hr2 e2=>?_⟩⟩
 exact q r H2 ((zAe hp _).trans s2) ((zAe hp _).free hr2) e2
theorem cB {i j:Int} (hi:i.natAbs≤10 ^ 100) (hj:j.natAbs≤10 ^ 100):zKl i j:=zKl.of hi hj
def SpOk (H:Hp) (t:SpT):Prop:=H t.1 = some (.tup [.int t.2.1,.int t.2.2.1,.int t.2.2.2])∧t.2.1.natAbs≤10 ^ 100∧t.2.2.1.natAbs≤10 ^ 100∧t.2.2.2.natAbs≤10 ^ 100
theorem SpOk.same {H H':Hp} {t:SpT} (h:SpOk H t) (e:Same H H'):SpOk H' t:=⟨e _ _ h.1,h.2⟩
def zFn (K:PySem.W.Frag):Sp:=fun vs H Q _=>∃ (s t:SpT),vs = [.ref s.1,.ref t.1]∧SpOk H s∧SpOk H t∧Q (.bl (ahB s t)) H
theorem zN8 (F:Fun K "ahead" "ahead" zGb f fd) (Z:Zs mg)  : FnOk P w K mg base CX0 1 f fd ["one", "other"] (zFn K):=by
 refine F.ok zJd (fun vs H Q E h=>?_) (fun cdv A outer s H vs Q E hr h=>?_)
 ·obtain ⟨s,t,rfl,_⟩:=h
  rfl
 obtain ⟨⟨a,x1,y1,w1⟩,⟨b,x2,y2,w2⟩,rfl,⟨ha,a1,a2,a3⟩,⟨hb,b1,b2,b3⟩,q⟩:=h
 refine ⟨_,(zAg (zAr (i:=2) zJd.nd rfl (Or.inl rfl) (zAm zBw (zAm zBy (zAn zAj (pv 0) zAc (fun _ _=>rfl)) (zAn zAj (pv 1) zAc (fun _ _=>rfl))) (zAm zBy (zAn zAj (pv 1) zAc (fun _ _=>rfl)) (zAn zAj (pv 0) zAc (fun _ _=>rfl)))))
   (zAg (zBj (zAu zRa (pv 2) zAc (zAy _)) (zAi (zAp (zG1 zL2 (pv 2) zAc (zAy _)))) zAx)
   (zAi (zAp (zG1 zL2 (zAm zBy (zAn zAj (pv 0) zAc (fun _ _=>rfl)) (zAn zAj (pv 1) zAc (fun _ _=>rfl))) (zAm zBy (zAn zAj (pv 1) zAc (fun _ _=>rfl)) (zAn zAj (pv 0) zAc (fun _ _=>rfl))) (zAy _)))))),?_⟩
 have fa':Sq K H a [.int x1,.int y1,.int w1]:=.inr (SqT.of ha)
 have fb:Sq K H b [.int x2,.int y2,.int w2]:=.inr (SqT.of hb)
 refine ⟨_,rfl,a,_,_,.int x1,rfl,rfl,fa',rfl,_,rfl,b,_,_,.int w2,rfl,rfl,fb,rfl,_,_,rfl,rfl,cB a1 b3,_,rfl,b,_,_,.int x2,rfl,rfl,fb,rfl,_,rfl,a,_,_,.int w1,rfl,rfl,fa',rfl,_,_,rfl,rfl,cB b1 a3,_,_,rfl,rfl,?_⟩
 refine ⟨_,rfl,rfl,_,rfl,?_⟩
 refine ifNe (fun h=>?_) (fun h=>?_)
 ·have e:ahB (a,x1,y1,w1) (b,x2,y2,w2) = decide (x1 * w2 - x2 * w1 < 0):=if_neg h
  rw [e] at q
  exact ⟨_,rfl,_,_,rfl,rfl,q⟩
 ·have e:ahB (a,x1,y1,w1) (b,x2,y2,w2) = decide (y1 * w2 < y2 * w1):=if_pos h
  rw [e] at q
  exact ⟨_,rfl,a,_,_,.int y1,rfl,rfl,fa',rfl,_,rfl,b,_,_,.int w2,rfl,rfl,fb,rfl,_,_,rfl,rfl,cB a2 b3,_,rfl,b,_,_,.int y2,rfl,rfl,fb,rfl,_,rfl,a,_,_,.int w1,rfl,rfl,fa',rfl,_,_,rfl,rfl,cB b2 a3,_,_,rfl,rfl,q⟩
theorem zUu {sp:Sp} {dvs:List V} {E:XK} {t:TA} (hs:∀ (vs:List V) (H:Hp) (Q Q':VK),(∀ v H1,Q v H1→Q' v H1)→sp vs H Q E→sp vs H Q' E) (ht:zQs t):zI5 (zTk sp dvs E t):=fun σ _ _ _ hq z=>ht σ _ _ _ (fun _ _ z=>hs _ _ _ _ hq z) z
theorem zN5 {K:PySem.W.Frag} : ∀ (vs:List V) (H:Hp) (Q Q':VK),(∀ v H1,Q v H1→Q' v H1)→zFn K vs H Q E0→zFn K vs H Q' E0:=fun _ _ _ _ hq ⟨s,t,a,b,c,z⟩=>⟨s,t,a,b,c,hq _ _ z⟩
def zAv (ps:List SpT):List V:=ps.map fun t=>V.ref t.1
def zFy (K:PySem.W.Frag):Sp:=fun vs H Q _=>∃ (a b:Addr) (xs ys:List SpT),vs = [.ref a,.ref b]∧H a = some (.lst (zAv xs))∧H b = some (.lst (zAv ys))∧(∀ t∈xs,SpOk H t)∧(∀ t∈ys,SpOk H t)∧xs.length + ys.length≤5000 ∧
 ∀ (p:Addr) (H':Hp),Same H H'→H p = none→H' p = some (.lst (zAv (zBg xs ys)))→Q (.ref p) H'
theorem zO5 {xs ys:List SpT} {o:SpT} {r:List SpT} {k:Nat} (hk:k≤xs.length) {told:List SpT} (h:told ++ zBg (xs.drop k) (o :: r) = zBg xs ys) {x:SpT} (hx:xs[k]? = some x) (ha:ahB o x = false):(told ++ [x]) ++ zBg (xs.drop (k + 1)) (o :: r) = zBg xs ys:=by
 rw [← h]
 have hk':k < xs.length:=(List.getElem?_eq_some_iff.mp hx).1
 have e:xs.drop k = x :: xs.drop (k + 1):=by
  rw [List.drop_eq_getElem_cons hk']
  congr 1
  exact (List.getElem?_eq_some_iff.mp hx).2
 rw [e,zBg,zBg,List.takeWhile_cons_of_pos (by rw [ha]; rfl),List.dropWhile_cons_of_pos (by rw [ha]; rfl),List.append_assoc]
 rfl
theorem zLd {xs ys:List SpT} {o:SpT} {r:List SpT} {k:Nat} {told:List SpT} (h:told ++ zBg (xs.drop k) (o :: r) = zBg xs ys) (hx:xs.length≤k∨∃ x,xs[k]? = some x∧ahB o x = true):(told ++ [o]) ++ zBg (xs.drop k) r = zBg xs ys:=by
 rw [← h]
 rcases hx with hx | ⟨x,hx,ha⟩
 ·rw [List.drop_eq_nil_of_le hx,zBg,List.takeWhile_nil,List.dropWhile_nil,List.append_assoc]
  rfl
 ·have hk':k < xs.length:=(List.getElem?_eq_some_iff.mp hx).1
  have e:xs.drop k = x :: xs.drop (k + 1):=by
   rw [List.drop_eq_getElem_cons hk']
   congr 1
   exact (List.getElem?_eq_some_iff.mp hx).2
  rw [e,zBg,List.takeWhile_cons_of_neg (by rw [ha]; decide),List.dropWhile_cons_of_neg (by rw [ha]; decide),List.append_assoc]
  rfl
structure MgSt (H:Hp) (l:Addr) (told:List SpT) (H':Hp):Prop where
 same:Same H H'
 at':H' l = some (.lst (zAv told))
theorem MgSt.app {H H':Hp} {l:Addr} {told:List SpT} {x:SpT} (d:MgSt H l told H') (hl:H l = none):MgSt H l (told ++ [x]) (upd H' l (.lst (zAv told ++ [.ref x.1]))):=by
 refine ⟨fun b o e=>?_,?_⟩
 ·rw [zAs (zA0 e hl)]
  exact d.same b o e
 ·rw [zAb]
  unfold zAv
  rw [List.map_append]
  rfl
theorem zSa {ps:List SpT} {i:Nat} {x:SpT} (h:ps[i]? = some x):(zAv ps)[i]? = some (.ref x.1):=by
 unfold zAv
 rw [List.getElem?_map,h]
 rfl
theorem zEm {ps:List SpT} {i:Nat} {v:V} (h:(zAv ps)[i]? = some v):∃ x,ps[i]? = some x∧v = .ref x.1:=by
 unfold zAv at h
 rw [List.getElem?_map] at h
 cases e:ps[i]? with
 | none=>rw [e] at h; cases h
 | some x=>rw [e] at h; exact ⟨x,rfl,(Option.some.inj h).symm⟩
theorem zBh (ps:List SpT):(zAv ps).length = ps.length:=List.length_map _
theorem zMj (F:Fun K "merged" "merged" zFj f fd) (Z:Zs mg) (h_p_ahead:Has P w K mg base "ahead" 1 ["one", "other"] (zFn K)):FnOk P w K mg base CX0 2 f fd ["ones", "others"] (zFy K):=by
 refine F.ok zDg (fun vs H Q E h=>?_) (fun cdv A outer s H vs Q E hr h=>?_)
 ·obtain ⟨a,b,xs,ys,rfl,_⟩:=h
  rfl
 obtain ⟨a,b,xs,ys,rfl,ha,hb,okx,oky,hlen,q⟩:=h
 refine ⟨_,(zAg (zAr (i:=2) zDg.nd rfl (Or.inl rfl) (zCz zAd))
   (zAg (zAr (i:=3) zDg.nd rfl (Or.inl rfl) zAc)
   (zAg (zCk PassesOwn.never rfl (zCg (pv 1)) (zAt (i:=4) zDg.nd rfl (Or.inl rfl)) (zAg (zF5 PassesOwn.never (PW.pt (zGu (zAu zL2 (pv 3) (zAw zA1 rfl Z.len zDt (zAa (pv 0) zAd)) (zAy _)) (zEg (zJw (zEv (zAf h_p_ahead (hr.mono (by decide)) rfl (zAa (pv 4) (zAa (zAn zAj (pv 0) (pv 3) (fun _ _=>rfl)) zAd)))))))) (zAg (zIq (zPm PySem.F.plainAttrs_list PySem.F.slot_list_append PySem.F.type_list_append zDn (pv 2) (zAa (zAn zAj (pv 0) (pv 3) (fun _ _=>rfl)) zAd)))
   (zAi (zAr (i:=3) zDg.nd rfl (Or.inl rfl) (zAm zB1 (pv 3) zAc)))))
   (zAi (zIq (zPm PySem.F.plainAttrs_list PySem.F.slot_list_append PySem.F.type_list_append zDn (pv 2) (zAa (pv 4) zAd))))))
   (zAi (zAp (zAm zL1 (pv 2) (zBp zC0 (pv 0) (zCi (pv 3)) zCf))))))),?_⟩
 have big:∀ n:Nat,n≤5000→n < sizeLine:=fun n hn=>Nat.lt_of_le_of_lt hn (by decide)
 refine ⟨(by show 0≤sizeLine; decide),fun l hl=>?_⟩
 have D0:MgSt H l [] (upd H l (.lst [])):=⟨zAe hl _,zAb⟩
 refine ⟨_,rfl,b,rfl,.inl ⟨⟨_,SqL.of (D0.same _ _ hb)⟩,zCd (K:=K) (a:=b) (xs:=zAv ys) (fun j σ H'=>∃ (told:List SpT) (k:Nat) (u:Option V),σ = [some (.ref a),some (.ref b),some (.ref l),some (.int k),u]∧MgSt H l told H'∧k≤xs.length∧told.length = k + j∧told ++ zBg (xs.drop k) (ys.drop j) = zBg xs ys)
  ⟨[],0,none,rfl,D0,Nat.zero_le _,rfl,rfl⟩ (fun j σ H' _ ⟨_,_,_,_,d,_⟩=>SqL.of (d.same _ _ hb)) ?_ ?_⟩⟩
 ·rintro j v σ H' hj ⟨told,k,u,rfl,d,hk,htl,hm⟩
  obtain ⟨o,ho,rfl⟩:=zEm hj
  have hjl:j < ys.length:=(List.getElem?_eq_some_iff.mp ho).1
  have okO:=oky o (List.mem_of_getElem? ho)
  have eo:ys.drop j = o :: ys.drop (j + 1):=by
   rw [List.drop_eq_getElem_cons hjl]
   congr 1
   exact (List.getElem?_eq_some_iff.mp ho).2
  rw [eo] at hm
  refine zEi (fun σ H1=>∃ (told:List SpT) (k:Nat),σ = [some (.ref a),some (.ref b),some (.ref l),some (.int k),some (.ref o.1)]∧MgSt H l told H1∧k≤xs.length∧told.length = k + j∧told ++ zBg (xs.drop k) (o :: ys.drop (j + 1)) = zBg xs ys)
   (fun σ _=>match σ with | [_,_,_,some (.int z),_]=>xs.length - z.toNat | _=>0) ⟨told,k,rfl,d,hk,htl,hm⟩ ?_ (zRq (zG2 (zMh zOk zD2 (zSp zNh (zG3 zD2 zLk)))) (mo_not (mo_b (zUu zN5 (zG3 zD2 (zG3 (zMh mo_ixA zD2 zD2) zLk))))))
  rintro σ H1 ⟨told,k,rfl,d,hk,htl,hm⟩
  have fa':Sq K H1 a (zAv xs):=.inl (SqL.of (d.same _ _ ha))
  refine ⟨_,rfl,_,rfl,a,_,rfl,.inl (SqL.of (d.same _ _ ha)),_,_,rfl,rfl,_,rfl,?_⟩
  refine ifD (fun hlt=>?_) (fun hlt=>?_)
  ·have hlt':(k:Int) < ((zAv xs).length:Int):=hlt
   rw [zBh] at hlt'
   have hkl:k < xs.length:=by omega
   have hx:xs[k]? = some xs[k]:=List.getElem?_eq_getElem hkl
   have at':atI (zAv xs) (k:Int) = some (.ref (xs[k]).1):=zDm (zSa hx)
   have okX:=okx xs[k] (List.getElem_mem hkl)
   refine ⟨_,rfl,_,rfl,_,rfl,a,_,_,_,rfl,rfl,fa',at',o,xs[k],rfl,okO.same d.same,okX.same d.same,_,rfl,?_⟩
   refine ifTF (fun hb'=>?_) (fun hb'=>?_)
   ·have hb2:ahB o xs[k] = false:=by cases h:ahB o xs[k] <;> simp_all
    refine ⟨_,rfl,.inl ⟨rfl,_,SqL.of d.at'⟩,_,rfl,_,rfl,a,_,_,_,rfl,rfl,fa',at',l,_,_,rfl,rfl,d.at',big _ (by rw [zBh]; omega),?_⟩
    refine ⟨_,rfl,_,_,rfl,rfl,⟨told ++ [xs[k]],k + 1,rfl,d.app hl,hkl,by rw [List.length_append,List.length_singleton]; omega,zO5 hk hm hx hb2⟩,?_⟩
    show xs.length - ((k:Int) + 1).toNat < xs.length - ((k:Int)).toNat
    omega
   ·have hb2:ahB o xs[k] = true:=by cases h:ahB o xs[k] <;> simp_all
    refine ⟨_,rfl,.inl ⟨rfl,_,SqL.of d.at'⟩,_,rfl,l,_,_,rfl,rfl,d.at',big _ (by rw [zBh]; omega),?_⟩
    exact ⟨told ++ [o],k,_,rfl,d.app hl,hk,by rw [List.length_append,List.length_singleton]; omega,zLd hm (.inr ⟨_,hx,hb2⟩)⟩
  ·have hlt':¬ (k:Int) < ((zAv xs).length:Int):=hlt
   rw [zBh] at hlt'
   refine iteF ?_
   refine ⟨_,rfl,.inl ⟨rfl,_,SqL.of d.at'⟩,_,rfl,l,_,_,rfl,rfl,d.at',big _ (by rw [zBh]; omega),?_⟩
   exact ⟨told ++ [o],k,_,rfl,d.app hl,hk,by rw [List.length_append,List.length_singleton]; omega,zLd hm (.inl (by omega))⟩
 ·rintro σ H' ⟨told,k,u,rfl,d,hk,htl,hm⟩
  rw [zBh] at htl hm
  rw [List.drop_length,zBg] at hm
  refine ⟨_,rfl,_,rfl,_,rfl,_,rfl,a,_,rfl,SqL.of (d.same _ _ ha),fun c hc=>?_⟩
  have sc:=zAe hc (.lst (cutV (zAv xs) (some (k:Int)) none))
  have ec:cutV (zAv xs) (some (k:Int)) none = zAv (xs.drop k):=by
   unfold cutV
   rw [HT.sIx_nat,zBh,show min k xs.length = k by omega,show HT.sIx xs.length xs.length none = xs.length from rfl,List.take_of_length_le (by rw [List.length_drop,zBh]; omega)]
   unfold zAv
   rw [List.map_drop]
  refine ⟨l,c,_,_,rfl,rfl,sc _ _ d.at',zAb,?_,fun p hp=>?_⟩
  ·rw [ec,zBh,zBh,List.length_drop]
   exact Nat.le_of_lt (big _ (by omega))
  ·refine q p _ (d.same.trans (sc.trans (zAe hp _))) ((d.same.trans sc).free hp) ?_
   rw [zAb,ec,← hm]
   unfold zAv
   rw [List.map_append]
def zE0 (K:PySem.W.Frag):Nat→Sp
 | 0=>fun _ _ _ _=>False
 | n + 1=>fun vs H Q _=>∃ (a:Addr) (xs:List SpT),vs = [.ref a]∧SqL K H a (zAv xs)∧(∀ t∈xs,SpOk H t)∧xs.length≤2 ^ n∧xs.length≤5000∧∀ (p:Addr) (H':Hp),Same H H'→H p = none→H' p = some (.lst (zAv (zFp n xs)))→Q (.ref p) H'
def zGn (K:PySem.W.Frag):Sp:=zE0 K 13
theorem zHc {f:Addr} {fd:FuncData} (F:Fun K "in_order" "in_order" zCv f fd) (Z:Zs mg) (h_p_merged:Has P w K mg base "merged" 2 ["ones", "others"] (zFy K)) (bS:zL7 K fd ["spots"] []) (kS:PySem.W.keepIn K (.ref f) = true) (mS:mg "in_order" = some (.ref f)) :
  ∀ n:Nat,FnOk P w K mg base CX0 (n + 2) f fd ["spots"] (zE0 K n)
 | 0=>⟨fun _ _ _ _ h=>h.elim,fun _ _ _ _ _ _ _ _ _ _ _ _ _ h=>h.elim⟩
 | n + 1=>by
  have ih:=zHc F Z h_p_merged bS kS mS n
  have h_p_in_order:Has P w K mg base "in_order" (n + 2) ["spots"] (zE0 K n):=⟨f,fd,ih,bS,kS,mS⟩
  rw [show n + 1 + 2 = n + 2 + 1 from by omega]
  refine F.ok zGk (fun vs H Q E h=>?_) (fun cdv A outer s H vs Q E hr h=>?_)
  ·obtain ⟨a,xs,rfl,_⟩:=h
   rfl
  obtain ⟨a,xs,rfl,hS,ok,hl,hl5,q⟩:=h
  have hr_self:=hr
  have hr_m:Room 2 _:=hr.mono (Nat.le_add_left _ _)
  refine ⟨_,(zAg (zBj (zAu zL2 (zAw zA1 rfl Z.len zDt (zAa (pv 0) zAd)) zAc (zAy _)) (zAi (zAp (zCb zB9 rfl Z.list zE6 (zAa (pv 0) zAd)))) zAx)
   (zAg (zAr (i:=1) zGk.nd rfl (Or.inl rfl) (zAm zC9 (zAw zA1 rfl Z.len zDt (zAa (pv 0) zAd)) zAc))
   (zAi (zAp (zAf h_p_merged hr_m rfl (zAa (zAf h_p_in_order hr_self rfl (zAa (zBp zC0 (pv 0) zCf (zCi (pv 1))) zAd)) (zAa (zAf h_p_in_order hr_self rfl (zAa (zBp zC0 (pv 0) (zCi (pv 1)) zCf) zAd)) zAd))))))),?_⟩
  have big:∀ n:Nat,n≤5000→n < sizeLine:=fun n hn=>Nat.lt_of_le_of_lt hn (by decide)
  refine ⟨_,rfl,a,_,rfl,.inl hS,_,_,rfl,rfl,_,rfl,?_⟩
  refine ifD (fun hlt=>?_) (fun hlt=>?_)
  ·have hlt':((zAv xs).length:Int) < 2:=hlt
   rw [zBh] at hlt'
   refine ⟨_,rfl,a,_,rfl,.inl hS,fun l hl'=>?_⟩
   refine q l _ (zAe hl' _) hl' ?_
   rw [zAb]
   have e:zFp n xs = xs:=by
    cases n with
    | zero=>rfl
    | succ m=>exact if_pos (by omega)
   rw [e]
  ·have hlt':¬ ((zAv xs).length:Int) < 2:=hlt
   rw [zBh] at hlt'
   cases n with
   | zero=>exact absurd hl (by show ¬ xs.length≤1; omega)
   | succ m =>
    refine ⟨_,rfl,a,_,rfl,.inl hS,_,_,rfl,rfl,zEw.of (by decide) (by decide +kernel),?_⟩
    have emid:((zAv xs).length:Int) / 2 = ((xs.length / 2:Nat):Int):=by rw [zBh]; rfl
    have e1:cutV (zAv xs) none (some (((zAv xs).length:Int) / 2)) = zAv (xs.take (xs.length / 2)):=by
     rw [emid]
     unfold cutV
     rw [HT.sIx_nat,zBh,show HT.sIx xs.length 0 none = 0 from rfl,List.drop_zero,show min (xs.length / 2) xs.length - 0 = xs.length / 2 by omega]
     unfold zAv
     rw [List.map_take]
    have e2:cutV (zAv xs) (some (((zAv xs).length:Int) / 2)) none = zAv (xs.drop (xs.length / 2)):=by
     rw [emid]
     unfold cutV
     rw [HT.sIx_nat,zBh,show min (xs.length / 2) xs.length = xs.length / 2 by omega,show HT.sIx xs.length xs.length none = xs.length from rfl,List.take_of_length_le (by rw [List.length_drop,zBh]; omega)]
     unfold zAv
     rw [List.map_drop]
    have p2:2 ^ (m + 1) = 2 * 2 ^ m:=by rw [Nat.pow_succ,Nat.mul_comm]
    refine ⟨_,rfl,_,rfl,_,rfl,a,_,rfl,hS,fun c1 hc1=>?_⟩
    have sc1:=zAe hc1 (.lst (cutV (zAv xs) none (some (((zAv xs).length:Int) / 2))))
    refine ⟨c1,xs.take (xs.length / 2),rfl,SqL.of (by rw [zAb,e1]),fun t ht=>(ok t (List.mem_of_mem_take ht)).same sc1,by rw [List.length_take]; omega,by rw [List.length_take]; omega,fun r1 H1 s1 hr1 er1=>?_⟩
    have sA:=sc1.trans s1
    refine ⟨_,rfl,_,rfl,_,rfl,a,_,rfl,sA.seq hS,fun c2 hc2=>?_⟩
    have sc2:=zAe hc2 (.lst (cutV (zAv xs) (some (((zAv xs).length:Int) / 2)) none))
    refine ⟨c2,xs.drop (xs.length / 2),rfl,SqL.of (by rw [zAb,e2]),fun t ht=>(ok t (List.mem_of_mem_drop ht)).same (sA.trans sc2),by rw [List.length_drop]; omega,by rw [List.length_drop]; omega,fun r2 H2 s2 hr2 er2=>?_⟩
    have sB:=sA.trans (sc2.trans s2)
    have P1:=zCn m (xs.take (xs.length / 2))
    have P2:=zCn m (xs.drop (xs.length / 2))
    refine ⟨r1,r2,zFp m (xs.take (xs.length / 2)),zFp m (xs.drop (xs.length / 2)),rfl,s2 _ _ (sc2 _ _ er1),er2,fun t ht=>(ok t (List.mem_of_mem_take (P1.mem_iff.mp ht))).same sB,fun t ht=>(ok t (List.mem_of_mem_drop (P2.mem_iff.mp ht))).same sB,by rw [P1.length_eq,P2.length_eq,List.length_take,List.length_drop]; omega,fun p H3 s3 hp e3=>?_⟩
    refine q p H3 (sB.trans s3) (sB.free hp) ?_
    rw [e3]
    have e:zFp (m + 1) xs = zBg (zFp m (xs.take (xs.length / 2))) (zFp m (xs.drop (xs.length / 2))):=if_neg (by omega)
    rw [e]
theorem zJ8 (F:Fun K "in_order" "in_order" zCv f fd) (Z:Zs mg) (h_p_merged:Has P w K mg base "merged" 2 ["ones", "others"] (zFy K)) (bS:zL7 K fd ["spots"] []) (kS:PySem.W.keepIn K (.ref f) = true) (mS:mg "in_order" = some (.ref f)):FnOk P w K mg base CX0 15 f fd ["spots"] (zGn K):=zHc F Z h_p_merged bS kS mS 13
def spTurn (K:PySem.W.Frag):Sp:=fun vs H Q _=>∃ (a b:Addr) (us ws:List V) (x1 y1 x2 y2:Int),vs = [.ref a,.ref b]∧Sq K H a us∧Sq K H b ws∧atI us 0 = some (.int x1)∧atI us 1 = some (.int y1)∧atI ws 0 = some (.int x2)∧atI ws 1 = some (.int y2) ∧
 x1.natAbs≤10 ^ 18∧y1.natAbs≤10 ^ 18∧Q (.int (x1 * y2 - y1 * x2)) H
def zBz (K:PySem.W.Frag):Sp:=spTurn K
def zF0 (K:PySem.W.Frag):Sp:=fun vs H Q _=>∃ (a b:Addr) (x1 y1 x2 y2:Int),vs = [.ref a,.ref b]∧H a = some (.tup [.int x1,.int y1])∧H b = some (.tup [.int x2,.int y2])∧x1.natAbs≤10 ^ 201∧y1.natAbs≤10 ^ 201∧x2.natAbs≤10 ^ 201∧y2.natAbs≤10 ^ 201∧Q (.int (x1 * y2 - y1 * x2)) H
theorem big401 {n:Nat} (h:n≤10 ^ 201):n≤10 ^ 401:=Nat.le_trans h (by decide +kernel)
theorem cBB {i j:Int} (hi:i.natAbs≤10 ^ 201) (hj:j.natAbs≤10 ^ 201):zKl i j:=⟨Nat.lt_of_le_of_lt hi (by decide +kernel),Nat.lt_of_le_of_lt hj (by decide +kernel)⟩
theorem zQi (F:Fun K "turn" "turn" zGp f fd) (Z:Zs mg)  : FnOk P w K mg base CX0 1 f fd ["one", "other"] (zBz K):=by
 refine F.ok zLz (fun vs H Q E h=>?_) (fun cdv A outer s H vs Q E hr h=>?_)
 ·obtain ⟨a,b,us,ws,x1,y1,x2,y2,rfl,_⟩:=h
  rfl
 obtain ⟨a,b,us,ws,x1,y1,x2,y2,rfl,ha,hb,u0,u1,w0,w1,m1,m2,q⟩:=h
 refine ⟨_,(zAi (zAp (zAm zBw (zAm zBa (zAn zAj (pv 0) zAc (fun _ _=>rfl)) (zAn zAj (pv 1) zAc (fun _ _=>rfl))) (zAm zBa (zAn zAj (pv 0) zAc (fun _ _=>rfl)) (zAn zAj (pv 1) zAc (fun _ _=>rfl)))))),?_⟩
 exact ⟨_,rfl,a,_,_,.int x1,rfl,rfl,ha,u0,_,rfl,b,_,_,.int y2,rfl,rfl,hb,w1,_,_,rfl,rfl,cm_l (by omega),
  _,rfl,a,_,_,.int y1,rfl,rfl,ha,u1,_,rfl,b,_,_,.int x2,rfl,rfl,hb,w0,_,_,rfl,rfl,cm_l (by omega),_,_,rfl,rfl,q⟩
theorem zMf (F:Fun K "turn" "turn" zGp f fd) (Z:Zs mg)  : FnOk P w K mg base CX0 1 f fd ["one", "other"] (zF0 K):=by
 refine F.ok zLz (fun vs H Q E h=>?_) (fun cdv A outer s H vs Q E hr h=>?_)
 ·obtain ⟨a,b,x1,y1,x2,y2,rfl,_⟩:=h
  rfl
 obtain ⟨a,b,x1,y1,x2,y2,rfl,ha,hb,m1,m2,m3,m4,q⟩:=h
 have fa':Sq K H a [.int x1,.int y1]:=.inr (SqT.of ha)
 have fb:Sq K H b [.int x2,.int y2]:=.inr (SqT.of hb)
 refine ⟨_,(zAi (zAp (zAm zBw (zAm zBy (zAn zAj (pv 0) zAc (fun _ _=>rfl)) (zAn zAj (pv 1) zAc (fun _ _=>rfl))) (zAm zBy (zAn zAj (pv 0) zAc (fun _ _=>rfl)) (zAn zAj (pv 1) zAc (fun _ _=>rfl)))))),?_⟩
 exact ⟨_,rfl,a,_,_,.int x1,rfl,rfl,fa',rfl,_,rfl,b,_,_,.int y2,rfl,rfl,fb,rfl,_,_,rfl,rfl,cBB m1 m4,
  _,rfl,a,_,_,.int y1,rfl,rfl,fa',rfl,_,rfl,b,_,_,.int x2,rfl,rfl,fb,rfl,_,_,rfl,rfl,cBB m2 m3,_,_,rfl,rfl,q⟩
def zD4 (K:PySem.W.Frag):Sp:=fun vs H Q _=>∃ (a b:Addr) (us ws:List V) (x1 y1 x2 y2:Int),vs = [.ref a,.ref b]∧Sq K H a us∧Sq K H b ws∧atI us 0 = some (.int x1)∧atI us 1 = some (.int y1)∧atI ws 0 = some (.int x2)∧atI ws 1 = some (.int y2) ∧
 x1.natAbs≤10 ^ 18∧y1.natAbs≤10 ^ 18∧Q (.int (x1 * x2 + y1 * y2)) H
theorem zOs (F:Fun K "along" "along" zGt f fd) (Z:Zs mg)  : FnOk P w K mg base CX0 1 f fd ["one", "other"] (zD4 K):=by
 refine F.ok zO4 (fun vs H Q E h=>?_) (fun cdv A outer s H vs Q E hr h=>?_)
 ·obtain ⟨a,b,us,ws,x1,y1,x2,y2,rfl,_⟩:=h
  rfl
 obtain ⟨a,b,us,ws,x1,y1,x2,y2,rfl,ha,hb,u0,u1,w0,w1,m1,m2,q⟩:=h
 refine ⟨_,(zAi (zAp (zAm zB1 (zAm zBa (zAn zAj (pv 0) zAc (fun _ _=>rfl)) (zAn zAj (pv 1) zAc (fun _ _=>rfl))) (zAm zBa (zAn zAj (pv 0) zAc (fun _ _=>rfl)) (zAn zAj (pv 1) zAc (fun _ _=>rfl)))))),?_⟩
 exact ⟨_,rfl,a,_,_,.int x1,rfl,rfl,ha,u0,_,rfl,b,_,_,.int x2,rfl,rfl,hb,w0,_,_,rfl,rfl,cm_l (by omega),
  _,rfl,a,_,_,.int y1,rfl,rfl,ha,u1,_,rfl,b,_,_,.int y2,rfl,rfl,hb,w1,_,_,rfl,rfl,cm_l (by omega),_,_,rfl,rfl,q⟩
def zGv (K:PySem.W.Frag):Sp:=zCm K
theorem zOi (F:Fun K "plain" "plain" zGl f fd) (Z:Zs mg) (h_p_lowest:Has P w K mg base "lowest" 2 ["numbers"] (zCm K)):FnOk P w K mg base CX0 3 f fd ["direction"] (zGv K):=by
 refine F.ok zO0 (fun vs H Q E h=>?_) (fun cdv A outer s H vs Q E hr h=>?_)
 ·obtain ⟨a,ns,rfl,_⟩:=h
  rfl
 obtain ⟨a,ns,rfl,h⟩:=h
 exact ⟨_,(zAi (zAp (zAf h_p_lowest (hr.mono (by decide)) rfl (zAa (pv 0) zAd)))),⟨_,rfl,a,ns,rfl,h⟩⟩
def zS6 (K:PySem.W.Frag) (R:Int→Int→Int→Int→Int→Int→Hp→VK→Prop):Sp:=fun vs H Q _=>∃ (a b:Addr) (A B C x y z:Int),vs = [.ref a,.ref b]∧Sq K H a [.int A,.int B,.int C]∧Sq K H b [.int x,.int y,.int z]∧A.natAbs≤10 ^ 18∧B.natAbs≤10 ^ 18∧C.natAbs≤10 ^ 18∧R A B C x y z H Q
def zH1 (K:PySem.W.Frag):Sp:=zS6 K fun A B C x y z H Q=>Q (.int (A * x + B * y - C * z)) H
theorem zM4 (F:Fun K "beyond" "beyond" zFo f fd) (Z:Zs mg)  : FnOk P w K mg base CX0 1 f fd ["side", "spot"] (zH1 K):=by
 refine F.ok zM7 (fun vs H Q E h=>?_) (fun cdv A outer s H vs Q E hr h=>?_)
 ·obtain ⟨a,b,A,B,C,x,y,z,rfl,_⟩:=h
  rfl
 obtain ⟨a,b,A',B,C,x,y,z,rfl,ha,hb,m1,m2,m3,q⟩:=h
 refine ⟨_,(zAi (zAp (zAm zBw (zAm zB1 (zAm zBa (zAn zAj (pv 0) zAc (fun _ _=>rfl)) (zAn zAj (pv 1) zAc (fun _ _=>rfl))) (zAm zBa (zAn zAj (pv 0) zAc (fun _ _=>rfl)) (zAn zAj (pv 1) zAc (fun _ _=>rfl)))) (zAm zBa (zAn zAj (pv 0) zAc (fun _ _=>rfl)) (zAn zAj (pv 1) zAc (fun _ _=>rfl)))))),?_⟩
 exact ⟨_,rfl,a,_,_,.int A',rfl,rfl,ha,rfl,_,rfl,b,_,_,.int x,rfl,rfl,hb,rfl,_,_,rfl,rfl,cm_l (by omega),_,rfl,a,_,_,.int B,rfl,rfl,ha,rfl,_,rfl,b,_,_,.int y,rfl,rfl,hb,rfl,_,_,rfl,rfl,cm_l (by omega),_,_,rfl,rfl,_,rfl,a,_,_,.int C,rfl,rfl,ha,rfl,_,rfl,b,_,_,.int z,rfl,rfl,hb,rfl,_,_,rfl,rfl,cm_l (by omega),_,_,rfl,rfl,q⟩
def zD1 (K:PySem.W.Frag):Sp:=zS6 K fun A B C x y z H Q=>Q (.bl (decide (A * x + B * y - C * z≤0))) H
theorem zOw (F:Fun K "holds" "holds" zF3 f fd) (Z:Zs mg) (h_p_beyond:Has P w K mg base "beyond" 1 ["side", "spot"] (zH1 K)):FnOk P w K mg base CX0 2 f fd ["side", "spot"] (zD1 K):=by
 refine F.ok zN7 (fun vs H Q E h=>?_) (fun cdv A outer s H vs Q E hr h=>?_)
 ·obtain ⟨a,b,A,B,C,x,y,z,rfl,_⟩:=h
  rfl
 obtain ⟨a,b,A',B,C,x,y,z,rfl,ha,hb,m1,m2,m3,q⟩:=h
 refine ⟨_,(zAi (zAp (zG1 op_le (zAf h_p_beyond (hr.mono (by decide)) rfl (zAa (pv 0) (zAa (pv 1) zAd))) zAc (zAy _)))),?_⟩
 exact ⟨_,rfl,_,rfl,a,b,A',B,C,x,y,z,rfl,ha,hb,m1,m2,m3,_,_,rfl,rfl,q⟩
def zDd (K:PySem.W.Frag):Sp:=fun vs H Q _=>∃ (a b:Addr) (A1 B1 C1 A2 B2 C2:Int),vs = [.ref a,.ref b]∧Sq K H a [.int A1,.int B1,.int C1]∧Sq K H b [.int A2,.int B2,.int C2] ∧
 A1.natAbs≤10 ^ 18∧B1.natAbs≤10 ^ 18∧C1.natAbs≤10 ^ 18∧A2.natAbs≤10 ^ 18∧B2.natAbs≤10 ^ 18 ∧
 (A1 * B2 - B1 * A2 = 0→Q .non H)∧(A1 * B2 - B1 * A2≠0→∀ (p:Addr) (H':Hp),Same H H'→H p = none→H' p = some (.tup ((lowL (upL (C1 * B2 - B1 * C2) (A1 * C2 - C1 * A2) (A1 * B2 - B1 * A2))).map V.int))→Q (.ref p) H')
theorem zKt (F:Fun K "crossing" "crossing" zDu f fd) (Z:Zs mg) (h_p_upright:Has P w K mg base "upright" 3 ["numbers"] (zDp K)) (h_p_turn:Has P w K mg base "turn" 1 ["one", "other"] (zBz K)):FnOk P w K mg base CX0 4 f fd ["one", "other"] (zDd K):=by
 refine F.ok zC6 (fun vs H Q E h=>?_) (fun cdv A outer s H vs Q E hr h=>?_)
 ·obtain ⟨a,b,A1,B1,C1,A2,B2,C2,rfl,_⟩:=h
  rfl
 obtain ⟨a,b,A1,B1,C1,A2,B2,C2,rfl,ha,hb,m1,m2,m3,m4,m5,q0,q⟩:=h
 refine ⟨_,(zAg (zAr (i:=2) zC6.nd rfl (Or.inl rfl) (zAf h_p_turn (hr.mono (by decide)) rfl (zAa (pv 0) (zAa (pv 1) zAd))))
   (zAg (zBj (zAu zFu (pv 2) zAc (zAy _)) (zAi (zAp zB7)) zAx)
   (zAg (zAr (i:=3) zC6.nd rfl (Or.inl rfl) (zAm zBw (zAm zBa (zAn zAj (pv 0) zAc (fun _ _=>rfl)) (zAn zAj (pv 1) zAc (fun _ _=>rfl))) (zAm zBa (zAn zAj (pv 0) zAc (fun _ _=>rfl)) (zAn zAj (pv 1) zAc (fun _ _=>rfl)))))
   (zAg (zAr (i:=4) zC6.nd rfl (Or.inl rfl) (zAm zBw (zAm zBa (zAn zAj (pv 0) zAc (fun _ _=>rfl)) (zAn zAj (pv 1) zAc (fun _ _=>rfl))) (zAm zBa (zAn zAj (pv 0) zAc (fun _ _=>rfl)) (zAn zAj (pv 1) zAc (fun _ _=>rfl)))))
   (zAi (zAp (zAf h_p_upright (hr.mono (by decide)) rfl (zAa (zBe (zAa (pv 3) (zAa (pv 4) (zAa (pv 2) zAd)))) zAd)))))))),?_⟩
 refine ⟨_,rfl,_,rfl,a,b,_,_,A1,B1,A2,B2,rfl,ha,hb,rfl,rfl,rfl,rfl,m1,m2,?_⟩
 refine ⟨_,rfl,rfl,_,rfl,?_⟩
 refine ifE (fun hw=>q0 hw) (fun hw=>?_)
 have z1:=zAh A1 B2 m1 m5
 have z2:=zAh B1 A2 m2 m4
 have z0:(10:Nat) ^ 18 * 10 ^ 18 = 10 ^ 36:=by decide
 have z3:(10:Nat) ^ 36 + 10 ^ 36≤10 ^ 40:=by decide
 refine ⟨_,rfl,a,_,_,.int C1,rfl,rfl,ha,rfl,_,rfl,b,_,_,.int B2,rfl,rfl,hb,rfl,_,_,rfl,rfl,cm_l (by omega),_,rfl,a,_,_,.int B1,rfl,rfl,ha,rfl,_,rfl,b,_,_,.int C2,rfl,rfl,hb,rfl,_,_,rfl,rfl,cm_l (by omega),_,_,rfl,rfl,?_⟩
 refine ⟨_,rfl,a,_,_,.int A1,rfl,rfl,ha,rfl,_,rfl,b,_,_,.int C2,rfl,rfl,hb,rfl,_,_,rfl,rfl,cm_l (by omega),_,rfl,a,_,_,.int C1,rfl,rfl,ha,rfl,_,rfl,b,_,_,.int A2,rfl,rfl,hb,rfl,_,_,rfl,rfl,cm_l (by omega),_,_,rfl,rfl,?_⟩
 refine ⟨_,rfl,_,rfl,_,rfl,(by show 3≤sizeLine; decide),fun p hp=>⟨p,[C1 * B2 - B1 * C2,A1 * C2 - C1 * A2,A1 * B2 - B1 * A2],A1 * B2 - B1 * A2,rfl,.inr (SqT.of zAb),by show 3≤1000; decide,rfl,by simp,hw,big_ok (by omega),fun r H2 s2 hr2 e2=>?_⟩⟩
 exact q hw r H2 ((zAe hp _).trans s2) ((zAe hp _).free hr2) e2
def inWB (ss:List Sd) (p:P3):Bool:=ss.all fun t=>decide (sv t.2 p≤0)
theorem zEd {ss:List Sd} {p:P3} : inWB ss p = true↔inW ss p:=by
 unfold inWB inW
 rw [List.all_eq_true]
 exact ⟨fun h t ht=>of_decide_eq_true (h t ht),fun h t ht=>decide_eq_true (h t ht)⟩
def zDb (K:PySem.W.Frag):Sp:=fun vs H Q _=>∃ (l p:Addr) (ss:List Sd) (P:P3),vs = [.ref l,.ref p]∧SqL K H l (zAo ss)∧SdOk H ss∧Sq K H p [.int P.1,.int P.2.1,.int P.2.2]∧Q (.bl (inWB ss P)) H
theorem zKm (F:Fun K "in_water" "in_water" zDs f fd) (Z:Zs mg) (h_p_holds:Has P w K mg base "holds" 2 ["side", "spot"] (zD1 K)):FnOk P w K mg base CX0 3 f fd ["sides", "place"] (zDb K):=by
 refine F.ok zGr (fun vs H Q E h=>?_) (fun cdv A outer s H vs Q E hr h=>?_)
 ·obtain ⟨l,p,ss,P,rfl,_⟩:=h
  rfl
 obtain ⟨l,p,ss,P,rfl,hl,ok,hp,q⟩:=h
 refine ⟨_,(zAg (zCk PassesOwn.never rfl (zCg (pv 0)) (zAt (i:=2) zGr.nd rfl (Or.inl rfl)) (zAi (zBj (zJw (zEv (zAf h_p_holds (hr.mono (by decide)) rfl (zAa (pv 2) (zAa (pv 1) zAd))))) (zAi (zAp zGz)) zAx)))
   (zAi (zAp zGz))),?_⟩
 refine ⟨_,rfl,l,rfl,.inl ⟨⟨_,hl⟩,zCd (K:=K) (a:=l) (xs:=zAo ss) (fun i σ H'=>H = H'∧(∀ j t,j < i→ss[j]? = some t→sv t.2 P≤0)∧∃ u2:Option V,σ = [some (.ref l),some (.ref p),u2])
  ⟨rfl,fun j t hj=>absurd hj (Nat.not_lt_zero _),none,rfl⟩ (fun i σ H' _ ⟨e,_⟩=>by rw [← e]; exact hl) ?_ ?_⟩⟩
 ·rintro i v σ H' hi ⟨rfl,hall,u2,rfl⟩
  obtain ⟨t,gt,rfl,hil⟩:=zBt hi
  obtain ⟨et,_,b1,b2,b3⟩:=ok t (List.mem_of_getElem? gt)
  refine ⟨_,rfl,_,rfl,t.1,p,t.2.1,t.2.2.1,t.2.2.2,P.1,P.2.1,P.2.2,rfl,.inr (SqT.of et),hp,by omega,by omega,by omega,_,rfl,?_⟩
  refine ifN (fun hpos=>?_) (fun hneg=>?_)
  ·have e:inWB ss P = false:=by
    unfold inWB
    rw [Bool.eq_false_iff]
    intro z
    exact hpos (of_decide_eq_true (List.all_eq_true.mp z t (List.mem_of_getElem? gt)))
   rw [e] at q
   exact q
  ·refine ⟨rfl,fun j t' hj ht'=>?_,_,rfl⟩
   by_cases e:j = i
   ·rw [e,gt] at ht'
    cases ht'
    exact hneg
   ·exact hall j t' (by omega) ht'
 ·rintro σ H' ⟨rfl,hall,u2,rfl⟩
  have e:inWB ss P = true:=zEd.mpr fun t ht=>by
   obtain ⟨j,hj,ej⟩:=List.getElem_of_mem ht
   exact hall j t (by rw [zAk]; exact hj) (by rw [List.getElem?_eq_getElem hj,ej])
  rw [e] at q
  exact q
def zIp (K:PySem.W.Frag):Sp:=fun vs H Q _=>∃ (a:Addr) (t:P3),vs = [.ref a]∧Sq K H a [.int t.1,.int t.2.1,.int t.2.2]∧(t.1≠0∨t.2.1≠0)∧t.1.natAbs≤10 ^ 9∧t.2.1.natAbs≤10 ^ 9 ∧
 ∀ (p:Addr) (H':Hp),Same H H'→H p = none→H' p = some (.tup ((ftL t).map V.int))→Q (.ref p) H'
theorem zPt (F:Fun K "foot" "foot" zHi f fd) (Z:Zs mg) (h_p_spot:Has P w K mg base "spot" 4 ["x", "y", "w"] (zIt K)) (h_p_along:Has P w K mg base "along" 1 ["one", "other"] (zD4 K)):FnOk P w K mg base CX0 5 f fd ["side"] (zIp K):=by
 refine F.ok zP3 (fun vs H Q E h=>?_) (fun cdv A outer s H vs Q E hr h=>?_)
 ·obtain ⟨a,t,rfl,_⟩:=h
  rfl
 obtain ⟨a,t,rfl,ha,hn,b1,b2,q⟩:=h
 refine ⟨_,(zAi (zAp (zAf h_p_spot (hr.mono (by decide)) rfl (zAa (zAm zBa (zAn zAj (pv 0) zAc (fun _ _=>rfl)) (zAn zAj (pv 0) zAc (fun _ _=>rfl))) (zAa (zAm zBa (zAn zAj (pv 0) zAc (fun _ _=>rfl)) (zAn zAj (pv 0) zAc (fun _ _=>rfl))) (zAa (zAf h_p_along (hr.mono (by decide)) rfl (zAa (pv 0) (zAa (pv 0) zAd))) zAd)))))),?_⟩
 have pos:=zC2 hn
 have z1:=zAh t.1 t.1 b1 b1
 have z2:=zAh t.2.1 t.2.1 b2 b2
 refine ⟨_,rfl,a,_,_,.int t.1,rfl,rfl,ha,rfl,_,rfl,a,_,_,.int t.2.2,rfl,rfl,ha,rfl,_,_,rfl,rfl,cm_l (by omega),
  _,rfl,a,_,_,.int t.2.1,rfl,rfl,ha,rfl,_,rfl,a,_,_,.int t.2.2,rfl,rfl,ha,rfl,_,_,rfl,rfl,cm_l (by omega),
  _,rfl,_,rfl,a,a,_,_,t.1,t.2.1,t.1,t.2.1,rfl,ha,ha,rfl,rfl,rfl,rfl,by omega,by omega,
  t.1 * t.2.2,t.2.1 * t.2.2,t.1 * t.1 + t.2.1 * t.2.1,rfl,by omega,Nat.lt_of_le_of_lt (show (t.1 * t.1 + t.2.1 * t.2.1).natAbs≤10 ^ 40 by omega) (by decide +kernel),fun p H' s' hp ep=>q p H' s' hp ep⟩
def optV:Option Nat→V
 | none=>.non
 | some j=>.int j
theorem zC4 {ss:List Sd} {i:Nat} {t u:Sd} (gt:ss[i]? = some t) (hu:u∈ss.take (i + 1)):u∈ss.take i∨u = t:=by
 rw [zBi gt] at hu
 rcases List.mem_append.mp hu with h | h
 ·exact .inl h
 ·exact .inr (List.mem_singleton.mp h)
theorem zNa {ss:List Sd} {i j:Nat} {t:Sd} (h:(ss.take i)[j]? = some t):(ss.take (i + 1))[j]? = some t:=by
 rw [List.getElem?_take] at h ⊢
 split at h
 ·rw [if_pos (by omega)]
  exact h
 ·cases h
def zL8 (ss:List Sd) (e:P3) (h:Int) (H:Hp) (x y:V):Prop:=(x = .non∧y = .non∧zHd ss e h none)∨∃ (j:Nat) (t:Sd) (p:Addr),x = .int j∧y = .ref p∧H p = some (.tup ((crL e t.2).map V.int))∧ss[j]? = some t∧0 < tn e t.2 * h∧∀ u∈ss,0 < tn e u.2 * h→sv u.2 (pt3 (crL e t.2))≤0
theorem zL8.skip {ss:List Sd} {e:P3} {h:Int} {H:Hp} {x y:V} {i:Nat} {t:Sd} (S:zL8 (ss.take i) e h H x y) (gt:ss[i]? = some t) (hn:¬ 0 < tn e t.2 * h):zL8 (ss.take (i + 1)) e h H x y:=by
 rcases S with ⟨e1,e2,S⟩ | ⟨j,u,p,e1,e2,ep,gu,hu,ha⟩
 ·refine .inl ⟨e1,e2,fun v hv=>?_⟩
  rcases zC4 gt hv with hv | rfl
  ·exact S v hv
  ·omega
 ·refine .inr ⟨j,u,p,e1,e2,ep,zNa gu,hu,fun v hv hp=>?_⟩
  rcases zC4 gt hv with hv | rfl
  ·exact ha v hv hp
  ·exact absurd hp hn
theorem zL8.keep {ss:List Sd} {e:P3} {h:Int} {H H':Hp} {x y:V} (S:zL8 ss e h H x y) (s:Same H H'):zL8 ss e h H' x y:=by
 rcases S with S | ⟨j,u,p,e1,e2,ep,r⟩
 ·exact .inl S
 ·exact .inr ⟨j,u,p,e1,e2,s _ _ ep,r⟩
def zDc (K:PySem.W.Frag):Sp:=fun vs H Q _=>∃ (l a:Addr) (ss:List Sd) (e:P3) (h:Int),vs = [.ref l,.ref a,.int h]∧SqL K H l (zAo ss)∧SdOk H ss∧ss.length≤1000∧Sq K H a [.int e.1,.int e.2.1,.int e.2.2]∧(e.1≠0∨e.2.1≠0)∧e.1.natAbs≤10 ^ 9∧e.2.1.natAbs≤10 ^ 9∧e.2.2.natAbs≤10 ^ 13∧(h = 1∨h = -1) ∧
 ∀ (r:Option Nat) (H':Hp),Same H H'→zHd ss e h r→Q (optV r) H'
theorem zKb (F:Fun K "edge_end" "edge_end" zDw f fd) (Z:Zs mg) (h_p_turn:Has P w K mg base "turn" 1 ["one", "other"] (zBz K)) (h_p_holds:Has P w K mg base "holds" 2 ["side", "spot"] (zD1 K)) (h_p_crossing:Has P w K mg base "crossing" 4 ["one", "other"] (zDd K)):FnOk P w K mg base CX0 5 f fd ["sides", "edge", "hand"] (zDc K):=by
 refine F.ok zBl (fun vs H Q E h=>?_) (fun cdv A outer s H vs Q E hr h=>?_)
 ·obtain ⟨l,a,ss,e,h,rfl,_⟩:=h
  rfl
 obtain ⟨l,a,ss,e,hd,rfl,hl,ok,hlen,ha,hn,b1,b2,b3,h1,q⟩:=h
 have hh:hd * hd = 1:=by rcases h1 with rfl | rfl <;> rfl
 have hN:=zC2 hn
 refine ⟨_,(zAg (zAr (i:=3) zBl.nd rfl (Or.inl rfl) zB7)
   (zAg (zAr (i:=4) zBl.nd rfl (Or.inl rfl) zB7)
   (zAg (zCk PassesOwn.never rfl (zDj rfl Z.range (zAa (zAw zA1 rfl Z.len zDt (zAa (pv 0) zAd)) zAd)) (zAt (i:=5) zBl.nd rfl (Or.inl rfl)) (zAg (zAr (i:=6) zBl.nd rfl (Or.inl rfl) (zAn zAj (pv 0) (pv 5) (fun _ _=>rfl)))
   (zAi (zBj (PW.pt (zGu (zAu zIe (zAm zBa (zAf h_p_turn (hr.mono (by decide)) rfl (zAa (pv 1) (zAa (pv 6) zAd))) (pv 2)) zAc (zAy _)) (zEg (PW.pt (pw_or (zAu zM8 (pv 4) zB7 (zAy _)) (zS4 (zJw (zEv (zAf h_p_holds (hr.mono (by decide)) rfl (zAa (pv 6) (zAa (pv 4) zAd))))))))))) (zAg (zAr (i:=3) zBl.nd rfl (Or.inl rfl) (pv 5))
   (zAi (zAr (i:=4) zBl.nd rfl (Or.inl rfl) (zAf h_p_crossing (hr.mono (by decide)) rfl (zAa (pv 1) (zAa (pv 6) zAd)))))) zAx))))
   (zAi (zAp (pv 3)))))),?_⟩
 refine ⟨_,rfl,l,_,rfl,.inl hl,_,rfl,(by rw [zAk]; omega),(by rw [zAk]; omega),zD6 (lo:=0) (n:=(((zAo ss).length:Nat):Int).toNat) (fun i σ H'=>Same H H'∧∃ (x y:V) (u5 u6:Option V),zL8 (ss.take i) e hd H' x y∧σ = [some (.ref l),some (.ref a),some (.int hd),some x,some y,u5,u6])
  ⟨Same.refl _,.non,.non,none,none,.inl ⟨rfl,rfl,fun t ht=>nomatch ht⟩,rfl⟩ ?_ ?_⟩
 ·rintro i σ H' hi ⟨sH,x,y,u5,u6,S,rfl⟩
  have hil:i < ss.length:=by rw [Int.toNat_natCast,zAk] at hi; exact hi
  obtain ⟨t,mt,gt,at'⟩:=zBf (ss:=ss) (i:=i) (k:=0 + (i:Int)) (by omega) hil
  obtain ⟨et0,nt,c1,c2,c3⟩:=ok t mt
  have et:Sq K H' t.1 [.int t.2.1,.int t.2.2.1,.int t.2.2.2]:=.inr (SqT.of (sH _ _ et0))
  have hae:=ha.same sH
  have z1:=zAh e.1 t.2.2.1 b1 c2
  have z2:=zAh e.2.1 t.2.1 b2 c1
  refine ⟨_,rfl,_,rfl,l,_,_,_,rfl,rfl,.inl (sH.seq hl),at',?_⟩
  refine ⟨_,rfl,_,rfl,a,t.1,_,_,e.1,e.2.1,t.2.1,t.2.2.1,rfl,hae,et,rfl,rfl,rfl,rfl,by omega,by omega,_,rfl,_,_,rfl,rfl,.inl ⟨by omega,by omega⟩,_,_,rfl,rfl,_,rfl,?_⟩
  refine ifD (fun hpos=>?_) (fun hneg=>?_)
  ·have hpos':0 < tn e t.2 * hd:=hpos
   have put:∀ (H2:Hp) (p:Addr),Same H' H2→H2 p = some (.tup ((crL e t.2).map V.int))→(∀ u∈ss.take i,0 < tn e u.2 * hd→sv u.2 (pt3 (crL e t.2))≤0)→zL8 (ss.take (i + 1)) e hd H2 (.int (0 + (i:Int))) (.ref p):=fun H2 p s2 ep hb=>by
    refine .inr ⟨i,t,p,by rw [Int.zero_add],rfl,ep,?_,hpos',fun u hu hp=>?_⟩
    ·rw [List.getElem?_take,if_pos (by omega)]
     exact gt
    ·rcases zC4 gt hu with hu | rfl
     ·exact hb u hu hp
     ·exact Int.le_of_eq (zB0 (zA3 hpos')).2.2
   rcases S with ⟨rfl,rfl,S⟩ | ⟨j,u,p,rfl,rfl,ep,gu,hu,hb⟩
   ·refine ⟨_,rfl,rfl,_,rfl,?_⟩
    refine iteT ?_
    refine ⟨_,rfl,_,rfl,_,rfl,a,t.1,e.1,e.2.1,e.2.2,t.2.1,t.2.2.1,t.2.2.2,rfl,hae,et,by omega,by omega,by omega,by omega,by omega,fun z=>absurd z (zA3 hpos'),fun _ p2 H2 s2 hp2 ep2=>?_⟩
    exact ⟨sH.trans s2,_,_,_,_,put H2 p2 s2 ep2 fun v hv hp=>by have:=S v hv; omega,rfl⟩
   ·obtain ⟨sp0,q1,q2⟩:=zB0 (zA3 hu)
    refine ⟨_,rfl,rfl,_,rfl,?_⟩
    refine iteF ?_
    have ep3:Sq K H' p [.int (pt3 (crL e u.2)).1,.int (pt3 (crL e u.2)).2.1,.int (pt3 (crL e u.2)).2.2]:=.inr (SqT.of (by rw [ep]; rw [sp0.list]; rfl))
    refine ⟨_,rfl,_,rfl,t.1,p,t.2.1,t.2.2.1,t.2.2.2,_,_,_,rfl,et,ep3,by omega,by omega,by omega,_,rfl,?_⟩
    refine ifN (fun hout=>?_) (fun hin=>?_)
    ·have hout':0 < sv t.2 (pt3 (crL e u.2)):=by
      have:¬ sv t.2 (pt3 (crL e u.2))≤0:=hout
      omega
     refine ⟨_,rfl,_,rfl,_,rfl,a,t.1,e.1,e.2.1,e.2.2,t.2.1,t.2.2.1,t.2.2.2,rfl,hae,et,by omega,by omega,by omega,by omega,by omega,fun z=>absurd z (zA3 hpos'),fun _ p2 H2 s2 hp2 ep2=>?_⟩
     obtain ⟨sp1,r1,r2⟩:=zB0 (zA3 hpos')
     have d1:=zTp hh hN r1 q1 sp1.pos r2 hout' hpos'
     refine ⟨sH.trans s2,_,_,_,_,put H2 p2 s2 ep2 fun v hv hp=>?_,rfl⟩
     refine zKe hh hN r1 q1 sp1.pos sp0.pos v.2 ?_ (hb v hv hp)
     have:=Int.mul_nonneg (show 0≤-(dl e (pt3 (crL e t.2)) (pt3 (crL e u.2)) * hd) by omega) (Int.le_of_lt hp)
     rw [Int.neg_mul] at this
     omega
    ·refine ⟨sH,_,_,_,_,.inr ⟨j,u,p,rfl,rfl,ep,zNa gu,hu,fun v hv hp=>?_⟩,rfl⟩
     rcases zC4 gt hv with hv | rfl
     ·exact hb v hv hp
     ·exact hin
  ·refine iteF ?_
   exact ⟨sH,x,y,_,_,S.skip gt hneg,rfl⟩
 ·rintro σ H' ⟨sH,x,y,u5,u6,S,rfl⟩
  rw [Int.toNat_natCast,zAk,List.take_length] at S
  rcases S with ⟨rfl,rfl,S⟩ | ⟨j,u,p,rfl,rfl,ep,gu,hu,hb⟩
  ·exact ⟨_,rfl,q none H' sH S⟩
  ·exact ⟨_,rfl,q (some j) H' sH ⟨u,gu,hu,hb⟩⟩
structure EndsOk (ss:List Sd) (e:P3) (qs:List (Addr × P3)):Prop where
 each:∀ q∈qs,∃ (h:Int) (j:Nat) (t:Sd),h * h = 1∧ss[j]? = some t∧0 < tn e t.2 * h∧(∀ u∈ss,0 < tn e u.2 * h→sv u.2 (pt3 (crL e t.2))≤0)∧q.2 = pt3 (crL e t.2)
 none:qs = []→zHd ss e 1 none∧zHd ss e (-1) none
 full:zI8 ss e 1 (qs.map (·.2))∧zI8 ss e (-1) (qs.map (·.2))
def zDz (K:PySem.W.Frag):Sp:=fun vs H Q _=>∃ (l a:Addr) (ss:List Sd) (e:P3),vs = [.ref l,.ref a]∧SqL K H l (zAo ss)∧SdOk H ss∧ss.length≤1000∧Sq K H a [.int e.1,.int e.2.1,.int e.2.2]∧(e.1≠0∨e.2.1≠0)∧e.1.natAbs≤10 ^ 9∧e.2.1.natAbs≤10 ^ 9∧e.2.2.natAbs≤10 ^ 13 ∧
 ∀ (D:Addr) (qs:List (Addr × P3)) (H':Hp),Same H H'→H D = none→H' D = some (.lst (zEs qs))→zM2 H' qs→qs.length≤2→EndsOk ss e qs→Q (.ref D) H'
theorem zJb (F:Fun K "edge_ends" "edge_ends" zC7 f fd) (Z:Zs mg) (h_p_crossing:Has P w K mg base "crossing" 4 ["one", "other"] (zDd K)) (h_p_edge_end:Has P w K mg base "edge_end" 5 ["sides", "edge", "hand"] (zDc K)):FnOk P w K mg base CX0 6 f fd ["sides", "edge"] (zDz K):=by
 refine F.ok zFr (fun vs H Q E h=>?_) (fun cdv A outer s H vs Q E hr h=>?_)
 ·obtain ⟨l,a,ss,e,rfl,_⟩:=h
  rfl
 obtain ⟨l,a,ss,e,rfl,hl,ok,hlen,ha,hn,b1,b2,b3,q⟩:=h
 refine ⟨_,(zAg (zAr (i:=2) zFr.nd rfl (Or.inl rfl) (zCz (zAa (zAf h_p_edge_end (hr.mono (by decide)) rfl (zAa (pv 0) (zAa (pv 1) (zAa (zMq zIn zAc) zAd)))) (zAa (zAf h_p_edge_end (hr.mono (by decide)) rfl (zAa (pv 0) (zAa (pv 1) (zAa zAc zAd)))) zAd))))
   (zAi (zAp (zEq (T:=["number"]) (caps:=[("edge", 1),("sides", 0)]) ⟨rfl,by decide +kernel,by decide +kernel,rfl,⟨⟨rfl,rfl,Or.inl rfl⟩,⟨rfl,rfl,Or.inl rfl⟩,True.intro⟩⟩ rfl (zCg (pv 2)) (fun _=>(zAt (i:=0) (show (["number", "edge", "sides"]:List Str).Nodup by decide +kernel) rfl (Or.inl rfl))) (fun _=>(zNn (zAu zIw (pv 0) zB7 (zAy _)))) (fun _=>(zAf h_p_crossing (hr.mono (by decide)) rfl (zAa (pv 1) (zAa (zAn zAj (pv 2) (pv 0) (fun _ _=>rfl)) zAd)))))))),?_⟩
 refine ⟨_,rfl,_,rfl,_,rfl,l,a,ss,e,-1,rfl,hl,ok,hlen,ha,hn,b1,b2,b3,.inr rfl,fun r1 H1 s1 k1=>?_⟩
 refine ⟨_,rfl,_,rfl,l,a,ss,e,1,rfl,s1.seq hl,ok.same s1,hlen,ha.same s1,hn,b1,b2,b3,.inl rfl,fun r2 H2 s2 k2=>?_⟩
 refine ⟨(by show 2≤sizeLine; decide),fun nl hnl=>?_⟩
 have snl:Same H2 (upd H2 nl (.lst [optV r1,optV r2])):=zAe hnl _
 have enl:upd H2 nl (.lst [optV r1,optV r2]) nl = some (.lst [optV r1,optV r2]):=zAb
 generalize upd H2 nl (.lst [optV r1,optV r2]) = H3 at snl enl ⊢
 have s3:=(s1.trans s2).trans snl
 have one:∀ (i:Nat) (v:V),[optV r1,optV r2][i]? = some v→(v = .non∧((i = 0∧zHd ss e (-1) none)∨(i = 1∧zHd ss e 1 none)))∨∃ (j:Nat) (t:Sd) (h:Int),v = .int j∧((i = 0∧h = -1)∨(i = 1∧h = 1))∧h * h = 1∧ss[j]? = some t∧0 < tn e t.2 * h∧∀ u∈ss,0 < tn e u.2 * h→sv u.2 (pt3 (crL e t.2))≤0:=fun i v hv=>by
  match i,hv with
  | 0,hv =>
   cases hv
   cases r1 with
   | none=>exact .inl ⟨rfl,.inl ⟨rfl,k1⟩⟩
   | some j=>obtain ⟨t,g,p,r⟩:=k1; exact .inr ⟨j,t,-1,rfl,.inl ⟨rfl,rfl⟩,rfl,g,p,r⟩
  | 1,hv =>
   cases hv
   cases r2 with
   | none=>exact .inl ⟨rfl,.inr ⟨rfl,k2⟩⟩
   | some j=>obtain ⟨t,g,p,r⟩:=k2; exact .inr ⟨j,t,1,rfl,.inr ⟨rfl,rfl⟩,rfl,g,p,r⟩
 refine ⟨_,rfl,nl,rfl,.inl ⟨⟨_,SqL.of enl⟩,fun c D hD=>zIc (K:=K) (a:=nl) (xs:=[optV r1,optV r2]) (fun i σ ys H'=>Same H3 H'∧H' D = some (.lst ys)∧(∃ qs:List (Addr × P3),ys = zEs qs∧qs.length≤i∧zM2 H' qs∧(∀ q∈qs,∃ (h:Int) (j:Nat) (t:Sd),h * h = 1∧ss[j]? = some t∧0 < tn e t.2 * h∧(∀ u∈ss,0 < tn e u.2 * h→sv u.2 (pt3 (crL e t.2))≤0)∧q.2 = pt3 (crL e t.2)) ∧
   ((0 < i→zI8 ss e (-1) (qs.map (·.2)))∧(1 < i→zI8 ss e 1 (qs.map (·.2)))))∧∃ u0:Option V,σ = [u0,some (.ref a),some (.ref l)])
  ⟨zAe hD _,zAb,⟨[],rfl,Nat.le_refl _,(fun t ht=>nomatch ht),(fun t ht=>nomatch ht),⟨fun z=>absurd z (Nat.not_lt_zero _),fun z=>absurd z (Nat.not_lt_zero _)⟩⟩,none,rfl⟩ (fun i σ ys H' _ ⟨e1,e2,_⟩=>⟨SqL.of (e1 _ _ enl),e2⟩) ?_ ?_⟩⟩
 ·rintro i v σ ys H' hi ⟨sH,eD,⟨qs,rfl,hq,okq,each,non⟩,u0,rfl⟩
  have hi2:i < 2:=(List.getElem?_eq_some_iff.mp hi).1
  rcases one i v hi with ⟨rfl,hcase⟩ | ⟨j,t,h,rfl,hih,hh,gt,hp,hb⟩
  ·refine ⟨_,rfl,rfl,_,rfl,?_⟩
   refine iteF ?_
   refine ⟨sH,eD,⟨qs,rfl,by omega,okq,each,?_⟩,_,rfl⟩
   rcases hcase with ⟨rfl,k⟩ | ⟨rfl,k⟩
   ·exact ⟨fun _=>.inl k,fun z'=>absurd z' (by decide)⟩
   ·exact ⟨fun _=>non.1 (by decide),fun _=>.inl k⟩
  ·refine ⟨_,rfl,rfl,_,rfl,?_⟩
   refine iteT ?_
   have hj:j < ss.length:=(List.getElem?_eq_some_iff.mp gt).1
   obtain ⟨t',mt,gt',at'⟩:=zBf (ss:=ss) (i:=j) (k:=(j:Int)) rfl hj
   rw [gt] at gt'
   cases gt'
   obtain ⟨et0,_,c1,c2,c3⟩:=ok t mt
   have s3H:=s3.trans sH
   refine ⟨_,rfl,_,rfl,_,rfl,l,_,_,_,rfl,rfl,.inl (s3H.seq hl),at',a,t.1,e.1,e.2.1,e.2.2,t.2.1,t.2.2.1,t.2.2.2,rfl,ha.same s3H,.inr (SqT.of (s3H _ _ et0)),by omega,by omega,by omega,by omega,by omega,fun z=>absurd z (zA3 hp),fun _ p H5 s5 hp5 ep5=>?_⟩
   obtain ⟨sp,_,_⟩:=zB0 (zA3 hp)
   have ep5':H5 p = some (.tup [.int (pt3 (crL e t.2)).1,.int (pt3 (crL e t.2)).2.1,.int (pt3 (crL e t.2)).2.2]):=by
    have z:H5 p = some (.tup ((crL e t.2).map V.int)):=ep5
    rw [z,sp.list]
    rfl
   have npD:p≠D:=fun z=>by rw [z,eD] at hp5; cases hp5
   refine ⟨s5 _ _ eD,zA2 (by simp only [List.length_map]; omega),(sH.trans s5).putNew hD,zAb,⟨qs ++ [(p,pt3 (crL e t.2))],by simp [zEs],by rw [List.length_append]; show qs.length + 1≤i + 1; omega,fun u hu=>?_,fun u hu=>?_,?_⟩,_,rfl⟩
   ·rcases List.mem_append.mp hu with hu | hu
    ·obtain ⟨g1,g2⟩:=okq u hu
     exact ⟨by rw [zAs (zI4 (s5 _ _ g1) (s5 _ _ eD) (by intro z; cases z))]; exact s5 _ _ g1,g2⟩
    ·rw [List.mem_singleton] at hu
     subst hu
     refine ⟨?_,sp.pos,sp.low⟩
     show upd H5 D _ p = _
     rw [zAs npD]
     exact ep5'
   ·rcases List.mem_append.mp hu with hu | hu
    ·exact each u hu
    ·rw [List.mem_singleton] at hu
     subst hu
     exact ⟨h,j,t,hh,gt,hp,hb,rfl⟩
   ·have me:zI8 ss e h ((qs ++ [(p,pt3 (crL e t.2))]).map (·.2)):=.inr ⟨j,t,gt,hp,hb,by rw [List.map_append]; exact List.mem_append_right _ (List.mem_singleton.mpr rfl)⟩
    rcases hih with ⟨rfl,rfl⟩ | ⟨rfl,rfl⟩
    ·exact ⟨fun _=>me,fun z'=>absurd z' (by decide)⟩
    ·exact ⟨fun _=>by rw [List.map_append]; exact (non.1 (by decide)).app,fun _=>me⟩
 ·rintro σ ys H' ⟨sH,eD,⟨qs,rfl,hq,okq,each,non⟩,u0,rfl⟩
  have f1:=non.2 (by show 1 < 2; decide)
  have f2:=non.1 (by show 0 < 2; decide)
  refine q D qs H' (s3.trans sH) (s3.free hD) eD okq hq ⟨each,fun z=>?_,f1,f2⟩
  rw [z] at f1 f2
  refine ⟨?_,?_⟩
  ·rcases f1 with f | ⟨_,_,_,_,_,m⟩
   ·exact f
   ·exact nomatch m
  ·rcases f2 with f | ⟨_,_,_,_,_,m⟩
   ·exact f
   ·exact nomatch m
def SpAt (H:Hp) (p:Addr) (P:P3):Prop:=H p = some (.tup [.int P.1,.int P.2.1,.int P.2.2])∧0 < P.2.2∧Nat.gcd (Nat.gcd P.1.natAbs P.2.1.natAbs) P.2.2.natAbs = 1
theorem SpAt.same {H H':Hp} {p:Addr} {P:P3} (h:SpAt H p P) (s:Same H H'):SpAt H' p P:=⟨s _ _ h.1,h.2⟩
def zCl (K:PySem.W.Frag):Sp:=fun vs H Q _=>∃ (l a:Addr) (ss:List Sd) (e:P3),vs = [.ref l,.ref a]∧SqL K H l (zAo ss)∧SdOk H ss∧ss.length≤900∧Sq K H a [.int e.1,.int e.2.1,.int e.2.2]∧(e.1≠0∨e.2.1≠0)∧e.1.natAbs≤10 ^ 9∧e.2.1.natAbs≤10 ^ 9∧e.2.2.natAbs≤10 ^ 13 ∧
 (∀ H',Same H H'→(∀ z:P3,sv e z = 0→0 < z.2.2→¬ inW ss z)→Q .non H') ∧
 ∀ (p:Addr) (P:P3) (H':Hp),Same H H'→SpAt H' p P→inW ss P→sv e P = 0→(P = pt3 (ftL e)∨∃ t∈ss,tn e t.2≠0∧P = pt3 (crL e t.2))→Q (.ref p) H'
theorem zGy (F:Fun K "spot_on_edge" "spot_on_edge" zB3 f fd) (Z:Zs mg) (h_p_edge_ends:Has P w K mg base "edge_ends" 6 ["sides", "edge"] (zDz K)) (h_p_foot:Has P w K mg base "foot" 5 ["side"] (zIp K)) (h_p_in_water:Has P w K mg base "in_water" 3 ["sides", "place"] (zDb K)):FnOk P w K mg base CX0 7 f fd ["sides", "edge"] (zCl K):=by
 refine F.ok zEb (fun vs H Q E h=>?_) (fun cdv A outer s H vs Q E hr h=>?_)
 ·obtain ⟨l,a,ss,e,rfl,_⟩:=h
  rfl
 obtain ⟨l,a,ss,e,rfl,hl,ok,hlen,ha,hn,b1,b2,b3,qn,q⟩:=h
 have hN:=zC2 hn
 refine ⟨_,(zAg (zCk PassesOwn.never rfl (zCg (zAm zL1 (zAf h_p_edge_ends (hr.mono (by decide)) rfl (zAa (pv 0) (zAa (pv 1) zAd))) (zCz (zAa (zAf h_p_foot (hr.mono (by decide)) rfl (zAa (pv 1) zAd)) zAd)))) (zAt (i:=2) zEb.nd rfl (Or.inl rfl)) (zAi (zBj (zEv (zAf h_p_in_water (hr.mono (by decide)) rfl (zAa (pv 0) (zAa (pv 2) zAd)))) (zAi (zAp (pv 2))) zAx)))
   (zAi (zAp zB7))),?_⟩
 refine ⟨_,rfl,_,rfl,l,a,ss,e,rfl,hl,ok,by omega,ha,hn,b1,b2,b3,fun D qs H1 s1 hD eD okq hq ends=>?_⟩
 refine ⟨_,rfl,a,e,rfl,ha.same s1,hn,b1,b2,fun fp H2 s2 hfp efp=>?_⟩
 obtain ⟨sf,f1⟩:=zUp hn
 have efp':H2 fp = some (.tup [.int (pt3 (ftL e)).1,.int (pt3 (ftL e)).2.1,.int (pt3 (ftL e)).2.2]):=by
  rw [efp,sf.list]
  rfl
 refine ⟨(by show 1≤sizeLine; decide),fun fl hfl=>?_⟩
 have sfl:Same H2 (upd H2 fl (.lst [.ref fp])):=zAe hfl _
 have efl:upd H2 fl (.lst [.ref fp]) fl = some (.lst [.ref fp]):=zAb
 generalize upd H2 fl (.lst [.ref fp]) = H3 at sfl efl ⊢
 refine ⟨D,fl,_,_,rfl,rfl,sfl _ _ (s2 _ _ eD),efl,small (by simp only [List.length_map]; show qs.length + 1≤1000; omega),fun L hL=>?_⟩
 have sL:Same H3 (upd H3 L (.lst (zEs qs ++ [.ref fp]))):=zAe hL _
 have eL:upd H3 L (.lst (zEs qs ++ [.ref fp])) L = some (.lst (zEs (qs ++ [(fp,pt3 (ftL e))]))):=by rw [zAb]; simp [zEs]
 generalize upd H3 L (.lst (zEs qs ++ [.ref fp])) = H4 at sL eL ⊢
 have s24:=sfl.trans sL
 have s14:=s2.trans s24
 have s04:=s1.trans s14
 have okA:zM2 H4 (qs ++ [(fp,pt3 (ftL e))]):=fun u hu=>by
  rcases List.mem_append.mp hu with hu | hu
  ·exact okq.same s14 u hu
  ·rw [List.mem_singleton] at hu
   subst hu
   exact ⟨s24 _ _ efp',sf.pos,sf.low⟩
 refine ⟨L,rfl,.inl ⟨⟨_,SqL.of eL⟩,zCd (K:=K) (a:=L) (xs:=zEs (qs ++ [(fp,pt3 (ftL e))])) (fun i σ H'=>H4 = H'∧(∀ j u,j < i→(qs ++ [(fp,pt3 (ftL e))])[j]? = some u→¬ inW ss u.2)∧∃ u2:Option V,σ = [some (.ref l),some (.ref a),u2])
  ⟨rfl,fun j t hj=>absurd hj (Nat.not_lt_zero _),none,rfl⟩ (fun i σ H' _ ⟨e1,_⟩=>by rw [← e1]; exact SqL.of eL) ?_ ?_⟩⟩
 ·rintro i v σ H' hi ⟨rfl,hall,u2,rfl⟩
  rw [List.getElem?_map,List.getElem?_map] at hi
  cases gu:(qs ++ [(fp,pt3 (ftL e))])[i]? with
  | none=>rw [gu] at hi; cases hi
  | some u =>
   rw [gu] at hi
   cases hi
   obtain ⟨eu,pu,lu⟩:=okA u (List.mem_of_getElem? gu)
   refine ⟨_,rfl,_,rfl,l,u.1,ss,u.2,rfl,s04.seq hl,ok.same s04,.inr (SqT.of eu),_,rfl,?_⟩
   by_cases hw:inWB ss u.2 = true
   ·rw [hw]
    refine iteT ?_
    have on:sv e u.2 = 0∧(u.2 = pt3 (ftL e)∨∃ t∈ss,tn e t.2≠0∧u.2 = pt3 (crL e t.2)):=by
     rcases List.mem_append.mp (List.mem_of_getElem? gu) with hu | hu
     ·obtain ⟨h,j,t,_,gt,hp,_,eq⟩:=ends.each u hu
      rw [eq]
      exact ⟨(zB0 (zA3 hp)).2.1,.inr ⟨t,List.mem_of_getElem? gt,zA3 hp,rfl⟩⟩
     ·rw [List.mem_singleton] at hu
      rw [hu]
      exact ⟨f1,.inl rfl⟩
    exact ⟨_,rfl,q u.1 u.2 _ s04 ⟨eu,pu,lu⟩ (zEd.mp hw) on.1 on.2⟩
   ·have hw':inWB ss u.2 = false:=by simpa using hw
    rw [hw']
    refine iteF ?_
    refine ⟨rfl,fun j t hj ht=>?_,_,rfl⟩
    by_cases ej:j = i
    ·rw [ej,gu] at ht
     cases ht
     exact fun z=>hw (zEd.mpr z)
    ·exact hall j t (by omega) ht
 ·rintro σ H' ⟨rfl,hall,u2,rfl⟩
  refine qn _ s04 fun z hz zw wz=>?_
  have nin:∀ u∈qs ++ [(fp,pt3 (ftL e))],¬ inW ss u.2:=fun u hu=>by
   obtain ⟨j,hj,ej⟩:=List.getElem_of_mem hu
   exact hall j u (by simp only [List.length_map]; exact hj) (by rw [List.getElem?_eq_getElem hj,ej])
  cases qs with
  | nil =>
   obtain ⟨n1,n2⟩:=ends.none rfl
   exact nin (fp,pt3 (ftL e)) (by simp) (zPx hN hz zw wz f1 sf.pos n1 n2)
  | cons u us =>
   obtain ⟨h,j,t,hh,gt,hp,hb,eq⟩:=ends.each u (List.mem_cons_self ..)
   refine nin u (by simp) ?_
   rw [eq]
   exact zJc hh hN hz zw wz gt hp hb
theorem zMz (ss:List Sd) (n:Nat):cutV (zAo ss) none (some (n:Int)) = zAo (ss.take n):=by
 unfold cutV
 rw [show HT.sIx (zAo ss).length 0 none = 0 from rfl,HT.sIx_nat (zAo ss).length (zAo ss).length n,List.drop_zero,Nat.sub_zero]
 rw [zAk]
 simp only [zAo,← List.map_take]
 congr 2
 rw [List.take_eq_take_iff]
 omega
def zFw (K:PySem.W.Frag):Sp:=fun vs H Q _=>∃ (l:Addr) (ss:List Sd),vs = [.ref l]∧SqL K H l (zAo ss)∧SdOk H ss∧ss.length≤900 ∧
 (∀ (t:Addr) (j:Nat) (e:Sd) (P:P3) (H':Hp),Same H H'→H' t = some (.tup [.non,.int j])→zSb ss j e P→Q (.ref t) H') ∧
 ∀ (t p:Addr) (P:P3) (H':Hp),Same H H'→H' t = some (.tup [.ref p,.non])→SpAt H' p P→inW ss P→Cand ss P→Q (.ref t) H'
theorem zMc (F:Fun K "sought" "sought" zFk f fd) (Z:Zs mg) (h_p_holds:Has P w K mg base "holds" 2 ["side", "spot"] (zD1 K)) (h_p_spot_on_edge:Has P w K mg base "spot_on_edge" 7 ["sides", "edge"] (zCl K)) (h_p_spot:Has P w K mg base "spot" 4 ["x", "y", "w"] (zIt K)):FnOk P w K mg base CX0 8 f fd ["sides"] (zFw K):=by
 refine F.ok zEf (fun vs H Q E h=>?_) (fun cdv A outer s H vs Q E hr h=>?_)
 ·obtain ⟨l,ss,rfl,_⟩:=h
  rfl
 obtain ⟨l,ss,rfl,hl,ok,hlen,qn,q⟩:=h
 refine ⟨_,(zAg (zAr (i:=1) zEf.nd rfl (Or.inl rfl) (zAf h_p_spot (hr.mono (by decide)) rfl (zAa zAc (zAa zAc (zAa zAc zAd)))))
   (zAg (zCk PassesOwn.never rfl (zDj rfl Z.range (zAa (zAw zA1 rfl Z.len zDt (zAa (pv 0) zAd)) zAd)) (zAt (i:=2) zEf.nd rfl (Or.inl rfl)) (zAi (zBj (zJw (zEv (zAf h_p_holds (hr.mono (by decide)) rfl (zAa (zAn zAj (pv 0) (pv 2) (fun _ _=>rfl)) (zAa (pv 1) zAd))))) (zAg (zAr (i:=1) zEf.nd rfl (Or.inl rfl) (zAf h_p_spot_on_edge (hr.mono (by decide)) rfl (zAa (zBp zC0 (pv 0) zCf (zCi (pv 2))) (zAa (zAn zAj (pv 0) (pv 2) (fun _ _=>rfl)) zAd))))
   (zAi (zBj (zAu zM8 (pv 1) zB7 (zAy _)) (zAi (zAp (zBe (zAa zB7 (zAa (pv 2) zAd))))) zAx))) zAx)))
   (zAi (zAp (zBe (zAa (pv 1) (zAa zB7 zAd))))))),?_⟩
 refine ⟨0,0,1,rfl,by decide,by decide +kernel,fun p0 H1 s1 hp0 ep0=>?_⟩
 have ep0':SpAt H1 p0 (0,0,1):=⟨ep0,by decide,by decide⟩
 refine ⟨_,rfl,l,_,rfl,.inl (s1.seq hl),_,rfl,(by rw [zAk]; omega),(by rw [zAk]; omega),zD6 (lo:=0) (n:=(((zAo ss).length:Nat):Int).toNat) (fun i σ H'=>Same H H'∧∃ (p:Addr) (P:P3) (u2:Option V),SpAt H' p P∧inW (ss.take i) P∧Cand ss P∧σ = [some (.ref l),some (.ref p),u2])
  ⟨s1,p0,(0,0,1),none,ep0',(fun t ht=>nomatch ht),.inl rfl,rfl⟩ ?_ ?_⟩
 ·rintro i σ H' hi ⟨sH,p,P,u2,ep,wp,cp,rfl⟩
  have hil:i < ss.length:=by rw [Int.toNat_natCast,zAk] at hi; exact hi
  obtain ⟨t,mt,gt,at'⟩:=zBf (ss:=ss) (i:=i) (k:=0 + (i:Int)) (by omega) hil
  obtain ⟨et0,nt,c1,c2,c3⟩:=ok t mt
  have et:Sq K H' t.1 [.int t.2.1,.int t.2.2.1,.int t.2.2.2]:=.inr (SqT.of (sH _ _ et0))
  refine ⟨_,rfl,_,rfl,l,_,_,_,rfl,rfl,.inl (sH.seq hl),at',_,rfl,t.1,p,t.2.1,t.2.2.1,t.2.2.2,P.1,P.2.1,P.2.2,rfl,et,.inr (SqT.of ep.1),by omega,by omega,by omega,_,rfl,?_⟩
  refine ifN (fun hout=>?_) (fun hin=>?_)
  ·have hout':0 < sv t.2 P:=by
    have:¬ sv t.2 P≤0:=hout
    omega
   refine ⟨_,rfl,_,rfl,_,rfl,l,_,rfl,sH.seq hl,fun c hc=>?_⟩
   rw [show (0:Int) + (i:Int) = ((i:Nat):Int) from Int.zero_add _,zMz]
   have sc:=zAe hc (.lst (zAo (ss.take i)))
   have ec:upd H' c (.lst (zAo (ss.take i))) c = some (.lst (zAo (ss.take i))):=zAb
   generalize upd H' c (.lst (zAo (ss.take i))) = H2 at sc ec ⊢
   have sH2:=sH.trans sc
   rw [show (0:Int) + (i:Int) = ((i:Nat):Int) from Int.zero_add _] at at'
   refine ⟨_,rfl,_,rfl,l,_,_,_,rfl,rfl,.inl (sH2.seq hl),at',c,t.1,ss.take i,t.2,rfl,SqL.of ec,(fun u hu=>ok.same sH2 u (List.mem_of_mem_take hu)),by rw [List.length_take]; omega,et.same sc,nt,c1,c2,c3,fun H3 s3 no=>?_,fun p3 P3' H3 s3 ep3 wp3 on3 cd3=>?_⟩
   ·refine ⟨_,rfl,rfl,_,rfl,?_⟩
    refine iteT ?_
    refine ⟨_,rfl,(by show 2≤sizeLine; decide),fun tt htt=>?_⟩
    exact qn tt i t P _ ((sH2.trans s3).trans (zAe htt _)) zAb ⟨gt,ep.2.1,wp,hout',no⟩
   ·refine ⟨_,rfl,rfl,_,rfl,?_⟩
    refine iteF ?_
    refine ⟨sH2.trans s3,p3,P3',_,ep3,fun u hu=>?_,?_,rfl⟩
    ·rw [zBi gt] at hu
     rcases List.mem_append.mp hu with hu | hu
     ·exact wp3 u hu
     ·rw [List.mem_singleton] at hu
      rw [hu,on3]
      exact Int.le_refl _
    ·rcases cd3 with h | ⟨u,hu,ht,h⟩
     ·exact .inr (.inl ⟨t,mt,h⟩)
     ·exact .inr (.inr ⟨t,mt,u,List.mem_of_mem_take hu,ht,h⟩)
  ·refine ⟨sH,p,P,_,ep,fun u hu=>?_,cp,rfl⟩
   rw [zBi gt] at hu
   rcases List.mem_append.mp hu with hu | hu
   ·exact wp u hu
   ·rw [List.mem_singleton] at hu
    rw [hu]
    exact hin
 ·rintro σ H' ⟨sH,p,P,u2,ep,wp,cp,rfl⟩
  rw [Int.toNat_natCast,zAk,List.take_length] at wp
  refine ⟨_,rfl,(by show 2≤sizeLine; decide),fun tt htt=>?_⟩
  have st:=zAe htt (.tup [.ref p,.non])
  exact q tt p P _ (sH.trans st) zAb (ep.same st) wp cp
def zDy (K:PySem.W.Frag):Sp:=fun vs H Q _=>∃ (l:Addr) (ss:List Sd),vs = [.ref l]∧SqL K H l (zAo ss)∧SdOk H ss∧ss.length≤900 ∧
 (∀ H':Hp,Same H H'→(∀ z:P3,0 < z.2.2→¬ inW ss z)→Q .non H') ∧
 ∀ (p:Addr) (P:P3) (H':Hp),Same H H'→SpAt H' p P→inW ss P→Cand ss P→Q (.ref p) H'
theorem zI6 (F:Fun K "some_spot" "some_spot" zC3 f fd) (Z:Zs mg) (h_p_sought:Has P w K mg base "sought" 8 ["sides"] (zFw K)):FnOk P w K mg base CX0 9 f fd ["sides"] (zDy K):=by
 refine F.ok zJa (fun vs H Q E h=>?_) (fun cdv A outer s H vs Q E hr h=>?_)
 ·obtain ⟨l,ss,rfl,_⟩:=h
  rfl
 obtain ⟨l,ss,rfl,hl,ok,hlen,qn,q⟩:=h
 refine ⟨_,(zAi (zAp (zAn zAj (zAf h_p_sought (hr.mono (by decide)) rfl (zAa (pv 0) zAd)) zAc (fun _ _=>rfl)))),?_⟩
 refine ⟨_,rfl,l,ss,rfl,hl,ok,hlen,fun t j e P H' sH et st=>?_,fun t p P H' sH et ep wp cp=>?_⟩
 ·exact ⟨t,_,_,.non,rfl,rfl,.inr (SqT.of et),rfl,qn H' sH st.none⟩
 ·exact ⟨t,_,_,.ref p,rfl,rfl,.inr (SqT.of et),rfl,q p P H' sH ep wp cp⟩
def sdN (p:Addr) (P:P3):SpT:=(p,P.1,P.2.1,P.2.2)
structure CoK (ss:List Sd) (n:Nat) (ks:List (List Int)):Prop where
 each:∀ k∈ks,∃ P:P3,Cor ss P∧k = [P.1,P.2.1,P.2.2]
 all:∀ (a:Nat) (t:Sd),a < n→ss[a]? = some t→∀ u∈ss,tn t.2 u.2≠0→inW ss (pt3 (crL t.2 u.2))→crL t.2 u.2∈ks
structure zQy (H:Hp) (D:Addr) (ss:List Sd) (ps:List SpT):Prop where
 at':H D = some (.lst (zAv ps))
 ok:∀ t∈ps,SpOk H t∧0 < t.2.2.2∧Nat.gcd (Nat.gcd t.2.1.natAbs t.2.2.1.natAbs) t.2.2.2.natAbs = 1
 nodup:(ps.map (·.2)).Nodup
 mem:∀ P:P3,P∈ps.map (·.2)↔Cor ss P
 rises:ps.Pairwise leS
 few:ps.length≤ss.length
theorem zTu {ss:List Sd} {P:P3} (c:Cor ss P):0 < P.2.2∧Nat.gcd (Nat.gcd P.1.natAbs P.2.1.natAbs) P.2.2.natAbs = 1:=by
 obtain ⟨t,_,u,_,h,rfl,_⟩:=c
 obtain ⟨sp,_,_⟩:=zB0 h
 exact ⟨sp.pos,sp.low⟩
theorem zTv {ss:List Sd} (hn:∀ t∈ss,t.2.1≠0∨t.2.2.1≠0) {ks:List P3} (nd:ks.Nodup) (hk:∀ P∈ks,Cor ss P):ks.length≤ss.length:=by
 have ex:∀ e:Sd,∃ q:P3,e∈ss→∀ u∈ss,0 < tn e.2 u.2 * 1→inW ss (pt3 (crL e.2 u.2))→pt3 (crL e.2 u.2) = q:=fun e=>by
  by_cases h:∃ u∈ss,0 < tn e.2 u.2 * 1∧inW ss (pt3 (crL e.2 u.2))
  ·obtain ⟨u,hu,hp,hw⟩:=h
   refine ⟨pt3 (crL e.2 u.2),fun he v hv hq hx=>?_⟩
   have hN:=zC2 (hn e he)
   obtain ⟨s1,o1,o2⟩:=zB0 (zA3 hq)
   obtain ⟨s2,r1,r2⟩:=zB0 (zA3 hp)
   have d1:=zLa (h:=1) (by decide) hN o1 r1 s1.pos o2 (hw v hv) hq
   have d2:=zLa (h:=1) (by decide) hN r1 o1 s2.pos r2 (hx u hu) hp
   rw [zIh] at d2
   obtain ⟨x1,x2⟩:=zJu hN o1 r1 (by omega)
   exact zCw s1.pos s2.pos s1.low s2.low x1 x2
  ·exact ⟨(0,0,1),fun _ v hv hq hx=>absurd ⟨v,hv,hq,hx⟩ h⟩
 have fn:∃ g:Sd→P3,∀ e∈ss,∀ u∈ss,0 < tn e.2 u.2 * 1→inW ss (pt3 (crL e.2 u.2))→pt3 (crL e.2 u.2) = g e:=⟨fun e=>Classical.choose (ex e),fun e he=>Classical.choose_spec (ex e) he⟩
 obtain ⟨g,hg⟩:=fn
 have z:=zKs (ys:=ss.map g) nd fun P hP=>by
  obtain ⟨t,ht,u,hu,h0,rfl,hw⟩:=hk P hP
  by_cases c:0 < tn t.2 u.2
  ·rw [hg t ht u hu (by omega) hw]
   exact List.mem_map_of_mem ht
  ·have hut:0 < tn u.2 t.2 * 1:=by
    unfold tn at c h0 ⊢
    rw [Int.mul_comm u.2.1,Int.mul_comm u.2.2.1]
    omega
   rw [zTy h0] at hw ⊢
   rw [hg u hu t ht hut hw]
   exact List.mem_map_of_mem hu
 rwa [List.length_map] at z
theorem key3 {P Q:P3} (h:[P.1,P.2.1,P.2.2] = [Q.1,Q.2.1,Q.2.2]):P = Q:=by
 injection h with h1 h
 injection h with h2 h
 injection h with h3 _
 exact Prod.ext h1 (Prod.ext h2 h3)
theorem cor_cr {ss:List Sd} {t u:Sd} (h:tn t.2 u.2≠0):crL t.2 u.2 = [(pt3 (crL t.2 u.2)).1,(pt3 (crL t.2 u.2)).2.1,(pt3 (crL t.2 u.2)).2.2]:=(zB0 h).1.list
def zE3 (K:PySem.W.Frag):Sp:=fun vs H Q _=>∃ (l:Addr) (ss:List Sd),vs = [.ref l]∧SqL K H l (zAo ss)∧SdOk H ss∧ss.length≤63 ∧
 ∀ (D:Addr) (ps:List SpT) (H':Hp),Same H H'→H D = none→zQy H' D ss ps→Q (.ref D) H'
theorem zLn (F:Fun K "corners" "corners" zEj f fd) (Z:Zs mg) (h_p_in_order:Has P w K mg base "in_order" 15 ["spots"] (zGn K)) (h_p_edge_ends:Has P w K mg base "edge_ends" 6 ["sides", "edge"] (zDz K)) (h_p_in_water:Has P w K mg base "in_water" 3 ["sides", "place"] (zDb K)):FnOk P w K mg base CX0 16 f fd ["sides"] (zE3 K):=by
 refine F.ok zDo (fun vs H Q E h=>?_) (fun cdv A outer s H vs Q E hr h=>?_)
 ·obtain ⟨l,ss,rfl,_⟩:=h
  rfl
 obtain ⟨l,ss,rfl,hl,ok,hlen,q⟩:=h
 have hu1:=Nat.lt_of_le_of_lt (Nat.add_le_add_left (show 1≤64 by decide) _) hr.units
 have big:∀ n:Nat,n≤1000000→n < sizeLine:=fun n hn=>Nat.lt_of_le_of_lt hn (by decide)
 refine ⟨_,(zAg (zAr (i:=1) zDo.nd rfl (Or.inl rfl) zNc)
   (zAg (zCk PassesOwn.never rfl (zCg (pv 0)) (zAt (i:=2) zDo.nd rfl (Or.inl rfl)) (zAi (zCk PassesOwn.never rfl (zCg (zAf h_p_edge_ends (hr.mono (by decide)) rfl (zAa (pv 0) (zAa (pv 2) zAd)))) (zAt (i:=3) zDo.nd rfl (Or.inl rfl)) (zAi (zBj (zEv (zAf h_p_in_water (hr.mono (by decide)) rfl (zAa (pv 0) (zAa (pv 3) zAd)))) (zAi (zRb hu1 (pv 1) (pv 3) zGz rfl)) zAx)))))
   (zAi (zAp (zAf h_p_in_order (hr.mono (by decide)) rfl (zAa (zCb (zG9 rfl) rfl Z.list zE6 (zAa (pv 1) zAd)) zAd)))))),?_⟩
 refine fun d hd=>?_
 refine ⟨_,rfl,l,rfl,.inl ⟨⟨_,(zAe hd _).seq hl⟩,zCd (K:=K) (a:=l) (xs:=zAo ss) (fun i σ H'=>Same H H'∧(∃ kvs ks,H' d = some (.dT kvs)∧TabK kvs ks∧ks.length≤2 * i∧CoK ss i ks)∧∃ u2 u3:Option V,σ = [some (.ref l),some (.ref d),u2,u3])
  ⟨zAe hd _,⟨[],[],zAb,.nil,Nat.le_refl _,(fun k hk=>nomatch hk),fun a t ha=>absurd ha (Nat.not_lt_zero _)⟩,none,none,rfl⟩ (fun i σ H' _ ⟨e,_⟩=>e.seq hl) ?_ ?_⟩⟩
 ·rintro i v σ H' hi ⟨sH,⟨kvs,ks,eD,tk,hks,ck⟩,u2,u3,rfl⟩
  obtain ⟨t,gt,rfl,hil⟩:=zBt hi
  obtain ⟨et0,nt,b1,b2,b3⟩:=ok t (List.mem_of_getElem? gt)
  have hN:=zC2 (t:=t.2) nt
  refine ⟨_,rfl,_,rfl,l,t.1,ss,t.2,rfl,sH.seq hl,ok.same sH,by omega,.inr (SqT.of (sH _ _ et0)),nt,b1,b2,b3,fun L qs H2 s2 hL eL okq hq ends=>?_⟩
  have eD2:=s2 _ _ eD
  have nLd:L≠d:=fun z=>by rw [z] at eL; rw [eL] at eD2; cases eD2
  refine ⟨L,rfl,.inl ⟨⟨_,SqL.of eL⟩,zCd (K:=K) (a:=L) (xs:=zEs qs) (fun j σ H'=>Same H H'∧H' L = some (.lst (zEs qs))∧zM2 H' qs∧(∃ kvs ks,H' d = some (.dT kvs)∧TabK kvs ks∧ks.length≤2 * i + j∧CoK ss i ks∧∀ m x,m < j→qs[m]? = some x→inW ss x.2→[x.2.1,x.2.2.1,x.2.2.2]∈ks)∧∃ u3:Option V,σ = [some (.ref l),some (.ref d),some (.ref t.1),u3])
   ⟨sH.trans s2,eL,okq,⟨kvs,ks,eD2,tk,by omega,ck,fun m x hm=>absurd hm (Nat.not_lt_zero _)⟩,_,rfl⟩ (fun j σ H' _ ⟨_,e,_⟩=>SqL.of e) ?_ ?_⟩⟩
  ·rintro j v σ H4 hj ⟨s4,eL4,ok4,⟨kvs,ks,eD4,tk,hks4,ck,done⟩,u3,rfl⟩
   rw [List.getElem?_map,List.getElem?_map] at hj
   cases gx:qs[j]? with
   | none=>rw [gx] at hj; cases hj
   | some x =>
    rw [gx] at hj
    cases hj
    have hj2:j < qs.length:=(List.getElem?_eq_some_iff.mp gx).1
    obtain ⟨ex,px,lx⟩:=ok4 x (List.mem_of_getElem? gx)
    refine ⟨_,rfl,_,rfl,l,x.1,ss,x.2,rfl,s4.seq hl,ok.same s4,.inr (SqT.of ex),_,rfl,?_⟩
    by_cases hw:inWB ss x.2 = true
    ·rw [hw]
     refine iteT ?_
     obtain ⟨ks',tk',mem',len'⟩:=tk.put [x.2.1,x.2.2.1,x.2.2.2] (.bl true)
     have kl:=tk.len
     refine ⟨_,rfl,_,rfl,d,_,rfl,DPut.t (k:=keyI [x.2.1,x.2.2.1,x.2.2.2]) eD4 (by rw [zIs]; exact ex) (by rw [kl]; exact big _ (by omega)),?_⟩
     have keepT:∀ (b:Addr) (xs:List V),H4 b = some (.tup xs)→upd H4 d (.dT (putK kvs (keyI [x.2.1,x.2.2.1,x.2.2.2]) (.bl true))) b = some (.tup xs):=fun b xs e=>by
      rw [zAs (zI4 e eD4 (by intro z; cases z))]
      exact e
     refine ⟨s4.putNew hd,by rw [zAs nLd]; exact eL4,fun y hy=>⟨keepT _ _ (ok4 y hy).1,(ok4 y hy).2⟩,⟨_,ks',zAb,tk',by omega,⟨fun k hk=>?_,fun a t' ha gt' u hu htu hwu=>(mem' _).mpr (.inl (ck.all a t' ha gt' u hu htu hwu))⟩,fun m y hm gy hwy=>?_⟩,_,rfl⟩
     ·rcases (mem' k).mp hk with h | h
      ·exact ck.each k h
      ·obtain ⟨hh,j',t',_,gt',hp,_,eq⟩:=ends.each x (List.mem_of_getElem? gx)
       refine ⟨x.2,⟨t,List.mem_of_getElem? gt,t',List.mem_of_getElem? gt',zA3 hp,eq,zEd.mp hw⟩,h⟩
     ·by_cases e:m = j
      ·rw [e,gx] at gy
       cases gy
       exact (mem' _).mpr (.inr rfl)
      ·exact (mem' _).mpr (.inl (done m y (by omega) gy hwy))
    ·have hw':inWB ss x.2 = false:=by simpa using hw
     rw [hw']
     refine iteF ?_
     refine ⟨s4,eL4,ok4,⟨kvs,ks,eD4,tk,by omega,ck,fun m y hm gy hwy=>?_⟩,_,rfl⟩
     by_cases e:m = j
     ·rw [e,gx] at gy
      cases gy
      exact absurd (zEd.mpr hwy) hw
     ·exact done m y (by omega) gy hwy
  ·rintro σ H4 ⟨s4,eL4,ok4,⟨kvs,ks,eD4,tk,hks4,ck,done⟩,u3,rfl⟩
   have hq2:(zEs qs).length = qs.length:=by simp
   rw [hq2] at hks4 done
   refine ⟨s4,⟨kvs,ks,eD4,tk,by omega,ck.each,fun a t' ha gt' u hu htu hwu=>?_⟩,_,_,rfl⟩
   by_cases e:a = i
   ·rw [e,gt] at gt'
    cases gt'
    obtain ⟨k,hk1,hkk,hpos⟩:=zUf htu
    have f:zI8 ss t.2 k (qs.map (·.2)):=by
     rcases hk1 with rfl | rfl
     ·exact ends.full.1
     ·exact ends.full.2
    have m:=zUm hkk hN hu hpos hwu f
    obtain ⟨y,hy,ey⟩:=List.mem_map.mp m
    obtain ⟨b,hb,eb⟩:=List.getElem_of_mem hy
    have z:=done b y hb (by rw [List.getElem?_eq_getElem hb,eb]) (by rw [ey]; exact hwu)
    rw [ey] at z
    rw [cor_cr (ss:=ss) htu]
    exact z
   ·exact ck.all a t' (by omega) gt' u hu htu hwu
 ·rintro σ H' ⟨sH,⟨kvs,ks,eD,tk,hks,ck⟩,u2,u3,rfl⟩
  rw [zAk] at hks ck
  refine ⟨_,rfl,d,kvs,rfl,eD,fun p1 ts hp1 ets hts=>?_⟩
  have sp1:Same H' (upd H' p1 (.lst ((ts.map (·.1)).map V.ref))):=zAe hp1 _
  have ep1:upd H' p1 (.lst ((ts.map (·.1)).map V.ref)) p1 = some (.lst ((ts.map (·.1)).map V.ref)):=zAb
  obtain ⟨us,w1,w2,w3⟩:=tk.refs ets hts
  have w3':∀ u∈us,upd H' p1 (.lst ((ts.map (·.1)).map V.ref)) u.1 = some (.tup (u.2.map V.int)):=fun u hu=>sp1 _ _ (w3 u hu)
  generalize upd H' p1 (.lst ((ts.map (·.1)).map V.ref)) = H2 at sp1 ep1 w3' ⊢
  let xs:List SpT:=us.map fun u=>(u.1,pt3 u.2)
  have xk:xs.map (·.2) = ks.map pt3:=by
   show (us.map fun u=>((u.1,pt3 u.2):SpT)).map (·.2) = _
   rw [← w2,List.map_map,List.map_map]
   rfl
  have xr:zAv xs = (ts.map (·.1)).map V.ref:=by
   show (us.map fun u=>((u.1,pt3 u.2):SpT)).map (fun t=>V.ref t.1) = _
   rw [← w1,List.map_map,List.map_map]
   rfl
  have xl:xs.length = ks.length:=by
   have z:=congrArg List.length w2
   rw [List.length_map] at z
   show (us.map fun u=>((u.1,pt3 u.2):SpT)).length = _
   rw [List.length_map]
   exact z
  have kc:∀ P∈ks.map pt3,Cor ss P:=fun P hP=>by
   obtain ⟨k,hk,rfl⟩:=List.mem_map.mp hP
   obtain ⟨P,cP,rfl⟩:=ck.each k hk
   exact cP
  have knd:(ks.map pt3).Nodup:=by
   rw [List.Nodup,List.pairwise_map]
   refine List.Pairwise.imp_of_mem (fun {k k'} hk hk' hne e=>?_) tk.nodup
   obtain ⟨P,cP,rfl⟩:=ck.each k hk
   obtain ⟨P',cP',rfl⟩:=ck.each k' hk'
   have e':P = P':=e
   exact hne (by rw [e'])
  have few:=zTv (fun t ht=>(ok t ht).2.1) knd kc
  rw [List.length_map] at few
  have okx:∀ t∈xs,SpOk H2 t∧0 < t.2.2.2∧Nat.gcd (Nat.gcd t.2.1.natAbs t.2.2.1.natAbs) t.2.2.2.natAbs = 1:=fun t ht=>by
   obtain ⟨u,hu,rfl⟩:=List.mem_map.mp ht
   have huk:u.2∈ks:=by rw [← w2]; exact List.mem_map_of_mem hu
   obtain ⟨P,cP,eP⟩:=ck.each u.2 huk
   have e0:=w3' u hu
   have lw:=zTu cP
   obtain ⟨a,ha,b,hb,hab,rfl,_⟩:=cP
   obtain ⟨_,_,x1,x2,x3⟩:=ok a ha
   obtain ⟨_,_,y1,y2,y3⟩:=ok b hb
   obtain ⟨z1,z2,z3⟩:=zNg hab x1 x2 x3 y1 y2 y3
   rw [eP] at e0
   have e1:pt3 u.2 = pt3 (crL a.2 b.2):=by rw [eP]; rfl
   refine ⟨⟨?_,?_⟩,?_⟩
   ·show H2 u.1 = some (.tup [.int (pt3 u.2).1,.int (pt3 u.2).2.1,.int (pt3 u.2).2.2])
    rw [e1]
    exact e0
   ·show (pt3 u.2).1.natAbs≤10 ^ 100∧(pt3 u.2).2.1.natAbs≤10 ^ 100∧(pt3 u.2).2.2.natAbs≤10 ^ 100
    rw [e1]
    exact ⟨zT0 z1,zT0 z2,zT0 z3⟩
   ·show 0 < (pt3 u.2).2.2∧Nat.gcd (Nat.gcd (pt3 u.2).1.natAbs (pt3 u.2).2.1.natAbs) (pt3 u.2).2.2.natAbs = 1
    rw [e1]
    exact lw
  refine ⟨p1,xs,rfl,by rw [xr]; exact SqL.of ep1,fun t ht=>(okx t ht).1,Nat.le_trans (show xs.length≤63 by omega) (by decide),by omega,fun D H3 s3 hD eD3=>?_⟩
  have pm:=zCn 12 xs
  have pm2:((zFp 12 xs).map (·.2)).Perm (ks.map pt3):=by rw [← xk]; exact pm.map _
  refine q D (zFp 12 xs) H3 ((sH.trans sp1).trans s3) ((sH.trans sp1).free hD) ⟨eD3,fun t ht=>?_,pm2.nodup_iff.mpr knd,fun P=>?_,zGw 12 xs (Nat.le_trans (show xs.length≤63 by omega) (by decide)) fun t ht=>(okx t ht).2.1,?_⟩
  ·obtain ⟨h1,h2⟩:=okx t (pm.mem_iff.mp ht)
   exact ⟨h1.same s3,h2⟩
  ·rw [pm2.mem_iff]
   refine ⟨kc P,fun cP=>?_⟩
   obtain ⟨t,ht,u,hu,htu,rfl,hw⟩:=cP
   obtain ⟨a,ha,ea⟩:=List.getElem_of_mem ht
   exact List.mem_map_of_mem (ck.all a t ha (by rw [List.getElem?_eq_getElem ha,ea]) u hu htu hw)
  ·rw [pm.length_eq,xl]
   exact few
theorem cB3 {i j:Int} (hi:i.natAbs≤10 ^ 401) (hj:j.natAbs≤10 ^ 401):zKl i j:=⟨Nat.lt_of_le_of_lt hi (by decide +kernel),Nat.lt_of_le_of_lt hj (by decide +kernel)⟩
theorem zQv {a b c d:Int} {m:Nat} (h1:a.natAbs≤m) (h2:b.natAbs≤m) (h3:c.natAbs≤m) (h4:d.natAbs≤m):(a * b - c * d).natAbs≤2 * (m * m):=by
 have z1:=zAh a b h1 h2
 have z2:=zAh c d h3 h4
 omega
theorem zS2:2 * (10 ^ 100 * 10 ^ 100)≤10 ^ 201:=by decide +kernel
def zFv (K:PySem.W.Frag):Sp:=fun vs H Q _=>∃ (s t:SpT),vs = [.ref s.1,.ref t.1]∧SpOk H s∧SpOk H t∧((wy s.2 t.2).1.natAbs≤10 ^ 201→(wy s.2 t.2).2.natAbs≤10 ^ 201→∀ p,H p = none→Q (.ref p) (upd H p (.tup [.int (wy s.2 t.2).1,.int (wy s.2 t.2).2])))
theorem zM3 (F:Fun K "way_to" "way_to" zFm f fd) (Z:Zs mg)  : FnOk P w K mg base CX0 1 f fd ["start", "end"] (zFv K):=by
 refine F.ok zL9 (fun vs H Q E h=>?_) (fun cdv A outer s H vs Q E hr h=>?_)
 ·obtain ⟨s,t,rfl,_⟩:=h
  rfl
 obtain ⟨⟨a,x1,y1,w1⟩,⟨b,x2,y2,w2⟩,rfl,⟨ha,a1,a2,a3⟩,⟨hb,b1,b2,b3⟩,q⟩:=h
 refine ⟨_,(zAi (zAp (zBe (zAa (zAm zBw (zAm zBy (zAn zAj (pv 1) zAc (fun _ _=>rfl)) (zAn zAj (pv 0) zAc (fun _ _=>rfl))) (zAm zBy (zAn zAj (pv 0) zAc (fun _ _=>rfl)) (zAn zAj (pv 1) zAc (fun _ _=>rfl)))) (zAa (zAm zBw (zAm zBy (zAn zAj (pv 1) zAc (fun _ _=>rfl)) (zAn zAj (pv 0) zAc (fun _ _=>rfl))) (zAm zBy (zAn zAj (pv 0) zAc (fun _ _=>rfl)) (zAn zAj (pv 1) zAc (fun _ _=>rfl)))) zAd))))),?_⟩
 have fa':Sq K H a [.int x1,.int y1,.int w1]:=.inr (SqT.of ha)
 have fb:Sq K H b [.int x2,.int y2,.int w2]:=.inr (SqT.of hb)
 refine ⟨_,rfl,b,_,_,.int x2,rfl,rfl,fb,rfl,_,rfl,a,_,_,.int w1,rfl,rfl,fa',rfl,_,_,rfl,rfl,cB b1 a3,_,rfl,a,_,_,.int x1,rfl,rfl,fa',rfl,_,rfl,b,_,_,.int w2,rfl,rfl,fb,rfl,_,_,rfl,rfl,cB a1 b3,_,_,rfl,rfl,?_⟩
 refine ⟨_,rfl,b,_,_,.int y2,rfl,rfl,fb,rfl,_,rfl,a,_,_,.int w1,rfl,rfl,fa',rfl,_,_,rfl,rfl,cB b2 a3,_,rfl,a,_,_,.int y1,rfl,rfl,fa',rfl,_,rfl,b,_,_,.int w2,rfl,rfl,fb,rfl,_,_,rfl,rfl,cB a2 b3,_,_,rfl,rfl,?_⟩
 exact ⟨(by show 2≤sizeLine; decide),fun p hp=>q (Nat.le_trans (zQv b1 a3 a1 b3) zS2) (Nat.le_trans (zQv b2 a3 a2 b3) zS2) p hp⟩
abbrev rTab (K:PySem.W.Frag):Addr:=tabP K "ring"
abbrev rQual:Str:=("ring" : Str) ++ ".<locals>." ++ "count_ahead"
def RTab (K:PySem.W.Frag) (H:Hp):Prop:=zUv (rTab K) (defPos zIz) rQual H
def zC8 (K:PySem.W.Frag) (H H':Hp):Prop:=∀ b o,b≠rTab K→H b = some o→H' b = some o
structure zQt (H:Hp) (D:Addr) (ss:List Sd) (us:List SpT):Prop where
 at':H D = some (.lst (zAv us))
 ok:∀ t∈us,SpOk H t∧0 < t.2.2.2∧Nat.gcd (Nat.gcd t.2.1.natAbs t.2.2.1.natAbs) t.2.2.2.natAbs = 1
 nodup:(us.map (·.2)).Nodup
 mem:∀ P:P3,P∈us.map (·.2)↔Cor ss P
 first:∀ O rest,us = O :: rest→(∀ t∈rest,ahB O t = true)∧rest.Pairwise (fun A B=>0 < c3 O.2 A.2 B.2)
 few:us.length≤ss.length
theorem RTab.same {K:PySem.W.Frag} {H H':Hp} (t:RTab K H) (s:Same H H'):RTab K H':=by
 obtain ⟨qs,e1,e2,e3⟩:=t
 exact ⟨qs,s _ _ e1,e2,e3.imp id fun ⟨c',h1,h2⟩=>⟨c',h1,s _ _ h2⟩⟩
theorem RTab.ne {K:PySem.W.Frag} {H:Hp} (t:RTab K H) {b:Addr} {o:HO} (e:H b = some o) (h:∀ ps,o≠.tbl ps):b≠rTab K:=fun z=>by
 obtain ⟨qs,e1,_⟩:=t
 rw [z,show H (rTab K) = some (.tbl qs) from e1] at e
 exact h qs (Option.some.inj e).symm
theorem zC8.lst {K:PySem.W.Frag} {H H':Hp} (s:zC8 K H H') (t:RTab K H) {b:Addr} {xs:List V} (e:H b = some (.lst xs)):H' b = some (.lst xs):=s b _ (t.ne e fun _ z=>nomatch z) e
theorem zC8.tup {K:PySem.W.Frag} {H H':Hp} (s:zC8 K H H') (t:RTab K H) {b:Addr} {xs:List V} (e:H b = some (.tup xs)):H' b = some (.tup xs):=s b _ (t.ne e fun _ z=>nomatch z) e
theorem zC8.of {K:PySem.W.Frag} {H H':Hp} (s:Same H H'):zC8 K H H':=fun b o _ e=>s b o e
theorem zC8.trans {K:PySem.W.Frag} {H H1 H2:Hp} (a:zC8 K H H1) (b:zC8 K H1 H2):zC8 K H H2:=fun c o h e=>b c o h (a c o h e)
theorem SdOk.sameT {K:PySem.W.Frag} {H H':Hp} {ss:List Sd} (h:SdOk H ss) (t:RTab K H) (s:zC8 K H H'):SdOk H' ss:=fun u hu=>⟨s.tup t (h u hu).1,(h u hu).2⟩
theorem RTab.put {K:PySem.W.Frag} {H:Hp} (t:RTab K H) {D:Addr} {xs ys:List V} (e:H D = some (.lst xs)):RTab K (upd H D (.lst ys)):=by
 have hD:=t.ne e fun _ z=>nomatch z
 obtain ⟨qs,e1,e2,e3⟩:=t
 refine ⟨qs,by rw [zAs hD.symm]; exact e1,e2,e3.imp id fun ⟨c',h1,h2⟩=>⟨c',h1,?_⟩⟩
 rw [zAs (zI4 h2 e fun z=>nomatch z)]
 exact h2
def valA (H:Hp) (r:Addr):P3:=match H r with
 | some (.tup [.int x,.int y,.int w])=>(x,y,w)
 | _=>(0,0,1)
theorem zQd {H:Hp} {t:SpT} (h:SpOk H t):valA H t.1 = t.2:=by
 unfold valA
 rw [h.1]
theorem zMy {s t:SpT} (ws:0 < s.2.2.2) (wt:0 < t.2.2.2) (ls:Nat.gcd (Nat.gcd s.2.1.natAbs s.2.2.1.natAbs) s.2.2.2.natAbs = 1) (lt:Nat.gcd (Nat.gcd t.2.1.natAbs t.2.2.1.natAbs) t.2.2.2.natAbs = 1) (h:leS s t) (ne:s.2≠t.2):ahB s t = true:=by
 by_cases c:ahB s t = true
 ·exact c
 ·have c':leS t s:=by
   show ahB s t = false
   simpa using c
  rw [zKz] at h c'
  exact absurd (zCw (p:=s.2) (q:=t.2) ws wt ls lt (by omega) (by omega)) ne
theorem zTx {H:Hp} {ss:List Sd} {O:SpT} {rest:List SpT} {us:List Addr} (ok:∀ t∈O :: rest,SpOk H t∧0 < t.2.2.2∧Nat.gcd (Nat.gcd t.2.1.natAbs t.2.2.1.natAbs) t.2.2.2.natAbs = 1) (nd:((O :: rest).map (·.2)).Nodup) (mem:∀ P:P3,P∈(O :: rest).map (·.2)↔Cor ss P)
  (ri:(O :: rest).Pairwise leS) (pm:us.Perm (rest.map (·.1))) (pw:us.Pairwise fun a b=>(cntA O.2 ((O :: rest).map (·.2)) (valA H a):Int)≤cntA O.2 ((O :: rest).map (·.2)) (valA H b)) :
  ∃ vs:List SpT,vs.map (·.1) = us∧vs.Perm rest∧(∀ t∈rest,ahB O t = true)∧vs.Pairwise (fun A B=>0 < c3 O.2 A.2 B.2):=by
 have hO:=ok O (.head _)
 have hah:∀ t∈rest,ahB O t = true:=fun t ht=>by
  have h1:=ok t (.tail _ ht)
  refine zMy hO.2.1 h1.2.1 hO.2.2 h1.2.2 ((List.pairwise_cons.mp ri).1 t ht) fun z=>?_
  rw [List.map_cons,List.nodup_cons] at nd
  exact nd.1 (z ▸ List.mem_map_of_mem ht)
 have eb:rest.map (fun t=>((t.1,valA H t.1):SpT)) = rest:=by
  refine Eq.trans (List.map_congr_left fun t ht=>?_) (List.map_id rest)
  rw [zQd (ok t (.tail _ ht)).1]
  rfl
 have pv:(us.map fun a=>((a,valA H a):SpT)).Perm rest:=by
  have z:=pm.map fun a=>((a,valA H a):SpT)
  rw [List.map_map] at z
  have e:rest.map ((fun a=>((a,valA H a):SpT)) ∘ fun t:SpT=>t.1) = rest:=eb
  rw [e] at z
  exact z
 refine ⟨us.map fun a=>(a,valA H a),?_,pv,hah,?_⟩
 ·rw [List.map_map]
  exact Eq.trans (List.map_congr_left fun a _=>rfl) (List.map_id us)
 ·have nd2:((us.map fun a=>((a,valA H a):SpT)).map (·.2)).Nodup:=by
   refine (pv.map (·.2)).nodup_iff.mpr ?_
   rw [List.map_cons,List.nodup_cons] at nd
   exact nd.2
  have z:=zP1 (ss:=ss) (O:=O.2) (qs:=(O :: rest).map (·.2)) (rs:=rest.map (·.2)) (us:=(us.map fun a=>((a,valA H a):SpT)).map (·.2)) ((mem _).mp (.head _)) (fun C hC=>?_) (fun A hA=>?_) nd2 (pv.map _) ?_
  ·rw [List.pairwise_map] at z
   exact z
  ·rw [List.map_cons] at hC
   rcases List.mem_cons.mp hC with e | hC
   ·exact .inl e
   ·obtain ⟨t,ht,rfl⟩:=List.mem_map.mp hC
    exact .inr (zHu (hah t ht))
  ·obtain ⟨t,ht,rfl⟩:=List.mem_map.mp hA
   have m:t.2∈(O :: rest).map (·.2):=List.mem_map_of_mem (.tail _ ht)
   refine ⟨(mem _).mp m,m,fun z=>?_,zHu (hah t ht)⟩
   rw [List.map_cons,List.nodup_cons] at nd
   exact nd.1 (z ▸ List.mem_map_of_mem ht)
  ·rw [List.map_map,List.pairwise_map]
   refine pw.imp fun {a b} h=>?_
   exact Int.ofNat_le.mp h
theorem zPo (O:SpT) (rest:List SpT):cutV (zAv (O :: rest)) none (some 1) = [V.ref O.1]:=by
 show ((zAv (O :: rest)).drop 0).take (min 1 (zAv (O :: rest)).length - 0) = _
 rw [List.drop_zero,Nat.sub_zero,show min 1 (zAv (O :: rest)).length = 1 from Nat.min_eq_left (by simp [zAv])]
 rfl
theorem zOr (O:SpT) (rest:List SpT):cutV (zAv (O :: rest)) (some 1) none = (rest.map (·.1)).map V.ref:=by
 show ((zAv (O :: rest)).drop (min 1 (zAv (O :: rest)).length)).take ((zAv (O :: rest)).length - min 1 (zAv (O :: rest)).length) = _
 rw [show min 1 (zAv (O :: rest)).length = 1 from Nat.min_eq_left (by simp [zAv]),List.take_of_length_le (by simp [zAv])]
 simp [zAv]
def zLv (K:PySem.W.Frag):Sp:=fun vs H Q _=>∃ (l:Addr) (ss:List Sd),vs = [.ref l]∧SqL K H l (zAo ss)∧SdOk H ss∧ss.length≤63∧RTab K H ∧
 ∀ (D:Addr) (us:List SpT) (H':Hp),zC8 K H H'→H D = none→RTab K H'→zQt H' D ss us→Q (.ref D) H'
theorem zPd (F:Fun K "ring" "ring" zGm f fd) (Z:Zs mg) (h_p_corners:Has P w K mg base "corners" 16 ["sides"] (zE3 K)) (h_p_turn:Has P w K mg base "turn" 1 ["one", "other"] (zBz K)) (h_p_way_to:Has P w K mg base "way_to" 1 ["start", "end"] (zFv K)) (h_p_turn_B:Has P w K mg base "turn" 1 ["one", "other"] (zF0 K)) (hcode:fd.code = .ref (tabC K "ring")) (NB:zKq base mg (tabC K "ring") (tabP K "ring")):FnOk P w K mg base CX0 17 f fd ["sides"] (zLv K):=by
 refine Fun.okC F zH7 (fun vs H Q E h=>?_) (fun cdv A outer s H vs Q E hcv hr h=>?_)
 ·obtain ⟨l,ss,rfl,_⟩:=h
  rfl
 obtain ⟨l,ss,rfl,hl,ok,hlen,tab,q⟩:=h
 have hcd:cdv = .ref (tabC K "ring"):=hcv.symm.trans hcode
 have hcd0:=hcd
 refine ⟨_,(zAg (zAr (i:=1) zH7.nd rfl (Or.inr rfl) (zAf h_p_corners (hr.mono (by decide)) rfl (zAa (pv 0) zAd)))
   (zAg (ps_def (i:=2) (clos:=[("rising", s.heap.objs.size + 1)]) NB hcd rfl zH7.nd rfl (Or.inl rfl))
   (zAi (zAp (zAm zL1 (zBp zC0 (pv 1) zCf (zCi zAc)) (zRy rfl Z.sorted (zAa (zBp zC0 (pv 1) (zCi zAc) zCf) zAd) (zT9 (pv 2) pk_nil))))))),?_⟩
 refine ⟨_,rfl,l,ss,rfl,hl,ok,hlen,fun D ps H1 s1 hD co=>?_⟩
 have tab1:RTab K H1:=by
  obtain ⟨qs,e1,e2,e3⟩:=tab
  refine ⟨qs,s1 _ _ e1,e2,e3.imp id fun ⟨c',h1,h2⟩=>⟨c',h1,s1 _ _ h2⟩⟩
 refine ⟨tab1,fun fa c' H2 hf hfP ef ec tab2 kp=>?_⟩
 have nT:∀ b xs,H1 b = some (.lst xs)→b≠rTab K:=fun b xs e z=>by
  obtain ⟨qs,e1,_⟩:=tab1
  rw [z,e1] at e
  cases e
 have nU:∀ b xs,H1 b = some (.tup xs)→b≠rTab K:=fun b xs e z=>by
  obtain ⟨qs,e1,_⟩:=tab1
  rw [z,e1] at e
  cases e
 have eD2:H2 D = some (.lst (zAv ps)):=kp _ _ (nT _ _ co.at') co.at'
 have ok2:∀ t∈ps,SpOk H2 t∧0 < t.2.2.2∧Nat.gcd (Nat.gcd t.2.1.natAbs t.2.2.1.natAbs) t.2.2.2.natAbs = 1:=fun t ht=>by
  obtain ⟨o1,o2⟩:=co.ok t ht
  exact ⟨⟨kp _ _ (nU _ _ o1.1) o1.1,o1.2⟩,o2⟩
 have few:=co.few
 have sT:zC8 K H H2:=fun b o hb e=>kp b o hb (s1 _ _ e)
 have hDT:D≠rTab K:=nT _ _ co.at'
 have fin:∀ (Dn:Addr) (us:List SpT) (H3:Hp),Same H2 H3→H3 Dn = none→us.Perm ps→(∀ O rest,us = O :: rest→(∀ t∈rest,ahB O t = true)∧rest.Pairwise (fun A B=>0 < c3 O.2 A.2 B.2))→Q (.ref Dn) (upd H3 Dn (.lst (zAv us))):=fun Dn us H3 s3 hn pm hfst=>by
  have s4:=zAe hn (.lst (zAv us))
  have hn2:H2 Dn = none:=s3.free hn
  refine q Dn us _ (fun b o hb e=>s4 _ _ (s3 _ _ (sT b o hb e))) ?_ ?_ ⟨zAb,fun t ht=>?_,(pm.map (·.2)).nodup_iff.mpr co.nodup,fun P=>?_,hfst,by rw [pm.length_eq]; exact few⟩
  ·cases e:H Dn with
   | none=>rfl
   | some o =>
    by_cases hb:Dn = rTab K
    ·obtain ⟨qs,e1,_⟩:=tab2
     rw [hb] at hn2
     rw [show H2 (rTab K) = some (.tbl qs) from e1] at hn2
     cases hn2
    ·rw [sT _ _ hb e] at hn2
     cases hn2
  ·obtain ⟨qs,e1,e2,e3⟩:=tab2
   exact ⟨qs,s4 _ _ (s3 _ _ e1),e2,e3.imp id fun ⟨c',h1,h2⟩=>⟨c',h1,s4 _ _ (s3 _ _ h2)⟩⟩
  ·obtain ⟨o1,o2⟩:=ok2 t (pm.mem_iff.mp ht)
   exact ⟨(o1.same s3).same s4,o2⟩
  ·rw [(pm.map (·.2)).mem_iff]
   exact co.mem P
 have sq2:SqL K H2 D (zAv ps):=SqL.of eD2
 refine ⟨_,rfl,_,rfl,D,_,rfl,sq2,fun c1 hc1=>?_⟩
 have sc1:=zAe hc1 (.lst (cutV (zAv ps) none (some 1)))
 have ec1:upd H2 c1 (.lst (cutV (zAv ps) none (some 1))) c1 = some (.lst (cutV (zAv ps) none (some 1))):=zAb
 generalize upd H2 c1 (.lst (cutV (zAv ps) none (some 1))) = H3 at sc1 ec1 ⊢
 refine ⟨_,rfl,_,rfl,D,_,rfl,sc1.seq sq2,fun c2 hc2=>?_⟩
 have sc2:=zAe hc2 (.lst (cutV (zAv ps) (some 1) none))
 have ec2:upd H3 c2 (.lst (cutV (zAv ps) (some 1) none)) c2 = some (.lst (cutV (zAv ps) (some 1) none)):=zAb
 generalize upd H3 c2 (.lst (cutV (zAv ps) (some 1) none)) = H4 at sc2 ec2 ⊢
 have s24:=sc1.trans sc2
 cases ps with
 | nil =>
  refine ⟨_,rfl,c2,fa,[],fun _=>0,rfl,rfl,SqL.of ec2,by decide,(fun r hr=>nomatch hr),fun p us H5 hp s5 ep pm pw=>?_⟩
  have eu:us = []:=List.perm_nil.mp pm
  subst eu
  refine ⟨c1,p,_,_,rfl,rfl,s5 _ _ (sc2 _ _ ec1),ep,(by show 0≤sizeLine; decide),fun Dn hDn=>?_⟩
  exact fin Dn [] H5 (s24.trans s5) hDn (.refl _) (fun O rest z=>nomatch z)
 | cons O rest =>
  have hrest:rest.length < 63:=by rw [List.length_cons] at few; omega
  rw [zPo] at ec1
  rw [zOr] at ec2
  have ok4:∀ t∈O :: rest,SpOk H4 t:=fun t ht=>(ok2 t ht).1.same s24
  refine ⟨_,rfl,c2,fa,rest.map (·.1),fun a=>(cntA O.2 ((O :: rest).map (·.2)) (valA H4 a):Int),rfl,rfl,SqL.of ec2,by rw [List.length_map]; omega,?_,fun p us H5 hp s5 ep pm pw=>?_⟩
  ·refine zSh (k:=3) (jy:=1) (N:=["place", "sight", "rising"]) (params:=zC1 zIz) zJk (hr.mono (by decide)) rfl rfl rfl rfl (s24 _ _ ef) (s24 _ _ ec) (fun _ _ _ _=>rfl) fun r hr' A outer s H5 s5 hr=>?_
   obtain ⟨t,ht,rfl⟩:=List.mem_map.mp hr'
   refine ⟨_,(zAg (zAr (i:=1) zJk.nd rfl (Or.inr rfl) (zAf h_p_way_to (hr.mono (by decide)) rfl (zAa (zAn zAj (pv 2) zAc (fun _ _=>rfl)) (zAa (pv 0) zAd))))
   (zAi (zAp (zAw zA1 rfl Z.len zDt (zAa (zEq (T:=["other"]) (caps:=[("rising", 2),("sight", 1)]) ⟨rfl,by decide +kernel,by decide +kernel,rfl,⟨⟨rfl,rfl,Or.inr rfl⟩,⟨rfl,rfl,Or.inl rfl⟩,True.intro⟩⟩ rfl (zCg (pv 2)) (fun _=>(zAt (i:=0) (show (["other", "rising", "sight"]:List Str).Nodup by decide +kernel) rfl (Or.inl rfl))) (fun _=>(zNn (zAu zIe (zAf h_p_turn_B (hr.mono (by decide)) rfl (zAa (zAf h_p_way_to (hr.mono (by decide)) rfl (zAa (zAn zAj (pv 1) zAc (fun _ _=>rfl)) (zAa (pv 0) zAd))) (zAa (pv 2) zAd))) zAc (zAy _)))) (fun _=>(pv 0))) zAd))))),?_⟩
   have s25:=s24.trans s5
   have eD5:=s25 _ _ eD2
   have okO:=(ok4 O (.head _)).same s5
   have okt:=(ok4 t (.tail _ ht)).same s5
   have at0:atI (zAv (O :: rest)) 0 = some (.ref O.1):=zDm (j:=0) rfl
   refine ⟨_,rfl,D,_,_,.ref O.1,rfl,rfl,.inl (SqL.of eD5),at0,_,rfl,O,t,rfl,okO,okt,fun b1 b2 sp hsp=>?_⟩
   have ssp:=zAe hsp (.tup [.int (wy O.2 t.2).1,.int (wy O.2 t.2).2])
   have esp:upd H5 sp (.tup [.int (wy O.2 t.2).1,.int (wy O.2 t.2).2]) sp = some (.tup [.int (wy O.2 t.2).1,.int (wy O.2 t.2).2]):=zAb
   generalize upd H5 sp (.tup [.int (wy O.2 t.2).1,.int (wy O.2 t.2).2]) = H6 at ssp esp ⊢
   have eD6:=ssp _ _ eD5
   refine ⟨_,rfl,D,rfl,.inl ⟨⟨_,SqL.of eD6⟩,fun cc G hG=>zIc (K:=K) (a:=D) (xs:=zAv (O :: rest)) (fun i σ ys H'=>Same H6 H'∧H' G = some (.lst ys)∧ys.length = (((O :: rest).take i).filter fun A=>decide (0 < tn2 (wy O.2 A.2) (wy O.2 t.2))).length∧i≤63∧∃ u:Option V,σ = [u,some (.ref D),some (.ref sp)])
    ⟨zAe hG _,zAb,rfl,by decide,none,rfl⟩ (fun i σ ys H' _ ⟨e1,e2,_⟩=>⟨SqL.of (e1 _ _ eD6),e2⟩) ?_ ?_⟩⟩
   ·rintro i v σ ys H' hi ⟨sH,eG,hys,hi63,u,rfl⟩
    have hil:i < (O :: rest).length:=by have z:=(List.getElem?_eq_some_iff.mp hi).1; simpa [zAv] using z
    unfold zAv at hi
    rw [List.getElem?_map] at hi
    cases gt:(O :: rest)[i]? with
    | none=>rw [gt] at hi; cases hi
    | some A =>
     rw [gt] at hi
     cases hi
     have okA:=(((ok4 A (List.mem_of_getElem? gt)).same s5).same ssp).same sH
     have et:(O :: rest).take (i + 1) = (O :: rest).take i ++ [A]:=by rw [List.take_add_one,gt]; rfl
     have ln:ys.length≤63:=by
      rw [hys]
      exact Nat.le_trans (List.length_filter_le _ _) (Nat.le_trans (List.length_take_le _ _) hi63)
     refine ⟨_,rfl,D,_,_,.ref O.1,rfl,rfl,.inl (SqL.of (sH _ _ eD6)),at0,_,rfl,O,A,rfl,(okO.same ssp).same sH,okA,fun b3 b4 aw haw=>?_⟩
     have saw:=zAe haw (.tup [.int (wy O.2 A.2).1,.int (wy O.2 A.2).2])
     have eaw:upd H' aw (.tup [.int (wy O.2 A.2).1,.int (wy O.2 A.2).2]) aw = some (.tup [.int (wy O.2 A.2).1,.int (wy O.2 A.2).2]):=zAb
     generalize upd H' aw (.tup [.int (wy O.2 A.2).1,.int (wy O.2 A.2).2]) = H7 at saw eaw ⊢
     refine ⟨_,rfl,aw,sp,_,_,_,_,rfl,eaw,saw _ _ (sH _ _ esp),b3,b4,b1,b2,_,_,rfl,rfl,_,rfl,?_⟩
     refine ifD (fun hp=>?_) (fun hp=>?_)
     ·have hp':0 < tn2 (wy O.2 A.2) (wy O.2 t.2):=hp
      refine ⟨_,rfl,saw _ _ eG,zA2 (by omega),(sH.trans saw).putNew hG,zAb,?_,by rw [List.length_cons] at hil; omega,_,rfl⟩
      rw [et,List.filter_append,List.length_append,List.length_append,hys]
      rw [show [A].filter (fun A=>decide (0 < tn2 (wy O.2 A.2) (wy O.2 t.2))) = [A] from by
       rw [List.filter_cons,if_pos (decide_eq_true hp')]; rfl]
      rfl
     ·have hp':¬ 0 < tn2 (wy O.2 A.2) (wy O.2 t.2):=hp
      refine ⟨sH.trans saw,saw _ _ eG,?_,by rw [List.length_cons] at hil; omega,_,rfl⟩
      rw [et,List.filter_append,List.length_append,hys]
      rw [show [A].filter (fun A=>decide (0 < tn2 (wy O.2 A.2) (wy O.2 t.2))) = [] from by
       rw [List.filter_cons,if_neg (fun z=>hp' (of_decide_eq_true z))]; rfl]
      rfl
   ·rintro σ ys H' ⟨sH,eG,hys,_,u,rfl⟩
    refine ⟨G,_,rfl,.inl (SqL.of eG),?_,ssp.trans sH⟩
    rw [show (zAv (O :: rest)).length = (O :: rest).length from List.length_map _,List.take_length] at hys
    rw [hys,zQd (ok4 t (.tail _ ht))]
    unfold cntA
    rw [List.filter_map,List.length_map]
    rfl
  ·obtain ⟨vs,ev,pv,hah,hpw⟩:=zTx (H:=H4) (fun t ht=>⟨ok4 t ht,(ok2 t ht).2⟩) co.nodup co.mem co.rises pm pw
   refine ⟨c1,p,_,_,rfl,rfl,s5 _ _ (sc2 _ _ ec1),ep,?_,fun Dn hDn=>?_⟩
   ·rw [List.length_map,pm.length_eq,List.length_map,List.length_singleton]
    exact Nat.le_trans (show 1 + rest.length≤1000 by omega) (by decide)
   ·have z:=fin Dn (O :: vs) H5 (s24.trans s5) hDn (pv.cons O) (fun O' rest' e=>by
     injection e with e1 e2
     subst e1 e2
     exact ⟨fun t ht=>hah t (pv.mem_iff.mp ht),hpw⟩)
    have e:[V.ref O.1] ++ us.map V.ref = zAv (O :: vs):=by
     rw [← ev]
     simp [zAv]
    rw [e]
    exact z
def zF1 (K:PySem.W.Frag):Sp:=fun vs H Q _=>∃ (l d:Addr) (ss:List Sd) (x y:Int),vs = [.ref l,.ref d]∧SqL K H l (zAo ss)∧SdOk H ss∧Sq K H d [.int x,.int y]∧Q (.bl (wayB ss x y)) H
theorem zMr (F:Fun K "is_way" "is_way" zFh f fd) (Z:Zs mg) (h_p_along:Has P w K mg base "along" 1 ["one", "other"] (zD4 K)):FnOk P w K mg base CX0 2 f fd ["sides", "direction"] (zF1 K):=by
 refine F.ok zH4 (fun vs H Q E h=>?_) (fun cdv A outer s H vs Q E hr h=>?_)
 ·obtain ⟨l,d,ss,x,y,rfl,_⟩:=h
  rfl
 obtain ⟨l,d,ss,x,y,rfl,hl,ok,hd,q⟩:=h
 refine ⟨_,(zAg (zCk PassesOwn.never rfl (zCg (pv 0)) (zAt (i:=2) zH4.nd rfl (Or.inl rfl)) (zAi (zBj (zAu zIe (zAf h_p_along (hr.mono (by decide)) rfl (zAa (pv 2) (zAa (pv 1) zAd))) zAc (zAy _)) (zAi (zAp zGz)) zAx)))
   (zAi (zAp zGz))),?_⟩
 refine ⟨_,rfl,l,rfl,.inl ⟨⟨_,hl⟩,zCd (K:=K) (a:=l) (xs:=zAo ss) (fun i σ H'=>H' = H∧(∀ j t,j < i→ss[j]? = some t→t.2.1 * x + t.2.2.1 * y≤0)∧∃ u2:Option V,σ = [some (.ref l),some (.ref d),u2])
  ⟨rfl,fun j t hj=>absurd hj (Nat.not_lt_zero _),none,rfl⟩ (fun i σ H' _ ⟨e,_⟩=>by rw [e]; exact hl) ?_ ?_⟩⟩
 ·rintro i v σ H' hi ⟨rfl,hall,u2,rfl⟩
  obtain ⟨t,gt,rfl,hil⟩:=zBt hi
  obtain ⟨et,_,b1,b2,_⟩:=ok t (List.mem_of_getElem? gt)
  refine ⟨_,rfl,_,rfl,t.1,d,_,_,t.2.1,t.2.2.1,x,y,rfl,.inr (SqT.of et),hd,rfl,rfl,rfl,rfl,by omega,by omega,_,_,rfl,rfl,_,rfl,?_⟩
  refine ifD (fun hpos=>?_) (fun hneg=>?_)
  ·have e:wayB ss x y = false:=by
    unfold wayB
    rw [Bool.eq_false_iff]
    intro z
    have z2:=of_decide_eq_true (List.all_eq_true.mp z t (List.mem_of_getElem? gt))
    omega
   rw [e] at q
   exact q
  ·refine ⟨rfl,fun j t' hj ht'=>?_,_,rfl⟩
   by_cases e:j = i
   ·rw [e,gt] at ht'
    cases ht'
    omega
   ·exact hall j t' (by omega) ht'
 ·rintro σ H' ⟨rfl,hall,u2,rfl⟩
  have e:wayB ss x y = true:=by
   unfold wayB
   rw [List.all_eq_true]
   intro t ht
   obtain ⟨j,hj,ej⟩:=List.getElem_of_mem ht
   exact decide_eq_true (hall j t (by rw [zAk]; exact hj) (by rw [List.getElem?_eq_getElem hj,ej]))
  rw [e] at q
  exact q
def zGa (K:PySem.W.Frag):Sp:=fun vs H Q _=>∃ (l:Addr) (ss:List Sd),vs = [.ref l]∧SqL K H l (zAo ss)∧SdOk H ss∧ss.length≤400 ∧
 ∀ (p:Addr) (us:List (Addr × List Int)) (H':Hp),Same H H'→H p = none→zQe H' p ss us→Q (.ref p) H'
theorem zRs (F:Fun K "ways" "ways" zHp f fd) (Z:Zs mg) (h_p_is_way:Has P w K mg base "is_way" 2 ["sides", "direction"] (zF1 K)) (h_p_plain:Has P w K mg base "plain" 3 ["direction"] (zGv K)):FnOk P w K mg base CX0 4 f fd ["sides"] (zGa K):=by
 refine F.ok zF7 (fun vs H Q E h=>?_) (fun cdv A outer s H vs Q E hr h=>?_)
 ·obtain ⟨l,ss,rfl,_⟩:=h
  rfl
 obtain ⟨l,ss,rfl,hl,ok,h31,q⟩:=h
 have nz:∀ t∈ss,t.2.1≠0∨t.2.2.1≠0:=fun t ht=>(ok t ht).2.1
 have hu1:=Nat.lt_of_le_of_lt (Nat.add_le_add_left (show 1≤64 by decide) _) hr.units
 refine ⟨_,(zAg (zAr (i:=1) zF7.nd rfl (Or.inl rfl) zNc)
   (zAg (zCk PassesOwn.never rfl (zCg (pv 0)) (zAt (i:=2) zF7.nd rfl (Or.inl rfl)) (zAi (zCk PassesOwn.never rfl (zRn (zCz (zAa (zBe (zAa (zMq zIn (zAn zAj (pv 2) zAc (fun _ _=>rfl))) (zAa (zAn zAj (pv 2) zAc (fun _ _=>rfl)) zAd))) (zAa (zBe (zAa (zAn zAj (pv 2) zAc (fun _ _=>rfl)) (zAa (zMq zIn (zAn zAj (pv 2) zAc (fun _ _=>rfl))) zAd))) zAd)))) (zAt (i:=3) zF7.nd rfl (Or.inl rfl)) (zAi (zBj (zEv (zAf h_p_is_way (hr.mono (by decide)) rfl (zAa (pv 0) (zAa (pv 3) zAd)))) (zAi (zRb hu1 (pv 1) (zAf h_p_plain (hr.mono (by decide)) rfl (zAa (pv 3) zAd)) zGz rfl)) zAx)))))
   (zAi (zAp (zAw zCx rfl Z.sorted zCy (zAa (zCb (zG9 rfl) rfl Z.list zE6 (zAa (pv 1) zAd)) zAd)))))),?_⟩
 refine fun d hd=>?_
 have two:∀ k,WK ss ss.length k→k.length = 1 + 1:=fun k ⟨_,t,_,_,h⟩=>by
  rcases h with ⟨e,_⟩ | ⟨e,_⟩ <;> rw [e] <;> rfl
 refine ⟨_,rfl,l,rfl,.inl ⟨⟨_,(zAe hd _).seq hl⟩,zCd (K:=K) (a:=l) (xs:=zAo ss) (fun i σ H'=>Same H H'∧(∃ kvs ks,H' d = some (.dT kvs)∧TabK kvs ks∧ks.length≤2 * i∧∀ k,k∈ks↔WK ss i k)∧∃ u2 u3:Option V,σ = [some (.ref l),some (.ref d),u2,u3])
  ⟨zAe hd _,⟨[],[],zAb,.nil,Nat.le_refl _,fun k=>⟨(fun z=>nomatch z),fun z=>absurd z (zUj ss k)⟩⟩,none,none,rfl⟩ (fun i σ H' _ ⟨e,_⟩=>e.seq hl) ?_ ?_⟩⟩
 ·rintro i v σ H' hi ⟨sH,⟨kvs,ks,eD,tk,hks,mem⟩,u2,u3,rfl⟩
  obtain ⟨t,gt,rfl,hil⟩:=zBt hi
  obtain ⟨et0,nt,b1,b2,_⟩:=ok t (List.mem_of_getElem? gt)
  have et:=sH _ _ et0
  have st:Sq K H' t.1 [.int t.2.1,.int t.2.2.1,.int t.2.2.2]:=.inr (SqT.of et)
  refine ⟨_,rfl,t.1,_,_,.int t.2.2.1,rfl,rfl,st,rfl,_,rfl,_,rfl,t.1,_,_,.int t.2.1,rfl,rfl,st,rfl,(by show 2≤sizeLine; decide),fun p1 hp1=>?_⟩
  have sp1:Same H' (upd H' p1 (.tup [.int (-t.2.2.1),.int t.2.1])):=zAe hp1 _
  have ep1:upd H' p1 (.tup [.int (-t.2.2.1),.int t.2.1]) p1 = some (.tup [.int (-t.2.2.1),.int t.2.1]):=zAb
  generalize upd H' p1 (.tup [.int (-t.2.2.1),.int t.2.1]) = G1 at sp1 ep1 ⊢
  have st1:=st.same sp1
  refine ⟨_,rfl,t.1,_,_,.int t.2.2.1,rfl,rfl,st1,rfl,_,rfl,t.1,_,_,.int t.2.1,rfl,rfl,st1,rfl,_,rfl,(by show 2≤sizeLine; decide),fun p2 hp2=>?_⟩
  have sp2:Same G1 (upd G1 p2 (.tup [.int t.2.2.1,.int (-t.2.1)])):=zAe hp2 _
  have ep2:upd G1 p2 (.tup [.int t.2.2.1,.int (-t.2.1)]) p2 = some (.tup [.int t.2.2.1,.int (-t.2.1)]):=zAb
  generalize upd G1 p2 (.tup [.int t.2.2.1,.int (-t.2.1)]) = G2 at sp2 ep2 ⊢
  refine ⟨(by show 2≤sizeLine; decide),fun pl hpl=>?_⟩
  have spl:Same G2 (upd G2 pl (.lst [.ref p1,.ref p2])):=zAe hpl _
  have epl:upd G2 pl (.lst [.ref p1,.ref p2]) pl = some (.lst [.ref p1,.ref p2]):=zAb
  have sAll:=(sp1.trans sp2).trans spl
  have ep1':=spl _ _ (sp2 _ _ ep1)
  have ep2':=spl _ _ ep2
  have eD':=sAll _ _ eD
  generalize upd G2 pl (.lst [.ref p1,.ref p2]) = G3 at spl epl sAll ep1' ep2' eD' ⊢
  have npl:pl≠d:=fun z=>by rw [z] at epl; rw [epl] at eD'; cases eD'
  refine ⟨pl,rfl,⟨_,SqL.of epl⟩,zCd (K:=K) (a:=pl) (xs:=[.ref p1,.ref p2]) (fun j σ H'=>Same H H'∧H' pl = some (.lst [.ref p1,.ref p2])∧H' p1 = some (.tup [.int (-t.2.2.1),.int t.2.1])∧H' p2 = some (.tup [.int t.2.2.1,.int (-t.2.1)]) ∧
    (∃ kvs ks,H' d = some (.dT kvs)∧TabK kvs ks∧ks.length≤2 * i + j∧∀ k,k∈ks↔WK ss i k∨(0 < j∧k = lowL [-t.2.2.1,t.2.1]∧wayB ss (-t.2.2.1) t.2.1 = true)∨(1 < j∧k = lowL [t.2.2.1,-t.2.1]∧wayB ss t.2.2.1 (-t.2.1) = true))∧∃ u3:Option V,σ = [some (.ref l),some (.ref d),some (.ref t.1),u3])
   ⟨sH.trans sAll,epl,ep1',ep2',⟨kvs,ks,eD',tk,by omega,fun k=>(mem k).trans ⟨.inl,fun z=>by
    rcases z with z | ⟨z,_⟩ | ⟨z,_⟩
    ·exact z
    ·exact absurd z (Nat.not_lt_zero _)
    ·exact absurd z (Nat.not_lt_zero _)⟩⟩,_,rfl⟩ (fun i σ H' _ ⟨_,e,_⟩=>SqL.of e) ?_ ?_⟩
  ·rintro j v σ H4 hj ⟨s4,e4l,e41,e42,⟨kvs,ks,eD4,tk,hks4,mem⟩,u3,rfl⟩
   have hj2:j < 2:=(List.getElem?_eq_some_iff.mp hj).1
   obtain ⟨pj,X,Y,rfl,epj,hXY,hn,bX,bY⟩:∃ (pj:Addr) (X Y:Int),v = .ref pj∧H4 pj = some (.tup [.int X,.int Y])∧((j = 0∧X = -t.2.2.1∧Y = t.2.1)∨(j = 1∧X = t.2.2.1∧Y = -t.2.1))∧(X≠0∨Y≠0)∧X.natAbs≤10 ^ 9∧Y.natAbs≤10 ^ 9:=by
    match j,hj with
    | 0,h=>cases h; exact ⟨p1,_,_,rfl,e41,.inl ⟨rfl,rfl,rfl⟩,by omega,by omega,by omega⟩
    | 1,h=>cases h; exact ⟨p2,_,_,rfl,e42,.inr ⟨rfl,rfl,rfl⟩,by omega,by omega,by omega⟩
   have step:∀ k,(k = lowL [X,Y]∧wayB ss X Y = true)∨(WK ss i k∨(0 < j∧k = lowL [-t.2.2.1,t.2.1]∧wayB ss (-t.2.2.1) t.2.1 = true)∨(1 < j∧k = lowL [t.2.2.1,-t.2.1]∧wayB ss t.2.2.1 (-t.2.1) = true)) ↔
     WK ss i k∨(0 < j + 1∧k = lowL [-t.2.2.1,t.2.1]∧wayB ss (-t.2.2.1) t.2.1 = true)∨(1 < j + 1∧k = lowL [t.2.2.1,-t.2.1]∧wayB ss t.2.2.1 (-t.2.1) = true):=fun k=>by
    rcases hXY with ⟨rfl,rfl,rfl⟩ | ⟨rfl,rfl,rfl⟩
    ·constructor
     ·rintro (h | h | h | h)
      ·exact .inr (.inl ⟨by decide,h⟩)
      ·exact .inl h
      ·exact absurd h.1 (by decide)
      ·exact absurd h.1 (by decide)
     ·rintro (h | h | h)
      ·exact .inr (.inl h)
      ·exact .inl h.2
      ·exact absurd h.1 (by decide)
    ·constructor
     ·rintro (h | h | h | h)
      ·exact .inr (.inr ⟨by decide,h⟩)
      ·exact .inl h
      ·exact .inr (.inl ⟨by decide,h.2⟩)
      ·exact absurd h.1 (by decide)
     ·rintro (h | h | h)
      ·exact .inr (.inl h)
      ·exact .inr (.inr (.inl ⟨by decide,h.2⟩))
      ·exact .inl h.2
   obtain ⟨gp,g6⟩:=gcd2 hn bX bY
   refine ⟨_,rfl,_,rfl,l,pj,ss,X,Y,rfl,s4.seq hl,ok.same s4,.inr (SqT.of epj),_,rfl,?_⟩
   by_cases hw:wayB ss X Y = true
   ·rw [hw]
    refine iteT ?_
    refine ⟨_,rfl,_,rfl,pj,[X,Y],rfl,.inr (SqT.of epj),by show 2≤1000; decide,gp,g6,fun pk G5 s5 hpk epk=>?_⟩
    have eD5:=s5 _ _ eD4
    obtain ⟨ks',tk',mem',len'⟩:=tk.put (lowL [X,Y]) (.bl true)
    have kl:=tk.len
    refine ⟨d,_,rfl,DPut.t eD5 (by rw [zIs]; exact epk) (by rw [kl]; exact Nat.lt_of_le_of_lt (Nat.le_trans hks4 (show 2 * i + j≤1000 by omega)) (by decide)),?_⟩
    have keepT:∀ (b:Addr) (xs:List V),G5 b = some (.tup xs)→upd G5 d (.dT (putK kvs (keyI (lowL [X,Y])) (.bl true))) b = some (.tup xs):=fun b xs e=>by
     rw [zAs (zI4 e eD5 (by intro z; cases z))]
     exact e
    refine ⟨(s4.trans s5).putNew hd,?_,keepT _ _ (s5 _ _ e41),keepT _ _ (s5 _ _ e42),⟨_,ks',zAb,tk',by omega,fun k=>?_⟩,_,rfl⟩
    ·rw [zAs npl]
     exact s5 _ _ e4l
    ·rw [mem' k,← step k,← mem k]
     constructor
     ·rintro (h | h)
      ·exact .inr h
      ·exact .inl ⟨h,hw⟩
     ·rintro (h | h)
      ·exact .inr h.1
      ·exact .inl h
   ·have hw':wayB ss X Y = false:=by simpa using hw
    rw [hw']
    refine iteF ?_
    refine ⟨s4,e4l,e41,e42,⟨kvs,ks,eD4,tk,by omega,fun k=>?_⟩,_,rfl⟩
    rw [mem k,← step k]
    constructor
    ·exact .inr
    ·rintro (h | h)
     ·exact absurd h.2 hw
     ·exact h
  ·rintro σ H4 ⟨s4,_,_,_,⟨kvs,ks,eD4,tk,hks4,mem⟩,u3,rfl⟩
   refine ⟨s4,⟨kvs,ks,eD4,tk,by show ks.length≤2 * (i + 1); have:ks.length≤2 * i + 2:=hks4; omega,fun k=>?_⟩,_,_,rfl⟩
   rw [mem k,zT4 gt]
   constructor
   ·rintro (h | h | h)
    ·exact .inl h
    ·exact .inr (.inl h.2)
    ·exact .inr (.inr h.2)
   ·rintro (h | h | h)
    ·exact .inl h
    ·exact .inr (.inl ⟨by show 0 < 2; decide,h⟩)
    ·exact .inr (.inr ⟨by show 1 < 2; decide,h⟩)
 ·rintro σ H' ⟨sH,⟨kvs,ks,eD,tk,hks,mem⟩,u2,u3,rfl⟩
  rw [zAk] at hks mem
  refine ⟨_,rfl,d,kvs,rfl,eD,fun p1 ts hp1 ets hts=>?_⟩
  have sp1:=zAe hp1 (.lst ((ts.map (·.1)).map V.ref))
  obtain ⟨us,u1,u2,u3⟩:=tk.refs ets hts
  have few2:=zSu nz tk.nodup fun k hk=>(mem k).mp hk
  refine ⟨p1,us,1,rfl,by rw [u1]; exact SqL.of zAb,by have z:=congrArg List.length u2; rw [List.length_map] at z; omega,fun t ht=>⟨sp1 _ _ (u3 t ht),?_⟩,fun p2 us2 hp2 pm ri=>?_⟩
  ·have z:t.2∈ks:=by rw [← u2]; exact List.mem_map_of_mem ht
   exact two t.2 ((mem _).mp z)
  have sp2:=zAe hp2 (.lst ((us2.map (·.1)).map V.ref))
  have pm2:(us2.map (·.2)).Perm ks:=by rw [← u2]; exact pm.map _
  refine q p2 us2 _ (((sH).trans sp1).trans sp2) ((sH).free (sp1.free hp2)) ⟨zAb,fun u hu=>sp2 _ _ (sp1 _ _ (u3 u (pm.mem_iff.mp hu))),List.pairwise_map.mpr ri,pm2.nodup_iff.mpr tk.nodup,fun k=>(pm2.mem_iff).trans (mem k),by have z:=pm2.length_eq; rw [List.length_map] at z; omega⟩
def zDl (K:PySem.W.Frag):Sp:=fun vs H Q _=>∃ (l:Addr) (ss:List Sd),vs = [.ref l]∧SqL K H l (zAo ss)∧SdOk H ss∧ss.length≤400 ∧
 ∀ (b:Bool) (H':Hp),Same H H'→(b = true↔(ss≠[]∧∀ k,¬ WK ss ss.length k))→Q (.bl b) H'
theorem zIy (F:Fun K "has_no_way" "has_no_way" zCt f fd) (Z:Zs mg) (h_p_ways:Has P w K mg base "ways" 4 ["sides"] (zGa K)):FnOk P w K mg base CX0 5 f fd ["sides"] (zDl K):=by
 refine F.ok zIo (fun vs H Q E h=>?_) (fun cdv A outer s H vs Q E hr h=>?_)
 ·obtain ⟨l,ss,rfl,_⟩:=h
  rfl
 obtain ⟨l,ss,rfl,hl,ok,h400,q⟩:=h
 have hu:=hr.units0
 refine ⟨_,(zAi (zAp (zTh (zG1 zIe (zAw zA1 rfl Z.len zDt (zAa (pv 0) zAd)) zAc (zAy _)) (zQu (zG1 (op_eqE hu) (zAf h_p_ways (hr.mono (by decide)) rfl (zAa (pv 0) zAd)) (zCz zAd) (zAy _)))))),?_⟩
 refine ⟨_,rfl,l,_,rfl,.inl hl,_,_,rfl,rfl,_,rfl,?_⟩
 rw [zAk]
 refine ifD (fun hpos=>?_) (fun hneg=>?_)
 ·refine ⟨_,rfl,l,ss,rfl,hl,ok,h400,fun p us H1 s1 hp wa=>?_⟩
  refine ⟨(by show 0≤sizeLine; decide),fun z hz=>?_⟩
  have sz:=zAe hz (.lst [])
  refine ⟨p,z,us.map (·.1),rfl,rfl,SqL.of (sz _ _ wa.at'),SqL.of zAb,q _ _ (s1.trans sz) ?_⟩
  have hne:ss≠[]:=fun z=>by rw [z] at hpos; exact absurd hpos (by decide)
  cases us with
  | nil=>exact ⟨fun _=>⟨hne,(fun k hk=>nomatch (wa.mem k).mpr hk)⟩,fun _=>rfl⟩
  | cons u us=>exact ⟨(fun z=>nomatch z),fun z=>absurd ((wa.mem u.2).mp (List.mem_map_of_mem List.mem_cons_self)) (z.2 u.2)⟩
 ·refine q false H (Same.refl _) ⟨(fun z=>nomatch z),fun z=>absurd (List.length_pos_iff.mpr z.1) (fun q=>hneg (by omega))⟩
def zI0 (K:PySem.W.Frag):Sp:=fun vs H Q _=>∃ (l:Addr) (ss:List Sd),vs = [.ref l]∧SqL K H l (zAo ss)∧SdOk H ss∧ss.length≤400 ∧
 ∀ (b:Bool) (H':Hp),Same H H'→(b = true↔(ss≠[]∧(∀ k,¬ WK ss ss.length k)∧∃ z:P3,0 < z.2.2∧inW ss z))→Q (.bl b) H'
theorem zMx (F:Fun K "closed" "closed" zFe f fd) (Z:Zs mg) (h_p_has_no_way:Has P w K mg base "has_no_way" 5 ["sides"] (zDl K)) (h_p_some_spot:Has P w K mg base "some_spot" 9 ["sides"] (zDy K)):FnOk P w K mg base CX0 10 f fd ["sides"] (zI0 K):=by
 refine F.ok zMn (fun vs H Q E h=>?_) (fun cdv A outer s H vs Q E hr h=>?_)
 ·obtain ⟨l,ss,rfl,_⟩:=h
  rfl
 obtain ⟨l,ss,rfl,hl,ok,h400,q⟩:=h
 refine ⟨_,(zAi (zAp (zTh (zAf h_p_has_no_way (hr.mono (by decide)) rfl (zAa (pv 0) zAd)) (zQu (zG1 zIw (zAf h_p_some_spot (hr.mono (by decide)) rfl (zAa (pv 0) zAd)) zB7 (zAy _)))))),?_⟩
 refine ⟨_,rfl,l,ss,rfl,hl,ok,h400,fun b H1 s1 hb=>⟨b,rfl,?_⟩⟩
 cases b with
 | false=>exact iteF (q false H1 s1 ⟨(fun z=>nomatch z),(fun z=>nomatch hb.mpr ⟨z.1,z.2.1⟩)⟩)
 | true =>
  have hb':=hb.mp rfl
  refine iteT ?_
  refine ⟨_,rfl,l,ss,rfl,s1.seq hl,ok.same s1,by omega,fun H2 s2 no=>?_,fun p P H2 s2 ep wp _=>?_⟩
  ·exact ⟨rfl,q false H2 (s1.trans s2) ⟨(fun z=>nomatch z),fun z=>by
    obtain ⟨y,hy,wy⟩:=z.2.2
    exact absurd wy (no y hy)⟩⟩
  ·exact ⟨rfl,q true H2 (s1.trans s2) ⟨fun _=>⟨hb'.1,hb'.2,P,ep.2.1,wp⟩,fun _=>rfl⟩⟩
theorem cBf {i j:Int} {m n:Nat} (hi:i.natAbs≤m) (hj:j.natAbs≤n) (h1:m < 2 ^ 4096) (h2:n < 2 ^ 4096):zKl i j:=⟨Nat.lt_of_le_of_lt hi h1,Nat.lt_of_le_of_lt hj h2⟩
theorem zP2 {a b c:Int} (ha:a.natAbs≤10 ^ 19) (hb:b.natAbs≤10 ^ 19) (hc:c.natAbs≤10 ^ 19):(2 * a ^ 2 * b * c).natAbs≤2 * 10 ^ 76∧(2 * a ^ 2 * b).natAbs≤2 * 10 ^ 57∧(2 * a ^ 2).natAbs≤2 * 10 ^ 38∧(a ^ 2).natAbs≤10 ^ 38:=by
 have e1:(10:Nat) ^ 19 * 10 ^ 19 = 10 ^ 38:=by decide +kernel
 have e2:2 * (10:Nat) ^ 38 * 10 ^ 19 = 2 * 10 ^ 57:=by decide +kernel
 have e3:2 * (10:Nat) ^ 57 * 10 ^ 19 = 2 * 10 ^ 76:=by decide +kernel
 have z0:=zAh a a ha ha
 rw [e1] at z0
 have ep:a ^ 2 = a * a:=by rw [Int.pow_succ,Int.pow_succ,Int.pow_zero,Int.one_mul]
 rw [ep]
 have z1:(2 * (a * a)).natAbs≤2 * 10 ^ 38:=by omega
 have z2:=zAh (2 * (a * a)) b z1 hb
 rw [e2] at z2
 have z3:=zAh (2 * (a * a) * b) c z2 hc
 rw [e3] at z3
 exact ⟨z3,z2,z1,z0⟩
def zF2 (K:PySem.W.Frag):Sp:=fun vs H Q _=>∃ (r s t:SpT),vs = [.ref r.1,.ref s.1,.ref t.1]∧SpOk H r∧SpOk H s∧SpOk H t∧Fine r.2∧Fine s.2∧Fine t.2 ∧
 ∀ (p:Addr) (x y:Int) (H':Hp),Same H H'→H p = none→H' p = some (.tup [.int x,.int y])→zEu (r.2.2.2 * c3 r.2 s.2 t.2) (2 * r.2.2.2 ^ 2 * s.2.2.2 * t.2.2.2) x y→Q (.ref p) H'
theorem zKh (F:Fun K "triangle" "triangle" zDr f fd) (Z:Zs mg) (h_p_part:Has P w K mg base "part" 4 ["top", "bottom"] (zD3 K)) (h_p_turn:Has P w K mg base "turn" 1 ["one", "other"] (zBz K)) (h_p_way_to:Has P w K mg base "way_to" 1 ["start", "end"] (zFv K)) (h_p_turn_B:Has P w K mg base "turn" 1 ["one", "other"] (zF0 K)):FnOk P w K mg base CX0 5 f fd ["first", "one", "other"] (zF2 K):=by
 refine F.ok zGo (fun vs H Q E h=>?_) (fun cdv A outer s H vs Q E hr h=>?_)
 ·obtain ⟨r,s,t,rfl,_⟩:=h
  rfl
 obtain ⟨r,u,t,rfl,okr,oku,okt,fr,fu,ft,q⟩:=h
 refine ⟨_,(zAg (zAr (i:=3) zGo.nd rfl (Or.inl rfl) (zAf h_p_turn_B (hr.mono (by decide)) rfl (zAa (zAf h_p_way_to (hr.mono (by decide)) rfl (zAa (pv 0) (zAa (pv 1) zAd))) (zAa (zAf h_p_way_to (hr.mono (by decide)) rfl (zAa (pv 0) (zAa (pv 2) zAd))) zAd))))
   (zAi (zAp (zAf h_p_part (hr.mono (by decide)) rfl (zAa (pv 3) (zAa (zAm zBy (zAm zBy (zAm zBy zAc (zAm zQ5 (zAn zAj (pv 0) zAc (fun _ _=>rfl)) zAc)) (zAn zAj (pv 1) zAc (fun _ _=>rfl))) (zAn zAj (pv 2) zAc (fun _ _=>rfl))) zAd)))))),?_⟩
 refine ⟨_,rfl,_,rfl,r,u,rfl,okr,oku,fun b1 b2 p1 hp1=>?_⟩
 have s1:=zAe hp1 (.tup [.int (wy r.2 u.2).1,.int (wy r.2 u.2).2])
 have e1:upd H p1 (.tup [.int (wy r.2 u.2).1,.int (wy r.2 u.2).2]) p1 = some (.tup [.int (wy r.2 u.2).1,.int (wy r.2 u.2).2]):=zAb
 generalize upd H p1 (.tup [.int (wy r.2 u.2).1,.int (wy r.2 u.2).2]) = H1 at s1 e1 ⊢
 refine ⟨_,rfl,_,rfl,r,t,rfl,okr.same s1,okt.same s1,fun b3 b4 p2 hp2=>?_⟩
 have s2:=zAe hp2 (.tup [.int (wy r.2 t.2).1,.int (wy r.2 t.2).2])
 have e2:upd H1 p2 (.tup [.int (wy r.2 t.2).1,.int (wy r.2 t.2).2]) p2 = some (.tup [.int (wy r.2 t.2).1,.int (wy r.2 t.2).2]):=zAb
 generalize upd H1 p2 (.tup [.int (wy r.2 t.2).1,.int (wy r.2 t.2).2]) = H2 at s2 e2 ⊢
 refine ⟨p1,p2,_,_,_,_,rfl,s2 _ _ e1,e2,b1,b2,b3,b4,?_⟩
 have s12:=s1.trans s2
 obtain ⟨z1,z2,z3,z4⟩:=zP2 fr.w fu.w ft.w
 have k1:2 * 10 ^ 57 < 2 ^ 4096:=by decide +kernel
 have k2:2 * 10 ^ 38 < 2 ^ 4096:=by decide +kernel
 have k3:10 ^ 19 < 2 ^ 4096:=by decide +kernel
 have k4:10 ^ 38 < 2 ^ 4096:=by decide +kernel
 have fqr:Sq K H2 r.1 [.int r.2.1,.int r.2.2.1,.int r.2.2.2]:=.inr (SqT.of (s12 _ _ okr.1))
 have fqu:Sq K H2 u.1 [.int u.2.1,.int u.2.2.1,.int u.2.2.2]:=.inr (SqT.of (s12 _ _ oku.1))
 have fqt:Sq K H2 t.1 [.int t.2.1,.int t.2.2.1,.int t.2.2.2]:=.inr (SqT.of (s12 _ _ okt.1))
 have hw:=fr.w
 have pz:=Int.mul_ne_zero (Int.mul_ne_zero (Int.mul_ne_zero (show (2:Int)≠0 by decide) (Int.pow_ne_zero (m:=2) (Int.ne_of_gt fr.pos))) (Int.ne_of_gt fu.pos)) (Int.ne_of_gt ft.pos)
 refine ⟨_,rfl,_,rfl,r.1,_,_,.int r.2.2.2,rfl,rfl,fqr,rfl,_,_,rfl,rfl,⟨by decide,by decide,Nat.lt_of_le_of_lt hw (by decide)⟩,_,_,rfl,rfl,cBf (m:=2) (n:=10 ^ 38) (by decide) z4 (by decide +kernel) k4,_,rfl,u.1,_,_,.int u.2.2.2,rfl,rfl,fqu,rfl,_,_,rfl,rfl,cBf z3 fu.w k2 k3,_,rfl,t.1,_,_,.int t.2.2.2,rfl,rfl,fqt,rfl,_,_,rfl,rfl,cBf z2 ft.w k1 k3,_,_,rfl,pz,Nat.lt_of_le_of_lt z1 (by decide +kernel),fun p x y H3 s3 hp ep po=>?_⟩
 refine q p x y H3 (s12.trans s3) (s12.free hp) ep ?_
 have e:(wy r.2 u.2).1 * (wy r.2 t.2).2 - (wy r.2 u.2).2 * (wy r.2 t.2).1 = r.2.2.2 * c3 r.2 u.2 t.2:=zQf r.2 u.2 t.2
 rw [e] at po
 exact po
structure RgA (ss:List Sd) (O:P3) (rest:List P3):Prop where
 rg:Rg ss O rest
 ah:∀ A∈rest,∀ a b:Nat,ahB (a,O) (b,A) = true
 few:rest.length + 1≤ss.length
def rAt (O:P3) (rest:List P3) (i:Nat):P3:=rest.getD i O
theorem zFq {O:P3} {rest:List P3} {i:Nat} (h:i < rest.length):rAt O rest i = rest[i]:=by
 unfold rAt
 rw [List.getD_eq_getElem?_getD,List.getElem?_eq_getElem h]
 rfl
theorem RgA.fine {ss:List Sd} {O:P3} {rest:List P3} (R:RgA ss O rest) (sm:∀ t∈ss,t.2.1.natAbs≤10 ^ 9∧t.2.2.1.natAbs≤10 ^ 9∧t.2.2.2.natAbs≤10 ^ 13):Fine O∧∀ i,Fine (rAt O rest i):=by
 have hO:=zN1 sm R.rg.cO
 refine ⟨hO,fun i=>?_⟩
 by_cases h:i < rest.length
 ·rw [zFq h]
  exact zN1 sm (R.rg.cA h)
 ·unfold rAt
  rw [List.getD_eq_getElem?_getD,List.getElem?_eq_none (by omega)]
  exact hO
theorem zT1 {s t:SpT} {a b:Nat} : ahB (a,s.2) (b,t.2) = ahB s t:=rfl
theorem rga_of {H:Hp} {D:Addr} {ss:List Sd} {O:SpT} {rest:List SpT} (nz:∀ t∈ss,t.2.1≠0∨t.2.2.1≠0) (ne:ss≠[]) (nw:∀ k,¬ WK ss ss.length k) (ra:zQt H D ss (O :: rest)):RgA ss O.2 (rest.map (·.2)):=by
 obtain ⟨hah,hpw⟩:=ra.first O rest rfl
 have nd:=ra.nodup
 rw [List.map_cons,List.nodup_cons] at nd
 refine ⟨⟨nz,ne,fun x y hxy=>zTi nz ne nw hxy,ra.mem,fun A hA=>?_,List.pairwise_map.mpr hpw⟩,fun A hA a b=>?_,?_⟩
 ·obtain ⟨a,ha,rfl⟩:=List.mem_map.mp hA
  exact ⟨fun z=>nd.1 (z ▸ List.mem_map_of_mem ha),zHu (hah a ha)⟩
 ·obtain ⟨t,ht,rfl⟩:=List.mem_map.mp hA
  rw [zT1]
  exact hah t ht
 ·have z:=ra.few
  rw [List.length_cons] at z
  rw [List.length_map]
  exact z
theorem zQ2 {H:Hp} {D:Addr} {ss:List Sd} {us:List SpT} (nz:∀ t∈ss,t.2.1≠0∨t.2.2.1≠0) (ne:ss≠[]) (nw:∀ k,¬ WK ss ss.length k) (ra:zQt H D ss us) {z:P3} (zw:0 < z.2.2) (zin:inW ss z):us≠[]:=fun e=>by
 subst e
 have q:=hull nz ne (fun x y hxy=>zTi nz ne nw hxy) (g:=(0,0,-1)) (fun C cC=>by have z:=(ra.mem C).mpr cC; cases z) zw zin
 unfold sv at q
 dsimp only at q
 omega
def zM1 (ss:List Sd) (v:V) (H:Hp):Prop :=
 ((∀ z:P3,0 < z.2.2→¬ inW ss z)∧∃ p,v = .ref p∧H p = some (.tup [.int 0,.int 1]))∨((∃ z:P3,0 < z.2.2∧inW ss z)∧¬ (ss≠[]∧∀ k,¬ WK ss ss.length k)∧v = .non) ∨
 ((∃ z:P3,0 < z.2.2∧inW ss z)∧(ss≠[]∧∀ k,¬ WK ss ss.length k)∧∃ (p:Addr) (s t:Int) (O:P3) (rest:List P3),RgA ss O rest∧v = .ref p∧H p = some (.tup [.int s,.int t])∧Fq s t (arS O (rAt O rest) (rest.length - 1)).1 (arB O (rAt O rest) (rest.length - 1)))
theorem ar_all {K:PySem.W.Frag} {H:Hp} {ss:List Sd} {Q:VK} (h:∀ (v:V) (H':Hp),zC8 K H H'→RTab K H'→zM1 ss v H'→Q v H') :
  (∀ (p:Addr) (H':Hp),zC8 K H H'→RTab K H'→(∀ z:P3,0 < z.2.2→¬ inW ss z)→H' p = some (.tup [.int 0,.int 1])→Q (.ref p) H') ∧
  (∀ H':Hp,zC8 K H H'→RTab K H'→(∃ z:P3,0 < z.2.2∧inW ss z)→¬ (ss≠[]∧∀ k,¬ WK ss ss.length k)→Q .non H') ∧
  ∀ (p:Addr) (x y:Int) (H':Hp) (O:P3) (rest:List P3),zC8 K H H'→RTab K H'→(∃ z:P3,0 < z.2.2∧inW ss z)→(ss≠[]∧∀ k,¬ WK ss ss.length k)→RgA ss O rest→H' p = some (.tup [.int x,.int y])→Fq x y (arS O (rAt O rest) (rest.length - 1)).1 (arB O (rAt O rest) (rest.length - 1))→Q (.ref p) H' :=
 ⟨fun p H' s t no e=>h _ _ s t (.inl ⟨no,p,rfl,e⟩),fun H' s t pl nc=>h _ _ s t (.inr (.inl ⟨pl,nc,rfl⟩)),fun p x y H' O rest s t pl cl R e f=>h _ _ s t (.inr (.inr ⟨pl,cl,p,x,y,O,rest,R,rfl,e,f⟩))⟩
theorem zM1.keep {ss:List Sd} {v:V} {H H':Hp} (h:zM1 ss v H) (k:∀ p xs,H p = some (.tup xs)→H' p = some (.tup xs)):zM1 ss v H':=by
 rcases h with ⟨no,p,e1,e2⟩ | h | ⟨pl,cl,p,s,t,O,rest,R,e1,e2,f⟩
 ·exact .inl ⟨no,p,e1,k _ _ e2⟩
 ·exact .inr (.inl h)
 ·exact .inr (.inr ⟨pl,cl,p,s,t,O,rest,R,e1,k _ _ e2,f⟩)
def zLr (K:PySem.W.Frag):Sp:=fun vs H Q _=>∃ (l:Addr) (ss:List Sd),vs = [.ref l]∧SqL K H l (zAo ss)∧SdOk H ss∧ss.length≤18∧RTab K H∧∀ (v:V) (H':Hp),zC8 K H H'→RTab K H'→zM1 ss v H'→Q v H'
theorem zPb (F:Fun K "area" "area" zHg f fd) (Z:Zs mg) (h_p_plus:Has P w K mg base "plus" 5 ["one", "other"] (zL0 K)) (h_p_triangle:Has P w K mg base "triangle" 5 ["first", "one", "other"] (zF2 K)) (h_p_part:Has P w K mg base "part" 4 ["top", "bottom"] (zD3 K)) (h_p_ring:Has P w K mg base "ring" 17 ["sides"] (zLv K)) (h_p_has_no_way:Has P w K mg base "has_no_way" 5 ["sides"] (zDl K)) (h_p_some_spot:Has P w K mg base "some_spot" 9 ["sides"] (zDy K)):FnOk P w K mg base CX0 18 f fd ["sides"] (zLr K):=by
 refine F.ok zE1 (fun vs H Q E h=>?_) (fun cdv A outer s H vs Q E hr h=>?_)
 ·obtain ⟨l,ss,rfl,_⟩:=h
  rfl
 obtain ⟨l,ss,rfl,hl,ok,h18,tab,qa⟩:=h
 obtain ⟨q1,q2,q3⟩:=ar_all (K:=K) qa
 have nz:∀ t∈ss,t.2.1≠0∨t.2.2.1≠0:=fun t ht=>(ok t ht).2.1
 have sm:∀ t∈ss,t.2.1.natAbs≤10 ^ 9∧t.2.2.1.natAbs≤10 ^ 9∧t.2.2.2.natAbs≤10 ^ 13:=fun t ht=>(ok t ht).2.2
 refine ⟨_,(zAg (zBj (zAu zM8 (zAf h_p_some_spot (hr.mono (by decide)) rfl (zAa (pv 0) zAd)) zB7 (zAy _)) (zAi (zAp (zAf h_p_part (hr.mono (by decide)) rfl (zAa zAc (zAa zAc zAd))))) zAx)
   (zAg (zBj (zJw (zEv (zAf h_p_has_no_way (hr.mono (by decide)) rfl (zAa (pv 0) zAd)))) (zAi (zAp zB7)) zAx)
   (zAg (zAr (i:=1) zE1.nd rfl (Or.inl rfl) (zAf h_p_ring (hr.mono (by decide)) rfl (zAa (pv 0) zAd)))
   (zAg (zAr (i:=2) zE1.nd rfl (Or.inl rfl) (zAf h_p_part (hr.mono (by decide)) rfl (zAa zAc (zAa zAc zAd))))
   (zAg (zCk PassesOwn.never rfl (zP5 rfl Z.range (zAa zAc (zAa (zAw zA1 rfl Z.len zDt (zAa (pv 1) zAd)) zAd))) (zAt (i:=3) zE1.nd rfl (Or.inl rfl)) (zAi (zAr (i:=2) zE1.nd rfl (Or.inl rfl) (zAf h_p_plus (hr.mono (by decide)) rfl (zAa (pv 2) (zAa (zAf h_p_triangle (hr.mono (by decide)) rfl (zAa (zAn zAj (pv 1) zAc (fun _ _=>rfl)) (zAa (zAn zAj (pv 1) (zAm zBw (pv 3) zAc) (fun _ _=>rfl)) (zAa (zAn zAj (pv 1) (pv 3) (fun _ _=>rfl)) zAd)))) zAd))))))
   (zAi (zAp (pv 2)))))))),?_⟩
 refine ⟨_,rfl,l,ss,rfl,hl,ok,by omega,fun H1 s1 no=>?_,fun sp P H1 s1 asp wsp csp=>?_⟩
 ·refine ⟨rfl,_,rfl,?_⟩
  refine iteT ?_
  refine ⟨0,1,rfl,by decide,by decide +kernel,fun p x y H2 s2 hp ep po=>?_⟩
  obtain ⟨rfl,rfl⟩:=zL3 (c:=0) (b:=1) po
  exact q1 p H2 (zC8.of (s1.trans s2)) (tab.same (s1.trans s2)) no ep
 ·refine ⟨rfl,_,rfl,?_⟩
  refine iteF ?_
  have pl:∃ z:P3,0 < z.2.2∧inW ss z:=⟨P,asp.2.1,wsp⟩
  refine ⟨_,rfl,l,ss,rfl,s1.seq hl,ok.same s1,by omega,fun b H2 s2 hb=>?_⟩
  cases b with
  | false =>
   refine ⟨_,rfl,?_⟩
   refine iteT ?_
   exact q2 H2 (zC8.of (s1.trans s2)) (tab.same (s1.trans s2)) pl fun z=>absurd (hb.mpr z) Bool.false_ne_true
  | true =>
   refine ⟨_,rfl,?_⟩
   refine iteF ?_
   obtain ⟨hne,hnw⟩:=hb.mp rfl
   have s12:=s1.trans s2
   refine ⟨_,rfl,l,ss,rfl,s12.seq hl,ok.same s12,by omega,tab.same s12,fun D us H3 s3 hD tab3 ra=>?_⟩
   have une:=zQ2 nz hne hnw ra asp.2.1 wsp
   have sT3:zC8 K H H3:=(zC8.of s12).trans s3
   refine ⟨0,1,rfl,by decide,by decide +kernel,fun tp x y H4 s4 htp etp po=>?_⟩
   obtain ⟨rfl,rfl⟩:=zL3 (c:=0) (b:=1) po
   obtain ⟨O,rest,rfl⟩:=List.exists_cons_of_ne_nil une
   have R:=rga_of nz hne hnw ra
   obtain ⟨fO,fr⟩:=R.fine sm
   have few:rest.length≤17:=by have z:=ra.few; rw [List.length_cons] at z; omega
   have lm:(rest.map (·.2)).length = rest.length:=List.length_map _
   have eD4:=s4 _ _ ra.at'
   have lr:(zAv (O :: rest)).length = rest.length + 1:=by show (List.map _ (O :: rest)).length = _; rw [List.length_map,List.length_cons]
   have Bp:∀ j,0 < arB O.2 (rAt O.2 (rest.map (·.2))) j:=fun j=>zMp fO.pos fun i _=>(fr i).pos
   refine ⟨_,rfl,D,_,rfl,.inl (SqL.of eD4),2,_,rfl,(by rw [lr]; omega),?_⟩
   refine zD6 (lo:=2) (n:=(((zAv (O :: rest)).length:Int) - 2).toNat) (fun j σ H'=>Same H4 H'∧∃ (tq:Addr) (x y:Int),H' tq = some (.tup [.int x,.int y])∧Fq x y (arS O.2 (rAt O.2 (rest.map (·.2))) j).1 (arB O.2 (rAt O.2 (rest.map (·.2))) j)∧∃ u3:Option V,σ = [some (.ref l),some (.ref D),some (.ref tq),u3])
    ⟨Same.refl _,tp,0,1,etp,⟨by decide,rfl,by rw [show (arS O.2 (rAt O.2 (rest.map (·.2))) 0).1 = 0 from rfl]; simp⟩,none,rfl⟩ ?_ ?_
   ·rintro j σ H5 hj ⟨s5,tq,x1,y1,etq,fq,u3,rfl⟩
    rw [lr] at hj
    have hj1:j + 1 < rest.length:=by omega
    have eD5:=s5 _ _ eD4
    have okA:∀ t∈O :: rest,SpOk H5 t:=fun t ht=>((ra.ok t ht).1.same s4).same s5
    have at0:atI (zAv (O :: rest)) 0 = some (.ref O.1):=zDm (j:=0) rfl
    have atk:∀ k:Nat,(h:k < rest.length)→∀ i:Int,i = ((k + 1:Nat):Int)→atI (zAv (O :: rest)) i = some (.ref rest[k].1):=fun k h i e=>by
     rw [e]
     refine zDm ?_
     unfold zAv
     rw [List.getElem?_map,List.getElem?_cons_succ,List.getElem?_eq_getElem h]
     rfl
    have e1:rAt O.2 (rest.map (·.2)) j = (rest[j]'(by omega)).2:=by rw [zFq (by rw [lm]; omega),List.getElem_map]
    have e2:rAt O.2 (rest.map (·.2)) (j + 1) = (rest[j + 1]).2:=by rw [zFq (by rw [lm]; omega),List.getElem_map]
    have sq:Sq K H5 D (zAv (O :: rest)):=.inl (SqL.of eD5)
    refine ⟨_,rfl,_,rfl,D,_,_,.ref O.1,rfl,rfl,sq,at0,_,rfl,_,rfl,_,_,rfl,rfl,D,_,_,.ref (rest[j]'(by omega)).1,rfl,rfl,sq,atk j (by omega) _ (by omega),_,rfl,_,rfl,D,_,_,.ref rest[j + 1].1,rfl,rfl,sq,atk (j + 1) hj1 _ (by omega),O,rest[j]'(by omega),rest[j + 1],rfl,okA _ (.head _),okA _ (.tail _ (List.getElem_mem _)),okA _ (.tail _ (List.getElem_mem _)),fO,by rw [← e1]; exact fr j,by rw [← e2]; exact fr (j + 1),fun p x2 y2 H6 s6 hp ep po=>?_⟩
    have y1b:=Nat.le_trans (fq.yle (Int.ne_of_gt (Bp j))) (arB_le fO (by omega) fun i _=>fr i)
    have x1b:=Nat.le_trans (fq.xle (Int.ne_of_gt (Bp j))) (arN_le fO (by omega) fun i _=>fr i)
    have fw1:(rest[j]'(by omega)).2.2.2.natAbs≤10 ^ 19:=by have z:=(fr j).w; rwa [e1] at z
    have fw2:rest[j + 1].2.2.2.natAbs≤10 ^ 19:=by have z:=(fr (j + 1)).w; rwa [e2] at z
    have y2b:=Nat.le_trans po.yle (zP2 fO.w fw1 fw2).1
    have x2b:x2.natAbs≤10 ^ 85:=by
     refine Nat.le_trans po.xle (Nat.le_trans (zAh _ _ fO.w (zPg fO (by rw [← e1]; exact fr j) (by rw [← e2]; exact fr (j + 1)))) (by decide +kernel))
    have p1:=fq.pos
    have p2:=po.pos
    refine ⟨tq,p,x1,y1,x2,y2,rfl,s6 _ _ etq,ep,Nat.le_trans x1b (by decide +kernel),Nat.le_trans y1b (by decide +kernel),Nat.le_trans x2b (by decide +kernel),Nat.le_trans y2b (by decide +kernel),by omega,by omega,Nat.lt_of_le_of_lt (zAh _ _ y1b y2b) (by decide +kernel),fun tr x y H7 s7 htr etr pr=>?_⟩
    refine ⟨(s5.trans s6).trans s7,tr,x,y,etr,?_,_,rfl⟩
    refine Fq.plus fO.pos (fr j).pos fq ?_ pr
    rw [e1,e2]
    exact po
   ·rintro σ H5 ⟨s5,tq,x,y,etq,fq,u3,rfl⟩
    have em:(((zAv (O :: rest)).length:Int) - 2).toNat = (rest.map (·.2)).length - 1:=by rw [lr,lm]; omega
    rw [em] at fq
    refine ⟨_,rfl,?_⟩
    have s35:=s4.trans s5
    exact q3 tq x y H5 O.2 (rest.map (·.2)) (sT3.trans (zC8.of s35)) (tab3.same s35) pl ⟨hne,hnw⟩ R etq fq
def zIr (K:PySem.W.Frag):Sp:=fun vs H Q _=>∃ (a:Addr) (us:List V) (x y:Int),vs = [.ref a]∧Sq K H a us∧atI us 0 = some (.int x)∧atI us 1 = some (.int y)∧Q (.int (zBd x y)) H
theorem zRj (F:Fun K "span" "span" zHh f fd) (Z:Zs mg)  : FnOk P w K mg base CX0 1 f fd ["direction"] (zIr K):=by
 refine F.ok zRr (fun vs H Q E h=>?_) (fun cdv A outer s H vs Q E hr h=>?_)
 ·obtain ⟨a,us,x,y,rfl,_⟩:=h
  rfl
 obtain ⟨a,us,x,y,rfl,ha,h0,h1,q⟩:=h
 refine ⟨_,(zAi (zAp (zAm zB1 (zAw zB2 rfl Z.abs zEt (zAa (zAn zAj (pv 0) zAc (fun _ _=>rfl)) zAd)) (zAw zB2 rfl Z.abs zEt (zAa (zAn zAj (pv 0) zAc (fun _ _=>rfl)) zAd))))),?_⟩
 exact ⟨_,rfl,a,_,_,.int x,rfl,rfl,ha,h0,_,rfl,_,rfl,a,_,_,.int y,rfl,rfl,ha,h1,_,rfl,_,_,rfl,rfl,q⟩
def zEz (K:PySem.W.Frag):Sp:=fun vs H Q _=>∃ (a b:Addr) (ns ws:List Int),vs = [.ref a,.ref b]∧SqL K H a (ns.map V.int)∧SqL K H b (ws.map V.int)∧ns.length = ws.length∧ws.length≤900∧0 < gcdL ws∧(gcdL ws:Int) < 10 ^ 600 ∧
 ∀ (D:Addr) (cs:List Pr) (H':Hp),Same H H'→H D = none→H' D = some (.lst (zGj cs))→PrAt H' cs→cs.map (·.2) = ns.zip (lowL ws)→Q (.ref D) H'
theorem zLq (F:Fun K "weighed" "weighed" zEl f fd) (Z:Zs mg) (h_p_lowest:Has P w K mg base "lowest" 2 ["numbers"] (zCm K)):FnOk P w K mg base CX0 3 f fd ["numbers", "weights"] (zEz K):=by
 refine F.ok zHa (fun vs H Q E h=>?_) (fun cdv A outer s H vs Q E hr h=>?_)
 ·obtain ⟨a,b,ns,ws,rfl,_⟩:=h
  rfl
 obtain ⟨a,b,ns,ws,rfl,ha,hb,hn,hl,hg,hg2,q⟩:=h
 refine ⟨_,(zAg (zAr (i:=2) zHa.nd rfl (Or.inr rfl) (zAf h_p_lowest (hr.mono (by decide)) rfl (zAa (pv 1) zAd)))
   (zAi (zAp (zEq (T:=["at"]) (caps:=[("least", 2),("numbers", 0)]) ⟨rfl,by decide +kernel,by decide +kernel,rfl,⟨⟨rfl,rfl,Or.inl rfl⟩,⟨rfl,rfl,Or.inl rfl⟩,True.intro⟩⟩ rfl (zDj rfl Z.range (zAa (zAw zA1 rfl Z.len zDt (zAa (pv 0) zAd)) zAd)) (fun _=>(zAt (i:=0) (show (["at", "least", "numbers"]:List Str).Nodup by decide +kernel) rfl (Or.inl rfl))) (fun _=>zCc) (fun _=>(zBe (zAa (zAn zAj (pv 2) (pv 0) (fun _ _=>rfl)) (zAa (zAn zAj (pv 1) (pv 0) (fun _ _=>rfl)) zAd)))))))),?_⟩
 refine ⟨_,rfl,b,ws,rfl,.inl hb,by omega,hg,hg2,fun p H1 s1 hp ep=>?_⟩
 have hlow:(lowL ws).length = ws.length:=by unfold lowL; rw [List.length_map]
 have ha1:=s1.seq ha
 refine ⟨_,rfl,a,_,rfl,.inl ha1,_,rfl,(by rw [List.length_map]; omega),(by rw [List.length_map]; omega),fun cc D hD=>zH8 (lo:=0) (n:=(((ns.map V.int).length:Nat):Int).toNat) (fun i σ ys G=>Same H1 G∧G D = some (.lst ys)∧(∃ cs:List Pr,ys = zGj cs∧PrAt G cs∧cs.map (·.2) = (ns.zip (lowL ws)).take i)∧∃ u0:Option V,σ = [u0,some (.ref p),some (.ref a)])
  ⟨zAe hD _,zAb,⟨[],rfl,(fun t ht=>nomatch ht),rfl⟩,none,rfl⟩ (fun i σ ys G _ ⟨_,e,_⟩=>e) ?_ ?_⟩
 ·rintro i σ ys G hi ⟨sG,eD,⟨cs,rfl,okc,mc⟩,u0,rfl⟩
  rw [Int.toNat_natCast,List.length_map] at hi
  have lc:cs.length≤i:=by
   have z:=congrArg List.length mc
   rw [List.length_map,List.length_take] at z
   omega
  obtain ⟨n,gn,an⟩:=zQb (ns:=ns) (i:=i) (k:=0 + (i:Int)) (by omega) hi
  obtain ⟨m,gm,am⟩:=zQb (ns:=lowL ws) (i:=i) (k:=0 + (i:Int)) (by omega) (by omega)
  refine ⟨_,rfl,_,rfl,a,_,_,_,rfl,rfl,.inl (sG.seq ha1),an,_,rfl,_,rfl,p,_,_,_,rfl,rfl,.inr (SqT.of (sG _ _ ep)),am,(by show 2≤sizeLine; decide),fun t ht=>?_⟩
  have st:=zAe ht (.tup [.int n,.int m])
  have ntD:t≠D:=fun z=>by rw [z,eD] at ht; cases ht
  refine ⟨st _ _ eD,zA2 (by rw [zKo]; omega),(sG.trans st).putNew hD,zAb,⟨cs ++ [(t,n,m)],by simp [zGj],fun u hu=>?_,?_⟩,_,rfl⟩
  ·rcases List.mem_append.mp hu with hu | hu
   ·rw [zAs (zI4 (st _ _ (okc u hu)) (st _ _ eD) (by intro z; cases z))]
    exact st _ _ (okc u hu)
   ·rw [List.mem_singleton] at hu
    subst hu
    show upd _ D _ t = _
    rw [zAs ntD]
    exact zAb
  ·rw [List.map_append,mc,zBi (x:=(n,m)) (by rw [List.getElem?_zip_eq_some]; exact ⟨gn,gm⟩)]
   rfl
 ·rintro σ ys G ⟨sG,eD,⟨cs,rfl,okc,mc⟩,u0,rfl⟩
  rw [Int.toNat_natCast,List.length_map,List.take_of_length_le (by rw [List.length_zip]; omega)] at mc
  exact q D cs G (s1.trans sG) (s1.free hD) eD okc mc
theorem zQp {a b c d:Int} (ha:a.natAbs≤10 ^ 9) (hb:b.natAbs≤10 ^ 9) (hc:c.natAbs≤10 ^ 9) (hd:d.natAbs≤10 ^ 9):absI (a * b - c * d)≤10 ^ 19:=by
 have z1:=zAh a b ha hb
 have z2:=zAh c d hc hd
 unfold absI
 split <;> omega
def zDi (K:PySem.W.Frag):Sp:=fun vs H Q _=>∃ (l:Addr) (ss:List Sd) (j:Nat) (e:Sd) (P:P3),vs = [.ref l,.int j]∧SqL K H l (zAo ss)∧SdOk H ss∧ss.length≤900∧zSb ss j e P∧(∀ t∈ss.take j,tn e.2 t.2 = 0→sv t.2 (pt3 (ftL e.2))≤0) ∧
 ∀ (D:Addr) (cs:List Pr) (H':Hp),Same H H'→H D = none→H' D = some (.lst (zGj cs))→PrAt H' cs→zMw ss (cs.map (·.2))→Q (.ref D) H'
theorem zFs (F:Fun K "clash_of_three" "clash_of_three" zBn f fd) (Z:Zs mg) (h_p_weighed:Has P w K mg base "weighed" 3 ["numbers", "weights"] (zEz K)) (h_p_turn:Has P w K mg base "turn" 1 ["one", "other"] (zBz K)) (h_p_edge_end:Has P w K mg base "edge_end" 5 ["sides", "edge", "hand"] (zDc K)):FnOk P w K mg base CX0 6 f fd ["sides", "last"] (zDi K):=by
 refine F.ok zA5 (fun vs H Q E h=>?_) (fun cdv A outer s H vs Q E hr h=>?_)
 ·obtain ⟨l,ss,j,e,P,rfl,_⟩:=h
  rfl
 obtain ⟨l,ss,j,e,P,rfl,hl,ok,hlen,st,bes,q⟩:=h
 have hj:j < ss.length:=(List.getElem?_eq_some_iff.mp st.at').1
 obtain ⟨e',me,ge,at'⟩:=zBf (ss:=ss) (i:=j) (k:=(j:Int)) rfl hj
 rw [st.at'] at ge
 cases ge
 obtain ⟨ee,ne,c1,c2,c3⟩:=ok e me
 have hN:=zC2 ne
 obtain ⟨sf,f1⟩:=zUp ne
 refine ⟨_,(zAg (zAr (i:=2) zA5.nd rfl (Or.inl rfl) (zAn zAj (pv 0) (pv 1) (fun _ _=>rfl)))
   (zAg (zAr (i:=3) zA5.nd rfl (Or.inl rfl) (zAw zLg rfl Z.sorted zCy (zAa (zCz (zAa (zAf h_p_edge_end (hr.mono (by decide)) rfl (zAa (zBp zC0 (pv 0) zCf (zCi (pv 1))) (zAa (pv 2) (zAa (zMq zIn zAc) zAd)))) (zAa (zAf h_p_edge_end (hr.mono (by decide)) rfl (zAa (zBp zC0 (pv 0) zCf (zCi (pv 1))) (zAa (pv 2) (zAa zAc zAd)))) zAd))) zAd)))
   (zAg (zAr (i:=4) zA5.nd rfl (Or.inl rfl) (zAn zAj (pv 0) (zAn zAj (pv 3) zAc (fun _ _=>rfl)) (fun _ _=>rfl)))
   (zAg (zAr (i:=5) zA5.nd rfl (Or.inl rfl) (zAn zAj (pv 0) (zAn zAj (pv 3) zAc (fun _ _=>rfl)) (fun _ _=>rfl)))
   (zAg (zAr (i:=6) zA5.nd rfl (Or.inl rfl) (zCz (zAa (zAw zB2 rfl Z.abs zEt (zAa (zAf h_p_turn (hr.mono (by decide)) rfl (zAa (pv 5) (zAa (pv 2) zAd))) zAd)) (zAa (zAw zB2 rfl Z.abs zEt (zAa (zAf h_p_turn (hr.mono (by decide)) rfl (zAa (pv 2) (zAa (pv 4) zAd))) zAd)) (zAa (zAw zB2 rfl Z.abs zEt (zAa (zAf h_p_turn (hr.mono (by decide)) rfl (zAa (pv 4) (zAa (pv 5) zAd))) zAd)) zAd)))))
   (zAi (zAp (zAf h_p_weighed (hr.mono (by decide)) rfl (zAa (zAm zL1 (pv 3) (zCz (zAa (pv 1) zAd))) (zAa (pv 6) zAd)))))))))),?_⟩
 refine ⟨_,rfl,_,rfl,l,_,_,_,rfl,rfl,.inl hl,at',?_⟩
 refine ⟨_,rfl,_,rfl,_,rfl,l,_,rfl,hl,fun c hc=>?_⟩
 rw [zMz]
 have sc:=zAe hc (.lst (zAo (ss.take j)))
 have ec:upd H c (.lst (zAo (ss.take j))) c = some (.lst (zAo (ss.take j))):=zAb
 generalize upd H c (.lst (zAo (ss.take j))) = H1 at sc ec ⊢
 refine ⟨_,rfl,_,rfl,c,e.1,ss.take j,e.2,-1,rfl,SqL.of ec,(fun u hu=>ok.same sc u (List.mem_of_mem_take hu)),by rw [List.length_take]; omega,.inr (SqT.of (sc _ _ ee)),ne,c1,c2,c3,.inr rfl,fun r1 H2 s2 k1=>?_⟩
 have sH2:=sc.trans s2
 refine ⟨_,rfl,_,rfl,_,rfl,l,_,rfl,sH2.seq hl,fun d hd=>?_⟩
 rw [zMz]
 have sd:=zAe hd (.lst (zAo (ss.take j)))
 have ed:upd H2 d (.lst (zAo (ss.take j))) d = some (.lst (zAo (ss.take j))):=zAb
 generalize upd H2 d (.lst (zAo (ss.take j))) = H3 at sd ed ⊢
 have sH3:=sH2.trans sd
 refine ⟨_,rfl,d,e.1,ss.take j,e.2,1,rfl,SqL.of ed,(fun u hu=>ok.same sH3 u (List.mem_of_mem_take hu)),by rw [List.length_take]; omega,.inr (SqT.of (sH3 _ _ ee)),ne,c1,c2,c3,.inl rfl,fun r2 H4 s4 k2=>?_⟩
 have sH4:=sH3.trans s4
 obtain ⟨i1,rfl⟩:∃ i1,r1 = some i1:=by
  cases r1 with
  | some i1=>exact ⟨i1,rfl⟩
  | none=>exact (zM9 (h:=-1) (by decide) hN f1 sf.pos st.no bes k1 (show zHd (ss.take j) e.2 (- -1) r2 from k2)).elim
 obtain ⟨i2,rfl⟩:∃ i2,r2 = some i2:=by
  cases r2 with
  | some i2=>exact ⟨i2,rfl⟩
  | none=>exact (zM9 (h:=1) (by decide) hN f1 sf.pos st.no bes k2 k1).elim
 obtain ⟨a,ga,ha,ta⟩:=k1
 obtain ⟨b,gb,hb,tb⟩:=k2
 refine ⟨(by show 2≤sizeLine; decide),fun nl hnl=>?_⟩
 have snl:Same H4 (upd H4 nl (.lst [optV (some i1),optV (some i2)])):=zAe hnl _
 have enl:upd H4 nl (.lst [optV (some i1),optV (some i2)]) nl = some (.lst ([(i1:Int),(i2:Int)].map V.int)):=zAb
 generalize upd H4 nl (.lst [optV (some i1),optV (some i2)]) = H5 at snl enl ⊢
 have sH5:=sH4.trans snl
 refine ⟨nl,[(i1:Int),(i2:Int)],rfl,SqL.of enl,(by show 2 < 64; decide),fun sn ms hsn pm pw=>?_⟩
 have di:i1≠i2:=fun z=>by
  rw [z,gb] at ga
  cases ga
  omega
 obtain ⟨x,y,s1,t1,h,rfl,hxy,gx,gy,h1,hs1,ht1,as1,at1⟩:∃ (x y:Nat) (s1 t1:Sd) (h:Int),ms = [(x:Int),(y:Int)]∧x < y∧(ss.take j)[x]? = some s1∧(ss.take j)[y]? = some t1∧(h = 1∨h = -1)∧0 < tn e.2 s1.2 * h∧0 < tn e.2 t1.2 * -h ∧
   (∀ u∈ss.take j,0 < tn e.2 u.2 * h→sv u.2 (pt3 (crL e.2 s1.2))≤0)∧(∀ u∈ss.take j,0 < tn e.2 u.2 * -h→sv u.2 (pt3 (crL e.2 t1.2))≤0):=by
  rcases zFg pm pw with ⟨rfl,le⟩ | ⟨rfl,le⟩
  ·exact ⟨i1,i2,a,b,-1,rfl,by omega,ga,gb,.inr rfl,ha,hb,ta,tb⟩
  ·exact ⟨i2,i1,b,a,1,rfl,by omega,gb,ga,.inl rfl,hb,ha,tb,ta⟩
 have hh:h * h = 1:=by rcases h1 with rfl | rfl <;> rfl
 obtain ⟨A1,A2,A3,A4⟩:=three hh hN f1 sf.pos st.no bes (List.mem_of_getElem? gx) (List.mem_of_getElem? gy) hs1 ht1 as1 at1 st.pos st.ahead st.out
 have gx':ss[x]? = some s1∧x < j:=by
  rw [List.getElem?_take] at gx
  split at gx
  ·exact ⟨gx,by omega⟩
  ·cases gx
 have gy':ss[y]? = some t1∧y < j:=by
  rw [List.getElem?_take] at gy
  split at gy
  ·exact ⟨gy,by omega⟩
  ·cases gy
 obtain ⟨_,mx,gx2,atx⟩:=zBf (ss:=ss) (i:=x) (k:=(x:Int)) rfl (by omega)
 rw [gx'.1] at gx2
 cases gx2
 obtain ⟨_,my,gy2,aty⟩:=zBf (ss:=ss) (i:=y) (k:=(y:Int)) rfl (by omega)
 rw [gy'.1] at gy2
 cases gy2
 obtain ⟨es,ns,d1,d2,d3⟩:=ok s1 mx
 obtain ⟨et,nt,g1,g2,g3⟩:=ok t1 my
 have ssn:Same H5 (upd H5 sn (.lst ([(x:Int),(y:Int)].map V.int))):=zAe hsn _
 have esn:upd H5 sn (.lst ([(x:Int),(y:Int)].map V.int)) sn = some (.lst ([(x:Int),(y:Int)].map V.int)):=zAb
 generalize upd H5 sn (.lst ([(x:Int),(y:Int)].map V.int)) = H6 at ssn esn ⊢
 have sH6:=sH5.trans ssn
 have hl6:Sq K H6 l (zAo ss):=.inl (sH6.seq hl)
 have ee6:Sq K H6 e.1 [.int e.2.1,.int e.2.2.1,.int e.2.2.2]:=.inr (SqT.of (sH6 _ _ ee))
 have es6:Sq K H6 s1.1 [.int s1.2.1,.int s1.2.2.1,.int s1.2.2.2]:=.inr (SqT.of (sH6 _ _ es))
 have et6:Sq K H6 t1.1 [.int t1.2.1,.int t1.2.2.1,.int t1.2.2.2]:=.inr (SqT.of (sH6 _ _ et))
 refine ⟨_,rfl,_,rfl,sn,_,_,.int (x:Int),rfl,rfl,.inl (SqL.of esn),rfl,l,_,_,_,rfl,rfl,hl6,atx,?_⟩
 refine ⟨_,rfl,_,rfl,sn,_,_,.int (y:Int),rfl,rfl,.inl (SqL.of esn),rfl,l,_,_,_,rfl,rfl,hl6,aty,?_⟩
 refine ⟨_,rfl,_,rfl,t1.1,e.1,_,_,t1.2.1,t1.2.2.1,e.2.1,e.2.2.1,rfl,et6,ee6,rfl,rfl,rfl,rfl,by omega,by omega,_,rfl,
  _,rfl,_,rfl,e.1,s1.1,_,_,e.2.1,e.2.2.1,s1.2.1,s1.2.2.1,rfl,ee6,es6,rfl,rfl,rfl,rfl,by omega,by omega,_,rfl,
  _,rfl,_,rfl,s1.1,t1.1,_,_,s1.2.1,s1.2.2.1,t1.2.1,t1.2.2.1,rfl,es6,et6,rfl,rfl,rfl,rfl,by omega,by omega,_,rfl,(by show 3≤sizeLine; decide),fun wl hwl=>?_⟩
 refine ⟨_,rfl,_,rfl,(by show 1≤sizeLine; decide),fun ol hol=>?_⟩
 have swl:=zAe hwl (.lst ([absI (tn t1.2 e.2),absI (tn e.2 s1.2),absI (tn s1.2 t1.2)].map V.int))
 have sol:=zAe hol (.lst [.int (j:Int)])
 refine ⟨sn,ol,_,_,rfl,rfl,sol _ _ (swl _ _ esn),zAb,small (by show 2 + 1≤1000; decide),fun nc hnc=>?_⟩
 have snc:=zAe hnc (.lst ([(x:Int),(y:Int),(j:Int)].map V.int))
 have pU:0 < absI (tn t1.2 e.2):=by rw [zBm h1 A1]; exact A1
 have pV:0 < absI (tn e.2 s1.2):=by rw [zBm h1 A2]; exact A2
 have pX:0 < absI (tn s1.2 t1.2):=by rw [zBm h1 A3]; exact A3
 have bU:absI (tn t1.2 e.2)≤10 ^ 19:=zQp g1 c2 g2 c1
 have bV:absI (tn e.2 s1.2)≤10 ^ 19:=zQp c1 d2 c2 d1
 have bX:absI (tn s1.2 t1.2)≤10 ^ 19:=zQp d1 g2 d2 g1
 have gk:=zS5 (ws:=[absI (tn t1.2 e.2),absI (tn e.2 s1.2),absI (tn s1.2 t1.2)]) (List.mem_cons_self ..) pU (by omega)
 refine ⟨_,rfl,nc,wl,[(x:Int),(y:Int),(j:Int)],[absI (tn t1.2 e.2),absI (tn e.2 s1.2),absI (tn s1.2 t1.2)],rfl,SqL.of zAb,SqL.of (snc _ _ (sol _ _ zAb)),rfl,(by show 3≤900; decide),gk.1,gk.2,fun D cs H' s' hD eD okc mc=>?_⟩
 have sAll:=((swl.trans sol).trans snc).trans s'
 have sBack:=(swl.trans sol).trans snc
 refine q D cs H' (sH6.trans sAll) (sH6.free (sBack.free hD)) eD okc ?_
 rw [mc]
 obtain ⟨w1,w2⟩:=zN4 s1.2 t1.2 e.2
 have f:∀ a b c:Int,tn t1.2 e.2 * h * a + tn e.2 s1.2 * h * b + tn s1.2 t1.2 * h * c = (tn t1.2 e.2 * a + tn e.2 s1.2 * b + tn s1.2 t1.2 * c) * h:=fun a b c=>by
  rw [Int.add_mul,Int.add_mul,Int.mul_right_comm,Int.mul_right_comm (tn e.2 s1.2),Int.mul_right_comm (tn s1.2 t1.2)]
 refine zMv hxy gy'.2 gx'.1 gy'.1 st.at' pU pV pX bU bV bX ?_ ?_ ?_
 ·rw [zBm h1 A1,zBm h1 A2,zBm h1 A3,f]
  have w1':tn t1.2 e.2 * s1.2.1 + tn e.2 s1.2 * t1.2.1 + tn s1.2 t1.2 * e.2.1 = 0:=w1
  rw [w1',Int.zero_mul]
 ·rw [zBm h1 A1,zBm h1 A2,zBm h1 A3,f]
  have w2':tn t1.2 e.2 * s1.2.2.1 + tn e.2 s1.2 * t1.2.2.1 + tn s1.2 t1.2 * e.2.2.1 = 0:=w2
  rw [w2',Int.zero_mul]
 ·rw [zBm h1 A1,zBm h1 A2,zBm h1 A3,f]
  exact A4
def zJ1 (K:PySem.W.Frag):Sp:=fun vs H Q _=>∃ (l:Addr) (ss:List Sd),vs = [.ref l]∧SqL K H l (zAo ss)∧SdOk H ss∧ss.length≤900 ∧
 (∀ (P:P3) (H':Hp),Same H H'→0 < P.2.2→inW ss P→Cand ss P→Q .non H') ∧
 ∀ (D:Addr) (cs:List Pr) (H':Hp),Same H H'→H D = none→H' D = some (.lst (zGj cs))→PrAt H' cs→zMw ss (cs.map (·.2))→Q (.ref D) H'
theorem zO6 (F:Fun K "clash" "clash" zF8 f fd) (Z:Zs mg) (h_p_clash_of_three:Has P w K mg base "clash_of_three" 6 ["sides", "last"] (zDi K)) (h_p_turn:Has P w K mg base "turn" 1 ["one", "other"] (zBz K)) (h_p_holds:Has P w K mg base "holds" 2 ["side", "spot"] (zD1 K)) (h_p_foot:Has P w K mg base "foot" 5 ["side"] (zIp K)) (h_p_weighed:Has P w K mg base "weighed" 3 ["numbers", "weights"] (zEz K)) (h_p_span:Has P w K mg base "span" 1 ["direction"] (zIr K)) (h_p_sought:Has P w K mg base "sought" 8 ["sides"] (zFw K)):FnOk P w K mg base CX0 9 f fd ["sides"] (zJ1 K):=by
 refine F.ok zD9 (fun vs H Q E h=>?_) (fun cdv A outer s H vs Q E hr h=>?_)
 ·obtain ⟨l,ss,rfl,_⟩:=h
  rfl
 obtain ⟨l,ss,rfl,hl,ok,hlen,qn,q⟩:=h
 refine ⟨_,(zAg (zAr (i:=1) zD9.nd rfl (Or.inl rfl) (zAn zAj (zAf h_p_sought (hr.mono (by decide)) rfl (zAa (pv 0) zAd)) zAc (fun _ _=>rfl)))
   (zAg (zBj (zAu zM8 (pv 1) zB7 (zAy _)) (zAi (zAp zB7)) zAx)
   (zAg (zAr (i:=2) zD9.nd rfl (Or.inl rfl) (zAn zAj (pv 0) (pv 1) (fun _ _=>rfl)))
   (zAg (zCk PassesOwn.never rfl (zDj rfl Z.range (zAa (pv 1) zAd)) (zAt (i:=3) zD9.nd rfl (Or.inl rfl)) (zAg (zAr (i:=4) zD9.nd rfl (Or.inl rfl) (zAn zAj (pv 0) (pv 3) (fun _ _=>rfl)))
   (zAi (zBj (PW.pt (zGu (zAu zFu (zAf h_p_turn (hr.mono (by decide)) rfl (zAa (pv 2) (zAa (pv 4) zAd))) zAc (zAy _)) (zEg (zJw (zEv (zAf h_p_holds (hr.mono (by decide)) rfl (zAa (pv 4) (zAa (zAf h_p_foot (hr.mono (by decide)) rfl (zAa (pv 2) zAd)) zAd)))))))) (zAi (zAp (zAf h_p_weighed (hr.mono (by decide)) rfl (zAa (zCz (zAa (pv 3) (zAa (pv 1) zAd))) (zAa (zCz (zAa (zAf h_p_span (hr.mono (by decide)) rfl (zAa (pv 2) zAd)) (zAa (zAf h_p_span (hr.mono (by decide)) rfl (zAa (pv 4) zAd)) zAd))) zAd))))) zAx))))
   (zAi (zAp (zAf h_p_clash_of_three (hr.mono (by decide)) rfl (zAa (pv 0) (zAa (pv 1) zAd))))))))),?_⟩
 refine ⟨_,rfl,l,ss,rfl,hl,ok,hlen,fun t j e P H1 s1 et st=>?_,fun t p P H1 s1 et ep wp cp=>?_⟩
 ·refine ⟨t,_,_,.int j,rfl,rfl,.inr (SqT.of et),rfl,?_⟩
  refine ⟨_,rfl,rfl,_,rfl,?_⟩
  refine iteF ?_
  have hj:j < ss.length:=(List.getElem?_eq_some_iff.mp st.at').1
  obtain ⟨e',me,ge,at'⟩:=zBf (ss:=ss) (i:=j) (k:=(j:Int)) rfl hj
  rw [st.at'] at ge
  cases ge
  obtain ⟨ee,ne,c1,c2,c3⟩:=ok e me
  have hN:=zC2 ne
  obtain ⟨sf,f1⟩:=zUp ne
  refine ⟨_,rfl,_,rfl,l,_,_,_,rfl,rfl,.inl (s1.seq hl),at',?_⟩
  refine ⟨_,rfl,_,rfl,(by omega),(by omega),zD6 (lo:=0) (n:=((j:Nat):Int).toNat) (fun i σ H'=>Same H1 H'∧(∀ u∈ss.take i,tn e.2 u.2 = 0→sv u.2 (pt3 (ftL e.2))≤0)∧∃ u3 u4:Option V,σ = [some (.ref l),some (.int j),some (.ref e.1),u3,u4])
   ⟨Same.refl _,(fun t ht=>nomatch ht),none,none,rfl⟩ ?_ ?_⟩
  ·rintro i σ H' hi ⟨sH,bes,u3,u4,rfl⟩
   rw [Int.toNat_natCast] at hi
   obtain ⟨u,mu,gu,atu⟩:=zBf (ss:=ss) (i:=i) (k:=0 + (i:Int)) (by omega) (by omega)
   obtain ⟨eu0,nu,d1,d2,d3⟩:=ok u mu
   have s0:=s1.trans sH
   have eu:Sq K H' u.1 [.int u.2.1,.int u.2.2.1,.int u.2.2.2]:=.inr (SqT.of (s0 _ _ eu0))
   have ee':Sq K H' e.1 [.int e.2.1,.int e.2.2.1,.int e.2.2.2]:=.inr (SqT.of (s0 _ _ ee))
   refine ⟨_,rfl,_,rfl,l,_,_,_,rfl,rfl,.inl (s0.seq hl),atu,?_⟩
   refine ⟨_,rfl,_,rfl,e.1,u.1,_,_,e.2.1,e.2.2.1,u.2.1,u.2.2.1,rfl,ee',eu,rfl,rfl,rfl,rfl,by omega,by omega,rfl,_,rfl,?_⟩
   refine ifE (fun h0=>?_) (fun h0=>?_)
   ·have h0':tn e.2 u.2 = 0:=h0
    refine ⟨_,rfl,_,rfl,e.1,e.2,rfl,ee',ne,c1,c2,fun fp H2 s2 hfp efp=>?_⟩
    have efp':H2 fp = some (.tup [.int (pt3 (ftL e.2)).1,.int (pt3 (ftL e.2)).2.1,.int (pt3 (ftL e.2)).2.2]):=by
     rw [efp,sf.list]
     rfl
    refine ⟨u.1,fp,u.2.1,u.2.2.1,u.2.2.2,(pt3 (ftL e.2)).1,(pt3 (ftL e.2)).2.1,(pt3 (ftL e.2)).2.2,rfl,eu.same s2,.inr (SqT.of efp'),by omega,by omega,by omega,_,rfl,?_⟩
    refine ifN (fun hout=>?_) (fun hin=>?_)
    ·have hout':0 < sv u.2 (pt3 (ftL e.2)):=by
      have:¬ sv u.2 (pt3 (ftL e.2))≤0:=hout
      omega
     obtain ⟨z1,z2,z3⟩:=zSv h0' hN ne sf.pos st.pos f1 hout' (st.ahead u (List.mem_of_getElem? (i:=i) (by rw [List.getElem?_take,if_pos hi]; exact gu))) st.out
     refine ⟨_,rfl,_,rfl,(by show 2≤sizeLine; decide),fun nl hnl=>?_⟩
     have snl:=zAe hnl (.lst ([0 + (i:Int),(j:Int)].map V.int))
     refine ⟨_,rfl,e.1,_,e.2.1,e.2.2.1,rfl,(ee'.same s2).same snl,rfl,rfl,_,rfl,u.1,_,u.2.1,u.2.2.1,rfl,(eu.same s2).same snl,rfl,rfl,(by show 2≤sizeLine; decide),fun wl hwl=>?_⟩
     have swl:=zAe hwl (.lst ([zBd e.2.1 e.2.2.1,zBd u.2.1 u.2.2.1].map V.int))
     have pU:=zD8 ne
     have pV:=zD8 nu
     have bU:zBd e.2.1 e.2.2.1≤10 ^ 19:=Int.le_trans (zHk c1 c2) (by decide)
     have bV:zBd u.2.1 u.2.2.1≤10 ^ 19:=Int.le_trans (zHk d1 d2) (by decide)
     have gk:=zS5 (ws:=[zBd e.2.1 e.2.2.1,zBd u.2.1 u.2.2.1]) (List.mem_cons_self ..) pU (by omega)
     refine ⟨nl,wl,[0 + (i:Int),(j:Int)],[zBd e.2.1 e.2.2.1,zBd u.2.1 u.2.2.1],rfl,SqL.of (swl _ _ zAb),SqL.of zAb,rfl,(by show 2≤900; decide),gk.1,gk.2,fun D cs H5 s5 hD eD okc mc=>?_⟩
     have sB:=(s0.trans s2).trans (snl.trans swl)
     refine q D cs H5 (sB.trans s5) (sB.free hD) eD okc ?_
     rw [mc,Int.zero_add]
     exact zQa hi gu st.at' pU pV bU bV z1 z2 z3
    ·refine ⟨sH.trans s2,fun v hv hz=>?_,_,_,rfl⟩
     rcases zC4 gu hv with hv | rfl
     ·exact bes v hv hz
     ·exact hin
   ·refine iteF ?_
    refine ⟨sH,fun v hv hz=>?_,_,_,rfl⟩
    rcases zC4 gu hv with hv | rfl
    ·exact bes v hv hz
    ·exact absurd hz h0
  ·rintro σ H' ⟨sH,bes,u3,u4,rfl⟩
   rw [Int.toNat_natCast] at bes
   have s0:=s1.trans sH
   exact ⟨_,rfl,_,rfl,l,ss,j,e,P,rfl,s0.seq hl,ok.same s0,hlen,st,bes,fun D cs H5 s5 hD eD okc cl=>q D cs H5 (s0.trans s5) (s0.free hD) eD okc cl⟩
 ·refine ⟨t,_,_,.non,rfl,rfl,.inr (SqT.of et),rfl,?_⟩
  refine ⟨_,rfl,rfl,_,rfl,?_⟩
  refine iteT ?_
  exact qn P H1 s1 ep.2.1 wp cp
theorem zTo {x y:Int} (n:x≠0∨y≠0) (m0:x.natAbs≤2 * 10 ^ 9) (m1:y.natAbs≤2 * 10 ^ 9):0 < gcdL [x,y]∧(gcdL [x,y]:Int) < 10 ^ 600:=by
 have lt:∀ z:Int,z∈[x,y]→z≠0→z.natAbs≤2 * 10 ^ 9→0 < gcdL [x,y]∧(gcdL [x,y]:Int) < 10 ^ 600:=fun z hz h0 hb=>by
  refine ⟨zB4 hz h0,?_⟩
  have h1:=zIj hz h0
  exact Int.lt_of_le_of_lt (show (gcdL [x,y]:Int)≤10 ^ 30 by omega) (by decide +kernel)
 rcases n with h | h
 ·exact lt x (by simp) h m0
 ·exact lt y (by simp) h m1
theorem zJ6 {ss:List Sd} {x y:Int} : wayB ss x y = true↔∀ t∈ss,t.2.1 * x + t.2.2.1 * y≤0:=by
 unfold wayB
 rw [List.all_eq_true]
 exact ⟨fun h t ht=>of_decide_eq_true (h t ht),fun h t ht=>decide_eq_true (h t ht)⟩
theorem zPr {X Y x y a b:Int} (n:X≠0∨Y≠0) (e:lowL [X,Y] = [x,y]):(a * x + b * y) * (gcdL [X,Y]:Int) = a * X + b * Y:=by
 have z:[X / (gcdL [X,Y]:Int),Y / (gcdL [X,Y]:Int)] = [x,y]:=e
 cases z
 rw [Int.add_mul,Int.mul_assoc,Int.mul_assoc,zA9 (ns:=[X,Y]) (n:=X) (by simp),zA9 (ns:=[X,Y]) (n:=Y) (by simp)]
def NoWay (ss:List Sd) (g:P3):Prop:=∀ t∈ss,∀ h:Int,(h = 1∨h = -1)→(∀ s∈ss,tn t.2 s.2 * h≤0)→tn t.2 g * h≤0
def zE4 (K:PySem.W.Frag):Sp:=fun vs H Q _=>∃ (l a:Addr) (ss:List Sd) (g:P3),vs = [.ref l,.ref a]∧SqL K H l (zAo ss)∧SdOk H ss∧ss.length≤400∧Sq K H a [.int g.1,.int g.2.1]∧(g.1≠0∨g.2.1≠0)∧g.1.natAbs≤2 * 10 ^ 9∧g.2.1.natAbs≤2 * 10 ^ 9 ∧
 (∀ H':Hp,Same H H'→NoWay ss g→(¬ ∀ s∈ss,dt s.2 g≤0)→Q .non H') ∧
 ∀ (p:Addr) (x y:Int) (H':Hp),Same H H'→H' p = some (.tup [.int x,.int y])→Nat.gcd x.natAbs y.natAbs = 1→0 < g.1 * x + g.2.1 * y→wayB ss x y = true→x.natAbs≤2 * 10 ^ 9→y.natAbs≤2 * 10 ^ 9→Q (.ref p) H'
theorem zH6 (F:Fun K "way_onward" "way_onward" zCu f fd) (Z:Zs mg) (h_p_ways:Has P w K mg base "ways" 4 ["sides"] (zGa K)) (h_p_plain:Has P w K mg base "plain" 3 ["direction"] (zGv K)) (h_p_along:Has P w K mg base "along" 1 ["one", "other"] (zD4 K)) (h_p_is_way:Has P w K mg base "is_way" 2 ["sides", "direction"] (zF1 K)):FnOk P w K mg base CX0 5 f fd ["sides", "direction"] (zE4 K):=by
 refine F.ok zE5 (fun vs H Q E h=>?_) (fun cdv A outer s H vs Q E hr h=>?_)
 ·obtain ⟨l,a,ss,g,rfl,_⟩:=h
  rfl
 obtain ⟨l,a,ss,g,rfl,hl,ok,hlen,ha,gz,m1,m2,qn,q⟩:=h
 have nz:∀ t∈ss,t.2.1≠0∨t.2.2.1≠0:=fun t ht=>(ok t ht).2.1
 refine ⟨_,(zAg (zCk PassesOwn.never rfl (zCg (zAm zL1 (zAf h_p_ways (hr.mono (by decide)) rfl (zAa (pv 0) zAd)) (zCz (zAa (zAf h_p_plain (hr.mono (by decide)) rfl (zAa (pv 1) zAd)) zAd)))) (zAt (i:=2) zE5.nd rfl (Or.inl rfl)) (zAi (zBj (PW.pt (zGu (zAu zIe (zAf h_p_along (hr.mono (by decide)) rfl (zAa (pv 1) (zAa (pv 2) zAd))) zAc (zAy _)) (zEg (zEv (zAf h_p_is_way (hr.mono (by decide)) rfl (zAa (pv 0) (zAa (pv 2) zAd))))))) (zAi (zAp (pv 2))) zAx)))
   (zAi (zAp zB7))),?_⟩
 refine ⟨_,rfl,l,ss,rfl,hl,ok,hlen,fun p us H1 s1 hp W=>?_⟩
 obtain ⟨gp,g6⟩:=zTo gz m1 m2
 refine ⟨_,rfl,a,[g.1,g.2.1],rfl,ha.same s1,by show 2≤1000; decide,gp,g6,fun dp H2 s2 hdp edp=>?_⟩
 obtain ⟨gx,gy,exy,_,_,glow,_,gdot,gxl,gyl⟩:=zHx gz
 rw [exy] at edp
 refine ⟨(by show 1≤sizeLine; decide),fun ol hol=>?_⟩
 have sol:=zAe hol (.lst [.ref dp])
 have wf:=W.few
 refine ⟨p,ol,_,_,rfl,rfl,sol _ _ (s2 _ _ W.at'),zAb,small (by simp only [List.length_map]; show us.length + 1≤1000; omega),fun c hc=>?_⟩
 have sc:=zAe hc (.lst ((us.map (·.1)).map V.ref ++ [.ref dp]))
 have ec:upd (upd H2 ol (.lst [.ref dp])) c (.lst ((us.map (·.1)).map V.ref ++ [.ref dp])) c = some (.lst (((us ++ [(dp,[gx,gy])]).map (·.1)).map V.ref)):=by rw [zAb]; simp
 have s12:Same H1 (upd (upd H2 ol (.lst [.ref dp])) c (.lst ((us.map (·.1)).map V.ref ++ [.ref dp]))):=s2.trans (sol.trans sc)
 have edp':=(sol.trans sc) _ _ edp
 generalize upd (upd H2 ol (.lst [.ref dp])) c (.lst ((us.map (·.1)).map V.ref ++ [.ref dp])) = H3 at sc ec s12 edp' ⊢
 have s3:=s1.trans s12
 have each:∀ u∈us ++ [(dp,[gx,gy])],∃ x y:Int,u.2 = [x,y]∧H3 u.1 = some (.tup [.int x,.int y])∧Nat.gcd x.natAbs y.natAbs = 1∧x.natAbs≤2 * 10 ^ 9∧y.natAbs≤2 * 10 ^ 9:=fun u hu=>by
  rcases List.mem_append.mp hu with hu | hu
  ·have mk:u.2∈us.map (·.2):=List.mem_map_of_mem hu
   have wk:=(W.mem u.2).mp mk
   obtain ⟨x,y,e,ew⟩:=wk.dir nz
   have z:=s12 _ _ (W.all u hu)
   rw [e] at z
   obtain ⟨j,t,_,gt,hk⟩:=wk
   obtain ⟨_,nt,c1,c2,_⟩:=ok t (List.mem_of_getElem? gt)
   have bd:x.natAbs≤2 * 10 ^ 9∧y.natAbs≤2 * 10 ^ 9:=by
    rcases hk with ⟨hk,_⟩ | ⟨hk,_⟩
    ·obtain ⟨x',y',e',_,_,_,_,_,l1,l2⟩:=zHx (X:=-t.2.2.1) (Y:=t.2.1) (by omega)
     rw [e,e'] at hk
     cases hk
     omega
    ·obtain ⟨x',y',e',_,_,_,_,_,l1,l2⟩:=zHx (X:=t.2.2.1) (Y:=-t.2.1) (by omega)
     rw [e,e'] at hk
     cases hk
     omega
   exact ⟨x,y,e,z,ew.low,bd.1,bd.2⟩
  ·rw [List.mem_singleton] at hu
   subst hu
   exact ⟨gx,gy,rfl,edp',glow,by omega,by omega⟩
 refine ⟨c,rfl,.inl ⟨⟨_,SqL.of ec⟩,zCd (K:=K) (a:=c) (xs:=((us ++ [(dp,[gx,gy])]).map (·.1)).map V.ref) (fun i σ H'=>H3 = H'∧(∀ j u x y,j < i→(us ++ [(dp,[gx,gy])])[j]? = some u→u.2 = [x,y]→0 < g.1 * x + g.2.1 * y→wayB ss x y = true→False)∧∃ u2:Option V,σ = [some (.ref l),some (.ref a),u2])
  ⟨rfl,fun j u x y hj=>absurd hj (Nat.not_lt_zero _),none,rfl⟩ (fun i σ H' _ ⟨e,_⟩=>by rw [← e]; exact SqL.of ec) ?_ ?_⟩⟩
 ·rintro i v σ H' hi ⟨rfl,hall,u2,rfl⟩
  rw [List.getElem?_map,List.getElem?_map] at hi
  cases gu:(us ++ [(dp,[gx,gy])])[i]? with
  | none=>rw [gu] at hi; cases hi
  | some u =>
   rw [gu] at hi
   cases hi
   obtain ⟨x,y,exy',eu,lu,bx,by'⟩:=each u (List.mem_of_getElem? gu)
   have keep:(¬ (0 < g.1 * x + g.2.1 * y∧wayB ss x y = true))→∀ j u' x' y',j < i + 1→(us ++ [(dp,[gx,gy])])[j]? = some u'→u'.2 = [x',y']→0 < g.1 * x' + g.2.1 * y'→wayB ss x' y' = true→False:=fun hno j u' x' y' hj gu' e' h1 h2=>by
    by_cases ej:j = i
    ·rw [ej,gu] at gu'
     cases gu'
     rw [exy'] at e'
     cases e'
     exact hno ⟨h1,h2⟩
    ·exact hall j u' x' y' (by omega) gu' e' h1 h2
   refine ⟨_,rfl,_,rfl,a,u.1,_,_,g.1,g.2.1,x,y,rfl,ha.same s3,.inr (SqT.of eu),rfl,rfl,rfl,rfl,by omega,by omega,_,_,rfl,rfl,_,rfl,?_⟩
   refine ifD (fun hpos=>?_) (fun hneg=>?_)
   ·refine ⟨_,rfl,_,rfl,l,u.1,ss,x,y,rfl,s3.seq hl,ok.same s3,.inr (SqT.of eu),_,rfl,?_⟩
    by_cases hw:wayB ss x y = true
    ·rw [hw]
     refine iteT ?_
     exact ⟨_,rfl,q u.1 x y _ s3 eu lu hpos hw bx by'⟩
    ·have hw':wayB ss x y = false:=by simpa using hw
     rw [hw']
     refine iteF ?_
     exact ⟨rfl,keep (fun z=>hw z.2),_,rfl⟩
   ·refine iteF ?_
    exact ⟨rfl,keep (fun z=>hneg z.1),_,rfl⟩
 ·rintro σ H' ⟨rfl,hall,u2,rfl⟩
  have none':∀ u∈us ++ [(dp,[gx,gy])],∀ x y,u.2 = [x,y]→0 < g.1 * x + g.2.1 * y→wayB ss x y = true→False:=fun u hu x y e h1 h2=>by
   obtain ⟨j,hj,ej⟩:=List.getElem_of_mem hu
   exact hall j u x y (by simp only [List.length_map]; exact hj) (by rw [List.getElem?_eq_getElem hj,ej]) e h1 h2
  refine qn _ s3 (fun t mt h hh hall'=>?_) (fun hall'=>?_)
  ·have nt:=nz t mt
   have key:∀ X Y:Int,(X≠0∨Y≠0)→wayB ss X Y = true→lowL [X,Y]∈us.map (·.2)→g.1 * X + g.2.1 * Y≤0:=fun X Y n hw hm=>by
    obtain ⟨x,y,e,gp',_⟩:=zHx n
    obtain ⟨u,hu,eu⟩:=List.mem_map.mp hm
    have sc':=zPr (a:=g.1) (b:=g.2.1) n e
    by_cases c:g.1 * X + g.2.1 * Y≤0
    ·exact c
    ·rw [← sc'] at c
     have p1:0 < g.1 * x + g.2.1 * y:=zCq (y:=(gcdL [X,Y]:Int)) (by omega) (by omega)
     have z:=zMm (ss:=ss) gp'
     have e2:[X / (gcdL [X,Y]:Int),Y / (gcdL [X,Y]:Int)] = [x,y]:=e
     cases e2
     rw [hw] at z
     exact (none' u (List.mem_append_left _ hu) _ _ (eu.trans e) p1 z).elim
   have gj:=List.getElem?_of_mem mt
   obtain ⟨j,gj⟩:=gj
   have hj:=(List.getElem?_eq_some_iff.mp gj).1
   rcases hh with rfl | rfl
   ·have hw:wayB ss (-t.2.2.1) t.2.1 = true:=zJ6.mpr fun s hs=>by
     have z:=hall' s hs
     unfold tn at z
     rw [Int.mul_neg,Int.mul_comm s.2.1,Int.mul_comm s.2.2.1]
     omega
    have z:=key _ _ (by omega) hw ((W.mem _).mpr ⟨j,t,hj,gj,.inl ⟨rfl,hw⟩⟩)
    unfold tn
    rw [Int.mul_neg,Int.mul_comm g.1,Int.mul_comm g.2.1] at z
    omega
   ·have hw:wayB ss t.2.2.1 (-t.2.1) = true:=zJ6.mpr fun s hs=>by
     have z:=hall' s hs
     unfold tn at z
     rw [Int.mul_neg,Int.mul_comm s.2.1,Int.mul_comm s.2.2.1]
     omega
    have z:=key _ _ (by omega) hw ((W.mem _).mpr ⟨j,t,hj,gj,.inr ⟨rfl,hw⟩⟩)
    unfold tn
    rw [Int.mul_neg,Int.mul_comm g.1,Int.mul_comm g.2.1] at z
    omega
  ·have hw:wayB ss g.1 g.2.1 = true:=zJ6.mpr hall'
   have z:=zMm (ss:=ss) gp
   have e2:[g.1 / (gcdL [g.1,g.2.1]:Int),g.2.1 / (gcdL [g.1,g.2.1]:Int)] = [gx,gy]:=exy
   cases e2
   rw [hw] at z
   refine none' (dp,_) (List.mem_append_right _ (List.mem_singleton.mpr rfl)) _ _ rfl ?_ z
   rw [Int.mul_comm g.1,Int.mul_comm g.2.1]
   exact gdot
abbrev Wt:=Addr × Int × Addr × Int × Int
abbrev zTa (ws:List Wt):List V:=(ws.map (·.1)).map V.ref
def WtAt (H:Hp) (ws:List Wt):Prop:=∀ t∈ws,H t.1 = some (.tup [.int t.2.1,.ref t.2.2.1])∧H t.2.2.1 = some (.tup [.int t.2.2.2.1,.int t.2.2.2.2])
theorem WtAt.same {H H':Hp} {ws:List Wt} (h:WtAt H ws) (s:Same H H'):WtAt H' ws:=fun t ht=>⟨s _ _ (h t ht).1,s _ _ (h t ht).2⟩
abbrev wtN (ws:List Wt):List (Int × Int × Int):=ws.map fun t=>(t.2.1,t.2.2.2)
def FarQ (H:Hp) (ss:List Sd) (g:P3) (Q:VK):Prop:=∀ (f p D:Addr) (P:P3) (ws:List Wt) (H':Hp),Same H H'→H' f = some (.tup [.str "far", .ref p,.ref D])→SpAt H' p P→inW ss P→Cand ss P→H D = none→H' D = some (.lst (zTa ws))→WtAt H' ws→Far ss g P (wtN ws)→Q (.ref f) H'
def zE9 (K:PySem.W.Frag):Sp:=fun vs H Q _=>∃ (l a:Addr) (ss:List Sd) (g:P3),vs = [.ref l,.ref a]∧SqL K H l (zAo ss)∧SdOk H ss∧ss.length≤400∧Sq K H a [.int g.1,.int g.2.1]∧(g.1≠0∨g.2.1≠0)∧g.1.natAbs≤2 * 10 ^ 9∧g.2.1.natAbs≤2 * 10 ^ 9 ∧
 (∀ H':Hp,Same H H'→(∀ t∈ss,tn t.2 g = 0→0 < dt t.2 g→∀ P:P3,0 < P.2.2→sv t.2 P = 0→¬ inW ss P)→Q .non H')∧FarQ H ss g Q
theorem zH3 (F:Fun K "far_by_one" "far_by_one" zCr f fd) (Z:Zs mg) (h_p_turn:Has P w K mg base "turn" 1 ["one", "other"] (zBz K)) (h_p_along:Has P w K mg base "along" 1 ["one", "other"] (zD4 K)) (h_p_part:Has P w K mg base "part" 4 ["top", "bottom"] (zD3 K)) (h_p_span:Has P w K mg base "span" 1 ["direction"] (zIr K)) (h_p_spot_on_edge:Has P w K mg base "spot_on_edge" 7 ["sides", "edge"] (zCl K)):FnOk P w K mg base CX0 8 f fd ["sides", "direction"] (zE9 K):=by
 refine F.ok zCj (fun vs H Q E h=>?_) (fun cdv A outer s H vs Q E hr h=>?_)
 ·obtain ⟨l,a,ss,g,rfl,_⟩:=h
  rfl
 obtain ⟨l,a,ss,g,rfl,hl,ok,hlen,ha,gz,m1,m2,qn,q⟩:=h
 refine ⟨_,(zAg (zCk PassesOwn.never rfl (zDj rfl Z.range (zAa (zAw zA1 rfl Z.len zDt (zAa (pv 0) zAd)) zAd)) (zAt (i:=2) zCj.nd rfl (Or.inl rfl)) (zAg (zAr (i:=3) zCj.nd rfl (Or.inl rfl) (zAn zAj (pv 0) (pv 2) (fun _ _=>rfl)))
   (zAi (zBj (PW.pt (zGu (zAu zFu (zAf h_p_turn (hr.mono (by decide)) rfl (zAa (pv 3) (zAa (pv 1) zAd))) zAc (zAy _)) (zEg (zAu zIe (zAf h_p_along (hr.mono (by decide)) rfl (zAa (pv 3) (zAa (pv 1) zAd))) zAc (zAy _))))) (zAg (zAr (i:=4) zCj.nd rfl (Or.inl rfl) (zAf h_p_spot_on_edge (hr.mono (by decide)) rfl (zAa (pv 0) (zAa (pv 3) zAd))))
   (zAi (zBj (zAu zIw (pv 4) zB7 (zAy _)) (zAi (zAp (zBe (zAa zLe (zAa (pv 4) (zAa (zCz (zAa (zBe (zAa (pv 2) (zAa (zAf h_p_part (hr.mono (by decide)) rfl (zAa (zAf h_p_span (hr.mono (by decide)) rfl (zAa (pv 1) zAd)) (zAa (zAf h_p_span (hr.mono (by decide)) rfl (zAa (pv 3) zAd)) zAd))) zAd))) zAd)) zAd)))))) zAx))) zAx))))
   (zAi (zAp zB7))),?_⟩
 refine ⟨_,rfl,l,_,rfl,.inl hl,_,rfl,(by rw [zAk]; omega),(by rw [zAk]; omega),zD6 (lo:=0) (n:=(((zAo ss).length:Nat):Int).toNat) (fun i σ H'=>Same H H'∧(∀ t∈ss.take i,tn t.2 g = 0→0 < dt t.2 g→∀ P:P3,0 < P.2.2→sv t.2 P = 0→¬ inW ss P)∧∃ u2 u3 u4:Option V,σ = [some (.ref l),some (.ref a),u2,u3,u4])
  ⟨Same.refl _,(fun t ht=>nomatch ht),none,none,none,rfl⟩ ?_ ?_⟩
 ·rintro i σ H' hi ⟨sH,bes,u2,u3,u4,rfl⟩
  have hil:i < ss.length:=by rw [Int.toNat_natCast,zAk] at hi; exact hi
  obtain ⟨t,mt,gt,at'⟩:=zBf (ss:=ss) (i:=i) (k:=0 + (i:Int)) (by omega) hil
  obtain ⟨et0,nt,c1,c2,c3⟩:=ok t mt
  have et:Sq K H' t.1 [.int t.2.1,.int t.2.2.1,.int t.2.2.2]:=.inr (SqT.of (sH _ _ et0))
  have ha':=ha.same sH
  refine ⟨_,rfl,_,rfl,l,_,_,_,rfl,rfl,.inl (sH.seq hl),at',?_⟩
  refine ⟨_,rfl,_,rfl,t.1,a,_,_,t.2.1,t.2.2.1,g.1,g.2.1,rfl,et,ha',rfl,rfl,rfl,rfl,by omega,by omega,rfl,_,rfl,?_⟩
  have skip:∀ H2:Hp,Same H' H2→(tn t.2 g = 0→0 < dt t.2 g→∀ P:P3,0 < P.2.2→sv t.2 P = 0→¬ inW ss P)→(∀ u∈ss.take (i + 1),tn u.2 g = 0→0 < dt u.2 g→∀ P:P3,0 < P.2.2→sv u.2 P = 0→¬ inW ss P):=fun H2 _ hno u hu=>by
   rcases zC4 gt hu with hu | rfl
   ·exact bes u hu
   ·exact hno
  refine ifE (fun h0=>?_) (fun h0=>?_)
  ·refine ⟨_,rfl,_,rfl,t.1,a,_,_,t.2.1,t.2.2.1,g.1,g.2.1,rfl,et,ha',rfl,rfl,rfl,rfl,by omega,by omega,_,_,rfl,rfl,_,rfl,?_⟩
   refine ifD (fun h1=>?_) (fun h1=>?_)
   ·have h0':tn t.2 g = 0:=h0
    have h1':0 < dt t.2 g:=h1
    refine ⟨_,rfl,_,rfl,l,t.1,ss,t.2,rfl,sH.seq hl,ok.same sH,by omega,et,nt,c1,c2,c3,fun H2 s2 no=>?_,fun p P H2 s2 ep wp on cd=>?_⟩
    ·refine ⟨_,rfl,rfl,_,rfl,?_⟩
     refine iteF ?_
     exact ⟨sH.trans s2,skip H2 s2 (fun _ _ P pw oP wP=>no P oP pw wP),_,_,_,rfl⟩
    ·refine ⟨_,rfl,rfl,_,rfl,?_⟩
     refine iteT ?_
     have pS:=zD8 nt
     have bS:zBd t.2.1 t.2.2.1≤10 ^ 19:=Int.le_trans (zHk c1 c2) (by decide)
     have bG:zBd g.1 g.2.1≤10 ^ 19:=Int.le_trans (zHk m1 m2) (by decide)
     refine ⟨_,rfl,_,rfl,_,rfl,a,_,g.1,g.2.1,rfl,ha'.same s2,rfl,rfl,_,rfl,t.1,_,t.2.1,t.2.2.1,rfl,et.same s2,rfl,rfl,zBd g.1 g.2.1,zBd t.2.1 t.2.2.1,rfl,by omega,Nat.lt_of_le_of_lt (show (zBd t.2.1 t.2.2.1).natAbs≤10 ^ 40 by omega) (by decide +kernel),fun pp x y H3 s3 hpp epp pt=>?_⟩
     refine ⟨(by show 2≤sizeLine; decide),fun pr hpr=>?_⟩
     have spr:=zAe hpr (.tup [.int (0 + (i:Int)),.ref pp])
     refine ⟨(by show 1≤sizeLine; decide),fun D hD=>?_⟩
     have sD:=zAe hD (.lst [.ref pr])
     refine ⟨(by show 3≤sizeLine; decide),fun ft hft=>?_⟩
     have sft:=zAe hft (.tup [.str "far", .ref p,.ref D])
     have s23:=s2.trans s3
     have sAll:=(spr.trans sD).trans sft
     refine q ft p D P [(pr,(i:Int),pp,x,y)] _ ((sH.trans s23).trans sAll) zAb (ep.same (s3.trans sAll)) wp ?_ ((sH.trans s23).free (spr.free hD)) (sft _ _ zAb) (fun u hu=>?_) (zTz gt nt gz h0' h1' pt bG bS on)
     ·rcases cd with h | ⟨v,hv,ht,h⟩
      ·exact .inr (.inl ⟨t,mt,h⟩)
      ·exact .inr (.inr ⟨t,mt,v,hv,ht,h⟩)
     ·rw [List.mem_singleton] at hu
      subst hu
      refine ⟨?_,sAll _ _ epp⟩
      refine sft _ _ (sD _ _ ?_)
      rw [zAb,Int.zero_add]
   ·refine ⟨sH,skip H' (Same.refl _) (fun _ z=>absurd z h1),_,_,_,rfl⟩
  ·refine iteF ?_
   exact ⟨sH,skip H' (Same.refl _) (fun z=>absurd z h0),_,_,_,rfl⟩
 ·rintro σ H' ⟨sH,bes,u2,u3,u4,rfl⟩
  rw [Int.toNat_natCast,zAk,List.take_length] at bes
  exact qn H' sH bes
theorem zKd {s t:P3} {m n:Nat} (a1:s.1.natAbs≤m) (a2:s.2.1.natAbs≤m) (b1:t.1.natAbs≤n) (b2:t.2.1.natAbs≤n):(tn s t).natAbs≤m * n + m * n:=by
 have z1:=zAh s.1 t.2.1 a1 b2
 have z2:=zAh s.2.1 t.1 a2 b1
 unfold tn
 omega
def zDk (K:PySem.W.Frag):Sp:=fun vs H Q _=>∃ (l n a:Addr) (ss:List Sd) (g P:P3) (i j:Nat) (s t:Sd),vs = [.ref l,.ref n,.ref a]∧SqL K H l (zAo ss)∧SdOk H ss∧SqL K H n [.int i,.int j]∧Sq K H a [.int g.1,.int g.2.1]∧g.1.natAbs≤2 * 10 ^ 9∧g.2.1.natAbs≤2 * 10 ^ 9 ∧
 ss[i]? = some s∧ss[j]? = some t∧0 < tn s.2 t.2∧0 < tn g t.2∧0 < tn s.2 g∧sv s.2 P = 0∧sv t.2 P = 0 ∧
 ∀ (D:Addr) (ws:List Wt) (H':Hp),Same H H'→H D = none→H' D = some (.lst (zTa ws))→WtAt H' ws→Far ss g P (wtN ws)→Q (.ref D) H'
theorem zFx (F:Fun K "weights_of_two" "weights_of_two" zBo f fd) (Z:Zs mg) (h_p_part:Has P w K mg base "part" 4 ["top", "bottom"] (zD3 K)) (h_p_turn:Has P w K mg base "turn" 1 ["one", "other"] (zBz K)):FnOk P w K mg base CX0 5 f fd ["sides", "numbers", "direction"] (zDk K):=by
 refine F.ok zBc (fun vs H Q E h=>?_) (fun cdv A outer s H vs Q E hr h=>?_)
 ·obtain ⟨l,n,a,ss,g,P,i,j,s,t,rfl,_⟩:=h
  rfl
 obtain ⟨l,n,a,ss,g,P,i,j,s,t,rfl,hl,ok,hn,ha,m1,m2,gs,gt,hW,hA,hB,o1,o2,q⟩:=h
 have hi:=(List.getElem?_eq_some_iff.mp gs).1
 have hj:=(List.getElem?_eq_some_iff.mp gt).1
 obtain ⟨_,ms,gs2,ats⟩:=zBf (ss:=ss) (i:=i) (k:=(i:Int)) rfl hi
 rw [gs] at gs2
 cases gs2
 obtain ⟨_,mt,gt2,att⟩:=zBf (ss:=ss) (i:=j) (k:=(j:Int)) rfl hj
 rw [gt] at gt2
 cases gt2
 obtain ⟨es0,ns,c1,c2,c3⟩:=ok s ms
 obtain ⟨et0,nt,d1,d2,d3⟩:=ok t mt
 have es:Sq K H s.1 [.int s.2.1,.int s.2.2.1,.int s.2.2.2]:=.inr (SqT.of es0)
 have et:Sq K H t.1 [.int t.2.1,.int t.2.2.1,.int t.2.2.2]:=.inr (SqT.of et0)
 have hij:i≠j:=fun z=>by
  rw [z,gt] at gs
  cases gs
  rw [zM5] at hW
  omega
 have bW:=zKd (s:=s.2) (t:=t.2) c1 c2 d1 d2
 have bA:=zKd (s:=g) (t:=t.2) m1 m2 d1 d2
 have bB:=zKd (s:=s.2) (t:=g) c1 c2 m1 m2
 have big:(tn s.2 t.2).natAbs < 10 ^ 500:=Nat.lt_of_le_of_lt (show (tn s.2 t.2).natAbs≤10 ^ 40 by omega) (by decide +kernel)
 refine ⟨_,(zAg (zAr (i:=3) zBc.nd rfl (Or.inl rfl) (zAn zAj (pv 0) (zAn zAj (pv 1) zAc (fun _ _=>rfl)) (fun _ _=>rfl)))
   (zAg (zAr (i:=4) zBc.nd rfl (Or.inl rfl) (zAn zAj (pv 0) (zAn zAj (pv 1) zAc (fun _ _=>rfl)) (fun _ _=>rfl)))
   (zAg (zAr (i:=5) zBc.nd rfl (Or.inl rfl) (zAf h_p_turn (hr.mono (by decide)) rfl (zAa (pv 3) (zAa (pv 4) zAd))))
   (zAg (zAr (i:=6) zBc.nd rfl (Or.inl rfl) (zCz (zAa (zAf h_p_part (hr.mono (by decide)) rfl (zAa (zAf h_p_turn (hr.mono (by decide)) rfl (zAa (pv 2) (zAa (pv 4) zAd))) (zAa (pv 5) zAd))) (zAa (zAf h_p_part (hr.mono (by decide)) rfl (zAa (zAf h_p_turn (hr.mono (by decide)) rfl (zAa (pv 3) (zAa (pv 2) zAd))) (zAa (pv 5) zAd))) zAd))))
   (zAi (zAp (zAw zLp rfl Z.sorted zCy (zAa (zCz (zAa (zBe (zAa (zAn zAj (pv 1) zAc (fun _ _=>rfl)) (zAa (zAn zAj (pv 6) zAc (fun _ _=>rfl)) zAd))) (zAa (zBe (zAa (zAn zAj (pv 1) zAc (fun _ _=>rfl)) (zAa (zAn zAj (pv 6) zAc (fun _ _=>rfl)) zAd))) zAd))) zAd)))))))),?_⟩
 refine ⟨_,rfl,_,rfl,n,_,_,.int (i:Int),rfl,rfl,.inl hn,rfl,l,_,_,_,rfl,rfl,.inl hl,ats,?_⟩
 refine ⟨_,rfl,_,rfl,n,_,_,.int (j:Int),rfl,rfl,.inl hn,rfl,l,_,_,_,rfl,rfl,.inl hl,att,?_⟩
 refine ⟨_,rfl,_,rfl,s.1,t.1,_,_,s.2.1,s.2.2.1,t.2.1,t.2.2.1,rfl,es,et,rfl,rfl,rfl,rfl,by omega,by omega,?_⟩
 refine ⟨_,rfl,_,rfl,a,t.1,_,_,g.1,g.2.1,t.2.1,t.2.2.1,rfl,ha,et,rfl,rfl,rfl,rfl,by omega,by omega,_,rfl,tn g t.2,tn s.2 t.2,rfl,by omega,big,fun p1 x1 y1 H1 s1 hp1 ep1 pt1=>?_⟩
 refine ⟨_,rfl,_,rfl,s.1,a,_,_,s.2.1,s.2.2.1,g.1,g.2.1,rfl,es.same s1,ha.same s1,rfl,rfl,rfl,rfl,by omega,by omega,_,rfl,tn s.2 g,tn s.2 t.2,rfl,by omega,big,fun p2 x2 y2 H2 s2 hp2 ep2 pt2=>?_⟩
 refine ⟨(by show 2≤sizeLine; decide),fun sl hsl=>?_⟩
 have ssl:=zAe hsl (.lst [.ref p1,.ref p2])
 have esl:upd H2 sl (.lst [.ref p1,.ref p2]) sl = some (.lst [.ref p1,.ref p2]):=zAb
 generalize upd H2 sl (.lst [.ref p1,.ref p2]) = H3 at ssl esl ⊢
 have s03:=(s1.trans s2).trans ssl
 have hn3:=s03.seq hn
 refine ⟨_,rfl,n,_,_,.int (i:Int),rfl,rfl,.inl hn3,rfl,_,rfl,sl,_,_,.ref p1,rfl,rfl,.inl (SqL.of esl),rfl,(by show 2≤sizeLine; decide),fun a1 ha1=>?_⟩
 have sa1:=zAe ha1 (.tup [.int (i:Int),.ref p1])
 refine ⟨_,rfl,n,_,_,.int (j:Int),rfl,rfl,.inl (sa1.seq hn3),rfl,_,rfl,sl,_,_,.ref p2,rfl,rfl,.inl (SqL.of (sa1 _ _ esl)),rfl,(by show 2≤sizeLine; decide),fun a2 ha2=>?_⟩
 have sa2:=zAe ha2 (.tup [.int (j:Int),.ref p2])
 refine ⟨(by show 2≤sizeLine; decide),fun tl htl=>?_⟩
 have stl:=zAe htl (.lst [.ref a1,.ref a2])
 refine ⟨tl,a1,a2,(i:Int),(j:Int),_,_,rfl,SqL.of zAb,stl _ _ (sa2 _ _ zAb),stl _ _ zAb,by omega,fun D hD=>?_⟩
 have sD:=zAe hD (.lst (if (j:Int) < (i:Int) then [.ref a2,.ref a1] else [.ref a1,.ref a2]))
 have s37:=((sa1.trans sa2).trans stl).trans sD
 have w1:=s37 _ _ (ssl _ _ (s2 _ _ ep1))
 have w2:=s37 _ _ (ssl _ _ ep2)
 have v1:=sD _ _ (stl _ _ (sa2 _ _ (zAb (H:=H3) (a:=a1) (o:=.tup [.int (i:Int),.ref p1]))))
 have v2:=sD _ _ (stl _ _ (zAb (H:=upd H3 a1 (.tup [.int (i:Int),.ref p1])) (a:=a2) (o:=.tup [.int (j:Int),.ref p2])))
 have fr:=zUo (P:=P) gs gt hW hA hB pt1 pt2 (by omega) (by omega) (by omega) o1 o2 hij
 have frD:H D = none:=s03.free (sa1.free (sa2.free (stl.free hD)))
 by_cases c:j < i
 ·have c':(j:Int) < (i:Int):=by omega
  rw [if_pos c] at fr
  refine q D [(a2,(j:Int),p2,x2,y2),(a1,(i:Int),p1,x1,y1)] _ (s03.trans s37) frD (by rw [zAb,if_pos c']; rfl) (fun u hu=>?_) fr
  rcases List.mem_cons.mp hu with rfl | hu
  ·exact ⟨v2,w2⟩
  ·rw [List.mem_singleton] at hu
   subst hu
   exact ⟨v1,w1⟩
 ·have c':¬ (j:Int) < (i:Int):=by omega
  rw [if_neg c] at fr
  refine q D [(a1,(i:Int),p1,x1,y1),(a2,(j:Int),p2,x2,y2)] _ (s03.trans s37) frD (by rw [zAb,if_neg c']; rfl) (fun u hu=>?_) fr
  rcases List.mem_cons.mp hu with rfl | hu
  ·exact ⟨v1,w1⟩
  ·rw [List.mem_singleton] at hu
   subst hu
   exact ⟨v2,w2⟩
def zUb (ss:List Sd) (g:P3) (rs:List Sd):Prop:=∀ t∈rs,0 < tn t.2 g→∃ e∈ss,0 < tn t.2 e.2∧(∀ u∈ss,0 < tn t.2 u.2→sv u.2 (pt3 (crL t.2 e.2))≤0)∧¬ (0 < tn g e.2∧inW ss (pt3 (crL t.2 e.2)))
def zFa (K:PySem.W.Frag):Sp:=fun vs H Q _=>∃ (l a:Addr) (ss:List Sd) (g:P3),vs = [.ref l,.ref a]∧SqL K H l (zAo ss)∧SdOk H ss∧ss.length≤400∧Sq K H a [.int g.1,.int g.2.1]∧g.1.natAbs≤2 * 10 ^ 9∧g.2.1.natAbs≤2 * 10 ^ 9∧NoWay ss g ∧
 (∀ H':Hp,Same H H'→zUb ss g ss→Q .non H')∧FarQ H ss g Q
theorem zH5 (F:Fun K "far_by_two" "far_by_two" zCs f fd) (Z:Zs mg) (h_p_turn:Has P w K mg base "turn" 1 ["one", "other"] (zBz K)) (h_p_in_water:Has P w K mg base "in_water" 3 ["sides", "place"] (zDb K)) (h_p_weights_of_two:Has P w K mg base "weights_of_two" 5 ["sides", "numbers", "direction"] (zDk K)) (h_p_crossing:Has P w K mg base "crossing" 4 ["one", "other"] (zDd K)) (h_p_edge_end:Has P w K mg base "edge_end" 5 ["sides", "edge", "hand"] (zDc K)):FnOk P w K mg base CX0 6 f fd ["sides", "direction"] (zFa K):=by
 refine F.ok zBr (fun vs H Q E h=>?_) (fun cdv A outer s H vs Q E hr h=>?_)
 ·obtain ⟨l,a,ss,g,rfl,_⟩:=h
  rfl
 obtain ⟨l,a,ss,g,rfl,hl,ok,hlen,ha,m1,m2,nw,qn,q⟩:=h
 refine ⟨_,(zAg (zCk PassesOwn.never rfl (zDj rfl Z.range (zAa (zAw zA1 rfl Z.len zDt (zAa (pv 0) zAd)) zAd)) (zAt (i:=2) zBr.nd rfl (Or.inl rfl)) (zAg (zAr (i:=3) zBr.nd rfl (Or.inl rfl) (zAn zAj (pv 0) (pv 2) (fun _ _=>rfl)))
   (zAi (zBj (zAu zIe (zAf h_p_turn (hr.mono (by decide)) rfl (zAa (pv 3) (zAa (pv 1) zAd))) zAc (zAy _)) (zAg (zAr (i:=4) zBr.nd rfl (Or.inl rfl) (zAf h_p_edge_end (hr.mono (by decide)) rfl (zAa (pv 0) (zAa (pv 3) (zAa zAc zAd)))))
   (zAg (zAr (i:=5) zBr.nd rfl (Or.inl rfl) (zAf h_p_crossing (hr.mono (by decide)) rfl (zAa (pv 3) (zAa (zAn zAj (pv 0) (pv 4) (fun _ _=>rfl)) zAd))))
   (zAi (zBj (PW.pt (zGu (zAu zIe (zAf h_p_turn (hr.mono (by decide)) rfl (zAa (pv 1) (zAa (zAn zAj (pv 0) (pv 4) (fun _ _=>rfl)) zAd))) zAc (zAy _)) (zEg (zEv (zAf h_p_in_water (hr.mono (by decide)) rfl (zAa (pv 0) (zAa (pv 5) zAd))))))) (zAi (zAp (zBe (zAa zLe (zAa (pv 5) (zAa (zAf h_p_weights_of_two (hr.mono (by decide)) rfl (zAa (pv 0) (zAa (zCz (zAa (pv 2) (zAa (pv 4) zAd))) (zAa (pv 1) zAd)))) zAd)))))) zAx)))) zAx))))
   (zAi (zAp zB7))),?_⟩
 refine ⟨_,rfl,l,_,rfl,.inl hl,_,rfl,(by rw [zAk]; omega),(by rw [zAk]; omega),zD6 (lo:=0) (n:=(((zAo ss).length:Nat):Int).toNat) (fun i σ H'=>Same H H'∧zUb ss g (ss.take i)∧∃ u2 u3 u4 u5:Option V,σ = [some (.ref l),some (.ref a),u2,u3,u4,u5])
  ⟨Same.refl _,(fun t ht=>nomatch ht),none,none,none,none,rfl⟩ ?_ ?_⟩
 ·rintro i σ H' hi ⟨sH,bes,u2,u3,u4,u5,rfl⟩
  have hil:i < ss.length:=by rw [Int.toNat_natCast,zAk] at hi; exact hi
  obtain ⟨t,mt,gt,at'⟩:=zBf (ss:=ss) (i:=i) (k:=0 + (i:Int)) (by omega) hil
  obtain ⟨et0,nt,c1,c2,c3⟩:=ok t mt
  have et:Sq K H' t.1 [.int t.2.1,.int t.2.2.1,.int t.2.2.2]:=.inr (SqT.of (sH _ _ et0))
  have ha':=ha.same sH
  refine ⟨_,rfl,_,rfl,l,_,_,_,rfl,rfl,.inl (sH.seq hl),at',?_⟩
  refine ⟨_,rfl,_,rfl,t.1,a,_,_,t.2.1,t.2.2.1,g.1,g.2.1,rfl,et,ha',rfl,rfl,rfl,rfl,by omega,by omega,_,_,rfl,rfl,_,rfl,?_⟩
  refine ifD (fun h0=>?_) (fun h0=>?_)
  ·have h0':0 < tn t.2 g:=h0
   refine ⟨_,rfl,_,rfl,l,t.1,ss,t.2,1,rfl,sH.seq hl,ok.same sH,by omega,et,nt,c1,c2,c3,.inl rfl,fun r H1 s1 k1=>?_⟩
   cases r with
   | none =>
    have:=nw t mt 1 (.inl rfl) k1
    omega
   | some j =>
    obtain ⟨e,ge,he,hb⟩:=k1
    have he':0 < tn t.2 e.2:=by omega
    have hj:=(List.getElem?_eq_some_iff.mp ge).1
    obtain ⟨_,me,ge2,ate⟩:=zBf (ss:=ss) (i:=j) (k:=(j:Int)) rfl hj
    rw [ge] at ge2
    cases ge2
    obtain ⟨ee0,ne,d1,d2,d3⟩:=ok e me
    have sH1:=sH.trans s1
    have ee:Sq K H1 e.1 [.int e.2.1,.int e.2.2.1,.int e.2.2.2]:=.inr (SqT.of (sH1 _ _ ee0))
    have et1:=et.same s1
    refine ⟨_,rfl,_,rfl,_,rfl,l,_,_,_,rfl,rfl,.inl (sH1.seq hl),ate,t.1,e.1,t.2.1,t.2.2.1,t.2.2.2,e.2.1,e.2.2.1,e.2.2.2,rfl,et1,ee,by omega,by omega,by omega,by omega,by omega,fun z=>absurd z (show tn t.2 e.2≠0 by omega),fun _ p H2 s2 hp ep=>?_⟩
    obtain ⟨sp,o1,o2⟩:=zB0 (show tn t.2 e.2≠0 by omega)
    have ep':SpAt H2 p (pt3 (crL t.2 e.2)):=by
     refine ⟨?_,sp.pos,sp.low⟩
     have z:H2 p = some (.tup ((crL t.2 e.2).map V.int)):=ep
     rw [z,sp.list]
     rfl
    have sH2:=sH1.trans s2
    have keep:¬ (0 < tn g e.2∧inW ss (pt3 (crL t.2 e.2)))→zUb ss g (ss.take (i + 1)):=fun hno u hu hg=>by
     rcases zC4 gt hu with hu | rfl
     ·exact bes u hu hg
     ·exact ⟨e,me,he',fun v hv hp=>hb v hv (by omega),hno⟩
    refine ⟨_,rfl,_,rfl,_,rfl,l,_,_,_,rfl,rfl,.inl (sH2.seq hl),ate,a,e.1,_,_,g.1,g.2.1,e.2.1,e.2.2.1,rfl,ha.same sH2,ee.same s2,rfl,rfl,rfl,rfl,by omega,by omega,_,_,rfl,rfl,_,rfl,?_⟩
    refine ifD (fun h1=>?_) (fun h1=>?_)
    ·have h1':0 < tn g e.2:=h1
     refine ⟨_,rfl,_,rfl,l,p,ss,pt3 (crL t.2 e.2),rfl,sH2.seq hl,ok.same sH2,.inr (SqT.of ep'.1),_,rfl,?_⟩
     by_cases hw:inWB ss (pt3 (crL t.2 e.2)) = true
     ·rw [hw]
      refine iteT ?_
      refine ⟨_,rfl,_,rfl,_,rfl,_,rfl,(by show 2≤sizeLine; decide),fun nl hnl=>?_⟩
      have snl:=zAe hnl (.lst [.int (0 + (i:Int)),.int (j:Int)])
      have enl:upd H2 nl (.lst [.int (0 + (i:Int)),.int (j:Int)]) nl = some (.lst [.int (i:Int),.int (j:Int)]):=by rw [zAb,Int.zero_add]
      have sH3:=sH2.trans snl
      refine ⟨_,rfl,l,nl,a,ss,g,pt3 (crL t.2 e.2),i,j,t,e,rfl,sH3.seq hl,ok.same sH3,SqL.of enl,ha.same sH3,m1,m2,gt,ge,he',h1',h0',o1,o2,fun D ws H4 s4 hD eD okw fr=>?_⟩
      refine ⟨(by show 3≤sizeLine; decide),fun ft hft=>?_⟩
      have sft:=zAe hft (.tup [.str "far", .ref p,.ref D])
      refine q ft p D (pt3 (crL t.2 e.2)) ws _ ((sH3.trans s4).trans sft) zAb ((ep'.same (snl.trans s4)).same sft) (zEd.mp hw) (.inr (.inr ⟨t,mt,e,me,by omega,rfl⟩)) (sH3.free hD) (sft _ _ eD) (okw.same sft) fr
     ·have hw':inWB ss (pt3 (crL t.2 e.2)) = false:=by simpa using hw
      rw [hw']
      refine iteF ?_
      exact ⟨sH2,keep (fun z=>hw (zEd.mpr z.2)),_,_,_,_,rfl⟩
    ·refine iteF ?_
     exact ⟨sH2,keep (fun z=>h1 z.1),_,_,_,_,rfl⟩
  ·refine ⟨sH,fun u hu hg=>?_,_,_,_,_,rfl⟩
   rcases zC4 gt hu with hu | rfl
   ·exact bes u hu hg
   ·exact absurd hg h0
 ·rintro σ H' ⟨sH,bes,u2,u3,u4,u5,rfl⟩
  rw [Int.toNat_natCast,zAk,List.take_length] at bes
  exact qn H' sH bes
def zJ2 (K:PySem.W.Frag):Sp:=fun vs H Q _=>∃ (l a:Addr) (ss:List Sd) (g:P3),vs = [.ref l,.ref a]∧SqL K H l (zAo ss)∧SdOk H ss∧ss.length≤400∧Sq K H a [.int g.1,.int g.2.1]∧(g.1≠0∨g.2.1≠0)∧g.1.natAbs≤2 * 10 ^ 9∧g.2.1.natAbs≤2 * 10 ^ 9 ∧
 (∀ (t D:Addr) (cs:List Pr) (H':Hp),Same H H'→H' t = some (.tup [.str "none", .ref D])→H D = none→H' D = some (.lst (zGj cs))→PrAt H' cs→zMw ss (cs.map (·.2))→Q (.ref t) H') ∧
 (∀ (t p:Addr) (x y:Int) (Z:P3) (H':Hp),Same H H'→H' t = some (.tup [.str "open", .ref p])→H' p = some (.tup [.int x,.int y])→Nat.gcd x.natAbs y.natAbs = 1→0 < g.1 * x + g.2.1 * y→wayB ss x y = true→x.natAbs≤2 * 10 ^ 9→y.natAbs≤2 * 10 ^ 9→0 < Z.2.2→inW ss Z→Cand ss Z→Q (.ref t) H')∧FarQ H ss g Q
theorem zOg (F:Fun K "reach" "reach" zGh f fd) (Z:Zs mg) (h_p_far_by_one:Has P w K mg base "far_by_one" 8 ["sides", "direction"] (zE9 K)) (h_p_far_by_two:Has P w K mg base "far_by_two" 6 ["sides", "direction"] (zFa K)) (h_p_way_onward:Has P w K mg base "way_onward" 5 ["sides", "direction"] (zE4 K)) (h_p_clash:Has P w K mg base "clash" 9 ["sides"] (zJ1 K)):FnOk P w K mg base CX0 10 f fd ["sides", "direction"] (zJ2 K):=by
 refine F.ok zG0 (fun vs H Q E h=>?_) (fun cdv A outer s H vs Q E hr h=>?_)
 ·obtain ⟨l,a,ss,g,rfl,_⟩:=h
  rfl
 obtain ⟨l,a,ss,g,rfl,hl,ok,hlen,ha,gz,m1,m2,qc,qo,qf⟩:=h
 have nz:∀ t∈ss,t.2.1≠0∨t.2.2.1≠0:=fun t ht=>(ok t ht).2.1
 refine ⟨_,(zAg (zAr (i:=2) zG0.nd rfl (Or.inl rfl) (zAf h_p_clash (hr.mono (by decide)) rfl (zAa (pv 0) zAd)))
   (zAg (zBj (zAu zIw (pv 2) zB7 (zAy _)) (zAi (zAp (zBe (zAa zLe (zAa (pv 2) zAd))))) zAx)
   (zAg (zAr (i:=3) zG0.nd rfl (Or.inl rfl) (zAf h_p_way_onward (hr.mono (by decide)) rfl (zAa (pv 0) (zAa (pv 1) zAd))))
   (zAg (zBj (zAu zIw (pv 3) zB7 (zAy _)) (zAi (zAp (zBe (zAa zLe (zAa (pv 3) zAd))))) zAx)
   (zAi (zAp (pe_orT (zAf h_p_far_by_one (hr.mono (by decide)) rfl (zAa (pv 0) (zAa (pv 1) zAd))) (zQu (zAf h_p_far_by_two (hr.mono (by decide)) rfl (zAa (pv 0) (zAa (pv 1) zAd))))))))))),?_⟩
 refine ⟨_,rfl,l,ss,rfl,hl,ok,by omega,fun P0 H1 s1 pw wp cp=>?_,fun D cs H1 s1 hD eD okc cl=>?_⟩
 ·refine ⟨_,rfl,rfl,_,rfl,?_⟩
  refine iteF ?_
  refine ⟨_,rfl,_,rfl,l,a,ss,g,rfl,s1.seq hl,ok.same s1,hlen,ha.same s1,gz,m1,m2,fun H2 s2 nw nl=>?_,fun p x y H2 s2 ep low pos hw bx by'=>?_⟩
  ·refine ⟨_,rfl,rfl,_,rfl,?_⟩
   refine iteF ?_
   have s12:=s1.trans s2
   refine ⟨_,rfl,_,rfl,l,a,ss,g,rfl,s12.seq hl,ok.same s12,hlen,ha.same s12,gz,m1,m2,fun H3 s3 b1=>?_,fun ft p D P ws H3 s3 ef ep wP cP hD eD okw fr=>?_⟩
   ·refine ⟨false,rfl,?_⟩
    refine iteF ?_
    have s13:=s12.trans s3
    refine ⟨_,rfl,_,rfl,l,a,ss,g,rfl,s13.seq hl,ok.same s13,hlen,ha.same s13,m1,m2,nw,fun H4 s4 b2=>?_,fun ft p D P ws H4 s4 ef ep wP cP hD eD okw fr=>?_⟩
    ·exact (no_far ⟨nz,gz,nw,nl,b1⟩ b2 pw wp).elim
    ·exact qf ft p D P ws H4 (s13.trans s4) ef ep wP cP (s13.free hD) eD okw fr
   ·refine ⟨true,.inr (.inl ⟨_,SqT.of ef,rfl⟩),?_⟩
    refine iteT ?_
    exact qf ft p D P ws H3 (s12.trans s3) ef ep wP cP (s12.free hD) eD okw fr
  ·refine ⟨_,rfl,rfl,_,rfl,?_⟩
   refine iteT ?_
   refine ⟨_,rfl,(by show 2≤sizeLine; decide),fun t ht=>?_⟩
   have st:=zAe ht (.tup [.str "open", .ref p])
   exact qo t p x y P0 _ ((s1.trans s2).trans st) zAb (st _ _ ep) low pos hw bx by' pw wp cp
 ·refine ⟨_,rfl,rfl,_,rfl,?_⟩
  refine iteT ?_
  refine ⟨_,rfl,(by show 2≤sizeLine; decide),fun t ht=>?_⟩
  have st:=zAe ht (.tup [.str "none", .ref D])
  exact qc t D cs _ (s1.trans st) zAb hD (st _ _ eD) (okc.same st) cl
def zNk (_:PySem.W.Frag):Sp:=fun vs H Q _=>∃ (x y:Int),vs = [.int x,.int y]∧Q (.int (Nat.gcd x.natAbs y.natAbs)) H
theorem zR0 (F:Fun K "_law_low" "_law_low" zJ7 f fd) (Z:Zs mg):FnOk P w K mg base CX0 1 f fd ["_law_one", "_law_other"] (zNk K):=by
 refine F.ok zHt (fun vs H Q E h=>?_) (fun cdv A outer s H vs Q E hr h=>?_)
 ·obtain ⟨x,y,rfl,_⟩:=h
  rfl
 obtain ⟨x,y,rfl,q⟩:=h
 refine ⟨_,(zAg (zAr (i:=0) zHt.nd rfl (Or.inl rfl) (zAw zB2 rfl Z.abs zEt (zAa (pv 0) zAd)))
   (zAg (zAr (i:=1) zHt.nd rfl (Or.inl rfl) (zAw zB2 rfl Z.abs zEt (zAa (pv 1) zAd)))
   (zAg (zF5 PassesOwn.never (zAu zIe (pv 1) zAc (zAy _)) (zAi (ps_par (i:=0) (j:=1) rfl zHt.nd rfl rfl (by decide) rfl rfl (zAa (pv 1) (zAa (zAm zA8 (pv 0) (pv 1)) zAd)) rfl)))
   (zAi (zAp (pv 0)))))),?_⟩
 refine ⟨_,rfl,_,rfl,_,rfl,_,rfl,?_⟩
 refine zEi (fun σ H1=>H1 = H∧∃ (a b:Int),σ = [some (.int a),some (.int b)]∧0≤a∧0≤b∧Nat.gcd a.toNat b.toNat = Nat.gcd x.natAbs y.natAbs)
  (fun σ _=>match σ with | [_,some (.int b)]=>b.toNat | _=>0) ⟨rfl,_,_,rfl,by split <;> omega,by split <;> omega,by rw [zN0,zN0]; rfl⟩ ?_ (fun σ H Q Q' hq z=>by
   obtain ⟨v,hv,i,j,e1,e2,k,hk,z⟩:=z
   exact ⟨v,hv,i,j,e1,e2,k,hk,hq _ _ z⟩)
 rintro σ H1 ⟨rfl,a,b,rfl,h1,h2,h3⟩
 refine ⟨_,rfl,_,_,rfl,rfl,_,rfl,?_⟩
 refine ifD (fun hb=>?_) (fun hb=>?_)
 ·refine ⟨_,rfl,_,rfl,_,rfl,_,_,rfl,rfl,hb,_,_,rfl,⟨rfl,_,_,rfl,h2,Int.emod_nonneg a (by omega),?_⟩,?_⟩
  ·rw [zKi h1 hb]; exact h3
  ·have h4:=Int.emod_lt_of_pos a hb
   show (a % b).toNat < b.toNat
   omega
 ·refine ⟨_,rfl,?_⟩
  have hb0:b = 0:=by omega
  subst hb0
  have h5:a = ((Nat.gcd x.natAbs y.natAbs:Nat):Int):=by
   rw [← h3]
   show a = ((Nat.gcd a.toNat 0:Nat):Int)
   rw [Nat.gcd_zero_right]
   omega
  rw [h5]
  exact q
def zJg (_:PySem.W.Frag):Sp:=fun vs H Q _=>∃ (n:Int),vs = [.int n]∧∀ v:Int,0≤v→v < 1000003→Q (.int v) H
theorem zO2 (F:Fun K "_law_power" "_law_power" zF6 f fd) (Z:Zs mg):FnOk P w K mg base CX0 1 f fd ["_law_number"] (zJg K):=by
 refine F.ok zOb (fun vs H Q E h=>?_) (fun cdv A outer s H vs Q E hr h=>?_)
 ·obtain ⟨n,rfl,_⟩:=h
  rfl
 obtain ⟨n,rfl,q⟩:=h
 refine ⟨_,(zAi (zAp (zAm zA8 (zAm zQ5 (zAm zA8 (pv 0) zAc) zAc) zAc))),?_⟩
 have h1:=Int.emod_nonneg n (show (1000003:Int)≠0 by decide)
 have h2:=Int.emod_lt_of_pos n (show (0:Int) < 1000003 by decide)
 refine ⟨_,rfl,_,_,rfl,rfl,(by show (0:Int) < 1000003; decide),_,_,rfl,rfl,⟨by decide,by decide,by omega⟩,_,_,rfl,rfl,(by show (0:Int) < 1000003; decide),?_⟩
 exact q _ (Int.emod_nonneg _ (by decide)) (Int.emod_lt_of_pos _ (by decide))
def zJr (K:PySem.W.Frag):Sp:=fun vs H Q _=>∃ (a:Addr) (ns:List Int) (many:Int),vs = [.ref a,.int many]∧SqL K H a (ns.map V.int)∧ns.length≤63∧0≤many∧many≤500 ∧
 ∀ (r:Addr) (rows:List Int) (H':Hp),Same H H'→H r = none→H' r = some (.lst (rows.map V.int))→many≤rows.length→rows.length≤600→(∀ x∈rows,0≤x∧x < 1000003)→Q (.ref r) H'
structure zI2 (H:Hp) (r c:Addr) (ms:List Int) (H':Hp) (rows:List Int):Prop where
 same:Same H H'
 src:H' c = some (.lst (ms.map V.int))
 at':H' r = some (.lst (rows.map V.int))
 bd:∀ x∈rows,0≤x∧x < 1000003
theorem zI2.app {H H':Hp} {r c:Addr} {ms rows:List Int} {v:Int} (d:zI2 H r c ms H' rows) (hr:H r = none) (hrc:c≠r) (h0:0≤v) (h1:v < 1000003):zI2 H r c ms (upd H' r (.lst (rows.map V.int ++ [.int v]))) (rows ++ [v]):=by
 refine ⟨fun b o e=>?_,?_,?_,fun x hx=>?_⟩
 ·rw [zAs (zA0 e hr)]
  exact d.same b o e
 ·rw [zAs hrc]
  exact d.src
 ·rw [zAb,List.map_append]
  rfl
 ·rcases List.mem_append.mp hx with e | e
  ·exact d.bd x e
  ·rw [List.mem_singleton] at e
   rw [e]
   exact ⟨h0,h1⟩
theorem zN6 (F:Fun K "_law_draws" "_law_draws" zGg f fd) (Z:Zs mg) (h_L_power:Has P w K mg base "_law_power" 1 ["_law_number"] (zJg K)):FnOk P w K mg base CX0 2 f fd ["_law_script", "_law_many_here"] (zJr K):=by
 refine F.ok zBv (fun vs H Q E h=>?_) (fun cdv A outer s H vs Q E hr h=>?_)
 ·obtain ⟨a,ns,many,rfl,_⟩:=h
  rfl
 obtain ⟨a,ns,many,rfl,hS,hl,hm0,hm1,q⟩:=h
 refine ⟨_,(zAg (zAr (i:=2) zBv.nd rfl (Or.inl rfl) (zCz zAd))
   (zAg (zAr (i:=3) zBv.nd rfl (Or.inl rfl) zAc)
   (zAg (zCk PassesOwn.never rfl (zRn (zBp zC0 (pv 0) zCf (zCi zAc))) (zAt (i:=4) zBv.nd rfl (Or.inl rfl)) (zAg (zAr (i:=3) zBv.nd rfl (Or.inl rfl) (zAm zA8 (zAm zB1 (zAm zBa (pv 3) zAc) (pv 4)) zAc))
   (zAg (zAr (i:=5) zBv.nd rfl (Or.inl rfl) (zAw zB2 rfl Z.abs zEt (zAa (pv 4) zAd)))
   (zAg (zBj (zAu zL2 (pv 5) (zAm zQ5 zAc zAc) (zAy _)) (zAg (zIq (zPm PySem.F.plainAttrs_list PySem.F.slot_list_append PySem.F.type_list_append zDn (pv 2) (zAa (zAf h_L_power (hr.mono (by decide)) rfl (zAa (zAm zB1 (pv 4) (zAm zBa zAc (zAw zA1 rfl Z.len zDt (zAa (pv 2) zAd)))) zAd)) zAd)))
   (zAi (zAr (i:=5) zBv.nd rfl (Or.inl rfl) zAc))) zAx)
   (zAi (zF5 PassesOwn.never (PW.pt (zGu (zAu zIe (pv 5) zAc (zAy _)) (zEg (zAu zL2 (zAw zA1 rfl Z.len zDt (zAa (pv 2) zAd)) (pv 1) (zAy _))))) (zAg (zIq (zPm PySem.F.plainAttrs_list PySem.F.slot_list_append PySem.F.type_list_append zDn (pv 2) (zAa (zAm zA8 (pv 5) zAc) zAd)))
   (zAi (zAr (i:=5) zBv.nd rfl (Or.inl rfl) (zAm zC9 (pv 5) zAc))))))))))
   (zAg (zF5 PassesOwn.never (zAu zL2 (zAw zA1 rfl Z.len zDt (zAa (pv 2) zAd)) (pv 1) (zAy _)) (zAg (zAr (i:=3) zBv.nd rfl (Or.inl rfl) (zAm zA8 (zAm zB1 (zAm zBa (pv 3) zAc) zAc) zAc))
   (zAi (zIq (zPm PySem.F.plainAttrs_list PySem.F.slot_list_append PySem.F.type_list_append zDn (pv 2) (zAa (zAf h_L_power (hr.mono (by decide)) rfl (zAa (pv 3) zAd)) zAd))))))
   (zAi (zAp (pv 2))))))),?_⟩
 refine ⟨(by show 0≤sizeLine; decide),fun r hr0=>?_⟩
 have S1:=zAe hr0 (.lst [])
 refine ⟨_,rfl,_,rfl,a,_,rfl,S1.seq hS,fun c hc=>⟨c,rfl,⟨_,SqL.of zAb⟩,?_⟩⟩
 rw [zIf]
 generalize hms:((ns.drop (HT.sIx ns.length 0 none)).take (HT.sIx ns.length ns.length (some 63) - HT.sIx ns.length 0 none)) = ms
 have hml:ms.length≤63:=by
  rw [← hms,List.length_take,List.length_drop]
  omega
 have hcr:c≠r:=fun e=>by
  rw [e,zAb] at hc
  cases hc
 have hc0:H c = none:=S1.free hc
 refine zCd (K:=K) (a:=c) (xs:=ms.map V.int) (fun i σ H'=>∃ (rows:List Int) (mix:Int) (u v:Option V),σ = [some (.ref a),some (.int many),some (.ref r),some (.int mix),u,v]∧zI2 H r c ms H' rows∧0≤mix∧mix < 2147483647∧rows.length≤many.toNat + i)
  ⟨[],7,none,none,rfl,⟨S1.trans (zAe hc _),zAb,by rw [zAs (Ne.symm hcr),zAb]; rfl,fun x hx=>nomatch hx⟩,by decide,by decide,Nat.zero_le _⟩ (fun i σ H' _ ⟨_,_,_,_,_,d,_⟩=>SqL.of d.src) ?_ ?_
 ·rintro i x σ H' hi ⟨rows,mix,u,v,rfl,d,hx0,hx1,hrl⟩
  obtain ⟨n,hn,rfl⟩:=zCp hi
  have hi63:i < 63:=Nat.lt_of_lt_of_le (List.getElem?_eq_some_iff.mp hn).1 hml
  refine ⟨_,rfl,_,_,rfl,rfl,.inr ⟨by decide,by decide⟩,_,rfl,_,_,rfl,rfl,_,_,rfl,rfl,(by show (0:Int) < 2147483647; decide),?_⟩
  have m0:=Int.emod_nonneg (mix * 48271 + n) (show (2147483647:Int)≠0 by decide)
  have m1:=Int.emod_lt_of_pos (mix * 48271 + n) (show (0:Int) < 2147483647 by decide)
  refine ⟨_,rfl,n,rfl,?_⟩
  have a0:0≤(if n < 0 then -n else n):=by split <;> omega
  generalize (if n < 0 then -n else n) = rest at a0 ⊢
  refine ⟨_,rfl,_,_,rfl,rfl,⟨by decide,by decide,by decide⟩,_,_,rfl,rfl,_,rfl,?_⟩
  refine ifD (fun hsm=>?_) (fun hsm=>?_)
  ·refine ⟨_,rfl,.inl ⟨rfl,_,SqL.of d.at'⟩,_,rfl,_,rfl,r,_,rfl,.inl (SqL.of d.at'),_,_,rfl,rfl,.inl ⟨by decide,by decide⟩,_,_,rfl,rfl,_,rfl,fun v v0 v1=>?_⟩
   refine ⟨r,_,_,rfl,rfl,d.at',zA2 (by rw [List.length_map]; omega),?_⟩
   have j0:(0:Int)≤0:=Int.le_refl 0
   have j1:=d.app hr0 hcr v0 v1
   have j2:(rows ++ [v]).length≤many.toNat + (i + 1):=by rw [List.length_append,List.length_singleton]; omega
   refine zEi (fun σ H2=>∃ (rows:List Int) (rest:Int),σ = [some (.ref a),some (.int many),some (.ref r),some (.int ((mix * 48271 + n) % 2147483647)),some (.int n),some (.int rest)]∧0≤rest∧zI2 H r c ms H2 rows∧rows.length≤many.toNat + (i + 1))
    (fun σ _=>match σ with | [_,_,_,_,_,some (.int z)]=>z.toNat | _=>0) ⟨_,_,rfl,j0,j1,j2⟩ ?_ (zRq (zG2 (zMh zOk zD2 mo_c)) (zG2 (zMh zOk (zSp zNh (zG3 zD2 zLk)) zD2)))
   rintro σ H2 ⟨rows,rest,rfl,r0,d2,l2⟩
   refine ⟨_,rfl,_,_,rfl,rfl,_,rfl,?_⟩
   refine ifD (fun hpos=>?_) (fun hpos=>?_)
   ·refine ⟨_,rfl,r,_,rfl,.inl (SqL.of d2.at'),_,rfl,_,_,rfl,rfl,_,rfl,?_⟩
    refine ifD (fun hlt=>?_) (fun hlt=>?_)
    ·have hlt':((rows.map V.int).length:Int) < many:=hlt
     rw [List.length_map] at hlt'
     refine ⟨_,rfl,.inl ⟨rfl,_,SqL.of d2.at'⟩,_,rfl,_,_,rfl,rfl,(by show (0:Int) < 1000003; decide),r,_,_,rfl,rfl,d2.at',zA2 (by rw [List.length_map]; omega),?_⟩
     have v0:=Int.emod_nonneg rest (show (1000003:Int)≠0 by decide)
     have v1:=Int.emod_lt_of_pos rest (show (0:Int) < 1000003 by decide)
     refine ⟨_,rfl,_,_,rfl,rfl,zEw.of (by decide) (by decide +kernel),⟨rows ++ [rest % 1000003],_,rfl,by omega,d2.app hr0 hcr v0 v1,by rw [List.length_append,List.length_singleton]; omega⟩,?_⟩
     show (rest / 1000003).toNat < rest.toNat
     omega
    ·exact ⟨rows,_,_,_,rfl,d2,m0,m1,l2⟩
   ·exact ⟨rows,_,_,_,rfl,d2,m0,m1,l2⟩
  ·have j0:=a0
   have j1:=d
   have j2:rows.length≤many.toNat + (i + 1):=by omega
   refine zEi (fun σ H2=>∃ (rows:List Int) (rest:Int),σ = [some (.ref a),some (.int many),some (.ref r),some (.int ((mix * 48271 + n) % 2147483647)),some (.int n),some (.int rest)]∧0≤rest∧zI2 H r c ms H2 rows∧rows.length≤many.toNat + (i + 1))
    (fun σ _=>match σ with | [_,_,_,_,_,some (.int z)]=>z.toNat | _=>0) ⟨_,_,rfl,j0,j1,j2⟩ ?_ (zRq (zG2 (zMh zOk zD2 mo_c)) (zG2 (zMh zOk (zSp zNh (zG3 zD2 zLk)) zD2)))
   rintro σ H2 ⟨rows,rest,rfl,r0,d2,l2⟩
   refine ⟨_,rfl,_,_,rfl,rfl,_,rfl,?_⟩
   refine ifD (fun hpos=>?_) (fun hpos=>?_)
   ·refine ⟨_,rfl,r,_,rfl,.inl (SqL.of d2.at'),_,rfl,_,_,rfl,rfl,_,rfl,?_⟩
    refine ifD (fun hlt=>?_) (fun hlt=>?_)
    ·have hlt':((rows.map V.int).length:Int) < many:=hlt
     rw [List.length_map] at hlt'
     refine ⟨_,rfl,.inl ⟨rfl,_,SqL.of d2.at'⟩,_,rfl,_,_,rfl,rfl,(by show (0:Int) < 1000003; decide),r,_,_,rfl,rfl,d2.at',zA2 (by rw [List.length_map]; omega),?_⟩
     have v0:=Int.emod_nonneg rest (show (1000003:Int)≠0 by decide)
     have v1:=Int.emod_lt_of_pos rest (show (0:Int) < 1000003 by decide)
     refine ⟨_,rfl,_,_,rfl,rfl,zEw.of (by decide) (by decide +kernel),⟨rows ++ [rest % 1000003],_,rfl,by omega,d2.app hr0 hcr v0 v1,by rw [List.length_append,List.length_singleton]; omega⟩,?_⟩
     show (rest / 1000003).toNat < rest.toNat
     omega
    ·exact ⟨rows,_,_,_,rfl,d2,m0,m1,l2⟩
   ·exact ⟨rows,_,_,_,rfl,d2,m0,m1,l2⟩
 ·rintro σ H' ⟨rows,mix,u,v,rfl,d,hx0,hx1,hrl⟩
  rw [List.length_map] at hrl
  refine zEi (fun σ H2=>∃ (rows:List Int) (mix:Int),σ = [some (.ref a),some (.int many),some (.ref r),some (.int mix),u,v]∧zI2 H r c ms H2 rows∧0≤mix∧mix < 2147483647∧rows.length≤many.toNat + 63∧H2 r = some (.lst (rows.map V.int)))
   (fun σ H2=>match H2 r with | some (.lst xs)=>many.toNat - xs.length | _=>0) ⟨rows,mix,rfl,d,hx0,hx1,by omega,d.at'⟩ ?_ (zG2 (zMh zOk (zSp zNh (zG3 zD2 zLk)) zD2))
  rintro σ H2 ⟨rows,mix,rfl,d2,hx0,hx1,l2,ha2⟩
  refine ⟨_,rfl,r,_,rfl,.inl (SqL.of d2.at'),_,rfl,_,_,rfl,rfl,_,rfl,?_⟩
  refine ifD (fun hlt=>?_) (fun hlt=>?_)
  ·have hlt':((rows.map V.int).length:Int) < many:=hlt
   rw [List.length_map] at hlt'
   refine ⟨_,rfl,_,_,rfl,rfl,.inr ⟨by decide,by decide⟩,_,_,rfl,rfl,_,_,rfl,rfl,(by show (0:Int) < 2147483647; decide),?_⟩
   have m0:=Int.emod_nonneg (mix * 48271 + 11) (show (2147483647:Int)≠0 by decide)
   have m1:=Int.emod_lt_of_pos (mix * 48271 + 11) (show (0:Int) < 2147483647 by decide)
   refine ⟨_,rfl,.inl ⟨rfl,_,SqL.of d2.at'⟩,_,rfl,_,rfl,fun v v0 v1=>?_⟩
   refine ⟨r,_,_,rfl,rfl,d2.at',zA2 (by rw [List.length_map]; omega),⟨rows ++ [v],_,rfl,d2.app hr0 hcr v0 v1,m0,m1,by rw [List.length_append,List.length_singleton]; omega,(d2.app hr0 hcr v0 v1).at'⟩,?_⟩
   rw [ha2,zAb]
   show many.toNat - (rows.map V.int ++ [V.int v]).length < many.toNat - (rows.map V.int).length
   rw [List.length_append,List.length_map,List.length_singleton]
   omega
  ·have hlt':¬ ((rows.map V.int).length:Int) < many:=hlt
   rw [List.length_map] at hlt'
   exact ⟨_,rfl,q r rows H2 d2.same hr0 d2.at' (by omega) (by omega) d2.bd⟩
def zR4 (ss:List Sd) (m:Nat):Prop:=∀ t∈ss,t.2.1.natAbs≤3 * 10 ^ 8∧t.2.2.1.natAbs≤3 * 10 ^ 8∧t.2.2.2.natAbs≤m
def zJn (K:PySem.W.Frag):Sp:=fun vs H Q _=>∃ (r l:Addr) (rows:List Int) (ss:List Sd),vs = [.ref r,.ref l]∧SqL K H r (rows.map V.int)∧2≤rows.length∧(∀ x∈rows,0≤x∧x < 1000003)∧H l = some (.lst (zAo ss))∧SdOk H ss∧ss.length≤900∧zR4 ss (3 * 10 ^ 12) ∧
 ∀ (l':Addr) (ss':List Sd) (H':Hp),Same H H'→H' l' = some (.lst (zAo ss'))→ss'.length = ss.length→SdOk H' ss'→zR4 ss' (4 * 10 ^ 12)→Q (.ref l') H'
theorem zOt (F:Fun K "_law_tight" "_law_tight" zGi f fd) (Z:Zs mg)  : FnOk P w K mg base CX0 1 f fd ["_law_some", "_law_sides_here"] (zJn K):=by
 refine F.ok zOm (fun vs H Q E h=>?_) (fun cdv A outer s H vs Q E hr h=>?_)
 ·obtain ⟨r,l,rows,ss,rfl,_⟩:=h
  rfl
 obtain ⟨r,l,rows,ss,rfl,hS,h2,bd,el,ok,hlen,bnd,q⟩:=h
 refine ⟨_,(zAg (zBj (zAu zFu (zAm zA8 (zAn zAj (pv 0) zAc (fun _ _=>rfl)) zAc) zAc (zAy _)) (zAi (zAp (pv 1))) zAx)
   (zAg (zBj (zAu zFu (zAm zA8 (zAn zAj (pv 0) zAc (fun _ _=>rfl)) zAc) zAc (zAy _)) (zAi (zAp (zEq (T:=["_law_a", "_law_b", "_law_c"]) (caps:=[]) ⟨rfl,by decide +kernel,by decide +kernel,rfl,True.intro⟩ rfl (zCg (pv 1)) (fun _=>(zG8 rfl (zA7 (zAt (i:=0) (show (["_law_a", "_law_b", "_law_c"]:List Str).Nodup by decide +kernel) rfl (Or.inl rfl)) (zA7 (zAt (i:=1) (show (["_law_a", "_law_b", "_law_c"]:List Str).Nodup by decide +kernel) rfl (Or.inl rfl)) (zA7 (zAt (i:=2) (show (["_law_a", "_law_b", "_law_c"]:List Str).Nodup by decide +kernel) rfl (Or.inl rfl)) zEx))))) (fun _=>zCc) (fun _=>(zBe (zAa (pv 0) (zAa (pv 1) (zAa (zAm zBw (zAm zBw (pv 2) (zAw zB2 rfl Z.abs zEt (zAa (pv 0) zAd))) (zAw zB2 rfl Z.abs zEt (zAa (pv 1) zAd))) zAd)))))))) zAx)
   (zAi (zAp (zEq (T:=["_law_a", "_law_b", "_law_c"]) (caps:=[("_law_some", 0)]) ⟨rfl,by decide +kernel,by decide +kernel,rfl,⟨⟨rfl,rfl,Or.inl rfl⟩,True.intro⟩⟩ rfl (zCg (pv 1)) (fun _=>(zG8 rfl (zA7 (zAt (i:=0) (show (["_law_a", "_law_b", "_law_c", "_law_some"]:List Str).Nodup by decide +kernel) rfl (Or.inl rfl)) (zA7 (zAt (i:=1) (show (["_law_a", "_law_b", "_law_c", "_law_some"]:List Str).Nodup by decide +kernel) rfl (Or.inl rfl)) (zA7 (zAt (i:=2) (show (["_law_a", "_law_b", "_law_c", "_law_some"]:List Str).Nodup by decide +kernel) rfl (Or.inl rfl)) zEx))))) (fun _=>zCc) (fun _=>(zBe (zAa (pv 0) (zAa (pv 1) (zAa (zAm zB1 (zAw zB2 rfl Z.abs zEt (zAa (pv 2) zAd)) (zAm zA8 (zAn zAj (pv 3) zAc (fun _ _=>rfl)) zAc)) zAd)))))))))),?_⟩
 obtain ⟨v0,a0,_⟩:=zDq bd (k:=0) (by decide) (by omega)
 obtain ⟨v1,a1,w0,w1⟩:=zDq bd (k:=1) (by decide) (by omega)
 refine ⟨_,rfl,r,_,_,_,rfl,rfl,.inl hS,a0,_,_,rfl,rfl,(by show (0:Int) < 3; decide),rfl,_,rfl,?_⟩
 refine ifE (fun _=>?_) (fun _=>?_)
 ·exact ⟨_,rfl,q l ss H (Same.refl _) el rfl ok fun t ht=>⟨(bnd t ht).1,(bnd t ht).2.1,by have:=(bnd t ht).2.2; omega⟩⟩
 refine ⟨_,rfl,r,_,_,_,rfl,rfl,.inl hS,a0,_,_,rfl,rfl,(by show (0:Int) < 3; decide),rfl,_,rfl,?_⟩
 refine ifE (fun _=>?_) (fun _=>?_)
 ·show _
  refine ⟨_,rfl,l,rfl,.inl ⟨⟨_,SqL.of el⟩,fun cc D hD=>zCa (K:=K) (a:=l) (xs:=zAo ss) (fun i σ ys G=>∃ sa:List Sd,ys = zAo sa∧sa.length = i∧SdSt H D sa G∧zR4 sa (4 * 10 ^ 12)∧∃ u0 u1 u2:Option V,σ = [u0,u1,u2])
   ⟨[],rfl,rfl,⟨zAe hD _,hD,zAb,(fun t ht=>nomatch ht)⟩,(fun t ht=>nomatch ht),none,none,none,rfl⟩ (fun i σ ys G _ ⟨sa,e1,_,Pq,_⟩=>⟨SqL.of (Pq.same _ _ el),by rw [e1]; exact Pq.at'⟩) ?_ ?_⟩⟩
  ·rintro i x σ ys Gc hi ⟨sa,rfl,na,Pc,bc,u0,u1,u2,rfl⟩
   obtain ⟨t,gt,rfl,hil⟩:=zBt hi
   obtain ⟨et,nt,_⟩:=ok t (List.mem_of_getElem? gt)
   obtain ⟨b1,b2,b3⟩:=bnd t (List.mem_of_getElem? gt)
   refine ⟨t.1,_,rfl,SqT.of (Pc.same _ _ et),rfl,.int t.2.1,_,rfl,.int t.2.2.1,_,rfl,.int t.2.2.2,_,rfl,rfl,?_⟩
   have nb:(t.2.2.2 - (if t.2.1 < 0 then -t.2.1 else t.2.1) - (if t.2.2.1 < 0 then -t.2.2.1 else t.2.2.1)).natAbs≤4 * 10 ^ 12:=by
    split <;> first | omega | (split <;> omega)
   refine ⟨_,rfl,_,rfl,_,rfl,_,rfl,_,rfl,_,_,rfl,rfl,_,rfl,_,rfl,_,_,rfl,rfl,(by show 3≤sizeLine; decide),fun p hp=>?_⟩
   have sp:=zAe hp (.tup [.int t.2.1,.int t.2.2.1,.int (t.2.2.2 - (if t.2.1 < 0 then -t.2.1 else t.2.1) - (if t.2.2.1 < 0 then -t.2.2.1 else t.2.2.1))])
   refine ⟨sp _ _ Pc.at',zA2 (by rw [zAk]; omega),sa ++ [(p,t.2.1,t.2.2.1,(t.2.2.2 - (if t.2.1 < 0 then -t.2.1 else t.2.1) - (if t.2.2.1 < 0 then -t.2.2.1 else t.2.2.1)))],by simp [zAo],by rw [List.length_append,na]; rfl,Pc.app sp hp zAb nt (by omega) (by omega) (by omega),fun u hu=>(List.mem_append.mp hu).elim (bc u) fun h=>by rw [List.mem_singleton] at h; subst h; exact ⟨b1,b2,nb⟩,_,_,_,rfl⟩
  ·rintro σ ys Gc ⟨sa,rfl,na,Pc,bc,u0,u1,u2,rfl⟩
   rw [zAk] at na
   exact q D sa Gc Pc.same Pc.at' na Pc.all bc
 ·show _
  refine ⟨_,rfl,l,rfl,.inl ⟨⟨_,SqL.of el⟩,fun cc D hD=>zCa (K:=K) (a:=l) (xs:=zAo ss) (fun i σ ys G=>∃ sa:List Sd,ys = zAo sa∧sa.length = i∧SdSt H D sa G∧zR4 sa (4 * 10 ^ 12)∧∃ u0 u1 u2:Option V,σ = [u0,u1,u2,some (.ref r)])
   ⟨[],rfl,rfl,⟨zAe hD _,hD,zAb,(fun t ht=>nomatch ht)⟩,(fun t ht=>nomatch ht),none,none,none,rfl⟩ (fun i σ ys G _ ⟨sa,e1,_,Pq,_⟩=>⟨SqL.of (Pq.same _ _ el),by rw [e1]; exact Pq.at'⟩) ?_ ?_⟩⟩
  ·rintro i x σ ys Gc hi ⟨sa,rfl,na,Pc,bc,u0,u1,u2,rfl⟩
   obtain ⟨t,gt,rfl,hil⟩:=zBt hi
   obtain ⟨et,nt,_⟩:=ok t (List.mem_of_getElem? gt)
   obtain ⟨b1,b2,b3⟩:=bnd t (List.mem_of_getElem? gt)
   refine ⟨t.1,_,rfl,SqT.of (Pc.same _ _ et),rfl,.int t.2.1,_,rfl,.int t.2.2.1,_,rfl,.int t.2.2.2,_,rfl,rfl,?_⟩
   have nb:((if t.2.2.2 < 0 then -t.2.2.2 else t.2.2.2) + v1 % 4).natAbs≤4 * 10 ^ 12:=by
    split <;> first | omega | (split <;> omega)
   refine ⟨_,rfl,_,rfl,_,rfl,_,rfl,_,rfl,r,_,_,_,rfl,rfl,.inl (Pc.same.seq hS),a1,_,_,rfl,rfl,(by show (0:Int) < 4; decide),_,_,rfl,rfl,(by show 3≤sizeLine; decide),fun p hp=>?_⟩
   have sp:=zAe hp (.tup [.int t.2.1,.int t.2.2.1,.int ((if t.2.2.2 < 0 then -t.2.2.2 else t.2.2.2) + v1 % 4)])
   refine ⟨sp _ _ Pc.at',zA2 (by rw [zAk]; omega),sa ++ [(p,t.2.1,t.2.2.1,((if t.2.2.2 < 0 then -t.2.2.2 else t.2.2.2) + v1 % 4))],by simp [zAo],by rw [List.length_append,na]; rfl,Pc.app sp hp zAb nt (by omega) (by omega) (by omega),fun u hu=>(List.mem_append.mp hu).elim (bc u) fun h=>by rw [List.mem_singleton] at h; subst h; exact ⟨b1,b2,nb⟩,_,_,_,rfl⟩
  ·rintro σ ys Gc ⟨sa,rfl,na,Pc,bc,u0,u1,u2,rfl⟩
   rw [zAk] at na
   exact q D sa Gc Pc.same Pc.at' na Pc.all bc
def zKr (_:PySem.W.Frag):Sp:=fun vs H Q _=>∃ (o t wd:Int),vs = [.int o,.int t,.int wd]∧1≤wd∧wd≤1000000 ∧
 ∀ (p:Addr) (x y:Int) (H':Hp),Same H H'→H p = none→H' p = some (.tup [.int x,.int y])→(x≠0∨y≠0)→x.natAbs≤wd.natAbs→y.natAbs≤wd.natAbs→Q (.ref p) H'
theorem zSx (F:Fun K "_law_way" "_law_way" zJ9 f fd) (Z:Zs mg)  : FnOk P w K mg base CX0 1 f fd ["_law_one", "_law_two", "_law_wide"] (zKr K):=by
 refine F.ok zHj (fun vs H Q E h=>?_) (fun cdv A outer s H vs Q E hr h=>?_)
 ·obtain ⟨o,t,wd,rfl,_⟩:=h
  rfl
 obtain ⟨o,t,wd,rfl,w1,w2,q⟩:=h
 refine ⟨_,(zAg (zAr (i:=3) zHj.nd rfl (Or.inl rfl) (zAm zBw (zAm zA8 (pv 0) (zAm zB1 (zAm zBa zAc (pv 2)) zAc)) (pv 2)))
   (zAg (zAr (i:=4) zHj.nd rfl (Or.inl rfl) (zAm zBw (zAm zA8 (pv 1) (zAm zB1 (zAm zBa zAc (pv 2)) zAc)) (pv 2)))
   (zAg (zBj (PW.pt (zGu (zAu zFu (pv 3) zAc (zAy _)) (zEg (zAu zFu (pv 4) zAc (zAy _))))) (zAi (zAr (i:=3) zHj.nd rfl (Or.inl rfl) (zAm zBw zAc (zAm zBa zAc (zAm zA8 (pv 0) zAc))))) zAx)
   (zAi (zAp (zBe (zAa (pv 3) (zAa (pv 4) zAd)))))))),?_⟩
 have x0:=Int.emod_nonneg o (show 2 * wd + 1≠0 by omega)
 have x1:=Int.emod_lt_of_pos o (show 0 < 2 * wd + 1 by omega)
 have y0:=Int.emod_nonneg t (show 2 * wd + 1≠0 by omega)
 have y1:=Int.emod_lt_of_pos t (show 0 < 2 * wd + 1 by omega)
 refine ⟨_,rfl,_,rfl,_,_,rfl,rfl,.inl ⟨by decide,by decide⟩,_,_,rfl,rfl,_,_,rfl,rfl,(by show 0 < 2 * wd + 1; omega),_,rfl,_,_,rfl,rfl,?_⟩
 refine ⟨_,rfl,_,rfl,_,_,rfl,rfl,.inl ⟨by decide,by decide⟩,_,_,rfl,rfl,_,_,rfl,rfl,(by show 0 < 2 * wd + 1; omega),_,rfl,_,_,rfl,rfl,?_⟩
 refine ⟨_,rfl,rfl,_,rfl,?_⟩
 refine ifE (fun hx=>?_) (fun hx=>?_)
 ·refine ⟨_,rfl,rfl,_,rfl,?_⟩
  refine ifE (fun hy=>?_) (fun hy=>?_)
  ·refine ⟨_,rfl,_,_,rfl,rfl,(by show (0:Int) < 2; decide),_,_,rfl,rfl,.inl ⟨by decide,by decide⟩,_,_,rfl,rfl,?_⟩
   refine ⟨_,rfl,_,rfl,(by show 2≤sizeLine; decide),fun p hp=>?_⟩
   exact q p _ _ _ (zAe hp _) hp zAb (by left; omega) (by omega) (by omega)
  ·refine ⟨_,rfl,_,rfl,(by show 2≤sizeLine; decide),fun p hp=>?_⟩
   exact q p _ _ _ (zAe hp _) hp zAb (.inr hy) (by omega) (by omega)
 ·refine iteF ?_
  refine ⟨_,rfl,_,rfl,(by show 2≤sizeLine; decide),fun p hp=>?_⟩
  exact q p _ _ _ (zAe hp _) hp zAb (.inl hx) (by omega) (by omega)
theorem zHr {x y C v0 v1 v3:Int} (hn:x≠0∨y≠0) (mx:x.natAbs≤2000) (my:y.natAbs≤2000) (mc:C.natAbs≤1000000):(997 * x + v0 % 5 - 2≠0∨997 * y + v1 % 5 - 2≠0)∧(997 * x + v0 % 5 - 2).natAbs≤10 ^ 7∧(997 * y + v1 % 5 - 2).natAbs≤10 ^ 7∧(997 * C + v3 % 900).natAbs≤10 ^ 10 :=
 ⟨by clear mx my mc; omega,by clear my mc hn; omega,by clear mx mc hn; omega,by clear mx my hn; omega⟩
def zK3 (K:PySem.W.Frag):Sp:=fun vs H Q _=>∃ (a:Addr) (rows:List Int),vs = [.ref a]∧SqL K H a (rows.map V.int)∧5≤rows.length∧(∀ x∈rows,0≤x∧x < 1000003) ∧
 ∀ (p:Addr) (A B C:Int) (H':Hp),Same H H'→H p = none→H' p = some (.tup [.int A,.int B,.int C])→(A≠0∨B≠0)→A.natAbs≤10 ^ 7→B.natAbs≤10 ^ 7→C.natAbs≤10 ^ 10→Q (.ref p) H'
theorem zPv (F:Fun K "_law_side" "_law_side" zHs f fd) (Z:Zs mg) (h_L_way:Has P w K mg base "_law_way" 1 ["_law_one", "_law_two", "_law_wide"] (zKr K)):FnOk P w K mg base CX0 2 f fd ["_law_d"] (zK3 K):=by
 refine F.ok zD5 (fun vs H Q E h=>?_) (fun cdv A outer s H vs Q E hr h=>?_)
 ·obtain ⟨a,rows,rfl,_⟩:=h
  rfl
 obtain ⟨a,rows,rfl,hS,hl,bd,q⟩:=h
 refine ⟨_,(zAg (zNv (zAf h_L_way (hr.mono (by decide)) rfl (zAa (zAn zAj (pv 0) zAc (fun _ _=>rfl)) (zAa (zAn zAj (pv 0) zAc (fun _ _=>rfl)) (zAa (zAn zAj (zCz (zAa zAc (zAa zAc (zAa zAc (zAa zAc (zAa zAc zAd)))))) (zAm zA8 (zAn zAj (pv 0) zAc (fun _ _=>rfl)) zAc) (fun _ _=>rfl)) zAd)))) (zG8 rfl (zA7 (zAt (i:=1) zD5.nd rfl (Or.inl rfl)) (zA7 (zAt (i:=2) zD5.nd rfl (Or.inl rfl)) zEx))))
   (zAg (zAr (i:=3) zD5.nd rfl (Or.inl rfl) (zAm zBw (zAm zA8 (zAn zAj (pv 0) zAc (fun _ _=>rfl)) zAc) zAc))
   (zAg (zBj (zAu zFu (zAm zA8 (zAn zAj (pv 0) zAc (fun _ _=>rfl)) zAc) zAc (zAy _)) (zAi (zAr (i:=3) zD5.nd rfl (Or.inl rfl) (zAm zBw (zAm zA8 (zAn zAj (pv 0) zAc (fun _ _=>rfl)) zAc) zAc))) zAx)
   (zAg (zBj (zAu zFu (zAm zA8 (zAn zAj (pv 0) zAc (fun _ _=>rfl)) zAc) zAc (zAy _)) (zAi (zAr (i:=3) zD5.nd rfl (Or.inl rfl) (zAm zB1 (zAm zBa (pv 1) (zAm zBw (zAm zA8 (zAn zAj (pv 0) zAc (fun _ _=>rfl)) zAc) zAc)) (zAm zBa (pv 2) (zAm zBw (zAm zA8 (zAm zC9 (zAn zAj (pv 0) zAc (fun _ _=>rfl)) zAc) zAc) zAc))))) zAx)
   (zAg (zBj (zAu zFu (zAm zA8 (zAm zC9 (zAn zAj (pv 0) zAc (fun _ _=>rfl)) zAc) zAc) zAc (zAy _)) (zAi (zAp (zBe (zAa (zAm zBw (zAm zB1 (zAm zBa zAc (pv 1)) (zAm zA8 (zAn zAj (pv 0) zAc (fun _ _=>rfl)) zAc)) zAc) (zAa (zAm zBw (zAm zB1 (zAm zBa zAc (pv 2)) (zAm zA8 (zAn zAj (pv 0) zAc (fun _ _=>rfl)) zAc)) zAc) (zAa (zAm zB1 (zAm zBa zAc (pv 3)) (zAm zA8 (zAn zAj (pv 0) zAc (fun _ _=>rfl)) zAc)) zAd)))))) zAx)
   (zAi (zAp (zBe (zAa (pv 1) (zAa (pv 2) (zAa (pv 3) zAd))))))))))),?_⟩
 obtain ⟨v0,a0,b00,b01⟩:=zDq bd (k:=0) (by decide) (by omega)
 obtain ⟨v1,a1,b10,b11⟩:=zDq bd (k:=1) (by decide) (by omega)
 obtain ⟨v2,a2,b20,b21⟩:=zDq bd (k:=2) (by decide) (by omega)
 obtain ⟨v3,a3,b30,b31⟩:=zDq bd (k:=3) (by decide) (by omega)
 obtain ⟨v4,a4,b40,b41⟩:=zDq bd (k:=4) (by decide) (by omega)
 refine ⟨_,rfl,a,_,_,_,rfl,rfl,.inl hS,a0,_,rfl,a,_,_,_,rfl,rfl,.inl hS,a1,(by show 5≤sizeLine; decide),fun c hc=>?_⟩
 have s1:=zAe hc (.lst [.int 3,.int 3,.int 3,.int 100,.int 2000])
 obtain ⟨wd,hw,hw1,hw2⟩:∃ b:Int,atI [V.int 3,V.int 3,V.int 3,V.int 100,V.int 2000] (v4 % 5) = some (.int b)∧1≤b∧b≤2000:=by
  have c0:=Int.emod_nonneg v4 (show (5:Int)≠0 by decide)
  have c1:=Int.emod_lt_of_pos v4 (show (0:Int) < 5 by decide)
  have cc:v4 % 5 = 0∨v4 % 5 = 1∨v4 % 5 = 2∨v4 % 5 = 3∨v4 % 5 = 4:=by omega
  rcases cc with e | e | e | e | e
  ·exact ⟨3,by rw [e]; rfl,by decide,by decide⟩
  ·exact ⟨3,by rw [e]; rfl,by decide,by decide⟩
  ·exact ⟨3,by rw [e]; rfl,by decide,by decide⟩
  ·exact ⟨100,by rw [e]; rfl,by decide,by decide⟩
  ·exact ⟨2000,by rw [e]; rfl,by decide,by decide⟩
 refine ⟨_,rfl,a,_,_,_,rfl,rfl,.inl (s1.seq hS),a4,_,_,rfl,rfl,(by show (0:Int) < 5; decide),c,_,_,.int wd,rfl,rfl,.inl (SqL.of zAb),hw,v0,v1,wd,rfl,hw1,by omega,fun p x y H2 s2' hp e2 hn n1 n2=>?_⟩
 have s2:=s1.trans s2'
 have mx:x.natAbs≤2000:=by omega
 have my:y.natAbs≤2000:=by omega
 refine ⟨p,[.int x,.int y],rfl,SqT.of e2,rfl,.int x,[.int y],rfl,.int y,[],rfl,rfl,?_⟩
 refine ⟨_,rfl,a,_,_,_,rfl,rfl,.inl (s2.seq hS),a2,_,_,rfl,rfl,(by show (0:Int) < 19; decide),_,_,rfl,rfl,?_⟩
 refine ⟨_,rfl,a,_,_,_,rfl,rfl,.inl (s2.seq hS),a3,_,_,rfl,rfl,(by show (0:Int) < 4; decide),rfl,_,rfl,?_⟩
 refine ifE (fun _=>?_) (fun _=>?_)
 ·refine ⟨_,rfl,a,_,_,_,rfl,rfl,.inl (s2.seq hS),a2,_,_,rfl,rfl,(by show (0:Int) < 1000001; decide),_,_,rfl,rfl,?_⟩
  refine ⟨_,rfl,a,_,_,_,rfl,rfl,.inl (s2.seq hS),a3,_,_,rfl,rfl,(by show (0:Int) < 4; decide),rfl,_,rfl,?_⟩
  refine ifE (fun _=>?_) (fun _=>?_)
  ·refine ⟨_,rfl,_,rfl,a,_,_,_,rfl,rfl,.inl (s2.seq hS),a2,_,_,rfl,rfl,(by show (0:Int) < 9; decide),_,_,rfl,rfl,_,_,rfl,rfl,cm_l (by omega),
    _,rfl,_,rfl,a,_,_,_,rfl,rfl,.inl (s2.seq hS),a2,_,_,rfl,rfl,zEw.of (by decide) (by decide +kernel),_,_,rfl,rfl,(by show (0:Int) < 9; decide),_,_,rfl,rfl,_,_,rfl,rfl,cm_l (by omega),_,_,rfl,rfl,?_⟩
   have z1:=zAh x (v2 % 9 - 4) (m:=2000) (n:=4) mx (by omega)
   have z2:=zAh y (v2 / 9 % 9 - 4) (m:=2000) (n:=4) my (by omega)
   have mc:((x * (v2 % 9 - 4) + y * (v2 / 9 % 9 - 4))).natAbs≤1000000:=by omega
   refine ⟨_,rfl,a,_,_,_,rfl,rfl,.inl (s2.seq hS),a4,_,_,rfl,rfl,zEw.of (by decide) (by decide +kernel),_,_,rfl,rfl,(by show (0:Int) < 12; decide),rfl,_,rfl,?_⟩
   refine ifE (fun _=>?_) (fun _=>?_)
   ·refine ⟨_,rfl,_,_,rfl,rfl,.inl ⟨by decide,by decide⟩,_,rfl,a,_,_,_,rfl,rfl,.inl (s2.seq hS),a0,_,_,rfl,rfl,(by show (0:Int) < 5; decide),_,_,rfl,rfl,_,_,rfl,rfl,
     _,rfl,_,_,rfl,rfl,.inl ⟨by decide,by decide⟩,_,rfl,a,_,_,_,rfl,rfl,.inl (s2.seq hS),a1,_,_,rfl,rfl,(by show (0:Int) < 5; decide),_,_,rfl,rfl,_,_,rfl,rfl,
     _,rfl,_,_,rfl,rfl,.inl ⟨by decide,by decide⟩,_,rfl,a,_,_,_,rfl,rfl,.inl (s2.seq hS),a3,_,_,rfl,rfl,(by show (0:Int) < 900; decide),_,_,rfl,rfl,(by show 3≤sizeLine; decide),fun r hr0=>?_⟩
    have sb:=zHr (v0:=v0) (v1:=v1) (v3:=v3) hn mx my mc
    exact q r _ _ _ _ (s2.trans (zAe hr0 _)) (s2.free hr0) zAb sb.1 sb.2.1 sb.2.2.1 sb.2.2.2
   ·refine ⟨_,rfl,_,rfl,_,rfl,(by show 3≤sizeLine; decide),fun r hr0=>?_⟩
    exact q r _ _ _ _ (s2.trans (zAe hr0 _)) (s2.free hr0) zAb hn (Nat.le_trans mx (by decide)) (Nat.le_trans my (by decide)) (Nat.le_trans mc (by decide))
  ·skip
   have mc:((v2 % 1000001 - 300000)).natAbs≤1000000:=by omega
   refine ⟨_,rfl,a,_,_,_,rfl,rfl,.inl (s2.seq hS),a4,_,_,rfl,rfl,zEw.of (by decide) (by decide +kernel),_,_,rfl,rfl,(by show (0:Int) < 12; decide),rfl,_,rfl,?_⟩
   refine ifE (fun _=>?_) (fun _=>?_)
   ·refine ⟨_,rfl,_,_,rfl,rfl,.inl ⟨by decide,by decide⟩,_,rfl,a,_,_,_,rfl,rfl,.inl (s2.seq hS),a0,_,_,rfl,rfl,(by show (0:Int) < 5; decide),_,_,rfl,rfl,_,_,rfl,rfl,
     _,rfl,_,_,rfl,rfl,.inl ⟨by decide,by decide⟩,_,rfl,a,_,_,_,rfl,rfl,.inl (s2.seq hS),a1,_,_,rfl,rfl,(by show (0:Int) < 5; decide),_,_,rfl,rfl,_,_,rfl,rfl,
     _,rfl,_,_,rfl,rfl,.inl ⟨by decide,by decide⟩,_,rfl,a,_,_,_,rfl,rfl,.inl (s2.seq hS),a3,_,_,rfl,rfl,(by show (0:Int) < 900; decide),_,_,rfl,rfl,(by show 3≤sizeLine; decide),fun r hr0=>?_⟩
    have sb:=zHr (v0:=v0) (v1:=v1) (v3:=v3) hn mx my mc
    exact q r _ _ _ _ (s2.trans (zAe hr0 _)) (s2.free hr0) zAb sb.1 sb.2.1 sb.2.2.1 sb.2.2.2
   ·refine ⟨_,rfl,_,rfl,_,rfl,(by show 3≤sizeLine; decide),fun r hr0=>?_⟩
    exact q r _ _ _ _ (s2.trans (zAe hr0 _)) (s2.free hr0) zAb hn (Nat.le_trans mx (by decide)) (Nat.le_trans my (by decide)) (Nat.le_trans mc (by decide))
 ·skip
  refine ⟨_,rfl,a,_,_,_,rfl,rfl,.inl (s2.seq hS),a3,_,_,rfl,rfl,(by show (0:Int) < 4; decide),rfl,_,rfl,?_⟩
  refine ifE (fun _=>?_) (fun _=>?_)
  ·refine ⟨_,rfl,_,rfl,a,_,_,_,rfl,rfl,.inl (s2.seq hS),a2,_,_,rfl,rfl,(by show (0:Int) < 9; decide),_,_,rfl,rfl,_,_,rfl,rfl,cm_l (by omega),
    _,rfl,_,rfl,a,_,_,_,rfl,rfl,.inl (s2.seq hS),a2,_,_,rfl,rfl,zEw.of (by decide) (by decide +kernel),_,_,rfl,rfl,(by show (0:Int) < 9; decide),_,_,rfl,rfl,_,_,rfl,rfl,cm_l (by omega),_,_,rfl,rfl,?_⟩
   have z1:=zAh x (v2 % 9 - 4) (m:=2000) (n:=4) mx (by omega)
   have z2:=zAh y (v2 / 9 % 9 - 4) (m:=2000) (n:=4) my (by omega)
   have mc:((x * (v2 % 9 - 4) + y * (v2 / 9 % 9 - 4))).natAbs≤1000000:=by omega
   refine ⟨_,rfl,a,_,_,_,rfl,rfl,.inl (s2.seq hS),a4,_,_,rfl,rfl,zEw.of (by decide) (by decide +kernel),_,_,rfl,rfl,(by show (0:Int) < 12; decide),rfl,_,rfl,?_⟩
   refine ifE (fun _=>?_) (fun _=>?_)
   ·refine ⟨_,rfl,_,_,rfl,rfl,.inl ⟨by decide,by decide⟩,_,rfl,a,_,_,_,rfl,rfl,.inl (s2.seq hS),a0,_,_,rfl,rfl,(by show (0:Int) < 5; decide),_,_,rfl,rfl,_,_,rfl,rfl,
     _,rfl,_,_,rfl,rfl,.inl ⟨by decide,by decide⟩,_,rfl,a,_,_,_,rfl,rfl,.inl (s2.seq hS),a1,_,_,rfl,rfl,(by show (0:Int) < 5; decide),_,_,rfl,rfl,_,_,rfl,rfl,
     _,rfl,_,_,rfl,rfl,.inl ⟨by decide,by decide⟩,_,rfl,a,_,_,_,rfl,rfl,.inl (s2.seq hS),a3,_,_,rfl,rfl,(by show (0:Int) < 900; decide),_,_,rfl,rfl,(by show 3≤sizeLine; decide),fun r hr0=>?_⟩
    have sb:=zHr (v0:=v0) (v1:=v1) (v3:=v3) hn mx my mc
    exact q r _ _ _ _ (s2.trans (zAe hr0 _)) (s2.free hr0) zAb sb.1 sb.2.1 sb.2.2.1 sb.2.2.2
   ·refine ⟨_,rfl,_,rfl,_,rfl,(by show 3≤sizeLine; decide),fun r hr0=>?_⟩
    exact q r _ _ _ _ (s2.trans (zAe hr0 _)) (s2.free hr0) zAb hn (Nat.le_trans mx (by decide)) (Nat.le_trans my (by decide)) (Nat.le_trans mc (by decide))
  ·skip
   have mc:((v2 % 19 - 4)).natAbs≤1000000:=by omega
   refine ⟨_,rfl,a,_,_,_,rfl,rfl,.inl (s2.seq hS),a4,_,_,rfl,rfl,zEw.of (by decide) (by decide +kernel),_,_,rfl,rfl,(by show (0:Int) < 12; decide),rfl,_,rfl,?_⟩
   refine ifE (fun _=>?_) (fun _=>?_)
   ·refine ⟨_,rfl,_,_,rfl,rfl,.inl ⟨by decide,by decide⟩,_,rfl,a,_,_,_,rfl,rfl,.inl (s2.seq hS),a0,_,_,rfl,rfl,(by show (0:Int) < 5; decide),_,_,rfl,rfl,_,_,rfl,rfl,
     _,rfl,_,_,rfl,rfl,.inl ⟨by decide,by decide⟩,_,rfl,a,_,_,_,rfl,rfl,.inl (s2.seq hS),a1,_,_,rfl,rfl,(by show (0:Int) < 5; decide),_,_,rfl,rfl,_,_,rfl,rfl,
     _,rfl,_,_,rfl,rfl,.inl ⟨by decide,by decide⟩,_,rfl,a,_,_,_,rfl,rfl,.inl (s2.seq hS),a3,_,_,rfl,rfl,(by show (0:Int) < 900; decide),_,_,rfl,rfl,(by show 3≤sizeLine; decide),fun r hr0=>?_⟩
    have sb:=zHr (v0:=v0) (v1:=v1) (v3:=v3) hn mx my mc
    exact q r _ _ _ _ (s2.trans (zAe hr0 _)) (s2.free hr0) zAb sb.1 sb.2.1 sb.2.2.1 sb.2.2.2
   ·refine ⟨_,rfl,_,rfl,_,rfl,(by show 3≤sizeLine; decide),fun r hr0=>?_⟩
    exact q r _ _ _ _ (s2.trans (zAe hr0 _)) (s2.free hr0) zAb hn (Nat.le_trans mx (by decide)) (Nat.le_trans my (by decide)) (Nat.le_trans mc (by decide))
theorem zOo {K:PySem.W.Frag} {l D:Addr} {xs:List V} {g:TG} {te:TE} {σ0:St} {H1:Hp} {Q:VK} (Pv:Nat→St→List V→Hp→Prop) (h0:Pv 0 σ0 [] (upd H1 D (.lst []))) (hl:∀ i σ zs H,Pv i σ zs H→SqL K H l xs∧H D = some (.lst zs))
  (hs:∀ i x T σ zs H,xs[i]? = some x→H T = none→Pv i σ zs H→g (.ref T) σ (upd H T (.tup [.int i,x])) fun σ2 H2=>te σ2 H2 fun z H4=>H4 D = some (.lst zs)∧zs.length < sizeLine∧Pv (i + 1) σ2 (zs ++ [z]) (upd H4 D (.lst (zs ++ [z]))))
  (hd:∀ σ zs H,Pv xs.length σ zs H→Q (.ref D) H):zKj (Ite K l) D g tYes te σ0 H1 Q:=zRk Pv h0 hl (fun i x T σ zs H e1 e2 p=>hs i x T σ zs H e1 e2 p) hd
theorem zOd (ss:List Sd) (j:Nat) (t:Sd):(zAo ss).set j (.ref t.1) = zAo (ss.set j t):=by
 simp [zAo,List.map_set]
theorem cutS2 {ok:Addr→List Sd→Hp→Prop} {G:Prop} {R:Addr→List Sd→Hp→Option V→Option V→Prop} (h1:(∀ D ss H u v,ok D ss H→R D ss H u v)→G) (h2:∀ D ss H u v,ok D ss H→R D ss H u v):G:=h1 h2
def zJ4 (K:PySem.W.Frag):Sp:=fun vs H Q _=>∃ (r:Addr) (rows:List Int) (m:Int),vs = [.ref r,.int m]∧SqL K H r (rows.map V.int)∧0≤m∧m≤60∧3≤rows.length∧3 + 5 * m≤rows.length∧(∀ x∈rows,0≤x∧x < 1000003) ∧
 ∀ (l:Addr) (ss:List Sd) (H':Hp),Same H H'→H l = none→H' l = some (.lst (zAo ss))→ss.length = m.toNat→SdOk H' ss→(∀ t∈ss,t.2.1.natAbs≤3 * 10 ^ 8∧t.2.2.1.natAbs≤3 * 10 ^ 8∧t.2.2.2.natAbs≤3 * 10 ^ 12)→Q (.ref l) H'
theorem zO3 (F:Fun K "_law_sides" "_law_sides" zGq f fd) (Z:Zs mg) (h_L_side:Has P w K mg base "_law_side" 2 ["_law_d"] (zK3 K)):FnOk P w K mg base CX0 3 f fd ["_law_some", "_law_many_here"] (zJ4 K):=by
 refine F.ok zDe (fun vs H Q E h=>?_) (fun cdv A outer s H vs Q E hr h=>?_)
 ·obtain ⟨r,rows,m,rfl,_⟩:=h
  rfl
 obtain ⟨r,rows,m,rfl,hS,m0,m60,hl3,hl,bd,q⟩:=h
 refine ⟨_,(zAg (zFi (T:=["_law_k"]) (caps:=[("_law_some", 0)]) (i:=2) zDe.nd rfl rfl ⟨rfl,by decide +kernel,by decide +kernel,rfl,⟨⟨rfl,rfl,Or.inl rfl⟩,True.intro⟩⟩ rfl (zDj rfl Z.range (zAa (pv 1) zAd)) (fun _=>(zAt (i:=0) (show (["_law_k", "_law_some"]:List Str).Nodup by decide +kernel) rfl (Or.inl rfl))) (fun _=>zCc) (fun _=>(zAf h_L_side (hr.mono (by decide)) rfl (zAa (zBp zC0 (pv 1) (zCi (zAm zB1 zAc (zAm zBa zAc (pv 0)))) zCf) zAd))))
   (zAg (zBj (PW.pt (zGu (zAu zIe (pv 1) zAc (zAy _)) (zEg (zAu zFu (zAm zA8 (zAn zAj (pv 0) zAc (fun _ _=>rfl)) zAc) zAc (zAy _))))) (zAi (zNv (zAn zAj (pv 2) (zAm zA8 (zAn zAj (pv 0) zAc (fun _ _=>rfl)) (pv 1)) (fun _ _=>rfl)) (pg_sub (pv 2) (zAm zA8 (zAn zAj (pv 0) zAc (fun _ _=>rfl)) (pv 1)) zSi))) zAx)
   (zAg (zBj (zAu zFu (zAm zA8 (zAm zC9 (zAn zAj (pv 0) zAc (fun _ _=>rfl)) zAc) zAc) zAc (zAy _)) (zAg (zNv (zBe (zAa (zAm zBw (zAm zA8 (zAn zAj (pv 0) zAc (fun _ _=>rfl)) zAc) zAc) (zAa (zAm zBw (zAm zA8 (zAn zAj (pv 0) zAc (fun _ _=>rfl)) zAc) zAc) zAd))) (zG8 rfl (zA7 (zAt (i:=3) zDe.nd rfl (Or.inr rfl)) (zA7 (zAt (i:=4) zDe.nd rfl (Or.inr rfl)) zEx))))
   (zAi (zFi (T:=["_law_a", "_law_b", "_law_c"]) (caps:=[("_law_x", 3),("_law_y", 4)]) (i:=2) zDe.nd rfl rfl ⟨rfl,by decide +kernel,by decide +kernel,rfl,⟨⟨rfl,rfl,Or.inl rfl⟩,⟨rfl,rfl,Or.inl rfl⟩,True.intro⟩⟩ rfl (zCg (pv 2)) (fun _=>(zG8 rfl (zA7 (zAt (i:=0) (show (["_law_a", "_law_b", "_law_c", "_law_x", "_law_y"]:List Str).Nodup by decide +kernel) rfl (Or.inl rfl)) (zA7 (zAt (i:=1) (show (["_law_a", "_law_b", "_law_c", "_law_x", "_law_y"]:List Str).Nodup by decide +kernel) rfl (Or.inl rfl)) (zA7 (zAt (i:=2) (show (["_law_a", "_law_b", "_law_c", "_law_x", "_law_y"]:List Str).Nodup by decide +kernel) rfl (Or.inl rfl)) zEx))))) (fun _=>zCc) (fun _=>(zBe (zAa (pv 0) (zAa (pv 1) (zAa (zAm zB1 (zAm zB1 (pv 2) (zAm zBa (pv 0) (pv 3))) (zAm zBa (pv 1) (pv 4))) zAd)))))))) zAx)
   (zAg (zBj (zAu zFu (zAm zA8 (zAm zC9 (zAn zAj (pv 0) zAc (fun _ _=>rfl)) zAc) zAc) zAc (zAy _)) (zAi (zFi (T:=["_law_k", "_law_a", "_law_b", "_law_c"]) (caps:=[]) (i:=2) zDe.nd rfl rfl ⟨rfl,by decide +kernel,by decide +kernel,rfl,True.intro⟩ rfl (zT5 rfl Z.enumerate (zAa (pv 2) zAd)) (fun _=>(zG8 rfl (zA7 (zAt (i:=0) (show (["_law_k", "_law_a", "_law_b", "_law_c"]:List Str).Nodup by decide +kernel) rfl (Or.inl rfl)) (zA7 (zG8 rfl (zA7 (zAt (i:=1) (show (["_law_k", "_law_a", "_law_b", "_law_c"]:List Str).Nodup by decide +kernel) rfl (Or.inl rfl)) (zA7 (zAt (i:=2) (show (["_law_k", "_law_a", "_law_b", "_law_c"]:List Str).Nodup by decide +kernel) rfl (Or.inl rfl)) (zA7 (zAt (i:=3) (show (["_law_k", "_law_a", "_law_b", "_law_c"]:List Str).Nodup by decide +kernel) rfl (Or.inl rfl)) zEx)))) zEx)))) (fun _=>zCc) (fun _=>(zSw (zAu zFu (zAm zA8 (pv 0) zAc) zAc (zAy _)) (zBe (zAa (zAm zBa zAc (pv 1)) (zAa (zAm zBa zAc (pv 2)) (zAa (zAm zBa zAc (pv 3)) zAd)))) (zBe (zAa (pv 1) (zAa (pv 2) (zAa (pv 3) zAd)))))))) zAx)
   (zAi (zAp (pv 2))))))),?_⟩
 obtain ⟨v0,a0,_⟩:=zDq bd (k:=0) (by decide) (by omega)
 obtain ⟨v1,a1,_⟩:=zDq bd (k:=1) (by decide) (by omega)
 obtain ⟨v2,a2,_⟩:=zDq bd (k:=2) (by decide) (by omega)
 have cutD:∀ k:Nat,k≤rows.length→cutV (rows.map V.int) (some (k:Int)) none = (rows.drop k).map V.int:=fun k hk=>by
  rw [zIf,HT.sIx_nat rows.length 0 k,show min k rows.length = k by omega,show HT.sIx rows.length rows.length none = rows.length from rfl,List.take_of_length_le (by rw [List.length_drop]; omega)]
 apply cutS (ok:=fun D ss G=>ss.length = m.toNat∧SdSt H D ss G∧∀ t∈ss,t.2.1.natAbs≤10 ^ 7∧t.2.2.1.natAbs≤10 ^ 7∧t.2.2.2.natAbs≤10 ^ 10)
 ·intro main
  refine ⟨_,rfl,_,rfl,(by omega),(by omega),fun cc D hD=>zH8 (lo:=0) (n:=m.toNat) (fun i σ ys G=>∃ ss:List Sd,ys = zAo ss∧ss.length = i∧SdSt H D ss G∧(∀ t∈ss,t.2.1.natAbs≤10 ^ 7∧t.2.2.1.natAbs≤10 ^ 7∧t.2.2.2.natAbs≤10 ^ 10)∧∃ u0:Option V,σ = [u0,some (.ref r)])
   ⟨[],rfl,rfl,⟨zAe hD _,hD,zAb,(fun t ht=>nomatch ht)⟩,(fun t ht=>nomatch ht),none,rfl⟩ (fun i σ ys G _ ⟨ss,e1,_,P,_⟩=>by rw [e1]; exact P.at') ?_ ?_⟩
  ·rintro i σ ys G hi ⟨ss,rfl,hlen,Pi,bnd,u0,rfl⟩
   have cm:CMul 5 (0 + (i:Int)):=.inl ⟨by decide,by decide⟩
   have ci:(3:Int) + 5 * (0 + (i:Int)) = ((3 + 5 * i:Nat):Int):=by omega
   have hi':3 + 5 * i + 5≤rows.length:=by omega
   refine ⟨_,rfl,_,rfl,_,_,rfl,rfl,cm,_,_,rfl,rfl,_,rfl,r,_,rfl,Pi.same.seq hS,fun c1 hc1=>?_⟩
   rw [ci,cutD (3 + 5 * i) (by omega)]
   have sc1:=zAe hc1 (.lst ((rows.drop (3 + 5 * i)).map V.int))
   refine ⟨c1,rows.drop (3 + 5 * i),rfl,SqL.of zAb,by rw [List.length_drop]; omega,fun x hx=>bd x (List.mem_of_mem_drop hx),fun p a b c G2 s2 hp ep n ma mb mc=>?_⟩
   refine ⟨s2 _ _ (sc1 _ _ Pi.at'),zA2 (by rw [zAk]; omega),ss ++ [(p,a,b,c)],by simp [zAo],by rw [List.length_append,hlen]; rfl,Pi.app (sc1.trans s2) (sc1.free hp) ep n (Nat.le_trans ma (by decide)) (Nat.le_trans mb (by decide)) (Nat.le_trans mc (by decide)),fun u hu=>?_,_,rfl⟩
   rcases List.mem_append.mp hu with h | h
   ·exact bnd u h
   ·rw [List.mem_singleton] at h
    subst h
    exact ⟨ma,mb,mc⟩
  rintro σ ys G ⟨ss,rfl,hlen,P0,bnd,u0,rfl⟩
  refine ⟨_,rfl,_,_,rfl,rfl,_,rfl,?_⟩
  refine ifD (fun hm1=>?_) (fun _=>?_)
  ·refine ⟨_,rfl,r,_,_,_,rfl,rfl,.inl (P0.same.seq hS),a0,_,_,rfl,rfl,(by show (0:Int) < 4; decide),rfl,_,rfl,?_⟩
   refine ifE (fun _=>?_) (fun _=>?_)
   ·have sqr:Sq K G r (rows.map V.int):=.inl (P0.same.seq hS)
    have y0:=Int.emod_nonneg v2 (show m≠0 by omega)
    have y1:=Int.emod_lt_of_pos v2 (show 0 < m by omega)
    have x0:=Int.emod_nonneg v1 (show m≠0 by omega)
    have x1:=Int.emod_lt_of_pos v1 (show 0 < m by omega)
    obtain ⟨t,mt,gt,at'⟩:=zBf (ss:=ss) (i:=(v2 % m).toNat) (k:=v2 % m) (by omega) (by omega)
    have ixn:ixN (zAo ss).length (v1 % m) = some (v1 % m).toNat:=by
     unfold ixN
     rw [if_pos x0,zAk,if_pos (by omega)]
    refine ⟨_,rfl,_,rfl,r,_,_,_,rfl,rfl,sqr,a2,_,rfl,_,_,rfl,rfl,(by show (0:Int) < m; omega),D,_,_,_,rfl,rfl,.inl (SqL.of P0.at'),at',?_⟩
    refine ⟨_,rfl,_,rfl,r,_,_,_,rfl,rfl,sqr,a1,_,rfl,_,_,rfl,rfl,(by show (0:Int) < m; omega),D,_,_,_,rfl,rfl,P0.at',ixn,?_⟩
    rw [zOd]
    have P1:SdSt H D (ss.set (v1 % m).toNat t) (upd G D (.lst (zAo (ss.set (v1 % m).toNat t)))):=by
     refine ⟨P0.same.putNew P0.new,P0.new,zAb,fun u hu=>?_⟩
     have hu':u∈ss:=by
      rcases List.mem_or_eq_of_mem_set hu with h | h
      ·exact h
      ·rw [h]; exact mt
     obtain ⟨h1,h2⟩:=P0.all u hu'
     exact ⟨by rw [zAs (zI4 h1 P0.at' (by intro z; cases z))]; exact h1,h2⟩
    have B1:∀ u∈ss.set (v1 % m).toNat t,u.2.1.natAbs≤10 ^ 7∧u.2.2.1.natAbs≤10 ^ 7∧u.2.2.2.natAbs≤10 ^ 10:=fun u hu=>by
     rcases List.mem_or_eq_of_mem_set hu with h | h
     ·exact bnd u h
     ·rw [h]; exact bnd t mt
    have N1:(ss.set (v1 % m).toNat t).length = m.toNat:=by rw [List.length_set]; exact hlen
    generalize upd G D (.lst (zAo (ss.set (v1 % m).toNat t))) = G1 at P1 ⊢
    generalize ss.set (v1 % m).toNat t = ss1 at P1 B1 N1
    exact main D ss1 G1 ⟨N1,P1,B1⟩
   ·exact main D ss G ⟨hlen,P0,bnd⟩
  ·refine iteF ?_
   exact main D ss G ⟨hlen,P0,bnd⟩
 clear cutD
 rintro D ss G ⟨hlen,P0,bnd⟩
 apply cutS2 (ok:=fun D ss G=>ss.length = m.toNat∧SdSt H D ss G∧∀ t∈ss,t.2.1.natAbs≤10 ^ 8∧t.2.2.1.natAbs≤10 ^ 8∧t.2.2.2.natAbs≤10 ^ 12)
 ·intro main2
  refine ⟨_,rfl,r,_,_,_,rfl,rfl,(.inl ((P0).same.seq hS)),a0,_,_,rfl,rfl,zEw.of (by decide) (by decide +kernel),_,_,rfl,rfl,(by show (0:Int) < 3; decide),rfl,_,rfl,?_⟩
  refine ifE (fun _=>?_) (fun _=>?_)
  ·have sqr:Sq K G r (rows.map V.int):=.inl ((P0).same.seq hS)
   refine ⟨_,rfl,r,_,_,_,rfl,rfl,sqr,a1,_,_,rfl,rfl,(by show (0:Int) < 2001; decide),_,_,rfl,rfl,_,rfl,r,_,_,_,rfl,rfl,sqr,a2,_,_,rfl,rfl,(by show (0:Int) < 2001; decide),_,_,rfl,rfl,(by show 2≤sizeLine; decide),fun tx htx=>?_⟩
   have stx:Same G (upd G tx (.tup [.int (v1 % 2001 - 1000),.int (v2 % 2001 - 1000)])):=zAe htx _
   have etx:upd G tx (.tup [.int (v1 % 2001 - 1000),.int (v2 % 2001 - 1000)]) tx = some (.tup [.int (v1 % 2001 - 1000),.int (v2 % 2001 - 1000)]):=zAb
   generalize upd G tx (.tup [.int (v1 % 2001 - 1000),.int (v2 % 2001 - 1000)]) = GX at stx etx ⊢
   have bX:(v1 % 2001 - 1000).natAbs≤1000:=by omega
   have bY:(v2 % 2001 - 1000).natAbs≤1000:=by omega
   generalize v1 % 2001 - 1000 = X at etx bX
   generalize v2 % 2001 - 1000 = Y at etx bY
   refine ⟨tx,_,rfl,SqT.of etx,rfl,.int X,_,rfl,.int Y,_,rfl,rfl,?_⟩
   refine ⟨_,rfl,D,rfl,.inl ⟨⟨_,SqL.of (stx _ _ (P0).at')⟩,fun cc D2 hD2=>zCa (K:=K) (a:=D) (xs:=zAo ss) (fun i σ ys Gd=>∃ sb:List Sd,ys = zAo sb∧sb.length = i∧SdSt GX D2 sb Gd∧(∀ t∈sb,t.2.1.natAbs≤10 ^ 7∧t.2.2.1.natAbs≤10 ^ 7∧t.2.2.2.natAbs≤10 ^ 12)∧∃ u0 u1 u2:Option V,σ = [u0,u1,u2,some (.int X),some (.int Y)])
    ⟨[],rfl,rfl,⟨zAe hD2 _,hD2,zAb,(fun t ht=>nomatch ht)⟩,(fun t ht=>nomatch ht),none,none,none,rfl⟩ (fun i σ ys Ge _ ⟨sb,e1,_,Pq,_⟩=>⟨SqL.of (Pq.same _ _ (stx _ _ (P0).at')),by rw [e1]; exact Pq.at'⟩) ?_ ?_⟩⟩
   ·rintro i x σ ys Gf hi ⟨sb,rfl,nb,Pg,bnb,u0,u1,u2,rfl⟩
    obtain ⟨t,gt,rfl,hil⟩:=zBt hi
    obtain ⟨et,nt,b1,b2,b3⟩:=(P0).all t (List.mem_of_getElem? gt)
    obtain ⟨c1,c2,c3⟩:=bnd t (List.mem_of_getElem? gt)
    refine ⟨t.1,_,rfl,SqT.of (Pg.same _ _ (stx _ _ et)),rfl,.int t.2.1,_,rfl,.int t.2.2.1,_,rfl,.int t.2.2.2,_,rfl,rfl,?_⟩
    have z1:=zAh t.2.1 X c1 bX
    have z2:=zAh t.2.2.1 Y c2 bY
    refine ⟨_,rfl,_,rfl,_,rfl,_,rfl,_,rfl,_,_,rfl,rfl,cm_l (by omega),_,_,rfl,rfl,_,rfl,_,rfl,_,_,rfl,rfl,cm_l (by omega),_,_,rfl,rfl,(by show 3≤sizeLine; decide),fun p hp=>?_⟩
    have sp:=zAe hp (.tup [.int t.2.1,.int t.2.2.1,.int (t.2.2.2 + t.2.1 * X + t.2.2.1 * Y)])
    refine ⟨sp _ _ Pg.at',zA2 (by rw [zAk]; omega),sb ++ [(p,t.2.1,t.2.2.1,t.2.2.2 + t.2.1 * X + t.2.2.1 * Y)],by simp [zAo],by rw [List.length_append,nb]; rfl,Pg.app sp hp zAb nt b1 b2 (by omega),fun u hu=>?_,_,_,_,rfl⟩
    rcases List.mem_append.mp hu with h | h
    ·exact bnb u h
    ·rw [List.mem_singleton] at h
     subst h
     exact ⟨c1,c2,by show (t.2.2.2 + t.2.1 * X + t.2.2.1 * Y).natAbs≤10 ^ 12; omega⟩
   ·rintro σ ys Gf ⟨ss2,rfl,nb,Pg,bnb,u0,u1,u2,rfl⟩
    rw [zAk] at nb
    have N2:ss2.length = m.toNat:=nb.trans hlen
    have P2:SdSt H D2 ss2 Gf:=⟨((P0).same.trans stx).trans Pg.same,(P0).same.free (stx.free Pg.new),Pg.at',Pg.all⟩
    have P2s:∀ t∈ss2,t.2.1.natAbs≤10 ^ 8∧t.2.2.1.natAbs≤10 ^ 8∧t.2.2.2.natAbs≤10 ^ 12:=fun t ht=>⟨Nat.le_trans (bnb t ht).1 (by decide),Nat.le_trans (bnb t ht).2.1 (by decide),(bnb t ht).2.2⟩
    clear Pg
    generalize some (V.int X) = uX
    generalize some (V.int Y) = uY
    exact main2 D2 ss2 Gf uX uY ⟨N2,P2,P2s⟩
  ·exact main2 D ss G none none ⟨hlen,P0,fun t ht=>⟨Nat.le_trans (bnd t ht).1 (by decide),Nat.le_trans (bnd t ht).2.1 (by decide),Nat.le_trans (bnd t ht).2.2 (by decide)⟩⟩
 clear P0 bnd hlen
 rintro D2 ss2 Gf uX uY ⟨N2,P2,P2s⟩
 refine ⟨_,rfl,r,_,_,_,rfl,rfl,(.inl (P2.same.seq hS)),a0,_,_,rfl,rfl,zEw.of (by decide) (by decide +kernel),_,_,rfl,rfl,(by show (0:Int) < 3; decide),rfl,_,rfl,?_⟩
 refine ifE (fun _=>?_) (fun _=>?_)
 ·refine ⟨_,rfl,D2,_,rfl,(P2).at',fun cc D3 hD3=>zOo (K:=K) (l:=D2) (xs:=zAo ss2) (fun i σ ys Ga=>∃ sa:List Sd,ys = zAo sa∧sa.length = i∧SdSt Gf D3 sa Ga∧(∀ t∈sa,t.2.1.natAbs≤3 * 10 ^ 8∧t.2.2.1.natAbs≤3 * 10 ^ 8∧t.2.2.2.natAbs≤3 * 10 ^ 12)∧∃ u0 u1 u2 u3:Option V,σ = [u0,u1,u2,u3])
   ⟨[],rfl,rfl,⟨zAe hD3 _,hD3,zAb,(fun t ht=>nomatch ht)⟩,(fun t ht=>nomatch ht),none,none,none,none,rfl⟩ (fun i σ ys Gb ⟨sa,e1,_,Pq,_⟩=>⟨SqL.of (Pq.same _ _ (P2).at'),by rw [e1]; exact Pq.at'⟩) ?_ ?_⟩
  ·rintro i x T σ ys Gc hi hT ⟨sa,rfl,na,Pc,bc,u0,u1,u2,u3,rfl⟩
   obtain ⟨t,gt,rfl,hil⟩:=zBt hi
   obtain ⟨et,nt,_⟩:=(P2).all t (List.mem_of_getElem? gt)
   obtain ⟨b1,b2,b3⟩:=P2s t (List.mem_of_getElem? gt)
   have k9:(10:Nat) ^ 8 * 3≤10 ^ 9:=by decide
   have sT:=zAe hT (.tup [.int i,.ref t.1])
   have npT:∀ p,upd Gc T (.tup [.int i,.ref t.1]) p = none→Gc p = none:=fun p hp=>sT.free hp
   have eT:upd Gc T (.tup [.int i,.ref t.1]) T = some (.tup [.int i,.ref t.1]):=zAb
   have et':=sT _ _ (Pc.same _ _ et)
   generalize upd Gc T (.tup [.int i,.ref t.1]) = G2 at sT npT eT et' ⊢
   refine ⟨T,_,rfl,SqT.of eT,rfl,.int i,_,rfl,.ref t.1,_,rfl,?_⟩
   refine ⟨t.1,_,rfl,SqT.of et',rfl,.int t.2.1,_,rfl,.int t.2.2.1,_,rfl,.int t.2.2.2,_,rfl,rfl,rfl,?_⟩
   have c3:∀ j:Int,CMul 3 j:=fun j=>.inl ⟨by decide,by decide⟩
   refine ⟨_,rfl,_,_,rfl,rfl,(by show (0:Int) < 2; decide),rfl,_,rfl,?_⟩
   refine ifE (fun _=>?_) (fun _=>?_)
   ·refine ⟨_,rfl,_,_,rfl,rfl,c3 _,_,rfl,_,_,rfl,rfl,c3 _,_,rfl,_,_,rfl,rfl,c3 _,(by show 3≤sizeLine; decide),fun p hp=>?_⟩
    have sp:=zAe hp (.tup [.int (3 * t.2.1),.int (3 * t.2.2.1),.int (3 * t.2.2.2)])
    have t1:=zAh 3 t.2.1 (m:=3) (by decide) b1
    have t2:=zAh 3 t.2.2.1 (m:=3) (by decide) b2
    have t3:=zAh 3 t.2.2.2 (m:=3) (by decide) b3
    refine ⟨sp _ _ (sT _ _ Pc.at'),zA2 (by rw [zAk]; omega),sa ++ [(p,3 * t.2.1,3 * t.2.2.1,3 * t.2.2.2)],by simp [zAo],by rw [List.length_append,na]; rfl,Pc.app (sT.trans sp) (npT p hp) zAb (by clear b1 b2 b3; omega) (Nat.le_trans t1 (by decide)) (Nat.le_trans t2 (by decide)) (Nat.le_trans t3 (by decide)),fun u hu=>(List.mem_append.mp hu).elim (bc u) fun h=>by rw [List.mem_singleton] at h; subst h; exact ⟨t1,t2,t3⟩,_,_,_,_,rfl⟩
   ·refine ⟨_,rfl,_,rfl,_,rfl,(by show 3≤sizeLine; decide),fun p hp=>?_⟩
    have sp:=zAe hp (.tup [.int t.2.1,.int t.2.2.1,.int t.2.2.2])
    refine ⟨sp _ _ (sT _ _ Pc.at'),zA2 (by rw [zAk]; omega),sa ++ [(p,t.2.1,t.2.2.1,t.2.2.2)],by simp [zAo],by rw [List.length_append,na]; rfl,Pc.app (sT.trans sp) (npT p hp) zAb nt (Nat.le_trans b1 (by decide)) (Nat.le_trans b2 (by decide)) (Nat.le_trans b3 (by decide)),fun u hu=>(List.mem_append.mp hu).elim (bc u) fun h=>by rw [List.mem_singleton] at h; subst h; exact ⟨Nat.le_trans b1 (by decide),Nat.le_trans b2 (by decide),Nat.le_trans b3 (by decide)⟩,_,_,_,_,rfl⟩
  ·rintro σ ys Gc ⟨sa,rfl,na,Pc,bc,u0,u1,u2,u3,rfl⟩
   rw [zAk] at na
   exact ⟨_,rfl,q D3 sa Gc ((P2).same.trans Pc.same) ((P2).same.free Pc.new) Pc.at' (na.trans N2) (fun t ht=>(Pc.all t ht)) bc⟩
 ·exact ⟨_,rfl,q D2 ss2 _ (P2).same (P2).new (P2).at' N2 (P2).all (fun t ht=>⟨Nat.le_trans (P2s t ht).1 (by decide),Nat.le_trans (P2s t ht).2.1 (by decide),Nat.le_trans (P2s t ht).2.2 (by decide)⟩)⟩
def zL4 (_:PySem.W.Frag):Sp:=fun vs H Q _=>∃ (x y few most:Int),vs = [.int x,.int y,.int few,.int most]∧0≤few∧0≤most∧∀ (v:Int),0≤v→(v≤few∨v≤most)→Q (.int v) H
theorem zRd (F:Fun K "_law_many" "_law_many" zHl f fd) (Z:Zs mg)  : FnOk P w K mg base CX0 1 f fd ["_law_one", "_law_two", "_law_few", "_law_most"] (zL4 K):=by
 refine F.ok zQn (fun vs H Q E h=>?_) (fun cdv A outer s H vs Q E hr h=>?_)
 ·obtain ⟨x,y,few,most,rfl,_⟩:=h
  rfl
 obtain ⟨x,y,few,most,rfl,h1,h2,q⟩:=h
 refine ⟨_,(zAg (zBj (zAu zFu (zAm zA8 (pv 1) zAc) zAc (zAy _)) (zAi (zAp (zAm zA8 (pv 0) (zAm zB1 (pv 3) zAc)))) zAx)
   (zAi (zAp (zAm zA8 (pv 0) (zAm zB1 (pv 2) zAc))))),?_⟩
 have g1:(0:Int) < most + 1:=by omega
 have g2:(0:Int) < few + 1:=by omega
 have m1:=Int.emod_nonneg x (show most + 1≠0 by omega)
 have m2:=Int.emod_lt_of_pos x g1
 have m3:=Int.emod_nonneg x (show few + 1≠0 by omega)
 have m4:=Int.emod_lt_of_pos x g2
 refine ⟨_,rfl,_,_,rfl,rfl,(by show (0:Int) < 8; decide),rfl,_,rfl,?_⟩
 refine ifE (fun _=>?_) (fun _=>?_)
 ·exact ⟨_,rfl,_,rfl,_,_,rfl,rfl,_,_,rfl,rfl,g1,q _ m1 (.inr (by omega))⟩
 ·exact ⟨_,rfl,_,rfl,_,_,rfl,rfl,_,_,rfl,rfl,g2,q _ m3 (.inl (by omega))⟩
def zJ3 (_:PySem.W.Frag):Sp:=fun vs H Q _=>∃ (a:Addr) (x y:Int) (rest:List V) (g:Bool),vs = [.ref a,.bl g]∧H a = some (.tup (.int x :: .int y :: rest))∧rest.length≤10 ∧
 ∀ (p:Addr) (H':Hp),Same H H'→H p = none→H' p = some (.tup (.int (if g then y else -y) :: .int x :: rest))→Q (.ref p) H'
theorem zOe (F:Fun K "_law_moved" "_law_moved" zGs f fd) (Z:Zs mg)  : FnOk P w K mg base CX0 1 f fd ["_law_one", "_law_glass"] (zJ3 K):=by
 refine F.ok zOa (fun vs H Q E h=>?_) (fun cdv A outer s H vs Q E hr h=>?_)
 ·obtain ⟨a,x,y,rest,g,rfl,_⟩:=h
  rfl
 obtain ⟨a,x,y,rest,g,rfl,ha,hn,q⟩:=h
 refine ⟨_,(zAg (zBj (zEv (pv 1)) (zAi (zAp (zAm zP9 (zBe (zAa (zAn zAj (pv 0) zAc (fun _ _=>rfl)) (zAa (zAn zAj (pv 0) zAc (fun _ _=>rfl)) zAd))) (zBp zS7 (pv 0) (zCi zAc) zCf)))) zAx)
   (zAi (zAp (zAm zP9 (zBe (zAa (zMq zIn (zAn zAj (pv 0) zAc (fun _ _=>rfl))) (zAa (zAn zAj (pv 0) zAc (fun _ _=>rfl)) zAd))) (zBp zS7 (pv 0) (zCi zAc) zCf))))),?_⟩
 have cut:cutV (V.int x :: V.int y :: rest) (some 2) none = rest:=by
  unfold cutV
  rw [show (some (2:Int)) = some ((2:Nat):Int) from rfl,HT.sIx_nat,show HT.sIx (V.int x :: V.int y :: rest).length (V.int x :: V.int y :: rest).length none = (V.int x :: V.int y :: rest).length from rfl]
  rw [List.length_cons,List.length_cons,Nat.min_eq_left (by omega)]
  show (rest.take (rest.length + 1 + 1 - 2)) = rest
  rw [List.take_of_length_le (by omega)]
 cases g with
 | true =>
  refine ⟨_,rfl,_,rfl,?_⟩
  refine iteT ?_
  have sq:Sq K H a (.int x :: .int y :: rest):=.inr (SqT.of ha)
  have at0:atI (V.int x :: V.int y :: rest) 0 = some (.int x):=zDm (j:=0) rfl
  have at1:atI (V.int x :: V.int y :: rest) 1 = some (.int y):=zDm (j:=1) rfl
  refine ⟨_,rfl,a,_,_,.int y,rfl,rfl,sq,at1,_,rfl,a,_,_,.int x,rfl,rfl,sq,at0,(by show 2≤sizeLine; decide),fun t1 ht1=>?_⟩
  have s1:=zAe ht1 (.tup [.int (y),.int x])
  have e1:upd H t1 (.tup [.int (y),.int x]) t1 = some (.tup [.int (y),.int x]):=zAb
  generalize upd H t1 (.tup [.int (y),.int x]) = H1 at s1 e1 ⊢
  refine ⟨_,rfl,_,rfl,a,_,rfl,SqT.of (s1 _ _ ha),?_,fun t2 ht2=>?_⟩
  ·rintro ⟨z,_⟩
   rw [show (some (2:Int)) = some ((2:Nat):Int) from rfl,HT.sIx_nat] at z
   rw [List.length_cons,List.length_cons] at z
   omega
  rw [cut]
  have s2:=zAe ht2 (.tup rest)
  refine ⟨t1,t2,_,rest,rfl,rfl,SqT.of (s2 _ _ e1),SqT.of zAb,(fun z=>nomatch z),Nat.le_trans (show 2 + rest.length≤1000 by omega) (by decide),fun hr0=>?_,fun hr0 p hp=>?_⟩
  ·refine q t1 _ (s1.trans s2) ht1 ?_
   rw [s2 _ _ e1,hr0]
   rfl
  ·have s3:=zAe hp (.tup ([.int (y),.int x] ++ rest))
   exact q p _ ((s1.trans s2).trans s3) ((s1.trans s2).free hp) zAb
 | false =>
  refine ⟨_,rfl,_,rfl,?_⟩
  refine iteF ?_
  have sq:Sq K H a (.int x :: .int y :: rest):=.inr (SqT.of ha)
  have at0:atI (V.int x :: V.int y :: rest) 0 = some (.int x):=zDm (j:=0) rfl
  have at1:atI (V.int x :: V.int y :: rest) 1 = some (.int y):=zDm (j:=1) rfl
  refine ⟨_,rfl,a,_,_,.int y,rfl,rfl,sq,at1,_,rfl,_,rfl,a,_,_,.int x,rfl,rfl,sq,at0,(by show 2≤sizeLine; decide),fun t1 ht1=>?_⟩
  have s1:=zAe ht1 (.tup [.int (-y),.int x])
  have e1:upd H t1 (.tup [.int (-y),.int x]) t1 = some (.tup [.int (-y),.int x]):=zAb
  generalize upd H t1 (.tup [.int (-y),.int x]) = H1 at s1 e1 ⊢
  refine ⟨_,rfl,_,rfl,a,_,rfl,SqT.of (s1 _ _ ha),?_,fun t2 ht2=>?_⟩
  ·rintro ⟨z,_⟩
   rw [show (some (2:Int)) = some ((2:Nat):Int) from rfl,HT.sIx_nat] at z
   rw [List.length_cons,List.length_cons] at z
   omega
  rw [cut]
  have s2:=zAe ht2 (.tup rest)
  refine ⟨t1,t2,_,rest,rfl,rfl,SqT.of (s2 _ _ e1),SqT.of zAb,(fun z=>nomatch z),Nat.le_trans (show 2 + rest.length≤1000 by omega) (by decide),fun hr0=>?_,fun hr0 p hp=>?_⟩
  ·refine q t1 _ (s1.trans s2) ht1 ?_
   rw [s2 _ _ e1,hr0]
   rfl
  ·have s3:=zAe hp (.tup ([.int (-y),.int x] ++ rest))
   exact q p _ ((s1.trans s2).trans s3) ((s1.trans s2).free hp) zAb
theorem zSd (t:Int) {w:Int} (hw:0 < w):0 < Nat.gcd t.natAbs w.natAbs∧1≤w / (Nat.gcd t.natAbs w.natAbs:Int)∧Nat.gcd (t / (Nat.gcd t.natAbs w.natAbs:Int)).natAbs (w / (Nat.gcd t.natAbs w.natAbs:Int)).natAbs = 1∧t / (Nat.gcd t.natAbs w.natAbs:Int) * w = w / (Nat.gcd t.natAbs w.natAbs:Int) * t:=by
 obtain ⟨x,y,e,p⟩:=zJy t (b:=w) (by omega)
 rw [if_neg (by omega)] at e
 unfold lowL at e
 rw [zGf] at e
 injection e with e1 e
 injection e with e2 _
 have e1:t / (Nat.gcd t.natAbs w.natAbs:Nat) = x:=e1
 have e2:w / (Nat.gcd t.natAbs w.natAbs:Nat) = y:=e2
 rw [e1,e2]
 exact ⟨Nat.gcd_pos_of_pos_right _ (by omega),p.pos,p.low,p.eq⟩
def zG6 (K:PySem.W.Frag):Sp:=fun vs H Q _=>∃ (l a:Addr) (ss:List Sd) (g:P3),vs = [.ref l,.ref a]∧SqL K H l (zAo ss)∧SdOk H ss∧ss.length≤400∧Sq K H a [.int g.1,.int g.2.1]∧(g.1≠0∨g.2.1≠0)∧g.1.natAbs≤10 ^ 6∧g.2.1.natAbs≤10 ^ 6 ∧
 ∀ (t:Addr) (xs:List V) (H':Hp),Same H H'→H' t = some (.tup xs)→zJh ss g xs→(∀ v∈xs,(∃ i,v = .int i)∨∃ t,v = .str t)→Q (.ref t) H'
theorem zLy (F:Fun K "_law_how_far" "_law_how_far" zEo f fd) (Z:Zs mg) (h_L_low:Has P w K mg base "_law_low" 1 ["_law_one", "_law_other"] (zNk K)) (h_p_reach:Has P w K mg base "reach" 10 ["sides", "direction"] (zJ2 K)):FnOk P w K mg base CX0 11 f fd ["_law_sides_here", "_law_direction"] (zG6 K):=by
 refine F.ok zBq (fun vs H Q E h=>?_) (fun cdv A outer s H vs Q E hr h=>?_)
 ·obtain ⟨l,a,ss,g,rfl,_⟩:=h
  rfl
 obtain ⟨l,a,ss,g,rfl,hl,ok,hn,ha,gn,b1,b2,q⟩:=h
 refine ⟨_,(zAg (zAr (i:=2) zBq.nd rfl (Or.inl rfl) (zAf h_p_reach (hr.mono (by decide)) rfl (zAa (pv 0) (zAa (pv 1) zAd))))
   (zAg (zBj (zAu zRa (zAn zAj (pv 2) zAc (fun _ _=>rfl)) zLe (zAy _)) (zAi (zAp (zBe (zAa (zAn zAj (pv 2) zAc (fun _ _=>rfl)) zAd)))) zAx)
   (zAg (zNv (zAn zAj (pv 2) zAc (fun _ _=>rfl)) (zG8 rfl (zA7 (zAt (i:=3) zBq.nd rfl (Or.inl rfl)) (zA7 (zAt (i:=4) zBq.nd rfl (Or.inl rfl)) (zA7 (zAt (i:=5) zBq.nd rfl (Or.inl rfl)) zEx)))))
   (zAg (zAr (i:=6) zBq.nd rfl (Or.inl rfl) (zAm zB1 (zAm zBa (zAn zAj (pv 1) zAc (fun _ _=>rfl)) (pv 3)) (zAm zBa (zAn zAj (pv 1) zAc (fun _ _=>rfl)) (pv 4))))
   (zAg (zAr (i:=7) zBq.nd rfl (Or.inl rfl) (zAf h_L_low (hr.mono (by decide)) rfl (zAa (pv 6) (zAa (pv 5) zAd))))
   (zAi (zAp (zBe (zAa (zAn zAj (pv 2) zAc (fun _ _=>rfl)) (zAa (zAm zC9 (pv 6) (pv 7)) (zAa (zAm zC9 (pv 5) (pv 7)) zAd))))))))))),?_⟩
 refine ⟨_,rfl,_,rfl,l,a,ss,g,rfl,hl,ok,hn,ha,gn,Nat.le_trans b1 (by decide),Nat.le_trans b2 (by decide),fun t D cs H1 s1 et _ _ _ cl=>?_,fun t p x y Z0 H1 s1 et _ _ hg hw _ _ zw wz _=>?_,fun t p D P ws H1 s1 et sp wP cP _ _ _ far=>?_⟩
 ·refine ⟨_,rfl,t,_,_,_,rfl,rfl,.inr (SqT.of et),rfl,rfl,_,rfl,?_⟩
  refine iteT ?_
  refine ⟨_,rfl,t,_,_,_,rfl,rfl,.inr (SqT.of et),rfl,(by show 1≤sizeLine; decide),fun p hp=>?_⟩
  refine q p _ _ (s1.trans (zAe hp _)) zAb (.inl ⟨rfl,fun z zw=>cl.no z zw⟩) fun v hv=>?_
  rw [List.mem_singleton] at hv
  exact .inr ⟨_,hv⟩
 ·refine ⟨_,rfl,t,_,_,_,rfl,rfl,.inr (SqT.of et),rfl,rfl,_,rfl,?_⟩
  refine iteT ?_
  refine ⟨_,rfl,t,_,_,_,rfl,rfl,.inr (SqT.of et),rfl,(by show 1≤sizeLine; decide),fun p hp=>?_⟩
  refine q p _ _ (s1.trans (zAe hp _)) zAb (.inr (.inl ⟨rfl,⟨Z0,zw,wz⟩,x,y,hg,hw⟩)) fun v hv=>?_
  rw [List.mem_singleton] at hv
  exact .inr ⟨_,hv⟩
 ·refine ⟨_,rfl,t,_,_,_,rfl,rfl,.inr (SqT.of et),rfl,rfl,_,rfl,?_⟩
  refine iteF ?_
  obtain ⟨ep,pw,_⟩:=sp
  refine ⟨_,rfl,t,_,_,.ref p,rfl,rfl,.inr (SqT.of et),rfl,p,_,rfl,SqT.of ep,rfl,.int P.1,_,rfl,.int P.2.1,_,rfl,.int P.2.2,_,rfl,rfl,?_⟩
  have ha1:=ha.same s1
  refine ⟨_,rfl,a,_,_,.int g.1,rfl,rfl,ha1,rfl,_,rfl,_,_,rfl,rfl,cm_l (Nat.le_trans b1 (by decide)),_,rfl,a,_,_,.int g.2.1,rfl,rfl,ha1,rfl,_,rfl,_,_,rfl,rfl,cm_l (Nat.le_trans b2 (by decide)),_,_,rfl,rfl,?_⟩
  have sm:∀ t∈ss,(t.2.1≠0∨t.2.2.1≠0)∧t.2.1.natAbs≤10 ^ 9∧t.2.2.1.natAbs≤10 ^ 9∧t.2.2.2.natAbs≤10 ^ 13:=fun t ht=>(ok t ht).2
  have cw:=(cP.small sm).2.2
  have most:∀ z:P3,0 < z.2.2→inW ss z→(g.1 * z.1 + g.2.1 * z.2.1) * P.2.2≤(g.1 * P.1 + g.2.1 * P.2.1) * z.2.2:=fun z zw wz=>far.most zw pw wz
  generalize hN:g.1 * P.1 + g.2.1 * P.2.1 = N at most ⊢
  obtain ⟨k1,k2,k3,k4⟩:=zSd N pw
  have gl:Nat.gcd N.natAbs P.2.2.natAbs≤10 ^ 40:=Nat.le_trans (Nat.gcd_le_right _ (by omega)) cw
  have dv:∀ i:Int,zEw i (Nat.gcd N.natAbs P.2.2.natAbs:Int):=fun i=>zEw.of (by omega) (Int.lt_of_le_of_lt (show (Nat.gcd N.natAbs P.2.2.natAbs:Int)≤10 ^ 40 by omega) (by decide +kernel))
  refine ⟨_,rfl,_,rfl,N,P.2.2,rfl,?_⟩
  refine ⟨_,rfl,t,_,_,_,rfl,rfl,.inr (SqT.of et),rfl,_,rfl,_,rfl,_,_,rfl,rfl,dv _,_,rfl,_,rfl,_,_,rfl,rfl,dv _,(by show 3≤sizeLine; decide),fun p2 hp2=>?_⟩
  refine q p2 _ _ (s1.trans (zAe hp2 _)) zAb (.inr (.inr ⟨_,_,P,rfl,pw,wP,by rw [hN]; exact most,k2,k3,by rw [hN]; exact k4⟩)) fun v hv=>?_
  rcases List.mem_cons.mp hv with rfl | hv
  ·exact .inr ⟨_,rfl⟩
  rcases List.mem_cons.mp hv with rfl | hv
  ·exact .inl ⟨_,rfl⟩
  rw [List.mem_singleton] at hv
  exact .inl ⟨_,hv⟩
theorem zNi {ss:List Sd} {O:P3} {rest:List P3} (R:RgA ss O rest) (ne:rest≠[]):(∀ A B,(A,B)∈edg O (rAt O rest) (rest.length - 1)↔Edge ss A B)∧(edg O (rAt O rest) (rest.length - 1)).Nodup:=by
 have m1:1≤rest.length:=List.length_pos_iff.mpr ne
 have cO:=R.rg.cO
 have nd:=R.rg.nodup
 have ndr:=(List.nodup_cons.mp nd).2
 have cor:∀ i,(h:i < rest.length)→Cor ss rest[i]:=fun i h=>R.rg.cA h
 have nO:∀ i,(h:i < rest.length)→O≠rest[i]:=fun i h=>(R.rg.fw _ (List.getElem_mem h)).1
 have mem:∀ A B,(A,B)∈edg O (rAt O rest) (rest.length - 1)↔(A = O∧B = rAt O rest 0)∨(∃ i,i < rest.length - 1∧A = rAt O rest i∧B = rAt O rest (i + 1))∨(A = rAt O rest (rest.length - 1)∧B = O):=fun A B=>by
  unfold edg pth
  rw [List.mem_cons,List.mem_append,List.mem_map,List.mem_singleton]
  constructor
  ·rintro (h | ⟨i,hi,h⟩ | h)
   ·injection h with h1 h2
    exact .inl ⟨h1,h2⟩
   ·injection h with h1 h2
    exact .inr (.inl ⟨i,List.mem_range.mp hi,h1.symm,h2.symm⟩)
   ·injection h with h1 h2
    exact .inr (.inr ⟨h1,h2⟩)
  ·rintro (⟨rfl,rfl⟩ | ⟨i,hi,rfl,rfl⟩ | ⟨rfl,rfl⟩)
   ·exact .inl rfl
   ·exact .inr (.inl ⟨i,List.mem_range.mpr hi,rfl⟩)
   ·exact .inr (.inr rfl)
 have good:∀ A B,(A,B)∈edg O (rAt O rest) (rest.length - 1)→Edge ss A B:=fun A B hAB=>by
  have left:∀ C,Cor ss C→0≤c3 (rest[rest.length - 1]'(by omega)) O C∧0≤c3 O (rest[0]'(by omega)) C∧∀ k,(h:k + 1 < rest.length)→0≤c3 (rest[k]'(by omega)) rest[k + 1] C:=fun C cC=>by
   by_cases two:2≤rest.length
   ·obtain ⟨_,_,_,_,_,_,wC⟩:=id cC
    exact R.rg.fwd_in two (zB8 cC).1 wC
   ·have e1:rest.length = 1:=by omega
    have e0:rest[rest.length - 1]'(by omega) = rest[0]'(by omega):=by simp only [e1]
    rw [e0]
    refine ⟨?_,?_,fun k h=>absurd h (by omega)⟩
    ·rcases R.rg.corner cC with rfl | ⟨k,h,rfl⟩
     ·rw [zOx]; exact Int.le_refl _
     ·have ek:k = 0:=by omega
      subst ek
      rw [zPi]; exact Int.le_refl _
    ·rcases R.rg.corner cC with rfl | ⟨k,h,rfl⟩
     ·rw [zPi]; exact Int.le_refl _
     ·have ek:k = 0:=by omega
      subst ek
      rw [zOx]; exact Int.le_refl _
  rcases (mem A B).mp hAB with ⟨rfl,rfl⟩ | ⟨i,hi,rfl,rfl⟩ | ⟨rfl,rfl⟩
  ·rw [zFq (show 0 < rest.length by omega)]
   exact ⟨cO,cor 0 (by omega),nO 0 (by omega),fun C cC=>(left C cC).2.1⟩
  ·rw [zFq (show i < rest.length by omega),zFq (show i + 1 < rest.length by omega)]
   refine ⟨cor i (by omega),cor (i + 1) (by omega),fun e=>?_,fun C cC=>(left C cC).2.2 i (by omega)⟩
   exact absurd (List.pairwise_iff_getElem.mp ndr i (i + 1) (by omega) (by omega) (by omega)) (fun z=>z e)
  ·rw [zFq (show rest.length - 1 < rest.length by omega)]
   exact ⟨cor _ (by omega),cO,Ne.symm (nO _ (by omega)),fun C cC=>(left C cC).1⟩
 refine ⟨fun A B=>⟨good A B,fun h=>?_⟩,?_⟩
 ·have next:∀ B',(A,B')∈edg O (rAt O rest) (rest.length - 1)→(A,B)∈edg O (rAt O rest) (rest.length - 1):=fun B' hB'=>by
   rw [h.fn (good A B' hB')]
   exact hB'
  rcases R.rg.corner h.1 with rfl | ⟨k,hk,rfl⟩
  ·exact next _ ((mem _ _).mpr (.inl ⟨rfl,rfl⟩))
  ·by_cases last:k = rest.length - 1
   ·exact next O ((mem _ _).mpr (.inr (.inr ⟨by rw [← last,zFq hk],rfl⟩)))
   ·exact next (rAt O rest (k + 1)) ((mem _ _).mpr (.inr (.inl ⟨k,by omega,by rw [zFq hk],rfl⟩)))
 ·have e:(edg O (rAt O rest) (rest.length - 1)).map (·.1) = O :: rest:=by
   unfold edg pth
   rw [List.map_cons,List.map_append,List.map_map]
   show O :: (((List.range (rest.length - 1)).map fun i=>rAt O rest i) ++ [rAt O rest (rest.length - 1)]) = O :: rest
   congr 1
   have z:((List.range (rest.length - 1)).map fun i=>rAt O rest i) ++ [rAt O rest (rest.length - 1)] = (List.range rest.length).map fun i=>rAt O rest i:=by
    rw [show rest.length = (rest.length - 1) + 1 by omega,List.range_succ,List.map_append]
    rfl
   rw [z]
   refine List.ext_getElem (by simp) fun i h1 h2=>?_
   rw [List.getElem_map,List.getElem_range,zFq h2]
  have nd2:((edg O (rAt O rest) (rest.length - 1)).map (·.1)).Nodup:=by rw [e]; exact nd
  rw [List.Nodup,List.pairwise_map] at nd2
  exact nd2.imp fun h e=>h (by rw [e])
def mvE (g:Bool) (e:P3 × P3):P3 × P3:=if g then (tu g e.2,tu g e.1) else (tu g e.1,tu g e.2)
theorem zUq (g:Bool) (l:List (P3 × P3)):sumE (l.map (mvE g)) = sumE l:=by
 unfold sumE
 rw [List.map_map]
 congr 1
 refine List.map_congr_left fun e _=>?_
 show crR (mvE g e).1 (mvE g e).2 = crR e.1 e.2
 cases g
 ·show crR (tu false e.1) (tu false e.2) = _
  rw [zS0,show ((sg false:Int):Rat) = 1 from rfl]
  grind
 ·show crR (tu true e.2) (tu true e.1) = _
  rw [zS0,zKa e.1 e.2,show ((sg true:Int):Rat) = -1 from rfl]
  grind
theorem zUs {g:Bool} {a b:P3 × P3} (h:mvE g a = mvE g b):a = b:=by
 obtain ⟨a1,a2⟩:=a
 obtain ⟨b1,b2⟩:=b
 unfold mvE at h
 cases g
 ·simp only [Bool.false_eq_true,if_false] at h
  injection h with h1 h2
  rw [zG5 h1,zG5 h2]
 ·simp only [if_true] at h
  injection h with h1 h2
  rw [zG5 h1,zG5 h2]
theorem rg_sum {g:Bool} {S S':List Sd} (h:Tm g S S') {O O':P3} {rest rest':List P3} (R:RgA S O rest) (R':RgA S' O' rest') (ne:rest≠[]) (ne':rest'≠[]):sumE (edg O' (rAt O' rest') (rest'.length - 1)) = sumE (edg O (rAt O rest) (rest.length - 1)):=by
 obtain ⟨m,n⟩:=zNi R ne
 obtain ⟨m',n'⟩:=zNi R' ne'
 rw [← zUq g (edg O (rAt O rest) (rest.length - 1))]
 have nm:((edg O (rAt O rest) (rest.length - 1)).map (mvE g)).Nodup:=by
  rw [List.Nodup,List.pairwise_map]
  exact n.imp fun h e=>h (zUs e)
 unfold sumE
 refine zPe (List.Perm.map _ ((List.perm_ext_iff_of_nodup n' nm).mpr fun e=>?_))
 obtain ⟨A',B'⟩:=e
 rw [m',List.mem_map]
 constructor
 ·intro E
  obtain ⟨A,cA,rfl⟩:=h.cor' E.1
  obtain ⟨B,cB,rfl⟩:=h.cor' E.2.1
  cases g
  ·exact ⟨(A,B),(m A B).mpr ((h.edge (A:=A) (B:=B)).mp E),rfl⟩
  ·exact ⟨(B,A),(m B A).mpr ((h.edge (A:=B) (B:=A)).mp E),rfl⟩
 ·rintro ⟨⟨A,B⟩,hAB,e⟩
  have E:=(h.edge (A:=A) (B:=B)).mpr ((m A B).mp hAB)
  unfold mvE at e
  cases g
  ·simp only [Bool.false_eq_true,if_false] at e E
   injection e with e1 e2
   rw [← e1,← e2]
   exact E
  ·simp only [if_true] at e E
   injection e with e1 e2
   rw [← e1,← e2]
   exact E
theorem zSz {g:Bool} {S S':List Sd} (h:Tm g S S') {O O':P3} {rest rest':List P3} (R:RgA S O rest) (R':RgA S' O' rest'):rest = []↔rest' = []:=by
 constructor
 ·intro e
  cases e':rest' with
  | nil=>rfl
  | cons A' r' =>
   exfalso
   have hA:A'∈rest':=by rw [e']; exact .head _
   have n:=(R'.rg.fw A' hA).1
   obtain ⟨P,cP,eP⟩:=h.cor' R'.rg.cO
   obtain ⟨Q,cQ,eQ⟩:=h.cor' ((R'.rg.mem A').mp (.tail _ hA))
   have h1:=(R.rg.mem P).mpr cP
   have h2:=(R.rg.mem Q).mpr cQ
   rw [e,List.mem_singleton] at h1 h2
   exact n (by rw [eP,eQ,h1,h2])
 ·intro e
  cases e':rest with
  | nil=>rfl
  | cons A r =>
   exfalso
   have hA:A∈rest:=by rw [e']; exact .head _
   have n:=(R.rg.fw A hA).1
   have h1:=(R'.rg.mem (tu g O)).mpr (h.cor.mpr R.rg.cO)
   have h2:=(R'.rg.mem (tu g A)).mpr (h.cor.mpr ((R.rg.mem A).mp (.tail _ hA)))
   rw [e,List.mem_singleton] at h1 h2
   exact n (zG5 (h1.trans h2.symm))
structure Two (H:Hp) (v v':V) (p p':Addr) (s t s' t':Int):Prop where
 ev:v = .ref p
 ev':v' = .ref p'
 e:H p = some (.tup [.int s,.int t])
 e':H p' = some (.tup [.int s',.int t'])
 eq:[s',t'] = [s,t]
theorem zP8 {g:Bool} {S S':List Sd} (h:Tm g S S') {v v':V} {H:Hp} (o:zM1 S v H) (o':zM1 S' v' H) (sm:∀ t∈S,t.2.1.natAbs≤10 ^ 9∧t.2.2.1.natAbs≤10 ^ 9∧t.2.2.2.natAbs≤10 ^ 13) (sm':∀ t∈S',t.2.1.natAbs≤10 ^ 9∧t.2.2.1.natAbs≤10 ^ 9∧t.2.2.2.natAbs≤10 ^ 13) :
  (v = .non∧v' = .non)∨∃ p p' s t s' t',Two H v v' p p' s t s' t':=by
 have pl:=h.place
 have hne:S'≠[]↔S≠[]:=by
  have z:=h.len
  constructor
  ·intro a e
   rw [e] at z
   exact a (List.length_eq_zero_iff.mp z)
  ·intro a e
   rw [e] at z
   exact a (List.length_eq_zero_iff.mp z.symm)
 have hcl:(S'≠[]∧∀ k,¬ WK S' S'.length k)↔(S≠[]∧∀ k,¬ WK S S.length k):=by
  rw [hne]
  constructor
  ·rintro ⟨a,c⟩
   exact ⟨a,fun k z=>c _ ((h.wk _).mpr ⟨k,z,rfl⟩)⟩
  ·rintro ⟨a,c⟩
   refine ⟨a,fun k z=>?_⟩
   obtain ⟨k0,h1,_⟩:=(h.wk k).mp z
   exact c k0 h1
 rcases o with ⟨no,p,ev,e⟩ | ⟨z,nc,ev⟩ | ⟨z,cl,p,s,t,O,rest,R,ev,e,f⟩
 ·rcases o' with ⟨no',p',ev',e'⟩ | ⟨⟨z,zw,wz⟩,_⟩ | ⟨⟨z,zw,wz⟩,_⟩
  ·exact .inr ⟨p,p',0,1,0,1,ev,ev',e,e',rfl⟩
  ·obtain ⟨z1,z2,z3⟩:=pl.mp ⟨z,zw,wz⟩
   exact absurd z3 (no z1 z2)
  ·obtain ⟨z1,z2,z3⟩:=pl.mp ⟨z,zw,wz⟩
   exact absurd z3 (no z1 z2)
 ·rcases o' with ⟨no',p',ev',e'⟩ | ⟨_,_,ev'⟩ | ⟨_,cl',_⟩
  ·obtain ⟨z1,z2,z3⟩:=pl.mpr z
   exact absurd z3 (no' z1 z2)
  ·exact .inl ⟨ev,ev'⟩
  ·exact absurd (hcl.mp cl') nc
 ·rcases o' with ⟨no',p',ev',e'⟩ | ⟨_,nc',_⟩ | ⟨_,_,p',s',t',O',rest',R',ev',e',f'⟩
  ·obtain ⟨z1,z2,z3⟩:=pl.mpr z
   exact absurd z3 (no' z1 z2)
  ·exact absurd (hcl.mpr cl) nc'
  ·obtain ⟨fO,fr⟩:=R.fine sm
   obtain ⟨fO',fr'⟩:=R'.fine sm'
   have Bp:0 < arB O (rAt O rest) (rest.length - 1):=zMp fO.pos fun i _=>(fr i).pos
   have Bp':0 < arB O' (rAt O' rest') (rest'.length - 1):=zMp fO'.pos fun i _=>(fr' i).pos
   have q1:=f.rat Bp
   have q2:=f'.rat Bp'
   have p1:=f.pos
   have p2:=f'.pos
   have eqR:((s:Int):Rat) / ((t:Int):Rat) = ((s':Int):Rat) / ((t':Int):Rat):=by
    rw [← q1,← q2]
    by_cases ne:rest = []
    ·have ne':=(zSz h R R').mp ne
     rw [ne,ne']
     show ((0:Int):Rat) / _ = ((0:Int):Rat) / _
     rw [show ((0:Int):Rat) = 0 from rfl]
     grind
    ·have ne':rest'≠[]:=fun z=>ne ((zSz h R R').mpr z)
     have a1:=zRg (r:=rAt O rest) fO.pos (rest.length - 1) fun i _=>(fr i).pos
     have a2:=zRg (r:=rAt O' rest') fO'.pos (rest'.length - 1) fun i _=>(fr' i).pos
     rw [rg_sum h R R' ne ne',← a1] at a2
     generalize (((arS O (rAt O rest) (rest.length - 1)).1:Int):Rat) = N at *
     generalize (((arS O' (rAt O' rest') (rest'.length - 1)).1:Int):Rat) = N' at *
     generalize ((arB O (rAt O rest) (rest.length - 1):Int):Rat) = B at *
     generalize ((arB O' (rAt O' rest') (rest'.length - 1):Int):Rat) = B' at *
     grind
   have cr:=zPh (show 0 < t by omega) (show 0 < t' by omega) eqR
   obtain ⟨k1,k2⟩:=zLm cr p1 p2 f.low f'.low
   exact .inr ⟨p,p',s,t,s',t',ev,ev',e,e',by rw [k1,k2]⟩
def tI (t:SpT):List Int:=[t.2.1,t.2.2.1,t.2.2.2]
theorem zUk (ps:List SpT):zAv ps = ((ps.map fun t=>(t.1,tI t)).map (·.1)).map V.ref:=by
 unfold zAv
 rw [List.map_map,List.map_map]
 rfl
theorem map_tI (ps:List SpT):(ps.map fun t=>(t.1,tI t)).map (·.2) = ps.map tI:=by rw [List.map_map]; rfl
theorem zNu {H:Hp} {ps:List SpT} (h:∀ t∈ps,SpOk H t):∀ u∈ps.map (fun t=>(t.1,tI t)),H u.1 = some (.tup (u.2.map V.int))∧u.2.length = 2 + 1:=fun u hu=>by
 obtain ⟨t,ht,rfl⟩:=List.mem_map.mp hu
 exact ⟨(h t ht).1,rfl⟩
structure Tws (H0:Hp) (D:Addr) (us:List (Addr × List Int)) (H:Hp):Prop where
 same:Same H0 H
 new:H0 D = none
 at':H D = some (.lst ((us.map (·.1)).map V.ref))
 rows:∀ t∈us,H t.1 = some (.tup (t.2.map V.int))
theorem Tws.app {H0 H H2:Hp} {D p:Addr} {us:List (Addr × List Int)} {k:List Int} (h:Tws H0 D us H) (s2:Same H H2) (ep:H2 p = some (.tup (k.map V.int))):Tws H0 D (us ++ [(p,k)]) (upd H2 D (.lst ((us.map (·.1)).map V.ref ++ [.ref p]))):=by
 refine ⟨(h.same.trans s2).putNew h.new,h.new,by rw [zAb]; simp,fun u hu=>?_⟩
 have eD:=s2 _ _ h.at'
 rcases List.mem_append.mp hu with hu | hu
 ·have e:=s2 _ _ (h.rows u hu)
  rw [zAs (zI4 e eD (by intro z; cases z))]
  exact e
 ·rw [List.mem_singleton] at hu
  subst hu
  show upd H2 D _ p = _
  rw [zAs (zI4 ep eD (by intro z; cases z))]
  exact ep
theorem zPc {ss:List Sd} {n:Nat} {k:List Int} (h:WK ss n k):∃ x y,k = [x,y]:=by
 obtain ⟨j,t,_,_,r⟩:=h
 rcases r with ⟨rfl,_⟩ | ⟨rfl,_⟩
 ·exact ⟨_,_,rfl⟩
 ·exact ⟨_,_,rfl⟩
theorem zTn {g:Bool} {x y u v:Int} (h:mvL g [x,y] = mvL g [u,v]):[x,y] = ([u,v]:List Int):=by
 unfold mvL at h
 injection h with h1 h2
 injection h2 with h2 _
 have h2:x = u:=h2
 cases g
 ·have h1 : -y = -v:=h1
  rw [h2,Int.neg_inj.mp h1]
 ·have h1:y = v:=h1
  rw [h2,h1]
theorem zN3 {H:Hp} {p:Addr} {ss:List Sd} {us:List (Addr × List Int)} (w:zQe H p ss us):us.length≤2 * ss.length:=by
 have z:=zKs w.nodup (ys:=ss.flatMap fun t=>[lowL [-t.2.2.1,t.2.1],lowL [t.2.2.1,-t.2.1]]) (fun k hk=>by
  obtain ⟨j,t,_,g,r⟩:=(w.mem k).mp hk
  refine List.mem_flatMap.mpr ⟨t,List.mem_of_getElem? g,?_⟩
  rcases r with ⟨rfl,_⟩ | ⟨rfl,_⟩
  ·exact .head _
  ·exact .tail _ (.head _))
 rw [List.length_map] at z
 have e:∀ l:List Sd,(l.flatMap fun t=>[lowL [-t.2.2.1,t.2.1],lowL [t.2.2.1,-t.2.1]]).length = 2 * l.length:=fun l=>by
  induction l with
  | nil=>rfl
  | cons t l ih=>rw [List.flatMap_cons,List.length_append,ih]; show 2 + 2 * l.length = 2 * (l.length + 1); omega
 rw [e] at z
 exact z
theorem zFg {ts us vs:List (Addr × List Int)} {ks:List (List Int)} (h1:ts.Perm us) (p1:ts.Pairwise (fun a b=>HT.lexLt b.2 a.2 = false)) (h2:vs.map (·.2) = ks) {ws:List (Addr × List Int)} (h3:ws.Perm vs) (p3:ws.Pairwise (fun a b=>HT.lexLt b.2 a.2 = false)) (h:(us.map (·.2)).Perm ks):ts.map (·.2) = ws.map (·.2) :=
 zRc (((h1.map _).trans h).trans (by rw [← h2]; exact (h3.map _).symm)) (by rw [List.pairwise_map]; exact p1) (by rw [List.pairwise_map]; exact p3)
structure Kept (K:PySem.W.Frag) (G:Hp) (l a1 tp:Addr) (S:List Sd) (gx gy:Int):Prop where
 tab:RTab K G
 el:G l = some (.lst (zAo S))
 ok:SdOk G S
 one:G a1 = some (.tup [.int gx,.int gy])
 tup:G tp = some (.tup [.bl false,.bl true])
theorem Kept.same {K:PySem.W.Frag} {G G':Hp} {l a1 tp:Addr} {S:List Sd} {gx gy:Int} (h:Kept K G l a1 tp S gx gy) (s:Same G G'):Kept K G' l a1 tp S gx gy:=⟨h.tab.same s,s _ _ h.el,h.ok.same s,s _ _ h.one,s _ _ h.tup⟩
theorem Kept.sameT {K:PySem.W.Frag} {G G':Hp} {l a1 tp:Addr} {S:List Sd} {gx gy:Int} (h:Kept K G l a1 tp S gx gy) (t:RTab K G') (s:zC8 K G G'):Kept K G' l a1 tp S gx gy:=⟨t,s.lst h.tab h.el,h.ok.sameT h.tab s,s.tup h.tab h.one,s.tup h.tab h.tup⟩
theorem cut0 {G R:Prop} (h1:R→G) (h2:R):G:=h1 h2
def sp_law (K:PySem.W.Frag):Sp:=fun vs H Q _=>∃ (a:Addr) (ns:List Int),vs = [.ref a]∧SqL K H a (ns.map V.int)∧ns.length≤63∧H (rTab K) = some (.tbl #[])∧∀ H',Q (.bl true) H'
theorem ok_law (F:Fun K "law" "law" zMg f fd) (Z:Zs mg) (h_L_how_far:Has P w K mg base "_law_how_far" 11 ["_law_sides_here", "_law_direction"] (zG6 K)) (h_L_moved:Has P w K mg base "_law_moved" 1 ["_law_one", "_law_glass"] (zJ3 K)) (h_p_area:Has P w K mg base "area" 18 ["sides"] (zLr K)) (h_p_closed:Has P w K mg base "closed" 10 ["sides"] (zI0 K)) (h_p_ways:Has P w K mg base "ways" 4 ["sides"] (zGa K)) (h_p_corners:Has P w K mg base "corners" 16 ["sides"] (zE3 K)) (h_L_way:Has P w K mg base "_law_way" 1 ["_law_one", "_law_two", "_law_wide"] (zKr K)) (h_L_tight:Has P w K mg base "_law_tight" 1 ["_law_some", "_law_sides_here"] (zJn K)) (h_L_sides:Has P w K mg base "_law_sides" 3 ["_law_some", "_law_many_here"] (zJ4 K)) (h_L_many:Has P w K mg base "_law_many" 1 ["_law_one", "_law_two", "_law_few", "_law_most"] (zL4 K)) (h_L_draws:Has P w K mg base "_law_draws" 2 ["_law_script", "_law_many_here"] (zJr K)):FnOk P w K mg base CX0 19 f fd ["_law_script"] (sp_law K):=by
 refine F.ok zJp (fun vs H Q E h=>?_) (fun cdv A outer s H vs Q E hr h=>?_)
 ·obtain ⟨a,ns,rfl,_⟩:=h
  rfl
 obtain ⟨ad,ns,rfl,hS,hl,hT,q⟩:=h
 have hu:=hr.units0
 have hu64:=hr.units
 have tab0:RTab K H:=⟨#[],hT,trivial,.inl rfl⟩
 refine ⟨_,(zAg (zAr (i:=1) zJp.nd rfl (Or.inl rfl) (zAf h_L_draws (hr.mono (by decide)) rfl (zAa (pv 0) (zAa zAc zAd))))
   (zAg (zAr (i:=2) zJp.nd rfl (Or.inl rfl) (zAf h_L_tight (hr.mono (by decide)) rfl (zAa (zBp zC0 (pv 1) (zCi zAc) zCf) (zAa (zAf h_L_sides (hr.mono (by decide)) rfl (zAa (zBp zC0 (pv 1) (zCi zAc) zCf) (zAa (zAf h_L_many (hr.mono (by decide)) rfl (zAa (zAn zAj (pv 1) zAc (fun _ _=>rfl)) (zAa (zAn zAj (pv 1) zAc (fun _ _=>rfl)) (zAa zAc (zAa zAc zAd))))) zAd))) zAd))))
   (zAg (zAr (i:=3) zJp.nd rfl (Or.inl rfl) (zAf h_L_way (hr.mono (by decide)) rfl (zAa (zAn zAj (pv 1) zAc (fun _ _=>rfl)) (zAa (zAn zAj (pv 1) zAc (fun _ _=>rfl)) (zAa zAc zAd)))))
   (zAg (zCk PassesOwn.never rfl (pi_tup (zBe (zAa zGz (zAa zGz zAd)))) (zAt (i:=4) zJp.nd rfl (Or.inr rfl)) (zAg (zFi (T:=["_law_side_here"]) (caps:=[("_law_glass", 4)]) (i:=5) zJp.nd rfl rfl ⟨rfl,by decide +kernel,by decide +kernel,rfl,⟨⟨rfl,rfl,Or.inl rfl⟩,True.intro⟩⟩ rfl (zCg (pv 2)) (fun _=>(zAt (i:=0) (show (["_law_side_here", "_law_glass"]:List Str).Nodup by decide +kernel) rfl (Or.inl rfl))) (fun _=>zCc) (fun _=>(zAf h_L_moved (hr.mono (by decide)) rfl (zAa (pv 0) (zAa (pv 1) zAd)))))
   (zAg (zBj (zAu (zS9 hu64) (zAw zCx rfl Z.sorted zCy (zAa (zAf h_p_corners (hr.mono (by decide)) rfl (zAa (pv 5) zAd)) zAd)) (zAw zCx rfl Z.sorted zCy (zAa (zEq (T:=["_law_place"]) (caps:=[("_law_glass", 4)]) ⟨rfl,by decide +kernel,by decide +kernel,rfl,⟨⟨rfl,rfl,Or.inl rfl⟩,True.intro⟩⟩ rfl (zCg (zAf h_p_corners (hr.mono (by decide)) rfl (zAa (zCb zB9 rfl Z.list zE6 (zAa (pv 2) zAd)) zAd))) (fun _=>(zAt (i:=0) (show (["_law_place", "_law_glass"]:List Str).Nodup by decide +kernel) rfl (Or.inl rfl))) (fun _=>zCc) (fun _=>(zAf h_L_moved (hr.mono (by decide)) rfl (zAa (pv 0) (zAa (pv 1) zAd))))) zAd)) (zAy _)) (zAi (zAp zGz)) zAx)
   (zAg (zBj (zAu (zS9 hu64) (zAw zCx rfl Z.sorted zCy (zAa (zAf h_p_ways (hr.mono (by decide)) rfl (zAa (pv 5) zAd)) zAd)) (zAw zCx rfl Z.sorted zCy (zAa (zEq (T:=["_law_way_here"]) (caps:=[("_law_glass", 4)]) ⟨rfl,by decide +kernel,by decide +kernel,rfl,⟨⟨rfl,rfl,Or.inl rfl⟩,True.intro⟩⟩ rfl (zCg (zAf h_p_ways (hr.mono (by decide)) rfl (zAa (zCb zB9 rfl Z.list zE6 (zAa (pv 2) zAd)) zAd))) (fun _=>(zAt (i:=0) (show (["_law_way_here", "_law_glass"]:List Str).Nodup by decide +kernel) rfl (Or.inl rfl))) (fun _=>zCc) (fun _=>(zAf h_L_moved (hr.mono (by decide)) rfl (zAa (pv 0) (zAa (pv 1) zAd))))) zAd)) (zAy _)) (zAi (zAp zGz)) zAx)
   (zAg (zBj (PW.pt (pw_or (zAu (op_one zRa (op_neT hu)) (zAf h_p_area (hr.mono (by decide)) rfl (zAa (pv 5) zAd)) (zAf h_p_area (hr.mono (by decide)) rfl (zAa (zCb zB9 rfl Z.list zE6 (zAa (pv 2) zAd)) zAd)) (zAy _)) (zS4 (zAu zRa (zAf h_p_closed (hr.mono (by decide)) rfl (zAa (pv 5) zAd)) (zAf h_p_closed (hr.mono (by decide)) rfl (zAa (zCb zB9 rfl Z.list zE6 (zAa (pv 2) zAd)) zAd)) (zAy _))))) (zAi (zAp zGz)) zAx)
   (zAi (zBj (zAu (op_neS hu64) (zAf h_L_how_far (hr.mono (by decide)) rfl (zAa (pv 5) (zAa (zAf h_L_moved (hr.mono (by decide)) rfl (zAa (pv 3) (zAa (pv 4) zAd))) zAd))) (zAf h_L_how_far (hr.mono (by decide)) rfl (zAa (zCb zB9 rfl Z.list zE6 (zAa (pv 2) zAd)) (zAa (pv 3) zAd))) (zAy _)) (zAi (zAp zGz)) zAx)))))))
   (zAi (zAp zGz)))))),?_⟩
 refine ⟨_,rfl,ad,ns,96,rfl,hS,hl,by decide,by decide,fun r rows H1 s1 hr0 er1 l1 l2 bd=>?_⟩
 have tab1:=tab0.same s1
 obtain ⟨v0,a0,_⟩:=zDq bd (k:=0) (by decide) (by omega)
 obtain ⟨v1,a1,_⟩:=zDq bd (k:=1) (by decide) (by omega)
 obtain ⟨v90,a90,_⟩:=zDq bd (k:=90) (by decide) (by omega)
 obtain ⟨v91,a91,_⟩:=zDq bd (k:=91) (by decide) (by omega)
 have cutD:∀ k:Nat,k≤90→cutV (rows.map V.int) (some (k:Int)) none = (rows.drop k).map V.int:=fun k hk=>by
  rw [zIf,HT.sIx_nat rows.length 0 k,show min k rows.length = k by omega,show HT.sIx rows.length rows.length none = rows.length from rfl,List.take_of_length_le (by rw [List.length_drop]; omega)]
 have sqr:SqL K H1 r (rows.map V.int):=SqL.of er1
 refine ⟨_,rfl,_,rfl,r,_,rfl,sqr,fun c hc=>?_⟩
 rw [show cutV (rows.map V.int) (some 3) none = (rows.drop 3).map V.int from cutD 3 (by decide)]
 have sc:=zAe hc (.lst ((rows.drop 3).map V.int))
 have ec:upd H1 c (.lst ((rows.drop 3).map V.int)) c = some (.lst ((rows.drop 3).map V.int)):=zAb
 generalize upd H1 c (.lst ((rows.drop 3).map V.int)) = H2 at sc ec ⊢
 refine ⟨_,rfl,_,rfl,r,_,rfl,sc.seq sqr,fun d hd0=>?_⟩
 rw [show cutV (rows.map V.int) (some 2) none = (rows.drop 2).map V.int from cutD 2 (by decide)]
 have sd:=zAe hd0 (.lst ((rows.drop 2).map V.int))
 have ed:upd H2 d (.lst ((rows.drop 2).map V.int)) d = some (.lst ((rows.drop 2).map V.int)):=zAb
 generalize upd H2 d (.lst ((rows.drop 2).map V.int)) = H3 at sd ed ⊢
 have s13:=sc.trans sd
 have sq3:Sq K H3 r (rows.map V.int):=.inl (s13.seq sqr)
 refine ⟨_,rfl,r,_,_,_,rfl,rfl,sq3,a0,_,rfl,r,_,_,_,rfl,rfl,sq3,a1,v0,v1,6,12,rfl,by decide,by decide,fun mh mh0 mh1=>?_⟩
 refine ⟨d,rows.drop 2,mh,rfl,SqL.of ed,by omega,by omega,by rw [List.length_drop]; omega,by rw [List.length_drop]; omega,fun x hx=>bd x (List.mem_of_mem_drop hx),fun l0 S0 H4 s4 hl0 el0 hn0 ok0 bnd0=>?_⟩
 refine ⟨c,l0,rows.drop 3,S0,rfl,SqL.of (s4 _ _ (sd _ _ ec)),by rw [List.length_drop]; omega,fun x hx=>bd x (List.mem_of_mem_drop hx),el0,ok0,by omega,bnd0,fun l S H5 s5 el hlen okS sm=>?_⟩
 have n12:S.length≤12:=by omega
 have s15:=s13.trans (s4.trans s5)
 have sq5:Sq K H5 r (rows.map V.int):=.inl (s15.seq sqr)
 have tab5:=tab1.same s15
 clear s4 s5 sd sc s13 ec ed el0 ok0 bnd0 hc hd0 hl0 hn0 hlen sq3 s15 sm
 refine ⟨_,rfl,r,_,_,_,rfl,rfl,sq5,a90,_,rfl,r,_,_,_,rfl,rfl,sq5,a91,v90,v91,9,rfl,by decide,by decide,fun o gx gy H6 s6 ho eo gn bx by'=>?_⟩
 have bx:gx.natAbs≤9:=bx
 have by':gy.natAbs≤9:=by'
 refine ⟨(by show 2≤sizeLine; decide),fun tp htp=>?_⟩
 have stp:=zAe htp (.tup [.bl false,.bl true])
 have s56:=s6.trans stp
 have kp0:Kept K (upd H6 tp (.tup [.bl false,.bl true])) l o tp S gx gy:=⟨tab5.same s56,s56 _ _ el,okS.same s56,stp _ _ eo,zAb⟩
 generalize upd H6 tp (.tup [.bl false,.bl true]) = H7 at kp0 ⊢
 clear stp s56 htp s6 ho eo tab5 el okS sq5 tab1 tab0 sqr
 refine ⟨tp,rfl,⟨_,SqT.of kp0.tup⟩,zPy (K:=K) (a:=tp) (xs:=[.bl false,.bl true]) (fun i σ G=>Kept K G l o tp S gx gy∧∃ u4 u5:Option V,σ = [some (.ref ad),some (.ref r),some (.ref l),some (.ref o),u4,u5])
  ⟨kp0,none,none,rfl⟩ (fun i σ G _ ⟨k,_⟩=>SqT.of k.tup) ?_ ?_⟩
 rotate_left
 ·rintro σ G ⟨_,u4,u5,rfl⟩
  exact q _
 rintro i v σ G hi ⟨kp,u4,u5,rfl⟩
 obtain ⟨g,rfl⟩:∃ g:Bool,v = .bl g:=by
  match i,hi with
  | 0,hi=>cases hi; exact ⟨_,rfl⟩
  | 1,hi=>cases hi; exact ⟨_,rfl⟩
  | i + 2,hi=>cases hi
 refine ⟨_,rfl,l,rfl,.inl ⟨⟨_,SqL.of kp.el⟩,fun cc lo hlo=>zCa (K:=K) (a:=l) (xs:=zAo S) (fun i σ ys G'=>∃ sa:List Sd,ys = zAo sa∧SdSt G lo sa G'∧sa.map (·.2) = (S.take i).map (fun t=>tu g t.2)∧∃ u0:Option V,σ = [u0,some (.bl g)])
  ⟨[],rfl,⟨zAe hlo _,hlo,zAb,(fun t ht=>nomatch ht)⟩,rfl,none,rfl⟩ (fun i σ ys G' _ ⟨sa,e1,Pq,_⟩=>⟨SqL.of (Pq.same _ _ kp.el),by rw [e1]; exact Pq.at'⟩) ?_ ?_⟩⟩
 ·rintro i v σ ys Gc hi ⟨sa,rfl,Pc,em,u0,rfl⟩
  obtain ⟨t,gt,rfl,hil⟩:=zBt hi
  have mt:=List.mem_of_getElem? gt
  obtain ⟨et,nt,b1,b2,b3⟩:=kp.ok t mt
  have la:sa.length = i:=by have z:=congrArg List.length em; rw [List.length_map,List.length_map,List.length_take] at z; omega
  refine ⟨_,rfl,_,rfl,t.1,t.2.1,t.2.2.1,[.int t.2.2.2],g,rfl,Pc.same _ _ et,by show 1≤10; decide,fun p G2 s2 hp ep=>?_⟩
  have nb:(if g then t.2.2.1 else -t.2.2.1).natAbs≤10 ^ 9:=by cases g <;> simp <;> omega
  have nn:(if g then t.2.2.1 else -t.2.2.1)≠0∨t.2.1≠0:=by
   rcases nt with z | z
   ·exact .inr z
   ·left
    cases g <;> simp <;> omega
  refine ⟨s2 _ _ Pc.at',zA2 (by rw [zAk]; omega),sa ++ [(p,(if g then t.2.2.1 else -t.2.2.1),t.2.1,t.2.2.2)],by simp [zAo],Pc.app s2 hp ep nn nb b1 b3,?_,_,rfl⟩
  rw [List.map_append,em,zBi gt,List.map_append]
  rfl
 rintro σ ys G1 ⟨So,rfl,Po,tm,u0,rfl⟩
 rw [zAk,List.take_length] at tm
 have tm:Tm g S So:=tm
 have lno:=tm.len
 have kp1:=kp.same Po.same
 have eo1:=Po.at'
 have oko1:=Po.all
 clear Po kp hlo
 have smS:∀ t∈S,t.2.1.natAbs≤10 ^ 9∧t.2.2.1.natAbs≤10 ^ 9∧t.2.2.2.natAbs≤10 ^ 13:=fun t ht=>(kp1.ok t ht).2.2
 have smO:∀ t∈So,t.2.1.natAbs≤10 ^ 9∧t.2.2.1.natAbs≤10 ^ 9∧t.2.2.2.natAbs≤10 ^ 13:=fun t ht=>(oko1 t ht).2.2
 refine ⟨_,rfl,lo,So,rfl,SqL.of eo1,oko1,by omega,fun D2 qs G2 s2 hD2 cb=>?_⟩
 have fb:=cb.few
 refine ⟨D2,qs.map (fun t=>(t.1,tI t)),2,rfl,SqL.of (by rw [← zUk]; exact cb.at'),by rw [List.length_map]; omega,zNu fun t ht=>(cb.ok t ht).1,fun w1 us1 hw1 pm1 pw1=>?_⟩
 have sw1:=zAe hw1 (.lst ((us1.map (·.1)).map V.ref))
 have ew1:upd G2 w1 (.lst ((us1.map (·.1)).map V.ref)) w1 = some (.lst ((us1.map (·.1)).map V.ref)):=zAb
 have ou1:∀ u∈us1,upd G2 w1 (.lst ((us1.map (·.1)).map V.ref)) u.1 = some (.tup (u.2.map V.int)):=fun u hu=>sw1 _ _ (zNu (fun t ht=>(cb.ok t ht).1) u (pm1.mem_iff.mp hu)).1
 have kp3:=kp1.same (s2.trans sw1)
 have eo3:=(s2.trans sw1) _ _ eo1
 have oko3:=oko1.same (s2.trans sw1)
 generalize upd G2 w1 (.lst ((us1.map (·.1)).map V.ref)) = G3 at kp3 eo3 oko3 ew1 ou1 ⊢
 clear sw1 hw1 s2 hD2 kp1 eo1 oko1
 refine ⟨_,rfl,l,_,rfl,.inl (SqL.of kp3.el),fun c1 hc1=>?_⟩
 have sc1:=zAe hc1 (.lst (zAo S))
 refine ⟨c1,S,rfl,SqL.of zAb,kp3.ok.same sc1,by omega,fun D ps G4 s4 hD ca=>?_⟩
 have s34:=sc1.trans s4
 have fa:=ca.few
 refine ⟨D,rfl,.inl ⟨⟨_,SqL.of ca.at'⟩,fun cc D3 hD3=>zCa (K:=K) (a:=D) (xs:=zAv ps) (fun i σ ys G'=>∃ us:List (Addr × List Int),ys = (us.map (·.1)).map V.ref∧Tws G4 D3 us G'∧us.map (·.2) = (ps.take i).map (fun t=>tI (t.1,tu g t.2))∧∃ u0:Option V,σ = [u0,some (.bl g)])
  ⟨[],rfl,⟨zAe hD3 _,hD3,zAb,(fun t ht=>nomatch ht)⟩,rfl,none,rfl⟩ (fun i σ ys G' _ ⟨us,e1,T,_⟩=>⟨SqL.of (T.same _ _ ca.at'),by rw [e1]; exact T.at'⟩) ?_ ?_⟩⟩
 ·rintro i v σ ys Gc hi ⟨us,rfl,T,em,u0,rfl⟩
  unfold zAv at hi
  rw [List.getElem?_map] at hi
  cases gx':ps[i]? with
  | none=>rw [gx'] at hi; cases hi
  | some t =>
   rw [gx'] at hi
   cases hi
   have mt:=List.mem_of_getElem? gx'
   have il:i < ps.length:=(List.getElem?_eq_some_iff.mp gx').1
   have lu:us.length = i:=by have z:=congrArg List.length em; rw [List.length_map,List.length_map,List.length_take] at z; omega
   refine ⟨_,rfl,_,rfl,t.1,t.2.1,t.2.2.1,[.int t.2.2.2],g,rfl,T.same _ _ (ca.ok t mt).1.1,by show 1≤10; decide,fun p G5 s5 hp ep=>?_⟩
   refine ⟨s5 _ _ T.at',zA2 (by simp only [List.length_map]; omega),us ++ [(p,tI (t.1,tu g t.2))],by simp,T.app s5 ep,?_,_,rfl⟩
   rw [List.map_append,em,zBi gx',List.map_append]
   rfl
 rintro σ ys G5 ⟨us2,rfl,T5,em,u0',rfl⟩
 rw [show (zAv ps).length = ps.length by unfold zAv; rw [List.length_map],List.take_length] at em
 have lu2:us2.length = ps.length:=by have z:=congrArg List.length em; rwa [List.length_map,List.length_map] at z
 refine ⟨D3,us2,2,rfl,SqL.of T5.at',by omega,fun u hu=>⟨T5.rows u hu,?_⟩,fun w2 us3 hw2 pm2 pw2=>?_⟩
 ·have z:u.2∈ps.map (fun t=>tI (t.1,tu g t.2)):=by rw [← em]; exact List.mem_map_of_mem hu
  obtain ⟨t,_,e⟩:=List.mem_map.mp z
  rw [← e]
  rfl
 have sw2:=zAe hw2 (.lst ((us3.map (·.1)).map V.ref))
 have s35:=(s34.trans T5.same).trans sw2
 refine ⟨w1,w2,us1,us3,rfl,rfl,SqL.of (s35 _ _ ew1),SqL.of zAb,fun u hu=>s35 _ _ (ou1 u hu),fun u hu=>sw2 _ _ (T5.rows u (pm2.mem_iff.mp hu)),zFg pm1 pw1 em pm2 pw2 ?_,_,rfl,?_⟩
 ·rw [map_tI]
  have e:ps.map (fun t=>tI (t.1,tu g t.2)) = ((ps.map (·.2)).map (tu g)).map fun P:P3=>[P.1,P.2.1,P.2.2]:=by rw [List.map_map,List.map_map]; rfl
  have e2:qs.map tI = (qs.map (·.2)).map fun P:P3=>[P.1,P.2.1,P.2.2]:=by rw [List.map_map]; rfl
  rw [e,e2]
  have nd:((ps.map (·.2)).map (tu g)).Nodup:=by
   rw [List.Nodup,List.pairwise_map]
   exact ca.nodup.imp fun ne e=>ne (zG5 e)
  refine List.Perm.map _ ((List.perm_ext_iff_of_nodup cb.nodup nd).mpr fun P'=>?_)
  rw [cb.mem,List.mem_map]
  constructor
  ·intro c
   obtain ⟨P,cP,e⟩:=tm.cor' c
   exact ⟨P,(ca.mem P).mpr cP,e.symm⟩
  ·rintro ⟨P,hP,rfl⟩
   exact tm.cor.mpr ((ca.mem P).mp hP)
 refine iteF ?_
 have kp6:=kp3.same s35
 have eo6:=s35 _ _ eo3
 have oko6:=oko3.same s35
 generalize upd G5 w2 (.lst ((us3.map (·.1)).map V.ref)) = G6 at kp6 eo6 oko6 ⊢
 clear s35 sw2 T5 em lu2 pm2 pw2 hw2 hD3 fa s34 sc1 s4 hc1 hD ca ou1 ew1 pm1 pw1 cb fb kp3 eo3 oko3
 refine ⟨_,rfl,lo,So,rfl,SqL.of eo6,oko6,by omega,fun D2 qs G2 s2 hD2 wb=>?_⟩
 have fb:=zN3 wb
 have two:∀ {H:Hp} {p:Addr} {ss:List Sd} {us:List (Addr × List Int)},zQe H p ss us→∀ u∈us,∃ x y,u.2 = [x,y]:=fun w u hu=>zPc ((w.mem u.2).mp (List.mem_map_of_mem hu))
 refine ⟨D2,qs,1,rfl,SqL.of wb.at',by omega,fun u hu=>⟨wb.all u hu,?_⟩,fun w1 us1 hw1 pm1 pw1=>?_⟩
 ·obtain ⟨x,y,e⟩:=two wb u hu
  rw [e]
  rfl
 have sw1:=zAe hw1 (.lst ((us1.map (·.1)).map V.ref))
 have ew1:upd G2 w1 (.lst ((us1.map (·.1)).map V.ref)) w1 = some (.lst ((us1.map (·.1)).map V.ref)):=zAb
 have ou1:∀ u∈us1,upd G2 w1 (.lst ((us1.map (·.1)).map V.ref)) u.1 = some (.tup (u.2.map V.int)):=fun u hu=>sw1 _ _ (wb.all u (pm1.mem_iff.mp hu))
 have kp7:=kp6.same (s2.trans sw1)
 have eo7:=(s2.trans sw1) _ _ eo6
 have oko7:=oko6.same (s2.trans sw1)
 generalize upd G2 w1 (.lst ((us1.map (·.1)).map V.ref)) = G7 at kp7 eo7 oko7 ew1 ou1 ⊢
 clear sw1 hw1 s2 hD2 kp6 eo6 oko6
 refine ⟨_,rfl,l,_,rfl,.inl (SqL.of kp7.el),fun c1 hc1=>?_⟩
 have sc1:=zAe hc1 (.lst (zAo S))
 refine ⟨c1,S,rfl,SqL.of zAb,kp7.ok.same sc1,by omega,fun D ps G8 s8 hD wa=>?_⟩
 have s78:=sc1.trans s8
 have fa:=zN3 wa
 refine ⟨D,rfl,.inl ⟨⟨_,SqL.of wa.at'⟩,fun cc D3 hD3=>zCa (K:=K) (a:=D) (xs:=(ps.map (·.1)).map V.ref) (fun i σ ys G'=>∃ us:List (Addr × List Int),ys = (us.map (·.1)).map V.ref∧Tws G8 D3 us G'∧us.map (·.2) = (ps.take i).map (fun t=>mvL g t.2)∧∃ u0:Option V,σ = [u0,some (.bl g)])
  ⟨[],rfl,⟨zAe hD3 _,hD3,zAb,(fun t ht=>nomatch ht)⟩,rfl,none,rfl⟩ (fun i σ ys G' _ ⟨us,e1,T,_⟩=>⟨SqL.of (T.same _ _ wa.at'),by rw [e1]; exact T.at'⟩) ?_ ?_⟩⟩
 ·rintro i v σ ys Gc hi ⟨us,rfl,T,em,u0,rfl⟩
  rw [List.getElem?_map,List.getElem?_map] at hi
  cases gx':ps[i]? with
  | none=>rw [gx'] at hi; cases hi
  | some t =>
   rw [gx'] at hi
   cases hi
   have mt:=List.mem_of_getElem? gx'
   have il:i < ps.length:=(List.getElem?_eq_some_iff.mp gx').1
   have lu:us.length = i:=by have z:=congrArg List.length em; rw [List.length_map,List.length_map,List.length_take] at z; omega
   obtain ⟨x,y,e⟩:=two wa t mt
   have et:=T.same _ _ (wa.all t mt)
   rw [e] at et
   refine ⟨_,rfl,_,rfl,t.1,x,y,[],g,rfl,et,by decide,fun p G5 s5 hp ep=>?_⟩
   refine ⟨s5 _ _ T.at',zA2 (by simp only [List.length_map]; omega),us ++ [(p,mvL g t.2)],by simp,T.app s5 (by rw [ep,e]; rfl),?_,_,rfl⟩
   rw [List.map_append,em,zBi gx',List.map_append]
   rfl
 rintro σ ys G9 ⟨us2,rfl,T9,em,u0',rfl⟩
 rw [show ((ps.map (·.1)).map V.ref).length = ps.length by simp,List.take_length] at em
 have lu2:us2.length = ps.length:=by have z:=congrArg List.length em; rwa [List.length_map,List.length_map] at z
 refine ⟨D3,us2,1,rfl,SqL.of T9.at',by omega,fun u hu=>⟨T9.rows u hu,?_⟩,fun w2 us3 hw2 pm2 pw2=>?_⟩
 ·have z:u.2∈ps.map (fun t=>mvL g t.2):=by rw [← em]; exact List.mem_map_of_mem hu
  obtain ⟨t,_,e⟩:=List.mem_map.mp z
  rw [← e]
  rfl
 have sw2:=zAe hw2 (.lst ((us3.map (·.1)).map V.ref))
 have s79:=(s78.trans T9.same).trans sw2
 refine ⟨w1,w2,us1,us3,rfl,rfl,SqL.of (s79 _ _ ew1),SqL.of zAb,fun u hu=>s79 _ _ (ou1 u hu),fun u hu=>sw2 _ _ (T9.rows u (pm2.mem_iff.mp hu)),zFg pm1 pw1 em pm2 pw2 ?_,_,rfl,?_⟩
 ·have e:ps.map (fun t=>mvL g t.2) = (ps.map (·.2)).map (mvL g):=by rw [List.map_map]; rfl
  rw [e]
  have nd:((ps.map (·.2)).map (mvL g)).Nodup:=by
   rw [List.Nodup,List.pairwise_map]
   refine List.Pairwise.imp_of_mem (fun {k k'} hk hk' ne e=>ne ?_) wa.nodup
   obtain ⟨x,y,e1⟩:=zPc ((wa.mem k).mp hk)
   obtain ⟨x',y',e2⟩:=zPc ((wa.mem k').mp hk')
   rw [e1,e2] at e ⊢
   exact zTn e
  refine (List.perm_ext_iff_of_nodup wb.nodup nd).mpr fun k'=>?_
  rw [wb.mem,List.mem_map,tm.wk]
  constructor
  ·rintro ⟨k,h1,e⟩
   exact ⟨k,(wa.mem k).mpr h1,e.symm⟩
  ·rintro ⟨k,h1,e⟩
   exact ⟨k,(wa.mem k).mp h1,e.symm⟩
 refine iteF ?_
 have kp10:=kp7.same s79
 have eo10:=s79 _ _ eo7
 have oko10:=oko7.same s79
 generalize upd G9 w2 (.lst ((us3.map (·.1)).map V.ref)) = G10 at kp10 eo10 oko10 ⊢
 clear s79 sw2 T9 em lu2 pm2 pw2 hw2 hD3 fa s78 sc1 s8 hc1 hD wa ou1 ew1 pm1 pw1 wb fb kp7 eo7 oko7 two
 refine ⟨_,rfl,lo,So,rfl,SqL.of eo10,oko10,by omega,kp10.tab,fun v' G11 sT tab11 out'=>?_⟩
 have kp11:=kp10.sameT tab11 sT
 have eo11:=sT.lst kp10.tab eo10
 have oko11:=oko10.sameT kp10.tab sT
 clear sT kp10 eo10 oko10
 refine ⟨_,rfl,l,_,rfl,.inl (SqL.of kp11.el),fun c hc=>?_⟩
 have sc:=zAe hc (.lst (zAo S))
 have kpc:=kp11.same sc
 have eoc:=sc _ _ eo11
 have okoc:=oko11.same sc
 have outc:=out'.keep fun p xs e=>sc _ _ e
 refine ⟨c,S,rfl,SqL.of zAb,kpc.ok,by omega,kpc.tab,fun v G12 sT tab12 out=>?_⟩
 have kp12:=kpc.sameT tab12 sT
 have eo12:=sT.lst kpc.tab eoc
 have oko12:=okoc.sameT kpc.tab sT
 have out12:=outc.keep fun p xs e=>sT.tup kpc.tab e
 clear sT kpc eoc okoc outc sc hc kp11 eo11 oko11 out'
 apply cut0
 ·intro main
  rcases zP8 tm out out12 smS smO with ⟨ev,ev'⟩ | ⟨p,p',s0,t0,s0',t0',tw⟩
  ·refine .inl ⟨by rw [ev,ev']; rfl,?_⟩
   rw [decide_eq_true (ev'.trans ev.symm)]
   exact main
  ·refine .inr ⟨p',p,[s0',t0'],[s0,t0],tw.ev',tw.ev,SqT.of tw.e',SqT.of tw.e,?_⟩
   rw [decide_eq_true tw.eq]
   exact main
 refine ⟨_,rfl,?_⟩
 refine iteF ?_
 clear out out12
 refine ⟨_,rfl,lo,So,rfl,SqL.of eo12,oko12,by omega,fun cb G13 s13 hb=>?_⟩
 refine ⟨_,rfl,l,_,rfl,.inl (SqL.of (s13 _ _ kp12.el)),fun c hc=>?_⟩
 have sc:=zAe hc (.lst (zAo S))
 have s14:=s13.trans sc
 refine ⟨c,S,rfl,SqL.of zAb,kp12.ok.same s14,by omega,fun ca G15 s15 ha=>?_⟩
 have eqb:cb = ca:=by
  have hne:So≠[]↔S≠[]:=by
   constructor
   ·intro a e
    rw [e] at lno
    exact a (List.length_eq_zero_iff.mp lno)
   ·intro a e
    rw [e] at lno
    exact a (List.length_eq_zero_iff.mp lno.symm)
  have hwk:(∀ k,¬ WK So So.length k)↔∀ k,¬ WK S S.length k:=by
   constructor
   ·intro c k z
    exact c _ ((tm.wk _).mpr ⟨k,z,rfl⟩)
   ·intro c k z
    obtain ⟨k0,h1,_⟩:=(tm.wk k).mp z
    exact c k0 h1
  rw [Bool.eq_iff_iff,ha,hb,hne,hwk,tm.place]
 refine ⟨rfl,_,rfl,?_⟩
 rw [decide_eq_true (show V.bl cb = V.bl ca by rw [eqb])]
 refine iteF ?_
 have s16:=s14.trans s15
 have kp16:=kp12.same s16
 have eo16:=s16 _ _ eo12
 have oko16:=oko12.same s16
 clear s16 s15 s14 sc hc s13 kp12 eo12 oko12 ha hb eqb
 refine ⟨_,rfl,_,rfl,_,rfl,o,gx,gy,[],g,rfl,kp16.one,by decide,fun p G17 s17 hp ep=>?_⟩
 have gn':(if g then gy else -gy)≠0∨gx≠0:=by
  rcases gn with z | z
  ·exact .inr z
  ·left
   cases g <;> simp <;> omega
 refine ⟨lo,p,So,((if g then gy else -gy),gx,0),rfl,SqL.of (s17 _ _ eo16),oko16.same s17,by omega,.inr (SqT.of ep),gn',by cases g <;> simp <;> omega,Nat.le_trans bx (by decide),fun t1 xs1 G18 s18 et1 hf1 vs1=>?_⟩
 have s1618:=s17.trans s18
 refine ⟨_,rfl,l,_,rfl,.inl (SqL.of (s1618 _ _ kp16.el)),fun c hc=>?_⟩
 have sc:=zAe hc (.lst (zAo S))
 have s19:=s1618.trans sc
 refine ⟨_,rfl,c,o,S,(gx,gy,0),rfl,SqL.of zAb,kp16.ok.same s19,by omega,.inr (SqT.of (s19 _ _ kp16.one)),gn,Nat.le_trans bx (by decide),Nat.le_trans by' (by decide),fun t2 xs2 G20 s20 et2 hf2 vs2=>?_⟩
 have exs:xs1 = xs2:=zJh.same tm (g:=(gx,gy,0)) (g':=((if g then gy else -gy),gx,0)) ⟨rfl,rfl⟩ hf2 hf1
 rw [← exs] at et2
 refine ⟨t1,t2,xs1,rfl,rfl,SqT.of (s20 _ _ (sc _ _ et1)),SqT.of et2,vs1,_,rfl,?_⟩
 refine iteF ?_
 exact ⟨kp16.same (s19.trans s20),_,_,rfl⟩
end
abbrev AtK (K:PySem.W.Frag) (x:Str) (s:Stmt) (f:Addr) (oc:Value) (od:Option Addr) (sl:Array (Option Value)) (kV dc pm:Value) (an:Option Addr) (cd ct:Value):Prop :=
 PySem.W.nsIn K mainGlobals x = some (some (.ref f))∧K.lookup f = some ⟨oc,od,.func (PySem.W.fnOf x x (zC1 s) (zCe s) (zAl s) .none kV dc pm an cd ct),sl⟩∧PySem.W.codeIn K cd x = true∧PySem.W.keepIn K (.ref f) = true
section
variable {K:PySem.W.Frag} {x:Str} {s:Stmt} {f:Addr} {oc kV dc pm cd ct:Value} {od an:Option Addr} {sl:Array (Option Value)} {h:Heap} {mg:Str→Option Value}
theorem zA6 (q:AtK K x s f oc od sl kV dc pm an cd ct):Fun K x x s f (PySem.W.fnOf x x (zC1 s) (zCe s) (zAl s) .none kV dc pm an cd ct):=fun_mk (st:=s) q.2.1 q.2.2.1 q.2.2.2
theorem zAz (P:Program) (w:World) (base:Heap) (X:K.In h) (G:h.Ns mainGlobals mg) (q:AtK K x s f oc od sl kV dc pm an cd ct) {ps:List Str} {n:Nat} {sp:Sp} (o:FnOk P w K mg base CX0 n f (PySem.W.fnOf x x (zC1 s) (zCe s) (zAl s) .none kV dc pm an cd ct) ps sp)
  (b:∀ (kV doc pm:Value) (an:Option Addr) (cdv ct:Value) (us:List Value),us.length = ps.length→bindArgs (PySem.W.fnOf x x (zC1 s) (zCe s) (zAl s) .none kV doc pm an cdv ct) ⟨us,[]⟩ = pure (ps.zip us)):Has P w K mg base x n ps sp :=
 ⟨_,_,o,(zA6 q).binds b,q.2.2.2,PySem.W.mg_of X G q.1⟩
end
theorem us1 {R:List Value→Prop} (h:∀ a,R [a]):∀ us:List Value,us.length = 1→R us
 | [a],_=>h a
theorem us2 {R:List Value→Prop} (h:∀ a b,R [a,b]):∀ us:List Value,us.length = 2→R us
 | [a,b],_=>h a b
theorem us3 {R:List Value→Prop} (h:∀ a b c,R [a,b,c]):∀ us:List Value,us.length = 3→R us
 | [a,b,c],_=>h a b c
theorem us4 {R:List Value→Prop} (h:∀ a b c d,R [a,b,c,d]):∀ us:List Value,us.length = 4→R us
 | [a,b,c,d],_=>h a b c d
theorem tab_cd {K:PySem.W.Frag} {x:Str} {s:Stmt} {f:Addr} {oc kV dc pm cd ct:Value} {od an:Option Addr} {sl:Array (Option Value)} {c P:Addr} (q:AtK K x s f oc od sl kV dc pm an cd ct) (t:PySem.W.tabIn K x = some (c,P)):(PySem.W.fnOf x x (zC1 s) (zCe s) (zAl s) .none kV dc pm an cd ct).code = .ref (tabC K x):=by
 have e:tabC K x = c:=by unfold tabC; rw [t]
 rw [e]
 unfold PySem.W.tabIn at t
 rw [q.1] at t
 dsimp only at t
 rw [q.2.1] at t
 dsimp only at t
 cases cd with
 | ref c' =>
  dsimp only at t
  cases h:K.lookup c' with
  | none=>rw [h] at t; cases t
  | some ob =>
   rw [h] at t
   obtain ⟨k1,k2,k3,k4⟩:=ob
   cases k3 with
   | fields vs =>
    dsimp only at t
    split at t
    ·cases t; rfl
    ·cases t
   | _=>cases t
 | _=>cases t
theorem all_mk {l:PySem.W.OpenLaw} {w:World} {K:PySem.W.Frag} {h:Heap} {mg:Str→Option Value} {fa:Addr} (X:K.In h) (G:h.Ns mainGlobals mg) (hfa:mg "law" = some (.ref fa))
  {f1 f2 f3 f4 f5 f6 f7 f8 f9 f10 f11 f12 f13 f14 f15 f16 f17 f18 f19 f20 f21 f22 f23 f24 f25 f26 f27 f28 f29 f30 f31 f32 f33 f34 f35 f36 f37 f38 f39 f40 f41 f42 f43 f44 f45 f46 f47 f48 f49 f50 f51:Addr}
  {oc1 kV1 dc1 pm1 cd1 ct1 oc2 kV2 dc2 pm2 cd2 ct2 oc3 kV3 dc3 pm3 cd3 ct3 oc4 kV4 dc4 pm4 cd4 ct4 oc5 kV5 dc5 pm5 cd5 ct5 oc6 kV6 dc6 pm6 cd6 ct6 oc7 kV7 dc7 pm7 cd7 ct7 oc8 kV8 dc8 pm8 cd8 ct8 oc9 kV9 dc9 pm9 cd9 ct9 oc10 kV10 dc10 pm10 cd10 ct10 oc11 kV11 dc11 pm11 cd11 ct11 oc12 kV12 dc12 pm12 cd12 ct12 oc13 kV13 dc13 pm13 cd13 ct13 oc14 kV14 dc14 pm14 cd14 ct14 oc15 kV15 dc15 pm15 cd15 ct15 oc16 kV16 dc16 pm16 cd16 ct16 oc17 kV17 dc17 pm17 cd17 ct17 oc18 kV18 dc18 pm18 cd18 ct18 oc19 kV19 dc19 pm19 cd19 ct19 oc20 kV20 dc20 pm20 cd20 ct20 oc21 kV21 dc21 pm21 cd21 ct21 oc22 kV22 dc22 pm22 cd22 ct22 oc23 kV23 dc23 pm23 cd23 ct23 oc24 kV24 dc24 pm24 cd24 ct24 oc25 kV25 dc25 pm25 cd25 ct25 oc26 kV26 dc26 pm26 cd26 ct26 oc27 kV27 dc27 pm27 cd27 ct27 oc28 kV28 dc28 pm28 cd28 ct28 oc29 kV29 dc29 pm29 cd29 ct29 oc30 kV30 dc30 pm30 cd30 ct30 oc31 kV31 dc31 pm31 cd31 ct31 oc32 kV32 dc32 pm32 cd32 ct32 oc33 kV33 dc33 pm33 cd33 ct33 oc34 kV34 dc34 pm34 cd34 ct34 oc35 kV35 dc35 pm35 cd35 ct35 oc36 kV36 dc36 pm36 cd36 ct36 oc37 kV37 dc37 pm37 cd37 ct37 oc38 kV38 dc38 pm38 cd38 ct38 oc39 kV39 dc39 pm39 cd39 ct39 oc40 kV40 dc40 pm40 cd40 ct40 oc41 kV41 dc41 pm41 cd41 ct41 oc42 kV42 dc42 pm42 cd42 ct42 oc43 kV43 dc43 pm43 cd43 ct43 oc44 kV44 dc44 pm44 cd44 ct44 oc45 kV45 dc45 pm45 cd45 ct45 oc46 kV46 dc46 pm46 cd46 ct46 oc47 kV47 dc47 pm47 cd47 ct47 oc48 kV48 dc48 pm48 cd48 ct48 oc49 kV49 dc49 pm49 cd49 ct49 oc50 kV50 dc50 pm50 cd50 ct50 oc51 kV51 dc51 pm51 cd51 ct51:Value}
  {od1 an1 od2 an2 od3 an3 od4 an4 od5 an5 od6 an6 od7 an7 od8 an8 od9 an9 od10 an10 od11 an11 od12 an12 od13 an13 od14 an14 od15 an15 od16 an16 od17 an17 od18 an18 od19 an19 od20 an20 od21 an21 od22 an22 od23 an23 od24 an24 od25 an25 od26 an26 od27 an27 od28 an28 od29 an29 od30 an30 od31 an31 od32 an32 od33 an33 od34 an34 od35 an35 od36 an36 od37 an37 od38 an38 od39 an39 od40 an40 od41 an41 od42 an42 od43 an43 od44 an44 od45 an45 od46 an46 od47 an47 od48 an48 od49 an49 od50 an50 od51 an51:Option Addr}
  {sl1 sl2 sl3 sl4 sl5 sl6 sl7 sl8 sl9 sl10 sl11 sl12 sl13 sl14 sl15 sl16 sl17 sl18 sl19 sl20 sl21 sl22 sl23 sl24 sl25 sl26 sl27 sl28 sl29 sl30 sl31 sl32 sl33 sl34 sl35 sl36 sl37 sl38 sl39 sl40 sl41 sl42 sl43 sl44 sl45 sl46 sl47 sl48 sl49 sl50 sl51:Array (Option Value)}
  (q1:AtK K "common_factor" zBu f1 oc1 od1 sl1 kV1 dc1 pm1 an1 cd1 ct1)
  (q2:AtK K "lowest" zFd f2 oc2 od2 sl2 kV2 dc2 pm2 an2 cd2 ct2)
  (q3:AtK K "upright" zEc f3 oc3 od3 sl3 kV3 dc3 pm3 an3 cd3 ct3)
  (q4:AtK K "part" zHq f4 oc4 od4 sl4 kV4 dc4 pm4 an4 cd4 ct4)
  (q5:AtK K "plus" zHo f5 oc5 od5 sl5 kV5 dc5 pm5 an5 cd5 ct5)
  (q6:AtK K "spot" zHf f6 oc6 od6 sl6 kV6 dc6 pm6 an6 cd6 ct6)
  (q7:AtK K "ahead" zGb f7 oc7 od7 sl7 kV7 dc7 pm7 an7 cd7 ct7)
  (q8:AtK K "merged" zFj f8 oc8 od8 sl8 kV8 dc8 pm8 an8 cd8 ct8)
  (q9:AtK K "in_order" zCv f9 oc9 od9 sl9 kV9 dc9 pm9 an9 cd9 ct9)
  (q10:AtK K "turn" zGp f10 oc10 od10 sl10 kV10 dc10 pm10 an10 cd10 ct10)
  (q11:AtK K "along" zGt f11 oc11 od11 sl11 kV11 dc11 pm11 an11 cd11 ct11)
  (q12:AtK K "plain" zGl f12 oc12 od12 sl12 kV12 dc12 pm12 an12 cd12 ct12)
  (q13:AtK K "beyond" zFo f13 oc13 od13 sl13 kV13 dc13 pm13 an13 cd13 ct13)
  (q14:AtK K "holds" zF3 f14 oc14 od14 sl14 kV14 dc14 pm14 an14 cd14 ct14)
  (q15:AtK K "crossing" zDu f15 oc15 od15 sl15 kV15 dc15 pm15 an15 cd15 ct15)
  (q16:AtK K "in_water" zDs f16 oc16 od16 sl16 kV16 dc16 pm16 an16 cd16 ct16)
  (q17:AtK K "foot" zHi f17 oc17 od17 sl17 kV17 dc17 pm17 an17 cd17 ct17)
  (q18:AtK K "edge_end" zDw f18 oc18 od18 sl18 kV18 dc18 pm18 an18 cd18 ct18)
  (q19:AtK K "edge_ends" zC7 f19 oc19 od19 sl19 kV19 dc19 pm19 an19 cd19 ct19)
  (q20:AtK K "spot_on_edge" zB3 f20 oc20 od20 sl20 kV20 dc20 pm20 an20 cd20 ct20)
  (q21:AtK K "sought" zFk f21 oc21 od21 sl21 kV21 dc21 pm21 an21 cd21 ct21)
  (q22:AtK K "some_spot" zC3 f22 oc22 od22 sl22 kV22 dc22 pm22 an22 cd22 ct22)
  (q23:AtK K "corners" zEj f23 oc23 od23 sl23 kV23 dc23 pm23 an23 cd23 ct23)
  (q24:AtK K "way_to" zFm f24 oc24 od24 sl24 kV24 dc24 pm24 an24 cd24 ct24)
  (q25:AtK K "ring" zGm f25 oc25 od25 sl25 kV25 dc25 pm25 an25 cd25 ct25)
  (q26:AtK K "is_way" zFh f26 oc26 od26 sl26 kV26 dc26 pm26 an26 cd26 ct26)
  (q27:AtK K "ways" zHp f27 oc27 od27 sl27 kV27 dc27 pm27 an27 cd27 ct27)
  (q28:AtK K "has_no_way" zCt f28 oc28 od28 sl28 kV28 dc28 pm28 an28 cd28 ct28)
  (q29:AtK K "closed" zFe f29 oc29 od29 sl29 kV29 dc29 pm29 an29 cd29 ct29)
  (q30:AtK K "triangle" zDr f30 oc30 od30 sl30 kV30 dc30 pm30 an30 cd30 ct30)
  (q31:AtK K "area" zHg f31 oc31 od31 sl31 kV31 dc31 pm31 an31 cd31 ct31)
  (q32:AtK K "span" zHh f32 oc32 od32 sl32 kV32 dc32 pm32 an32 cd32 ct32)
  (q33:AtK K "weighed" zEl f33 oc33 od33 sl33 kV33 dc33 pm33 an33 cd33 ct33)
  (q34:AtK K "clash_of_three" zBn f34 oc34 od34 sl34 kV34 dc34 pm34 an34 cd34 ct34)
  (q35:AtK K "clash" zF8 f35 oc35 od35 sl35 kV35 dc35 pm35 an35 cd35 ct35)
  (q36:AtK K "way_onward" zCu f36 oc36 od36 sl36 kV36 dc36 pm36 an36 cd36 ct36)
  (q37:AtK K "far_by_one" zCr f37 oc37 od37 sl37 kV37 dc37 pm37 an37 cd37 ct37)
  (q38:AtK K "weights_of_two" zBo f38 oc38 od38 sl38 kV38 dc38 pm38 an38 cd38 ct38)
  (q39:AtK K "far_by_two" zCs f39 oc39 od39 sl39 kV39 dc39 pm39 an39 cd39 ct39)
  (q40:AtK K "reach" zGh f40 oc40 od40 sl40 kV40 dc40 pm40 an40 cd40 ct40)
  (q41:AtK K "_law_low" zJ7 f41 oc41 od41 sl41 kV41 dc41 pm41 an41 cd41 ct41)
  (q42:AtK K "_law_power" zF6 f42 oc42 od42 sl42 kV42 dc42 pm42 an42 cd42 ct42)
  (q43:AtK K "_law_draws" zGg f43 oc43 od43 sl43 kV43 dc43 pm43 an43 cd43 ct43)
  (q44:AtK K "_law_tight" zGi f44 oc44 od44 sl44 kV44 dc44 pm44 an44 cd44 ct44)
  (q45:AtK K "_law_way" zJ9 f45 oc45 od45 sl45 kV45 dc45 pm45 an45 cd45 ct45)
  (q46:AtK K "_law_side" zHs f46 oc46 od46 sl46 kV46 dc46 pm46 an46 cd46 ct46)
  (q47:AtK K "_law_sides" zGq f47 oc47 od47 sl47 kV47 dc47 pm47 an47 cd47 ct47)
  (q48:AtK K "_law_many" zHl f48 oc48 od48 sl48 kV48 dc48 pm48 an48 cd48 ct48)
  (q49:AtK K "_law_moved" zGs f49 oc49 od49 sl49 kV49 dc49 pm49 an49 cd49 ct49)
  (q50:AtK K "_law_how_far" zEo f50 oc50 od50 sl50 kV50 dc50 pm50 an50 cd50 ct50)
  (q51:AtK K "law" zMg f51 oc51 od51 sl51 kV51 dc51 pm51 an51 cd51 ct51)
  (z_abs:PySem.W.nsIn K mainGlobals "abs" = some none)
  (z_enumerate:PySem.W.nsIn K mainGlobals "enumerate" = some none)
  (z_len:PySem.W.nsIn K mainGlobals "len" = some none)
  (z_list:PySem.W.nsIn K mainGlobals "list" = some none)
  (z_range:PySem.W.nsIn K mainGlobals "range" = some none)
  (z_sorted:PySem.W.nsIn K mainGlobals "sorted" = some none)
  (z_tuple:PySem.W.nsIn K mainGlobals "tuple" = some none)
  {c0 pt0:Addr} (tt:PySem.W.tabIn K "ring" = some (c0,pt0)) :
  ∃ fd:FuncData,(∀ (s:Shared) (v:Value),BindsTo s fd ⟨[v],[]⟩ [("_law_script", v)])∧∀ base:Heap,K.In base→base.Ns mainGlobals mg→zKq base mg c0 pt0→FnOk l.prog w K mg base CX0 19 fa fd ["_law_script"] (sp_law K):=by
 have e:=hfa.symm.trans (PySem.W.mg_of X G q51.1)
 cases e
 have Z:Zs mg:=⟨PySem.W.mg_none_of X G z_abs,PySem.W.mg_none_of X G z_enumerate,PySem.W.mg_none_of X G z_len,PySem.W.mg_none_of X G z_list,PySem.W.mg_none_of X G z_range,PySem.W.mg_none_of X G z_sorted,PySem.W.mg_none_of X G z_tuple⟩
 refine ⟨PySem.W.fnOf "law" "law" (zC1 zMg) (zCe zMg) (zAl zMg) .none kV51 dc51 pm51 an51 cd51 ct51,fun s v=>.of_eq rfl,fun base _ _ NB=>?_⟩
 have h_p_common_factor:=zAz l.prog w base X G q1 (zGe (zA6 q1) Z ) (fun _ _ _ _ _ _=>us1 fun _=>rfl)
 have h_p_lowest:=zAz l.prog w base X G q2 (zMk (zA6 q2) Z h_p_common_factor) (fun _ _ _ _ _ _=>us1 fun _=>rfl)
 have h_p_upright:=zAz l.prog w base X G q3 (zLw (zA6 q3) Z h_p_lowest) (fun _ _ _ _ _ _=>us1 fun _=>rfl)
 have h_p_part:=zAz l.prog w base X G q4 (zQr (zA6 q4) Z h_p_upright) (fun _ _ _ _ _ _=>us2 fun _ _=>rfl)
 have h_p_plus:=zAz l.prog w base X G q5 (zPf (zA6 q5) Z h_p_part) (fun _ _ _ _ _ _=>us2 fun _ _=>rfl)
 have h_p_spot:=zAz l.prog w base X G q6 (zO9 (zA6 q6) Z h_p_upright) (fun _ _ _ _ _ _=>us3 fun _ _ _=>rfl)
 have h_p_ahead:=zAz l.prog w base X G q7 (zN8 (zA6 q7) Z ) (fun _ _ _ _ _ _=>us2 fun _ _=>rfl)
 have h_p_merged:=zAz l.prog w base X G q8 (zMj (zA6 q8) Z h_p_ahead) (fun _ _ _ _ _ _=>us2 fun _ _=>rfl)
 have h_p_in_order:=zAz l.prog w base X G q9 (zJ8 (zA6 q9) Z h_p_merged ((zA6 q9).binds (ps:=["spots"]) fun _ _ _ _ _ _=>us1 fun _=>rfl) q9.2.2.2 (PySem.W.mg_of X G q9.1)) (fun _ _ _ _ _ _=>us1 fun _=>rfl)
 have h_p_turn_B:=zAz l.prog w base X G q10 (zMf (zA6 q10) Z ) (fun _ _ _ _ _ _=>us2 fun _ _=>rfl)
 have h_p_turn:=zAz l.prog w base X G q10 (zQi (zA6 q10) Z ) (fun _ _ _ _ _ _=>us2 fun _ _=>rfl)
 have h_p_along:=zAz l.prog w base X G q11 (zOs (zA6 q11) Z ) (fun _ _ _ _ _ _=>us2 fun _ _=>rfl)
 have h_p_plain:=zAz l.prog w base X G q12 (zOi (zA6 q12) Z h_p_lowest) (fun _ _ _ _ _ _=>us1 fun _=>rfl)
 have h_p_beyond:=zAz l.prog w base X G q13 (zM4 (zA6 q13) Z ) (fun _ _ _ _ _ _=>us2 fun _ _=>rfl)
 have h_p_holds:=zAz l.prog w base X G q14 (zOw (zA6 q14) Z h_p_beyond) (fun _ _ _ _ _ _=>us2 fun _ _=>rfl)
 have h_p_crossing:=zAz l.prog w base X G q15 (zKt (zA6 q15) Z h_p_upright h_p_turn) (fun _ _ _ _ _ _=>us2 fun _ _=>rfl)
 have h_p_in_water:=zAz l.prog w base X G q16 (zKm (zA6 q16) Z h_p_holds) (fun _ _ _ _ _ _=>us2 fun _ _=>rfl)
 have h_p_foot:=zAz l.prog w base X G q17 (zPt (zA6 q17) Z h_p_spot h_p_along) (fun _ _ _ _ _ _=>us1 fun _=>rfl)
 have h_p_edge_end:=zAz l.prog w base X G q18 (zKb (zA6 q18) Z h_p_turn h_p_holds h_p_crossing) (fun _ _ _ _ _ _=>us3 fun _ _ _=>rfl)
 have h_p_edge_ends:=zAz l.prog w base X G q19 (zJb (zA6 q19) Z h_p_crossing h_p_edge_end) (fun _ _ _ _ _ _=>us2 fun _ _=>rfl)
 have h_p_spot_on_edge:=zAz l.prog w base X G q20 (zGy (zA6 q20) Z h_p_edge_ends h_p_foot h_p_in_water) (fun _ _ _ _ _ _=>us2 fun _ _=>rfl)
 have h_p_sought:=zAz l.prog w base X G q21 (zMc (zA6 q21) Z h_p_holds h_p_spot_on_edge h_p_spot) (fun _ _ _ _ _ _=>us1 fun _=>rfl)
 have h_p_some_spot:=zAz l.prog w base X G q22 (zI6 (zA6 q22) Z h_p_sought) (fun _ _ _ _ _ _=>us1 fun _=>rfl)
 have h_p_corners:=zAz l.prog w base X G q23 (zLn (zA6 q23) Z h_p_in_order h_p_edge_ends h_p_in_water) (fun _ _ _ _ _ _=>us1 fun _=>rfl)
 have h_p_way_to:=zAz l.prog w base X G q24 (zM3 (zA6 q24) Z ) (fun _ _ _ _ _ _=>us2 fun _ _=>rfl)
 have h_p_ring:=zAz l.prog w base X G q25 (zPd (zA6 q25) Z h_p_corners h_p_turn h_p_way_to h_p_turn_B (tab_cd q25 tt) (tab_nb tt NB)) (fun _ _ _ _ _ _=>us1 fun _=>rfl)
 have h_p_is_way:=zAz l.prog w base X G q26 (zMr (zA6 q26) Z h_p_along) (fun _ _ _ _ _ _=>us2 fun _ _=>rfl)
 have h_p_ways:=zAz l.prog w base X G q27 (zRs (zA6 q27) Z h_p_is_way h_p_plain) (fun _ _ _ _ _ _=>us1 fun _=>rfl)
 have h_p_has_no_way:=zAz l.prog w base X G q28 (zIy (zA6 q28) Z h_p_ways) (fun _ _ _ _ _ _=>us1 fun _=>rfl)
 have h_p_closed:=zAz l.prog w base X G q29 (zMx (zA6 q29) Z h_p_has_no_way h_p_some_spot) (fun _ _ _ _ _ _=>us1 fun _=>rfl)
 have h_p_triangle:=zAz l.prog w base X G q30 (zKh (zA6 q30) Z h_p_part h_p_turn h_p_way_to h_p_turn_B) (fun _ _ _ _ _ _=>us3 fun _ _ _=>rfl)
 have h_p_area:=zAz l.prog w base X G q31 (zPb (zA6 q31) Z h_p_plus h_p_triangle h_p_part h_p_ring h_p_has_no_way h_p_some_spot) (fun _ _ _ _ _ _=>us1 fun _=>rfl)
 have h_p_span:=zAz l.prog w base X G q32 (zRj (zA6 q32) Z ) (fun _ _ _ _ _ _=>us1 fun _=>rfl)
 have h_p_weighed:=zAz l.prog w base X G q33 (zLq (zA6 q33) Z h_p_lowest) (fun _ _ _ _ _ _=>us2 fun _ _=>rfl)
 have h_p_clash_of_three:=zAz l.prog w base X G q34 (zFs (zA6 q34) Z h_p_weighed h_p_turn h_p_edge_end) (fun _ _ _ _ _ _=>us2 fun _ _=>rfl)
 have h_p_clash:=zAz l.prog w base X G q35 (zO6 (zA6 q35) Z h_p_clash_of_three h_p_turn h_p_holds h_p_foot h_p_weighed h_p_span h_p_sought) (fun _ _ _ _ _ _=>us1 fun _=>rfl)
 have h_p_way_onward:=zAz l.prog w base X G q36 (zH6 (zA6 q36) Z h_p_ways h_p_plain h_p_along h_p_is_way) (fun _ _ _ _ _ _=>us2 fun _ _=>rfl)
 have h_p_far_by_one:=zAz l.prog w base X G q37 (zH3 (zA6 q37) Z h_p_turn h_p_along h_p_part h_p_span h_p_spot_on_edge) (fun _ _ _ _ _ _=>us2 fun _ _=>rfl)
 have h_p_weights_of_two:=zAz l.prog w base X G q38 (zFx (zA6 q38) Z h_p_part h_p_turn) (fun _ _ _ _ _ _=>us3 fun _ _ _=>rfl)
 have h_p_far_by_two:=zAz l.prog w base X G q39 (zH5 (zA6 q39) Z h_p_turn h_p_in_water h_p_weights_of_two h_p_crossing h_p_edge_end) (fun _ _ _ _ _ _=>us2 fun _ _=>rfl)
 have h_p_reach:=zAz l.prog w base X G q40 (zOg (zA6 q40) Z h_p_far_by_one h_p_far_by_two h_p_way_onward h_p_clash) (fun _ _ _ _ _ _=>us2 fun _ _=>rfl)
 have h_L_low:=zAz l.prog w base X G q41 (zR0 (zA6 q41) Z ) (fun _ _ _ _ _ _=>us2 fun _ _=>rfl)
 have h_L_power:=zAz l.prog w base X G q42 (zO2 (zA6 q42) Z ) (fun _ _ _ _ _ _=>us1 fun _=>rfl)
 have h_L_draws:=zAz l.prog w base X G q43 (zN6 (zA6 q43) Z h_L_power) (fun _ _ _ _ _ _=>us2 fun _ _=>rfl)
 have h_L_tight:=zAz l.prog w base X G q44 (zOt (zA6 q44) Z ) (fun _ _ _ _ _ _=>us2 fun _ _=>rfl)
 have h_L_way:=zAz l.prog w base X G q45 (zSx (zA6 q45) Z ) (fun _ _ _ _ _ _=>us3 fun _ _ _=>rfl)
 have h_L_side:=zAz l.prog w base X G q46 (zPv (zA6 q46) Z h_L_way) (fun _ _ _ _ _ _=>us1 fun _=>rfl)
 have h_L_sides:=zAz l.prog w base X G q47 (zO3 (zA6 q47) Z h_L_side) (fun _ _ _ _ _ _=>us2 fun _ _=>rfl)
 have h_L_many:=zAz l.prog w base X G q48 (zRd (zA6 q48) Z ) (fun _ _ _ _ _ _=>us4 fun _ _ _ _=>rfl)
 have h_L_moved:=zAz l.prog w base X G q49 (zOe (zA6 q49) Z ) (fun _ _ _ _ _ _=>us2 fun _ _=>rfl)
 have h_L_how_far:=zAz l.prog w base X G q50 (zLy (zA6 q50) Z h_L_low h_p_reach) (fun _ _ _ _ _ _=>us2 fun _ _=>rfl)
 exact ok_law (zA6 q51) Z h_L_how_far h_L_moved h_p_area h_p_closed h_p_ways h_p_corners h_L_way h_L_tight h_L_sides h_L_many h_L_draws
theorem walk {l:PySem.W.OpenLaw} {q:Program} {loose:List Str} {XP:(Str→Option Value)→Heap→Prop} {YP:World→Heap→Prop} {d:DefRec} {K:Params→PySem.W.Frag} {c Pt:Addr} (hn:l.most = some 63) (hdf:d.params.defaults = [])
  (hY:∀ (w:World) (h:Heap),YP w h→(K w.params).In h) (hfind:((PyProof.Rows.recsOf q).find? (fun e:DefRec=>e.name == ("ring" : Str))).isSome = true) (ht:∀ p:Params,PySem.W.tabIn (K p) "ring" = some (c,Pt)) (hKT:∀ p:Params,(K p).lookup Pt = none)
  (F:∀ (w:World) (mg:Str→Option Value) (fa:Addr) (h:Heap),(K w.params).In h→h.Ns mainGlobals mg→mg d.name = some (.ref fa) →
   ∃ fd:FuncData,(∀ (s:Shared) (u:Value),BindsTo s fd ⟨[u],[]⟩ [("_law_script", u)])∧∀ base:Heap,(K w.params).In base→base.Ns mainGlobals mg→zKq base mg c Pt→FnOk l.prog w (K w.params) mg base CX0 19 fa fd ["_law_script"] (sp_law (K w.params))) :
  PySem.W.WalkO q loose XP YP l.row.toRowW d [] (fun f vs=>PySem.call f vs) :=
 L2.walk_ofT (n:=63) (k:=19) (x := "_law_script") (y := "ring") (CX:=fun _=>CX0) (sp:=fun w=>sp_law (K w.params)) hn (by decide) hdf ⟨rfl,by decide,by decide⟩ hY hfind ht hKT F (fun w H a ns hl hT hS=>⟨a,ns,rfl,hS,hl,(by have e:tabP (K w.params) "ring" = Pt:=(by unfold tabP; rw [ht]); show H (tabP (K w.params) "ring") = _; rw [e]; exact hT),fun _=>rfl⟩) fun _ _ _ _ _ z=>z

end Sea
open PySem PySem.W PyProof.Rows
set_option maxRecDepth 100000 in
set_option maxHeartbeats 0 in
theorem PySem.Challenge.cw_seamarks_k31_whole_turned_and_mirrored_holds : PySem.Challenge.rw_seamarks_k31_whole_turned_and_mirrored.Holds := by
 w_on
 refine holds_law Sea.said_ok fun said=>?_
 refine holds_open (q:=Sea.qv) (loose:=[]) (XP:=XL Sea.qv []) (YP:=InK Sea.KK) Sea.left_ok (InK.of Sea.kas_ok)
  InK.keeps (fun s e=>xl_of s (Bool.and_eq_true_iff.mp e).1) XL.keeps (by rfl) (by rfl) (by rfl)
  (fun s e=>recFacts_of (Bool.and_eq_true_iff.mp e).2) (by rfl) (by assumption) (by decide +kernel)
  ⟨rfl,rfl,rfl,rfl,rfl,by decide +kernel⟩ ?hw ?hc
 case hw=>w_witness2
 k_fill
 refine Sea.walk (l:=PySem.Challenge.rw_seamarks_k31_whole_turned_and_mirrored) (c:=182) (Pt:=178) rfl rfl (fun w h Y=>Y) (by kernel_rfl) (fun _=>by kernel_rfl) (fun _=>by kernel_rfl) ?F
 case F =>
  intro w mg fa h KX G hmg
  refine' Sea.all_mk KX G hmg ?q1 ?q2 ?q3 ?q4 ?q5 ?q6 ?q7 ?q8 ?q9 ?q10 ?q11 ?q12 ?q13 ?q14 ?q15 ?q16 ?q17 ?q18 ?q19 ?q20 ?q21 ?q22 ?q23 ?q24 ?q25 ?q26 ?q27 ?q28 ?q29 ?q30 ?q31 ?q32 ?q33 ?q34 ?q35 ?q36 ?q37 ?q38 ?q39 ?q40 ?q41 ?q42 ?q43 ?q44 ?q45 ?q46 ?q47 ?q48 ?q49 ?q50 ?q51 ?z_abs ?z_enumerate ?z_len ?z_list ?z_range ?z_sorted ?z_tuple ?tt
  (case q1=>and_intros <;> k_is)
  (case q2=>and_intros <;> k_is)
  (case q3=>and_intros <;> k_is)
  (case q4=>and_intros <;> k_is)
  (case q5=>and_intros <;> k_is)
  (case q6=>and_intros <;> k_is)
  (case q7=>and_intros <;> k_is)
  (case q8=>and_intros <;> k_is)
  (case q9=>and_intros <;> k_is)
  (case q10=>and_intros <;> k_is)
  (case q11=>and_intros <;> k_is)
  (case q12=>and_intros <;> k_is)
  (case q13=>and_intros <;> k_is)
  (case q14=>and_intros <;> k_is)
  (case q15=>and_intros <;> k_is)
  (case q16=>and_intros <;> k_is)
  (case q17=>and_intros <;> k_is)
  (case q18=>and_intros <;> k_is)
  (case q19=>and_intros <;> k_is)
  (case q20=>and_intros <;> k_is)
  (case q21=>and_intros <;> k_is)
  (case q22=>and_intros <;> k_is)
  (case q23=>and_intros <;> k_is)
  (case q24=>and_intros <;> k_is)
  (case q25=>and_intros <;> k_is)
  (case q26=>and_intros <;> k_is)
  (case q27=>and_intros <;> k_is)
  (case q28=>and_intros <;> k_is)
  (case q29=>and_intros <;> k_is)
  (case q30=>and_intros <;> k_is)
  (case q31=>and_intros <;> k_is)
  (case q32=>and_intros <;> k_is)
  (case q33=>and_intros <;> k_is)
  (case q34=>and_intros <;> k_is)
  (case q35=>and_intros <;> k_is)
  (case q36=>and_intros <;> k_is)
  (case q37=>and_intros <;> k_is)
  (case q38=>and_intros <;> k_is)
  (case q39=>and_intros <;> k_is)
  (case q40=>and_intros <;> k_is)
  (case q41=>and_intros <;> k_is)
  (case q42=>and_intros <;> k_is)
  (case q43=>and_intros <;> k_is)
  (case q44=>and_intros <;> k_is)
  (case q45=>and_intros <;> k_is)
  (case q46=>and_intros <;> k_is)
  (case q47=>and_intros <;> k_is)
  (case q48=>and_intros <;> k_is)
  (case q49=>and_intros <;> k_is)
  (case q50=>and_intros <;> k_is)
  (case q51=>and_intros <;> k_is)
  (case z_abs=>k_is)
  (case z_enumerate=>k_is)
  (case z_len=>k_is)
  (case z_list=>k_is)
  (case z_range=>k_is)
  (case z_sorted=>k_is)
  (case z_tuple=>k_is)
  (case tt=>kernel_rfl)
