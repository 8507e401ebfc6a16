import PyProof.Rows.All
import Wide.All
import OpenK.AllK
import Wide.FinOn
import Lean
import PyProof.EqAt
import PyProof.EqKinds
import PyProof.TupleCall
import PyProof.ZipIter
import PyProof.Rows.ZipGen
import PyProof.EnumFor
import PyProof.EnumStmt
import KE.KSortTup
import KE.KDictList
import KE.KNest
import KE.KSortKey
import PySem.Challenge.RW_seamarks_k32_whole_pushed_and_widened
set_option Elab.async false
set_option linter.all false
set_option maxRecDepth 100000
set_option maxHeartbeats 4000000
namespace L2
open PySem
def zCr (s:Stmt):Arguments:=match s with
 | .FunctionDef _ a _ _ _ _ _ _ _ _=>a
 | _=>{ posonlyargs:=[],args:=[],vararg:=none,kwonlyargs:=[],kw_defaults:=[],kwarg:=none,defaults:=[] }
def zCf (s:Stmt):List Stmt:=match s with
 | .FunctionDef _ _ b _ _ _ _ _ _ _=>b
 | _=>[]
def zAl (s:Stmt):Scope:=match s with
 | .FunctionDef _ _ _ _ _ _ sc _ _ _=>sc
 | _=>{ kind:=.function,names:=[],isGenerator:=false,isCoroutine:=false }
end L2
namespace Sea
open PySem L2
def top (i:Nat):Stmt:=PySem.Challenge.pw_seamarks_k32_whole_pushed_and_widened.main.body.getD i (.Pass ⟨0,0,0,0⟩)
abbrev zBw:Stmt:=top 1
abbrev zFi:Stmt:=top 2
abbrev zD7:Stmt:=top 3
abbrev zH0:Stmt:=top 4
abbrev zHz:Stmt:=top 5
abbrev zHn:Stmt:=top 6
abbrev zGk:Stmt:=top 7
abbrev zFf:Stmt:=top 8
abbrev zCq:Stmt:=top 9
abbrev zGh:Stmt:=top 11
abbrev zGq:Stmt:=top 12
abbrev zF5:Stmt:=top 13
abbrev zFj:Stmt:=top 14
abbrev zFz:Stmt:=top 15
abbrev zDk:Stmt:=top 16
abbrev zFe:Stmt:=top 17
abbrev zDf:Stmt:=top 19
abbrev zHx:Stmt:=top 20
abbrev zDo:Stmt:=top 21
abbrev zC1:Stmt:=top 22
abbrev zB3:Stmt:=top 23
abbrev zFg:Stmt:=top 24
abbrev zCx:Stmt:=top 25
abbrev zD9:Stmt:=top 26
abbrev zFk:Stmt:=top 27
abbrev zGs:Stmt:=top 28
abbrev zFb:Stmt:=top 29
abbrev zHo:Stmt:=top 30
abbrev zCo:Stmt:=top 31
abbrev zDn:Stmt:=top 32
abbrev zHv:Stmt:=top 33
abbrev zEm:Stmt:=top 35
abbrev zBv:Stmt:=top 36
abbrev zB4:Stmt:=top 37
abbrev zD5:Stmt:=top 38
abbrev zGb:Stmt:=top 40
abbrev zGi:Stmt:=top 41
abbrev zGc:Stmt:=top 42
abbrev zJ8:Stmt:=top 43
abbrev zHs:Stmt:=top 44
abbrev zF9:Stmt:=top 45
abbrev zHt:Stmt:=top 46
abbrev zKm:Stmt:=top 47
abbrev zD3:Stmt:=top 48
abbrev zGn:Stmt:=top 49
abbrev zEo:Stmt:=top 50
abbrev zEb:Stmt:=top 51
abbrev zNf:Stmt:=top 52
noncomputable def qv:Program:={ PySem.Challenge.pw_seamarks_k32_whole_pushed_and_widened with main:={ PySem.Challenge.pw_seamarks_k32_whole_pushed_and_widened.main with body:=[top 1,top 2,top 3,top 4,top 5,top 6,top 7,top 8,top 9,top 11,top 12,top 13,top 14,top 15,top 16,top 17,top 19,top 20,top 21,top 22,top 23,top 24,top 25,top 26,top 27,top 28,top 29,top 30,top 31,top 32,top 33,top 35,top 36,top 37,top 38,top 40,top 41,top 42,top 43,top 44,top 45,top 46,top 47,top 48,top 49,top 50,top 51,top 52] } }
noncomputable def kd (P:Params) (x:Str) (t:Nat) (v:Value):DictEntry:=⟨PyData.keyHash P x,.str x t,v⟩
noncomputable def kc (l:List Value):Obj:=⟨.type "code", none,.fields (List.toArray l),List.toArray []⟩
noncomputable abbrev kf (x:Str) (s:Stmt) (kV doc pm cd ct:Value):Obj:=⟨.type "function", none,.func (PySem.W.fnOf x x (zCr s) (zCf s) (zAl s) .none kV doc pm none cd ct),List.toArray []⟩
noncomputable def KK (P:Params):PySem.W.Frag :=
 (nat_lit 3,⟨.type "dict", none,.dict (List.toArray (kd P "__name__" 165 (.str "law_seamarks_k32_whole_pushed_and_widened" 494) :: kd P "__doc__" 166 .none :: kd P "__package__" 167 .none :: kd P "__loader__" 168 (.builtin "__main__.__loader__#opaque") :: kd P "__spec__" 169 .none :: kd P "__annotations__" 170 (.ref 6) :: kd P "__builtins__" 171 (.ref 4) :: kd P "__file__" 173 (.str "/claim/cut.py" 172) :: kd P "__cached__" 174 .none :: kd P "common_factor" 199 (.ref 21) :: kd P "lowest" 205 (.ref 26) :: kd P "upright" 211 (.ref 31) :: kd P "part" 219 (.ref 38) :: kd P "plus" 227 (.ref 45) :: kd P "spot" 236 (.ref 52) :: kd P "ahead" 245 (.ref 59) :: kd P "merged" 256 (.ref 66) :: kd P "in_order" 264 (.ref 73) :: kd P "turn" 274 (.ref 80) :: kd P "along" 282 (.ref 87) :: kd P "plain" 289 (.ref 94) :: kd P "beyond" 297 (.ref 101) :: kd P "holds" 305 (.ref 108) :: kd P "crossing" 316 (.ref 115) :: kd P "pushed" 325 (.ref 122) :: kd P "in_water" 336 (.ref 129) :: kd P "foot" 343 (.ref 136) :: kd P "edge_end" 356 (.ref 143) :: kd P "edge_ends" 362 (.ref 148) :: kd P "spot_on_edge" 371 (.ref 155) :: kd P "sought" 380 (.ref 162) :: kd P "some_spot" 387 (.ref 169) :: kd P "corners" 397 (.ref 176) :: kd P "way_to" 405 (.ref 183) :: kd P "ring" 414 (.ref 190) :: kd P "is_way" 423 (.ref 197) :: kd P "ways" 433 (.ref 204) :: kd P "has_no_way" 440 (.ref 211) :: kd P "triangle" 450 (.ref 218) :: kd P "area" 460 (.ref 225) :: kd P "doubted" 468 (.ref 230) :: kd P "places_to_try" 481 (.ref 237) :: kd P "least_doubts" 487 (.ref 242) :: kd P "choices" 493 (.ref 247) :: kd P "_law_power" 502 (.ref 254) :: kd P "_law_draws" 514 (.ref 261) :: kd P "_law_tight" 520 (.ref 266) :: kd P "_law_way" 531 (.ref 273) :: kd P "_law_side" 541 (.ref 280) :: kd P "_law_sides" 547 (.ref 285) :: kd P "_law_many" 557 (.ref 292) :: kd P "_law_low" 565 (.ref 299) :: kd P "_law_spot_of" 575 (.ref 306) :: kd P "_law_whole" 582 (.ref 313) :: kd P "_law_numbers" 588 (.ref 318) :: kd P "_law_is_part" 597 (.ref 325) :: kd P "law" 603 (.ref 330) :: [])) 57,List.toArray []⟩) ::
 (nat_lit 20,kc ((.str "common_factor" 189) :: ((.str "common_factor" 190) :: ((.str "/claim/cut.py" 191) :: ((.int 2 0) :: ((.int 1 0) :: ((.int 0 0) :: ((.int 0 0) :: ((.int 3 0) :: ((.ref 15) :: ((.bool true) :: ((.int 181 0) :: ((.ref 16) :: (.none :: ((.ref 17) :: ((.ref 18) :: ((.ref 19) :: ((.int 197 0) :: ((.int 2 0) :: ((.str "/claim/cut.py" 198) :: [])))))))))))))))))))) ::
 (nat_lit 21,kf "common_factor" zBw .none .none (.str "seamarks.parts" 187) (.ref 20) .none) ::
 (nat_lit 25,kc ((.str "lowest" 200) :: ((.str "lowest" 201) :: ((.str "/claim/cut.py" 202) :: ((.int 11 0) :: ((.int 1 0) :: ((.int 0 0) :: ((.int 0 0) :: ((.int 3 0) :: ((.ref 22) :: ((.bool true) :: ((.int 181 0) :: ((.ref 23) :: (.none :: (.none :: (.none :: ((.ref 24) :: ((.int 203 0) :: ((.int 11 0) :: ((.str "/claim/cut.py" 204) :: [])))))))))))))))))))) ::
 (nat_lit 26,kf "lowest" zFi .none .none (.str "seamarks.parts" 187) (.ref 25) .none) ::
 (nat_lit 30,kc ((.str "upright" 206) :: ((.str "upright" 207) :: ((.str "/claim/cut.py" 208) :: ((.int 14 0) :: ((.int 1 0) :: ((.int 0 0) :: ((.int 0 0) :: ((.int 3 0) :: ((.ref 27) :: ((.bool true) :: ((.int 181 0) :: ((.ref 28) :: (.none :: (.none :: (.none :: ((.ref 29) :: ((.int 209 0) :: ((.int 14 0) :: ((.str "/claim/cut.py" 210) :: [])))))))))))))))))))) ::
 (nat_lit 31,kf "upright" zD7 .none .none (.str "seamarks.parts" 187) (.ref 30) .none) ::
 (nat_lit 37,kc ((.str "part" 212) :: ((.str "part" 213) :: ((.str "/claim/cut.py" 214) :: ((.int 18 0) :: ((.int 2 0) :: ((.int 0 0) :: ((.int 0 0) :: ((.int 3 0) :: ((.ref 32) :: ((.bool true) :: ((.int 181 0) :: ((.ref 33) :: (.none :: ((.ref 34) :: ((.ref 35) :: ((.ref 36) :: ((.int 217 0) :: ((.int 18 0) :: ((.str "/claim/cut.py" 218) :: [])))))))))))))))))))) ::
 (nat_lit 38,kf "part" zH0 .none .none (.str "seamarks.parts" 187) (.ref 37) .none) ::
 (nat_lit 44,kc ((.str "plus" 220) :: ((.str "plus" 221) :: ((.str "/claim/cut.py" 222) :: ((.int 20 0) :: ((.int 2 0) :: ((.int 0 0) :: ((.int 0 0) :: ((.int 3 0) :: ((.ref 39) :: ((.bool true) :: ((.int 181 0) :: ((.ref 40) :: (.none :: ((.ref 41) :: ((.ref 42) :: ((.ref 43) :: ((.int 225 0) :: ((.int 20 0) :: ((.str "/claim/cut.py" 226) :: [])))))))))))))))))))) ::
 (nat_lit 45,kf "plus" zHz .none .none (.str "seamarks.parts" 187) (.ref 44) .none) ::
 (nat_lit 51,kc ((.str "spot" 228) :: ((.str "spot" 229) :: ((.str "/claim/cut.py" 230) :: ((.int 22 0) :: ((.int 3 0) :: ((.int 0 0) :: ((.int 0 0) :: ((.int 3 0) :: ((.ref 46) :: ((.bool true) :: ((.int 181 0) :: ((.ref 47) :: (.none :: ((.ref 48) :: ((.ref 49) :: ((.ref 50) :: ((.int 234 0) :: ((.int 22 0) :: ((.str "/claim/cut.py" 235) :: [])))))))))))))))))))) ::
 (nat_lit 52,kf "spot" zHn .none .none (.str "seamarks.parts" 187) (.ref 51) .none) ::
 (nat_lit 58,kc ((.str "ahead" 237) :: ((.str "ahead" 238) :: ((.str "/claim/cut.py" 239) :: ((.int 24 0) :: ((.int 2 0) :: ((.int 0 0) :: ((.int 0 0) :: ((.int 3 0) :: ((.ref 53) :: ((.bool true) :: ((.int 181 0) :: ((.ref 54) :: (.none :: ((.ref 55) :: ((.ref 56) :: ((.ref 57) :: ((.int 243 0) :: ((.int 24 0) :: ((.str "/claim/cut.py" 244) :: [])))))))))))))))))))) ::
 (nat_lit 59,kf "ahead" zGk .none .none (.str "seamarks.parts" 187) (.ref 58) .none) ::
 (nat_lit 65,kc ((.str "merged" 246) :: ((.str "merged" 247) :: ((.str "/claim/cut.py" 248) :: ((.int 29 0) :: ((.int 2 0) :: ((.int 0 0) :: ((.int 0 0) :: ((.int 3 0) :: ((.ref 60) :: ((.bool true) :: ((.int 181 0) :: ((.ref 61) :: (.none :: ((.ref 62) :: ((.ref 63) :: ((.ref 64) :: ((.int 254 0) :: ((.int 29 0) :: ((.str "/claim/cut.py" 255) :: [])))))))))))))))))))) ::
 (nat_lit 66,kf "merged" zFf .none .none (.str "seamarks.parts" 187) (.ref 65) .none) ::
 (nat_lit 72,kc ((.str "in_order" 257) :: ((.str "in_order" 258) :: ((.str "/claim/cut.py" 259) :: ((.int 38 0) :: ((.int 1 0) :: ((.int 0 0) :: ((.int 0 0) :: ((.int 3 0) :: ((.ref 67) :: ((.bool true) :: ((.int 181 0) :: ((.ref 68) :: (.none :: ((.ref 69) :: ((.ref 70) :: ((.ref 71) :: ((.int 262 0) :: ((.int 38 0) :: ((.str "/claim/cut.py" 263) :: [])))))))))))))))))))) ::
 (nat_lit 73,kf "in_order" zCq .none .none (.str "seamarks.parts" 187) (.ref 72) .none) ::
 (nat_lit 79,kc ((.str "turn" 267) :: ((.str "turn" 268) :: ((.str "/claim/cut.py" 269) :: ((.int 44 0) :: ((.int 2 0) :: ((.int 0 0) :: ((.int 0 0) :: ((.int 3 0) :: ((.ref 74) :: ((.bool true) :: ((.int 181 0) :: ((.ref 75) :: (.none :: ((.ref 76) :: ((.ref 77) :: ((.ref 78) :: ((.int 272 0) :: ((.int 44 0) :: ((.str "/claim/cut.py" 273) :: [])))))))))))))))))))) ::
 (nat_lit 80,kf "turn" zGh .none .none (.str "seamarks.sides" 265) (.ref 79) .none) ::
 (nat_lit 86,kc ((.str "along" 275) :: ((.str "along" 276) :: ((.str "/claim/cut.py" 277) :: ((.int 46 0) :: ((.int 2 0) :: ((.int 0 0) :: ((.int 0 0) :: ((.int 3 0) :: ((.ref 81) :: ((.bool true) :: ((.int 181 0) :: ((.ref 82) :: (.none :: ((.ref 83) :: ((.ref 84) :: ((.ref 85) :: ((.int 280 0) :: ((.int 46 0) :: ((.str "/claim/cut.py" 281) :: [])))))))))))))))))))) ::
 (nat_lit 87,kf "along" zGq .none .none (.str "seamarks.sides" 265) (.ref 86) .none) ::
 (nat_lit 93,kc ((.str "plain" 283) :: ((.str "plain" 284) :: ((.str "/claim/cut.py" 285) :: ((.int 48 0) :: ((.int 1 0) :: ((.int 0 0) :: ((.int 0 0) :: ((.int 3 0) :: ((.ref 88) :: ((.bool true) :: ((.int 181 0) :: ((.ref 89) :: (.none :: ((.ref 90) :: ((.ref 91) :: ((.ref 92) :: ((.int 287 0) :: ((.int 48 0) :: ((.str "/claim/cut.py" 288) :: [])))))))))))))))))))) ::
 (nat_lit 94,kf "plain" zF5 .none .none (.str "seamarks.sides" 265) (.ref 93) .none) ::
 (nat_lit 100,kc ((.str "beyond" 290) :: ((.str "beyond" 291) :: ((.str "/claim/cut.py" 292) :: ((.int 50 0) :: ((.int 2 0) :: ((.int 0 0) :: ((.int 0 0) :: ((.int 3 0) :: ((.ref 95) :: ((.bool true) :: ((.int 181 0) :: ((.ref 96) :: (.none :: ((.ref 97) :: ((.ref 98) :: ((.ref 99) :: ((.int 295 0) :: ((.int 50 0) :: ((.str "/claim/cut.py" 296) :: [])))))))))))))))))))) ::
 (nat_lit 101,kf "beyond" zFj .none .none (.str "seamarks.sides" 265) (.ref 100) .none) ::
 (nat_lit 107,kc ((.str "holds" 298) :: ((.str "holds" 299) :: ((.str "/claim/cut.py" 300) :: ((.int 52 0) :: ((.int 2 0) :: ((.int 0 0) :: ((.int 0 0) :: ((.int 3 0) :: ((.ref 102) :: ((.bool true) :: ((.int 181 0) :: ((.ref 103) :: (.none :: ((.ref 104) :: ((.ref 105) :: ((.ref 106) :: ((.int 303 0) :: ((.int 52 0) :: ((.str "/claim/cut.py" 304) :: [])))))))))))))))))))) ::
 (nat_lit 108,kf "holds" zFz .none .none (.str "seamarks.sides" 265) (.ref 107) .none) ::
 (nat_lit 114,kc ((.str "crossing" 306) :: ((.str "crossing" 307) :: ((.str "/claim/cut.py" 308) :: ((.int 54 0) :: ((.int 2 0) :: ((.int 0 0) :: ((.int 0 0) :: ((.int 3 0) :: ((.ref 109) :: ((.bool true) :: ((.int 181 0) :: ((.ref 110) :: (.none :: ((.ref 111) :: ((.ref 112) :: ((.ref 113) :: ((.int 314 0) :: ((.int 54 0) :: ((.str "/claim/cut.py" 315) :: [])))))))))))))))))))) ::
 (nat_lit 115,kf "crossing" zDk .none .none (.str "seamarks.sides" 265) (.ref 114) .none) ::
 (nat_lit 121,kc ((.str "pushed" 317) :: ((.str "pushed" 318) :: ((.str "/claim/cut.py" 319) :: ((.int 61 0) :: ((.int 3 0) :: ((.int 0 0) :: ((.int 0 0) :: ((.int 3 0) :: ((.ref 116) :: ((.bool true) :: ((.int 181 0) :: ((.ref 117) :: (.none :: ((.ref 118) :: ((.ref 119) :: ((.ref 120) :: ((.int 323 0) :: ((.int 61 0) :: ((.str "/claim/cut.py" 324) :: [])))))))))))))))))))) ::
 (nat_lit 122,kf "pushed" zFe .none .none (.str "seamarks.sides" 265) (.ref 121) .none) ::
 (nat_lit 128,kc ((.str "in_water" 328) :: ((.str "in_water" 329) :: ((.str "/claim/cut.py" 330) :: ((.int 64 0) :: ((.int 2 0) :: ((.int 0 0) :: ((.int 0 0) :: ((.int 3 0) :: ((.ref 123) :: ((.bool true) :: ((.int 181 0) :: ((.ref 124) :: (.none :: ((.ref 125) :: ((.ref 126) :: ((.ref 127) :: ((.int 334 0) :: ((.int 64 0) :: ((.str "/claim/cut.py" 335) :: [])))))))))))))))))))) ::
 (nat_lit 129,kf "in_water" zDf .none .none (.str "seamarks.water" 326) (.ref 128) .none) ::
 (nat_lit 135,kc ((.str "foot" 337) :: ((.str "foot" 338) :: ((.str "/claim/cut.py" 339) :: ((.int 69 0) :: ((.int 1 0) :: ((.int 0 0) :: ((.int 0 0) :: ((.int 3 0) :: ((.ref 130) :: ((.bool true) :: ((.int 181 0) :: ((.ref 131) :: (.none :: ((.ref 132) :: ((.ref 133) :: ((.ref 134) :: ((.int 341 0) :: ((.int 69 0) :: ((.str "/claim/cut.py" 342) :: [])))))))))))))))))))) ::
 (nat_lit 136,kf "foot" zHx .none .none (.str "seamarks.water" 326) (.ref 135) .none) ::
 (nat_lit 142,kc ((.str "edge_end" 344) :: ((.str "edge_end" 345) :: ((.str "/claim/cut.py" 346) :: ((.int 71 0) :: ((.int 3 0) :: ((.int 0 0) :: ((.int 0 0) :: ((.int 3 0) :: ((.ref 137) :: ((.bool true) :: ((.int 181 0) :: ((.ref 138) :: (.none :: ((.ref 139) :: ((.ref 140) :: ((.ref 141) :: ((.int 354 0) :: ((.int 71 0) :: ((.str "/claim/cut.py" 355) :: [])))))))))))))))))))) ::
 (nat_lit 143,kf "edge_end" zDo .none .none (.str "seamarks.water" 326) (.ref 142) .none) ::
 (nat_lit 147,kc ((.str "edge_ends" 357) :: ((.str "edge_ends" 358) :: ((.str "/claim/cut.py" 359) :: ((.int 80 0) :: ((.int 2 0) :: ((.int 0 0) :: ((.int 0 0) :: ((.int 3 0) :: ((.ref 144) :: ((.bool true) :: ((.int 181 0) :: ((.ref 145) :: (.none :: (.none :: (.none :: ((.ref 146) :: ((.int 360 0) :: ((.int 80 0) :: ((.str "/claim/cut.py" 361) :: [])))))))))))))))))))) ::
 (nat_lit 148,kf "edge_ends" zC1 .none .none (.str "seamarks.water" 326) (.ref 147) .none) ::
 (nat_lit 154,kc ((.str "spot_on_edge" 363) :: ((.str "spot_on_edge" 364) :: ((.str "/claim/cut.py" 365) :: ((.int 83 0) :: ((.int 2 0) :: ((.int 0 0) :: ((.int 0 0) :: ((.int 3 0) :: ((.ref 149) :: ((.bool true) :: ((.int 181 0) :: ((.ref 150) :: (.none :: ((.ref 151) :: ((.ref 152) :: ((.ref 153) :: ((.int 369 0) :: ((.int 83 0) :: ((.str "/claim/cut.py" 370) :: [])))))))))))))))))))) ::
 (nat_lit 155,kf "spot_on_edge" zB3 .none .none (.str "seamarks.water" 326) (.ref 154) .none) ::
 (nat_lit 161,kc ((.str "sought" 372) :: ((.str "sought" 373) :: ((.str "/claim/cut.py" 374) :: ((.int 88 0) :: ((.int 1 0) :: ((.int 0 0) :: ((.int 0 0) :: ((.int 3 0) :: ((.ref 156) :: ((.bool true) :: ((.int 181 0) :: ((.ref 157) :: (.none :: ((.ref 158) :: ((.ref 159) :: ((.ref 160) :: ((.int 378 0) :: ((.int 88 0) :: ((.str "/claim/cut.py" 379) :: [])))))))))))))))))))) ::
 (nat_lit 162,kf "sought" zFg .none .none (.str "seamarks.water" 326) (.ref 161) .none) ::
 (nat_lit 168,kc ((.str "some_spot" 381) :: ((.str "some_spot" 382) :: ((.str "/claim/cut.py" 383) :: ((.int 96 0) :: ((.int 1 0) :: ((.int 0 0) :: ((.int 0 0) :: ((.int 3 0) :: ((.ref 163) :: ((.bool true) :: ((.int 181 0) :: ((.ref 164) :: (.none :: ((.ref 165) :: ((.ref 166) :: ((.ref 167) :: ((.int 385 0) :: ((.int 96 0) :: ((.str "/claim/cut.py" 386) :: [])))))))))))))))))))) ::
 (nat_lit 169,kf "some_spot" zCx .none .none (.str "seamarks.water" 326) (.ref 168) .none) ::
 (nat_lit 175,kc ((.str "corners" 388) :: ((.str "corners" 389) :: ((.str "/claim/cut.py" 390) :: ((.int 98 0) :: ((.int 1 0) :: ((.int 0 0) :: ((.int 0 0) :: ((.int 3 0) :: ((.ref 170) :: ((.bool true) :: ((.int 181 0) :: ((.ref 171) :: (.none :: ((.ref 172) :: ((.ref 173) :: ((.ref 174) :: ((.int 395 0) :: ((.int 98 0) :: ((.str "/claim/cut.py" 396) :: [])))))))))))))))))))) ::
 (nat_lit 176,kf "corners" zD9 .none .none (.str "seamarks.water" 326) (.ref 175) .none) ::
 (nat_lit 182,kc ((.str "way_to" 398) :: ((.str "way_to" 399) :: ((.str "/claim/cut.py" 400) :: ((.int 105 0) :: ((.int 2 0) :: ((.int 0 0) :: ((.int 0 0) :: ((.int 3 0) :: ((.ref 177) :: ((.bool true) :: ((.int 181 0) :: ((.ref 178) :: (.none :: ((.ref 179) :: ((.ref 180) :: ((.ref 181) :: ((.int 403 0) :: ((.int 105 0) :: ((.str "/claim/cut.py" 404) :: [])))))))))))))))))))) ::
 (nat_lit 183,kf "way_to" zFk .none .none (.str "seamarks.water" 326) (.ref 182) .none) ::
 (nat_lit 189,kc ((.str "ring" 406) :: ((.str "ring" 407) :: ((.str "/claim/cut.py" 408) :: ((.int 107 0) :: ((.int 1 0) :: ((.int 0 0) :: ((.int 0 0) :: ((.int 3 0) :: ((.ref 184) :: ((.bool true) :: ((.int 181 0) :: ((.ref 185) :: (.none :: ((.ref 186) :: ((.ref 187) :: ((.ref 188) :: ((.int 412 0) :: ((.int 107 0) :: ((.str "/claim/cut.py" 413) :: [])))))))))))))))))))) ::
 (nat_lit 190,kf "ring" zGs .none .none (.str "seamarks.water" 326) (.ref 189) .none) ::
 (nat_lit 196,kc ((.str "is_way" 415) :: ((.str "is_way" 416) :: ((.str "/claim/cut.py" 417) :: ((.int 114 0) :: ((.int 2 0) :: ((.int 0 0) :: ((.int 0 0) :: ((.int 3 0) :: ((.ref 191) :: ((.bool true) :: ((.int 181 0) :: ((.ref 192) :: (.none :: ((.ref 193) :: ((.ref 194) :: ((.ref 195) :: ((.int 421 0) :: ((.int 114 0) :: ((.str "/claim/cut.py" 422) :: [])))))))))))))))))))) ::
 (nat_lit 197,kf "is_way" zFb .none .none (.str "seamarks.water" 326) (.ref 196) .none) ::
 (nat_lit 203,kc ((.str "ways" 424) :: ((.str "ways" 425) :: ((.str "/claim/cut.py" 426) :: ((.int 119 0) :: ((.int 1 0) :: ((.int 0 0) :: ((.int 0 0) :: ((.int 3 0) :: ((.ref 198) :: ((.bool true) :: ((.int 181 0) :: ((.ref 199) :: (.none :: ((.ref 200) :: ((.ref 201) :: ((.ref 202) :: ((.int 431 0) :: ((.int 119 0) :: ((.str "/claim/cut.py" 432) :: [])))))))))))))))))))) ::
 (nat_lit 204,kf "ways" zHo .none .none (.str "seamarks.water" 326) (.ref 203) .none) ::
 (nat_lit 210,kc ((.str "has_no_way" 434) :: ((.str "has_no_way" 435) :: ((.str "/claim/cut.py" 436) :: ((.int 126 0) :: ((.int 1 0) :: ((.int 0 0) :: ((.int 0 0) :: ((.int 3 0) :: ((.ref 205) :: ((.bool true) :: ((.int 181 0) :: ((.ref 206) :: (.none :: ((.ref 207) :: ((.ref 208) :: ((.ref 209) :: ((.int 438 0) :: ((.int 126 0) :: ((.str "/claim/cut.py" 439) :: [])))))))))))))))))))) ::
 (nat_lit 211,kf "has_no_way" zCo .none .none (.str "seamarks.water" 326) (.ref 210) .none) ::
 (nat_lit 217,kc ((.str "triangle" 441) :: ((.str "triangle" 442) :: ((.str "/claim/cut.py" 443) :: ((.int 128 0) :: ((.int 3 0) :: ((.int 0 0) :: ((.int 0 0) :: ((.int 3 0) :: ((.ref 212) :: ((.bool true) :: ((.int 181 0) :: ((.ref 213) :: (.none :: ((.ref 214) :: ((.ref 215) :: ((.ref 216) :: ((.int 448 0) :: ((.int 128 0) :: ((.str "/claim/cut.py" 449) :: [])))))))))))))))))))) ::
 (nat_lit 218,kf "triangle" zDn .none .none (.str "seamarks.water" 326) (.ref 217) .none) ::
 (nat_lit 224,kc ((.str "area" 451) :: ((.str "area" 452) :: ((.str "/claim/cut.py" 453) :: ((.int 131 0) :: ((.int 1 0) :: ((.int 0 0) :: ((.int 0 0) :: ((.int 3 0) :: ((.ref 219) :: ((.bool true) :: ((.int 181 0) :: ((.ref 220) :: (.none :: ((.ref 221) :: ((.ref 222) :: ((.ref 223) :: ((.int 458 0) :: ((.int 131 0) :: ((.str "/claim/cut.py" 459) :: [])))))))))))))))))))) ::
 (nat_lit 225,kf "area" zHv .none .none (.str "seamarks.water" 326) (.ref 224) .none) ::
 (nat_lit 229,kc ((.str "doubted" 463) :: ((.str "doubted" 464) :: ((.str "/claim/cut.py" 465) :: ((.int 142 0) :: ((.int 2 0) :: ((.int 0 0) :: ((.int 0 0) :: ((.int 3 0) :: ((.ref 226) :: ((.bool true) :: ((.int 181 0) :: ((.ref 227) :: (.none :: (.none :: (.none :: ((.ref 228) :: ((.int 466 0) :: ((.int 142 0) :: ((.str "/claim/cut.py" 467) :: [])))))))))))))))))))) ::
 (nat_lit 230,kf "doubted" zEm .none .none (.str "seamarks.trust" 461) (.ref 229) .none) ::
 (nat_lit 236,kc ((.str "places_to_try" 469) :: ((.str "places_to_try" 470) :: ((.str "/claim/cut.py" 471) :: ((.int 144 0) :: ((.int 1 0) :: ((.int 0 0) :: ((.int 0 0) :: ((.int 3 0) :: ((.ref 231) :: ((.bool true) :: ((.int 181 0) :: ((.ref 232) :: (.none :: ((.ref 233) :: ((.ref 234) :: ((.ref 235) :: ((.int 479 0) :: ((.int 144 0) :: ((.str "/claim/cut.py" 480) :: [])))))))))))))))))))) ::
 (nat_lit 237,kf "places_to_try" zBv .none .none (.str "seamarks.trust" 461) (.ref 236) .none) ::
 (nat_lit 241,kc ((.str "least_doubts" 482) :: ((.str "least_doubts" 483) :: ((.str "/claim/cut.py" 484) :: ((.int 156 0) :: ((.int 1 0) :: ((.int 0 0) :: ((.int 0 0) :: ((.int 3 0) :: ((.ref 238) :: ((.bool true) :: ((.int 181 0) :: ((.ref 239) :: (.none :: (.none :: (.none :: ((.ref 240) :: ((.int 485 0) :: ((.int 156 0) :: ((.str "/claim/cut.py" 486) :: [])))))))))))))))))))) ::
 (nat_lit 242,kf "least_doubts" zB4 .none .none (.str "seamarks.trust" 461) (.ref 241) .none) ::
 (nat_lit 246,kc ((.str "choices" 488) :: ((.str "choices" 489) :: ((.str "/claim/cut.py" 490) :: ((.int 166 0) :: ((.int 1 0) :: ((.int 0 0) :: ((.int 0 0) :: ((.int 3 0) :: ((.ref 243) :: ((.bool true) :: ((.int 181 0) :: ((.ref 244) :: (.none :: (.none :: (.none :: ((.ref 245) :: ((.int 491 0) :: ((.int 166 0) :: ((.str "/claim/cut.py" 492) :: [])))))))))))))))))))) ::
 (nat_lit 247,kf "choices" zD5 .none .none (.str "seamarks.trust" 461) (.ref 246) .none) ::
 (nat_lit 253,kc ((.str "_law_power" 496) :: ((.str "_law_power" 497) :: ((.str "/claim/cut.py" 498) :: ((.int 169 0) :: ((.int 1 0) :: ((.int 0 0) :: ((.int 0 0) :: ((.int 3 0) :: ((.ref 248) :: ((.bool true) :: ((.int 181 0) :: ((.ref 249) :: (.none :: ((.ref 250) :: ((.ref 251) :: ((.ref 252) :: ((.int 500 0) :: ((.int 169 0) :: ((.str "/claim/cut.py" 501) :: [])))))))))))))))))))) ::
 (nat_lit 254,kf "_law_power" zGb .none .none (.str "law_seamarks_k32_whole_pushed_and_widened" 494) (.ref 253) .none) ::
 (nat_lit 260,kc ((.str "_law_draws" 503) :: ((.str "_law_draws" 504) :: ((.str "/claim/cut.py" 505) :: ((.int 171 0) :: ((.int 2 0) :: ((.int 0 0) :: ((.int 0 0) :: ((.int 3 0) :: ((.ref 255) :: ((.bool true) :: ((.int 181 0) :: ((.ref 256) :: (.none :: ((.ref 257) :: ((.ref 258) :: ((.ref 259) :: ((.int 512 0) :: ((.int 171 0) :: ((.str "/claim/cut.py" 513) :: [])))))))))))))))))))) ::
 (nat_lit 261,kf "_law_draws" zGi .none .none (.str "law_seamarks_k32_whole_pushed_and_widened" 494) (.ref 260) .none) ::
 (nat_lit 265,kc ((.str "_law_tight" 515) :: ((.str "_law_tight" 516) :: ((.str "/claim/cut.py" 517) :: ((.int 187 0) :: ((.int 2 0) :: ((.int 0 0) :: ((.int 0 0) :: ((.int 3 0) :: ((.ref 262) :: ((.bool true) :: ((.int 181 0) :: ((.ref 263) :: (.none :: (.none :: (.none :: ((.ref 264) :: ((.int 518 0) :: ((.int 187 0) :: ((.str "/claim/cut.py" 519) :: [])))))))))))))))))))) ::
 (nat_lit 266,kf "_law_tight" zGc .none .none (.str "law_seamarks_k32_whole_pushed_and_widened" 494) (.ref 265) .none) ::
 (nat_lit 272,kc ((.str "_law_way" 521) :: ((.str "_law_way" 522) :: ((.str "/claim/cut.py" 523) :: ((.int 193 0) :: ((.int 3 0) :: ((.int 0 0) :: ((.int 0 0) :: ((.int 3 0) :: ((.ref 267) :: ((.bool true) :: ((.int 181 0) :: ((.ref 268) :: (.none :: ((.ref 269) :: ((.ref 270) :: ((.ref 271) :: ((.int 529 0) :: ((.int 193 0) :: ((.str "/claim/cut.py" 530) :: [])))))))))))))))))))) ::
 (nat_lit 273,kf "_law_way" zJ8 .none .none (.str "law_seamarks_k32_whole_pushed_and_widened" 494) (.ref 272) .none) ::
 (nat_lit 279,kc ((.str "_law_side" 532) :: ((.str "_law_side" 533) :: ((.str "/claim/cut.py" 534) :: ((.int 199 0) :: ((.int 1 0) :: ((.int 0 0) :: ((.int 0 0) :: ((.int 3 0) :: ((.ref 274) :: ((.bool true) :: ((.int 181 0) :: ((.ref 275) :: (.none :: ((.ref 276) :: ((.ref 277) :: ((.ref 278) :: ((.int 539 0) :: ((.int 199 0) :: ((.str "/claim/cut.py" 540) :: [])))))))))))))))))))) ::
 (nat_lit 280,kf "_law_side" zHs .none .none (.str "law_seamarks_k32_whole_pushed_and_widened" 494) (.ref 279) .none) ::
 (nat_lit 284,kc ((.str "_law_sides" 542) :: ((.str "_law_sides" 543) :: ((.str "/claim/cut.py" 544) :: ((.int 209 0) :: ((.int 2 0) :: ((.int 0 0) :: ((.int 0 0) :: ((.int 3 0) :: ((.ref 281) :: ((.bool true) :: ((.int 181 0) :: ((.ref 282) :: (.none :: (.none :: (.none :: ((.ref 283) :: ((.int 545 0) :: ((.int 209 0) :: ((.str "/claim/cut.py" 546) :: [])))))))))))))))))))) ::
 (nat_lit 285,kf "_law_sides" zF9 .none .none (.str "law_seamarks_k32_whole_pushed_and_widened" 494) (.ref 284) .none) ::
 (nat_lit 291,kc ((.str "_law_many" 548) :: ((.str "_law_many" 549) :: ((.str "/claim/cut.py" 550) :: ((.int 219 0) :: ((.int 4 0) :: ((.int 0 0) :: ((.int 0 0) :: ((.int 3 0) :: ((.ref 286) :: ((.bool true) :: ((.int 181 0) :: ((.ref 287) :: (.none :: ((.ref 288) :: ((.ref 289) :: ((.ref 290) :: ((.int 555 0) :: ((.int 219 0) :: ((.str "/claim/cut.py" 556) :: [])))))))))))))))))))) ::
 (nat_lit 292,kf "_law_many" zHt .none .none (.str "law_seamarks_k32_whole_pushed_and_widened" 494) (.ref 291) .none) ::
 (nat_lit 298,kc ((.str "_law_low" 558) :: ((.str "_law_low" 559) :: ((.str "/claim/cut.py" 560) :: ((.int 223 0) :: ((.int 2 0) :: ((.int 0 0) :: ((.int 0 0) :: ((.int 3 0) :: ((.ref 293) :: ((.bool true) :: ((.int 181 0) :: ((.ref 294) :: (.none :: ((.ref 295) :: ((.ref 296) :: ((.ref 297) :: ((.int 563 0) :: ((.int 223 0) :: ((.str "/claim/cut.py" 564) :: [])))))))))))))))))))) ::
 (nat_lit 299,kf "_law_low" zKm .none .none (.str "law_seamarks_k32_whole_pushed_and_widened" 494) (.ref 298) .none) ::
 (nat_lit 305,kc ((.str "_law_spot_of" 566) :: ((.str "_law_spot_of" 567) :: ((.str "/claim/cut.py" 568) :: ((.int 229 0) :: ((.int 3 0) :: ((.int 0 0) :: ((.int 0 0) :: ((.int 3 0) :: ((.ref 300) :: ((.bool true) :: ((.int 181 0) :: ((.ref 301) :: (.none :: ((.ref 302) :: ((.ref 303) :: ((.ref 304) :: ((.int 573 0) :: ((.int 229 0) :: ((.str "/claim/cut.py" 574) :: [])))))))))))))))))))) ::
 (nat_lit 306,kf "_law_spot_of" zD3 .none .none (.str "law_seamarks_k32_whole_pushed_and_widened" 494) (.ref 305) .none) ::
 (nat_lit 312,kc ((.str "_law_whole" 576) :: ((.str "_law_whole" 577) :: ((.str "/claim/cut.py" 578) :: ((.int 234 0) :: ((.int 1 0) :: ((.int 0 0) :: ((.int 0 0) :: ((.int 3 0) :: ((.ref 307) :: ((.bool true) :: ((.int 181 0) :: ((.ref 308) :: (.none :: ((.ref 309) :: ((.ref 310) :: ((.ref 311) :: ((.int 580 0) :: ((.int 234 0) :: ((.str "/claim/cut.py" 581) :: [])))))))))))))))))))) ::
 (nat_lit 313,kf "_law_whole" zGn .none .none (.str "law_seamarks_k32_whole_pushed_and_widened" 494) (.ref 312) .none) ::
 (nat_lit 317,kc ((.str "_law_numbers" 583) :: ((.str "_law_numbers" 584) :: ((.str "/claim/cut.py" 585) :: ((.int 236 0) :: ((.int 2 0) :: ((.int 0 0) :: ((.int 0 0) :: ((.int 3 0) :: ((.ref 314) :: ((.bool true) :: ((.int 181 0) :: ((.ref 315) :: (.none :: (.none :: (.none :: ((.ref 316) :: ((.int 586 0) :: ((.int 236 0) :: ((.str "/claim/cut.py" 587) :: [])))))))))))))))))))) ::
 (nat_lit 318,kf "_law_numbers" zEo .none .none (.str "law_seamarks_k32_whole_pushed_and_widened" 494) (.ref 317) .none) ::
 (nat_lit 324,kc ((.str "_law_is_part" 589) :: ((.str "_law_is_part" 590) :: ((.str "/claim/cut.py" 591) :: ((.int 238 0) :: ((.int 3 0) :: ((.int 0 0) :: ((.int 0 0) :: ((.int 3 0) :: ((.ref 319) :: ((.bool true) :: ((.int 181 0) :: ((.ref 320) :: (.none :: ((.ref 321) :: ((.ref 322) :: ((.ref 323) :: ((.int 595 0) :: ((.int 238 0) :: ((.str "/claim/cut.py" 596) :: [])))))))))))))))))))) ::
 (nat_lit 325,kf "_law_is_part" zEb .none .none (.str "law_seamarks_k32_whole_pushed_and_widened" 494) (.ref 324) .none) ::
 (nat_lit 329,kc ((.str "law" 598) :: ((.str "law" 599) :: ((.str "/claim/cut.py" 600) :: ((.int 242 0) :: ((.int 1 0) :: ((.int 0 0) :: ((.int 0 0) :: ((.int 3 0) :: ((.ref 326) :: ((.bool true) :: ((.int 181 0) :: ((.ref 327) :: (.none :: (.none :: (.none :: ((.ref 328) :: ((.int 601 0) :: ((.int 242 0) :: ((.str "/claim/cut.py" 602) :: [])))))))))))))))))))) ::
 (nat_lit 330,kf "law" zNf .none .none (.str "law_seamarks_k32_whole_pushed_and_widened" 494) (.ref 329) .none) :: []
noncomputable def kas:List Nat:=nat_lit 3 :: nat_lit 20 :: nat_lit 21 :: nat_lit 25 :: nat_lit 26 :: nat_lit 30 :: nat_lit 31 :: nat_lit 37 :: nat_lit 38 :: nat_lit 44 :: nat_lit 45 :: nat_lit 51 :: nat_lit 52 :: nat_lit 58 :: nat_lit 59 :: nat_lit 65 :: nat_lit 66 :: nat_lit 72 :: nat_lit 73 :: nat_lit 79 :: nat_lit 80 :: nat_lit 86 :: nat_lit 87 :: nat_lit 93 :: nat_lit 94 :: nat_lit 100 :: nat_lit 101 :: nat_lit 107 :: nat_lit 108 :: nat_lit 114 :: nat_lit 115 :: nat_lit 121 :: nat_lit 122 :: nat_lit 128 :: nat_lit 129 :: nat_lit 135 :: nat_lit 136 :: nat_lit 142 :: nat_lit 143 :: nat_lit 147 :: nat_lit 148 :: nat_lit 154 :: nat_lit 155 :: nat_lit 161 :: nat_lit 162 :: nat_lit 168 :: nat_lit 169 :: nat_lit 175 :: nat_lit 176 :: nat_lit 182 :: nat_lit 183 :: nat_lit 189 :: nat_lit 190 :: nat_lit 196 :: nat_lit 197 :: nat_lit 203 :: nat_lit 204 :: nat_lit 210 :: nat_lit 211 :: nat_lit 217 :: nat_lit 218 :: nat_lit 224 :: nat_lit 225 :: nat_lit 229 :: nat_lit 230 :: nat_lit 236 :: nat_lit 237 :: nat_lit 241 :: nat_lit 242 :: nat_lit 246 :: nat_lit 247 :: nat_lit 253 :: nat_lit 254 :: nat_lit 260 :: nat_lit 261 :: nat_lit 265 :: nat_lit 266 :: nat_lit 272 :: nat_lit 273 :: nat_lit 279 :: nat_lit 280 :: nat_lit 284 :: nat_lit 285 :: nat_lit 291 :: nat_lit 292 :: nat_lit 298 :: nat_lit 299 :: nat_lit 305 :: nat_lit 306 :: nat_lit 312 :: nat_lit 313 :: nat_lit 317 :: nat_lit 318 :: nat_lit 324 :: nat_lit 325 :: nat_lit 329 :: nat_lit 330 :: []
theorem kas_ok:∀ P:Params,kas = (KK P).map (·.1):=fun _=>by kernel_rfl
set_option maxHeartbeats 0 in
theorem said_ok:PySem.Challenge.rw_seamarks_k32_whole_pushed_and_widened.wellSaid = true:=by kernel_rfl
set_option maxHeartbeats 0 in
open PySem.W in
theorem left_ok:LeftO PySem.Challenge.rw_seamarks_k32_whole_pushed_and_widened.row.prog qv [] (fun s=>xlAt qv [] s && recOk (RowW.records (OpenRow.toRowW PySem.Challenge.rw_seamarks_k32_whole_pushed_and_widened.row)) s)
  (fun s=>kas.map s.heap.get?) (fun w=>(KK w.params).map fun p=>some p.2) 9000:=by
 unfold LeftO
 rw [Fast.te4187177175401517315,Fast.te5923862056798008813,Fast.te2368527892694137696,Fast.te14364793385576792824]
 intro w
 kernel_rfl
end Sea
-- BASE
namespace L2
open PySem PySem.Spec PyProof.Rows

abbrev Key:=Sum Int Str
def zOy:Key→Value→Bool
 | .inl k,v=>Value.isInt k v
 | .inr x,v=>Value.isStrOf x v
def keyH (w:World):Key→Int
 | .inl k=>hashInt k
 | .inr x=>hashStr w x
theorem zBl:∀ {k:Key} {v:Value},zOy k v = true→(∃ i t,k = Sum.inl i∧v = Value.int i t)∨(∃ x t,k = Sum.inr x∧v = Value.str x t)
 | .inl i,v,h=>by
  obtain ⟨t,e⟩:=Value.isInt_shape (k:=i) (v:=v) h
  exact .inl ⟨i,t,rfl,e⟩
 | .inr x,v,h=>by
  obtain ⟨t,e⟩:=Value.isStrOf_shape (x:=x) (v:=v) h
  exact .inr ⟨x,t,rfl,e⟩
theorem zRd (i:Int) (t:Tok):zOy (.inl i) (.int i t) = true:=by simp [zOy,Value.isInt]
theorem zQk (x:Str) (t:Tok):zOy (.inr x) (.str x t) = true:=by simp [zOy,Value.isStrOf]
theorem key_ll (a b:Int):decide ((Sum.inl a:Key) = Sum.inl b) = (a == b):=by
 by_cases e:a = b
 ·subst e; simp
 ·have h:¬ (Sum.inl a:Key) = Sum.inl b:=fun q=>e (Sum.inl.inj q)
  rw [decide_eq_false h]
  exact (beq_eq_false_iff_ne.mpr e).symm
theorem key_rr (a b:Str):decide ((Sum.inr a:Key) = Sum.inr b) = decide (a = b):=by
 by_cases e:a = b
 ·subst e; simp
 ·have h:¬ (Sum.inr a:Key) = Sum.inr b:=fun q=>e (Sum.inr.inj q)
  rw [decide_eq_false h,decide_eq_false e]
theorem key_lr (a:Int) (b:Str):decide ((Sum.inl a:Key) = Sum.inr b) = false:=decide_eq_false (fun q=>nomatch q)
theorem key_rl (a:Str) (b:Int):decide ((Sum.inr a:Key) = Sum.inl b) = false:=decide_eq_false (fun q=>nomatch q)

def zCi (prog:Program) (w:World):PySem.KeyKind prog w Key where
 is:=zOy
 hash:=keyH w
 inj:=fun v a b ha hb=>by
  rcases zBl ha with ⟨i,t,rfl,rfl⟩ | ⟨x,t,rfl,rfl⟩
  ·rcases zBl hb with ⟨j,u,rfl,e⟩ | ⟨y,u,rfl,e⟩
   ·injection e with e1 _; rw [e1]
   ·exact nomatch e
  ·rcases zBl hb with ⟨j,u,rfl,e⟩ | ⟨y,u,rfl,e⟩
   ·exact nomatch e
   ·injection e with e1 _; rw [e1]
 byValue:=fun k v h=>by
  rcases zBl h with ⟨i,t,rfl,rfl⟩ | ⟨x,t,rfl,rfl⟩ <;> rfl
 pyHash:=fun hv h=>by
  rcases zBl hv with ⟨i,t,rfl,rfl⟩ | ⟨x,t,rfl,rfl⟩
  ·exact wpAny_pyHash_int h
  ·exact wpAny_pyHash_str h
 eqBool:=fun hu hv h=>by
  rcases zBl hu with ⟨i,t,rfl,rfl⟩ | ⟨x,t,rfl,rfl⟩
  ·rcases zBl hv with ⟨j,u,rfl,rfl⟩ | ⟨y,u,rfl,rfl⟩
   ·rw [key_ll] at h; exact wpAny_eqBool_int h
   ·rw [key_lr] at h; exact SeqAt.EqAt.int_str i t y u _ _ _ _ h
  ·rcases zBl hv with ⟨j,u,rfl,rfl⟩ | ⟨y,u,rfl,rfl⟩
   ·rw [key_rl] at h; exact SeqAt.EqAt.str_int x t j u _ _ _ _ h
   ·rw [key_rr] at h; exact wpAny_eqBool_str h
 «strs»:=fun k x t v h=>by
  rcases zBl h with ⟨i,u,rfl,e⟩ | ⟨y,u,rfl,e⟩
  ·exact nomatch e
  ·injection e with e1 _
   subst e1
   cases v <;> rfl

theorem zMl (prog:Program) (w:World) (i:Int) (t:Tok):(zCi prog w).is (.inl i) (.int i t) = true:=zRd i t
theorem zNm (prog:Program) (w:World) (x:Str) (t:Tok):(zCi prog w).is (.inr x) (.str x t) = true:=zQk x t
end L2

namespace L2
open PySem PySem.Spec PyProof.Rows

inductive V where
 | non | bl (b:Bool) | int (i:Int) | str (x:Str) | byt (b:Array UInt8) | flt (b:UInt64) | ref (a:Addr) | ty (n:String)
 deriving DecidableEq

def RelV:V→Value→Prop
 | .non,u=>u = Value.none
 | .bl b,u=>u = Value.bool b
 | .int i,u=>∃ t,u = Value.int i t
 | .str x,u=>∃ t,u = Value.str x t
 | .byt b,u=>∃ t,u = Value.bytes b t
 | .flt b,u=>∃ t,u = Value.float b t
 | .ref a,u=>u = Value.ref a
 | .ty n,u=>u = Value.type n

abbrev Vals:List V→List Value→Prop:=Paired RelV
theorem Vals.length {xs:List V} {us:List Value} (r:Vals xs us):xs.length = us.length:=Paired.length r
theorem Vals.get:∀ {xs:List V} {us:List Value} {i:Nat} {x:V},Vals xs us→xs[i]? = some x→∃ u,us[i]? = some u∧RelV x u
 | _,_,_,_,.nil,e=>by simp at e
 | _,_,0,_,.cons r _,e=>by simp at e; subst e; exact ⟨_,rfl,r⟩
 | _,_,i + 1,x,.cons _ t,e=>by
  obtain ⟨u,h1,h2⟩:=Vals.get (i:=i) (x:=x) t (by simpa using e)
  exact ⟨u,by simpa using h1,h2⟩
theorem Vals.set {x:V} {u:Value} (r:RelV x u):∀ {xs:List V} {us:List Value} (i:Nat),Vals xs us→Vals (xs.set i x) (us.set i u)
 | _,_,_,.nil=>.nil
 | _,_,0,.cons _ t=>.cons r t
 | _,_,i + 1,.cons q t=>.cons q (Vals.set r i t)
theorem Vals.append:∀ {xs ys:List V} {us ws:List Value},Vals xs us→Vals ys ws→Vals (xs ++ ys) (us ++ ws)
 | _,_,_,_,.nil,s=>s
 | _,_,_,_,.cons r t,s=>.cons r (Vals.append t s)
theorem Vals.take:∀ {xs:List V} {us:List Value} (n:Nat),Vals xs us→Vals (xs.take n) (us.take n)
 | _,_,0,_=>.nil
 | _,_,_ + 1,.nil=>.nil
 | _,_,n + 1,.cons r t=>.cons r (Vals.take n t)
theorem Vals.drop:∀ {xs:List V} {us:List Value} (n:Nat),Vals xs us→Vals (xs.drop n) (us.drop n)
 | _,_,0,r=>r
 | _,_,_ + 1,.nil=>.nil
 | _,_,n + 1,.cons _ t=>Vals.drop n t
def RelO:Option V→Option Value→Prop
 | some v,some u=>RelV v u
 | none,none=>True
 | _,_=>False
def KV {κ:Type} : List (κ × V)→List (κ × Value)→Prop:=Paired fun (p:κ × V) (q:κ × Value)=>p.1 = q.1∧RelV p.2 q.2

def kV:Key→V
 | .inl i=>.int i
 | .inr x=>.str x

inductive HO where
 | lst (xs:List V)
 | tup (xs:List V)
 | dK (kvs:List (Key × V)) | dT (kvs:List (List Key × V))
 | set (S:Int→Bool) (n:Nat)
 | ins (C dx:Addr) (fs:List (Str × V))
 | own (x:Addr)
 | xd (fs:List (Str × V))
 | met (f x:Addr)
 | rng (lo hi:Int)
 | frz (o:Obj) (u:HO)
 | tbl (ps:Array Value)
 | ext (φ:Heap→Prop)

abbrev Hp:=Addr→Option HO
def upd (H:Hp) (a:Addr) (o:HO):Hp:=fun b=>if b = a then some o else H b
theorem zAb {H:Hp} {a:Addr} {o:HO} : upd H a o a = some o:=by unfold upd; rw [if_pos rfl]
theorem zAo {H:Hp} {a b:Addr} {o:HO} (h:b≠a):upd H a o b = H b:=by unfold upd; rw [if_neg h]
theorem zE8 {H:Hp} {a:Addr} {o u:HO} : upd (upd H a o) a u = upd H a u:=by
 funext b; unfold upd; split <;> rfl
theorem zDt {H:Hp} {a b:Addr} {o u:HO} (h:H a = some o) (h':H b = some u) (d:o≠u):a≠b:=by
 intro e; subst e; rw [h] at h'; exact d (Option.some.inj h')
theorem zAy {H:Hp} {a b:Addr} {o:HO} (h:H a = some o) (h':H b = none):a≠b:=by
 intro e; subst e; rw [h] at h'; cases h'

section
variable (P:Program) (w:World)
def zCc (H:Hp) (h:Heap) (a:Addr):HO→Prop
 | .lst xs=>xs.length≤sizeLine∧∃ (its:List Value) (n:Nat),Vals xs its∧h.get? a = some { cls:=.type "list", data:=.seq its.toArray n }
 | .tup xs=>xs.length≤sizeLine∧∃ its:List Value,Vals xs its∧IsTup h a its.toArray
 | .dK kvs=>kvs.length≤sizeLine∧(a == sysModules) = false∧∃ vs,KV kvs vs∧h.DictOf (zCi P w) a vs
 | .dT kvs=>kvs.length≤sizeLine∧(a == sysModules) = false∧∃ xs:List (List Key × Addr × Value),
   Paired (fun (p:List Key × V) (q:List Key × Addr × Value)=>p.1 = q.1∧H q.2.1 = some (.tup (p.1.map kV))∧RelV p.2 q.2.2) kvs xs ∧
   ∃ o es ep,h.get? a = some o∧o.ExactDict∧o.data = .dict es ep∧es.toList = xs.map (entryOfKey (tupleKind (zCi P w)))∧(xs.map (·.1)).Nodup
 | .set S n=>h.SetOf (intKind P w) a S n
 | .ins C dx fs=>H dx = some (.own a)∧fs.length≤1000∧dx≠a∧h.get? a = some (PySem.W.instObj C dx) ∧
   ∃ mA,h.Ns1 dx mA∧(∀ f,RelO (fs.lookup f) (mA f))∧PySem.Within mA (fs.map (·.1))
 | .own _=>∃ o,h.get? a = some o
 | .xd fs=>∃ mA,h.Ns1 a mA∧∀ f,RelO (fs.lookup f) (mA f)
 | .rng lo hi=>∃ t u v,h.get? a = some { cls:=.type "range", data:=.fields #[.int lo t,.int hi u,.int 1 v] }
 | .frz o u=>h.get? a = some o∧zCc H h a u
 | .tbl ps=>h.get? a = some { cls:=.none,data:=.fields ps }
 | .met f x=>h.get? a = some (PySem.W.methodObj (.ref f) (.ref x))
 | .ext φ=>φ h∧(∃ o,h.get? a = some o)∧∀ h1 h2:Heap,φ h1→(∀ o,h1.get? a = some o→h2.get? a = some o)→φ h2
def HOk (H:Hp) (h:Heap):Prop:=∀ a o,H a = some o→zCc P w H h a o
end

section
variable {P:Program} {w:World} {H H':Hp} {h h':Heap} {a:Addr} {o:HO}
theorem zCc.lt (x:zCc P w H h a o):a < h.objs.size:=by
 cases o with
 | lst xs=>obtain ⟨_,_,_,_,e⟩:=x; exact Heap.lt_size e
 | tup xs=>obtain ⟨_,_,_,p⟩:=x; exact p.lt
 | dK kvs=>obtain ⟨_,_,_,_,o,_,_,e,_⟩:=x; exact Heap.lt_size e
 | dT kvs=>obtain ⟨_,_,_,_,o,_,_,e,_⟩:=x; exact Heap.lt_size e
 | set S n=>obtain ⟨o,_,_,_,e,_⟩:=x; exact Heap.lt_size e
 | ins C dx fs=>obtain ⟨_,_,_,e,_⟩:=x; exact Heap.lt_size e
 | own y=>obtain ⟨_,e⟩:=x; exact Heap.lt_size e
 | xd fs=>obtain ⟨_,⟨_,_,_,e,_⟩,_⟩:=x; exact Heap.lt_size e
 | rng lo hi=>obtain ⟨_,_,_,e⟩:=x; exact Heap.lt_size e
 | frz ob u=>obtain ⟨e,_⟩:=x; exact Heap.lt_size e
 | tbl ps=>exact Heap.lt_size (show h.get? a = some _ from x)
 | met f y=>exact Heap.lt_size (show h.get? a = some _ from x)
 | ext φ=>obtain ⟨_,⟨_,e⟩,_⟩:=x; exact Heap.lt_size e
theorem Paired.mapP {α β:Type} {F G:α→β→Prop} : ∀ {l₁:List α} {l₂:List β},Paired F l₁ l₂→(∀ a b,F a b→G a b)→Paired G l₁ l₂
 | _,_,.nil,_=>.nil
 | _,_,.cons r t,f=>.cons (f _ _ r) (Paired.mapP t f)
theorem zCc.stay (x:zCc P w H h a o) (k:∀ b u,(b = a∨H b = some (.own a))→h.get? b = some u→h'.get? b = some u)
  (ho:∀ b,H b = some (.own a)→H' b = some (.own a)) (ht:∀ b xs,H b = some (.tup xs)→H' b = some (.tup xs)):zCc P w H' h' a o:=by
 induction o with
 | lst xs=>obtain ⟨z,its,n,r,e⟩:=x; exact ⟨z,its,n,r,k _ _ (.inl rfl) e⟩
 | tup xs=>obtain ⟨z,its,r,ob,e,c⟩:=x; exact ⟨z,its,r,ob,k _ _ (.inl rfl) e,c⟩
 | dK kvs=>obtain ⟨z,y,vs,r,ob,es,ep,e,c⟩:=x; exact ⟨z,y,vs,r,ob,es,ep,k _ _ (.inl rfl) e,c⟩
 | dT kvs =>
  obtain ⟨z,y,xs,r,ob,es,ep,e,c⟩:=x
  exact ⟨z,y,xs,Paired.mapP r fun p q z=>⟨z.1,ht _ _ z.2.1,z.2.2⟩,ob,es,ep,k _ _ (.inl rfl) e,c⟩
 | set S n=>obtain ⟨ob,es,ep,t,e,c⟩:=x; exact ⟨ob,es,ep,t,k _ _ (.inl rfl) e,c⟩
 | ins C dx fs =>
  obtain ⟨d,z,ne,e,mA,⟨od,es,ep,e2,c⟩,r⟩:=x
  exact ⟨ho _ d,z,ne,k _ _ (.inl rfl) e,mA,⟨od,es,ep,k _ _ (.inr d) e2,c⟩,r⟩
 | own y=>obtain ⟨ob,e⟩:=x; exact ⟨ob,k _ _ (.inl rfl) e⟩
 | xd fs=>obtain ⟨mA,⟨od,es,ep,e,c⟩,r⟩:=x; exact ⟨mA,⟨od,es,ep,k _ _ (.inl rfl) e,c⟩,r⟩
 | rng lo hi=>obtain ⟨t,u,v,e⟩:=x; exact ⟨t,u,v,k _ _ (.inl rfl) e⟩
 | frz ob u ih=>obtain ⟨e,q⟩:=x; exact ⟨k _ _ (.inl rfl) e,ih q⟩
 | tbl ps =>
  have e:h.get? a = some { cls:=.none,data:=.fields ps }:=x
  show h'.get? a = some { cls:=.none,data:=.fields ps }
  exact k a _ (.inl rfl) e
 | met f y =>
  have e:h.get? a = some (PySem.W.methodObj (.ref f) (.ref y)):=x
  show h'.get? a = some (PySem.W.methodObj (.ref f) (.ref y))
  exact k a _ (.inl rfl) e
 | ext φ=>obtain ⟨p,⟨o,e⟩,st⟩:=x; exact ⟨st _ _ p fun o q=>k _ _ (.inl rfl) q,⟨o,k _ _ (.inl rfl) e⟩,st⟩
theorem HOk.lt (x:HOk P w H h) (e:H a = some o):a < h.objs.size:=(x a o e).lt
theorem HOk.fresh (x:HOk P w H h) (e:h.objs.size≤a):H a = none:=by
 cases q:H a with
 | none=>rfl
 | some u=>exact absurd (Nat.lt_of_lt_of_le (x.lt q) e) (Nat.lt_irrefl _)
theorem HOk.kept (x:HOk P w H h) (k:∀ b u,h.get? b = some u→h'.get? b = some u):HOk P w H h':=fun a o e =>
 (x a o e).stay (fun b u _ q=>k b u q) (fun _ q=>q) fun _ _ q=>q
theorem HOk.laid (x:HOk P w H h) (k:∀ b u,h.get? b = some u→h'.get? b = some u) (hp:h.objs.size≤a) (new:zCc P w (upd H a o) h' a o):HOk P w (upd H a o) h':=fun b u e=>by
 have hn:=x.fresh hp
 by_cases hb:b = a
 ·subst hb; rw [zAb] at e; cases e; exact new
 ·rw [zAo hb] at e
  exact (x b u e).stay (fun c v _ q=>k c v q) (fun c q=>by rw [zAo (zAy q hn)]; exact q) fun c xs q=>by rw [zAo (zAy q hn)]; exact q
end

def Rd (H:Hp) (a:Addr) (u:HO):Prop:=H a = some u∨∃ o,H a = some (.frz o u)
theorem Rd.ok {P:Program} {w:World} {H:Hp} {h:Heap} {a:Addr} {u:HO} (r:Rd H a u) (x:HOk P w H h):zCc P w H h a u:=by
 rcases r with r | ⟨o,r⟩
 ·exact x a u r
 ·obtain ⟨_,q⟩:=x a _ r
  exact q
def Mut:Option HO→Prop
 | some (.lst _)=>True
 | some (.dK _)=>True
 | some (.dT _)=>True
 | some (.set _ _)=>True
 | some (.ins _ _ _)=>True
 | some (.ext _)=>True
 | _=>False
section
variable {P:Program} {w:World} {H:Hp} {h h':Heap} {x e:Addr} {o':HO}
theorem HOk.write (ok:HOk P w H h) (mu:Mut (H x)) (he:e = x∨H e = some (.own x)) (k:∀ b u,b≠e→h.get? b = some u→h'.get? b = some u) (heo:∃ u,h'.get? e = some u)
  (new:zCc P w (upd H x o') h' x o'):HOk P w (upd H x o') h':=fun b u q=>by
 have nown:∀ c y,H c = some (.own y)→c≠x:=fun c y r z=>by subst z; rw [r] at mu; exact mu
 have ntup:∀ c xs,H c = some (.tup xs)→c≠x:=fun c xs r z=>by subst z; rw [r] at mu; exact mu
 by_cases hb:b = x
 ·subst hb; rw [zAb] at q; cases q; exact new
 ·rw [zAo hb] at q
  by_cases hbe:b = e
  ·have q':H b = some (.own x):=by
    rcases he with z | z
    ·exact absurd (hbe.trans z) hb
    ·rw [hbe]; exact z
   rw [q] at q'; cases q'
   obtain ⟨v,hv⟩:=heo
   exact ⟨v,by rw [hbe]; exact hv⟩
  ·refine (ok b u q).stay (fun c v hc r=>k c v ?_ r) (fun c r=>by rw [zAo (nown c b r)]; exact r) fun c xs r=>by rw [zAo (ntup c xs r)]; exact r
   rcases hc with rfl | hc
   ·exact hbe
   ·rintro rfl
    rcases he with z | z
    ·exact nown c b hc z
    ·rw [hc] at z; cases z; exact hb rfl
end

structure Un (fs ex:List Addr) (H H':Hp) (h h':Heap):Prop where
 keep:∀ b o,h.get? b = some o→H b = none→b ∉ fs→b ∉ ex→h'.get? b = some o
 slot:∀ b o,h.get? b = some o→H b = none→b∈fs→b ∉ ex→∃ sl,h'.get? b = some { o with slots:=sl }
 free:∀ b o,h.get? b = some o→H b = none→b ∉ ex→H' b = none
 there:∀ b o,h.get? b = some o→b ∉ ex→∃ o',h'.get? b = some o'
 tups:∀ b xs,H b = some (.tup xs)→H' b = some (.tup xs)
 frzs:∀ b o u,H b = some (.frz o u)→H' b = some (.frz o u)
 tbls:∀ b ps,H b = some (.tbl ps)→∃ more,H' b = some (.tbl (ps ++ more))
section
variable {fs fs' ex ex':List Addr} {H H1 H2:Hp} {h h1 h2 h':Heap} {a x e:Addr} {o:HO}
theorem Un.any (u:Un fs ex H H1 h h1) {b:Addr} {ob:Obj} (q:h.get? b = some ob) (n:H b = none) (hx:b ∉ ex):∃ sl,h1.get? b = some { ob with slots:=sl }:=by
 by_cases hb:b∈fs
 ·exact u.slot b ob q n hb hx
 ·exact ⟨ob.slots,u.keep b ob q n hb hx⟩
theorem Un.kept (k:∀ b u,h.get? b = some u→h'.get? b = some u):Un fs ex H H h h' :=
 ⟨fun b ob q _ _ _=>k b ob q,fun b ob q _ _ _=>⟨ob.slots,k b ob q⟩,fun _ _ _ n _=>n,fun b ob q _=>⟨ob,k b ob q⟩,fun _ _ q=>q,fun _ _ _ q=>q,fun _ ps q=>⟨#[],by rw [q]; simp⟩⟩
theorem Un.refl:Un fs ex H H h h:=Un.kept fun _ _ q=>q
theorem Un.laid (k:∀ b u,h.get? b = some u→h'.get? b = some u) (hp:h.objs.size≤a) (hn:H a = none):Un fs ex H (upd H a o) h h' where
 keep:=fun b u q _ _ _=>k b u q
 slot:=fun b u q _ _ _=>⟨u.slots,k b u q⟩
 free:=fun b u q n _=>by rw [zAo (Nat.ne_of_lt (Nat.lt_of_lt_of_le (Heap.lt_size q) hp))]; exact n
 there:=fun b u q _=>⟨u,k b u q⟩
 tups:=fun b xs q=>by rw [zAo (zAy q hn)]; exact q
 frzs:=fun b u xs q=>by rw [zAo (zAy q hn)]; exact q
 tbls:=fun b ps q=>⟨#[],by rw [zAo (zAy q hn),q]; simp⟩
theorem Un.write (mu:Mut (H x)) (he:e = x∨H e = some (.own x)) (k:∀ b u,b≠e→h.get? b = some u→h'.get? b = some u) (heo:∃ u,h'.get? e = some u):Un fs ex H (upd H x o) h h':=by
 have hx:∀ b,H b = none→b≠x:=fun b n z=>by subst z; rw [n] at mu; exact mu
 have hb:∀ b,H b = none→b≠e:=fun b n z=>by
  subst z
  rcases he with r | r
  ·exact hx b n r
  ·rw [n] at r; cases r
 have hm:∀ b u,H b = some u→¬ Mut (some u)→b≠x:=fun b u q nm z=>by subst z; rw [q] at mu; exact nm mu
 refine ⟨fun b u q n _ _=>k b u (hb b n) q,fun b u q n _ _=>⟨u.slots,k b u (hb b n) q⟩,fun b u q n _=>by rw [zAo (hx b n)]; exact n,fun b u q _=>?_,
  fun b xs q=>by rw [zAo (hm b _ q fun z=>z)]; exact q,fun b u xs q=>by rw [zAo (hm b _ q fun z=>z)]; exact q,fun b ps q=>⟨#[],by rw [zAo (hm b _ q fun z=>z),q]; simp⟩⟩
 by_cases hbe:b = e
 ·subst hbe; exact heo
 ·exact ⟨u,k b u hbe q⟩
end

def trk (h:Heap) (H:Hp):List Addr:=(List.range h.objs.size).filter fun a=>(H a).isSome
def hidT (h:Heap) (H:Hp):Heap:=PySem.W.hideAll h (trk h H)
theorem zRp (h:Heap) (H:Hp):(hidT h H).objs.size = h.objs.size:=PySem.W.hideAll_size _ _
theorem zR8 {h:Heap} {H:Hp} {b:Addr} {o:Obj} (e:h.get? b = some o) (n:H b = none):(hidT h H).get? b = some o :=
 PySem.W.hideAll_get _ e fun hm=>by
  have q:(H b).isSome = true:=(List.mem_filter.mp hm).2
  rw [n] at q; simp at q
theorem zUu {h:Heap} {H:Hp} {b:Addr} {o:Obj} (e:(hidT h H).get? b = some o):h.get? b = some o∧H b = none:=by
 have e':h.get? b = some o:=PySem.W.of_hideAll (trk h H) e
 refine ⟨e',?_⟩
 cases q:H b with
 | none=>rfl
 | some x =>
  have hm:b∈trk h H:=List.mem_filter.mpr ⟨List.mem_range.mpr (Heap.lt_size e'),by simp [q]⟩
  have z:(hidT h H).get? b = none:=PySem.W.hideAll_none (trk h H) hm
  rw [z] at e; cases e

end L2

namespace L2
open PySem PySem.Spec PyProof.Rows

structure Mod (K:PySem.W.Frag) (mg:Str→Option Value) (base:Heap):Prop where
 kin:K.In base
 glob:base.Ns mainGlobals mg
 blt:∃ mb,base.Ns builtinsNs mb∧∀ x:Str,x ≠ "__name__" → mb x = bootBuiltins x
 nolimit:base.NoLimit

structure Cx where
 prog:Program
 w:World
 K:PySem.W.Frag
 mg:Str→Option Value
 base:Heap
 A:Around
 N:List Str
 s₀:Shared
 H₀:Hp
 env:Env
 outer:List Env
 stack:List Env
 ex:List Addr
 fn:Str→Bool
 calm:Bool
 pn:List (Addr × Obj)
 xe:Value→Shared→Prop
def frs (l:List Env):List Addr:=l.filterMap (·.frame)
abbrev Cx.fs (X:Cx):List Addr:=frs X.outer

def Vis (sc:Scope) (x:Str):Prop:=sc.names.lookup x = some .local∨sc.names.lookup x = some .cell∨sc.names.lookup x = some .free
def Loc (sc:Scope) (x:Str):Prop:=sc.names.lookup x = some .local∨sc.names.lookup x = some .cell
def Look (env:Env) (h:Heap) (m:Str→Option Value) (x:Str) (u:Value):Prop :=
 (env.kindOf x = some .local∧m x = some u)∨((env.kindOf x = some .cell∨env.kindOf x = some .free)∧∃ c,env.cells.lookup x = some c∧h.IsCell c (some u))

structure Cx.Ok (X:Cx):Prop where
 mod:Mod X.K X.mg X.base
 kind:X.env.scope.kind = .function
 glob:X.env.globals = mainGlobals
 blt:X.env.builtins = builtinsNs
 above:X.s₀.heap.objs.size≤X.env.locals
 inj:∀ x y c,X.env.cells.lookup x = some c→X.env.cells.lookup y = some c→x = y
 has:∀ x,(X.env.kindOf x = some .cell∨X.env.kindOf x = some .free)→∃ c,X.env.cells.lookup x = some c
 cab:∀ x c,X.fn x = true→X.env.cells.lookup x = some c→X.s₀.heap.objs.size≤c
 hd:X.calm = true→X.A.handled = none
 frames:X.A.frames = some X.stack
 stk:X.stack = X.outer∨(X.stack = X.env :: X.outer∧X.env.frame = some X.env.locals)
 exf:∀ b∈X.ex,b≠X.env.locals∧∀ x c,X.env.cells.lookup x = some c→c≠b
 bs:∀ b o,X.base.get? b = some o→X.s₀.heap.get? b = some o∧X.H₀ b = none
 bsz:X.base.objs.size≤X.s₀.heap.objs.size
 noex:∀ b o,X.base.get? b = some o→b ∉ X.ex
 exfs:∀ b∈X.ex,b ∉ X.fs
 funs:X.s₀.heap.FunFrames X.base X.outer
 frf:∀ b∈X.fs,X.H₀ b = none

structure Inv (X:Cx) (pins:List (Addr × Obj)) (σ:List (Option V)) (H:Hp) (s:Shared):Prop where
 ok:X.Ok
 os:s.os = X.s₀.os
 bare:AllBare s.gens
 base:Un X.fs X.ex X.H₀ H X.s₀.heap s.heap
 loc:∃ m,s.heap.Ns X.env.locals m∧∀ (i:Nat) (x:Str) (v:V),X.N[i]? = some x→σ[i]? = some (some v)→Vis X.env.scope x→∃ u,RelV v u∧Look X.env s.heap m x u
 cell:∀ x c,X.env.cells.lookup x = some c→∃ v,s.heap.IsCell c v
 free:H X.env.locals = none
 freeC:∀ x c,X.env.cells.lookup x = some c→H c = none
 pin:∀ p∈X.pn ++ pins,s.heap.get? p.1 = some p.2∧H p.1 = none∧p.1≠X.env.locals∧p.1 ∉ X.fs∧∀ v,p.2.data≠.cell v
 hok:HOk X.prog X.w H s.heap
 len:σ.length = X.N.length

section
variable {X:Cx} {pins:List (Addr × Obj)} {σ:List (Option V)} {H H':Hp} {s:Shared} {h':Heap}

theorem Cx.Ok.nofr (ok:X.Ok) {b:Addr} {o:Obj} (e:X.base.get? b = some o):b ∉ X.fs:=fun hb=>by
 have:=(ok.funs.mem hb).1
 rw [e] at this; cases this
theorem Inv.bs (I:Inv X pins σ H s):∀ b o,X.base.get? b = some o→s.heap.get? b = some o∧H b = none:=fun b o e =>
 ⟨I.base.keep b o (I.ok.bs b o e).1 (I.ok.bs b o e).2 (I.ok.nofr e) (I.ok.noex b o e),I.base.free b o (I.ok.bs b o e).1 (I.ok.bs b o e).2 (I.ok.noex b o e)⟩
theorem Inv.bk (I:Inv X pins σ H s):∀ b o,X.base.get? b = some o→s.heap.get? b = some o:=fun b o e=>(I.bs b o e).1
theorem Inv.mod (I:Inv X pins σ H s):Mod X.K X.mg X.base:=I.ok.mod
theorem Inv.kIn (I:Inv X pins σ H s):X.K.In s.heap:=I.ok.mod.kin.keeps I.bk
theorem Inv.nolimit (I:Inv X pins σ H s):s.heap.NoLimit:=I.ok.mod.nolimit.keeps I.bk
theorem Inv.lt (I:Inv X pins σ H s):X.env.locals < s.heap.objs.size:=let ⟨_,hn,_⟩:=I.loc; hn.lt
theorem Inv.sz (I:Inv X pins σ H s):X.s₀.heap.objs.size≤s.heap.objs.size:=Nat.le_trans I.ok.above (Nat.le_of_lt I.lt)
theorem Inv.nofs (I:Inv X pins σ H s) {a:Addr} (h:s.heap.objs.size≤a):a ∉ X.fs:=fun hb=>by
 obtain ⟨_,o,ho,_⟩:=I.ok.funs.mem hb
 exact absurd (Nat.lt_of_lt_of_le (Heap.lt_size ho) (Nat.le_trans I.sz h)) (Nat.lt_irrefl _)
theorem Inv.cne (I:Inv X pins σ H s):∀ x c,X.env.cells.lookup x = some c→c≠X.env.locals:=fun x c e z=>by
 obtain ⟨v,o,ho,hd⟩:=I.cell x c e
 obtain ⟨m,⟨o',es,ep,ho',hd',_⟩,_⟩:=I.loc
 rw [z,ho'] at ho; cases ho; rw [hd'] at hd; cases hd
theorem Inv.funs (I:Inv X pins σ H s):s.heap.FunFrames X.base X.outer:=by
 have all:∀ (l:List Env),(∀ b∈frs l,b∈X.fs)→X.s₀.heap.FunFrames X.base l→s.heap.FunFrames X.base l:=by
  intro l
  induction l with
  | nil=>intro _ _; trivial
  | cons env r ih =>
   intro hs hl
   obtain ⟨hk,⟨L,o,hf,hn,ho,hd⟩,hr⟩:=hl
   have hL:L∈X.fs:=hs L (by unfold frs; rw [List.filterMap_cons,hf]; exact List.mem_cons_self)
   obtain ⟨sl,e⟩:=I.base.slot L o ho (I.ok.frf L hL) hL fun z=>I.ok.exfs L z hL
   exact ⟨hk,⟨L,_,hf,hn,e,hd⟩,ih (fun b hb=>hs b (by unfold frs; rw [List.filterMap_cons,hf]; exact List.mem_cons_of_mem _ hb)) hr⟩
 exact all X.outer (fun _ hb=>hb) I.ok.funs

theorem Inv.stack (I:Inv X pins σ H s):s.heap.FunFrames X.base X.stack:=by
 rcases I.ok.stk with e | ⟨e,hf⟩
 ·rw [e]; exact I.funs
 ·rw [e]
  obtain ⟨m,hn,_⟩:=I.loc
  refine .cons (by rw [I.ok.kind]; decide) hf hn ?_ I.funs
  exact Heap.get?_none_of_le (Nat.le_trans I.ok.bsz I.ok.above)
theorem Inv.stkSub (I:Inv X pins σ H s):∀ b∈frs X.stack,b∈X.env.locals :: X.fs:=fun b hb=>by
 rcases I.ok.stk with e | ⟨e,hf⟩
 ·rw [e] at hb; exact List.mem_cons_of_mem _ hb
 ·rw [e] at hb
  unfold frs at hb
  rw [List.filterMap_cons,hf] at hb
  exact hb
theorem Inv.stkFree (I:Inv X pins σ H s):∀ b∈frs X.stack,H b = none:=fun b hb=>by
 rcases List.mem_cons.mp (I.stkSub b hb) with e | hb
 ·rw [e]; exact I.free
 ·obtain ⟨_,o,ho,_⟩:=I.ok.funs.mem hb
  exact I.base.free b o ho (I.ok.frf b hb) fun z=>I.ok.exfs b z hb

theorem Inv.step {g':Array GenState} {t':Nat} {d':Drawn} {ch:List Addr} (I:Inv X pins σ H s)
  (hch:∀ b∈ch,(b∈X.ex∨X.s₀.heap.objs.size≤b)∧b≠X.env.locals∧(∀ x c,X.env.cells.lookup x = some c→c≠b)∧∀ p∈X.pn ++ pins,p.1≠b)
  (keep:∀ b o,b≠X.env.locals→b ∉ X.fs→b ∉ ch→s.heap.get? b = some o→H b = none→h'.get? b = some o)
  (slot:∀ b o,b≠X.env.locals→b∈X.fs→b ∉ ch→s.heap.get? b = some o→H b = none→∃ sl,h'.get? b = some { o with slots:=sl }) (free:∀ b o,b ∉ ch→s.heap.get? b = some o→H b = none→H' b = none)
  (there:∀ b o,b ∉ ch→s.heap.get? b = some o→∃ o',h'.get? b = some o')
  (tups:∀ b xs,H b = some (.tup xs)→H' b = some (.tup xs)) (frzs:∀ b o u,H b = some (.frz o u)→H' b = some (.frz o u)) (tbls:∀ b ps,H b = some (.tbl ps)→∃ more,H' b = some (.tbl (ps ++ more)))
  (ns:∀ m,s.heap.Ns X.env.locals m→h'.Ns X.env.locals m) (hok:HOk X.prog X.w H' h') (hg:AllBare g') :
  Inv X pins σ H' { s with heap:=h',gens:=g',drawn:=d',toks:=t' }:=by
 have neL:∀ b o,X.s₀.heap.get? b = some o→b≠X.env.locals:=fun b o e=>Nat.ne_of_lt (Nat.lt_of_lt_of_le (Heap.lt_size e) I.ok.above)
 have neC:∀ b o,X.s₀.heap.get? b = some o→b ∉ X.ex→b ∉ ch:=fun b o e hx hb=>by
  rcases (hch b hb).1 with z | z
  ·exact hx z
  ·exact absurd (Nat.lt_of_lt_of_le (Heap.lt_size e) z) (Nat.lt_irrefl _)
 have cellK:∀ x c,X.env.cells.lookup x = some c→∀ v,s.heap.IsCell c v→h'.IsCell c v:=fun x c e v ⟨o,ho,hd⟩=>by
  have nch:c ∉ ch:=fun z=>(hch c z).2.2.1 x c e rfl
  by_cases hc:c∈X.fs
  ·obtain ⟨sl,q⟩:=slot c o (I.cne x c e) hc nch ho (I.freeC x c e)
   exact ⟨_,q,hd⟩
  ·exact ⟨o,keep c o (I.cne x c e) hc nch ho (I.freeC x c e),hd⟩
 refine ⟨I.ok,I.os,hg,⟨fun b o e n hb hx=>?_,fun b o e n hb hx=>?_,fun b o e n hx=>?_,fun b o e hx=>?_,fun b xs e=>tups b xs (I.base.tups b xs e),fun b o xs e=>frzs b o xs (I.base.frzs b o xs e),fun b ps e=>?_⟩,?_,fun x c e=>?_,?_,fun x c e=>?_,fun p hp=>?_,hok,I.len⟩
 ·exact keep b o (neL b o e) hb (neC b o e hx) (I.base.keep b o e n hb hx) (I.base.free b o e n hx)
 ·obtain ⟨sl,e1⟩:=I.base.slot b o e n hb hx
  obtain ⟨sl',e2⟩:=slot b _ (neL b o e) hb (neC b o e hx) e1 (I.base.free b o e n hx)
  exact ⟨sl',e2⟩
 ·obtain ⟨o',e1⟩:=I.base.there b o e hx
  exact free b o' (neC b o e hx) e1 (I.base.free b o e n hx)
 ·obtain ⟨o',e1⟩:=I.base.there b o e hx
  exact there b o' (neC b o e hx) e1
 ·obtain ⟨m1,e1⟩:=I.base.tbls b ps e
  obtain ⟨m2,e2⟩:=tbls b _ e1
  exact ⟨m1 ++ m2,by rw [e2,Array.append_assoc]⟩
 ·obtain ⟨m,hn,hl⟩:=I.loc
  refine ⟨m,ns m hn,fun i x v e1 e2 e3=>?_⟩
  obtain ⟨u,r,l⟩:=hl i x v e1 e2 e3
  refine ⟨u,r,?_⟩
  rcases l with l | ⟨k,c,e,z⟩
  ·exact .inl l
  ·exact .inr ⟨k,c,e,cellK x c e _ z⟩
 ·obtain ⟨v,z⟩:=I.cell x c e
  exact ⟨v,cellK x c e v z⟩
 ·obtain ⟨m,⟨o,_,_,ho,_⟩,_⟩:=I.loc
  exact free _ o (fun z=>(hch _ z).2.1 rfl) ho I.free
 ·obtain ⟨v,o,ho,hd⟩:=I.cell x c e
  exact free c o (fun z=>(hch c z).2.2.1 x c e rfl) ho (I.freeC x c e)
 ·obtain ⟨e,n,ne,nf,d⟩:=I.pin p hp
  have nch:p.1 ∉ ch:=fun z=>(hch p.1 z).2.2.2 p hp rfl
  exact ⟨keep p.1 p.2 ne nf nch e n,free p.1 p.2 nch e n,ne,nf,d⟩
theorem Inv.un {t':Nat} (I:Inv X pins σ H s) (u:Un X.fs [] H H' s.heap h') (hok:HOk X.prog X.w H' h'):Inv X pins σ H' { s with heap:=h',toks:=t' }:=by
 obtain ⟨m,⟨o,es,ep,ho,r⟩,_⟩:=id I.loc
 obtain ⟨sl,hL⟩:=u.any ho I.free (by simp)
 exact I.step (g':=s.gens) (d':=s.drawn) (ch:=[]) (fun _ z=>nomatch z) (fun b o _ hb _ e n=>u.keep b o e n hb (by simp)) (fun b o _ hb _ e n=>u.slot b o e n hb (by simp)) (fun b o _ e n=>u.free b o e n (by simp)) (fun b o _ e=>u.there b o e (by simp)) u.tups u.frzs u.tbls (fun m' hm=>by
  obtain ⟨o',es',ep',ho',r'⟩:=hm
  rw [ho] at ho'; cases ho'
  exact ⟨_,es',ep',hL,r'⟩) hok I.bare
theorem Inv.call {g':Array GenState} {t':Nat} {d':Drawn} {ch:List Addr} (I:Inv X pins σ H s) (u:Un (frs X.stack) ch H H' s.heap h') (hok:HOk X.prog X.w H' h') (hg:AllBare g')
  (hch:∀ b∈ch,(b∈X.ex∨X.s₀.heap.objs.size≤b)∧b≠X.env.locals∧(∀ x c,X.env.cells.lookup x = some c→c≠b)∧∀ p∈X.pn ++ pins,p.1≠b) :
  Inv X pins σ H' { s with heap:=h',gens:=g',drawn:=d',toks:=t' }:=by
 obtain ⟨m,⟨o,es,ep,ho,r⟩,_⟩:=id I.loc
 obtain ⟨sl,hL⟩:=u.any ho I.free fun z=>(hch _ z).2.1 rfl
 exact I.step (ch:=ch) hch (fun b o hL hb hc e n=>u.keep b o e n (fun z=>(List.mem_cons.mp (I.stkSub b z)).elim hL hb) hc) (fun b o _ _ hc e n=>u.any e n hc) (fun b o hc e n=>u.free b o e n hc) (fun b o hc e=>u.there b o e hc) u.tups u.frzs u.tbls (fun m' hm=>by
  obtain ⟨o',es',ep',ho',r'⟩:=hm
  rw [ho] at ho'; cases ho'
  exact ⟨_,es',ep',hL,r'⟩) hok hg
theorem Inv.turned {t':Nat} {it:Addr} (I:Inv X pins σ H s) (k:∀ b o,b≠it→s.heap.get? b = some o→h'.get? b = some o) (hn:H it = none) (hL:it≠X.env.locals)
  (h1:it∈X.ex∨X.s₀.heap.objs.size≤it) (h2:∀ x c,X.env.cells.lookup x = some c→c≠it) (h3:∀ p∈X.pn ++ pins,p.1≠it):Inv X pins σ H { s with heap:=h',toks:=t' }:=by
 have nit:∀ b u,H b = some u→b≠it:=fun b u e z=>by rw [z,hn] at e; cases e
 refine I.step (g':=s.gens) (d':=s.drawn) (ch:=[it]) (fun b hb=>?_) (fun b o _ _ hc e _=>k b o (fun z=>hc (by simp [z])) e) (fun b o _ _ hc e _=>⟨o.slots,k b o (fun z=>hc (by simp [z])) e⟩) (fun _ _ _ _ n=>n)
  (fun b o hc e=>⟨o,k b o (fun z=>hc (by simp [z])) e⟩) (fun _ _ e=>e) (fun _ _ _ e=>e) (fun b ps e=>⟨#[],by rw [e]; simp⟩) (fun m hm=>?_) (fun b u e=>?_) I.bare
 ·have e:b = it:=by simpa using hb
  subst e
  exact ⟨h1,hL,h2,h3⟩
 ·obtain ⟨o,es,ep,ho,r⟩:=hm
  exact ⟨o,es,ep,k _ o (Ne.symm hL) ho,r⟩
 ·refine (I.hok b u e).stay (fun c v hc q=>k c v ?_ q) (fun _ q=>q) fun _ _ q=>q
  rcases hc with z | z
  ·rw [z]; exact nit b u e
  ·exact nit c _ z
theorem Inv.tok (I:Inv X pins σ H s) (t:Nat):Inv X pins σ H { s with toks:=t }:=I.un (h':=s.heap) (t':=t) Un.refl I.hok
theorem Inv.kept {t':Nat} (I:Inv X pins σ H s) (k:∀ b u,s.heap.get? b = some u→h'.get? b = some u):Inv X pins σ H { s with heap:=h',toks:=t' }:=I.un (Un.kept k) (I.hok.kept k)
theorem Inv.laid {a:Addr} {o:HO} {t':Nat} (I:Inv X pins σ H s) (k:∀ b u,s.heap.get? b = some u→h'.get? b = some u) (hp:s.heap.objs.size≤a) (new:zCc X.prog X.w (upd H a o) h' a o) :
  Inv X pins σ (upd H a o) { s with heap:=h',toks:=t' }:=I.un (Un.laid k hp (I.hok.fresh hp)) (I.hok.laid k hp new)
theorem Inv.write {x e:Addr} {o:HO} {t':Nat} (I:Inv X pins σ H s) (mu:Mut (H x)) (he:e = x∨H e = some (.own x)) (k:∀ b u,b≠e→s.heap.get? b = some u→h'.get? b = some u) (heo:∃ u,h'.get? e = some u)
  (new:zCc X.prog X.w (upd H x o) h' x o):Inv X pins σ (upd H x o) { s with heap:=h',toks:=t' }:=I.un (Un.write mu he k heo) (I.hok.write mu he k heo new)
theorem Inv.pins_of {pins':List (Addr × Obj)} (I:Inv X pins σ H s) (h:∀ p∈pins',s.heap.get? p.1 = some p.2∧H p.1 = none∧p.1≠X.env.locals∧p.1 ∉ X.fs∧∀ v,p.2.data≠.cell v):Inv X pins' σ H s :=
 ⟨I.ok,I.os,I.bare,I.base,I.loc,I.cell,I.free,I.freeC,fun p hp=>(List.mem_append.mp hp).elim (fun z=>I.pin p (List.mem_append_left _ z)) (h p),I.hok,I.len⟩

theorem zOe {N:List Str} (hN:N.Nodup) {i j:Nat} {x:Str} (a:N[i]? = some x) (b:N[j]? = some x):i = j:=by
 obtain ⟨h1,e1⟩:=List.getElem?_eq_some_iff.mp a
 obtain ⟨h2,e2⟩:=List.getElem?_eq_some_iff.mp b
 exact (List.getElem_inj hN).mp (e1.trans e2.symm)

theorem zLh {M:Model} {A:Around} {E:Value→Shared→Prop} {i:Nat} {x:Str} {v:V} {u:Value} {Q:Unit→Shared→Prop} (I:Inv X pins σ H s) (hN:X.N.Nodup) (hi:X.N[i]? = some x) (hx:Loc X.env.scope x) (r:RelV v u)
  (h:∀ s',Inv X pins (σ.set i (some v)) H s'→(∃ a,Heap.SameBut a s.heap s'.heap∧(a = X.env.locals∨X.env.cells.lookup x = some a))→Q () s') (hf:X.fn x = true∨X.env.scope.names.lookup x = some .local:=by first | exact .inl rfl | exact .inr rfl | assumption):wpAny M A (storeName X.env x u) Q E s:=by
 obtain ⟨m,hn,hl⟩:=id I.loc
 have hcls:(X.env.scope.kind == .class || (X.env.scope.kind == .module && X.env.locals != X.env.globals)) = false:=by rw [I.ok.kind]; rfl
 have hiσ:i < σ.length:=by rw [I.len]; exact (List.getElem?_eq_some_iff.mp hi).1
 have cne:=I.cne
 have tracked:∀ {a:Addr} {h':Heap},(∃ o,s.heap.get? a = some o∧H a = none)→Heap.SameBut a s.heap h'→HOk X.prog X.w H h':=fun {a h'} ha hs b ob e=>by
  obtain ⟨_,_,hfree⟩:=ha
  refine (I.hok b ob e).stay (fun c w' hc q=>(hs.2 c ?_).trans q) (fun _ q=>q) fun _ _ q=>q
  rintro rfl
  rcases hc with rfl | hc
  ·rw [hfree] at e; cases e
  ·rw [hfree] at hc; cases hc
 rcases hx with hk | hk
 ·refine wpAny_storeName_local hk hn (fun h' hn' hs=>?_) hcls
  obtain ⟨oL,_,_,hoL,_⟩:=id hn
  refine h _ ⟨I.ok,I.os,I.bare,⟨fun b o e n hb hx=>?_,fun b o e n hb hx=>?_,I.base.free,fun b o e hx=>?_,I.base.tups,I.base.frzs,I.base.tbls⟩,⟨_,hn',fun j y v' e1 e2 e3=>?_⟩,fun y c e=>?_,I.free,I.freeC,fun p hp=>?_,tracked ⟨oL,hoL,I.free⟩ hs,by simpa using I.len⟩ ⟨_,hs,.inl rfl⟩
  ·exact (hs.2 b (Nat.ne_of_lt (Nat.lt_of_lt_of_le (Heap.lt_size e) I.ok.above))).trans (I.base.keep b o e n hb hx)
  ·obtain ⟨sl,e1⟩:=I.base.slot b o e n hb hx
   exact ⟨sl,(hs.2 b (Nat.ne_of_lt (Nat.lt_of_lt_of_le (Heap.lt_size e) I.ok.above))).trans e1⟩
  ·obtain ⟨o',e1⟩:=I.base.there b o e hx
   exact ⟨o',(hs.2 b (Nat.ne_of_lt (Nat.lt_of_lt_of_le (Heap.lt_size e) I.ok.above))).trans e1⟩
  ·by_cases hj:j = i
   ·subst hj
    rw [hi] at e1; cases e1
    rw [List.getElem?_set_self hiσ] at e2
    cases e2
    exact ⟨u,r,.inl ⟨hk,by simp⟩⟩
   ·rw [List.getElem?_set_ne (Ne.symm hj)] at e2
    obtain ⟨u',r',q⟩:=hl j y v' e1 e2 e3
    refine ⟨u',r',?_⟩
    rcases q with ⟨k,e⟩ | ⟨k,c,e,z⟩
    ·refine .inl ⟨k,?_⟩
     have:y≠x:=fun e=>hj (zOe hN e1 (e ▸ hi))
     simp [this,e]
    ·exact .inr ⟨k,c,e,z.sameBut hs (cne y c e)⟩
  ·obtain ⟨w',z⟩:=I.cell y c e
   exact ⟨w',z.sameBut hs (cne y c e)⟩
  ·obtain ⟨e,n,ne,nf,d⟩:=I.pin p hp
   exact ⟨(hs.2 p.1 ne).trans e,n,ne,nf,d⟩
 ·have hfn:X.fn x = true:=by
   rcases hf with z | z
   ·exact z
   ·rw [z] at hk; cases hk
  obtain ⟨c,hc⟩:=I.ok.has x (.inl hk)
  obtain ⟨w',z⟩:=I.cell x c hc
  refine wpAny_storeName_cell I.ok.kind hk hc z (fun h' hc' hs=>?_)
  obtain ⟨oc,hoc,hocd⟩:=id z
  refine h { s with heap:=h' } ⟨I.ok,I.os,I.bare,⟨fun b o e n hb hx=>?_,fun b o e n hb hx=>?_,I.base.free,fun b o e hx=>?_,I.base.tups,I.base.frzs,I.base.tbls⟩,⟨m,hn.sameBut hs (Ne.symm (cne x c hc)),fun j y v' e1 e2 e3=>?_⟩,fun y c' e=>?_,I.free,I.freeC,fun p hp=>?_,tracked ⟨oc,hoc,I.freeC x c hc⟩ hs,by simpa using I.len⟩ ⟨c,hs,.inr hc⟩
  ·exact (hs.2 b (Nat.ne_of_lt (Nat.lt_of_lt_of_le (Heap.lt_size e) (I.ok.cab x c hfn hc)))).trans (I.base.keep b o e n hb hx)
  ·obtain ⟨sl,e1⟩:=I.base.slot b o e n hb hx
   exact ⟨sl,(hs.2 b (Nat.ne_of_lt (Nat.lt_of_lt_of_le (Heap.lt_size e) (I.ok.cab x c hfn hc)))).trans e1⟩
  ·obtain ⟨o',e1⟩:=I.base.there b o e hx
   exact ⟨o',(hs.2 b (Nat.ne_of_lt (Nat.lt_of_lt_of_le (Heap.lt_size e) (I.ok.cab x c hfn hc)))).trans e1⟩
  ·by_cases hj:j = i
   ·subst hj
    rw [hi] at e1; cases e1
    rw [List.getElem?_set_self hiσ] at e2
    cases e2
    exact ⟨u,r,.inr ⟨.inl hk,c,hc,hc'⟩⟩
   ·rw [List.getElem?_set_ne (Ne.symm hj)] at e2
    obtain ⟨u',r',q⟩:=hl j y v' e1 e2 e3
    refine ⟨u',r',?_⟩
    rcases q with q | ⟨k,c',e,z'⟩
    ·exact .inl q
    ·refine .inr ⟨k,c',e,z'.sameBut hs ?_⟩
     rintro rfl
     exact hj (zOe hN e1 (I.ok.inj _ _ _ e hc ▸ hi))
  ·by_cases hcc:c' = c
   ·subst hcc; exact ⟨_,hc'⟩
   ·obtain ⟨w2,z2⟩:=I.cell y c' e
    exact ⟨w2,z2.sameBut hs hcc⟩
  ·obtain ⟨e,n,ne,nf,d⟩:=I.pin p hp
   refine ⟨(hs.2 p.1 ?_).trans e,n,ne,nf,d⟩
   intro q
   rw [q,hoc] at e
   have q':oc = p.2:=Option.some.inj e
   exact d w' (by rw [← q']; exact hocd)
theorem zCn {M:Model} {A:Around} {E:Value→Shared→Prop} {i:Nat} {x:Str} {v:V} {u:Value} {Q:Unit→Shared→Prop} (I:Inv X pins σ H s) (hN:X.N.Nodup) (hi:X.N[i]? = some x) (hx:Loc X.env.scope x) (r:RelV v u)
  (h:∀ s',Inv X pins (σ.set i (some v)) H s'→Q () s') (hf:X.fn x = true∨X.env.scope.names.lookup x = some .local:=by first | exact .inl rfl | exact .inr rfl | assumption):wpAny M A (storeName X.env x u) Q E s :=
 zLh I hN hi hx r (fun s' I' _=>h s' I') hf
theorem Inv.call' {s':Shared} {ch:List Addr} (I:Inv X pins σ H s) (ho:s'.os = s.os) (u:Un (frs X.stack) ch H H' s.heap s'.heap) (hok:HOk X.prog X.w H' s'.heap) (hg:AllBare s'.gens)
  (hch:∀ b∈ch,(b∈X.ex∨X.s₀.heap.objs.size≤b)∧b≠X.env.locals∧(∀ x c,X.env.cells.lookup x = some c→c≠b)∧∀ p∈X.pn ++ pins,p.1≠b):Inv X pins σ H' s':=by
 obtain ⟨h',g',d',t',o'⟩:=s'
 have e:o' = s.os:=ho
 subst e
 exact I.call (g':=g') (t':=t') (d':=d') u hok hg hch
end

abbrev XK:=Value→Option Addr→Hp→Prop
abbrev St:=List (Option V)
abbrev VK:=V→Hp→Prop
abbrev TE:=St→Hp→VK→Prop
abbrev TT:=St→Hp→(Bool→Hp→Prop)→Prop
abbrev TA:=St→Hp→(List V→Hp→Prop)→Prop
structure Ends where
 nx:St→Hp→Prop
 rt:VK
 bk:St→Hp→Prop:=fun _ _=>False
 ct:St→Hp→Prop:=fun _ _=>False
abbrev TS:=Ends→St→Hp→Prop

def EP (X:Cx) (pins:List (Addr × Obj)) (σ:St) (Q:VK) (u:Value) (s':Shared):Prop:=∃ v H',Inv X pins σ H' s'∧RelV v u∧Q v H'
def TP (X:Cx) (pins:List (Addr × Obj)) (σ:St) (Q:Bool→Hp→Prop) (b:Bool) (s':Shared):Prop:=∃ H',Inv X pins σ H' s'∧Q b H'
def AP (X:Cx) (pins:List (Addr × Obj)) (σ:St) (Q:List V→Hp→Prop) (us:List Value) (s':Shared):Prop:=∃ vs H',Inv X pins σ H' s'∧Vals vs us∧Q vs H'
def SP (X:Cx) (pins:List (Addr × Obj)) (D:Ends) (f:Flow) (s':Shared):Prop :=
 match f with
 | .next=>∃ σ' H',Inv X pins σ' H' s'∧D.nx σ' H'
 | .brk=>∃ σ' H',Inv X pins σ' H' s'∧D.bk σ' H'
 | .cont=>∃ σ' H',Inv X pins σ' H' s'∧D.ct σ' H'
 | .ret u=>∃ v σ' H',Inv X pins σ' H' s'∧RelV v u∧D.rt v H'

def PE (X:Cx) (e:Expr) (t:TE):Prop :=
 ∀ (pins:List (Addr × Obj)) (s:Shared) (σ:St) (H:Hp) (Q:VK),Inv X pins σ H s→t σ H Q→wpAny (model X.prog X.w) X.A (eval e X.env) (EP X pins σ Q) X.xe s
def PT (X:Cx) (e:Expr) (t:TT):Prop :=
 ∀ (pins:List (Addr × Obj)) (s:Shared) (σ:St) (H:Hp) (Q:Bool→Hp→Prop),Inv X pins σ H s→t σ H Q→wpAny (model X.prog X.w) X.A (isTrue e X.env (eval e X.env)) (TP X pins σ Q) X.xe s
def PW (X:Cx) (e:Expr) (t:TT):Prop :=
 ∀ (whole:Sem Value) (pins:List (Addr × Obj)) (s:Shared) (σ:St) (H:Hp) (Q:Bool→Hp→Prop),Inv X pins σ H s→t σ H Q→wpAny (model X.prog X.w) X.A (isTrue e X.env whole) (TP X pins σ Q) X.xe s
theorem PW.pt {X:Cx} {e:Expr} {t:TT} (h:PW X e t):PT X e t:=h _
def PA (X:Cx) (es:List Expr) (t:TA):Prop :=
 ∀ (pos:Pos) (pins:List (Addr × Obj)) (s:Shared) (σ:St) (H:Hp) (Q:List V→Hp→Prop),Inv X pins σ H s→t σ H Q→wpAny (model X.prog X.w) X.A (spliced (backTo pos (starEach es X.env))) (AP X pins σ Q) X.xe s
def PS (X:Cx) (st:Stmt) (t:TS):Prop :=
 ∀ (pins:List (Addr × Obj)) (s:Shared) (σ:St) (H:Hp) (D:Ends),Inv X pins σ H s→t D σ H→wpAny (model X.prog X.w) X.A (exec st X.env) (SP X pins D) X.xe s
def PSs (X:Cx) (st:List Stmt) (t:TS):Prop :=
 ∀ (pins:List (Addr × Obj)) (s:Shared) (σ:St) (H:Hp) (D:Ends),Inv X pins σ H s→t D σ H→wpAny (model X.prog X.w) X.A (execs st X.env) (SP X pins D) X.xe s
theorem thn {α:Type} {t:Sem α} {Q Q':α→Shared→Prop} {M:Model} {A:Around} {E:Value→Shared→Prop} {s:Shared} (h:wpAny M A t Q E s) (hQ:∀ a s,Q a s→Q' a s):wpAny M A t Q' E s:=wpAny_mono h hQ fun _ _ x=>x
end L2

namespace L2
open PySem PySem.Spec PyProof.Rows
section
variable {X:Cx}

theorem bin {a b:Expr} {ta tb:TE} (ha:PE X a ta) (hb:PE X b tb) {pins:List (Addr × Obj)} {s:Shared} {σ:St} {H:Hp} {R:V→V→Hp→Prop} (I:Inv X pins σ H s) (h:ta σ H fun x H1=>tb σ H1 fun y H2=>R x y H2)
  {α:Type} {Q:α→Shared→Prop} {f:Value→Value→Sem α}
  (hf:∀ v u s2 x y H2,Inv X pins σ H2 s2→RelV x v→RelV y u→R x y H2→wpAny (model X.prog X.w) X.A (f v u) Q X.xe s2) :
  wpAny (model X.prog X.w) X.A (eval a X.env) (fun v s₁=>wpAny (model X.prog X.w) X.A (eval b X.env) (fun u s₂=>wpAny (model X.prog X.w) X.A (f v u) Q X.xe s₂) X.xe s₁) X.xe s:=by
 refine thn (ha pins s σ H _ I h) fun v s1 ⟨x,H1,I1,r1,q1⟩=>?_
 refine thn (hb pins s1 σ H1 _ I1 q1) fun u s2 ⟨y,H2,I2,r2,q2⟩=>?_
 exact hf v u s2 x y H2 I2 r1 r2 q2

inductive TVar (i:Nat) (σ:St) (H:Hp) (Q:VK):Prop where
 | mk (v:V) (e:σ[i]? = some (some v)) (q:Q v H)
def tVar (i:Nat):TE:=fun σ H Q=>TVar i σ H Q
def tC (v:V):TE:=fun _ H Q=>Q v H
theorem pe_var {i:Nat} {x:Str} {pos:Pos} (hN:X.N[i]? = some x) (hv:Vis X.env.scope x) (hd:(x == ("__debug__" : Str)) = false:=by decide) (hcd:(x == ("__classdict__" : Str)) = false:=by decide):PE X (.Name x pos) (tVar i):=by
 intro pins s σ H Q I h
 obtain ⟨v,e,h⟩:=h
 obtain ⟨m,hn,hl⟩:=I.loc
 obtain ⟨u,r,l⟩:=hl i x v hN e hv
 have fin:EP X pins σ Q u s:=⟨v,H,I,r,h⟩
 rcases l with ⟨hk,hm⟩ | ⟨hk,c,hc,hcell⟩
 ·exact wpAny_Name (wpAny_loadName_local I.ok.kind hk hn hm fin) hd
 ·rcases hk with hk | hk
  ·exact wpAny_Name (wpAny_loadName_cell I.ok.kind hk hc hcell fin) hd
  ·exact wpAny_Name (wpAny_loadName_free I.ok.kind hk hc hcell fin hcd) hd
theorem zAc {i j pos} : PE X (.Constant (.int i) j pos) (tC (.int i)):=fun _ _ _ H _ I h=>wpAny_Constant_int ⟨.int i,H,I.tok _,⟨_,rfl⟩,h⟩
theorem zG2 {b j pos} : PE X (.Constant (.bool b) j pos) (tC (.bl b)):=fun _ _ _ H _ I h=>Constant_bool ⟨.bl b,H,I,rfl,h⟩
theorem zDj {j pos} : PE X (.Constant .none j pos) (tC .non):=fun _ _ _ H _ I h=>Constant_none ⟨.non,H,I,rfl,h⟩
def Gl (X:Cx) (x:Str):Prop:=X.env.kindOf x = some .globalImplicit
theorem zUy {E:Value→Shared→Prop} {pins:List (Addr × Obj)} {s:Shared} {σ:St} {H:Hp} {x:Str} {u:Value} {pos:Pos} {Q:Value→Shared→Prop} (I:Inv X pins σ H s) (hg:Gl X x) (hm:X.mg x = some u) (h:Q u s)
  (hd:(x == ("__debug__" : Str)) = false:=by decide):wpAny (model X.prog X.w) X.A (eval (.Name x pos) X.env) Q E s :=
 Calls.Name_function_global I.ok.kind hg (Calls.loadGlobal_global (by rw [I.ok.glob]; exact I.mod.glob.keeps I.bk) hm h) hd
theorem zH2 {E:Value→Shared→Prop} {pins:List (Addr × Obj)} {s:Shared} {σ:St} {H:Hp} {x:Str} {u:Value} {pos:Pos} {Q:Value→Shared→Prop} (I:Inv X pins σ H s) (hg:Gl X x) (hm:X.mg x = none) (hv:bootBuiltins x = some u) (h:Q u s)
  (hn:x ≠ "__name__" := by decide) (hd:(x == ("__debug__" : Str)) = false:=by decide):wpAny (model X.prog X.w) X.A (eval (.Name x pos) X.env) Q E s:=by
 obtain ⟨mb,h1,h2⟩:=I.mod.blt
 exact Calls.Name_function_global I.ok.kind hg (Calls.loadGlobal_builtin (by rw [I.ok.glob]; exact I.mod.glob.keeps I.bk) hm (by rw [I.ok.blt]; exact h1.keeps I.bk) ((h2 x hn).trans hv) h) hd
theorem zMp {x:Str} {v:V} {u:Value} {pos:Pos} (hg:Gl X x) (hm:X.mg x = none) (hv:bootBuiltins x = some u) (r:RelV v u) (hn:x ≠ "__name__" := by decide) (hd:(x == ("__debug__" : Str)) = false:=by decide):PE X (.Name x pos) (tC v) :=
 fun _ _ _ H _ I h=>zH2 I hg hm hv ⟨v,H,I,r,h⟩ hn hd

variable {a b:Expr} {ta tb:TE} {pos:Pos}
def PC (X:Cx) (op:CmpOp) (a b:Expr) (t:TE):Prop :=
 ∀ (pins:List (Addr × Obj)) (s:Shared) (σ:St) (H:Hp) (Q:VK),Inv X pins σ H s→t σ H Q →
  wpAny (model X.prog X.w) X.A (eval a X.env) (fun v s₁=>wpAny (model X.prog X.w) X.A (eval b X.env) (fun u s₂=>wpAny (model X.prog X.w) X.A (compareOp op v u) (EP X pins σ Q) X.xe s₂) X.xe s₁) X.xe s
def tB (t:TE):TT:=fun σ H Q=>t σ H fun x H1=>∃ c,x = .bl c∧Q c H1
theorem pt_cmp {op:CmpOp} {t:TE} (h:PC X op a b t) (h1:behindInMarks op b = false:=by first | exact nobehind _ (by decide) (by decide) | rfl):PT X (.Compare a [op] [b] pos) (tB t):=by
 intro pins s σ H Q I hw
 refine wpAny_isTrue_Compare1 (thn (h pins s σ H _ I hw) fun v s1 h1=>thn h1 fun u s2 h2=>thn h2 fun c s3 ⟨x,H1,I1,r1,q1⟩=>?_) h1
 obtain ⟨d,rfl,q⟩:=q1
 cases r1
 exact wpAny_truthy_bool ⟨H1,I1,q⟩
theorem zEt {e:Expr} {t:TE} (h:PE X e t) (he:∀ whole,isTrue e X.env whole = (do let v ← whole; standAt e.pos; holding [v] (truthy v)):=by intro _; rfl):PT X e (tB t):=by
 intro pins s σ H Q I hw
 refine isTrue_plain (thn (h pins s σ H _ I hw) fun v s1 ⟨x,H1,I1,r1,q1⟩=>?_) (he _)
 obtain ⟨d,rfl,q⟩:=q1
 cases r1
 exact wpAny_truthy_bool ⟨H1,I1,q⟩

variable {tA tB':TT} {rest:List Expr}
def tAnd (t u:TT):TT:=fun σ H Q=>t σ H fun c H1=>if c = true then u σ H1 Q else Q false H1
def tOr (t u:TT):TT:=fun σ H Q=>t σ H fun c H1=>if c = true then Q true H1 else u σ H1 Q
def tNot (t:TT):TT:=fun σ H Q=>t σ H fun c H1=>Q (!c) H1
theorem zIz (ha:PT X a tA):PW X (.BoolOp .And [a] pos) tA:=by
 intro wh pins s σ H Q I h
 refine isTrue_and (thn (ha pins s σ H Q I h) fun c s1 e=>?_)
 cases c with
 | true=>exact isTrue_and_nil e
 | false=>exact e
theorem zQb (ha:PT X a tA):PW X (.BoolOp .Or [a] pos) tA:=by
 intro wh pins s σ H Q I h
 refine isTrue_or (thn (ha pins s σ H Q I h) fun c s1 e=>?_)
 cases c with
 | false=>exact isTrue_or_nil e
 | true=>exact e
theorem zLa (ha:PT X a tA) (hb:PW X (.BoolOp .And (b :: rest) pos) tB'):PW X (.BoolOp .And (a :: b :: rest) pos) (tAnd tA tB'):=by
 intro wh pins s σ H Q I h
 refine isTrue_and (thn (ha pins s σ H _ I h) fun c s1 ⟨H1,I1,q1⟩=>?_)
 cases c with
 | true=>exact hb wh pins s1 σ H1 Q I1 q1
 | false=>exact ⟨H1,I1,q1⟩
theorem zR5 (ha:PT X a tA) (hb:PW X (.BoolOp .Or (b :: rest) pos) tB'):PW X (.BoolOp .Or (a :: b :: rest) pos) (tOr tA tB'):=by
 intro wh pins s σ H Q I h
 refine isTrue_or (thn (ha pins s σ H _ I h) fun c s1 ⟨H1,I1,q1⟩=>?_)
 cases c with
 | true=>exact ⟨H1,I1,q1⟩
 | false=>exact hb wh pins s1 σ H1 Q I1 q1
theorem zHg (ha:PT X a tA):PT X (.UnaryOp .Not a pos) (tNot tA):=by
 intro pins s σ H Q I h
 exact isTrue_not (ha pins s σ H (fun c H1=>Q (!c) H1) I h)
def tAndV (ta tb:TE):TE:=fun σ H Q=>ta σ H fun x H1=>∃ c,x = .bl c∧if c = true then tb σ H1 Q else Q (.bl false) H1
def tNotV (ta:TE):TE:=fun σ H Q=>ta σ H fun x H1=>∃ c,x = .bl c∧Q (.bl (!c)) H1
theorem zNu {op} {t:TE} (h:PE X a t):PE X (.BoolOp op [a] pos) t:=fun pins s σ H Q I hw=>BoolOp_one (h pins s σ H Q I hw)
theorem zLo (ha:PE X a ta) (hb:PE X (.BoolOp .And (b :: rest) pos) tb):PE X (.BoolOp .And (a :: b :: rest) pos) (tAndV ta tb):=by
 intro pins s σ H Q I h
 refine BoolOp_and (thn (ha pins s σ H _ I h) fun v s1 ⟨x,H1,I1,r1,q1⟩=>?_)
 obtain ⟨c,rfl,q1⟩:=q1
 cases r1
 refine wpAny_truthy_bool ?_
 cases c with
 | true=>exact hb pins s1 σ H1 Q I1 q1
 | false=>exact ⟨.bl false,H1,I1,rfl,q1⟩
theorem pe_not (ha:PE X a ta):PE X (.UnaryOp .Not a pos) (tNotV ta):=by
 intro pins s σ H Q I h
 refine UnaryOp_ (thn (ha pins s σ H _ I h) fun v s1 ⟨x,H1,I1,r1,q1⟩=>?_)
 obtain ⟨c,rfl,q1⟩:=q1
 cases r1
 exact not_of (wpAny_truthy_bool ⟨.bl (!c),H1,I1,rfl,q1⟩)
def tIf (t:TT) (ta tb:TE):TE:=fun σ H Q=>t σ H fun c H1=>if c = true then ta σ H1 Q else tb σ H1 Q
theorem zS0 {c:Expr} (hc:PT X c tA) (ha:PE X a ta) (hb:PE X b tb):PE X (.IfExp c a b pos) (tIf tA ta tb):=by
 intro pins s σ H Q I h
 refine wpAny_IfExp (thn (hc pins s σ H _ I h) fun d s1 ⟨H1,I1,q1⟩=>?_)
 cases d with
 | true=>exact ha pins s1 σ H1 Q I1 q1
 | false=>exact hb pins s1 σ H1 Q I1 q1
end
end L2

namespace L2
open PySem PySem.Spec PyProof.Rows

def SqL (K:PySem.W.Frag) (H:Hp) (a:Addr) (xs:List V):Prop :=
 Rd H a (.lst xs) ∨
  ∃ (o:Obj) (its:Array Value) (n:Nat),K.lookup a = some o∧o.cls = .type "list" ∧ o.dict = none∧o.data = .seq its n∧its.size≤sizeLine∧Vals xs its.toList
def SqT (K:PySem.W.Frag) (H:Hp) (a:Addr) (xs:List V):Prop :=
 Rd H a (.tup xs) ∨
  ∃ (o:Obj) (its:Array Value) (n:Nat),K.lookup a = some o∧o.cls = .type "tuple" ∧ o.data = .seq its n∧its.size≤sizeLine∧Vals xs its.toList
def absV:Value→Option V
 | .none=>some .non
 | .bool b=>some (.bl b)
 | .int i _=>some (.int i)
 | .str x _=>some (.str x)
 | .bytes b _=>some (.byt b)
 | .float b _=>some (.flt b)
 | .ref a=>some (.ref a)
 | .type n=>some (.ty n)
 | _=>none
theorem RelV.abs {x:V} {u:Value} (r:RelV x u):absV u = some x:=by
 cases x with
 | non=>cases r; rfl
 | bl _=>cases r; rfl
 | int _=>obtain ⟨t,rfl⟩:=r; rfl
 | str _=>obtain ⟨t,rfl⟩:=r; rfl
 | byt _=>obtain ⟨t,rfl⟩:=r; rfl
 | flt _=>obtain ⟨t,rfl⟩:=r; rfl
 | ref _=>cases r; rfl
 | ty _=>cases r; rfl
theorem RelV.inj {x y:V} {u:Value} (r:RelV x u) (q:RelV y u):x = y:=Option.some.inj (r.abs.symm.trans q.abs)
theorem Vals.inj:∀ {xs ys:List V} {us:List Value},Vals xs us→Vals ys us→xs = ys
 | _,_,_,.nil,.nil=>rfl
 | _,_,_,.cons r t,.cons r' t'=>by rw [r.inj r',Vals.inj t t']
section
variable {X:Cx} {pins:List (Addr × Obj)} {σ:St} {H:Hp} {s:Shared} {a:Addr} {xs ys:List V}
theorem SqL.of {K:PySem.W.Frag} (h:H a = some (.lst xs)):SqL K H a xs:=.inl (.inl h)
theorem SqT.of {K:PySem.W.Frag} (h:H a = some (.tup xs)):SqT K H a xs:=.inl (.inl h)
theorem Inv.list (I:Inv X pins σ H s) (h:SqL X.K H a xs):∃ its:List Value,Vals xs its∧PlainL s.heap a its.toArray∧xs.length≤sizeLine:=by
 rcases h with h | ⟨o,its,n,hk,hc,hd,hs,hz,r⟩
 ·obtain ⟨z,its,n,r,e⟩:=h.ok I.hok
  exact ⟨its,r,⟨_,n,e,rfl,rfl,rfl⟩,z⟩
 ·refine ⟨its.toList,r,⟨o,n,I.kIn a o hk,hc,hd,by simpa using hs⟩,?_⟩
  have e:=r.length
  simp only [Array.length_toList] at e
  omega
theorem Inv.tuple (I:Inv X pins σ H s) (h:SqT X.K H a xs):∃ its:List Value,Vals xs its∧IsTup s.heap a its.toArray∧xs.length≤sizeLine:=by
 rcases h with h | ⟨o,its,n,hk,hc,hs,hz,r⟩
 ·obtain ⟨z,its,r,p⟩:=h.ok I.hok
  exact ⟨its,r,p,z⟩
 ·refine ⟨its.toList,r,⟨o,I.kIn a o hk,hc,n,by simpa using hs⟩,?_⟩
  have e:=r.length
  simp only [Array.length_toList] at e
  omega
theorem Inv.list_inj (I:Inv X pins σ H s) (h:SqL X.K H a xs) (h':SqL X.K H a ys):xs = ys:=by
 obtain ⟨its,r,⟨o,n,e,_,_,d⟩,_⟩:=I.list h
 obtain ⟨its',r',⟨o',n',e',_,_,d'⟩,_⟩:=I.list h'
 rw [e] at e'; cases e'
 rw [d] at d'
 injection d' with d1 _
 have:its = its':=by simpa using congrArg Array.toList d1
 subst this
 exact r.inj r'
theorem Inv.tuple_inj (I:Inv X pins σ H s) (h:SqT X.K H a xs) (h':SqT X.K H a ys):xs = ys:=by
 obtain ⟨its,r,⟨o,e,_,n,d⟩,_⟩:=I.tuple h
 obtain ⟨its',r',⟨o',e',_,n',d'⟩,_⟩:=I.tuple h'
 rw [e] at e'; cases e'
 rw [d] at d'
 injection d' with d1 _
 have:its = its':=by simpa using congrArg Array.toList d1
 subst this
 exact r.inj r'
end

abbrev Cx.wish (X:Cx) (E:Value→Shared→Prop):Cx:={ X with xe:=E }
abbrev Cx.nox (X:Cx):Cx:=X.wish fun _ _=>False
theorem Cx.Ok.wish {X:Cx} (ok:X.Ok) (E:Value→Shared→Prop):(X.wish E).Ok :=
 ⟨ok.mod,ok.kind,ok.glob,ok.blt,ok.above,ok.inj,ok.has,ok.cab,ok.hd,ok.frames,ok.stk,ok.exf,ok.bs,ok.bsz,ok.noex,ok.exfs,ok.funs,ok.frf⟩
theorem Cx.Ok.unwish {X:Cx} {E:Value→Shared→Prop} (ok:(X.wish E).Ok):X.Ok :=
 ⟨ok.mod,ok.kind,ok.glob,ok.blt,ok.above,ok.inj,ok.has,ok.cab,ok.hd,ok.frames,ok.stk,ok.exf,ok.bs,ok.bsz,ok.noex,ok.exfs,ok.funs,ok.frf⟩
section
variable {X:Cx} {pins:List (Addr × Obj)} {σ:St} {H:Hp} {s:Shared} {E:Value→Shared→Prop}
theorem Inv.wish (I:Inv X pins σ H s) (E:Value→Shared→Prop):Inv (X.wish E) pins σ H s:=⟨I.ok.wish E,I.os,I.bare,I.base,I.loc,I.cell,I.free,I.freeC,I.pin,I.hok,I.len⟩
theorem Inv.unwish (I:Inv (X.wish E) pins σ H s):Inv X pins σ H s:=⟨I.ok.unwish,I.os,I.bare,I.base,I.loc,I.cell,I.free,I.freeC,I.pin,I.hok,I.len⟩
theorem SP.unwish {D:Ends} {f:Flow} {s':Shared} (h:SP (X.wish E) pins D f s'):SP X pins D f s':=by
 cases f with
 | next=>obtain ⟨σ',H',I,q⟩:=h; exact ⟨σ',H',I.unwish,q⟩
 | brk=>obtain ⟨σ',H',I,q⟩:=h; exact ⟨σ',H',I.unwish,q⟩
 | cont=>obtain ⟨σ',H',I,q⟩:=h; exact ⟨σ',H',I.unwish,q⟩
 | ret u=>obtain ⟨v,σ',H',I,r,q⟩:=h; exact ⟨v,σ',H',I.unwish,r,q⟩
theorem PSs.nox {st:List Stmt} {t:TS} (h:PSs X.nox st t):PSs X st t:=fun pins s σ H D I hw =>
 wpAny_mono (h pins s σ H D (I.wish _) hw) (fun _ _ q=>q.unwish) fun _ _ z=>False.elim z
end

section
variable {X:Cx} {st:Stmt} {rest:List Stmt} {t u:TS} {e:Expr} {te:TE} {pos:Pos}
def tNext:TS:=fun D σ H=>D.nx σ H
def tSeq (t u:TS):TS:=fun D σ H=>t { D with nx:=u D } σ H
theorem zA2:PSs X [] tNext:=fun _ _ σ H _ I h=>wpAny_execs_nil ⟨σ,H,I,h⟩
theorem zAg (h1:PS X st t) (h2:PSs X rest u):PSs X (st :: rest) (tSeq t u):=by
 intro pins s σ H D I h
 refine wpAny_execs_cons (thn (h1 pins s σ H { D with nx:=u D } I h) fun f s1 q=>?_)
 cases f with
 | next =>
  obtain ⟨σ',H',I',q⟩:=q
  exact h2 pins s1 σ' H' D I' q
 | ret v=>exact q
 | brk=>exact q
 | cont=>exact q
theorem zAi (h1:PS X st t):PSs X [st] t:=by
 intro pins s σ H D I h
 refine wpAny_execs_cons (thn (h1 pins s σ H D I h) fun f s1 q=>?_)
 cases f with
 | next=>exact wpAny_execs_nil q
 | ret v=>exact q
 | brk=>exact q
 | cont=>exact q
theorem Inv.quiet {pins:List (Addr × Obj)} {σ:St} {H:Hp} {s:Shared} (I:Inv X pins σ H s):interactive X.env = false:=by simp [interactive,I.ok.kind]
def tDrop (te:TE):TS:=fun D σ H=>te σ H fun _ H1=>D.nx σ H1
theorem zE0 (he:PE X e te) (hs:swapsWith e none pos.line X.env = pure false:=by rfl):PS X (.Expr e pos) (tDrop te):=by
 intro pins s σ H D I h
 exact wpAny_Expr_any (thn (he pins s σ H _ I h) fun v s1 ⟨x,H1,I1,r1,q1⟩=>⟨σ,H1,I1,q1⟩) I.quiet hs
def tRet (te:TE):TS:=fun D σ H=>te σ H D.rt
theorem zAr (he:PE X e te):PS X (.Return (some e) pos) (tRet te):=by
 intro pins s σ H D I h
 exact wpAny_Return_some (thn (he pins s σ H _ I h) fun v s1 ⟨x,H1,I1,r1,q1⟩=>⟨x,σ,H1,I1,r1,q1⟩)
def tIfS (c:TT) (t u:TS):TS:=fun D σ H=>c σ H fun b H1=>if b = true then t D σ H1 else u D σ H1
theorem zBs {c:Expr} {a b:List Stmt} {tc:TT} (hc:PT X c tc) (ha:PSs X a t) (hb:PSs X b u):PS X (.If c a b pos) (tIfS tc t u):=by
 intro pins s σ H D I h
 refine wpAny_If (thn (hc pins s σ H _ I h) fun d s1 ⟨H1,I1,q1⟩=>?_)
 cases d with
 | true=>exact ha pins s1 σ H1 D I1 q1
 | false=>exact hb pins s1 σ H1 D I1 q1
end

abbrev TG:=V→St→Hp→(St→Hp→Prop)→Prop
abbrev TGs:=List V→St→Hp→(St→Hp→Prop)→Prop
def PG (X:Cx) (target:Expr) (t:TG):Prop :=
 ∀ (pins:List (Addr × Obj)) (s:Shared) (σ:St) (H:Hp) (v:V) (u:Value) (Q:St→Hp→Prop),Inv X pins σ H s→RelV v u→t v σ H Q →
  wpAny (model X.prog X.w) X.A (assign target X.env u) (fun _ s'=>∃ σ' H',Inv X pins σ' H' s'∧Q σ' H') X.xe s
def PGs (X:Cx) (ts:List Expr) (t:TGs):Prop :=
 ∀ (pins:List (Addr × Obj)) (s:Shared) (σ:St) (H:Hp) (vs:List V) (us:List Value) (Q:St→Hp→Prop),Inv X pins σ H s→Vals vs us→t vs σ H Q →
  wpAny (model X.prog X.w) X.A (assignInOrder ((assignEach ts X.env).map (·.2)) us) (fun _ s'=>∃ σ' H',Inv X pins σ' H' s'∧Q σ' H') X.xe s
abbrev TSet:=V→V→V→Hp→(Hp→Prop)→Prop
def PSet (X:Cx) (t:TSet):Prop :=
 ∀ (pins:List (Addr × Obj)) (s:Shared) (σ:St) (H:Hp) (o i v:V) (ov iv u:Value) (Q:Hp→Prop),Inv X pins σ H s→RelV o ov→RelV i iv→RelV v u→t o i v H Q →
  wpAny (model X.prog X.w) X.A (setItem ov iv u) (fun _ s'=>∃ H',Inv X pins σ H' s'∧Q H') X.xe s
section
variable {X:Cx} {pos:Pos}
def zSf (i:Nat):TG:=fun v σ H Q=>Q (σ.set i (some v)) H
theorem zAp {i:Nat} {x:Str} (hN:X.N.Nodup) (hi:X.N[i]? = some x) (hx:Loc X.env.scope x) (hf:X.fn x = true∨X.env.scope.names.lookup x = some .local:=by first | exact .inl rfl | exact .inr rfl | assumption):PG X (.Name x pos) (zSf i):=by
 intro pins s σ H v u Q I r h
 exact wpAny_assign_Name (zCn I hN hi hx r (fun s' I'=>⟨_,H,I',h⟩) hf)
def gNil:TGs:=fun vs σ H Q=>vs = []∧Q σ H
def gCons (t:TG) (u:TGs):TGs:=fun vs σ H Q=>∃ v r,vs = v :: r∧t v σ H fun σ' H'=>u r σ' H' Q
theorem zC9:PGs X [] gNil:=by
 intro pins s σ H vs us Q I r h
 obtain ⟨e,h⟩:=h
 subst e
 cases r
 exact assignInOrder_nil ⟨σ,H,I,h⟩
theorem zA0 {e:Expr} {es:List Expr} {t:TG} {u:TGs} (h1:PG X e t) (h2:PGs X es u)
  (hs:(assignEach (e :: es) X.env).map (·.2) = assign e X.env :: (assignEach es X.env).map (·.2):=by rfl):PGs X (e :: es) (gCons t u):=by
 intro pins s σ H vs us Q I r h
 obtain ⟨v,vr,e1,h⟩:=h
 subst e1
 cases r with
 | cons r rr =>
  rw [hs]
  refine assignInOrder_cons (thn (h1 pins s σ H _ _ _ I r h) fun _ s1 ⟨σ1,H1,I1,q1⟩=>?_)
  exact h2 pins s1 σ1 H1 _ _ Q I1 rr q1
def gTup (K:PySem.W.Frag) (n:Nat) (t:TGs):TG:=fun v σ H Q=>∃ a xs,v = .ref a∧SqT K H a xs∧xs.length = n∧t xs σ H Q
theorem zE5 {es:List Expr} {k:Nat} {t:TGs} {n:Nat} (hc:X.calm = true) (h:PGs X es t)
  (hn:(assignEach es X.env).length = n:=by rfl) (hst:(assignEach es X.env).findIdx? (·.1) = none:=by rfl):PG X (.Tuple es k pos) (gTup X.K n t):=by
 intro pins s σ H v u Q I r hw
 obtain ⟨a,xs,e1,hq,hl,hw⟩:=hw
 subst e1
 cases r
 obtain ⟨its,rv,ht,hz⟩:=I.tuple hq
 refine assign_Tuple_tuple (I.ok.hd hc) ht (by simp [hn,← hl,rv.length]) hst fun h' hx=>?_
 have I1:Inv X pins σ H { s with heap:=h' }:=I.kept (t':=s.toks) fun b o e=>hx b o (Nat.ne_of_lt (Heap.lt_size e)) e
 exact h pins _ σ H xs _ Q I1 (by simpa using rv) hw
def gSub (to ti:TE) (t:TSet):TG:=fun v σ H Q=>to σ H fun o H1=>ti σ H1 fun i H2=>t o i v H2 fun H3=>Q σ H3
theorem pg_sub {o i:Expr} {to ti:TE} {t:TSet} (ho:PE X o to) (hi:PE X i ti) (hs:PSet X t)
  (ha:∀ v,assign (.Subscript o i pos) X.env v = (do
   let ov ← holding [v] (eval o X.env)
   let iv ← holding [v,ov] (eval i X.env)
   standAt pos
   holding [v,ov,iv] (setItem ov iv v)
   release [v,ov,iv] []):=by intro _; rfl):PG X (.Subscript o i pos) (gSub to ti t):=by
 intro pins s σ H v u Q I r h
 rw [ha]
 refine wpAny_bind (wpAny_holding (thn (ho pins s σ H _ I h) fun ov s1 ⟨x,H1,I1,r1,q1⟩=>?_))
 refine wpAny_bind (wpAny_holding (thn (hi pins s1 σ H1 _ I1 q1) fun iv s2 ⟨y,H2,I2,r2,q2⟩=>?_))
 refine wpAny_bind (wpAny_standAt (wpAny_bind (wpAny_holding (thn (hs pins s2 σ H2 x y v ov iv u _ I2 r1 r2 r q2) fun _ s3 ⟨H3,I3,q3⟩=>?_))))
 exact wpAny_release ⟨σ,H3,I3,q3⟩
def tAsg (te:TE) (g:TG):TS:=fun D σ H=>te σ H fun x H1=>g x σ H1 D.nx
theorem zOa {tg e:Expr} {te:TE} {g:TG} (he:PE X e te) (hg:PG X tg g) (hs:swapsWithSole [tg] e pos.line X.env = pure false:=by rfl) (hw:swappedStores [tg] e X.env = pure none:=by rfl)
  (h1:(assignEach [tg] X.env).map (·.2) = [assign tg X.env]:=by rfl):PS X (.Assign [tg] e pos) (tAsg te g):=by
 intro pins s σ H D I h
 refine wpAny_Assign_stores (thn (he pins s σ H _ I h) fun v s1 ⟨x,H1,I1,r1,q1⟩=>?_) hs hw
 rw [h1]
 exact thn (hg pins s1 σ H1 x v _ I1 r1 q1) fun _ s2 q=>q
theorem zAu {i:Nat} {x:Str} {e:Expr} {te:TE} {pos':Pos} (hN:X.N.Nodup) (hi:X.N[i]? = some x) (hx:Loc X.env.scope x) (he:PE X e te) (hs:swapsWith e (some (.Name x pos')) pos.line X.env = pure false:=by rfl) (hf:X.fn x = true∨X.env.scope.names.lookup x = some .local:=by first | exact .inl rfl | exact .inr rfl | assumption) :
  PS X (.Assign [.Name x pos'] e pos) (tAsg te (zSf i)):=by
 intro pins s σ H D I h
 refine wpAny_Assign_Name (thn (he pins s σ H _ I h) fun v s1 ⟨y,H1,I1,r1,q1⟩=>?_) hs
 exact zCn I1 hN hi hx r1 (fun s2 I2=>⟨_,H1,I2,q1⟩) hf
def tPar (i j:Nat) (ta:TA):TS:=fun D σ H=>ta σ H fun vs H1=>∃ v w,vs = [v,w]∧D.nx ((σ.set i (some v)).set j (some w)) H1
theorem ps_par {i j:Nat} {x y:Str} {a b:Expr} {ta:TA} {px py pt:Pos} {kt k2 pt2} (hc:X.calm = true) (hN:X.N.Nodup) (hi:X.N[i]? = some x) (hj:X.N[j]? = some y) (hij:i≠j)
  (hx:X.env.scope.names.lookup x = some .local) (hy:X.env.scope.names.lookup y = some .local) (ha:PA X [a,b] ta)
  (hw:swappedStores [.Tuple [.Name x px,.Name y py] kt pt] (.Tuple [a,b] k2 pt2) X.env = pure (some [x,y]))
  (hs:swapsWithSole [.Tuple [.Name x px,.Name y py] kt pt] (.Tuple [a,b] k2 pt2) pos.line X.env = pure false:=by rfl) :
  PS X (.Assign [.Tuple [.Name x px,.Name y py] kt pt] (.Tuple [a,b] k2 pt2) pos) (tPar i j ta):=by
 intro pins s σ H D I h
 rw [exec_Assign_arm]
 refine wpAny_bind (wpAny_standAt ?_)
 rw [hs]
 refine wpAny_bind (wpAny_pure ?_)
 rw [if_neg (by decide)]
 refine wpAny_bind (Tuple_ (thn (ha _ pins s σ H _ I h) fun us s1 ⟨vs,H1,I1,r1,q1⟩=>?_))
 obtain ⟨v,w,e1,q1⟩:=q1
 subst e1
 obtain ⟨u1,u2,rfl,rv,rw'⟩:∃ u1 u2,us = [u1,u2]∧RelV v u1∧RelV w u2:=by
  cases r1 with
  | cons p q =>
   cases q with
   | cons p' q' =>
    cases q'
    exact ⟨_,_,rfl,p,p'⟩
 refine wpAny_newObj_type ?_ (by show 2≤sizeLine; decide)
 have I2:Inv X pins σ H1 { s1 with heap:=s1.heap.push { cls:=.type "tuple", data:=.seq [u1,u2].toArray } }:=I1.kept (t':=s1.toks) fun b o e=>Heap.get?_push_of_some _ e
 rw [hw]
 refine wpAny_bind (wpAny_pure ?_)
 show wpAny (model X.prog X.w) X.A (do rule "assign.swapped-stores"; let items ← unpackItems (.ref s1.heap.objs.size) 2 none; assignInOrder [fun v=>bindName X.env y v,fun v=>bindName X.env x v] items.reverse; pure Flow.next) _ _ _
 refine wpAny_bind (wpAny_rule (wpAny_bind (unpackItems_tuple (items:=#[u1,u2]) (I.ok.hd hc) (IsTup.new s1.heap _) fun h' hx'=>?_)))
 have I3:=I2.kept (h':=h') (t':=s1.toks) fun b o e=>hx' b o (Nat.ne_of_lt (Heap.lt_size e)) e
 show wpAny _ _ (assignInOrder [fun v=>bindName X.env y v,fun v=>bindName X.env x v] [u2,u1] >>= fun _=>pure Flow.next) _ _ _
 refine wpAny_bind (assignInOrder_cons (wpAny_bindName (zCn I3 hN hj (.inl hy) rw' (fun s2 I4=>?_) (.inr hy))))
 refine assignInOrder_cons (wpAny_bindName (zCn I4 hN hi (.inl hx) rv (fun s3 I5=>assignInOrder_nil (wpAny_pure ?_)) (.inr hx)))
 rw [List.set_comm _ _ (Ne.symm hij)] at I5
 exact ⟨_,H1,I5,q1⟩
end

section
variable {X:Cx} {pos:Pos}
def zTq (c:TT) (tb:TS):TS:=fun D σ H=>∃ W:Nat→St→Hp→Prop,(∃ m,W m σ H)∧∀ m σ H,W m σ H →
 c σ H fun b H1=>if b = true then ∃ N:St→Hp→Prop,(∀ σ' H',N σ' H'→∃ m',m' < m∧W m' σ' H')∧tb { D with nx:=N,ct:=N,bk:=D.nx } σ H1 else D.nx σ H1
theorem zGp {c:Expr} {body:List Stmt} {tc:TT} {tb:TS} (hp:PassesOwn (model X.prog X.w) X.A X.env X.xe) (hc:PT X c tc) (hb:PSs X body tb):PS X (.While c body [] pos) (zTq tc tb):=by
 intro pins s σ H D I h
 obtain ⟨W,⟨m0,w0⟩,turn⟩:=h
 refine wpAny_While (codeAny_whileLoop (fun n s'=>∃ σ' H',Inv X pins σ' H' s'∧W n σ' H') ?_ m0 ⟨σ,H,I,w0⟩)
 rintro n s1 ⟨σ1,H1,I1,w1⟩
 refine wpAny_passesOwn hp (thn (hc pins s1 σ1 H1 _ I1 (turn n σ1 H1 w1)) fun b s2 ⟨H2,I2,q2⟩=>?_)
 cases b with
 | true =>
  obtain ⟨N,hN,q2⟩:=q2
  rw [if_pos rfl]
  refine wpAny_passesOwn hp (thn (hb pins s2 σ1 H2 _ I2 q2) fun f s3 q3=>?_)
  cases f with
  | next =>
   obtain ⟨σ3,H3,I3,n3⟩:=q3
   obtain ⟨m',hm,w3⟩:=hN σ3 H3 n3
   exact ⟨m',hm,σ3,H3,I3,w3⟩
  | cont =>
   obtain ⟨σ3,H3,I3,n3⟩:=q3
   obtain ⟨m',hm,w3⟩:=hN σ3 H3 n3
   exact ⟨m',hm,σ3,H3,I3,w3⟩
  | brk=>exact q3
  | ret v=>exact q3
 | false =>
  rw [if_neg Bool.false_ne_true]
  exact wpAny_execs_nil ⟨σ1,H2,I2,q2⟩
end

structure It where
 go:Nat→Hp→Prop
 yld:Nat→Hp→V→Hp→Prop
 stop:Nat→Hp→Prop
def FpOk (X:Cx) (pins:List (Addr × Obj)) (H:Hp) (b:Addr):Prop :=
 H b = none∧b≠X.env.locals∧b ∉ X.fs∧(b∈X.ex∨X.s₀.heap.objs.size≤b)∧(∀ x c,X.env.cells.lookup x = some c→c≠b)∧∀ p∈X.pn ++ pins,p.1≠b
theorem Inv.fpOk {X:Cx} {pins:List (Addr × Obj)} {σ:St} {H H':Hp} {s:Shared} {b:Addr} (I:Inv X pins σ H s) (hb:s.heap.objs.size≤b) (hn:H' b = none):FpOk X pins H' b:=by
 refine ⟨hn,Nat.ne_of_gt (Nat.lt_of_lt_of_le I.lt hb),I.nofs hb,.inr (Nat.le_trans I.sz hb),fun x c e z=>?_,fun p hp z=>?_⟩
 ·obtain ⟨v,q⟩:=I.cell x c e
  exact absurd (Nat.lt_of_lt_of_le q.lt (by rw [z]; exact hb)) (Nat.lt_irrefl _)
 ·exact absurd (Nat.lt_of_lt_of_le (Heap.lt_size (I.pin p hp).1) (by rw [z]; exact hb)) (Nat.lt_irrefl _)
structure Turn (P:Program) (w:World) (K:PySem.W.Frag) (tg:Expr) (J:It) (fp:List Addr) (it:Addr) (tn:Nat→Heap→Prop):Prop where
 mem:it∈fp
 obj:∀ i h,tn i h→∀ b∈fp,∃ o,h.get? b = some o∧∀ v,o.data≠.cell v
 keep:∀ i h h',tn i h→(∀ b∈fp,∀ o,h.get? b = some o→h'.get? b = some o)→tn i h'
 item:∀ (X:Cx),X.prog = P→X.w = w→X.K = K→X.calm = true→∀ (i:Nat) (pins:List (Addr × Obj)) (s:Shared) (σ:St) (H:Hp) (E:Value→Shared→Prop),Inv X pins σ H s→(∀ b∈fp,FpOk X pins H b)→tn i s.heap→J.go i H →
  wpAny (model P w) X.A (pyNext (.ref it)) (fun r s1=>∃ u,r = some u ∧
   wpAny (model P w) X.A (letOwnedTupleGo tg (.ref it) u) (fun _ s2=>∃ x H',Inv X pins σ H' s2∧RelV x u∧J.yld i H x H'∧tn (i + 1) s2.heap∧∀ b∈fp,H' b = none) E s1) E s
 done:∀ (X:Cx),X.prog = P→X.w = w→X.K = K→X.calm = true→∀ (i:Nat) (pins:List (Addr × Obj)) (s:Shared) (σ:St) (H:Hp) (E:Value→Shared→Prop),Inv X pins σ H s→(∀ b∈fp,FpOk X pins H b)→tn i s.heap→J.stop i H →
  wpAny (model P w) X.A (pyNext (.ref it)) (fun r s1=>r = none∧Inv X pins σ H s1) E s
 self:∀ (A:Around) (i:Nat) (s:Shared) (Q:Value→Shared→Prop) (E:Value→Shared→Prop),tn i s.heap→Q (.ref it) s→wpAny (model P w) A (pyIter (.ref it)) Q E s
abbrev TI:=St→Hp→(It→Hp→Prop)→Prop
def PIE (X:Cx) (pins:List (Addr × Obj)) (σ:St) (tg:Expr) (R:It→Hp→Prop) (itv:Value) (s2:Shared):Prop :=
 ∃ (it:Addr) (fp:List Addr) (tn:Nat→Heap→Prop) (J:It) (H':Hp),itv = .ref it∧Inv X pins σ H' s2∧Turn X.prog X.w X.K tg J fp it tn∧tn 0 s2.heap∧(∀ b∈fp,FpOk X pins H' b)∧R J H'
def PI (X:Cx) (tg iter:Expr) (wi:TI):Prop :=
 ∀ (pins:List (Addr × Obj)) (s:Shared) (σ:St) (H:Hp) (R:It→Hp→Prop),Inv X pins σ H s→wi σ H R →
  wpAny (model X.prog X.w) X.A (eval iter X.env) (fun v s1=>wpAny (model X.prog X.w) X.A (pyIter v) (PIE X pins σ tg R) X.xe s1) X.xe s

theorem zTa {M:Model} {A:Around} {E:Value→Shared→Prop} {s:Shared} {tg:Expr} {it:Addr} {u:Value} {o:Obj} {n:String} {vs:Array Value} {Q:Unit→Shared→Prop} (ho:s.heap.get? it = some o) (hc:o.cls = .type n) (hd:o.data = .fields vs)
  (hn:["enumerate", "zip", "dict_itemiterator", "dict_reverseitemiterator", "odict_iterator", "itertools.zip_longest", "itertools.pairwise"].contains n = false) (hQ:Q () s):wpAny M A (letOwnedTupleGo tg (.ref it) u) Q E s:=by
 unfold letOwnedTupleGo
 cases tg <;> first
  | exact wpAny_pure hQ
  | (cases u <;> first
    | exact wpAny_pure hQ
    | (refine wpAny_bind (wpAny_load ho ?_)
       rw [hc,hd]
       show wpAny M A (if (["enumerate", "zip", "dict_itemiterator", "dict_reverseitemiterator", "odict_iterator", "itertools.zip_longest", "itertools.pairwise"].contains n && vs[0]? == some (rawInt _)) = true then _ else _) Q E s
       rw [if_neg (by intro h; rw [hn,Bool.false_and] at h; cases h)]
       exact wpAny_pure hQ))

def Itl (K:PySem.W.Frag) (a:Addr):It :=
 ⟨fun i H=>∃ xs x,SqL K H a xs∧xs[i]? = some x,fun i H x H'=>H' = H∧∀ xs,SqL K H a xs→xs[i]? = some x,fun i H=>∃ xs,SqL K H a xs∧xs.length≤i⟩
def Itt (K:PySem.W.Frag) (a:Addr):It :=
 ⟨fun i H=>∃ xs x,SqT K H a xs∧xs[i]? = some x,fun i H x H'=>H' = H∧∀ xs,SqT K H a xs→xs[i]? = some x,fun i H=>∃ xs,SqT K H a xs∧xs.length≤i⟩
def Itr (lo:Int) (n:Nat):It:=⟨fun i _=>i < n,fun i H x H'=>H' = H∧x = .int (lo + i),fun i _=>n≤i⟩
theorem zL2 {P:Program} {w:World} {K:PySem.W.Frag} {tg:Expr} (a it:Addr):Turn P w K tg (Itl K a) [it] it (fun i h=>h.IsListIter it a i) where
 mem:=by simp
 obj:=fun i h st b hb=>by
  have e:b = it:=by simpa using hb
  subst e
  obtain ⟨o,e,c,d⟩:=st
  exact ⟨o,e,fun v z=>by rw [d] at z; cases z⟩
 keep:=fun i h h' st k=>st.at fun o e=>k it (by simp) o e
 item:=by
  intro X hP hw hK hc i pins s σ H E I hf st hg
  subst hP hw hK
  obtain ⟨xs,x,hq,hx⟩:=hg
  obtain ⟨its,rv,p,hz⟩:=I.list hq
  obtain ⟨u,hu,ru⟩:=rv.get hx
  obtain ⟨f0,f1,f2,f3,f4,f5⟩:=hf it (by simp)
  refine wpAny_pyNext_list_item st p.isList (x:=u) (by simpa using hu) fun h' st' sb=>?_
  have I1:Inv X pins σ H { s with heap:=h' }:=I.turned (t':=s.toks) (fun b o hb e=>(sb.2 b hb).trans e) f0 f1 f3 f4 f5
  obtain ⟨o,e,c,d⟩:=id st'
  exact ⟨u,rfl,zTa (s:={ s with heap:=h' }) e c d (by decide) ⟨x,H,I1,ru,⟨rfl,fun ys hy=>by rw [I.list_inj hy hq]; exact hx⟩,st',fun b hb=>(hf b hb).1⟩⟩
 done:=by
  intro X hP hw hK hc i pins s σ H E I hf st hg
  subst hP hw hK
  obtain ⟨xs,hq,hx⟩:=hg
  obtain ⟨its,rv,p,hz⟩:=I.list hq
  obtain ⟨f0,f1,f2,f3,f4,f5⟩:=hf it (by simp)
  have hl:=rv.length
  exact wpAny_pyNext_list_end (I.ok.hd hc) st p.isList (by simp; omega) fun h' eb=>⟨rfl,I.turned (t':=s.toks) (fun b o hb e=>eb b o hb e) f0 f1 f3 f4 f5⟩
 self:=fun _ _ _ _ _ st h=>wpAny_pyIter_listiter st h
theorem zOo {P:Program} {w:World} {K:PySem.W.Frag} {tg:Expr} (a it:Addr):Turn P w K tg (Itt K a) [it] it (fun i h=>h.IsTupleIter it a i) where
 mem:=by simp
 obj:=fun i h st b hb=>by
  have e:b = it:=by simpa using hb
  subst e
  obtain ⟨o,e,c,d⟩:=st
  exact ⟨o,e,fun v z=>by rw [d] at z; cases z⟩
 keep:=fun i h h' st k=>st.at fun o e=>k it (by simp) o e
 item:=by
  intro X hP hw hK hc i pins s σ H E I hf st hg
  subst hP hw hK
  obtain ⟨xs,x,hq,hx⟩:=hg
  obtain ⟨its,rv,p,hz⟩:=I.tuple hq
  obtain ⟨u,hu,ru⟩:=rv.get hx
  obtain ⟨f0,f1,f2,f3,f4,f5⟩:=hf it (by simp)
  refine wpAny_pyNext_tuple_item st (show s.heap.IsTuple a its.toArray from p) (x:=u) (by simpa using hu) fun h' st' sb=>?_
  have I1:Inv X pins σ H { s with heap:=h' }:=I.turned (t':=s.toks) (fun b o hb e=>(sb.2 b hb).trans e) f0 f1 f3 f4 f5
  obtain ⟨o,e,c,d⟩:=id st'
  exact ⟨u,rfl,zTa (s:={ s with heap:=h' }) e c d (by decide) ⟨x,H,I1,ru,⟨rfl,fun ys hy=>by rw [I.tuple_inj hy hq]; exact hx⟩,st',fun b hb=>(hf b hb).1⟩⟩
 done:=by
  intro X hP hw hK hc i pins s σ H E I hf st hg
  subst hP hw hK
  obtain ⟨xs,hq,hx⟩:=hg
  obtain ⟨its,rv,p,hz⟩:=I.tuple hq
  obtain ⟨f0,f1,f2,f3,f4,f5⟩:=hf it (by simp)
  have hl:=rv.length
  exact wpAny_pyNext_tuple_end (I.ok.hd hc) st (show s.heap.IsTuple a its.toArray from p) (by simp; omega) fun h' eb=>⟨rfl,I.turned (t':=s.toks) (fun b o hb e=>eb b o hb e) f0 f1 f3 f4 f5⟩
 self:=fun _ _ _ _ _ st h=>wpAny_pyIter_tupleiter st h
theorem zOp {P:Program} {w:World} {K:PySem.W.Frag} {tg:Expr} (it:Addr) (lo:Int) (n:Nat):Turn P w K tg (Itr lo n) [it] it (fun i h=>IsRangeIter h it (lo + (i:Nat) * 1) ((n:Int) - (i:Nat)) 1) where
 mem:=by simp
 obj:=fun i h st b hb=>by
  have e:b = it:=by simpa using hb
  subst e
  exact ⟨_,st,fun v z=>by
   have z':Data.fields _ = Data.cell v:=z
   cases z'⟩
 keep:=fun i h h' st k=>k it (by simp) _ st
 item:=by
  intro X hP hw hK hc i pins s σ H E I hf st hg
  subst hP hw hK
  obtain ⟨f0,f1,f2,f3,f4,f5⟩:=hf it (by simp)
  have W:=Walks.range (prog:=X.prog) (w:=X.w) (I.ok.hd hc) it lo 1 n
  refine W.item i s _ _ hg st fun v h' tk hv st' kk=>?_
  obtain ⟨t,rfl⟩:=hv
  have I1:Inv X pins σ H { s with heap:=h',toks:=tk }:=I.turned (fun b o hb e=>kk b o (by simpa using hb) e) f0 f1 f3 f4 f5
  refine ⟨_,rfl,zTa (s:={ s with heap:=h',toks:=tk }) (n := "range_iterator") st' rfl rfl (by decide) ⟨.int (lo + i),H,I1,⟨t,?_⟩,⟨rfl,rfl⟩,st',fun b hb=>(hf b hb).1⟩⟩
  rw [Int.mul_one]
 done:=by
  intro X hP hw hK hc i pins s σ H E I hf st hg
  subst hP hw hK
  obtain ⟨f0,f1,f2,f3,f4,f5⟩:=hf it (by simp)
  exact wpAny_pyNext_range_end (I.ok.hd hc) st (by have:n≤i:=hg; omega) fun h' eb=>⟨rfl,I.turned (t':=s.toks) (fun b o hb e=>eb b o hb e) f0 f1 f3 f4 f5⟩
 self:=fun _ _ _ _ _ st h=>wpAny_pyIter_rangeiter st h
end L2

namespace L2
open PySem PySem.Spec PyProof.Rows
section
variable {X:Cx} {tg:Expr}
def iList (K:PySem.W.Frag) (tl:TE):TI:=fun σ H R=>tl σ H fun x H1=>∃ a,x = .ref a∧(∃ xs,SqL K H1 a xs)∧R (Itl K a) H1
theorem zMt {l:Expr} {tl:TE} (hl:PE X l tl):PI X tg l (iList X.K tl):=by
 intro pins s σ H R I h
 refine thn (hl pins s σ H _ I h) fun v s1 ⟨x,H1,I1,r1,q1⟩=>?_
 obtain ⟨a,e,⟨xs,hq⟩,q⟩:=q1
 subst e
 cases r1
 obtain ⟨its,rv,p,hz⟩:=I1.list hq
 refine wpAny_pyIter_list p.isList ?_
 refine ⟨s1.heap.objs.size,[s1.heap.objs.size],_,_,H1,rfl,I1.kept (t':=s1.toks) fun b o e=>Heap.get?_push_of_some _ e,zL2 a _,⟨_,Heap.get?_push_size _ rfl,rfl,rfl⟩,fun b hb=>?_,q⟩
 have e:b = s1.heap.objs.size:=by simpa using hb
 subst e
 exact I1.fpOk (Nat.le_refl _) (I1.hok.fresh (Nat.le_refl _))
theorem zOg {pins:List (Addr × Obj)} {σ:St} {H:Hp} {s:Shared} {R:It→Hp→Prop} {E:Value→Shared→Prop} {lo hi:Int} {t u v:Tok} {tk:Nat} (I:Inv X pins σ H s) (h1 : -(2 ^ 62)≤lo) (h2:lo < 2 ^ 62) (h3 : -(2 ^ 62)≤hi) (h4:hi < 2 ^ 62)
  (q:R (Itr lo (hi - lo).toNat) H):wpAny (model X.prog X.w) X.A (pyIter (.ref s.heap.objs.size)) (PIE X pins σ tg R) E { s with heap:=s.heap.push { cls:=.type "range", data:=.fields #[.int lo t,.int hi u,.int 1 v] },toks:=tk }:=by
 refine wpAny_pyIter_range (IsRange.new ..) (small_one h1 h2 h3 h4) ?_
 have I1:Inv X pins σ H { s with heap:=s.heap.push { cls:=.type "range", data:=.fields #[.int lo t,.int hi u,.int 1 v] },toks:=tk }:=I.kept fun b o e=>Heap.get?_push_of_some _ e
 refine ⟨(s.heap.push { cls:=.type "range", data:=.fields #[.int lo t,.int hi u,.int 1 v] }).objs.size,[(s.heap.push { cls:=.type "range", data:=.fields #[.int lo t,.int hi u,.int 1 v] }).objs.size],_,_,H,rfl,
  I1.kept (t':=tk) fun b o e=>Heap.get?_push_of_some _ e,zOp _ lo (hi - lo).toNat,?_,fun b hb=>?_,q⟩
 ·have e1:lo + ((0:Nat):Int) * 1 = lo:=by simp
  have e2:(((hi - lo).toNat:Nat):Int) - ((0:Nat):Int) = Builtin.Range.rangeSize lo hi 1:=by rw [rangeSize_one]; split <;> omega
  show IsRangeIter _ _ (lo + ((0:Nat):Int) * 1) ((((hi - lo).toNat:Nat):Int) - ((0:Nat):Int)) 1
  rw [e1,e2]
  exact Heap.get?_push_size _ rfl
 ·have e:b = (s.heap.push { cls:=.type "range", data:=.fields #[.int lo t,.int hi u,.int 1 v] }).objs.size:=by simpa using hb
  subst e
  exact I1.fpOk (Nat.le_refl _) (I1.hok.fresh (Nat.le_refl _))
def iRng1 (ta:TA):TI:=fun σ H R=>ta σ H fun vs H1=>∃ j:Int,vs = [.int j]∧-(2 ^ 62)≤j∧j < 2 ^ 62∧R (Itr 0 j.toNat) H1
def iRng2 (ta:TA):TI:=fun σ H R=>ta σ H fun vs H1=>∃ i j:Int,vs = [.int i,.int j]∧(-(2 ^ 62)≤i∧i < 2 ^ 62∧-(2 ^ 62)≤j∧j < 2 ^ 62)∧R (Itr i (j - i).toNat) H1
theorem zEx {a:Expr} {ta:TA} {p pos:Pos} (hg:Gl X "range") (hm:X.mg "range" = none) (ha:PA X [a] ta) (hs:starEach [a] X.env = [(false,eval a X.env)]:=by rfl):PI X tg (.Call (.Name "range" p) [a] [] pos) (iRng1 ta):=by
 intro pins s σ H R I h
 refine Call_ (zH2 I hg hm boot_range (PyProof.Rows.callWith_type1 (thn (ha pos pins s σ H _ I h) fun us s1 ⟨vs,H1,I1,r1,q1⟩=>?_) hs rfl))
 obtain ⟨j,e,q1,q2,q⟩:=q1
 subst e
 cases r1 with
 | cons r rr =>
  cases rr
  obtain ⟨t,rfl⟩:=r
  exact call_range_1 (zOg I1 (by omega) (by omega) q1 q2 (by simpa using q))
theorem zPn {a b:Expr} {ta:TA} {p pos:Pos} (hg:Gl X "range") (hm:X.mg "range" = none) (ha:PA X [a,b] ta) (hs:starEach [a,b] X.env = [(false,eval a X.env),(false,eval b X.env)]:=by rfl) (hs2:starEach [b] X.env = [(false,eval b X.env)]:=by rfl) :
  PI X tg (.Call (.Name "range" p) [a,b] [] pos) (iRng2 ta):=by
 intro pins s σ H R I h
 refine Call_ (zH2 I hg hm boot_range (PyProof.Rows.callWith_type1 (thn (ha pos pins s σ H _ I h) fun us s1 ⟨vs,H1,I1,r1,q1⟩=>?_) (by rw [hs,hs2]) (by rw [hs2]; rfl)))
 obtain ⟨i,j,e,⟨q1,q2,q3,q4⟩,q⟩:=q1
 subst e
 cases r1 with
 | cons r rr =>
  cases rr with
  | cons r' rr =>
   cases rr
   obtain ⟨t,rfl⟩:=r
   obtain ⟨t',rfl⟩:=r'
   exact call_range_2 (zOg I1 q1 q2 q3 q4 q)

def tFor (wi:TI) (g:TG) (tb:TS):TS:=fun D σ H=>wi σ H fun J H1=>∃ W:Nat→Nat→St→Hp→Prop,(∃ m,W 0 m σ H1)∧∀ i m σ H,W i m σ H →
 (J.stop i H∧D.nx σ H)∨(J.go i H∧∃ N:St→Hp→Prop,(∀ σ' H',N σ' H'→∃ m',m' < m∧W (i + 1) m' σ' H')∧∀ x H',J.yld i H x H'→g x σ H' fun σ2 H2=>tb { D with nx:=N,ct:=N,bk:=D.nx } σ2 H2)
def zIc (fp:List Addr) (h:Heap):List (Addr × Obj):=fp.filterMap fun b=>(h.get? b).map fun o=>(b,o)
theorem zB8 {fp:List Addr} {h:Heap} {b:Addr} {o:Obj} (hb:b∈fp) (e:h.get? b = some o):(b,o)∈zIc fp h:=List.mem_filterMap.mpr ⟨b,hb,by rw [e]; rfl⟩
theorem zQ7 {fp:List Addr} {h:Heap} {p:Addr × Obj} (hp:p∈zIc fp h):p.1∈fp∧h.get? p.1 = some p.2:=by
 obtain ⟨b,hb,e⟩:=List.mem_filterMap.mp hp
 cases q:h.get? b with
 | none=>rw [q] at e; cases e
 | some o =>
  rw [q] at e
  have e':(b,o) = p:=Option.some.inj e
  subst e'
  exact ⟨hb,q⟩
theorem Inv.pinned {pins:List (Addr × Obj)} {σ:St} {H:Hp} {s:Shared} {fp:List Addr} (I:Inv X pins σ H s) (hf:∀ b∈fp,FpOk X pins H b) (ho:∀ b∈fp,∃ o,s.heap.get? b = some o∧∀ v,o.data≠.cell v):Inv X (pins ++ zIc fp s.heap) σ H s :=
 I.pins_of fun p hp=>(List.mem_append.mp hp).elim (fun z=>I.pin p (List.mem_append_right _ z)) fun z=>by
  obtain ⟨hb,e⟩:=zQ7 z
  obtain ⟨f0,f1,f2,_⟩:=hf p.1 hb
  obtain ⟨o,e',d⟩:=ho p.1 hb
  rw [e] at e'; cases e'
  exact ⟨e,f0,f1,f2,d⟩
theorem Inv.unpinned {pins pl:List (Addr × Obj)} {σ:St} {H:Hp} {s:Shared} (I:Inv X (pins ++ pl) σ H s):Inv X pins σ H s:=I.pins_of fun p hp=>I.pin p (List.mem_append_right _ (List.mem_append_left _ hp))
theorem zCh {iter:Expr} {body:List Stmt} {wi:TI} {g:TG} {tb:TS} {pos:Pos} (hp:PassesOwn (model X.prog X.w) X.A X.env X.xe) (hc:X.calm = true) (hi:PI X tg iter wi) (hg:PG X tg g) (hb:PSs X body tb)
  (hs:∀ x,foldedSetIterable iter X.env x = pure x:=by intro _; rfl):PS X (.For tg iter body [] pos) (tFor wi g tb):=by
 intro pins s σ H D I h
 refine wpAny_For (thn (hi pins s σ H _ I h) fun v s1 h1=>thn h1 fun itv s2 h2=>?_) hs
 obtain ⟨it,fp,tn,J,H2,e,I2,T,st2,f2,W,⟨m0,w0⟩,turn⟩:=h2
 subst e
 have stat:∀ {H':Hp},(∀ b∈fp,H' b = none)→∀ b∈fp,FpOk X pins H' b:=fun hn b hb=>⟨hn b hb,(f2 b hb).2⟩
 refine codeAny_forLoop_any (fun n s'=>∃ i σ' H',Inv X pins σ' H' s'∧tn i s'.heap∧(∀ b∈fp,H' b = none)∧W i n σ' H') ?_ m0 ⟨0,σ,H2,I2,st2,fun b hb=>(f2 b hb).1,w0⟩
 rintro n s3 ⟨i,σ3,H3,I3,st3,fr3,w3⟩
 rcases turn i n σ3 H3 w3 with ⟨stop,qn⟩ | ⟨go,N,hN,step⟩
 ·refine wpAny_passesOwn hp (thn (T.done X rfl rfl rfl hc i pins s3 σ3 H3 X.xe I3 (stat fr3) st3 stop) fun r s4 ⟨hr,I4⟩=>?_)
  subst hr
  exact wpAny_execs_nil ⟨σ3,H3,I4,qn⟩
 ·refine wpAny_passesOwn hp (thn (T.item X rfl rfl rfl hc i pins s3 σ3 H3 X.xe I3 (stat fr3) st3 go) fun r s4 ⟨u,hr,h4⟩=>?_)
  subst hr
  refine wpAny_passesOwn hp (thn h4 fun _ s5 ⟨x,H5,I5,r5,y5,st5,fr5⟩=>?_)
  have I5':=I5.pinned (stat fr5) (T.obj _ _ st5)
  refine wpAny_passesOwn hp (thn (hg _ s5 σ3 H5 x u _ I5' r5 (step x H5 y5)) fun _ s6 ⟨σ6,H6,I6,q6⟩=>?_)
  refine wpAny_passesOwn hp (thn (hb _ s6 σ6 H6 _ I6 q6) fun f s7 q7=>?_)
  have again:∀ {σ7:St} {H7:Hp},Inv X (pins ++ zIc fp s5.heap) σ7 H7 s7→N σ7 H7→∃ m,m < n∧∃ i σ' H',Inv X pins σ' H' s7∧tn i s7.heap∧(∀ b∈fp,H' b = none)∧W i m σ' H':=fun {σ7 H7} I7 n7=>by
   obtain ⟨m',hm,w7⟩:=hN σ7 H7 n7
   refine ⟨m',hm,i + 1,σ7,H7,I7.unpinned,T.keep _ _ _ st5 fun b hb o e=>(I7.pin (b,o) (List.mem_append_right _ (List.mem_append_right _ (zB8 hb e)))).1,fun b hb=>?_,w7⟩
   obtain ⟨o,e,d⟩:=T.obj _ _ st5 b hb
   exact (I7.pin (b,o) (List.mem_append_right _ (List.mem_append_right _ (zB8 hb e)))).2.1
  cases f with
  | next=>obtain ⟨σ7,H7,I7,n7⟩:=q7; exact again I7 n7
  | cont=>obtain ⟨σ7,H7,I7,n7⟩:=q7; exact again I7 n7
  | brk=>obtain ⟨σ7,H7,I7,q7⟩:=q7; exact ⟨σ7,H7,I7.unpinned,q7⟩
  | ret v=>obtain ⟨x7,σ7,H7,I7,r7,q7⟩:=q7; exact ⟨x7,σ7,H7,I7.unpinned,r7,q7⟩
end

theorem zBq {K:PySem.W.Frag} {a:Addr} {xs:List V} {g:TG} {tb:TS} {D:Ends} {σ:St} {H:Hp} (Pv:Nat→St→Hp→Prop) (h0:Pv 0 σ H) (hl:∀ i σ H,i≤xs.length→Pv i σ H→SqL K H a xs)
  (hs:∀ i x σ H,xs[i]? = some x→Pv i σ H→g x σ H fun σ2 H2=>tb { D with nx:=Pv (i + 1),ct:=Pv (i + 1),bk:=D.nx } σ2 H2) (hd:∀ σ H,Pv xs.length σ H→D.nx σ H) :
  ∃ W:Nat→Nat→St→Hp→Prop,(∃ m,W 0 m σ H)∧∀ i m σ H,W i m σ H →
   ((Itl K a).stop i H∧D.nx σ H)∨((Itl K a).go i H∧∃ N:St→Hp→Prop,(∀ σ' H',N σ' H'→∃ m',m' < m∧W (i + 1) m' σ' H')∧∀ x H',(Itl K a).yld i H x H'→g x σ H' fun σ2 H2=>tb { D with nx:=N,ct:=N,bk:=D.nx } σ2 H2):=by
 refine ⟨fun i m σ H=>m = xs.length - i∧i≤xs.length∧Pv i σ H,⟨xs.length,by simp,Nat.zero_le _,h0⟩,?_⟩
 rintro i m σ H ⟨rfl,hi,p⟩
 have q:=hl i σ H hi p
 by_cases hlt:i < xs.length
 ·refine .inr ⟨⟨xs,xs[i],q,by simp [hlt]⟩,Pv (i + 1),fun σ' H' p'=>⟨xs.length - (i + 1),by omega,rfl,hlt,p'⟩,fun x H' y=>?_⟩
  obtain ⟨e,y⟩:=y
  subst e
  exact hs i x σ _ (y xs q) p
 ·have e:i = xs.length:=by omega
  subst e
  exact .inl ⟨⟨xs,q,Nat.le_refl _⟩,hd σ H p⟩
theorem zTs {K:PySem.W.Frag} {a:Addr} {xs:List V} {g:TG} {tb:TS} {D:Ends} {σ:St} {H:Hp} (Pv:Nat→St→Hp→Prop) (h0:Pv 0 σ H) (hl:∀ i σ H,i≤xs.length→Pv i σ H→SqT K H a xs)
  (hs:∀ i x σ H,xs[i]? = some x→Pv i σ H→g x σ H fun σ2 H2=>tb { D with nx:=Pv (i + 1),ct:=Pv (i + 1),bk:=D.nx } σ2 H2) (hd:∀ σ H,Pv xs.length σ H→D.nx σ H) :
  ∃ W:Nat→Nat→St→Hp→Prop,(∃ m,W 0 m σ H)∧∀ i m σ H,W i m σ H →
   ((Itt K a).stop i H∧D.nx σ H)∨((Itt K a).go i H∧∃ N:St→Hp→Prop,(∀ σ' H',N σ' H'→∃ m',m' < m∧W (i + 1) m' σ' H')∧∀ x H',(Itt K a).yld i H x H'→g x σ H' fun σ2 H2=>tb { D with nx:=N,ct:=N,bk:=D.nx } σ2 H2):=by
 refine ⟨fun i m σ H=>m = xs.length - i∧i≤xs.length∧Pv i σ H,⟨xs.length,by simp,Nat.zero_le _,h0⟩,?_⟩
 rintro i m σ H ⟨rfl,hi,p⟩
 have q:=hl i σ H hi p
 by_cases hlt:i < xs.length
 ·refine .inr ⟨⟨xs,xs[i],q,by simp [hlt]⟩,Pv (i + 1),fun σ' H' p'=>⟨xs.length - (i + 1),by omega,rfl,hlt,p'⟩,fun x H' y=>?_⟩
  obtain ⟨e,y⟩:=y
  subst e
  exact hs i x σ _ (y xs q) p
 ·have e:i = xs.length:=by omega
  subst e
  exact .inl ⟨⟨xs,q,Nat.le_refl _⟩,hd σ H p⟩
theorem zGg {lo:Int} {n:Nat} {g:TG} {tb:TS} {D:Ends} {σ:St} {H:Hp} (Pv:Nat→St→Hp→Prop) (h0:Pv 0 σ H)
  (hs:∀ i σ H,i < n→Pv i σ H→g (.int (lo + i)) σ H fun σ2 H2=>tb { D with nx:=Pv (i + 1),ct:=Pv (i + 1),bk:=D.nx } σ2 H2) (hd:∀ σ H,Pv n σ H→D.nx σ H) :
  ∃ W:Nat→Nat→St→Hp→Prop,(∃ m,W 0 m σ H)∧∀ i m σ H,W i m σ H →
   ((Itr lo n).stop i H∧D.nx σ H)∨((Itr lo n).go i H∧∃ N:St→Hp→Prop,(∀ σ' H',N σ' H'→∃ m',m' < m∧W (i + 1) m' σ' H')∧∀ x H',(Itr lo n).yld i H x H'→g x σ H' fun σ2 H2=>tb { D with nx:=N,ct:=N,bk:=D.nx } σ2 H2):=by
 refine ⟨fun i m σ H=>m = n - i∧i≤n∧Pv i σ H,⟨n,by simp,Nat.zero_le _,h0⟩,?_⟩
 rintro i m σ H ⟨rfl,hi,p⟩
 by_cases hlt:i < n
 ·refine .inr ⟨hlt,Pv (i + 1),fun σ' H' p'=>⟨n - (i + 1),by omega,rfl,hlt,p'⟩,fun x H' y=>?_⟩
  obtain ⟨e,y⟩:=y
  subst e y
  exact hs i σ _ hlt p
 ·have e:i = n:=by omega
  subst e
  exact .inl ⟨Nat.le_refl _,hd σ H p⟩
theorem zEc {c:TT} {tb:TS} {D:Ends} {σ:St} {H:Hp} (Pv:St→Hp→Prop) (μ:St→Hp→Nat) (h0:Pv σ H)
  (hs:∀ σ H,Pv σ H→c σ H fun b H1=>if b = true then tb { D with nx:=fun σ' H'=>Pv σ' H'∧μ σ' H' < μ σ H,ct:=fun σ' H'=>Pv σ' H'∧μ σ' H' < μ σ H,bk:=D.nx } σ H1 else D.nx σ H1)
  (mono:∀ σ H Q Q',(∀ b H1,Q b H1→Q' b H1)→c σ H Q→c σ H Q'):zTq c tb D σ H:=by
 refine ⟨fun m σ H=>m = μ σ H∧Pv σ H,⟨_,rfl,h0⟩,?_⟩
 rintro m σ H ⟨rfl,p⟩
 refine mono σ H _ _ (fun b H1 q=>?_) (hs σ H p)
 cases b with
 | true=>exact ⟨_,fun σ' H' ⟨p',l⟩=>⟨_,l,rfl,p'⟩,q⟩
 | false=>exact q
end L2

namespace L2
open PySem PySem.Spec PyProof.Rows

abbrev R2:=V→V→Hp→VK→Prop
def OpR (X:Cx) (f:Value→Value→Sem Value) (r:R2):Prop :=
 ∀ (pins:List (Addr × Obj)) (s:Shared) (σ:St) (H:Hp) (x y:V) (v u:Value) (Q:VK),Inv X pins σ H s→RelV x v→RelV y u→r x y H Q →
  wpAny (model X.prog X.w) X.A (f v u) (EP X pins σ Q) X.xe s
def UnR (X:Cx) (f:Value→Sem Value) (r:V→Hp→VK→Prop):Prop :=
 ∀ (pins:List (Addr × Obj)) (s:Shared) (σ:St) (H:Hp) (x:V) (v:Value) (Q:VK),Inv X pins σ H s→RelV x v→r x H Q →
  wpAny (model X.prog X.w) X.A (f v) (EP X pins σ Q) X.xe s
def zHk (X:Cx) (f:Value) (r:List V→Hp→VK→Prop):Prop :=
 ∀ (pins:List (Addr × Obj)) (s:Shared) (σ:St) (H:Hp) (xs:List V) (us:List Value) (Q:VK),Inv X pins σ H s→Vals xs us→r xs H Q →
  wpAny (model X.prog X.w) X.A (call f us) (EP X pins σ Q) X.xe s
def tOp (r:R2) (ta tb:TE):TE:=fun σ H Q=>ta σ H fun x H1=>tb σ H1 fun y H2=>r x y H2 Q
def tUn (r:V→Hp→VK→Prop) (ta:TE):TE:=fun σ H Q=>ta σ H fun x H1=>r x H1 Q
inductive RI (C:Int→Int→Prop) (g:Int→Int→V) (x y:V) (H:Hp) (Q:VK):Prop where
 | mk (i j:Int) (ex:x = .int i) (ey:y = .int j) (c:C i j) (q:Q (g i j) H)
def rI (C:Int→Int→Prop) (g:Int→Int→V):R2:=fun x y H Q=>RI C g x y H Q
inductive RI0 (g:Int→Int→V) (x y:V) (H:Hp) (Q:VK):Prop where
 | mk (i j:Int) (ex:x = .int i) (ey:y = .int j) (q:Q (g i j) H)
def rI0 (g:Int→Int→V):R2:=fun x y H Q=>RI0 g x y H Q
inductive RU (g:Int→V) (x:V) (H:Hp) (Q:VK):Prop where
 | mk (i:Int) (ex:x = .int i) (q:Q (g i) H)
def rU (g:Int→V):V→Hp→VK→Prop:=fun x H Q=>RU g x H Q

section
variable {X:Cx} {a b c:Expr} {ta tb tc:TE} {pos:Pos}

theorem binT (ha:PE X a ta) (hb:PE X b tb) {pins:List (Addr × Obj)} {s:Shared} {σ:St} {H:Hp} {R:V→V→Hp→Prop} (I:Inv X pins σ H s)
  (h:ta σ H fun x H1=>tb σ H1 fun y H2=>R x y H2) {Q:Value→Shared→Prop} {f:Value→Value→Sem Value}
  (hf:∀ v u s2 x y H2,Inv X pins σ H2 s2→RelV x v→RelV y u→R x y H2→wpAny (model X.prog X.w) X.A (f v u) Q X.xe s2) :
  wpAny (model X.prog X.w) X.A (eval a X.env) (fun v s₁=>wpAny (model X.prog X.w) X.A (eval b X.env) (fun u s₂=>wpAny (model X.prog X.w) X.A (f v u) Q X.xe s₂) X.xe s₁) X.xe s:=by
 refine thn (ha pins s σ H _ I h) fun v s1 ⟨x,H1,I1,r1,q1⟩=>?_
 refine thn (hb pins s1 σ H1 _ I1 q1) fun u s2 ⟨y,H2,I2,r2,q2⟩=>?_
 exact hf v u s2 x y H2 I2 r1 r2 q2

theorem zAm {op:Operator} {r:R2} (ho:OpR X (binaryOp op) r) (ha:PE X a ta) (hb:PE X b tb):PE X (.BinOp a op b pos) (tOp r ta tb):=by
 intro pins s σ H Q I h
 exact wpAny_BinOp (binT ha hb I h fun v u s2 x y H2 I2 rx ry q=>ho pins s2 σ H2 x y v u Q I2 rx ry q)
theorem zLd {op:UnaryOp} {r:V→Hp→VK→Prop} (ho:UnR X (unaryOp op) r) (ha:PE X a ta):PE X (.UnaryOp op a pos) (tUn r ta):=by
 intro pins s σ H Q I h
 exact UnaryOp_ (thn (ha pins s σ H _ I h) fun v s1 ⟨x,H1,I1,r1,q1⟩=>ho pins s1 σ H1 x v Q I1 r1 q1)
theorem opI {f:Value→Value→Sem Value} {C:Int→Int→Prop} {g:Int→Int→Int}
  (rule:∀ (i j:Int) (t u:Tok) (s:Shared) (Q:Value→Shared→Prop) (E:Value→Shared→Prop),C i j→Q (.int (g i j) s.toks) { s with toks:=s.toks + 1 }→wpAny (model X.prog X.w) X.A (f (.int i t) (.int j u)) Q E s) :
  OpR X f (rI C fun i j=>.int (g i j)):=by
 intro pins s σ H x y v u Q I rx ry h
 obtain ⟨i,j,rfl,rfl,hc,q⟩:=h
 obtain ⟨t,rfl⟩:=rx
 obtain ⟨t',rfl⟩:=ry
 exact rule i j t t' s _ _ hc ⟨.int (g i j),H,I.tok _,⟨_,rfl⟩,q⟩
theorem opI0 {f:Value→Value→Sem Value} {g:Int→Int→Int}
  (rule:∀ (i j:Int) (t u:Tok) (s:Shared) (Q:Value→Shared→Prop) (E:Value→Shared→Prop),Q (.int (g i j) s.toks) { s with toks:=s.toks + 1 }→wpAny (model X.prog X.w) X.A (f (.int i t) (.int j u)) Q E s) :
  OpR X f (rI0 fun i j=>.int (g i j)):=by
 intro pins s σ H x y v u Q I rx ry h
 obtain ⟨i,j,rfl,rfl,q⟩:=h
 obtain ⟨t,rfl⟩:=rx
 obtain ⟨t',rfl⟩:=ry
 exact rule i j t t' s _ _ ⟨.int (g i j),H,I.tok _,⟨_,rfl⟩,q⟩
theorem opB0 {f:Value→Value→Sem Value} {g:Int→Int→Bool}
  (rule:∀ (i j:Int) (t u:Tok) (s:Shared) (Q:Value→Shared→Prop) (E:Value→Shared→Prop),Q (.bool (g i j)) s→wpAny (model X.prog X.w) X.A (f (.int i t) (.int j u)) Q E s) :
  OpR X f (rI0 fun i j=>.bl (g i j)):=by
 intro pins s σ H x y v u Q I rx ry h
 obtain ⟨i,j,rfl,rfl,q⟩:=h
 obtain ⟨t,rfl⟩:=rx
 obtain ⟨t',rfl⟩:=ry
 exact rule i j t t' s _ _ ⟨.bl (g i j),H,I,rfl,q⟩

def CPow (i j:Int):Prop:=0≤j∧j≤1000000∧i.natAbs < 2 ^ 64
def CMul (i j:Int):Prop:=(-(2 ^ 64) < i∧i < 2 ^ 64)∨(-(2 ^ 64) < j∧j < 2 ^ 64)
theorem CMul.ok {i j:Int} (h:CMul i j):IntMulOk i j:=by
 rcases h with ⟨h1,h2⟩ | ⟨h1,h2⟩
 ·exact .of_left (intBits_le_64 h1 h2)
 ·exact .of_right (intBits_le_64 h1 h2)
theorem zBr:OpR X (binaryOp .Add) (rI0 fun i j=>.int (i + j)):=opI0 fun _ _ _ _ _ _ _ q=>add_int q
theorem zBp:OpR X (binaryOp .Sub) (rI0 fun i j=>.int (i - j)):=opI0 fun _ _ _ _ _ _ _ q=>sub_int q
theorem zA6:OpR X (binaryOp .Mult) (rI CMul fun i j=>.int (i * j)):=opI fun _ _ _ _ _ _ _ hc q=>mul_int q hc.ok
theorem zA7:OpR X (binaryOp .Mod) (rI (fun _ j=>0 < j) fun i j=>.int (i % j)):=opI fun i j _ _ _ _ _ hc q=>by
 have h1:(0:Int) < j:=hc
 exact mod_int' (by omega) (by rw [Int.fmod_eq_emod_of_nonneg i (by omega)]; exact q)
theorem zPt:OpR X (binaryOp .Pow) (rI CPow fun i j=>.int (i ^ j.toNat)):=opI fun _ _ _ _ _ _ _ hc q=>pow_int_small hc.1 hc.2.1 hc.2.2 q
theorem unI {f:Value→Sem Value} {g:Int→Int}
  (rule:∀ (i:Int) (t:Tok) (s:Shared) (Q:Value→Shared→Prop) (E:Value→Shared→Prop),Q (.int (g i) s.toks) { s with toks:=s.toks + 1 }→wpAny (model X.prog X.w) X.A (f (.int i t)) Q E s) :
  UnR X f (rU fun i=>.int (g i)):=by
 intro pins s σ H x v Q I rx h
 obtain ⟨i,rfl,q⟩:=h
 obtain ⟨t,rfl⟩:=rx
 exact rule i t s _ _ ⟨.int (g i),H,I.tok _,⟨_,rfl⟩,q⟩
theorem zHc:UnR X (unaryOp .USub) (rU fun i=>.int (-i)):=unI fun _ _ _ _ _ q=>neg_int q
end

def scal:V→V→Bool
 | .non,.non=>true | .non,.int _=>true | .int _,.non=>true | .non,.bl _=>true | .bl _,.non=>true | .non,.str _=>true | .str _,.non=>true
 | .int _,.int _=>true | .bl _,.bl _=>true | .str _,.str _=>true | .byt _,.byt _=>true
 | .int _,.str _=>true | .str _,.int _=>true | .bl _,.str _=>true | .str _,.bl _=>true
 | _,_=>false
def rEq:R2:=fun x y H Q=>scal x y = true∧Q (.bl (decide (x = y))) H
def rNe:R2:=fun x y H Q=>scal x y = true∧Q (.bl (!decide (x = y))) H

theorem zRb {i j:Int} : decide (V.int i = V.int j) = (i == j):=by
 rw [Bool.eq_iff_iff]
 simp
theorem zTp {i j:Bool} : decide (V.bl i = V.bl j) = (i == j):=by
 rw [Bool.eq_iff_iff]
 simp
theorem zRq {i j:Str} : decide (V.str i = V.str j) = (i == j):=by
 rw [Bool.eq_iff_iff]
 simp
theorem zRc {i j:Array UInt8} : decide (V.byt i = V.byt j) = (i.toList == j.toList):=by
 rw [Bool.eq_iff_iff]
 cases i
 cases j
 simp

section
variable {X:Cx} {a b c:Expr} {ta tb tc:TE} {pos:Pos}
theorem zBc {pins:List (Addr × Obj)} {σ:St} {H:Hp} {s:Shared} {Q:VK} {k k':Bool} (I:Inv X pins σ H s) (q:Q (.bl k) H) (e:k = k'):EP X pins σ Q (.bool k') s:=by
 subst e
 exact ⟨.bl k,H,I,rfl,q⟩
theorem zFo:OpR X (compareOp .Eq) rEq:=by
 intro pins s σ H x y v u Q I rx ry h
 obtain ⟨hs,q⟩:=h
 cases x with
 | non =>
  cases rx
  cases y with
  | non=>cases ry; exact PySem.EqNone.eq_none_none (zBc I q (by simp))
  | bl j=>cases ry; exact PySem.EqNone.eq_none_bool (zBc I q (by simp))
  | int j=>obtain ⟨t',rfl⟩:=ry; exact PySem.EqNone.eq_none_int (zBc I q (by simp))
  | str j=>obtain ⟨t',rfl⟩:=ry; exact PySem.EqNone.eq_none_str (zBc I q (by simp))
  | _=>exact absurd (show false = true from hs) Bool.false_ne_true
 | bl i =>
  cases rx
  cases y with
  | non=>cases ry; exact PySem.EqNone.eq_bool_none (zBc I q (by simp))
  | bl j=>cases ry; exact eq_bool (zBc I q zTp)
  | str j=>obtain ⟨t',rfl⟩:=ry; exact PySem.EqMixed.eq_bool_str (zBc I q (by simp))
  | _=>exact absurd (show false = true from hs) Bool.false_ne_true
 | int i =>
  obtain ⟨t,rfl⟩:=rx
  cases y with
  | non=>cases ry; exact PySem.EqNone.eq_int_none (zBc I q (by simp))
  | int j=>obtain ⟨t',rfl⟩:=ry; exact eq_int (zBc I q zRb)
  | str j=>obtain ⟨t',rfl⟩:=ry; exact PySem.EqMixed.eq_int_str (zBc I q (by simp))
  | _=>exact absurd (show false = true from hs) Bool.false_ne_true
 | str i =>
  obtain ⟨t,rfl⟩:=rx
  cases y with
  | non=>cases ry; exact PySem.EqNone.eq_str_none (zBc I q (by simp))
  | bl j=>cases ry; exact PySem.EqMixed.eq_str_bool (zBc I q (by simp))
  | int j=>obtain ⟨t',rfl⟩:=ry; exact PySem.EqMixed.eq_str_int (zBc I q (by simp))
  | str j=>obtain ⟨t',rfl⟩:=ry; exact eq_str (zBc I q zRq)
  | _=>exact absurd (show false = true from hs) Bool.false_ne_true
 | byt i =>
  obtain ⟨t,rfl⟩:=rx
  cases y with
  | byt j=>obtain ⟨t',rfl⟩:=ry; exact PySem.W.eq_bytes (zBc I q zRc)
  | _=>exact absurd (show false = true from hs) Bool.false_ne_true
 | _=>cases y <;> exact absurd (show false = true from hs) Bool.false_ne_true
theorem zS6:OpR X (compareOp .NotEq) rNe:=by
 intro pins s σ H x y v u Q I rx ry h
 obtain ⟨hs,q⟩:=h
 cases x with
 | non =>
  cases rx
  cases y with
  | non=>cases ry; exact PySem.EqNone.ne_none_none (zBc I q (by simp))
  | bl j=>cases ry; exact PySem.EqNone.ne_none_bool (zBc I q (by simp))
  | int j=>obtain ⟨t',rfl⟩:=ry; exact PySem.EqNone.ne_none_int (zBc I q (by simp))
  | str j=>obtain ⟨t',rfl⟩:=ry; exact PySem.EqNone.ne_none_str (zBc I q (by simp))
  | _=>exact absurd (show false = true from hs) Bool.false_ne_true
 | bl i =>
  cases rx
  cases y with
  | non=>cases ry; exact PySem.EqNone.ne_bool_none (zBc I q (by simp))
  | bl j=>cases ry; exact ne_bool (zBc I q (congrArg not zTp))
  | str j=>obtain ⟨t',rfl⟩:=ry; exact PySem.EqMixed.ne_bool_str (zBc I q (by simp))
  | _=>exact absurd (show false = true from hs) Bool.false_ne_true
 | int i =>
  obtain ⟨t,rfl⟩:=rx
  cases y with
  | non=>cases ry; exact PySem.EqNone.ne_int_none (zBc I q (by simp))
  | int j=>obtain ⟨t',rfl⟩:=ry; exact ne_int (zBc I q (congrArg not zRb))
  | str j=>obtain ⟨t',rfl⟩:=ry; exact PySem.EqMixed.ne_int_str (zBc I q (by simp))
  | _=>exact absurd (show false = true from hs) Bool.false_ne_true
 | str i =>
  obtain ⟨t,rfl⟩:=rx
  cases y with
  | non=>cases ry; exact PySem.EqNone.ne_str_none (zBc I q (by simp))
  | bl j=>cases ry; exact PySem.EqMixed.ne_str_bool (zBc I q (by simp))
  | int j=>obtain ⟨t',rfl⟩:=ry; exact PySem.EqMixed.ne_str_int (zBc I q (by simp))
  | str j=>obtain ⟨t',rfl⟩:=ry; exact ne_str (zBc I q (congrArg not zRq))
  | _=>exact absurd (show false = true from hs) Bool.false_ne_true
 | byt i =>
  obtain ⟨t,rfl⟩:=rx
  cases y with
  | byt j=>obtain ⟨t',rfl⟩:=ry; exact PySem.W.ne_bytes (zBc I q (congrArg not zRc))
  | _=>exact absurd (show false = true from hs) Bool.false_ne_true
 | _=>cases y <;> exact absurd (show false = true from hs) Bool.false_ne_true

theorem zJe:OpR X (compareOp .Lt) (rI0 fun i j=>.bl (decide (i < j))):=opB0 fun _ _ _ _ _ _ _ q=>lt_int q
theorem op_le:OpR X (compareOp .LtE) (rI0 fun i j=>.bl (decide (i≤j))):=opB0 fun _ _ _ _ _ _ _ q=>le_int q
theorem zM0:OpR X (compareOp .Gt) (rI0 fun i j=>.bl (decide (j < i))):=opB0 fun _ _ _ _ _ _ _ q=>gt_int q
theorem zOi:OpR X (compareOp .Is) (fun x y H Q=>y = .non∧Q (.bl (decide (x = .non))) H):=by
 intro pins s σ H x y v u Q I rx ry h
 obtain ⟨rfl,q⟩:=h
 cases ry
 refine is_none_gen (zBc I q ?_)
 cases x <;> first
  | (cases rx; rfl)
  | (obtain ⟨t,rfl⟩:=rx; rfl)
theorem zM3:OpR X (compareOp .IsNot) (fun x y H Q=>y = .non∧Q (.bl (!decide (x = .non))) H):=by
 intro pins s σ H x y v u Q I rx ry h
 obtain ⟨rfl,q⟩:=h
 cases ry
 refine isnot_none_gen (zBc I q ?_)
 cases x <;> first
  | (cases rx; rfl)
  | (obtain ⟨t,rfl⟩:=rx; rfl)

theorem zAw (b:Expr) {op:CmpOp} (h:op≠.In:=by decide) (h2:op≠.NotIn:=by decide):behindInMarks op b = false:=by
 have e1:(op == CmpOp.In) = false:=by cases op <;> first | rfl | exact absurd rfl h
 have e2:(op == CmpOp.NotIn) = false:=by cases op <;> first | rfl | exact absurd rfl h2
 cases b <;> simp [behindInMarks,e1,e2]
theorem zEa {op:CmpOp} {r:R2} (ho:OpR X (compareOp op) r) (ha:PE X a ta) (hb:PE X b tb) (hm:behindInMarks op b = false):PE X (.Compare a [op] [b] pos) (tOp r ta tb):=by
 intro pins s σ H Q I h
 exact wpAny_Compare1 (binT ha hb I h fun v u s2 x y H2 I2 rx ry q=>ho pins s2 σ H2 x y v u Q I2 rx ry q) hm
def zR9 (t:TE):TT:=fun σ H Q=>t σ H fun x H'=>∃ k,x = .bl k∧Q k H'
theorem zAv {op:CmpOp} {r:R2} (ho:OpR X (compareOp op) r) (ha:PE X a ta) (hb:PE X b tb) (hm:behindInMarks op b = false):PT X (.Compare a [op] [b] pos) (zR9 (tOp r ta tb)):=by
 intro pins s σ H Q I h
 refine wpAny_isTrue_Compare1 (thn (ha pins s σ H _ I h) fun v s1 ⟨x,H1,I1,r1,q1⟩=>thn (hb pins s1 σ H1 _ I1 q1) fun u s2 ⟨y,H2,I2,r2,q2⟩ =>
  thn (ho pins s2 σ H2 x y v u _ I2 r1 r2 q2) fun c s3 ⟨z,H3,I3,r3,k,e,q3⟩=>?_) hm
 subst e
 cases r3
 exact wpAny_truthy_bool ⟨H3,I3,q3⟩
theorem zNn:(sizeLine:Nat) < 2 ^ 63:=by rw [sizeLine_eq]; decide
theorem zR0 {x:V} {us:List Value} (r:Vals [x] us):∃ u,us = [u]∧RelV x u:=by
 cases r with
 | cons r1 r2=>cases r2; exact ⟨_,rfl,r1⟩
theorem zD6:zHk X (.builtin "abs") (fun xs H Q=>∃ i,xs = [.int i]∧Q (.int (if i < 0 then -i else i)) H):=by
 intro pins s σ H xs us Q I r h
 obtain ⟨i,rfl,q⟩:=h
 obtain ⟨u,rfl,t,rfl⟩:=zR0 r
 exact call_abs_int fun u tk=>⟨.int (if i < 0 then -i else i),H,I.tok _,⟨_,rfl⟩,q⟩
end
end L2

namespace L2
open PySem PySem.Spec PyProof.Rows

structure ObjM (h:Heap) (x dx C:Addr) (mA:Str→Option Value):Prop where
 obj:h.get? x = some (PySem.W.instObj C dx)
 ns:h.Ns1 dx mA
 ne:dx≠x

theorem zQu {h:Heap} {dx:Addr} {mA:Str→Option Value} (n:h.Ns1 dx mA):∃ od,h.get? dx = some od∧∀ name,PySem.W.lookIn name od = some (mA name):=by
 obtain ⟨o,es,ep,ho,hd,hk,_,hm⟩:=n
 refine ⟨o,ho,fun name=>?_⟩
 have e:=hm name
 unfold nsFind findBy at e
 rw [← Array.find?_toList] at e
 unfold PySem.W.lookIn
 rw [hd]
 dsimp only
 split
 ·rename_i y q
  rw [q] at e
  exact congrArg some e
 ·rename_i q
  rw [q] at e
  have a:es.toList.any (·.refKey) = false:=by
   rw [List.any_eq_false]
   intro y hy
   obtain ⟨z,t,hkey⟩:=hk y (Array.mem_toList_iff.mp hy)
   simp [DictEntry.refKey,hkey]
  have a':¬ es.toList.any (·.refKey) = true:=by rw [a]; exact Bool.false_ne_true
  rw [if_neg a']
  exact congrArg some e

theorem ObjM.look {h:Heap} {x dx C:Addr} {mA:Str→Option Value} (I:ObjM h x dx C mA):∃ od,PySem.W.InstAt h x (PySem.W.instObj C dx) C (some od)∧∀ name,PySem.W.lookIn name od = some (mA name) :=
 let ⟨od,ho,hl⟩:=zQu I.ns
 ⟨od,⟨I.obj,rfl,rfl,ho⟩,hl⟩

section
variable {prog:Program} {w:World} {A:Around} {E:Value→Shared→Prop} {s:Shared} {K:PySem.W.Frag} {x dx C f:Addr} {mA:Str→Option Value} {name:Str} {v:Value}

end

theorem RelO.some_of {v:V} {o:Option Value} (r:RelO (some v) o):∃ u,o = some u∧RelV v u:=by
 cases o with
 | none=>exact (show False from r).elim
 | some u=>exact ⟨u,rfl,r⟩
section
variable {P:Program} {w:World} {H H':Hp} {h h':Heap} {a C dx:Addr} {fs fs':List (Str × V)}
theorem zTr (hok:HOk P w H h) (e:H a = some (.ins C dx fs)):∃ mA,ObjM h a dx C mA∧(∀ f,RelO (fs.lookup f) (mA f))∧PySem.Within mA (fs.map (·.1))∧fs.length≤1000∧H dx = some (.own a):=by
 obtain ⟨d,z,ne,ob,mA,n,r,q⟩:=(show zCc P w H h a (.ins C dx fs) from hok a _ e)
 exact ⟨mA,⟨ob,n,ne⟩,r,q,z,d⟩
end

structure Cls (K:PySem.W.Frag) (C:Addr):Prop where
 pg:PySem.W.plainGet K C Str.empty = true
 hd:PySem.W.hasDictIn K C = true
 po:PySem.W.plainOver K C = true
 sa:PySem.W.findIn K (.ref C) "__setattr__" = some (some (.builtin "object.__setattr__"))
theorem Cls.get {K:PySem.W.Frag} {C:Addr} (c:Cls K C) (f:Str):PySem.W.plainGet K C f = true:=c.pg
structure Con (K:PySem.W.Frag) (C:Addr) (f:Str) (v:V) (u:Value):Prop where
 at_:PySem.W.findIn K (.ref C) f = some (some u)
 rel:RelV v u
 get:PySem.W.specialIn K u "__get__" = some none
 cp:PySem.W.copiedNames.contains f = false
structure Meth (K:PySem.W.Frag) (C:Addr) (m:Str) (f:Addr):Prop where
 at_:PySem.W.findIn K (.ref C) m = some (some (.ref f))
 fn:PySem.W.isFn K (.ref f) = true
 kp:PySem.W.keepIn K (.ref f) = true

section
variable {X:Cx} {pins:List (Addr × Obj)} {σ:St} {H:Hp} {s:Shared} {a C dx:Addr} {fs:List (Str × V)} {f:Str} {v:V} {A:Around} {E:Value→Shared→Prop}

end

section
variable {X:Cx} {o e value:Expr} {f:Str} {pos pos' tpos:Pos} {ta tv:TE}
end

section
variable {X:Cx} {pins:List (Addr × Obj)} {σ:St} {H:Hp} {s:Shared} {A:Around} {E:Value→Shared→Prop} {Q:Value→Shared→Prop} {c:Value} {b:Bool}
inductive TyOf (K:PySem.W.Frag) (H:Hp):V→Value→Prop where
 | non:TyOf K H .non (.type "NoneType")
 | bl (x:Bool):TyOf K H (.bl x) (.type "bool")
 | int (i:Int):TyOf K H (.int i) (.type "int")
 | str (x:Str):TyOf K H (.str x) (.type "str")
 | flt (x:UInt64):TyOf K H (.flt x) (.type "float")
 | lst {a:Addr} {xs:List V} (e:H a = some (.lst xs)):TyOf K H (.ref a) (.type "list")
 | frz {a:Addr} {o:Obj} {xs:List V} (e:H a = some (.frz o (.lst xs))):TyOf K H (.ref a) (.type "list")
 | tup {a:Addr} {xs:List V} (e:H a = some (.tup xs)):TyOf K H (.ref a) (.type "tuple")
 | dK {a:Addr} {kvs:List (Key × V)} (e:H a = some (.dK kvs)):TyOf K H (.ref a) (.type "dict")
 | dT {a:Addr} {kvs:List (List Key × V)} (e:H a = some (.dT kvs)):TyOf K H (.ref a) (.type "dict")
 | ins {a C dx:Addr} {fs:List (Str × V)} (e:H a = some (.ins C dx fs)) (cl:Cls K C) (ha:PySem.W.findIn K (.ref C) "__class__" = some (some (.builtin "object.__class__")))
   (hn:PySem.W.specialIn K (.builtin "object.__class__") "__get__" = some (some (.builtin "getset_descriptor.__get__"))) (htk:PySem.W.takesIn K (.builtin "object.__class__") = some true)
   (hm:PySem.W.mroIn K C (.type "object") = some true):TyOf K H (.ref a) (.ref C)
theorem zRk {x:V} {u t:Value} (I:Inv X pins σ H s) (rx:RelV x u) (ty:TyOf X.K H x t) (e:PySem.W.kitOne X.K t c = some b) (h:∀ tk,Q (.bool b) { s with toks:=tk }) :
  wpAny (model X.prog X.w) A (call (.builtin "isinstance") [u,c]) Q E s:=by
 cases ty with
 | non=>cases (show u = Value.none from rx); exact PySem.W.kia_one PySem.W.kitx_none I.kIn True.intro e (fun z=>nomatch z) h
 | bl y=>cases (show u = Value.bool y from rx); exact PySem.W.kia_one PySem.W.kitx_bool I.kIn True.intro e (fun z=>nomatch z) h
 | int i=>obtain ⟨t,q⟩:=(show ∃ t,u = Value.int i t from rx); cases q; exact PySem.W.kia_one PySem.W.kitx_int I.kIn True.intro e (fun z=>nomatch z) h
 | str y=>obtain ⟨t,q⟩:=(show ∃ t,u = Value.str y t from rx); cases q; exact PySem.W.kia_one PySem.W.kitx_str I.kIn True.intro e (fun z=>nomatch z) h
 | flt y=>obtain ⟨t,q⟩:=(show ∃ t,u = Value.float y t from rx); cases q; exact PySem.W.kia_one PySem.W.kitx_float I.kIn True.intro e (fun z=>nomatch z) h
 | @lst a xs ea =>
  cases (show u = Value.ref a from rx)
  obtain ⟨_,_,n,_,h1⟩:=(show zCc X.prog X.w H s.heap a (.lst xs) from I.hok a _ ea)
  exact PySem.W.kia_one PySem.W.kitx_list I.kIn ⟨_,h1,rfl⟩ e (fun z=>nomatch z) h
 | @frz a ob xs ea =>
  cases (show u = Value.ref a from rx)
  obtain ⟨_,_,_,n,_,h1⟩:=(show zCc X.prog X.w H s.heap a (.frz ob (.lst xs)) from I.hok a _ ea)
  exact PySem.W.kia_one PySem.W.kitx_list I.kIn ⟨_,h1,rfl⟩ e (fun z=>nomatch z) h
 | @tup a xs ea =>
  cases (show u = Value.ref a from rx)
  obtain ⟨_,_,_,p⟩:=(show zCc X.prog X.w H s.heap a (.tup xs) from I.hok a _ ea)
  obtain ⟨o,h1,h2,_⟩:=p
  exact PySem.W.kia_one PySem.W.kitx_tuple I.kIn ⟨o,h1,h2⟩ e (fun z=>nomatch z) h
 | @dK a kvs ea =>
  cases (show u = Value.ref a from rx)
  obtain ⟨_,_,vs,_,p⟩:=(show zCc X.prog X.w H s.heap a (.dK kvs) from I.hok a _ ea)
  obtain ⟨o,es,ep,h1,h2,_⟩:=p
  exact PySem.W.kia_one PySem.W.kitx_dict I.kIn ⟨o,h1,h2.1⟩ e (fun z=>nomatch z) h
 | @dT a kvs ea =>
  cases (show u = Value.ref a from rx)
  obtain ⟨_,_,xs,_,o,es,ep,h1,h2,_⟩:=(show zCc X.prog X.w H s.heap a (.dT kvs) from I.hok a _ ea)
  exact PySem.W.kia_one PySem.W.kitx_dict I.kIn ⟨o,h1,h2.1⟩ e (fun z=>nomatch z) h
 | @ins a C dx fs ea cl ha hn htk hm =>
  cases (show u = Value.ref a from rx)
  obtain ⟨mA,O,_⟩:=zTr I.hok ea
  obtain ⟨od,J,_⟩:=O.look
  exact PySem.W.kia_one (PySem.W.kitx_own (cl.get _) cl.hd ha hn htk hm) I.kIn J e (fun z=>nomatch z) h
end
end L2

namespace L2
open PySem PySem.Spec PyProof.Rows

structure Room (k:Nat) (A:Around):Prop where
 hd:A.handled = none
 dp:A.depth + 3 * k + 5 < recursionLimit
 un:A.units + 16 * k + 200 < cLine
theorem Room.mono {j k:Nat} {A:Around} (r:Room k A) (h:j≤k):Room j A:=⟨r.hd,by have:=r.dp; omega,by have:=r.un; omega⟩
theorem Room.deeper {k:Nat} {A:Around} (r:Room (k + 1) A) (env:Env):Room k (A.deeper env) :=
 ⟨r.hd,by have:=r.dp; show A.depth + 1 + 3 * k + 5 < _; omega,by have:=r.un; show A.units + 3 + 16 * k + 200 < _; omega⟩
theorem Room.in1 {k:Nat} {A:Around} (r:Room (k + 1) A):Room k A.in1 :=
 ⟨r.hd,by have:=r.dp; show A.depth + 3 * k + 5 < _; omega,by have:=r.un; show A.units + 1 + 16 * k + 200 < _; omega⟩
theorem Room.depth {k:Nat} {A:Around} (r:Room k A):A.depth < recursionLimit:=by have:=r.dp; omega
theorem Room.units {k:Nat} {A:Around} (r:Room k A):A.units + 64 < cLine:=by have:=r.un; omega
theorem Room.units0 {k:Nat} {A:Around} (r:Room k A):A.units < cLine:=by have:=r.un; omega

def tNil:TA:=fun _ H Q=>Q [] H
def zTw (ta:TE) (tr:TA):TA:=fun σ H Q=>ta σ H fun x H1=>tr σ H1 fun xs H2=>Q (x :: xs) H2
section
variable {X:Cx} {e:Expr} {es:List Expr} {te:TE} {t:TA} {pos:Pos}
theorem zAe:PA X [] tNil:=fun _ _ _ _ H Q I h=>Calls.spliced_nil ⟨[],H,I,.nil,h⟩
theorem zAa (ha:PE X e te) (hr:PA X es t) (hs:starEach (e :: es) X.env = (false,eval e X.env) :: starEach es X.env:=by rfl):PA X (e :: es) (zTw te t):=by
 intro pos pins s σ H Q I h
 rw [hs]
 show wpAny _ _ (spliced ((false,eval e X.env) :: backTo pos (starEach es X.env))) _ _ s
 refine Calls.spliced_cons (thn (ha pins s σ H _ I h) fun u s1 ⟨x,H1,I1,r1,q1⟩=>?_)
 exact thn (hr pos pins s1 σ H1 _ I1 q1) fun us s2 ⟨xs,H2,I2,r2,q2⟩=>⟨x :: xs,H2,I2,.cons r1 r2,q2⟩

def tTup (t:TA):TE:=fun σ H Q=>t σ H fun xs H1=>xs.length≤sizeLine∧∀ p,H1 p = none→Q (.ref p) (upd H1 p (.tup xs))
def tLst (t:TA):TE:=fun σ H Q=>t σ H fun xs H1=>xs.length≤sizeLine∧∀ p,H1 p = none→Q (.ref p) (upd H1 p (.lst xs))
theorem zB0 {x1} (h:PA X es t):PE X (.Tuple es x1 pos) (tTup t):=by
 intro pins s σ H Q I hq
 refine wpAny_Tuple_spliced (thn (h pos pins s σ H _ I hq) fun us s1 ⟨xs,H1,I1,r,z,q⟩=>⟨by rw [← r.length]; exact z,?_⟩)
 have hf:H1 s1.heap.objs.size = none:=I1.hok.fresh (Nat.le_refl _)
 refine ⟨.ref s1.heap.objs.size,upd H1 s1.heap.objs.size (.tup xs),I1.laid (t':=s1.toks) (fun b u e=>Heap.get?_push_of_some _ e) (Nat.le_refl _) ?_,rfl,q _ hf⟩
 exact ⟨z,us,r,⟨_,Heap.get?_push_size _ rfl,rfl,_,rfl⟩⟩
theorem zEp (h:PA X es t):PE X (.List es pos) (tLst t):=by
 intro pins s σ H Q I hq
 refine wpAny_List_spliced (thn (h pos pins s σ H _ I hq) fun us s1 ⟨xs,H1,I1,r,z,q⟩=>⟨by rw [← r.length]; exact z,?_⟩)
 have hf:H1 s1.heap.objs.size = none:=I1.hok.fresh (Nat.le_refl _)
 refine ⟨.ref s1.heap.objs.size,upd H1 s1.heap.objs.size (.lst xs),I1.laid (t':=s1.toks) (fun b u e=>Heap.get?_push_of_some _ e) (Nat.le_refl _) ?_,rfl,q _ hf⟩
 exact ⟨z,us,0,r,Heap.get?_push_size _ rfl⟩
end

abbrev Sp:=List V→Hp→VK→XK→Prop
abbrev CXT:=List Env→Hp→Shared→XK→Value→Shared→Prop

structure Env0 (P:Program) (w:World) (K:PySem.W.Frag) (mg:Str→Option Value) (base:Heap) (A:Around) (outer:List Env) (s:Shared) (H:Hp):Prop where
 frames:A.frames = some outer
 mod:Mod K mg base
 bs:∀ b o,base.get? b = some o→s.heap.get? b = some o∧H b = none
 bsz:base.objs.size≤s.heap.objs.size
 funs:s.heap.FunFrames base outer
 frf:∀ b∈frs outer,H b = none
 hok:HOk P w H s.heap
 bare:AllBare s.gens
def CE (outer:List Env) (P:Program) (w:World) (H:Hp) (s:Shared) (Q:VK) (u:Value) (s':Shared):Prop :=
 ∃ v H',s'.os = s.os∧AllBare s'.gens∧Un (frs outer) [] H H' s.heap s'.heap∧HOk P w H' s'.heap∧RelV v u∧Q v H'
def CR (CX:CXT) (outer:List Env) (P:Program) (w:World) (H:Hp) (s:Shared) (Q:VK) (E:XK) (r:Result) (s':Shared):Prop :=
 match r with
 | .ok (.ret u)=>CE outer P w H s Q u s'
 | .ok _=>False
 | .error e=>CX outer H s E e s'
structure FnOk (P:Program) (w:World) (K:PySem.W.Frag) (mg:Str→Option Value) (base:Heap) (CX:CXT) (k:Nat) (f:Addr) (fd:FuncData) (ps:List Str) (sp:Sp):Prop where
 len:∀ vs H Q E,sp vs H Q E→vs.length = ps.length
 run:∀ (A:Around) (outer:List Env) (s:Shared) (H:Hp) (args:Args) (us:List Value) (vs:List V) (Q:VK) (E:XK),Room k A→Env0 P w K mg base A outer s H→BindsTo s fd args (ps.zip us)→Vals vs us→sp vs H Q E →
  codeAny (model P w) A (.call (.ref f) args) (CR CX outer P w H s Q E) s
theorem Env0.in1 {P:Program} {w:World} {K:PySem.W.Frag} {mg:Str→Option Value} {base:Heap} {A:Around} {outer:List Env} {s:Shared} {H:Hp} (e:Env0 P w K mg base A outer s H) :
  Env0 P w K mg base A.in1 outer s H:=⟨e.frames,e.mod,e.bs,e.bsz,e.funs,e.frf,e.hok,e.bare⟩

section
variable {X:Cx} {pins:List (Addr × Obj)} {σ:St} {H:Hp} {s s':Shared}
theorem Inv.env0 (I:Inv X pins σ H s):Env0 X.prog X.w X.K X.mg X.base X.A X.stack s H :=
 ⟨I.ok.frames,I.ok.mod,I.bs,Nat.le_trans I.ok.bsz I.sz,I.stack,I.stkFree,I.hok,I.bare⟩
theorem Inv.after {Q:VK} {u:Value} (I:Inv X pins σ H s) (h:CE X.stack X.prog X.w H s Q u s'):EP X pins σ Q u s':=by
 obtain ⟨v,H',os,bare,un,hok,r,q⟩:=h
 obtain ⟨hh,g,d,t,os'⟩:=s'
 obtain rfl:os' = s.os:=os
 exact ⟨v,H',I.call (h':=hh) (g':=g) (d':=d) (t':=t) (ch:=[]) un hok bare (fun b z=>absurd z (by simp)),r,q⟩
end

def zTy (sp:Sp) (dvs:List V) (E:XK) (t:TA):TE:=fun σ H Q=>t σ H fun vs H1=>sp (vs ++ dvs) H1 Q E
def zK4 (K:PySem.W.Frag) (fd:FuncData) (ps:List Str) (ds:List Value):Prop :=
 ∀ (s:Shared) (us:List Value),K.In s.heap→(us ++ ds).length = ps.length→BindsTo s fd ⟨us,[]⟩ (ps.zip (us ++ ds))
theorem zK4.all {K:PySem.W.Frag} {fd:FuncData} {ps:List Str} (h:∀ us:List Value,us.length = ps.length→bindArgs fd ⟨us,[]⟩ = pure (ps.zip us)):zK4 K fd ps []:=fun s us _ hl=>by
 rw [List.append_nil] at hl ⊢
 exact .of_eq (h us hl)

def zR1 (CX:CXT) (X:Cx) (E:XK):Prop:=∀ (pins:List (Addr × Obj)) (σ:St) (H:Hp) (s:Shared) (e:Value) (s':Shared),Inv X pins σ H s→CX X.stack H s E e s'→X.xe e s'

section
variable {X:Cx} {CX:CXT} {k:Nat} {f C:Addr} {fd:FuncData} {ps:List Str} {sp:Sp} {dvs:List V} {ds:List Value} {E:XK} {x m:Str} {p pos apos:Pos} {e o:Expr} {es:List Expr} {ta:TE} {t:TA}

theorem run_fn {pins:List (Addr × Obj)} {σ:St} {H:Hp} {s:Shared} {Q:VK} {us:List Value} {vs:List V} (F:FnOk X.prog X.w X.K X.mg X.base CX k f fd ps sp) (hr:Room k X.A) (hb:zK4 X.K fd ps ds) (hd:Vals dvs ds) (hx:zR1 CX X E)
  (I:Inv X pins σ H s) (r:Vals vs us) (h:sp (vs ++ dvs) H Q E):wpAny (model X.prog X.w) X.A (call (.ref f) us) (EP X pins σ Q) X.xe s:=by
 have r2:Vals (vs ++ dvs) (us ++ ds):=r.append hd
 have hl:(us ++ ds).length = ps.length:=by rw [← r2.length]; exact F.len _ _ _ _ h
 refine wpAny_call (codeAny_mono (F.run X.A X.stack s H ⟨us,[]⟩ (us ++ ds) (vs ++ dvs) Q E hr I.env0 (hb s us I.kIn hl) r2 h) fun r s' hq=>?_)
 cases r with
 | error e=>exact hx pins σ H s e s' I hq
 | ok fl =>
  cases fl with
  | ret u=>exact I.after hq
  | next=>exact False.elim hq
  | brk=>exact False.elim hq
  | cont=>exact False.elim hq

theorem zU1 (F:FnOk X.prog X.w X.K X.mg X.base CX k f fd ps sp) (hr:Room k X.A) (hg:Gl X x) (hm:X.mg x = some (.ref f)) (hk:PySem.W.keepIn X.K (.ref f) = true) (hb:zK4 X.K fd ps ds) (hd:Vals dvs ds) (hx:zR1 CX X E)
  (ha:PA X (e :: es) t) (hdb:(x == ("__debug__" : Str)) = false:=by decide) (he:starEach (e :: es) X.env = (false,eval e X.env) :: starEach es X.env:=by rfl) (hpl:(backTo pos (starEach es X.env)).any (·.1) = false:=by rfl) :
  PE X (.Call (.Name x p) (e :: es) [] pos) (zTy sp dvs E t):=by
 intro pins s σ H Q I h
 refine wpAny_Call_Name_kw (zUy I hg hm ?_ hdb)
 refine PySem.W.callWith_K (h₀:=X.base) I.ok.mod.kin hk (thn (ha pos pins s σ H _ I h) fun us s1 ⟨vs,H1,I1,r,q⟩=>⟨I1.kIn,?_⟩) he hpl
 exact run_fn F hr hb hd hx I1 r q
structure Mk (K:PySem.W.Frag) (C f:Addr):Prop where
 makes:PySem.W.makesIn K C = true
 init:PySem.W.findIn K (.ref C) "__init__" = some (some (.ref f))
 fn:PySem.W.isFn K (.ref f) = true
 kp:PySem.W.keepIn K (.ref C) = true

end

def PK (X:Cx) (kws:List Keyword) (t:TA):Prop :=
 ∀ (pos:Pos) (pins:List (Addr × Obj)) (s:Shared) (σ:St) (H:Hp) (Q:List V→Hp→Prop),Inv X pins σ H s→t σ H Q→wpAny (model X.prog X.w) X.A (evalAll ((backToKw pos (keywordEach kws X.env)).map (·.2))) (AP X pins σ Q) X.xe s
section
variable {X:Cx} {CX:CXT} {k:Nat} {f C:Addr} {fd:FuncData} {ps ks:List Str} {sp:Sp} {E:XK} {x m:Str} {p pos apos kpos:Pos} {e o:Expr} {es:List Expr} {kws:List Keyword} {te ta:TE} {t tk:TA} {nm:Option Str}
theorem pk_nil:PK X [] tNil:=fun _ _ _ _ H Q I h=>wpAny_evalAll_nil ⟨[],H,I,.nil,h⟩
theorem zUn (ha:PE X e te) (hr:PK X kws t):PK X (⟨nm,e,kpos⟩ :: kws) (zTw te t):=by
 intro pos pins s σ H Q I h
 show wpAny _ _ (evalAll ((do let v ← eval e X.env; standAt pos; pure v) :: (backToKw pos (keywordEach kws X.env)).map (·.2))) _ _ s
 refine wpAny_evalAll_cons (wpAny_bind (thn (ha pins s σ H _ I h) fun u s1 ⟨x,H1,I1,r1,q1⟩=>wpAny_bind (wpAny_standAt (wpAny_pure ?_))))
 exact thn (hr pos pins s1 σ H1 _ I1 q1) fun us s2 ⟨xs,H2,I2,r2,q2⟩=>⟨x :: xs,H2,I2,.cons r1 r2,q2⟩

structure KBinds (K:PySem.W.Frag) (fd:FuncData) (ps ks:List Str) (g:List Value→List Value→List Value) (gV:List V→List V→List V):Prop where
 to:∀ (s:Shared) (us ws:List Value),K.In s.heap→(g us ws).length = ps.length→BindsTo s fd ⟨us,ks.zip ws⟩ (ps.zip (g us ws))
 rel:∀ {vs:List V} {us:List Value} {zs:List V} {ws:List Value},Vals vs us→Vals zs ws→Vals (gV vs zs) (g us ws)
variable {g:List Value→List Value→List Value} {gV:List V→List V→List V}
end

structure zAs (N P:List Str) (sc:Scope):Prop where
 kind:sc.kind = .function
 co:sc.isCoroutine = false
 gen:sc.isGenerator = false
 nd:N.Nodup
 pre:N.take P.length = P
 par:∀ x∈P,sc.names.lookup x = some .local∨sc.names.lookup x = some .cell
 nofree:∀ y∈sc.names,y.2≠.free

theorem zMi {kindOf:Str→Option NameKind} {x:Str} : ∀ {binds:List (Str × Value)} {m:Str→Option Value},(∀ v,(x,v) ∉ binds)→bindL kindOf binds m x = m x
 | [],_,_=>rfl
 | (n,v) :: r,m,h=>by
  unfold bindL
  rw [zMi fun w hw=>h w (List.mem_cons_of_mem _ hw)]
  split
  ·have:x≠n:=by rintro rfl; exact h v List.mem_cons_self
   simp [this]
  ·rfl
theorem zMd {kindOf:Str→Option NameKind} {x:Str} : ∀ {binds:List (Str × Value)} {m:Str→Option Value},(∀ v,(x,v) ∉ binds)→bindC kindOf binds m x = m x
 | [],_,_=>rfl
 | (n,v) :: r,m,h=>by
  unfold bindC
  rw [zMd fun w hw=>h w (List.mem_cons_of_mem _ hw)]
  split
  ·rfl
  ·have:x≠n:=by rintro rfl; exact h v List.mem_cons_self
   simp [this]
theorem zLs {kindOf:Str→Option NameKind} {x:Str} {v:Value} : ∀ {P:List Str} {vs:List Value} {i:Nat} {m:Str→Option Value},P.Nodup→P[i]? = some x→vs[i]? = some v→kindOf x = some .local →
  bindL kindOf (P.zip vs) m x = some v
 | [],_,_,_,_,h,_,_=>by simp at h
 | _ :: _,[],_,_,_,_,h,_=>by simp at h
 | p :: P,w :: vs,0,m,nd,h1,h2,hk=>by
  simp at h1 h2; subst h1; subst h2
  show bindL kindOf ((p,w) :: P.zip vs) m p = _
  unfold bindL
  rw [zMi fun v hv=>(List.nodup_cons.mp nd).1 (List.of_mem_zip hv).1,if_pos hk]
  simp
 | p :: P,w :: vs,i + 1,m,nd,h1,h2,hk=>by
  show bindL kindOf ((p,w) :: P.zip vs) m x = _
  unfold bindL
  exact zLs (i:=i) (List.nodup_cons.mp nd).2 (by simpa using h1) (by simpa using h2) hk
theorem zLn {kindOf:Str→Option NameKind} {x:Str} {v:Value} : ∀ {P:List Str} {vs:List Value} {i:Nat} {m:Str→Option Value},P.Nodup→P[i]? = some x→vs[i]? = some v→kindOf x≠some .local →
  bindC kindOf (P.zip vs) m x = some v
 | [],_,_,_,_,h,_,_=>by simp at h
 | _ :: _,[],_,_,_,_,h,_=>by simp at h
 | p :: P,w :: vs,0,m,nd,h1,h2,hk=>by
  simp at h1 h2; subst h1; subst h2
  show bindC kindOf ((p,w) :: P.zip vs) m p = _
  unfold bindC
  rw [zMd fun v hv=>(List.nodup_cons.mp nd).1 (List.of_mem_zip hv).1,if_neg hk]
  simp
 | p :: P,w :: vs,i + 1,m,nd,h1,h2,hk=>by
  show bindC kindOf ((p,w) :: P.zip vs) m x = _
  unfold bindC
  exact zLn (i:=i) (List.nodup_cons.mp nd).2 (by simpa using h1) (by simpa using h2) hk

def start (N:List Str) (vs:List V):St:=vs.map some ++ List.replicate (N.length - vs.length) none

def cxOf (CX:CXT) (P:Program) (w:World) (K:PySem.W.Frag) (mg:Str→Option Value) (base:Heap) (N:List Str) (qual:Str) (scope:Scope) (f:Addr) (cd:Value) (A:Around) (outer:List Env) (s:Shared) (H:Hp) (E:XK):Cx where
 prog:=P
 w:=w
 K:=K
 mg:=mg
 base:=base
 A:=A.deeper (envOfC qual scope s.heap.objs.size f cd)
 N:=N
 s₀:=s
 H₀:=H
 env:=envOfC qual scope s.heap.objs.size f cd
 outer:=outer
 stack:=envOfC qual scope s.heap.objs.size f cd :: outer
 ex:=[]
 calm:=true
 fn:=fun _=>true
 pn:=[]
 xe:=fun e s'=>wpAny (model P w) (A.deeper (envOfC qual scope s.heap.objs.size f cd)) (leaving (envOfC qual scope s.heap.objs.size f cd) e) (fun _ s''=>CX outer H s E e s'') (fun e' s''=>CX outer H s E e' s'') s'

theorem zN6 {sc:Scope} {n:Nat} {x:Str} (h:sc.names.lookup x = some .cell):∃ c,(cellsFrom n sc.names []).lookup x = some c:=by
 have q:=PySem.W.cellsFrom_some sc.names n [] (.inl h)
 exact Option.isSome_iff_exists.mp q

theorem zQ5 {CX:CXT} {P:Program} {w:World} {K:PySem.W.Frag} {mg:Str→Option Value} {base:Heap} {N ps:List Str} {qual:Str} {scope:Scope} {f:Addr} {cd:Value} {A:Around} {outer:List Env} {s s1:Shared} {H:Hp} {E:XK} {us:List Value} {vs:List V}
  (S:zAs N ps scope) (hd:A.handled = none) (e0:Env0 P w K mg base A outer s H) (hl:vs.length = ps.length) (r:Vals vs us)
  (x:InCallC s s.heap.objs.size (bindL (envOfC qual scope s.heap.objs.size f cd).kindOf (ps.zip us) fun _=>none) (cellsFrom (s.heap.objs.size + 1) scope.names []) (bindC (envOfC qual scope s.heap.objs.size f cd).kindOf (ps.zip us) fun _=>none) s1) :
  Inv (cxOf CX P w K mg base N qual scope f cd A outer s H E) [] (start N vs) H s1:=by
 have hpl:ps.length≤N.length:=by have:=congrArg List.length S.pre; rw [List.length_take] at this; omega
 obtain ⟨h1,tk,rfl,hk⟩:=x.done
 have noA:∀ b:Addr,b ∉ (cxOf CX P w K mg base N qual scope f cd A outer s H E).ex:=fun b z=>absurd (show b∈([]:List Addr) from z) (by simp)
 refine ⟨⟨e0.mod,S.kind,rfl,rfl,Nat.le_refl _,fun y z c h1 h2=>?_,fun y hy=>?_,fun y c _ h=>?_,fun _=>hd,Around.frames_deeper e0.frames,.inr ⟨rfl,rfl⟩,fun b z=>absurd z (noA b),e0.bs,e0.bsz,fun b _ _=>noA b,fun b z=>absurd z (noA b),e0.funs,e0.frf⟩,
  rfl,e0.bare,Un.kept hk,⟨_,x.toInCall.ns,fun i y v h1 h2 h3=>?_⟩,fun y c h=>⟨_,x.cell y c h⟩,e0.hok.fresh (Nat.le_refl _),fun y c h=>?_,fun p hp=>absurd (show p∈([]:List (Addr × Obj)) from hp) (by simp),e0.hok.kept hk,?_⟩
 ·exact name_of_addr x.apart (PySem.mem_of_lookup h1) (PySem.mem_of_lookup h2)
 ·have hy:scope.names.lookup y = some .cell∨scope.names.lookup y = some .free:=hy
  rcases hy with hy | hy
  ·exact zN6 hy
  ·exact absurd rfl (S.nofree _ (PySem.mem_of_lookup hy))
 ·exact Nat.le_of_lt (x.above y c (PySem.mem_of_lookup h))
 ·have hi:i < vs.length:=by
   unfold start at h2
   by_cases hi:i < vs.length
   ·exact hi
   ·rw [List.getElem?_append_right (by simpa using hi)] at h2
    rw [List.getElem?_replicate] at h2
    split at h2 <;> cases h2
  have ha:vs[i]? = some v:=by
   unfold start at h2
   rw [List.getElem?_append_left (by simpa using hi),List.getElem?_map] at h2
   cases e:vs[i]? with
   | none=>rw [e] at h2; cases h2
   | some a=>rw [e] at h2; cases h2; rfl
  obtain ⟨u,hu,rv⟩:=r.get ha
  have hp:ps[i]? = some y:=by
   rw [← S.pre,List.getElem?_take_of_lt (by omega)]; exact h1
  have ndP:ps.Nodup:=by rw [← S.pre]; exact S.nd.sublist (List.take_sublist _ _)
  refine ⟨u,rv,?_⟩
  rcases S.par y (List.mem_of_getElem? hp) with k | k
  ·exact .inl ⟨k,zLs ndP hp hu k⟩
  ·obtain ⟨c,e⟩:=zN6 (n:=s.heap.objs.size + 1) k
   refine .inr ⟨.inl k,c,e,?_⟩
   have q:=x.cell y c e
   rw [zLn ndP hp hu (by show scope.names.lookup y≠_; rw [k]; decide)] at q
   exact q
 ·exact e0.hok.fresh (Nat.le_of_lt (x.above y c (PySem.mem_of_lookup h)))
 ·unfold start
  show _ = N.length
  rw [List.length_append,List.length_map,List.length_replicate]
  omega

theorem fn_of {CX:CXT} {P:Program} {w:World} {K:PySem.W.Frag} {mg:Str→Option Value} {base:Heap} {k:Nat} {f:Addr} {name qual:Str} {params:Arguments} {body:List Stmt} {scope:Scope} {dV kV doc pm cdv ct oc:Value} {an od:Option Addr}
  {osl:Array (Option Value)} {N ps:List Str} {sp:Sp} (lk:K.lookup f = some ⟨oc,od,.func (PySem.W.fnOf name qual params body scope dV kV doc pm an cdv ct),osl⟩) (hcd:PySem.W.codeIn K cdv qual = true) (S:zAs N ps scope)
  (len:∀ vs H Q E,sp vs H Q E→vs.length = ps.length)
  (hbody:∀ (A:Around) (outer:List Env) (s:Shared) (H:Hp) (vs:List V) (Q:VK) (E:XK),Room k (A.deeper (envOfC qual scope s.heap.objs.size f cdv))→sp vs H Q E →
   ∃ t,PSs (cxOf CX P w K mg base N qual scope f cdv A outer s H E) body t∧t { nx:=fun _ H'=>Q .non H',rt:=Q } (start N vs) H) :
  FnOk P w K mg base CX (k + 1) f (PySem.W.fnOf name qual params body scope dV kV doc pm an cdv ct) ps sp:=by
 refine ⟨len,fun A outer s H args us vs Q E hr e0 hb r hsp=>?_⟩
 have hl:=len _ _ _ _ hsp
 have KX:K.In s.heap:=e0.mod.kin.keeps fun b o e=>(e0.bs b o e).1
 have lim:s.heap.NoLimit:=e0.mod.nolimit.keeps fun b o e=>(e0.bs b o e).1
 have hkind:∀ y∈ps.zip us,scope.names.lookup y.1 = some .local∨(scope.names.lookup y.1 = some .cell∧((cellsFrom (s.heap.objs.size + 1) scope.names []).lookup y.1).isSome = true):=fun ⟨n,v⟩ hy=>by
  rcases S.par n (List.of_mem_zip hy).1 with q | q
  ·exact .inl q
  ·exact .inr ⟨q,PySem.W.cellsFrom_some _ _ _ (.inl q)⟩
 refine codeAny_call_function hr.depth (KX _ _ lk) rfl S.co S.gen rfl (PySem.W.codeRec_of KX hcd) (hb _ _ _ _ ?_)
 refine wpAny_newFunctionEnv_cells S.kind hkind fun env he s1 x=>?_
 subst he
 refine ⟨lim.keeps x.toInCall.keep,codeAny_func ?_⟩
 obtain ⟨t,ht,hq⟩:=hbody A outer s H vs Q E (hr.deeper _) hsp
 have I:Inv (cxOf CX P w K mg base N qual scope f cdv A outer s H E) [] (start N vs) H s1:=zQ5 S hr.hd e0 hl r x
 refine wpAny_mono (ht [] s1 (start N vs) H _ I hq) (fun fl s' hs=>?_) fun e s' hs=>hs
 have fin:∀ {σ':St} {H':Hp} {v:V} {u:Value},Inv (cxOf CX P w K mg base N qual scope f cdv A outer s H E) [] σ' H' s'→RelV v u→Q v H'→CE outer P w H s Q u s' :=
  fun {σ' H' v u} J rv q=>⟨v,H',J.os,J.bare,J.base,J.hok,rv,q⟩
 cases fl with
 | ret u =>
  obtain ⟨v,σ',H',J,rv,q⟩:=hs
  exact fin J rv q
 | next =>
  obtain ⟨σ',H',J,q⟩:=hs
  exact fin (v:=V.non) (u:=Value.none) J rfl q
 | brk =>
  obtain ⟨_,_,_,q⟩:=hs
  exact False.elim q
 | cont =>
  obtain ⟨_,_,_,q⟩:=hs
  exact False.elim q
end L2

namespace L2
open PySem PySem.Spec PyProof.Rows
section
variable {X:Cx} {x:Str} {p pos:Pos} {e:Expr} {es:List Expr} {t:TA} {id T:String} {r:List V→Hp→VK→Prop}

def tCB (r:List V→Hp→VK→Prop) (t:TA):TE:=fun σ H Q=>t σ H fun vs H1=>r vs H1 Q
theorem zAx (hc:zHk X (.builtin id) r) (hg:Gl X x) (hm:X.mg x = none) (hv:bootBuiltins x = some (.builtin id)) (ha:PA X (e :: es) t) (hn:x ≠ "__name__" := by decide) (hdb:(x == ("__debug__" : Str)) = false:=by decide)
  (he:starEach (e :: es) X.env = (false,eval e X.env) :: starEach es X.env:=by rfl) (hpl:(backTo pos (starEach es X.env)).any (·.1) = false:=by rfl):PE X (.Call (.Name x p) (e :: es) [] pos) (tCB r t):=by
 intro pins s σ H Q I h
 refine wpAny_Call_Name_kw (zH2 I hg hm hv ?_ hn hdb)
 exact PyProof.Rows.callWith_builtin1 (thn (ha pos pins s σ H _ I h) fun us s1 ⟨vs,H1,I1,r1,q1⟩=>hc pins s1 σ H1 vs us Q I1 r1 q1) he hpl
theorem zBt (hc:zHk X (.type T) r) (hg:Gl X x) (hm:X.mg x = none) (hv:bootBuiltins x = some (.type T)) (ha:PA X (e :: es) t) (hn:x ≠ "__name__" := by decide) (hdb:(x == ("__debug__" : Str)) = false:=by decide)
  (he:starEach (e :: es) X.env = (false,eval e X.env) :: starEach es X.env:=by rfl) (hpl:(backTo pos (starEach es X.env)).any (·.1) = false:=by rfl):PE X (.Call (.Name x p) (e :: es) [] pos) (tCB r t):=by
 intro pins s σ H Q I h
 refine wpAny_Call_Name_kw (zH2 I hg hm hv ?_ hn hdb)
 exact PyProof.Rows.callWith_type1 (thn (ha pos pins s σ H _ I h) fun us s1 ⟨vs,H1,I1,r1,q1⟩=>hc pins s1 σ H1 vs us Q I1 r1 q1) he hpl
end
end L2

namespace HT
open PySem PyProof.Rows

def lexLt:List Int→List Int→Bool
 | [],[]=>false
 | [],_ :: _=>true
 | _ :: _,[]=>false
 | x :: xs,y :: ys=>if x = y then lexLt xs ys else decide (x < y)
theorem lexLt_cons (x y:Int) (xs ys:List Int):lexLt (x :: xs) (y :: ys) = if x = y then lexLt xs ys else decide (x < y):=rfl
theorem zKn:lexLt [] [] = false:=rfl
theorem zJf (y:Int) (ys:List Int):lexLt [] (y :: ys) = true:=rfl
theorem zJh (x:Int) (xs:List Int):lexLt (x :: xs) [] = false:=rfl

theorem zSd (A:Around) (s:Shared) (a:Int) (t:Tok) (c:Int) (u:Tok):∃ e,SeqAt.EqAt A s (.int a t) (.int c u) e∧(e = true↔a = c) :=
 ⟨(a == c),SeqAt.EqAt.int_int a t c u,by simp⟩
theorem zSc (A:Around) (s:Shared) (a:Int) (t:Tok) (c:Int) (u:Tok) (prog:Program) (w:World) (E:Value→Shared→Prop) (Q:Value→Shared→Prop) (h:Q (.bool (decide (a < c))) s) :
  wpAny (model prog w) A (richCompare .Lt (.int a t) (.int c u)) Q E s :=
 (PyProof.Rows.lt_int h:wpAny (model prog w) A (compareOp .Lt (.int a t) (.int c u)) Q E s)

section
open PySem.SeqAt
open PySem.AutoSeq1 (wpAny_loadPart')
open PySem.MeetsSeq PySem.MeetsSeq2 PySem.MeetsSeq3

theorem tuple_lt_ints (l b:Addr) (items items2:Array Value) (n n2:Nat) (dd dd2:Option Addr) (sl sl2:Array (Option Value)) (ns ms:List Int) (hi:IntsAre items.toList ns) (hj:IntsAre items2.toList ms) :
  Meets (Builtin.«tuple.__lt__» ⟨[.ref l,.ref b],[]⟩)
   (fun _ R s=>s.heap.get? l = some { cls:=.type "tuple", dict:=dd,data:=.seq items n,slots:=sl }∧s.heap.get? b = some { cls:=.type "tuple", dict:=dd2,data:=.seq items2 n2,slots:=sl2 } ∧
    R (.ok (.ret (.bool (lexLt ns ms)))) s) :=
 .of_wp fun prog w A R s h=>by
  obtain ⟨hp,g,d,tk,os⟩:=s; obtain ⟨hl,hb,h⟩:=h
  have f2:=AutoSeq1.sub_tuple_tuple
  have z1:items.size = ns.length:=by rw [← hi.length]; simp
  have z2:items2.size = ms.length:=by rw [← hj.length]; simp
  wp_walk using wpAny_loadPart' hl,wpAny_loadPart' hb,wpAny_forIn_list _ (fun rest b s'=>b.1 = none∧s' = ⟨hp,g,d,tk,os⟩∧∃ (vs ws:List Value) (ns' ms':List Int),rest = vs.zip ws ∧
   IntsAre vs ns'∧IntsAre ws ms'∧ns'.length + items2.size = ms'.length + items.size∧R (.ok (.ret (.bool (lexLt ns' ms')))) ⟨hp,g,d,tk,os⟩) _
  case turn =>
   rintro ⟨y,x⟩ rest b s' ⟨hb',rfl,vs,ws,ns',ms',hz,hvi,hwi,hlen,hR⟩
   cases hvi with
   | nil=>rw [List.zip_nil_left] at hz; cases hz
   | cons a t hvi' =>
    cases hwi with
    | nil=>rw [List.zip_nil_right] at hz; cases hz
    | cons c u hwi' =>
     rw [List.zip_cons_cons] at hz
     injection hz with hyx hrest
     injection hyx with hy hx
     subst hy hx
     rw [lexLt_cons] at hR
     simp only [List.length_cons] at hlen
     obtain ⟨e,he,hiff⟩:=zSd A.in1 ⟨hp,g,d,tk,os⟩ a t c u
     refine wpAny_bind (he prog w _ _ ?_)
     cases e with
     | true =>
      rw [if_pos (hiff.mp rfl)] at hR
      wp_walk
      exact ⟨rfl,rfl,_,_,_,_,hrest,hvi',hwi',by omega,hR⟩
     | false =>
      rw [if_neg (fun q=>absurd (hiff.mpr q) Bool.false_ne_true)] at hR
      have hri:=zSc A.in1 ⟨hp,g,d,tk,os⟩ a t c u prog w
      wp_walk using hri
      exact ⟨_,rfl,by simpa using hR⟩
  case fin =>
   rintro ⟨b1,b2⟩ s' ⟨hb',rfl,vs,ws,ns',ms',hz,hvi,hwi,hlen,hR⟩
   simp only at hb'
   subst hb'
   have hv:lexLt ns' ms' = decide (items.size < items2.size):=by
    cases hvi with
    | nil =>
     cases hwi with
     | nil =>
      simp only [List.length_nil] at hlen
      rw [zKn]
      exact (decide_eq_false (by omega)).symm
     | cons c u hw =>
      simp only [List.length_nil,List.length_cons] at hlen
      rw [zJf]
      exact (decide_eq_true (by omega)).symm
    | cons a t hv =>
     cases hwi with
     | nil =>
      simp only [List.length_nil,List.length_cons] at hlen
      rw [zJh]
      exact (decide_eq_false (by omega)).symm
     | cons c u hw =>
      rw [List.zip_cons_cons] at hz
      cases hz
   rw [hv] at hR
   wp_walk
   exact ⟨_,rfl,by simpa [Builtin.Tuple.tupleCompareSizes] using hR⟩
  case h =>
   exact ⟨rfl,rfl,items.toList,items2.toList,ns,ms,rfl,hi,hj,by omega,h⟩
end

section
variable {prog:Program} {w:World} {A:Around} {E:Value→Shared→Prop} {s:Shared}

theorem lt_tupInts {l b:Addr} {items items2:Array Value} {ns ms:List Int} {Q:Value→Shared→Prop} (hl:IsTup s.heap l items) (hb:IsTup s.heap b items2) (hi:IntsAre items.toList ns) (hj:IntsAre items2.toList ms)
  (hu:A.units < cLine) (h:Q (.bool (lexLt ns ms)) s):wpAny (model prog w) A (compareOp .Lt (.ref l) (.ref b)) Q E s:=by
 obtain ⟨⟨cls,dd,data,sl⟩,ho,hc,n,hd⟩:=id hl
 obtain ⟨⟨cls2,dd2,data2,sl2⟩,ho2,hc2,n2,hd2⟩:=id hb
 simp only at hc hd hc2 hd2
 subst hc hd hc2 hd2
 exact richCompare_meets_room (op:=.Lt) ⟨_,ho,rfl⟩ ⟨_,ho2,rfl⟩ PySem.F.slot_tuple_lt PySem.F.entry_tuple_lt (PySem.F.args_tuple_lt_2 _ _) (tuple_lt_ints l b items items2 n n2 dd dd2 sl sl2 ns ms hi hj)
  ⟨ho,ho2,show Value.bool (lexLt ns ms)≠Value.notImplemented∧Q (.bool (lexLt ns ms)) s from ⟨(fun x=>nomatch x),h⟩⟩ hu

def sIx (n d:Nat):Option Int→Nat
 | none=>d
 | some v=>if v < 0 then (v + (n:Int)).toNat else min v.toNat n
theorem sIx_nat (n d k:Nat):sIx n d (some (k:Int)) = min k n:=by
 show (if (k:Int) < 0 then ((k:Int) + (n:Int)).toNat else min (k:Int).toNat n) = min k n
 rw [if_neg (by omega),Int.toNat_natCast]
end
end HT

namespace L2
open PySem PySem.Spec PyProof.Rows

abbrev TO:=St→Hp→(Option Int→Hp→Prop)→Prop
def PO (X:Cx) (e:Option Expr) (t:TO):Prop :=
 ∀ (pins:List (Addr × Obj)) (s:Shared) (σ:St) (H:Hp) (Q:Option Int→Hp→Prop),Inv X pins σ H s→t σ H Q →
  wpAny (model X.prog X.w) X.A (evalPart e X.env) (fun u s'=>∃ o H',Inv X pins σ H' s'∧IsPart u o∧Q o H') X.xe s
def zUt:TO:=fun _ H Q=>Q none H
def tPart (t:TE):TO:=fun σ H Q=>t σ H fun x H1=>∃ i,x = .int i∧Q (some i) H1

theorem zFc {ns:List Int} : ∀ {us:List Value},Vals (ns.map V.int) us→IntsAre us ns:=by
 induction ns with
 | nil=>intro us r; rw [List.map_nil] at r; cases r; exact .nil
 | cons n ns ih =>
  intro us r
  rw [List.map_cons] at r
  cases r with
  | cons r1 r2 =>
   obtain ⟨t,e⟩:=r1
   subst e
   exact .cons n t (ih r2)

section
variable {X:Cx} {e:Expr} {te:TE} {lo hi:Option Expr} {tl th:TO} {pos p2:Pos}

theorem zC5:PO X none zUt:=by
 intro pins s σ H Q I h
 rw [evalPart_none]
 exact wpAny_pure ⟨none,H,I,.none,h⟩
theorem zDa (h:PE X e te):PO X (some e) (tPart te):=by
 intro pins s σ H Q I hw
 rw [evalPart_some]
 refine thn (h pins s σ H _ I hw) fun u s1 ⟨x,H1,I1,r1,q1⟩=>?_
 obtain ⟨i,rfl,q⟩:=q1
 obtain ⟨t,rfl⟩:=r1
 exact ⟨some i,H1,I1,.int i t,q⟩

def SlR (X:Cx) (r:V→Option Int→Option Int→Hp→VK→Prop):Prop :=
 ∀ (pins:List (Addr × Obj)) (s:Shared) (σ:St) (H:Hp) (x:V) (v vl vu:Value) (lo hi:Option Int) (sl:Addr) (Q:VK),Inv X pins σ H s→RelV x v→s.heap.IsSliceOf sl vl vu .none→IsPart vl lo→IsPart vu hi→r x lo hi H Q →
  ∃ T id,typeLookup (.type T) "__getitem__" = pure (some (.builtin id))∧s.TypeIs v T∧wpAny (model X.prog X.w) X.A (getItem v (.ref sl)) (EP X pins σ Q) X.xe s
def tSl (r:V→Option Int→Option Int→Hp→VK→Prop) (te:TE) (tl th:TO):TE:=fun σ H Q=>te σ H fun x H1=>tl σ H1 fun l H2=>th σ H2 fun u H3=>r x l u H3 Q
theorem zCd {r:V→Option Int→Option Int→Hp→VK→Prop} (hr:SlR X r) (he:PE X e te) (hl:PO X lo tl) (hu:PO X hi th):PE X (.Subscript e (.Slice lo hi none p2) pos) (tSl r te tl th):=by
 intro pins s σ H Q I h
 refine Subscript_ (thn (he pins s σ H _ I h) fun v s1 ⟨x,H1,I1,r1,q1⟩=>?_)
 refine wpAny_Slice (thn (hl pins s1 σ H1 _ I1 q1) fun vl s2 ⟨l,H2,I2,pl,q2⟩=>thn (hu pins s2 σ H2 _ I2 q2) fun vu s3 ⟨u,H3,I3,pu,q3⟩=>?_)
 rw [evalPart_none]
 refine wpAny_pure ?_
 have I4:Inv X pins σ H3 { s3 with heap:=s3.heap.push { cls:=.type "slice", data:=.fields #[vl,vu,.none] } }:=I3.kept (t':=s3.toks) fun b ob q=>Heap.get?_push_of_some _ q
 obtain ⟨T,id,hT,ht,hg⟩:=hr pins { s3 with heap:=s3.heap.push { cls:=.type "slice", data:=.fields #[vl,vu,.none] } } σ H3 x v vl vu l u s3.heap.objs.size Q I4 r1 (Heap.IsSliceOf.new ..) pl pu q3
 show wpAny (model X.prog X.w) X.A (subscriptTail e (.Slice lo hi none p2) v (.ref s3.heap.objs.size)) (EP X pins σ Q) X.xe { s3 with heap:=s3.heap.push { cls:=.type "slice", data:=.fields #[vl,vu,.none] } }
 exact tail_any (ops:=[.ref s3.heap.objs.size,v]) ht hT hg (by with_unfolding_all rfl)

def cutV (xs:List V) (lo hi:Option Int):List V:=(xs.drop (HT.sIx xs.length 0 lo)).take (HT.sIx xs.length xs.length hi - HT.sIx xs.length 0 lo)
theorem zMs (xs:List V) (lo hi:Option Int):(cutV xs lo hi).length≤xs.length:=by
 unfold cutV
 rw [List.length_take,List.length_drop]
 omega
end
end L2

namespace L2
open PySem PySem.Spec PyProof.Rows

def ixN (n:Nat) (i:Int):Option Nat:=if 0≤i then (if i < n then some i.toNat else none) else if -(n:Int)≤i then some (i + n).toNat else none
def atI {α:Type} (xs:List α) (i:Int):Option α:=(ixN xs.length i).bind fun j=>xs[j]?
theorem zQm {n:Nat} {i:Int} {j:Nat} (h:ixN n i = some j):seqIndex? i n = some j∧j < n∧-(n:Int)≤i∧i < n:=by
 unfold ixN at h
 by_cases h0:0≤i
 ·rw [if_pos h0] at h
  by_cases h1:i < n
  ·rw [if_pos h1] at h
   have e:i.toNat = j:=Option.some.inj h
   exact ⟨by rw [seqIndex_of h0 h1,e],by omega,by omega,h1⟩
  ·rw [if_neg h1] at h; cases h
 ·rw [if_neg h0] at h
  by_cases h1 : -(n:Int)≤i
  ·rw [if_pos h1] at h
   have e:(i + n).toNat = j:=Option.some.inj h
   exact ⟨by rw [seqIndex_neg (by omega) h1,e],by omega,h1,by omega⟩
  ·rw [if_neg h1] at h; cases h
theorem zQg {α:Type} {xs:List α} {i:Int} {v:α} (h:atI xs i = some v):∃ j,seqIndex? i xs.length = some j∧xs[j]? = some v∧j < xs.length∧-(xs.length:Int)≤i∧i < xs.length:=by
 unfold atI at h
 cases e:ixN xs.length i with
 | none=>rw [e] at h; cases h
 | some j =>
  rw [e] at h
  obtain ⟨h1,h2,h3,h4⟩:=zQm e
  exact ⟨j,h1,h,h2,h3,h4⟩
theorem zFx {α:Type} {xs:List α} {j:Nat} {v:α} (h:xs[j]? = some v):atI xs (j:Int) = some v:=by
 have hj:j < xs.length:=(List.getElem?_eq_some_iff.mp h).1
 have e:ixN xs.length (j:Int) = some j:=by
  unfold ixN
  rw [if_pos (by omega),if_pos (by omega)]; simp
 unfold atI; rw [e]; exact h
def zTv (b:Expr):Prop:=∀ o i,subscripted b false o i = operate [o,i] (getItem o i)
def IxR (X:Cx) (r:R2):Prop :=
 ∀ (value slice:Expr) (pins:List (Addr × Obj)) (s:Shared) (σ:St) (H:Hp) (x y:V) (v u:Value) (Q:VK),Inv X pins σ H s→RelV x v→RelV y u→r x y H Q →
  subscripted slice false v u = operate [v,u] (getItem v u)→wpAny (model X.prog X.w) X.A (subscriptTail value slice v u) (EP X pins σ Q) X.xe s
def MtR (X:Cx) (id:String) (r:V→List V→Hp→VK→Prop):Prop :=
 ∀ (pins:List (Addr × Obj)) (s:Shared) (σ:St) (H:Hp) (x:V) (xs:List V) (v:Value) (us:List Value) (Q:VK),Inv X pins σ H s→RelV x v→Vals xs us→r x xs H Q →
  wpAny (model X.prog X.w) X.A (call (.builtin id) (v :: us)) (EP X pins σ Q) X.xe s
section
variable {X:Cx} {a b:Expr} {ta tb:TE} {pos:Pos}
theorem zAq {r:R2} (hr:IxR X r) (ha:PE X a ta) (hb:PE X b tb) (hs:zTv b):PE X (.Subscript a b pos) (tOp r ta tb):=by
 intro pins s σ H Q I h
 exact Subscript_ (binT ha hb I h fun v u s2 x y H2 I2 rx ry q=>hr a b pins s2 σ H2 x y v u Q I2 rx ry q (hs _ _))

def rIxL (K:PySem.W.Frag):R2:=fun x y H Q=>∃ p xs i v,x = .ref p∧y = .int i∧SqL K H p xs∧atI xs i = some v∧Q v H
def rIxT (K:PySem.W.Frag):R2:=fun x y H Q=>∃ p xs i v,x = .ref p∧y = .int i∧SqT K H p xs∧atI xs i = some v∧Q v H
theorem zUp:IxR X (rIxL X.K):=by
 intro value slice pins s σ H x y v u Q I rx ry h hs
 obtain ⟨p,xs,i,z,rfl,rfl,hq,he,q⟩:=h
 cases rx
 obtain ⟨t,rfl⟩:=ry
 obtain ⟨its,r,pl,hz⟩:=I.list hq
 obtain ⟨j,h1,h2,h3,h4,h5⟩:=zQg he
 obtain ⟨w,ew,rw'⟩:=r.get h2
 have hl:=r.length
 have hn:=zNn
 have fin:EP X pins σ Q w s:=⟨z,H,I,rw',q⟩
 by_cases h0:0≤i
 ·have hj:i.toNat = j:=by
   rw [seqIndex_of h0 h5] at h1
   exact Option.some.inj h1
  exact item_listR pl.isList h0 (by omega) (by rw [hj]; simpa using ew) fin hs
 ·have hj:(i + (its.toArray.size:Int)).toNat = j:=by
   rw [seqIndex_neg (by omega) h4] at h1
   rw [List.size_toArray,← hl]
   exact Option.some.inj h1
  exact subscriptTail_builtinR (x:=w) pl.isList.typeIs slot_list_getitem.lookup
   (wpAny_getItem_list_neg (Q:=fun r s'=>r = w∧EP X pins σ Q r s') pl.isList (by omega) (by rw [List.size_toArray] <;> omega) (by omega) (by rw [hj]; simpa using ew) ⟨rfl,fin⟩) hs
theorem ix_tup:IxR X (rIxT X.K):=by
 intro value slice pins s σ H x y v u Q I rx ry h hs
 obtain ⟨p,xs,i,z,rfl,rfl,hq,he,q⟩:=h
 cases rx
 obtain ⟨t,rfl⟩:=ry
 obtain ⟨its,r,pl,hz⟩:=I.tuple hq
 obtain ⟨j,h1,h2,h3,h4,h5⟩:=zQg he
 obtain ⟨w,ew,rw'⟩:=r.get h2
 have hl:=r.length
 have hn:=zNn
 have fin:EP X pins σ Q w s:=⟨z,H,I,rw',q⟩
 exact subscriptTail_builtinR (x:=w) pl.typeIs slot_tuple_getitem.lookup
  (getItem_tuple (j:=j) (Q:=fun r s'=>r = w∧EP X pins σ Q r s') pl (by omega) (by omega) (by rw [List.size_toArray,← hl]; exact h1) (by simpa using ew) ⟨rfl,fin⟩) hs
theorem zO1 (its:List Value) (n j:Nat) (u:Value):Obj.mapSeq (·.setIfInBounds j u) { cls:=.type "list", data:=.seq its.toArray n } = { cls:=.type "list", data:=.seq (its.set j u).toArray n }:=by
 simp [Obj.mapSeq]
theorem Inv.lst {pins:List (Addr × Obj)} {σ:St} {H:Hp} {s:Shared} {p:Addr} {xs:List V} (I:Inv X pins σ H s) (h:H p = some (.lst xs)) :
  ∃ (its:List Value) (n:Nat),Vals xs its∧s.heap.get? p = some { cls:=.type "list", data:=.seq its.toArray n }∧xs.length≤sizeLine:=by
 obtain ⟨z,its,n,r,e⟩:=I.hok p _ h
 exact ⟨its,n,r,e,z⟩
theorem Inv.lstUpd {pins:List (Addr × Obj)} {σ:St} {H:Hp} {s:Shared} {p:Addr} {xs ys:List V} {its its':List Value} {n n':Nat} {f:Obj→Obj} (I:Inv X pins σ H s) (h:H p = some (.lst xs))
  (ho:s.heap.get? p = some { cls:=.type "list", data:=.seq its.toArray n }) (hf:f { cls:=.type "list", data:=.seq its.toArray n } = { cls:=.type "list", data:=.seq its'.toArray n' }) (r:Vals ys its') (hz:ys.length≤sizeLine) (t:Nat) :
  Inv X pins σ (upd H p (.lst ys)) { s with heap:=s.heap.update p f,toks:=t }:=by
 have e:(s.heap.update p f).get? p = some { cls:=.type "list", data:=.seq its'.toArray n' }:=by
  rw [Heap.get?_update_self f ho (by rw [hf] <;> rfl),hf]
 refine I.write (x:=p) (e:=p) (by rw [h]; trivial) (.inl rfl) (fun b u hb q=>(Heap.get?_update_other _ _ (Ne.symm hb)).trans q) ⟨_,e⟩ ?_
 exact ⟨hz,its',n',r,e⟩
def rSetL:V→V→V→Hp→(Hp→Prop)→Prop:=fun o i v H Q=>∃ p xs k j,o = .ref p∧i = .int k∧H p = some (.lst xs)∧ixN xs.length k = some j∧Q (upd H p (.lst (xs.set j v)))
theorem zSw:PSet X rSetL:=by
 intro pins s σ H o i v ov iv u Q I ro ri rv h
 obtain ⟨p,xs,k,j,rfl,rfl,hp,hj,q⟩:=h
 cases ro
 obtain ⟨t,rfl⟩:=ri
 obtain ⟨its,n,r,ho,hz⟩:=I.lst hp
 obtain ⟨h1,h2,h3,h4⟩:=zQm hj
 have hl:=r.length
 have hn:=zNn
 have I':Inv X pins σ (upd H p (.lst (xs.set j v))) { s with heap:=s.heap.update p (Obj.mapSeq (·.setIfInBounds j u)) } :=
  I.lstUpd hp ho (zO1 its n j u) (r.set rv j) (by rw [List.length_set]; exact hz) s.toks
 by_cases h0:0≤k
 ·have hk:k.toNat = j:=by
   rw [seqIndex_of h0 h4] at h1
   exact Option.some.inj h1
  exact PySem.W.ki_setAt ho h0 (by omega) (by rw [List.size_toArray,← hl]; exact h4) (by rw [hk]; exact ⟨_,I',q⟩)
 ·have hk:(k + (its.toArray.size:Int)).toNat = j:=by
   rw [seqIndex_neg (by omega) h3] at h1
   rw [List.size_toArray,← hl]
   exact Option.some.inj h1
  exact PySem.W.ki_setBack ho (by omega) (by rw [List.size_toArray,← hl]; exact h3) (by omega) (by rw [hk]; exact ⟨_,I',q⟩)

theorem zLv (lo hi:Option Int) (n:Nat):(sliceBounds lo hi none n).1 = ((HT.sIx n 0 lo:Nat):Int)∧(sliceBounds lo hi none n).2.1 = ((HT.sIx n n hi:Nat):Int)∧(sliceBounds lo hi none n).2.2 = 1:=by
 refine ⟨?_,?_,rfl⟩
 ·cases lo with
  | none=>simp [sliceBounds,HT.sIx]
  | some i =>
   simp only [sliceBounds,HT.sIx,Option.getD_none,show (1:Int) > 0 by decide,if_true]
   by_cases h:i < 0
   ·simp only [h,if_true] <;> omega
   ·simp only [h,if_false] <;> omega
 ·cases hi with
  | none=>simp [sliceBounds,HT.sIx]
  | some i =>
   simp only [sliceBounds,HT.sIx,Option.getD_none,show (1:Int) > 0 by decide,if_true]
   by_cases h:i < 0
   ·simp only [h,if_true] <;> omega
   ·simp only [h,if_false] <;> omega
theorem zK1 (its:List Value) (lo hi:Option Int):slicePick its.toArray lo hi none = ((its.drop (HT.sIx its.length 0 lo)).take (HT.sIx its.length its.length hi - HT.sIx its.length 0 lo)).toArray:=by
 obtain ⟨h1,h2,h3⟩:=zLv lo hi its.toArray.size
 unfold slicePick
 rw [h1,h2,h3]
 simp only [sliceRange_one,pick_run,List.size_toArray] <;> rfl
def rSlL (K:PySem.W.Frag):V→Option Int→Option Int→Hp→VK→Prop:=fun x lo hi H Q=>∃ a xs,x = .ref a∧SqL K H a xs∧∀ p,H p = none→Q (.ref p) (upd H p (.lst (cutV xs lo hi)))
theorem zC8:SlR X (rSlL X.K):=by
 intro pins s σ H x v vl vu lo hi sl Q I rx hs pl pu h
 obtain ⟨a,xs,rfl,hx,q⟩:=h
 cases rx
 obtain ⟨its,r,ht,hz⟩:=I.list hx
 have hlen:=r.length
 refine ⟨"list", _,slot_list_getitem.lookup,ht.isList.typeIs,?_⟩
 refine wpAny_getItem_list_slice ht.isList hs pl pu .none (by simp) ?_ (by rw [List.size_toArray] <;> omega)
 rw [zK1,← hlen]
 refine ⟨.ref s.heap.objs.size,_,I.laid (t':=s.toks) (o:=.lst (cutV xs lo hi)) (fun b ob q=>Heap.get?_push_of_some _ q) (Nat.le_refl _) ?_,rfl,q _ (I.hok.fresh (Nat.le_refl _))⟩
 exact ⟨Nat.le_trans (zMs xs lo hi) hz,_,0,(r.drop (HT.sIx xs.length 0 lo)).take (HT.sIx xs.length xs.length hi - HT.sIx xs.length 0 lo),Heap.get?_push_size _ rfl⟩

theorem zAz:zHk X (.builtin "len") (fun xs H Q=>∃ p ys,xs = [.ref p]∧(SqL X.K H p ys∨SqT X.K H p ys)∧Q (.int ys.length) H):=by
 intro pins s σ H xs us Q I r h
 obtain ⟨p,ys,rfl,hq,q⟩:=h
 obtain ⟨u,rfl,rx⟩:=zR0 r
 cases rx
 have hn:=zNn
 rcases hq with hq | hq
 ·obtain ⟨its,r',pl,hz⟩:=I.list hq
  have hlen:=r'.length
  exact Calls.call_len_list pl.isList (by simp only [List.size_toArray] <;> omega) ⟨.int ys.length,H,I.tok _,⟨s.toks + 1,by rw [List.size_toArray,hlen]⟩,q⟩
 ·obtain ⟨its,r',pl,hz⟩:=I.tuple hq
  have hlen:=r'.length
  exact len_tuple pl (by simp only [List.size_toArray] <;> omega) ⟨.int ys.length,H,I.tok _,⟨s.toks + 1,by rw [List.size_toArray,hlen]⟩,q⟩
theorem zB7:zHk X (.type "list") (fun xs H Q=>∃ p ys,xs = [.ref p]∧(SqL X.K H p ys∨SqT X.K H p ys)∧∀ l,H l = none→Q (.ref l) (upd H l (.lst ys))):=by
 intro pins s σ H xs us Q I r h
 obtain ⟨p,ys,rfl,hq,q⟩:=h
 obtain ⟨u,rfl,rx⟩:=zR0 r
 cases rx
 have fin:∀ (its:List Value),Vals ys its→ys.length≤sizeLine→∀ (h':Heap) (c':Nat),(∀ b o',s.heap.get? b = some o'→h'.get? b = some o') →
   h'.get? s.heap.objs.size = some { cls:=.type "list", dict:=none,data:=.seq its.toArray c',slots:=#[] }→EP X pins σ Q (.ref s.heap.objs.size) { s with heap:=h' }:=fun its r' hz h' c' kp e =>
  ⟨.ref s.heap.objs.size,_,I.laid (t':=s.toks) kp (Nat.le_refl _) (show zCc X.prog X.w _ h' _ (.lst ys) from ⟨hz,its,c',r',e⟩),rfl,q _ (I.hok.fresh (Nat.le_refl _))⟩
 rcases hq with hq | hq
 ·obtain ⟨its,r',pl,hz⟩:=I.list hq
  have hlen:=r'.length
  obtain ⟨o,ho,hc,n,hd⟩:=pl.isList
  exact call_list_seq p (.inl rfl) ho hc hd (fun h' c' kp e=>fin its r' hz h' c' kp e) (by simp only [List.size_toArray] <;> omega)
 ·obtain ⟨its,r',pl,hz⟩:=I.tuple hq
  have hlen:=r'.length
  obtain ⟨o,ho,hc,n,hd⟩:=pl
  exact call_list_seq p (.inr rfl) ho hc hd (fun h' c' kp e=>fin its r' hz h' c' kp e) (by simp only [List.size_toArray] <;> omega)
theorem zF8:zHk X (.type "tuple") (fun xs H Q=>∃ p ys,xs = [.ref p]∧((SqL X.K H p ys∧∀ l,H l = none→Q (.ref l) (upd H l (.tup ys)))∨(SqT X.K H p ys∧Q (.ref p) H))):=by
 intro pins s σ H xs us Q I r h
 obtain ⟨p,ys,rfl,h⟩:=h
 obtain ⟨u,rfl,rx⟩:=zR0 r
 cases rx
 rcases h with ⟨hq,q⟩ | ⟨hq,q⟩
 ·obtain ⟨its,r',pl,hz⟩:=I.list hq
  have hlen:=r'.length
  refine call_tuple_list pl.isList (fun h' kp=>?_) (by simp only [List.size_toArray] <;> omega)
  have I1:Inv X pins σ H { s with heap:=h' }:=I.kept (t':=s.toks) kp
  have I2:Inv X pins σ (upd H h'.objs.size (.tup ys)) { s with heap:=h'.push { cls:=.type "tuple", data:=.seq its.toArray } } :=
   I1.laid (t':=s.toks) (fun b o e=>Heap.get?_push_of_some _ e) (Nat.le_refl _) (show zCc X.prog X.w _ _ _ (.tup ys) from ⟨hz,its,r',IsTup.new _ _⟩)
  exact ⟨.ref h'.objs.size,_,I2,rfl,q _ (I1.hok.fresh (Nat.le_refl _))⟩
 ·obtain ⟨its,r',pl,hz⟩:=I.tuple hq
  exact call_tuple_same pl ⟨.ref p,H,I,rfl,q⟩

def tyV (K:PySem.W.Frag) (T:String) (x:V) (H:Hp):Prop:=match x with
 | .str _=>T = "str"
 | .int _=>T = "int"
 | .ref p=>(T = "list" ∧ ∃ xs,SqL K H p xs)∨(T = "tuple" ∧ ∃ o,K.lookup p = some o∧o.cls = .type "tuple" ∧ o.dict = none) ∨
   (T = "dict" ∧ ((∃ kvs,H p = some (.dK kvs))∨∃ kvs,H p = some (.dT kvs)))∨(T = "set" ∧ ∃ S n,H p = some (.set S n))
 | _=>False
theorem tyV_is {pins:List (Addr × Obj)} {σ:St} {H:Hp} {s:Shared} {T:String} {x:V} {v:Value} (I:Inv X pins σ H s) (r:RelV x v) (ty:tyV X.K T x H) :
  s.TypeIs v T∧∀ a,v = .ref a→∃ ob,s.heap.get? a = some ob∧ob.dict = none:=by
 cases x with
 | str z =>
  obtain ⟨t,rfl⟩:=r
  cases (show T = "str" from ty)
  exact ⟨typeIs_str s z t,fun _ e=>nomatch e⟩
 | int i =>
  obtain ⟨t,rfl⟩:=r
  cases (show T = "int" from ty)
  exact ⟨typeIs_int s i t,fun _ e=>nomatch e⟩
 | ref p =>
  cases r
  rcases ty with ⟨rfl,xs,hq⟩ | ⟨rfl,o,hk,hc,hd⟩ | ⟨rfl,hk⟩ | ⟨rfl,S,n,hk⟩
  ·obtain ⟨its,_,pl,_⟩:=I.list hq
   refine ⟨pl.isList.typeIs,fun a e=>?_⟩
   cases e
   obtain ⟨o,n,e,c,hd,_⟩:=pl
   exact ⟨o,e,hd⟩
  ·refine ⟨⟨o,I.kIn p o hk,hc⟩,fun a e=>?_⟩
   cases e
   exact ⟨o,I.kIn _ o hk,hd⟩
  ·have z:∃ o,s.heap.get? p = some o∧o.ExactDict:=by
    rcases hk with ⟨kvs,hk⟩ | ⟨kvs,hk⟩
    ·obtain ⟨_,_,_,_,o,_,_,e,ex,_⟩:=I.hok p _ hk
     exact ⟨o,e,ex⟩
    ·obtain ⟨_,_,_,_,o,_,_,e,ex,_⟩:=I.hok p _ hk
     exact ⟨o,e,ex⟩
   obtain ⟨o,e,ex⟩:=z
   refine ⟨⟨o,e,ex.1⟩,fun a e2=>?_⟩
   cases e2
   exact ⟨o,e,ex.2.1⟩
  ·obtain ⟨o,_,_,_,e,ex,_⟩:=I.hok p _ hk
   refine ⟨⟨o,e,ex.1⟩,fun a e2=>?_⟩
   cases e2
   exact ⟨o,e,ex.2.1⟩
 | _=>exact False.elim ty
def tBM (K:PySem.W.Frag) (T:String) (r:V→List V→Hp→VK→Prop) (to:TE) (t:TA):TE:=fun σ H Q=>to σ H fun x H1=>tyV K T x H1∧t σ H1 fun xs H2=>r x xs H2 Q
variable {o e:Expr} {es:List Expr} {to:TE} {t:TA} {name:Str} {apos cpos:Pos} {T id:String} {r:V→List V→Hp→VK→Prop}
theorem zLm (pa:PlainAttrs T) (slot:Slot T name id) (hty:typeOf (.builtin id) = pure (.type "method_descriptor")) (hm:MtR X id r) (ho:PE X o to) (ha:PA X (e :: es) t)
  (hbase:attributeBase o name X.env (eval o X.env) = eval o X.env:=by rfl)
  (hfew:((backTo cpos (starEach (e :: es) X.env)).all (fun x=>!x.1) && (backToKw cpos (keywordEach [] X.env)).all (fun x=>x.1.isSome)
   && decide ((e :: es).length + ([]:List Keyword).length + (if ([]:List Keyword).isEmpty then 0 else 1) < 30)) = true:=by rfl)
  (hline:(apos.endLine == cpos.line) = true:=by rfl) (hs:starEach (e :: es) X.env = (false,eval e X.env) :: starEach es X.env:=by rfl) (hplain:(backTo cpos (starEach es X.env)).any (·.1) = false:=by rfl) :
  PE X (.Call (.Attribute o name apos) (e :: es) [] cpos) (tBM X.K T r to t):=by
 intro pins s σ H Q I h
 refine wpAny_Call_method_late hbase hfew hline rfl (thn (ho pins s σ H _ I h) fun v s1 ⟨x,H1,I1,r1,ty,q1⟩=>?_)
 obtain ⟨h1,h2⟩:=tyV_is I1 r1 ty
 refine ⟨T,id,pa,slot,hty,h1,h2,?_⟩
 have hA:=ha cpos pins s1 σ H1 _ I1 q1
 rw [hs] at hA ⊢
 refine Calls.callWith_builtin (by show (false || (backTo cpos (starEach es X.env)).any (·.1)) = false; rw [hplain] <;> rfl) (Calls.evalArgs_plain ?_)
 exact thn hA fun us s2 ⟨vs,H2,I2,r2,q2⟩=>hm pins s2 σ H2 x vs v us Q I2 r1 r2 q2
end
end L2

namespace L2
open PySem PySem.Spec PyProof.Rows

def MtM (X:Cx) (id:String) (r:V→List V→Hp→VK→Prop):Prop :=
 ∀ (pins:List (Addr × Obj)) (s:Shared) (σ:St) (H:Hp) (x:V) (xs:List V) (v:Value) (us:List Value) (Q:VK),Inv X pins σ H s→RelV x v→Vals xs us→r x xs H Q →
  wpAny (model X.prog X.w) X.A (call (.builtin id) (v :: us)) (EP X pins σ Q) X.xe s

theorem Vals.one:∀ {x:V} {us:List Value},Vals [x] us→∃ u,us = [u]∧RelV x u
 | _,_,.cons r .nil=>⟨_,rfl,r⟩
theorem Vals.two:∀ {x y:V} {us:List Value},Vals [x,y] us→∃ u v,us = [u,v]∧RelV x u∧RelV y v
 | _,_,_,.cons r (.cons q .nil)=>⟨_,_,rfl,r,q⟩
theorem Vals.zero:∀ {us:List Value},Vals [] us→us = []
 | _,.nil=>rfl
section
variable {X:Cx} {pins:List (Addr × Obj)} {σ:St} {H:Hp} {s:Shared} {l b:Addr} {xs ys zs:List V}

theorem Inv.lset {its its':List Value} {n:Nat} {f:Array Value→Array Value} {t':Nat} (I:Inv X pins σ H s) (hH:H l = some (.lst xs))
  (e:s.heap.get? l = some { cls:=.type "list", data:=.seq its.toArray n }) (hf:f its.toArray = its'.toArray) (hv:Vals ys its') (hz:ys.length≤sizeLine) :
  Inv X pins σ (upd H l (.lst ys)) { s with heap:=s.heap.update l (Obj.mapSeq f),toks:=t' }:=by
 have q:=PySem.IsL.update e f
 rw [hf] at q
 refine I.write (x:=l) (e:=l) (by rw [hH]; exact trivial) (.inl rfl) (fun b' u hb hu=>(Heap.get?_update_other s.heap (Obj.mapSeq f) (Ne.symm hb)).trans hu) ⟨_,q⟩ ?_
 exact ⟨hz,its',_,hv,q⟩
theorem Inv.lnew {its:List Value} {t':Nat} (I:Inv X pins σ H s) (hv:Vals ys its) (hz:ys.length≤sizeLine) :
  Inv X pins σ (upd H s.heap.objs.size (.lst ys)) { s with heap:=s.heap.push { cls:=.type "list", data:=.seq its.toArray },toks:=t' } :=
 I.laid (fun _ _ q=>Heap.get?_push_of_some _ q) (Nat.le_refl _) ⟨hz,its,0,hv,Heap.get?_push_size _ rfl⟩
theorem Inv.fresh (I:Inv X pins σ H s):H s.heap.objs.size = none:=I.hok.fresh (Nat.le_refl _)
theorem Inv.lstM (I:Inv X pins σ H s) (hH:H l = some (.lst xs)):xs.length≤sizeLine∧∃ (its:List Value) (n:Nat),Vals xs its∧xs.length = its.length∧s.heap.get? l = some { cls:=.type "list", data:=.seq its.toArray n }:=by
 obtain ⟨z,its,n,r,e⟩:=I.hok l _ hH
 exact ⟨z,its,n,r,r.length,e⟩

theorem zSg {n:Nat} (h:n≤sizeLine):Builtin.List.listTooLong n = false:=by
 unfold Builtin.List.listTooLong
 exact decide_eq_false (by omega)
end

section
variable {X:Cx}

def zUq:V→List V→Hp→VK→Prop:=fun x vs H Q=>∃ l xs y,x = .ref l∧vs = [y]∧H l = some (.lst xs)∧xs.length < sizeLine∧Q .non (upd H l (.lst (xs ++ [y])))
theorem zBy:MtM X "list.append" zUq:=by
 intro pins s σ H x vs v us Q I rx rv h
 obtain ⟨l,xs,y,rfl,rfl,hH,hz,q⟩:=h
 cases rx
 obtain ⟨u,rfl,ru⟩:=rv.one
 obtain ⟨z,its,n,r,hl,e⟩:=I.lstM hH
 refine call_meets F.slot_list_append ⟨_,e,rfl⟩ F.entry_list_append (F.args_list_append_2 _ _) (PySem.list_append l its.toArray n u (by rw [List.size_toArray]; omega)) ⟨e,?_⟩
 refine ⟨.non,_,I.lset (its':=its ++ [u]) hH e (by simp) (r.append (.cons ru .nil)) ?_,rfl,q⟩
 rw [List.length_append,List.length_singleton]
 omega

def zT1:V→List V→Hp→VK→Prop:=fun x vs H Q=>∃ l b xs zs,x = .ref l∧vs = [.ref b]∧H l = some (.lst xs)∧H b = some (.lst zs)∧xs.length + zs.length≤sizeLine∧Q .non (upd H l (.lst (xs ++ zs)))
theorem zRj:MtM X "list.extend" zT1:=by
 intro pins s σ H x vs v us Q I rx rv h
 obtain ⟨l,b,xs,zs,rfl,rfl,hH,hB,hz,q⟩:=h
 cases rx
 obtain ⟨u,rfl,ru⟩:=rv.one
 cases ru
 obtain ⟨z,its,n,r,hl,e⟩:=I.lstM hH
 obtain ⟨z2,its2,n2,r2,hl2,e2⟩:=I.lstM hB
 have hsz:its.toArray.size + its2.toArray.size≤sizeLine:=by rw [List.size_toArray,List.size_toArray]; omega
 have hlong:¬ (!its.toArray.isEmpty && Builtin.List.listTooLong (its.toArray.size + its2.toArray.size)) = true:=by
  rw [zSg hsz,Bool.and_false]
  exact Bool.false_ne_true
 refine call_meets F.slot_list_extend ⟨_,e,rfl⟩ F.entry_list_extend (F.args_list_extend_2 _ _)
  (AutoSeq1.list_extend_list_list_0 l its.toArray n b its2.toArray n2 hlong (by rw [List.size_toArray]; omega) (by omega)) ⟨e,e2,?_⟩
 refine ⟨.non,_,I.lset (its':=its ++ its2) hH e (by simp) (r.append r2) ?_,rfl,q⟩
 rw [List.length_append]
 omega

def rCat:R2:=fun x y H Q=>∃ l b xs zs,x = .ref l∧y = .ref b∧H l = some (.lst xs)∧H b = some (.lst zs)∧xs.length + zs.length≤sizeLine∧∀ p,H p = none→Q (.ref p) (upd H p (.lst (xs ++ zs)))
theorem zRz:OpR X (binaryOp .Add) rCat:=by
 intro pins s σ H x y v u Q I rx ry h
 obtain ⟨l,b,xs,zs,rfl,rfl,hH,hB,hz,q⟩:=h
 cases rx
 cases ry
 obtain ⟨z,its,n,r,hl,e⟩:=I.lstM hH
 obtain ⟨z2,its2,n2,r2,hl2,e2⟩:=I.lstM hB
 refine PySem.P.add_list e e2 ?_ (by rw [List.size_toArray,List.size_toArray]; omega)
 have ea:its.toArray ++ its2.toArray = (its ++ its2).toArray:=by simp
 rw [ea]
 exact ⟨.ref _,_,I.lnew (t':=s.toks) (r.append r2) (by rw [List.length_append]; omega),rfl,q _ I.fresh⟩
end

section
variable {prog:Program} {w:World} {A:Around} {E:Value→Shared→Prop} {s:Shared}
set_option maxRecDepth 100000 in
end

section
variable {X:Cx}
end
end L2

namespace Att
open PySem PySem.W PySem.Calls PyProof.Rows

theorem zIr {P:Params} {h:Heap} : ∀ (ns:List Int) (vs:List Value),WellAll P h vs (ns.map WData.int)→IntsAre vs ns:=by
 intro ns
 induction ns with
 | nil =>
  intro vs w
  rw [List.map_nil] at w
  cases w
  exact .nil
 | cons n ns ih =>
  intro vs w
  rw [List.map_cons] at w
  cases w with
  | cons a b =>
   cases a
   exact .cons _ _ (ih _ b)

theorem zQ2 {l:OpenLaw} {n:Nat} (hn:l.most = some n) {P:Params} {h:Heap} {args:List WData} {vals:List Value}
  (hpre:l.row.toRowW.claim.pre args = true) (hwl:WellAll P h vals args) :
  ∃ a vs ns,vals = [Value.ref a]∧args = [WData.list (ns.map WData.int)]∧h.get? a = some { cls:=.type "list", data:=.seq vs.toArray }∧IntsAre vs ns∧ns.length≤n:=by
 have hsh:WShape.hasAll [] args [.list .int] = true:=(pre_splitW hpre).1
 have hc:l.pre.holds [] { args:=args } = true:=(pre_splitW hpre).2
 obtain ⟨d,r,rfl,h1,h2⟩:=hasAllW_cons hsh
 obtain rfl:=hasAllW_nil h2
 obtain ⟨xs,rfl,h3⟩:=hasW_list h1
 obtain ⟨ns,rfl⟩:=items_int h3
 have hlen:ns.length≤n:=by
  unfold OpenLaw.pre at hc
  have h4:(WTm.not (.lt (.lit (.int (n:Int))) (.len (.arg 0)))).holds [] { args:=[.list (ns.map .int)] } = true:=by
   have h4:=(holds_andW hc).1
   rw [hn] at h4
   exact h4
  have h5:=condW_of h4 (w_not (w_lt w_lit (w_len_list (w_arg rfl))))
  rw [List.length_map] at h5
  refine Nat.le_of_not_lt fun q=>?_
  have q':(n:Int) < ((ns.length:Nat):Int):=by omega
  first
   | (rw [decide_eq_true q'] at h5; exact absurd h5 (by decide))
   | (simp at h5; omega)
 cases hwl with
 | cons w1 w2 =>
  cases w2
  cases w1 with
  | list ho hall=>exact ⟨_,_,ns,rfl,rfl,ho,zIr ns _ hall,hlen⟩

theorem zRm (l:OpenLaw) (args:List WData):l.row.toRowW.claim.post args (.bool true) args = true :=
 postW_of (r:=l.row.toRowW) (X:=(true == true))
  (show WShape.has [] (.bool true) .bool = true by first | rfl | decide | simp [WShape.has,WShape.arms,WShape.armsAll])
  (show (WTm.eq .res (.lit (.bool true))).value [] { args:=args,res:=some (.bool true),after:=args } = some (.bool (true == true)) from w_eq_bool (w_res rfl) w_lit) rfl

theorem attach_call {l:OpenLaw} {n:Nat} {q:Program} {loose:List Str} {XP:(Str→Option Value)→Heap→Prop} {YP:World→Heap→Prop} {d:DefRec}
  (hn:l.most = some n) (hdf:d.params.defaults = [])
  (call:∀ (w:World) (s₀ s₁:Shared) (mg mb:Str→Option Value) (fa:Addr) (o:Obj) (pm cd doc:Value) (a:Addr) (vs:List Value) (ns:List Int),
   Ground q loose [] XP w s₀ mg mb s₁.heap→YP w s₁.heap →
   s₁.heap.get? fa = some o→o.data = .func (docDef d.name d.params d.body d.scope pm cd doc)→s₁.heap.CodeRec cd d.name→mg d.name = some (.ref fa) →
   s₁.heap.get? a = some { cls:=.type "list", data:=.seq vs.toArray }→IntsAre vs ns→ns.length≤n→s₁.gens = #[] →
   codeAny (model l.prog w) callerA (.call (.ref fa) ⟨[.ref a],[]⟩) (fun r s'=>r = .ok (.ret (.bool true))∧OldK s₁.heap s'.heap∧s'.os = s₁.os∧AllBare s'.gens) s₁) :
  WalkO q loose XP YP l.row.toRowW d [] (fun f vs=>PySem.call f vs):=by
 intro w s₀ s₁ mg mb G Y fa o pm cd doc dV kV ho hd hcd hD hmg hg args vals as hpre hlay hrd hwl hlo
 obtain rfl:dV = .none:=Dflts.none hD hdf
 obtain rfl:kV = .none:=Dflts.noKw hD
 obtain ⟨a,vs,ns,rfl,rfl,hobj,hints,hlen⟩:=zQ2 hn hpre hwl
 refine enter_call (codeAny_mono (call w s₀ s₁ mg mb fa o pm cd doc a vs ns G Y ho (fd_plain hd) hcd hmg hobj hints hlen hg) fun r s' hq=>?_)
 obtain ⟨rfl,h2,h3,h4⟩:=hq
 exact ⟨.inl ⟨.bool true,.bool true,[],rfl,fun _=>rfl,.bool true,zRm l _,fun _=>⟨List.Pairwise.nil,fun _ hm=>(nomatch hm)⟩⟩,h2,h3,h4⟩

section
variable {prog:Program} {w:World} {A:Around} {E:Value→Shared→Prop} {s:Shared} {K:Frag}

end
end Att

namespace L2
open PySem PySem.Spec PyProof.Rows

theorem zK9:∀ {vs:List Value} {ns:List Int},IntsAre vs ns→Vals (ns.map V.int) vs
 | _,_,.nil=>.nil
 | _,_,.cons n t h=>.cons ⟨t,rfl⟩ (zK9 h)

end L2

namespace L2
open PySem PySem.Spec PyProof.Rows

end L2

namespace L2
open PySem PySem.Spec PyProof.Rows


abbrev CX0:CXT:=fun _ _ _ _ _ _=>False
abbrev E0:XK:=fun _ _ _=>False
theorem pass0 {X:Cx} : zR1 CX0 X E0:=fun _ _ _ _ _ _ _ h=>h.elim

structure Fun (K:PySem.W.Frag) (x qual:Str) (st:Stmt) (f:Addr) (fd:FuncData):Prop where
 ex:∃ (oc:Value) (od:Option Addr) (kV doc pm:Value) (an:Option Addr) (cdv ct:Value) (osl:Array (Option Value)),
  fd = PySem.W.fnOf x qual (zCr st) (zCf st) (zAl st) .none kV doc pm an cdv ct∧K.lookup f = some ⟨oc,od,.func fd,osl⟩∧PySem.W.codeIn K cdv qual = true
 kp:PySem.W.keepIn K (.ref f) = true
section
variable {P:Program} {w:World} {K:PySem.W.Frag} {mg:Str→Option Value} {base:Heap}
theorem Fun.ok {x qual:Str} {st:Stmt} {f:Addr} {fd:FuncData} {N ps:List Str} {k:Nat} {sp:Sp} (F:Fun K x qual st f fd) (S:zAs N ps (zAl st)) (len:∀ vs H Q E,sp vs H Q E→vs.length = ps.length)
  (hbody:∀ (cdv:Value) (A:Around) (outer:List Env) (s:Shared) (H:Hp) (vs:List V) (Q:VK) (E:XK),Room k (A.deeper (envOfC qual (zAl st) s.heap.objs.size f cdv))→sp vs H Q E →
   ∃ t,PSs (cxOf CX0 P w K mg base N qual (zAl st) f cdv A outer s H E).nox (zCf st) t∧t { nx:=fun _ H'=>Q .non H',rt:=Q } (start N vs) H):FnOk P w K mg base CX0 (k + 1) f fd ps sp:=by
 obtain ⟨oc,od,kV,doc,pm,an,cdv,ct,osl,rfl,lk,hcd⟩:=F.ex
 refine fn_of lk hcd S len fun A outer s H vs Q E hr hsp=>?_
 obtain ⟨t,h,q⟩:=hbody cdv A outer s H vs Q E hr hsp
 exact ⟨t,h.nox,q⟩
theorem Fun.binds {x qual:Str} {st:Stmt} {f:Addr} {fd:FuncData} {ps:List Str} (F:Fun K x qual st f fd)
  (h:∀ (kV doc pm:Value) (an:Option Addr) (cdv ct:Value) (us:List Value),us.length = ps.length→bindArgs (PySem.W.fnOf x qual (zCr st) (zCf st) (zAl st) .none kV doc pm an cdv ct) ⟨us,[]⟩ = pure (ps.zip us)):zK4 K fd ps []:=by
 obtain ⟨oc,od,kV,doc,pm,an,cdv,ct,osl,rfl,lk,hcd⟩:=F.ex
 exact .all (h kV doc pm an cdv ct)
theorem fun_mk {x qual:Str} {st:Stmt} {f:Addr} {oc:Value} {od an:Option Addr} {osl:Array (Option Value)} {kV doc pm cdv ct:Value} (l:K.lookup f = some ⟨oc,od,.func (PySem.W.fnOf x qual (zCr st) (zCf st) (zAl st) .none kV doc pm an cdv ct),osl⟩)
  (c:PySem.W.codeIn K cdv qual = true) (k:PySem.W.keepIn K (.ref f) = true):Fun K x qual st f (PySem.W.fnOf x qual (zCr st) (zCf st) (zAl st) .none kV doc pm an cdv ct):=⟨⟨oc,od,kV,doc,pm,an,cdv,ct,osl,rfl,l,c⟩,k⟩
end
theorem zA3 {n:Nat} (h:n≤1000):n < sizeLine:=Nat.lt_of_le_of_lt h (by decide)

section
variable {X:Cx}
theorem pv (i:Nat) {x:Str} {pos:Pos} (hN:X.N[i]? = some x:=by rfl) (hv:Vis X.env.scope x:=by first | exact Or.inl rfl | exact Or.inr (Or.inl rfl) | exact Or.inr (Or.inr rfl)) (hd:(x == ("__debug__" : Str)) = false:=by decide)
  (hcd:(x == ("__classdict__" : Str)) = false:=by decide):PE X (.Name x pos) (tVar i):=pe_var hN hv hd hcd
end

theorem iteF {A B:Prop} (h:B):if false = true then A else B:=by
 rw [if_neg Bool.false_ne_true]
 exact h
theorem iteT {A B:Prop} (h:A):if true = true then A else B:=by
 rw [if_pos rfl]
 exact h
def Same (H H':Hp):Prop:=∀ b o,H b = some o→H' b = some o
theorem Same.refl (H:Hp):Same H H:=fun _ _ h=>h
theorem Same.trans {H H1 H2:Hp} (a:Same H H1) (b:Same H1 H2):Same H H2:=fun c o h=>b c o (a c o h)
theorem Same.free {H H':Hp} (e:Same H H') {l:Addr} (h:H' l = Option.none):H l = Option.none:=by
 cases q:H l with
 | none=>rfl
 | some o =>
  rw [e l o q] at h
  cases h
theorem Same.seq {K:PySem.W.Frag} {H H':Hp} {a:Addr} {xs:List V} (e:Same H H') (h:SqL K H a xs):SqL K H' a xs:=by
 rcases h with (h | ⟨o,h⟩) | h
 ·exact .inl (.inl (e _ _ h))
 ·exact .inl (.inr ⟨o,e _ _ h⟩)
 ·exact .inr h

end L2

namespace Sea
def gcdL (ns:List Int):Nat:=ns.foldl (fun g n=>Nat.gcd g n.natAbs) 0
theorem zLj (ns:List Int) (n:Int):gcdL (ns ++ [n]) = Nat.gcd (gcdL ns) n.natAbs:=by
 unfold gcdL
 rw [List.foldl_append]
 rfl
theorem zN2:∀ (ns:List Int) (g:Nat),ns.foldl (fun g n=>Nat.gcd g n.natAbs) g ∣ g∧∀ n∈ns,ns.foldl (fun g n=>Nat.gcd g n.natAbs) g ∣ n.natAbs
 | [],g=>⟨Nat.dvd_refl g,fun _ h=>nomatch h⟩
 | x :: r,g=>by
  obtain ⟨h1,h2⟩:=zN2 r (Nat.gcd g x.natAbs)
  refine ⟨Nat.dvd_trans h1 (Nat.gcd_dvd_left _ _),fun n hn=>?_⟩
  rcases List.mem_cons.mp hn with e | e
  ·rw [e]
   exact Nat.dvd_trans h1 (Nat.gcd_dvd_right _ _)
  ·exact h2 n e
theorem zFl {ns:List Int} {n:Int} (h:n∈ns):gcdL ns ∣ n.natAbs:=(zN2 ns 0).2 n h
theorem zBz {ns:List Int} {n:Int} (h:n∈ns):(gcdL ns:Int) ∣ n:=Int.ofNat_dvd_left.mpr (zFl h)
theorem zNx {d:Nat} : ∀ (ns:List Int) (g:Nat),d ∣ g→(∀ n∈ns,d ∣ n.natAbs)→d ∣ ns.foldl (fun g n=>Nat.gcd g n.natAbs) g
 | [],_,h,_=>h
 | x :: r,g,h,hr=>zNx r _ (Nat.dvd_gcd h (hr x List.mem_cons_self)) fun n hn=>hr n (List.mem_cons_of_mem _ hn)
theorem zS5 {d:Nat} {ns:List Int} (h:∀ n∈ns,d ∣ n.natAbs):d ∣ gcdL ns:=zNx ns 0 (Nat.dvd_zero d) h
theorem zCy {ns:List Int} {n:Int} (h:n∈ns) (h0:n≠0):0 < gcdL ns:=by
 rcases Nat.eq_zero_or_pos (gcdL ns) with e | e
 ·have q:=zFl h
  rw [e,Nat.zero_dvd] at q
  omega
 ·exact e
theorem zH9 {ns:List Int} {n:Int} (h:n∈ns) (h0:n≠0):(gcdL ns:Int)≤n.natAbs:=by
 have q:=Nat.le_of_dvd (by omega) (zFl h)
 omega
def lowL (ns:List Int):List Int:=ns.map fun n=>n / (gcdL ns:Int)
theorem zB2 {ns:List Int} {n:Int} (h:n∈ns):n / (gcdL ns:Int) * (gcdL ns:Int) = n:=Int.ediv_mul_cancel (zBz h)
theorem zIg {ns:List Int} (h:0 < gcdL ns):gcdL (lowL ns) = 1:=by
 have key:gcdL ns * gcdL (lowL ns) ∣ gcdL ns:=by
  refine zS5 fun n hn=>?_
  have h1:gcdL (lowL ns) ∣ (n / (gcdL ns:Int)).natAbs:=zFl (List.mem_map.mpr ⟨n,hn,rfl⟩)
  obtain ⟨c,hc⟩:=h1
  have h2:=congrArg Int.natAbs (zB2 hn)
  rw [Int.natAbs_mul,Int.natAbs_natCast,hc] at h2
  rw [← h2]
  exact ⟨c,by rw [Nat.mul_comm,Nat.mul_assoc]⟩
 obtain ⟨c,hc⟩:=key
 have h3:gcdL ns * (gcdL (lowL ns) * c) = gcdL ns * 1:=by
  rw [← Nat.mul_assoc,← hc,Nat.mul_one]
 have h4:=Nat.eq_of_mul_eq_mul_left h h3
 exact Nat.dvd_one.mp ⟨c,h4.symm⟩
theorem zNp (x y:Int):gcdL [x,y] = Nat.gcd x.natAbs y.natAbs:=by
 show Nat.gcd (Nat.gcd 0 x.natAbs) y.natAbs = _
 rw [Nat.gcd_zero_left]
theorem zJ5 (x y z:Int):gcdL [x,y,z] = Nat.gcd (Nat.gcd x.natAbs y.natAbs) z.natAbs:=by
 show Nat.gcd (Nat.gcd (Nat.gcd 0 x.natAbs) y.natAbs) z.natAbs = _
 rw [Nat.gcd_zero_left]
theorem zN8 (ns:List Int):gcdL (ns.map fun n=>-n) = gcdL ns:=by
 have key:∀ (l:List Int) (g:Nat),(l.map fun n=>-n).foldl (fun g n=>Nat.gcd g n.natAbs) g = l.foldl (fun g n=>Nat.gcd g n.natAbs) g:=by
  intro l
  induction l with
  | nil=>intro g; rfl
  | cons x r ih =>
   intro g
   show (r.map fun n=>-n).foldl _ (Nat.gcd g (-x).natAbs) = r.foldl _ (Nat.gcd g x.natAbs)
   rw [ih,Int.natAbs_neg]
 exact key ns 0
theorem zKp {a b:Int} (ha:0≤a) (hb:0 < b):Nat.gcd b.toNat (a % b).toNat = Nat.gcd a.toNat b.toNat:=by
 obtain ⟨m,rfl⟩:=Int.eq_ofNat_of_zero_le ha
 obtain ⟨n,rfl⟩:=Int.eq_ofNat_of_zero_le (Int.le_of_lt hb)
 have e:((m:Int) % (n:Int)).toNat = m % n:=by
  rw [← Int.natCast_emod]
  rfl
 show Nat.gcd n ((m:Int) % (n:Int)).toNat = Nat.gcd m n
 rw [e,Nat.gcd_comm m n,Nat.gcd_rec n m,Nat.gcd_comm]
theorem zOj (i:Int):(if i < 0 then -i else i) = (i.natAbs:Int):=by
 split <;> omega
end Sea
namespace Sea
structure zHa (t b x y:Int):Prop where
 pos:1≤y
 low:Nat.gcd x.natAbs y.natAbs = 1
 eq:x * b = y * t
 xle:x.natAbs≤t.natAbs
 yle:y.natAbs≤b.natAbs
theorem zB5 (n:Int) {g:Int} (hg:0 < g) (h:g ∣ n):(n / g).natAbs≤n.natAbs:=by
 obtain ⟨c,hc⟩:=h
 subst hc
 rw [Int.mul_ediv_cancel_left c (by omega),Int.natAbs_mul]
 exact Nat.le_mul_of_pos_left _ (by omega)
theorem zPa (t:Int) {b:Int} (hb:b≠0):∃ x y:Int,(lowL (if b < 0 then [t,b].map (fun n=>-n) else [t,b])) = [x,y]∧zHa t b x y:=by
 have key:∀ (t b:Int),0 < b→∃ x y:Int,lowL [t,b] = [x,y]∧zHa t b x y:=fun t b hb=>by
  have gp:0 < gcdL [t,b]:=zCy (n:=b) (by simp) (by omega)
  have e1:=zB2 (ns:=[t,b]) (n:=t) (by simp)
  have e2:=zB2 (ns:=[t,b]) (n:=b) (by simp)
  have gI:(0:Int) < (gcdL [t,b]:Int):=by omega
  refine ⟨t / (gcdL [t,b]:Int),b / (gcdL [t,b]:Int),rfl,?_,?_,?_,zB5 t gI (zBz (by simp)),zB5 b gI (zBz (by simp))⟩
  ·exact Int.ediv_pos_of_pos_of_dvd hb (Int.le_of_lt gI) (zBz (by simp))
  ·have h3:=zIg gp
   rw [← zNp]
   exact h3
  ·generalize (gcdL [t,b]:Int) = g at e1 e2
   calc t / g * b = t / g * (b / g * g):=by rw [e2]
    _ = b / g * (t / g * g):=by rw [← Int.mul_assoc,← Int.mul_assoc,Int.mul_comm (t / g)]
    _ = b / g * t:=by rw [e1]
 by_cases h:b < 0
 ·rw [if_pos h]
  obtain ⟨x,y,e,p⟩:=key (-t) (-b) (by omega)
  refine ⟨x,y,e,p.pos,p.low,?_,by have:=p.xle; omega,by have:=p.yle; omega⟩
  have q:=p.eq
  rw [Int.mul_neg,Int.mul_neg] at q
  omega
 ·rw [if_neg h]
  exact key t b (by omega)
end Sea
namespace Sea
theorem zAf (a b:Int) {m n:Nat} (ha:a.natAbs≤m) (hb:b.natAbs≤n):(a * b).natAbs≤m * n:=by
 rw [Int.natAbs_mul]
 exact Nat.mul_le_mul ha hb
theorem big_ok {b:Int} (h:b.natAbs≤10 ^ 40):b.natAbs < 10 ^ 500:=Nat.lt_of_le_of_lt h (by decide +kernel)
theorem zL1 {c b x y:Int} (p:zHa (0 * c) b x y):x = 0∧y = 1:=by
 have h1:=p.xle
 rw [Int.zero_mul] at h1
 have hx:x = 0:=by
  have:(0:Int).natAbs = 0:=rfl
  omega
 have h2:=p.low
 rw [hx] at h2
 have h3:y.natAbs = 1:=by
  have e:Nat.gcd (0:Int).natAbs y.natAbs = y.natAbs:=Nat.gcd_zero_left _
  omega
 have h4:=p.pos
 exact ⟨hx,by omega⟩
end Sea
namespace Sea
theorem zU8 {X Y:Int} (h:X≠0∨Y≠0):∃ x y:Int,lowL [X,Y] = [x,y]∧0 < gcdL [X,Y]∧(gcdL [X,Y]≤X.natAbs∨gcdL [X,Y]≤Y.natAbs)∧Nat.gcd x.natAbs y.natAbs = 1∧x * Y - y * X = 0∧0 < x * X + y * Y∧x.natAbs≤X.natAbs∧y.natAbs≤Y.natAbs:=by
 have gp:0 < gcdL [X,Y]:=by
  rcases h with h | h
  ·exact zCy (n:=X) (by simp) h
  ·exact zCy (n:=Y) (by simp) h
 have gI:(0:Int) < (gcdL [X,Y]:Int):=by omega
 have e1:=zB2 (ns:=[X,Y]) (n:=X) (by simp)
 have e2:=zB2 (ns:=[X,Y]) (n:=Y) (by simp)
 refine ⟨X / (gcdL [X,Y]:Int),Y / (gcdL [X,Y]:Int),rfl,gp,?_,?_,?_,?_,zB5 X gI (zBz (by simp)),zB5 Y gI (zBz (by simp))⟩
 ·rcases h with h | h
  ·exact .inl (Nat.le_of_dvd (by omega) (zFl (by simp)))
  ·exact .inr (Nat.le_of_dvd (by omega) (zFl (by simp)))
 ·rw [← zNp]
  exact zIg gp
 ·generalize (gcdL [X,Y]:Int) = g at e1 e2
  generalize X / g = x at e1
  generalize Y / g = y at e2
  rw [← e1,← e2,← Int.mul_assoc,← Int.mul_assoc,Int.mul_comm x y]
  omega
 ·generalize (gcdL [X,Y]:Int) = g at e1 e2 gI
  have f1:0≤X / g * X:=by
   have:X / g * X = X / g * (X / g) * g:=by rw [Int.mul_assoc,e1]
   rw [this]
   exact Int.mul_nonneg (by rw [← Int.natAbs_mul_self]; exact Int.natCast_nonneg _) (Int.le_of_lt gI)
  have f2:0≤Y / g * Y:=by
   have:Y / g * Y = Y / g * (Y / g) * g:=by rw [Int.mul_assoc,e2]
   rw [this]
   exact Int.mul_nonneg (by rw [← Int.natAbs_mul_self]; exact Int.natCast_nonneg _) (Int.le_of_lt gI)
  rcases h with h | h
  ·have:X / g * X≠0:=Int.mul_ne_zero (fun z=>h (by rw [← e1,z,Int.zero_mul])) h
   omega
  ·have:Y / g * Y≠0:=Int.mul_ne_zero (fun z=>h (by rw [← e2,z,Int.zero_mul])) h
   omega
end Sea
namespace Sea
end Sea
namespace Sea
def upL (X Y W:Int):List Int:=if W < 0 then [-X,-Y,-W] else [X,Y,W]
theorem zUi {X Y W:Int} (h:W≠0):upL (-X) (-Y) (-W) = upL X Y W:=by
 unfold upL
 by_cases c:W < 0
 ·rw [if_pos c,if_neg (by omega)]
 ·rw [if_neg c,if_pos (by omega),Int.neg_neg,Int.neg_neg,Int.neg_neg]
structure zPr (X Y W x y w:Int):Prop where
 pos:1≤w
 low:Nat.gcd (Nat.gcd x.natAbs y.natAbs) w.natAbs = 1
 ex:x * W = X * w
 ey:y * W = Y * w
 xle:x.natAbs≤X.natAbs
 yle:y.natAbs≤Y.natAbs
 wle:w.natAbs≤W.natAbs
theorem zN9 {X Y W:Int} (h:0 < W):∃ x y w:Int,lowL [X,Y,W] = [x,y,w]∧zPr X Y W x y w:=by
 have gp:0 < gcdL [X,Y,W]:=zCy (n:=W) (by simp) (by omega)
 have gI:(0:Int) < (gcdL [X,Y,W]:Int):=by omega
 have e1:=zB2 (ns:=[X,Y,W]) (n:=X) (by simp)
 have e2:=zB2 (ns:=[X,Y,W]) (n:=Y) (by simp)
 have e3:=zB2 (ns:=[X,Y,W]) (n:=W) (by simp)
 have lo:=zIg gp
 refine ⟨X / (gcdL [X,Y,W]:Int),Y / (gcdL [X,Y,W]:Int),W / (gcdL [X,Y,W]:Int),rfl,Int.ediv_pos_of_pos_of_dvd h (Int.le_of_lt gI) (zBz (by simp)),?_,?_,?_,zB5 X gI (zBz (by simp)),zB5 Y gI (zBz (by simp)),zB5 W gI (zBz (by simp))⟩
 ·rw [← zJ5]
  exact lo
 ·generalize (gcdL [X,Y,W]:Int) = g at e1 e3
  generalize X / g = x at e1
  generalize W / g = w at e3
  rw [← e1,← e3,Int.mul_assoc,Int.mul_comm g w]
 ·generalize (gcdL [X,Y,W]:Int) = g at e2 e3
  generalize Y / g = y at e2
  generalize W / g = w at e3
  rw [← e2,← e3,Int.mul_assoc,Int.mul_comm g w]
theorem zEj {X Y W:Int} (h:W≠0):∃ x y w:Int,lowL (upL X Y W) = [x,y,w]∧zPr X Y W x y w:=by
 unfold upL
 by_cases c:W < 0
 ·rw [if_pos c]
  obtain ⟨x,y,w,e,p⟩:=zN9 (X:=-X) (Y:=-Y) (W:=-W) (by omega)
  refine ⟨x,y,w,e,p.pos,p.low,?_,?_,by have:=p.xle; omega,by have:=p.yle; omega,by have:=p.wle; omega⟩
  ·have q:=p.ex
   rw [Int.mul_neg,Int.neg_mul] at q
   omega
  ·have q:=p.ey
   rw [Int.mul_neg,Int.neg_mul] at q
   omega
 ·rw [if_neg c]
  exact zN9 (by omega)
theorem zKh {A B C X Y W x y w:Int} (h:W≠0) (p:zPr X Y W x y w) (e:A * X + B * Y = C * W):A * x + B * y = C * w:=by
 refine Int.eq_of_mul_eq_mul_right h ?_
 have e1:(A * x + B * y) * W = A * (x * W) + B * (y * W):=by rw [Int.add_mul,Int.mul_assoc,Int.mul_assoc]
 have e2:A * (X * w) + B * (Y * w) = (A * X + B * Y) * w:=by rw [Int.add_mul,Int.mul_assoc,Int.mul_assoc]
 rw [e1,p.ex,p.ey,e2,e,Int.mul_assoc,Int.mul_comm W w,← Int.mul_assoc]
theorem zP7 (A1 B1 C1 A2 B2 C2:Int):A1 * (C1 * B2 - B1 * C2) + B1 * (A1 * C2 - C1 * A2) = C1 * (A1 * B2 - B1 * A2):=by
 simp only [Int.mul_sub,Int.mul_comm,Int.mul_left_comm]
 omega
theorem zQy (A1 B1 C1 A2 B2 C2:Int):A2 * (C1 * B2 - B1 * C2) + B2 * (A1 * C2 - C1 * A2) = C2 * (A1 * B2 - B1 * A2):=by
 simp only [Int.mul_sub,Int.mul_comm,Int.mul_left_comm]
 omega
end Sea
namespace Sea
theorem gcd3 (D0 D1 D2:Int):(Nat.gcd ((Nat.gcd D0.natAbs D1.natAbs:Nat):Int).natAbs D2.natAbs:Nat) = gcdL [D0,D1,D2]:=by
 rw [zJ5,Int.natAbs_natCast]
end Sea

namespace Sea
theorem zJ2 {a b:Int} (h:a≠0∨b≠0):1≤a * a + b * b:=by
 have s1:0≤a * a:=by rw [← Int.natAbs_mul_self]; exact Int.natCast_nonneg _
 have s2:0≤b * b:=by rw [← Int.natAbs_mul_self]; exact Int.natCast_nonneg _
 rcases h with h | h
 ·have:a * a≠0:=Int.mul_ne_zero h h
  omega
 ·have:b * b≠0:=Int.mul_ne_zero h h
  omega
end Sea
namespace Sea
end Sea

namespace Sea
abbrev SpT:=Nat × Int × Int × Int
def ahB (s t:SpT):Bool:=if s.2.1 * t.2.2.2 - t.2.1 * s.2.2.2 = 0 then decide (s.2.2.1 * t.2.2.2 < t.2.2.1 * s.2.2.2) else decide (s.2.1 * t.2.2.2 - t.2.1 * s.2.2.2 < 0)
def zBh:List SpT→List SpT→List SpT
 | xs,[]=>xs
 | xs,o :: r=>xs.takeWhile (fun x=>!ahB o x) ++ o :: zBh (xs.dropWhile fun x=>!ahB o x) r
theorem zD4:∀ (ys xs:List SpT),(zBh xs ys).Perm (xs ++ ys)
 | [],xs=>by rw [zBh,List.append_nil]
 | o :: r,xs=>by
  rw [zBh]
  have h:=zD4 r (xs.dropWhile fun x=>!ahB o x)
  have e:xs.takeWhile (fun x=>!ahB o x) ++ xs.dropWhile (fun x=>!ahB o x) = xs:=List.takeWhile_append_dropWhile
  refine ((h.cons o).append_left _).trans ?_
  conv=>rhs; rw [← e]
  rw [List.append_assoc]
  refine List.Perm.append_left _ ?_
  exact (List.perm_middle).symm
def zFp:Nat→List SpT→List SpT
 | 0,xs=>xs
 | n + 1,xs=>if xs.length < 2 then xs else zBh (zFp n (xs.take (xs.length / 2))) (zFp n (xs.drop (xs.length / 2)))
theorem zCk:∀ (n:Nat) (xs:List SpT),(zFp n xs).Perm xs
 | 0,_=>List.Perm.refl _
 | n + 1,xs=>by
  rw [zFp]
  split
  ·exact List.Perm.refl _
  ·refine (zD4 _ _).trans (((zCk n _).append (zCk n _)).trans ?_)
   rw [List.take_append_drop]
end Sea

namespace L2
open PySem PySem.Spec PyProof.Rows

structure CC where
 C:Addr
 s:Shared
 H:Hp
 fp:List Addr

def zE9 (env:Env):List (Str × NameKind)→List (Str × Addr)→List (Str × Addr)
 | [],cs=>cs
 | (n,k) :: r,cs=>zE9 env r (if (k == NameKind.free) = true then (n,(env.cells.lookup n).getD 0) :: cs else cs)
theorem zMw {scope:Scope} {env:Env} (h:∀ x∈scope.names,x.2 = .free→∃ c,env.cells.lookup x.1 = some c):closureFor scope env = pure (zE9 env scope.names []):=by
 simp only [closureFor]
 have key:∀ (names:List (Str × NameKind)) (cs:List (Str × Addr)),(∀ x∈names,x.2 = .free→∃ c,env.cells.lookup x.1 = some c) →
  (forIn names cs (fun (x:Str × NameKind) (r:List (Str × Addr))=>match x with | (name,kind)=>if (kind == NameKind.free) = true then (do let a ← cellOf env name; pure (ForInStep.yield ((name,a) :: r))) else pure (ForInStep.yield r)):Sem (List (Str × Addr))) = pure (zE9 env names cs):=by
  intro names
  induction names with
  | nil=>intro cs _; rfl
  | cons x r ih =>
   intro cs hx
   obtain ⟨n,k⟩:=x
   rw [List.forIn_cons]
   have hr:=ih (if (k == NameKind.free) = true then (n,(env.cells.lookup n).getD 0) :: cs else cs) fun y hy=>hx y (List.mem_cons_of_mem _ hy)
   by_cases hk:(k == NameKind.free) = true
   ·obtain ⟨c,hc⟩:=hx (n,k) List.mem_cons_self (by simpa using hk)
    have e:cellOf env n = pure c:=by unfold cellOf; rw [hc]
    rw [if_pos hk] at hr
    have hc':env.cells.lookup n = some c:=hc
    rw [hc'] at hr
    show (((if (k == NameKind.free) = true then (do let a ← cellOf env n; pure (ForInStep.yield ((n,a) :: cs))) else pure (ForInStep.yield cs)):Sem _) >>= _) = _
    rw [if_pos hk,e]
    refine Eq.trans ?_ (hr.trans ?_)
    ·rfl
    ·rw [zE9,if_pos hk,hc']
   ·rw [if_neg hk] at hr
    show (((if (k == NameKind.free) = true then (do let a ← cellOf env n; pure (ForInStep.yield ((n,a) :: cs))) else pure (ForInStep.yield cs)):Sem _) >>= _) = _
    rw [if_neg hk]
    refine Eq.trans ?_ (hr.trans ?_)
    ·rfl
    ·rw [zE9,if_neg hk]
 exact congrArg (fun (z:Sem (List (Str × Addr)))=>z >>= fun cs=>pure cs) (key scope.names [] h)
theorem zC6 {env:Env} : ∀ (names:List (Str × NameKind)) (cs:List (Str × Addr)),(∀ x∈names,x.2 = .free→∃ c,env.cells.lookup x.1 = some c) →
  (∀ x c,cs.lookup x = some c→env.cells.lookup x = some c)→∀ x c,(zE9 env names cs).lookup x = some c→env.cells.lookup x = some c
 | [],_,_,hc=>hc
 | (n,k) :: r,cs,h,hc=>by
  refine zC6 r _ (fun y hy=>h y (List.mem_cons_of_mem _ hy)) fun x c=>?_
  by_cases hk:(k == NameKind.free) = true
  ·rw [if_pos hk]
   obtain ⟨d,hd⟩:=h (n,k) List.mem_cons_self (by simpa using hk)
   have hd':env.cells.lookup n = some d:=hd
   intro e
   rw [List.lookup_cons] at e
   cases hx:x == n with
   | true =>
    rw [hx,hd'] at e
    have ex:x = n:=by simpa using hx
    rw [ex,hd']
    exact e
   | false =>
    rw [hx] at e
    exact hc x c e
  ·rw [if_neg hk]
   exact hc x c
theorem zIb {env:Env} : ∀ (names:List (Str × NameKind)) (cs:List (Str × Addr)) (x:Str),((x,NameKind.free)∈names∨∃ c,cs.lookup x = some c)→∃ c,(zE9 env names cs).lookup x = some c
 | [],_,_,h=>h.elim (fun z=>nomatch z) id
 | (n,k) :: r,cs,x,h=>by
  refine zIb r _ x ?_
  by_cases hk:(k == NameKind.free) = true
  ·rw [if_pos hk]
   cases hx:x == n with
   | true=>exact .inr ⟨_,by rw [List.lookup_cons,hx]⟩
   | false =>
    rcases h with h | ⟨c,h⟩
    ·rcases List.mem_cons.mp h with e | e
     ·injection e with e1 _
      subst e1
      simp at hx
     ·exact .inl e
    ·exact .inr ⟨c,by rw [List.lookup_cons,hx]; exact h⟩
  ·rw [if_neg hk]
   rcases h with h | h
   ·rcases List.mem_cons.mp h with e | e
    ·injection e with _ e2
     subst e2
     exact absurd rfl hk
    ·exact .inl e
   ·exact .inr h
theorem zHf {env:Env} : ∀ {names:List (Str × NameKind)} {x:Str},names.lookup x = some .free →
  (names.map fun (n,k)=>if (k == NameKind.free && env.scope.kind == .function && env.kindOf n == some .cell) then (n,NameKind.cell) else (n,k)).lookup x = some .cell ∨
  (names.map fun (n,k)=>if (k == NameKind.free && env.scope.kind == .function && env.kindOf n == some .cell) then (n,NameKind.cell) else (n,k)).lookup x = some .free
 | [],_,h=>by simp at h
 | (n,k) :: r,x,h=>by
  have ih:=@zHf env r x
  show List.lookup x ((if (k == NameKind.free && env.scope.kind == .function && env.kindOf n == some .cell) = true then (n,NameKind.cell) else (n,k)) :: _) = _∨List.lookup x ((if (k == NameKind.free && env.scope.kind == .function && env.kindOf n == some .cell) = true then (n,NameKind.cell) else (n,k)) :: _) = _
  by_cases hc:(k == NameKind.free && env.scope.kind == .function && env.kindOf n == some .cell) = true
  ·rw [if_pos hc]
   cases hx:x == n with
   | true=>exact .inl (by rw [List.lookup_cons,hx])
   | false =>
    rw [List.lookup_cons,hx] at h
    rw [List.lookup_cons,hx]
    exact ih h
  ·rw [if_neg hc]
   cases hx:x == n with
   | true =>
    rw [List.lookup_cons,hx] at h
    exact .inr (by rw [List.lookup_cons,hx]; exact h)
   | false =>
    rw [List.lookup_cons,hx] at h
    rw [List.lookup_cons,hx]
    exact ih h
theorem zFa {env:Env} : ∀ {names:List (Str × NameKind)} {x:Str} {j:NameKind},(∀ y∈names,y.2≠.cell)→(j = .cell∨j = .free) →
  (names.map fun (n,k)=>if (k == NameKind.free && env.scope.kind == .function && env.kindOf n == some .cell) then (n,NameKind.cell) else (n,k)).lookup x = some j→(x,NameKind.free)∈names
 | [],_,_,_,_,h=>by simp at h
 | (n,k) :: r,x,j,hn,hj,h=>by
  have ih:=@zFa env r x j (fun y hy=>hn y (List.mem_cons_of_mem _ hy)) hj
  have hk0:k≠.cell:=hn (n,k) List.mem_cons_self
  replace h:List.lookup x ((if (k == NameKind.free && env.scope.kind == .function && env.kindOf n == some .cell) = true then (n,NameKind.cell) else (n,k)) :: (r.map fun (n,k)=>if (k == NameKind.free && env.scope.kind == .function && env.kindOf n == some .cell) then (n,NameKind.cell) else (n,k))) = some j:=h
  by_cases hc:(k == NameKind.free && env.scope.kind == .function && env.kindOf n == some .cell) = true
  ·rw [if_pos hc] at h
   have hf:k = .free:=by
    simp only [Bool.and_eq_true] at hc
    simpa using hc.1.1
   cases hx:x == n with
   | true =>
    have ex:x = n:=by simpa using hx
    subst ex
    rw [← hf]
    exact List.mem_cons_self
   | false =>
    rw [List.lookup_cons,hx] at h
    exact List.mem_cons_of_mem _ (ih h)
  ·rw [if_neg hc] at h
   cases hx:x == n with
   | true =>
    rw [List.lookup_cons,hx] at h
    have ex:x = n:=by simpa using hx
    have ek:k = j:=Option.some.inj h
    subst ex
    rcases hj with hj | hj
    ·exact absurd (ek.trans hj) hk0
    ·rw [← hj,← ek]
     exact List.mem_cons_self
   | false =>
    rw [List.lookup_cons,hx] at h
    exact List.mem_cons_of_mem _ (ih h)

def zBe (X:Cx) (N:List Str) (scope:Scope) (c:CC):Cx where
 prog:=X.prog
 w:=X.w
 K:=X.K
 mg:=X.mg
 base:=X.base
 A:=X.A
 N:=N
 s₀:=c.s
 H₀:=c.H
 env:=compEnvC scope (zE9 X.env scope.names []) c.C X.env
 outer:=X.stack
 stack:=X.stack
 ex:=c.fp
 fn:=fun _=>false
 calm:=X.calm
 pn:=[]
 xe:=fun _ _=>False

def zJm (X:Cx) (scope:Scope):List (Str × Nat)→Prop
 | []=>True
 | p :: r=>(X.N[p.2]? = some p.1∧scope.names.lookup p.1 = some .free∧(X.env.kindOf p.1 = some .cell∨X.env.kindOf p.1 = some .free))∧zJm X scope r
theorem zJm.mem {X:Cx} {scope:Scope} : ∀ {caps:List (Str × Nat)},zJm X scope caps→∀ p∈caps,X.N[p.2]? = some p.1∧scope.names.lookup p.1 = some .free∧(X.env.kindOf p.1 = some .cell∨X.env.kindOf p.1 = some .free)
 | [],_,_,h=>nomatch h
 | q :: r,h,p,hp=>by
  rcases List.mem_cons.mp hp with e | e
  ·rw [e]; exact h.1
  ·exact zJm.mem h.2 p e
structure zDb (X:Cx) (caps:List (Str × Nat)) (scope:Scope):Prop where
 kind:scope.kind = .function
 nocell:∀ y∈scope.names,y.2≠.cell
 loc:∀ y∈scope.names,y.2 = .local→scope.names.lookup y.1 = some .local
 clos:(scope.names.all fun x=>!(x.2 == .free) || (X.env.cells.lookup x.1).isSome) = true
 cap:zJm X scope caps
theorem zDb.cells {X:Cx} {caps:List (Str × Nat)} {scope:Scope} (S:zDb X caps scope):∀ x∈scope.names,x.2 = .free→∃ c,X.env.cells.lookup x.1 = some c:=fun x hx hf=>by
 have h:=List.all_eq_true.mp S.clos x hx
 rw [hf] at h
 simp only [Bool.or_eq_true] at h
 rcases h with h | h
 ·exact absurd h (by decide)
 ·exact Option.isSome_iff_exists.mp h

def zL5 (caps:List (Str × Nat)) (nt:Nat) (σ:St):St:=List.replicate nt none ++ caps.map fun p=>(σ[p.2]?).join

def PIfs (Y:Cx) (ifs:List Expr) (t:TT):Prop :=
 ∀ (pins:List (Addr × Obj)) (s:Shared) (σ:St) (H:Hp) (Q:Bool→Hp→Prop),Inv Y pins σ H s→t σ H Q →
  wpAny (model Y.prog Y.w) Y.A (forIn ifs true fun c r=>if r = true then do let ok ← isTrue c Y.env (eval c Y.env); pure (ForInStep.yield ok) else pure (ForInStep.yield r)) (TP Y pins σ Q) Y.xe s
def tYes:TT:=fun _ H Q=>Q true H
theorem zBg {Y:Cx} : PIfs Y [] tYes:=fun _ _ _ H _ I h=>wpAny_tests_nil ⟨H,I,h⟩
theorem zKw {Y:Cx} {c:Expr} {t:TT} (h:PT Y c t):PIfs Y [c] t:=fun pins s σ H Q I q=>wpAny_tests_one (h pins s σ H Q I q)

def zG6 (J:It) (D:Addr) (g:TG) (tt:TT) (te:TE) (σ0:St) (H1:Hp) (Q:VK):Prop :=
 ∃ W:Nat→Nat→St→List V→Hp→Prop,(∃ m,W 0 m σ0 [] (upd H1 D (.lst [])))∧∀ i m σ ys H,W i m σ ys H→H D = some (.lst ys) ∧
  ((J.stop i H∧Q (.ref D) H)∨(J.go i H∧∃ N:St→List V→Hp→Prop,(∀ σ' zs H',N σ' zs H'→∃ m',m' < m∧W (i + 1) m' σ' zs H')∧∀ x H',J.yld i H x H'→g x σ H' fun σ2 H2=>tt σ2 H2 fun b H3 =>
   if b = true then te σ2 H3 fun y H4=>H4 D = some (.lst ys)∧ys.length < sizeLine∧N σ2 (ys ++ [y]) (upd H4 D (.lst (ys ++ [y]))) else N σ2 ys H3))
def zTt (nt:Nat) (caps:List (Str × Nat)) (wi:TI) (g:CC→TG) (tt:CC→TT) (te:CC→TE):TE:=fun σ H Q =>
 wi σ H fun J H1=>∀ (c:CC) (D:Addr),H1 D = none→zG6 J D (g c) (tt c) (te c) (zL5 caps nt σ) H1 Q

theorem thnF {α:Type} {t:Sem α} {Q Q':α→Shared→Prop} {M:Model} {A:Around} {E:Value→Shared→Prop} {s:Shared} (h:wpAny M A t Q (fun _ _=>False) s) (hQ:∀ a s,Q a s→Q' a s):wpAny M A t Q' E s:=wpAny_mono h hQ fun _ _ x=>x.elim
theorem Un.same {fs ex:List Addr} {H H':Hp} {h h1 h2:Heap} {C:Addr} (u:Un fs ex H H' h h1) (sb:Heap.SameBut C h1 h2) (hC:h.get? C = none):Un fs ex H H' h h2:=by
 have ne:∀ b o,h.get? b = some o→b≠C:=fun b o e z=>by rw [z,hC] at e; cases e
 refine ⟨fun b o e n hb hx=>(sb.2 b (ne b o e)).trans (u.keep b o e n hb hx),fun b o e n hb hx=>?_,u.free,fun b o e hx=>?_,u.tups,u.frzs,u.tbls⟩
 ·obtain ⟨sl,q⟩:=u.slot b o e n hb hx
  exact ⟨sl,(sb.2 b (ne b o e)).trans q⟩
 ·obtain ⟨o',q⟩:=u.there b o e hx
  exact ⟨o',(sb.2 b (ne b o e)).trans q⟩
theorem HOk.same {P:Program} {w:World} {H:Hp} {h h':Heap} {C:Addr} (k:HOk P w H h) (sb:Heap.SameBut C h h') (hC:H C = none):HOk P w H h':=fun b o e=>by
 refine (k b o e).stay (fun c v hc q=>(sb.2 c ?_).trans q) (fun _ q=>q) fun _ _ q=>q
 rintro rfl
 rcases hc with z | z
 ·rw [z,e] at hC; cases hC
 ·rw [hC] at z; cases z

section
variable {X:Cx} {T:List Str} {caps:List (Str × Nat)} {scope:Scope} {elt target iter:Expr} {ifs:List Expr} {pos:Pos} {wi:TI} {g:CC→TG} {tt:CC→TT} {te:CC→TE}

theorem zGx {pins:List (Addr × Obj)} {σ:St} {H2:Hp} {s2:Shared} {fp:List Addr} {C D:Addr} {h1:Heap} {tk:Nat} {m:Str→Option Value} (S:zDb X caps scope) (I2:Inv X pins σ H2 s2) (f2:∀ b∈fp,FpOk X pins H2 b)
  (hfp:∀ b∈fp,b < s2.heap.objs.size) (hD:s2.heap.objs.size≤D) (hC:s2.heap.objs.size≤C) (hDC:C≠D) (old:∀ b o,s2.heap.get? b = some o→h1.get? b = some o)
  (acc:∃ n,h1.get? D = some { cls:=.type "list", data:=.seq ([]:List Value).toArray n }) (hn:h1.Ns C m) :
  Inv (zBe X (T ++ caps.map (·.1)) scope ⟨C,s2,H2,fp⟩) [] (zL5 caps T.length σ) (upd H2 D (.lst [])) { s2 with heap:=h1,toks:=tk }:=by
 have cs:=zC6 (env:=X.env) scope.names [] S.cells (fun _ _ z=>by cases z)
 have cellOld:∀ x c,X.env.cells.lookup x = some c→c < s2.heap.objs.size:=fun x c e=>by
  obtain ⟨v,q⟩:=I2.cell x c e
  exact q.lt
 have stkNo:∀ b∈fp,b ∉ frs X.stack:=fun b hb z=>by
  rcases List.mem_cons.mp (I2.stkSub b z) with e | e
  ·exact (f2 b hb).2.1 e
  ·exact (f2 b hb).2.2.1 e
 have fr:H2 D = none:=I2.hok.fresh hD
 refine ⟨⟨I2.ok.mod,S.kind,I2.ok.glob,I2.ok.blt,hC,fun x y c e1 e2=>I2.ok.inj x y c (cs x c e1) (cs y c e2),fun x hx=>?_,fun _ _ z=>absurd (show false = true from z) Bool.false_ne_true,I2.ok.hd,I2.ok.frames,.inl rfl,fun b hb=>⟨?_,fun x c e=>(f2 b hb).2.2.2.2.1 x c (cs x c e)⟩,
  fun b o e=>I2.bs b o e,Nat.le_trans I2.ok.bsz I2.sz,fun b o e hb=>?_,stkNo,I2.stack,I2.stkFree⟩,rfl,I2.bare,?_,⟨m,hn,fun i x v e1 e2 e3=>?_⟩,fun x c e=>?_,?_,fun x c e=>?_,fun p hp=>absurd (show p∈([]:List (Addr × Obj)) from hp) (by simp),?_,?_⟩
 ·have hx':(x,NameKind.free)∈scope.names:=by
   rcases hx with z | z
   ·exact zFa S.nocell (.inl rfl) z
   ·exact zFa S.nocell (.inr rfl) z
  exact zIb scope.names [] x (.inl hx')
 ·exact Nat.ne_of_lt (Nat.lt_of_lt_of_le (hfp b hb) hC)
 ·rcases (f2 b hb).2.2.2.1 with z | z
  ·exact I2.ok.noex b o e z
  ·exact absurd (Nat.lt_of_lt_of_le (Heap.lt_size (show X.base.get? b = some o from e)) (Nat.le_trans I2.ok.bsz z)) (Nat.lt_irrefl _)
 ·exact Un.laid old hD fr
 ·have hlt:¬ i < T.length:=fun hi=>by
   unfold zL5 at e2
   rw [List.getElem?_append_left (by simpa using hi),List.getElem?_replicate,if_pos hi] at e2
   cases e2
  have hge:T.length≤i:=Nat.le_of_not_lt hlt
  have e1':(T ++ caps.map (·.1))[i]? = some x:=e1
  rw [List.getElem?_append_right hge,List.getElem?_map] at e1'
  unfold zL5 at e2
  rw [List.getElem?_append_right (by simpa using hge),List.length_replicate,List.getElem?_map] at e2
  cases hp:caps[i - T.length]? with
  | none=>rw [hp] at e1'; cases e1'
  | some p =>
   rw [hp] at e1' e2
   have ex:p.1 = x:=Option.some.inj e1'
   have ev:(σ[p.2]?).join = some v:=Option.some.inj e2
   obtain ⟨hN,hf,hk⟩:=S.cap.mem p (List.mem_of_getElem? hp)
   have ev':σ[p.2]? = some (some v):=by
    cases hq:σ[p.2]? with
    | none=>rw [hq] at ev; cases ev
    | some o =>
     rw [hq] at ev
     exact congrArg some ev
   obtain ⟨m2,_,hl2⟩:=I2.loc
   obtain ⟨u,ru,l⟩:=hl2 p.2 p.1 v hN ev' (hk.elim (fun z=>.inr (.inl z)) fun z=>.inr (.inr z))
   refine ⟨u,ru,.inr ⟨?_,?_⟩⟩
   ·rw [← ex]
    exact zHf (env:=X.env) hf
   ·rcases l with ⟨kl,_⟩ | ⟨_,c,ec,hcell⟩
    ·rcases hk with z | z <;> (rw [kl] at z; cases z)
    ·obtain ⟨d,hd⟩:=zIb (env:=X.env) scope.names [] p.1 (.inl (PySem.mem_of_lookup hf))
     have hd':=cs p.1 d hd
     rw [ec] at hd'
     cases hd'
     obtain ⟨o,ho,hod⟩:=hcell
     exact ⟨c,by rw [← ex]; exact hd,o,old c o ho,hod⟩
 ·obtain ⟨v,o,ho,hd⟩:=I2.cell x c (cs x c e)
  exact ⟨v,o,old c o ho,hd⟩
 ·show upd H2 D (.lst []) C = none
  rw [zAo hDC]
  exact I2.hok.fresh hC
 ·show upd H2 D (.lst []) c = none
  rw [zAo (Nat.ne_of_lt (Nat.lt_of_lt_of_le (cellOld x c (cs x c e)) hD))]
  exact I2.freeC x c (cs x c e)
 ·obtain ⟨n,e⟩:=acc
  exact I2.hok.laid old hD ⟨Nat.zero_le _,[],n,.nil,e⟩
 ·show (zL5 caps T.length σ).length = (T ++ caps.map (·.1)).length
  unfold zL5
  rw [List.length_append,List.length_append,List.length_map,List.length_map,List.length_replicate]

theorem zCl (S:zDb X caps scope) (hc:X.calm = true) (hi:PI X target iter wi) (hg:∀ c,PG (zBe X (T ++ caps.map (·.1)) scope c) target (g c)) (ht:∀ c,PIfs (zBe X (T ++ caps.map (·.1)) scope c) ifs (tt c)) (he:∀ c,PE (zBe X (T ++ caps.map (·.1)) scope c) elt (te c))
  (hs:∀ x,foldedSetIterable iter X.env x = pure x:=by intro _; rfl):PE X (.ListComp elt [⟨target,iter,ifs,0⟩] scope pos) (zTt T.length caps wi g tt te):=by
 intro pins s σ H Q I h
 rw [eval_ListComp]
 refine wpAny_comprehension_free (use:=none) rfl hs (zMw S.cells) S.kind S.loc (thn (hi pins s σ H _ I h) fun v s1 h1=>thn h1 fun itv s2 h2=>?_)
 obtain ⟨it,fp,tn,J,H2,e,I2,TT,st2,f2,q2⟩:=h2
 subst e
 refine wpAny_newObj_type (wpAny_newFunctionEnv S.nocell (by intro y hy; simp at hy) (fun h1 hn hsb=>?_) S.kind)
 dsimp only at hn hsb ⊢
 generalize hg2:s2.heap.push { cls:=.type "list", dict:=none,data:=.seq ([]:List Value).toArray } = G at hn hsb ⊢
 have hCv:G.objs.size = s2.heap.objs.size + 1:=by rw [← hg2,Heap.size_push]
 have hDC:G.objs.size≠s2.heap.objs.size:=by rw [hCv]; exact Nat.succ_ne_self _
 have hCle:s2.heap.objs.size≤G.objs.size:=by rw [hCv]; exact Nat.le_succ _
 have old:∀ b o,s2.heap.get? b = some o→h1.get? b = some o:=fun b o e=>hsb.extBut b o (Nat.ne_of_lt (Nat.lt_of_lt_of_le (Heap.lt_size e) hCle)) (Heap.get?_push_of_some _ (hg2 ▸ Heap.get?_push_of_some _ e))
 have hacc:∃ n,h1.get? s2.heap.objs.size = some { cls:=.type "list", data:=.seq ([]:List Value).toArray n }:=⟨_,hsb.extBut _ _ (Ne.symm hDC) (Heap.get?_push_of_some _ (hg2 ▸ Heap.get?_push_size _ rfl))⟩
 have hfp:∀ b∈fp,b < s2.heap.objs.size:=fun b hb=>by
  obtain ⟨o,e,_⟩:=TT.obj _ _ st2 b hb
  exact Heap.lt_size e
 have cs:=zC6 (env:=X.env) scope.names [] S.cells (fun _ _ z=>by cases z)
 have I0:=zGx (T:=T) (tk:=s2.toks + ([]:List (Str × Value)).length) S I2 f2 hfp (Nat.le_refl _) hCle hDC old hacc hn
 have st0:tn 0 h1:=TT.keep _ _ _ st2 fun b _ o e=>old b o e
 obtain ⟨W,⟨m0,w0⟩,turn⟩:=q2 ⟨G.objs.size,s2,H2,fp⟩ s2.heap.objs.size (I2.hok.fresh (Nat.le_refl _))
 have fr0:∀ b∈fp,upd H2 s2.heap.objs.size (.lst []) b = none:=fun b hb=>by
  rw [zAo (Nat.ne_of_lt (hfp b hb))]
  exact (f2 b hb).1
 have stat:∀ {H':Hp},(∀ b∈fp,H' b = none)→∀ b∈fp,FpOk (zBe X (T ++ caps.map (·.1)) scope ⟨G.objs.size,s2,H2,fp⟩) [] H' b:=fun {H'} hn' b hb =>
  ⟨hn' b hb,Nat.ne_of_lt (Nat.lt_of_lt_of_le (hfp b hb) hCle),I0.ok.exfs b hb,.inl hb,fun x c e=>(f2 b hb).2.2.2.2.1 x c (cs x c e),fun p hp=>absurd (show p∈([]:List (Addr × Obj)) from hp) (by simp)⟩
 have loop:codeAny (model X.prog X.w) X.A (.compLoop (.ListComp elt [⟨target,iter,ifs,0⟩] scope pos) 0 (.ref it) (.ref s2.heap.objs.size) (compEnvC scope (zE9 X.env scope.names []) G.objs.size X.env))
   (compPost (model X.prog X.w) X.A X.xe none (EP X pins σ Q) (.ref s2.heap.objs.size) G.objs.size) { s2 with heap:=h1,toks:=s2.toks + ([]:List (Str × Value)).length }:=by
  refine codeAny_loop rfl (fun n s'=>∃ i σ' ys H',Inv (zBe X (T ++ caps.map (·.1)) scope ⟨G.objs.size,s2,H2,fp⟩) [] σ' H' s'∧tn i s'.heap∧(∀ b∈fp,H' b = none)∧W i n σ' ys H') (fun n s3 hI=>?_) m0 ⟨0,_,[],_,I0,st0,fr0,w0⟩
  obtain ⟨i,σ3,ys,H3,I3,st3,fr3,w3⟩:=hI
  show wpAny _ X.A ((compTurn (.ListComp elt [⟨target,iter,ifs,0⟩] scope pos) 0 (.ref it) (.ref s2.heap.objs.size) (compEnvC scope (zE9 X.env scope.names []) G.objs.size X.env)).onRaise (fun x=>do noteFrame x (compEnvC scope (zE9 X.env scope.names []) G.objs.size X.env); theTreesLotGoes x)) _ _ s3
  refine wpAny_noted ?_
  rw [compTurn_list]
  refine wpAny_bind (wpAny_standAt (wpAny_bind ?_))
  obtain ⟨hD3,turn3⟩:=turn i n σ3 ys H3 w3
  rcases turn3 with ⟨stop,qn⟩ | ⟨go,N,hN,step⟩
  ·refine thnF (TT.done (zBe X (T ++ caps.map (·.1)) scope ⟨G.objs.size,s2,H2,fp⟩) rfl rfl rfl hc i [] s3 σ3 H3 _ I3 (stat fr3) st3 stop) fun r s4 ⟨hr,I4⟩=>?_
   subst hr
   refine wpAny_pure ?_
   show ∃ m,s4.heap.Ns G.objs.size m∧∀ h',Heap.SameBut G.objs.size s4.heap h'→EP X pins σ Q (.ref s2.heap.objs.size) { s4 with heap:=h' }
   obtain ⟨m4,hn4,_⟩:=I4.loc
   refine ⟨m4,hn4,fun h' sb=>⟨.ref s2.heap.objs.size,H3,?_,rfl,qn⟩⟩
   refine I2.call' (s':={ s4 with heap:=h' }) (ch:=fp) I4.os (Un.same I4.base sb (Heap.get?_none_of_le hCle)) (HOk.same I4.hok sb I4.free) I4.bare fun b hb=>?_
   obtain ⟨_,f1,_,f3,f4,f5⟩:=f2 b hb
   exact ⟨f3,f1,f4,f5⟩
  ·refine thnF (TT.item (zBe X (T ++ caps.map (·.1)) scope ⟨G.objs.size,s2,H2,fp⟩) rfl rfl rfl hc i [] s3 σ3 H3 _ I3 (stat fr3) st3 go) fun r s4 ⟨u,hr,h4⟩=>?_
   subst hr
   refine wpAny_bind (thnF h4 fun _ s5 ⟨x,H5,I5,r5,y5,st5,fr5⟩=>?_)
   have I5':=I5.pinned (stat fr5) (TT.obj _ _ st5)
   refine wpAny_bind (thnF (hg _ _ s5 σ3 H5 x u _ I5' r5 (step x H5 y5)) fun _ s6 ⟨σ6,H6,I6,q6⟩=>?_)
   have again:∀ {s7:Shared} {σ7:St} {zs:List V} {H7:Hp},Inv (zBe X (T ++ caps.map (·.1)) scope ⟨G.objs.size,s2,H2,fp⟩) ([] ++ zIc fp s5.heap) σ7 H7 s7→N σ7 zs H7 →
     ∃ m,m < n∧∃ i σ' ys H',Inv (zBe X (T ++ caps.map (·.1)) scope ⟨G.objs.size,s2,H2,fp⟩) [] σ' H' s7∧tn i s7.heap∧(∀ b∈fp,H' b = none)∧W i m σ' ys H':=fun {s7 σ7 zs H7} I7 n7=>by
    obtain ⟨m',hm,w7⟩:=hN σ7 zs H7 n7
    refine ⟨m',hm,i + 1,σ7,zs,H7,I7.unpinned,TT.keep _ _ _ st5 fun b hb o e=>(I7.pin (b,o) (List.mem_append_right _ (List.mem_append_right _ (zB8 hb e)))).1,fun b hb=>?_,w7⟩
    obtain ⟨o,e,d⟩:=TT.obj _ _ st5 b hb
    exact (I7.pin (b,o) (List.mem_append_right _ (List.mem_append_right _ (zB8 hb e)))).2.1
   refine wpAny_bind (thnF (ht _ _ s6 σ6 H6 _ I6 q6) fun ok s7 ⟨H7,I7,q7⟩=>?_)
   cases ok with
   | false=>exact wpAny_pure ⟨rfl,again I7 q7⟩
   | true =>
    refine wpAny_bind (wpAny_bind (thnF (he _ _ s7 σ6 H7 _ I7 q7) fun y s8 ⟨yv,H8,I8,r8,hD8,hl8,q8⟩=>?_))
    refine wpAny_bind (thnF (zBy _ s8 σ6 H8 (.ref s2.heap.objs.size) [yv] (.ref s2.heap.objs.size) [y] (fun _ H9=>N σ6 (ys ++ [yv]) H9) I8 rfl (.cons r8 .nil) ⟨_,ys,yv,rfl,rfl,hD8,hl8,q8⟩) fun _ s9 ⟨_,H9,I9,_,q9⟩=>?_)
    exact wpAny_pure (wpAny_pure ⟨rfl,again I9 q9⟩)
 exact codeAny_compStart_list loop (TT.self _ 0 _ _ _ st0 loop)
end
end L2

namespace L2
open PySem PySem.Spec PyProof.Rows

theorem zCs:bootBuiltins "len" = some (.builtin "len"):=by decide +kernel
theorem zIs:bootBuiltins "abs" = some (.builtin "abs"):=by decide +kernel
theorem bt_all:bootBuiltins "all" = some (.builtin "all"):=by decide +kernel
theorem bt_min:bootBuiltins "min" = some (.builtin "min"):=by decide +kernel
theorem zEd:bootBuiltins "isinstance" = some (.builtin "isinstance"):=by decide +kernel
theorem bt_int:bootBuiltins "int" = some (.type "int"):=by decide +kernel
theorem zUg:bootBuiltins "bool" = some (.type "bool"):=by decide +kernel
theorem zEl:bootBuiltins "list" = some (.type "list"):=by decide +kernel
theorem zJ9:bootBuiltins "tuple" = some (.type "tuple"):=by decide +kernel
def Has (P:Program) (w:World) (K:PySem.W.Frag) (mg:Str→Option Value) (base:Heap) (x:Str) (n:Nat) (ps:List Str) (sp:Sp):Prop :=
 ∃ (f:Addr) (fd:FuncData),FnOk P w K mg base CX0 n f fd ps sp∧zK4 K fd ps []∧PySem.W.keepIn K (.ref f) = true∧mg x = some (.ref f)
section
variable {X:Cx} {x:Str} {p pos:Pos} {e:Expr} {es:List Expr} {t:TA} {n:Nat} {ps:List Str} {sp:Sp}
theorem zAh (h:Has X.prog X.w X.K X.mg X.base x n ps sp) (hr:Room n X.A) (hg:Gl X x) (ha:PA X (e :: es) t) (hdb:(x == ("__debug__" : Str)) = false:=by decide)
  (he:starEach (e :: es) X.env = (false,eval e X.env) :: starEach es X.env:=by rfl) (hpl:(backTo pos (starEach es X.env)).any (·.1) = false:=by rfl):PE X (.Call (.Name x p) (e :: es) [] pos) (zTy sp [] E0 t):=by
 obtain ⟨f,fd,F,b,k,m⟩:=h
 exact zU1 F hr hg m k b .nil pass0 ha hdb he hpl
end

section
variable {X:Cx}
def zDv (i j:Int):Prop:=0 < j∧j.natAbs < 2 ^ 4096
theorem zCm:OpR X (binaryOp .FloorDiv) (rI zDv fun i j=>.int (i / j)):=opI fun i j _ _ _ _ _ hc q=>by
 have h1:(0:Int) < j:=hc.1
 have h3:j.natAbs.log2 < 9000:=Nat.lt_trans ((Nat.log2_lt (by omega)).mpr hc.2) (by decide)
 exact floordiv_int (by omega) (by rw [Int.fdiv_eq_ediv_of_nonneg i (by omega)]; exact q) (.inl (PyProof.noPylong_of_log2 h3))
theorem zDv.of {i j:Int} (h:0 < j) (h2:j < 10 ^ 600):zDv i j:=by
 refine ⟨h,?_⟩
 have e:(10:Nat) ^ 600 < 2 ^ 4096:=by decide +kernel
 omega
def zHj (i j:Int):Prop:=i.natAbs < 2 ^ 4096∧j.natAbs < 2 ^ 4096
theorem zJl {i:Int} (h:i.natAbs < 2 ^ 4096):Builtin.Int.intBits i≤2 ^ 20:=by
 unfold Builtin.Int.intBits
 split
 ·exact Nat.zero_le _
 ·have q:i.natAbs.log2 < 4096:=by
   rcases Nat.eq_zero_or_pos i.natAbs with h0 | hp
   ·rw [h0]; decide
   ·exact (Nat.log2_lt (Nat.ne_of_gt hp)).mpr h
  have e:(2:Nat) ^ 20 = 1048576:=by decide
  omega
theorem zBj:OpR X (binaryOp .Mult) (rI zHj fun i j=>.int (i * j)):=opI fun _ _ _ _ _ _ _ hc q=>mul_int q (IntMulOk.of_bits (zJl hc.1) (zJl hc.2))

theorem zFu:zHk X (.builtin "isinstance") (fun xs H Q=>∃ x T t b,xs = [x,.ty T]∧TyOf X.K H x t∧PySem.W.kitOne X.K t (.type T) = some b∧Q (.bl b) H):=by
 intro pins s σ H xs us Q I r h
 obtain ⟨x,T,t,b,rfl,ty,e,q⟩:=h
 obtain ⟨u,v,rfl,ru,rv⟩:=Vals.two r
 cases rv
 exact zRk I ru ty e fun tk=>⟨.bl b,H,I.tok tk,rfl,q⟩

def Sq (K:PySem.W.Frag) (H:Hp) (p:Addr) (xs:List V):Prop:=SqL K H p xs∨SqT K H p xs
inductive RIx (K:PySem.W.Frag) (x y:V) (H:Hp) (Q:VK):Prop where
 | mk (p:Addr) (xs:List V) (i:Int) (v:V) (ex:x = .ref p) (ey:y = .int i) (sq:Sq K H p xs) (at':atI xs i = some v) (q:Q v H)
def rIxA (K:PySem.W.Frag):R2:=fun x y H Q=>RIx K x y H Q
theorem zAk:IxR X (rIxA X.K):=by
 intro value slice pins s σ H x y v u Q I rx ry q hs
 obtain ⟨p,xs,i,z,e1,e2,hq,ha,q⟩:=q
 rcases hq with hq | hq
 ·exact zUp value slice pins s σ H x y v u Q I rx ry ⟨p,xs,i,z,e1,e2,hq,ha,q⟩ hs
 ·exact ix_tup value slice pins s σ H x y v u Q I rx ry ⟨p,xs,i,z,e1,e2,hq,ha,q⟩ hs
def iSeq (K:PySem.W.Frag) (tl:TE):TI:=fun σ H R=>tl σ H fun x H1=>∃ a,x = .ref a∧(((∃ xs,SqL K H1 a xs)∧R (Itl K a) H1)∨((∃ xs,SqT K H1 a xs)∧R (Itt K a) H1))
theorem zBk {tg l:Expr} {tl:TE} (hl:PE X l tl):PI X tg l (iSeq X.K tl):=by
 intro pins s σ H R I h
 refine thn (hl pins s σ H _ I h) fun v s1 ⟨x,H1,I1,r1,q1⟩=>?_
 obtain ⟨a,e,q⟩:=q1
 subst e
 cases r1
 have own:∀ b,b∈[s1.heap.objs.size]→FpOk X pins H1 b:=fun b hb=>by
  rw [List.mem_singleton] at hb
  subst hb
  exact I1.fpOk (Nat.le_refl _) (I1.hok.fresh (Nat.le_refl _))
 rcases q with ⟨⟨xs,hq⟩,q⟩ | ⟨⟨xs,hq⟩,q⟩
 ·obtain ⟨its,rv,p,hz⟩:=I1.list hq
  exact wpAny_pyIter_list p.isList ⟨s1.heap.objs.size,[s1.heap.objs.size],_,_,H1,rfl,I1.kept (t':=s1.toks) fun b o e=>Heap.get?_push_of_some _ e,zL2 a _,⟨_,Heap.get?_push_size _ rfl,rfl,rfl⟩,own,q⟩
 ·obtain ⟨its,rv,p,hz⟩:=I1.tuple hq
  exact wpAny_pyIter_tuple (show s1.heap.IsTuple a its.toArray from p) ⟨s1.heap.objs.size,[s1.heap.objs.size],_,_,H1,rfl,I1.kept (t':=s1.toks) fun b o e=>Heap.get?_push_of_some _ e,zOo a _,⟨_,Heap.get?_push_size _ rfl,rfl,rfl⟩,own,q⟩
end

section
variable {K:PySem.W.Frag} {a D:Addr} {xs:List V} {g:TG} {tt:TT} {te:TE} {σ0:St} {H1:Hp} {Q:VK}
theorem zI8 (Pv:Nat→St→List V→Hp→Prop) (h0:Pv 0 σ0 [] (upd H1 D (.lst []))) (hl:∀ i σ ys H,i≤xs.length→Pv i σ ys H→SqL K H a xs∧H D = some (.lst ys))
  (hs:∀ i x σ ys H,xs[i]? = some x→Pv i σ ys H→g x σ H fun σ2 H2=>tt σ2 H2 fun b H3 =>
   if b = true then te σ2 H3 fun y H4=>H4 D = some (.lst ys)∧ys.length < sizeLine∧Pv (i + 1) σ2 (ys ++ [y]) (upd H4 D (.lst (ys ++ [y]))) else Pv (i + 1) σ2 ys H3)
  (hd:∀ σ ys H,Pv xs.length σ ys H→Q (.ref D) H):zG6 (Itl K a) D g tt te σ0 H1 Q:=by
 refine ⟨fun i m σ ys H=>m = xs.length - i∧i≤xs.length∧Pv i σ ys H,⟨xs.length,by simp,Nat.zero_le _,h0⟩,?_⟩
 rintro i m σ ys H ⟨rfl,hi,p⟩
 obtain ⟨q,qd⟩:=hl i σ ys H hi p
 refine ⟨qd,?_⟩
 by_cases hlt:i < xs.length
 ·refine .inr ⟨⟨xs,xs[i],q,by simp [hlt]⟩,Pv (i + 1),fun σ' zs H' z=>⟨xs.length - (i + 1),by omega,rfl,hlt,z⟩,fun x H' y=>?_⟩
  obtain ⟨e,y⟩:=y
  subst e
  exact hs i x σ ys _ (y xs q) p
 ·have e:i = xs.length:=by omega
  subst e
  exact .inl ⟨⟨xs,q,Nat.le_refl _⟩,hd σ ys H p⟩
theorem zSr (Pv:Nat→St→List V→Hp→Prop) (h0:Pv 0 σ0 [] (upd H1 D (.lst []))) (hl:∀ i σ ys H,i≤xs.length→Pv i σ ys H→SqT K H a xs∧H D = some (.lst ys))
  (hs:∀ i x σ ys H,xs[i]? = some x→Pv i σ ys H→g x σ H fun σ2 H2=>tt σ2 H2 fun b H3 =>
   if b = true then te σ2 H3 fun y H4=>H4 D = some (.lst ys)∧ys.length < sizeLine∧Pv (i + 1) σ2 (ys ++ [y]) (upd H4 D (.lst (ys ++ [y]))) else Pv (i + 1) σ2 ys H3)
  (hd:∀ σ ys H,Pv xs.length σ ys H→Q (.ref D) H):zG6 (Itt K a) D g tt te σ0 H1 Q:=by
 refine ⟨fun i m σ ys H=>m = xs.length - i∧i≤xs.length∧Pv i σ ys H,⟨xs.length,by simp,Nat.zero_le _,h0⟩,?_⟩
 rintro i m σ ys H ⟨rfl,hi,p⟩
 obtain ⟨q,qd⟩:=hl i σ ys H hi p
 refine ⟨qd,?_⟩
 by_cases hlt:i < xs.length
 ·refine .inr ⟨⟨xs,xs[i],q,by simp [hlt]⟩,Pv (i + 1),fun σ' zs H' z=>⟨xs.length - (i + 1),by omega,rfl,hlt,z⟩,fun x H' y=>?_⟩
  obtain ⟨e,y⟩:=y
  subst e
  exact hs i x σ ys _ (y xs q) p
 ·have e:i = xs.length:=by omega
  subst e
  exact .inl ⟨⟨xs,q,Nat.le_refl _⟩,hd σ ys H p⟩
theorem zJ4 {lo:Int} {n:Nat} (Pv:Nat→St→List V→Hp→Prop) (h0:Pv 0 σ0 [] (upd H1 D (.lst []))) (hl:∀ i σ ys H,i≤n→Pv i σ ys H→H D = some (.lst ys))
  (hs:∀ i σ ys H,i < n→Pv i σ ys H→g (.int (lo + i)) σ H fun σ2 H2=>tt σ2 H2 fun b H3 =>
   if b = true then te σ2 H3 fun y H4=>H4 D = some (.lst ys)∧ys.length < sizeLine∧Pv (i + 1) σ2 (ys ++ [y]) (upd H4 D (.lst (ys ++ [y]))) else Pv (i + 1) σ2 ys H3)
  (hd:∀ σ ys H,Pv n σ ys H→Q (.ref D) H):zG6 (Itr lo n) D g tt te σ0 H1 Q:=by
 refine ⟨fun i m σ ys H=>m = n - i∧i≤n∧Pv i σ ys H,⟨n,by simp,Nat.zero_le _,h0⟩,?_⟩
 rintro i m σ ys H ⟨rfl,hi,p⟩
 have qd:=hl i σ ys H hi p
 refine ⟨qd,?_⟩
 by_cases hlt:i < n
 ·refine .inr ⟨hlt,Pv (i + 1),fun σ' zs H' z=>⟨n - (i + 1),by omega,rfl,hlt,z⟩,fun x H' y=>?_⟩
  obtain ⟨e,y⟩:=y
  subst e y
  exact hs i σ ys _ hlt p
 ·have e:i = n:=by omega
  subst e
  exact .inl ⟨Nat.le_refl _,hd σ ys H p⟩
end
section
variable {K:PySem.W.Frag} {a D:Addr} {xs:List V} {g:TG} {te:TE} {σ0:St} {H1:Hp} {Q:VK}
theorem zBn (Pv:Nat→St→List V→Hp→Prop) (h0:Pv 0 σ0 [] (upd H1 D (.lst []))) (hl:∀ i σ ys H,i≤xs.length→Pv i σ ys H→SqL K H a xs∧H D = some (.lst ys))
  (hs:∀ i x σ ys H,xs[i]? = some x→Pv i σ ys H→g x σ H fun σ2 H2=>te σ2 H2 fun y H4=>H4 D = some (.lst ys)∧ys.length < sizeLine∧Pv (i + 1) σ2 (ys ++ [y]) (upd H4 D (.lst (ys ++ [y]))))
  (hd:∀ σ ys H,Pv xs.length σ ys H→Q (.ref D) H):zG6 (Itl K a) D g tYes te σ0 H1 Q:=zI8 Pv h0 hl (fun i x σ ys H e p=>hs i x σ ys H e p) hd
theorem zIj (Pv:Nat→St→List V→Hp→Prop) (h0:Pv 0 σ0 [] (upd H1 D (.lst []))) (hl:∀ i σ ys H,i≤xs.length→Pv i σ ys H→SqT K H a xs∧H D = some (.lst ys))
  (hs:∀ i x σ ys H,xs[i]? = some x→Pv i σ ys H→g x σ H fun σ2 H2=>te σ2 H2 fun y H4=>H4 D = some (.lst ys)∧ys.length < sizeLine∧Pv (i + 1) σ2 (ys ++ [y]) (upd H4 D (.lst (ys ++ [y]))))
  (hd:∀ σ ys H,Pv xs.length σ ys H→Q (.ref D) H):zG6 (Itt K a) D g tYes te σ0 H1 Q:=zSr Pv h0 hl (fun i x σ ys H e p=>hs i x σ ys H e p) hd
theorem zMk {lo:Int} {n:Nat} (Pv:Nat→St→List V→Hp→Prop) (h0:Pv 0 σ0 [] (upd H1 D (.lst []))) (hl:∀ i σ ys H,i≤n→Pv i σ ys H→H D = some (.lst ys))
  (hs:∀ i σ ys H,i < n→Pv i σ ys H→g (.int (lo + i)) σ H fun σ2 H2=>te σ2 H2 fun y H4=>H4 D = some (.lst ys)∧ys.length < sizeLine∧Pv (i + 1) σ2 (ys ++ [y]) (upd H4 D (.lst (ys ++ [y]))))
  (hd:∀ σ ys H,Pv n σ ys H→Q (.ref D) H):zG6 (Itr lo n) D g tYes te σ0 H1 Q:=zJ4 Pv h0 hl (fun i σ ys H e p=>hs i σ ys H e p) hd
end
end L2

namespace L2
open PySem PySem.Spec PyProof.Rows
theorem zRg:∀ bs:List Bool,(List.range bs.length).all (fun i=>(bs[i]?).getD true) = bs.all id:=by
 intro bs
 rw [Bool.eq_iff_iff,List.all_eq_true,List.all_eq_true]
 constructor
 ·intro h b hb
  obtain ⟨i,hi,e⟩:=List.getElem_of_mem hb
  have q:=h i (List.mem_range.mpr hi)
  rw [List.getElem?_eq_getElem hi,e] at q
  exact q
 ·intro h i hi
  have hi':=List.mem_range.mp hi
  rw [List.getElem?_eq_getElem hi']
  exact h _ (List.getElem_mem hi')
theorem zSz {bs:List Bool} {its:List Value} (r:Vals (bs.map V.bl) its) {i:Nat} {v:Value} (h:its[i]? = some v):v = .bool ((bs[i]?).getD true):=by
 have hl:=r.length
 rw [List.length_map] at hl
 have hi:i < its.length:=(List.getElem?_eq_some_iff.mp h).1
 have hb:i < bs.length:=by omega
 obtain ⟨u,hu,ru⟩:=r.get (i:=i) (x:=.bl bs[i]) (by rw [List.getElem?_map,List.getElem?_eq_getElem hb]; rfl)
 rw [hu] at h
 cases h
 rw [List.getElem?_eq_getElem hb]
 exact ru
section
variable {X:Cx}
theorem zRf (hc:X.calm = true):zHk X (.builtin "all") (fun xs H Q=>∃ (p:Addr) (bs:List Bool),xs = [.ref p]∧SqL X.K H p (bs.map V.bl)∧Q (.bl (bs.all id)) H):=by
 intro pins s σ H xs us Q I r h
 obtain ⟨p,bs,rfl,hq,q⟩:=h
 obtain ⟨u,rfl,ru⟩:=Vals.one r
 cases ru
 obtain ⟨its,rv,pl,hz⟩:=I.list hq
 have plt:p < s.heap.objs.size:=by
  obtain ⟨_,e,_⟩:=pl.isList
  exact Heap.lt_size e
 refine call_all_walk (wpAny_pyIter_list pl.isList ?_)
 refine ⟨s.heap.objs.size,_,_,_,_,_,fun i=>(bs[i]?).getD true,rfl,Walks.list (A:=X.A.in1) (show X.A.in1.handled = none from I.ok.hd hc) _ p (Nat.ne_of_lt plt) its.toArray,⟨⟨_,Heap.get?_push_size _ rfl,rfl,rfl⟩,Heap.IsList.push pl.isList _⟩,fun i v s Q E hP hQ=>?_,fun h' tk k=>?_⟩
 ·have e:=zSz rv (by simpa using hP)
  subst e
  exact wpAny_truthy_bool hQ
 ·have e:(List.range its.toArray.size).all (fun i=>(bs[i]?).getD true) = bs.all id:=by
   have hl:=rv.length
   rw [List.length_map] at hl
   rw [List.size_toArray,← hl]
   exact zRg bs
  rw [e]
  exact ⟨.bl (bs.all id),H,I.kept (t':=tk) fun b o z=>k b o (fun w=>by rw [List.mem_singleton] at w; exact Nat.lt_irrefl _ (w ▸ Heap.lt_size z)) (Heap.get?_push_of_some _ z),rfl,q⟩
end
end L2

namespace L2
open PySem PySem.Spec PyProof.Rows

section
variable {prog:Program} {w:World} {A:Around} {E:Value→Shared→Prop} {s:Shared}
end
end L2

namespace L2
open PySem PySem.Spec PyProof.Rows
section
variable {X:Cx}
end
section
variable {K:PySem.W.Frag} {b1 b2:Bool} {l1 l2 D:Addr} {xs ys:List V} {g:TG} {tt:TT} {te:TE} {σ0:St} {H1:Hp} {Q:VK}
end
end L2

namespace L2
open PySem PySem.Spec PyProof.Rows
theorem ifD {p A B:Prop} [Decidable p] (h1:p→A) (h2:¬ p→B):if decide p = true then A else B:=by
 by_cases h:p
 ·rw [if_pos (decide_eq_true h)]; exact h1 h
 ·rw [if_neg (by rw [decide_eq_false h]; exact Bool.false_ne_true)]; exact h2 h
theorem ifN {p A B:Prop} [Decidable p] (h1:¬ p→A) (h2:p→B):if (!decide p) = true then A else B:=by
 by_cases h:p
 ·rw [if_neg (by rw [decide_eq_true h]; exact Bool.false_ne_true)]; exact h2 h
 ·rw [if_pos (by rw [decide_eq_false h]; rfl)]; exact h1 h
theorem ifE {x y:Int} {A B:Prop} (h1:x = y→A) (h2:x≠y→B):if decide (V.int x = V.int y) = true then A else B :=
 ifD (fun h=>h1 (V.int.inj h)) fun h=>h2 fun e=>h (congrArg V.int e)
theorem ifNe {x y:Int} {A B:Prop} (h1:x≠y→A) (h2:x = y→B):if (!decide (V.int x = V.int y)) = true then A else B :=
 ifN (fun h=>h1 fun e=>h (congrArg V.int e)) fun h=>h2 (V.int.inj h)
theorem decI {x y:Int} (h:x = y):decide (V.int x = V.int y) = true:=decide_eq_true (congrArg V.int h)
theorem zAd {H:Hp} {p:Addr} (h:H p = none) (o:HO):Same H (upd H p o):=fun b u q=>by rw [zAo (zAy q h)]; exact q
theorem Sq.same {K:PySem.W.Frag} {H H':Hp} {a:Addr} {xs:List V} (h:Sq K H a xs) (e:Same H H'):Sq K H' a xs:=by
 rcases h with h | h
 ·exact .inl (e.seq h)
 ·refine .inr ?_
  rcases h with h | h
  ·rcases h with h | ⟨o,h⟩
   ·exact .inl (.inl (e _ _ h))
   ·exact .inl (.inr ⟨o,e _ _ h⟩)
  ·exact .inr h
theorem zCb {ns:List Int} {i:Nat} {x:V} (h:(ns.map V.int)[i]? = some x):∃ n,ns[i]? = some n∧x = .int n:=by
 rw [List.getElem?_map] at h
 cases e:ns[i]? with
 | none=>rw [e] at h; cases h
 | some n=>rw [e] at h; exact ⟨n,rfl,(Option.some.inj h).symm⟩
theorem zA8 {α:Type} {l:List α} {i:Nat} {x:α} (h:l[i]? = some x):l.take (i + 1) = l.take i ++ [x]:=by
 rw [List.take_succ,h]; rfl
theorem small {n:Nat} (h:n≤1000):n≤sizeLine:=Nat.le_of_lt (zA3 h)
end L2
namespace L2
open PySem PySem.Spec PyProof.Rows
theorem SqT.same {K:PySem.W.Frag} {H H':Hp} {a:Addr} {xs:List V} (h:SqT K H a xs) (e:Same H H'):SqT K H' a xs:=by
 rcases h with h | h
 ·rcases h with h | ⟨o,h⟩
  ·exact .inl (.inl (e _ _ h))
  ·exact .inl (.inr ⟨o,e _ _ h⟩)
 ·exact .inr h
theorem zNg (K:PySem.W.Frag):PySem.W.kitOne K (.type "int") (.type "int") = some true:=rfl
theorem zK5 (K:PySem.W.Frag):PySem.W.kitOne K (.type "int") (.type "bool") = some false:=rfl
theorem zId (K:PySem.W.Frag):PySem.W.kitOne K (.type "tuple") (.type "tuple") = some true:=rfl
end L2
namespace L2
open PySem PySem.Spec PyProof.Rows
def zNj (t:TT):Prop:=∀ (σ:St) (H:Hp) (Q Q':Bool→Hp→Prop),(∀ b H1,Q b H1→Q' b H1)→t σ H Q→t σ H Q'
def zJg (t:TE):Prop:=∀ (σ:St) (H:Hp) (Q Q':VK),(∀ b H1,Q b H1→Q' b H1)→t σ H Q→t σ H Q'
def zRx (t:TA):Prop:=∀ (σ:St) (H:Hp) (Q Q':List V→Hp→Prop),(∀ b H1,Q b H1→Q' b H1)→t σ H Q→t σ H Q'
def zT0 (r:R2):Prop:=∀ (x y:V) (H:Hp) (Q Q':VK),(∀ b H1,Q b H1→Q' b H1)→r x y H Q→r x y H Q'
def MonoC (r:List V→Hp→VK→Prop):Prop:=∀ (xs:List V) (H:Hp) (Q Q':VK),(∀ b H1,Q b H1→Q' b H1)→r xs H Q→r xs H Q'
theorem zD1 {i:Nat} : zJg (tVar i):=fun _ _ _ _ hq ⟨v,e,z⟩=>⟨v,e,hq _ _ z⟩
theorem mo_c {v:V} : zJg (tC v):=fun _ _ _ _ hq z=>hq _ _ z
theorem zM7 {r:R2} {ta tb:TE} (hr:zT0 r) (ha:zJg ta) (hb:zJg tb):zJg (tOp r ta tb):=fun σ _ _ _ hq z=>ha σ _ _ _ (fun _ _ z=>hb σ _ _ _ (fun _ _ z=>hr _ _ _ _ _ hq z) z) z
theorem zO0 {g:Int→Int→V} : zT0 (rI0 g):=fun _ _ _ _ _ hq ⟨i,j,e1,e2,z⟩=>⟨i,j,e1,e2,hq _ _ z⟩
theorem mo_ixA {K:PySem.W.Frag} : zT0 (rIxA K):=fun _ _ _ _ _ hq ⟨p,xs,i,v,a,b,c,d,z⟩=>⟨p,xs,i,v,a,b,c,d,hq _ _ z⟩
theorem zGy {t:TE} (h:zJg t):zNj (zR9 t):=fun σ _ _ _ hq z=>h σ _ _ _ (fun _ _ ⟨k,e,z⟩=>⟨k,e,hq _ _ z⟩) z
theorem mo_b {t:TE} (h:zJg t):zNj (tB t):=fun σ _ _ _ hq z=>h σ _ _ _ (fun _ _ ⟨k,e,z⟩=>⟨k,e,hq _ _ z⟩) z
theorem mo_not {t:TT} (h:zNj t):zNj (tNot t):=fun σ _ _ _ hq z=>h σ _ _ _ (fun _ _ z=>hq _ _ z) z
theorem zQo {t u:TT} (h:zNj t) (h':zNj u):zNj (tAnd t u):=fun σ _ _ _ hq z=>h σ _ _ _ (fun b _ z=>by
 cases b with
 | true=>exact h' σ _ _ _ hq z
 | false=>exact hq _ _ z) z
theorem zLw:zRx tNil:=fun _ _ _ _ hq z=>hq _ _ z
theorem zGz {te:TE} {ta:TA} (h:zJg te) (h':zRx ta):zRx (zTw te ta):=fun σ _ _ _ hq z=>h σ _ _ _ (fun _ _ z=>h' σ _ _ _ (fun _ _ z=>hq _ _ z) z) z
theorem zR7 {r:List V→Hp→VK→Prop} {t:TA} (hr:MonoC r) (h:zRx t):zJg (tCB r t):=fun σ _ _ _ hq z=>h σ _ _ _ (fun _ _ z=>hr _ _ _ _ hq z) z
theorem zN7 {K:PySem.W.Frag} : MonoC (fun xs H Q=>∃ p ys,xs = [.ref p]∧(SqL K H p ys∨SqT K H p ys)∧Q (.int ys.length) H):=fun _ _ _ _ hq ⟨p,ys,e,s,z⟩=>⟨p,ys,e,s,hq _ _ z⟩
theorem zIx (ns:List Int) (lo hi:Option Int):cutV (ns.map V.int) lo hi = ((ns.drop (HT.sIx ns.length 0 lo)).take (HT.sIx ns.length ns.length hi - HT.sIx ns.length 0 lo)).map V.int:=by
 unfold cutV
 rw [List.length_map,List.map_take,List.map_drop]
theorem ifTF {b:Bool} {A B:Prop} (h1:b = true→A) (h2:b = false→B):if b = true then A else B:=by
 cases b with
 | true=>exact h1 rfl
 | false=>exact h2 rfl
end L2
namespace L2
open PySem PySem.Spec PyProof.Rows
end L2

namespace L2
open PySem PySem.Spec PyProof.Rows
theorem zTo {A:Around} {s:Shared} {xs ys:List Int} {us ws:List Value} (r1:Vals (xs.map V.int) us) (r2:Vals (ys.map V.int) ws):∀ j (h1:j < us.toArray.size) (h2:j < ws.toArray.size),
  SeqAt.EqAt A s us.toArray[j] ws.toArray[j] (decide (xs[j]? = ys[j]?)):=fun j h1 h2=>by
 have l1:=r1.length
 have l2:=r2.length
 rw [List.length_map] at l1 l2
 have g1:j < us.length:=by simpa using h1
 have g2:j < ws.length:=by simpa using h2
 have k1:j < xs.length:=by omega
 have k2:j < ys.length:=by omega
 obtain ⟨u,hu,t,ru⟩:=r1.get (i:=j) (x:=.int xs[j]) (by rw [List.getElem?_map,List.getElem?_eq_getElem k1]; rfl)
 obtain ⟨w,hw,t',rw'⟩:=r2.get (i:=j) (x:=.int ys[j]) (by rw [List.getElem?_map,List.getElem?_eq_getElem k2]; rfl)
 have e1:us.toArray[j] = .int xs[j] t:=by
  have z:=List.getElem?_eq_getElem g1
  rw [hu] at z
  rw [List.getElem_toArray,← Option.some.inj z,ru]
 have e2:ws.toArray[j] = .int ys[j] t':=by
  have z:=List.getElem?_eq_getElem g2
  rw [hw] at z
  rw [List.getElem_toArray,← Option.some.inj z,rw']
 rw [e1,e2]
 have e3:decide (xs[j]? = ys[j]?) = (xs[j] == ys[j]):=by
  rw [List.getElem?_eq_getElem k1,List.getElem?_eq_getElem k2]
  by_cases h:xs[j] = ys[j]
  ·rw [h]; simp
  ·rw [decide_eq_false (fun z=>h (Option.some.inj z))]
   exact (beq_eq_false_iff_ne.mpr h).symm
 rw [e3]
 exact SeqAt.EqAt.int_int _ _ _ _
theorem zP8 {xs ys:List Int} : ((List.range (min xs.length ys.length)).all (fun j=>decide (xs[j]? = ys[j]?)) && xs.length == ys.length) = decide (xs = ys):=by
 by_cases h:xs = ys
 ·subst h
  rw [decide_eq_true rfl,Bool.and_eq_true]
  exact ⟨List.all_eq_true.mpr fun j _=>decide_eq_true rfl,by simp⟩
 ·rw [decide_eq_false h,Bool.and_eq_false_iff]
  by_cases hl:xs.length = ys.length
  ·left
   rw [Bool.eq_false_iff]
   intro z
   apply h
   rw [List.all_eq_true] at z
   refine List.ext_getElem? fun j=>?_
   by_cases hj:j < xs.length
   ·exact of_decide_eq_true (z j (List.mem_range.mpr (by omega)))
   ·rw [List.getElem?_eq_none (by omega),List.getElem?_eq_none (by omega)]
  ·right
   exact beq_eq_false_iff_ne.mpr hl
section
variable {X:Cx}
def rEqT (K:PySem.W.Frag) (neg:Bool):R2:=fun x y H Q=>∃ (a b:Addr) (xs ys:List Int),x = .ref a∧y = .ref b∧SqT K H a (xs.map V.int)∧SqT K H b (ys.map V.int)∧Q (.bl (if neg then !decide (xs = ys) else decide (xs = ys))) H
theorem op_neT (hu:X.A.units < cLine):OpR X (compareOp .NotEq) (rEqT X.K true):=by
 intro pins s σ H x y v u Q I rx ry h
 obtain ⟨a,b,xs,ys,rfl,rfl,h1,h2,q⟩:=h
 cases rx
 cases ry
 obtain ⟨us,r1,p1,_⟩:=I.tuple h1
 obtain ⟨ws,r2,p2,_⟩:=I.tuple h2
 refine SeqAt.RcNeAt.tuples (e:=fun j=>decide (xs[j]? = ys[j]?)) (show s.heap.IsTuple a us.toArray from p1) (show s.heap.IsTuple b ws.toArray from p2) hu (zTo r1 r2) X.prog X.w _ _ ?_
 have l1:=r1.length
 have l2:=r2.length
 rw [List.length_map] at l1 l2
 rw [List.size_toArray,List.size_toArray,← l1,← l2,zP8]
 exact ⟨.bl (!decide (xs = ys)),H,I,rfl,q⟩
end
end L2
namespace L2
open PySem
theorem zC4 {rows:List Int} {P:Int→Prop} (bd:∀ x∈rows,P x) {k:Int} (k0:0≤k) (k1:k < rows.length):∃ v:Int,atI (rows.map V.int) k = some (.int v)∧P v:=by
 have hk:k.toNat < rows.length:=by omega
 refine ⟨rows[k.toNat],?_,bd _ (List.getElem_mem hk)⟩
 have q:atI (rows.map V.int) ((k.toNat:Nat):Int) = some (.int rows[k.toNat]):=zFx (by rw [List.getElem?_map,List.getElem?_eq_getElem hk] <;> rfl)
 rw [show ((k.toNat:Nat):Int) = k from by omega] at q
 exact q
end L2
namespace L2
theorem zHj.of {i j:Int} (hi:i.natAbs≤10 ^ 100) (hj:j.natAbs≤10 ^ 100):zHj i j :=
 ⟨Nat.lt_of_le_of_lt hi (by decide +kernel),Nat.lt_of_le_of_lt hj (by decide +kernel)⟩
theorem zUr {n:Nat} (h:n≤10 ^ 40):n≤10 ^ 100:=Nat.le_trans h (by decide +kernel)
end L2

namespace L2
open PySem PySem.Spec PyProof.Rows
section
variable {X:Cx} {T:List Str} {caps:List (Str × Nat)} {scope:Scope} {elt target iter:Expr} {ifs:List Expr} {pos cpos:Pos} {wi:TI} {g:CC→TG} {tt:CC→TT} {te:CC→TE}
theorem zR6 (S:zDb X caps scope) (hc:X.calm = true) (hi:PI X target iter wi) (hg:∀ c,PG (zBe X (T ++ caps.map (·.1)) scope c) target (g c)) (ht:∀ c,PIfs (zBe X (T ++ caps.map (·.1)) scope c) ifs (tt c)) (he:∀ c,PE (zBe X (T ++ caps.map (·.1)) scope c) elt (te c))
  {use:Option (Value→Sem Unit)} {Qv:Value→Shared→Prop} {pins:List (Addr × Obj)} {s:Shared} {σ:St} {H:Hp} {Q:VK} (I:Inv X pins σ H s) (h:zTt T.length caps wi g tt te σ H Q)
  (hfin:∀ (D C:Addr) (s4:Shared) (H3:Hp),Inv X pins σ H3 s4→Q (.ref D) H3→∀ m,s4.heap.Ns C m→H3 C = none→C≠X.env.locals→X.s₀.heap.objs.size≤C→(∀ x c,X.env.cells.lookup x = some c→c≠C)→(∀ p∈X.pn ++ pins,p.1≠C)→compPost (model X.prog X.w) X.A X.xe use Qv (.ref D) C (.ok .next) s4)
  (hs:∀ x,foldedSetIterable iter X.env x = pure x:=by intro _; rfl) :
  wpAny (model X.prog X.w) X.A (comprehension (.ListComp elt [⟨target,iter,ifs,0⟩] scope pos) scope X.env cpos (newList []) false (eval iter X.env) use) Qv X.xe s:=by
 refine wpAny_comprehension_free (use:=use) rfl hs (zMw S.cells) S.kind S.loc (thn (hi pins s σ H _ I h) fun v s1 h1=>thn h1 fun itv s2 h2=>?_)
 obtain ⟨it,fp,tn,J,H2,e,I2,TT,st2,f2,q2⟩:=h2
 subst e
 refine wpAny_newObj_type (wpAny_newFunctionEnv S.nocell (by intro y hy; simp at hy) (fun h1 hn hsb=>?_) S.kind)
 dsimp only at hn hsb ⊢
 generalize hg2:s2.heap.push { cls:=.type "list", dict:=none,data:=.seq ([]:List Value).toArray } = G at hn hsb ⊢
 have hCv:G.objs.size = s2.heap.objs.size + 1:=by rw [← hg2,Heap.size_push]
 have hDC:G.objs.size≠s2.heap.objs.size:=by rw [hCv]; exact Nat.succ_ne_self _
 have hCle:s2.heap.objs.size≤G.objs.size:=by rw [hCv]; exact Nat.le_succ _
 have old:∀ b o,s2.heap.get? b = some o→h1.get? b = some o:=fun b o e=>hsb.extBut b o (Nat.ne_of_lt (Nat.lt_of_lt_of_le (Heap.lt_size e) hCle)) (Heap.get?_push_of_some _ (hg2 ▸ Heap.get?_push_of_some _ e))
 have hacc:∃ n,h1.get? s2.heap.objs.size = some { cls:=.type "list", data:=.seq ([]:List Value).toArray n }:=⟨_,hsb.extBut _ _ (Ne.symm hDC) (Heap.get?_push_of_some _ (hg2 ▸ Heap.get?_push_size _ rfl))⟩
 have hfp:∀ b∈fp,b < s2.heap.objs.size:=fun b hb=>by
  obtain ⟨o,e,_⟩:=TT.obj _ _ st2 b hb
  exact Heap.lt_size e
 have cs:=zC6 (env:=X.env) scope.names [] S.cells (fun _ _ z=>by cases z)
 have I0:=zGx (T:=T) (tk:=s2.toks + ([]:List (Str × Value)).length) S I2 f2 hfp (Nat.le_refl _) hCle hDC old hacc hn
 have st0:tn 0 h1:=TT.keep _ _ _ st2 fun b _ o e=>old b o e
 obtain ⟨W,⟨m0,w0⟩,turn⟩:=q2 ⟨G.objs.size,s2,H2,fp⟩ s2.heap.objs.size (I2.hok.fresh (Nat.le_refl _))
 have fr0:∀ b∈fp,upd H2 s2.heap.objs.size (.lst []) b = none:=fun b hb=>by
  rw [zAo (Nat.ne_of_lt (hfp b hb))]
  exact (f2 b hb).1
 have stat:∀ {H':Hp},(∀ b∈fp,H' b = none)→∀ b∈fp,FpOk (zBe X (T ++ caps.map (·.1)) scope ⟨G.objs.size,s2,H2,fp⟩) [] H' b:=fun {H'} hn' b hb =>
  ⟨hn' b hb,Nat.ne_of_lt (Nat.lt_of_lt_of_le (hfp b hb) hCle),I0.ok.exfs b hb,.inl hb,fun x c e=>(f2 b hb).2.2.2.2.1 x c (cs x c e),fun p hp=>absurd (show p∈([]:List (Addr × Obj)) from hp) (by simp)⟩
 have loop:codeAny (model X.prog X.w) X.A (.compLoop (.ListComp elt [⟨target,iter,ifs,0⟩] scope pos) 0 (.ref it) (.ref s2.heap.objs.size) (compEnvC scope (zE9 X.env scope.names []) G.objs.size X.env))
   (compPost (model X.prog X.w) X.A X.xe use Qv (.ref s2.heap.objs.size) G.objs.size) { s2 with heap:=h1,toks:=s2.toks + ([]:List (Str × Value)).length }:=by
  refine codeAny_loop rfl (fun n s'=>∃ i σ' ys H',Inv (zBe X (T ++ caps.map (·.1)) scope ⟨G.objs.size,s2,H2,fp⟩) [] σ' H' s'∧tn i s'.heap∧(∀ b∈fp,H' b = none)∧W i n σ' ys H') (fun n s3 hI=>?_) m0 ⟨0,_,[],_,I0,st0,fr0,w0⟩
  obtain ⟨i,σ3,ys,H3,I3,st3,fr3,w3⟩:=hI
  show wpAny _ X.A ((compTurn (.ListComp elt [⟨target,iter,ifs,0⟩] scope pos) 0 (.ref it) (.ref s2.heap.objs.size) (compEnvC scope (zE9 X.env scope.names []) G.objs.size X.env)).onRaise (fun x=>do noteFrame x (compEnvC scope (zE9 X.env scope.names []) G.objs.size X.env); theTreesLotGoes x)) _ _ s3
  refine wpAny_noted ?_
  rw [compTurn_list]
  refine wpAny_bind (wpAny_standAt (wpAny_bind ?_))
  obtain ⟨hD3,turn3⟩:=turn i n σ3 ys H3 w3
  rcases turn3 with ⟨stop,qn⟩ | ⟨go,N,hN,step⟩
  ·refine thnF (TT.done (zBe X (T ++ caps.map (·.1)) scope ⟨G.objs.size,s2,H2,fp⟩) rfl rfl rfl hc i [] s3 σ3 H3 _ I3 (stat fr3) st3 stop) fun r s4 ⟨hr,I4⟩=>?_
   subst hr
   refine wpAny_pure ?_
   obtain ⟨m4,hn4,_⟩:=I4.loc
   have J4:Inv X pins σ H3 s4:=by
    refine I2.call' (s':=s4) (ch:=fp) I4.os I4.base I4.hok I4.bare fun b hb=>?_
    obtain ⟨_,f1,_,f3,f4,f5⟩:=f2 b hb
    exact ⟨f3,f1,f4,f5⟩
   refine hfin _ G.objs.size s4 H3 J4 qn m4 hn4 I4.free (Nat.ne_of_gt (Nat.lt_of_lt_of_le I2.lt hCle)) (Nat.le_trans I2.sz hCle) (fun x c e z=>?_) (fun p hp z=>?_)
   ·obtain ⟨v,qq⟩:=I2.cell x c e
    exact absurd (Nat.lt_of_lt_of_le qq.lt (by rw [z]; exact hCle)) (Nat.lt_irrefl _)
   ·exact absurd (Nat.lt_of_lt_of_le (Heap.lt_size (I2.pin p hp).1) (by rw [z]; exact hCle)) (Nat.lt_irrefl _)
  ·refine thnF (TT.item (zBe X (T ++ caps.map (·.1)) scope ⟨G.objs.size,s2,H2,fp⟩) rfl rfl rfl hc i [] s3 σ3 H3 _ I3 (stat fr3) st3 go) fun r s4 ⟨u,hr,h4⟩=>?_
   subst hr
   refine wpAny_bind (thnF h4 fun _ s5 ⟨x,H5,I5,r5,y5,st5,fr5⟩=>?_)
   have I5':=I5.pinned (stat fr5) (TT.obj _ _ st5)
   refine wpAny_bind (thnF (hg _ _ s5 σ3 H5 x u _ I5' r5 (step x H5 y5)) fun _ s6 ⟨σ6,H6,I6,q6⟩=>?_)
   have again:∀ {s7:Shared} {σ7:St} {zs:List V} {H7:Hp},Inv (zBe X (T ++ caps.map (·.1)) scope ⟨G.objs.size,s2,H2,fp⟩) ([] ++ zIc fp s5.heap) σ7 H7 s7→N σ7 zs H7 →
     ∃ m,m < n∧∃ i σ' ys H',Inv (zBe X (T ++ caps.map (·.1)) scope ⟨G.objs.size,s2,H2,fp⟩) [] σ' H' s7∧tn i s7.heap∧(∀ b∈fp,H' b = none)∧W i m σ' ys H':=fun {s7 σ7 zs H7} I7 n7=>by
    obtain ⟨m',hm,w7⟩:=hN σ7 zs H7 n7
    refine ⟨m',hm,i + 1,σ7,zs,H7,I7.unpinned,TT.keep _ _ _ st5 fun b hb o e=>(I7.pin (b,o) (List.mem_append_right _ (List.mem_append_right _ (zB8 hb e)))).1,fun b hb=>?_,w7⟩
    obtain ⟨o,e,d⟩:=TT.obj _ _ st5 b hb
    exact (I7.pin (b,o) (List.mem_append_right _ (List.mem_append_right _ (zB8 hb e)))).2.1
   refine wpAny_bind (thnF (ht _ _ s6 σ6 H6 _ I6 q6) fun ok s7 ⟨H7,I7,q7⟩=>?_)
   cases ok with
   | false=>exact wpAny_pure ⟨rfl,again I7 q7⟩
   | true =>
    refine wpAny_bind (wpAny_bind (thnF (he _ _ s7 σ6 H7 _ I7 q7) fun y s8 ⟨yv,H8,I8,r8,hD8,hl8,q8⟩=>?_))
    refine wpAny_bind (thnF (zBy _ s8 σ6 H8 (.ref s2.heap.objs.size) [yv] (.ref s2.heap.objs.size) [y] (fun _ H9=>N σ6 (ys ++ [yv]) H9) I8 rfl (.cons r8 .nil) ⟨_,ys,yv,rfl,rfl,hD8,hl8,q8⟩) fun _ s9 ⟨_,H9,I9,_,q9⟩=>?_)
    exact wpAny_pure (wpAny_pure ⟨rfl,again I9 q9⟩)
 exact codeAny_compStart_list loop (TT.self _ 0 _ _ _ st0 loop)
theorem zDx {i:Nat} {y:Str} {py spos:Pos} (hN:X.N.Nodup) (hy:X.N[i]? = some y) (hloc:X.env.scope.names.lookup y = some .local) (S:zDb X caps scope) (hc:X.calm = true) (hi:PI X target iter wi) (hg:∀ c,PG (zBe X (T ++ caps.map (·.1)) scope c) target (g c)) (ht:∀ c,PIfs (zBe X (T ++ caps.map (·.1)) scope c) ifs (tt c)) (he:∀ c,PE (zBe X (T ++ caps.map (·.1)) scope c) elt (te c))
  (hsw:swapsWith (.ListComp elt [⟨target,iter,ifs,0⟩] scope pos) (some (.Name y py)) spos.line X.env = pure true:=by rfl) (hs:∀ x,foldedSetIterable iter X.env x = pure x:=by intro _; rfl) :
  PS X (.Assign [.Name y py] (.ListComp elt [⟨target,iter,ifs,0⟩] scope pos) spos) (tAsg (zTt T.length caps wi g tt te) (zSf i)):=by
 intro pins s σ H D I h
 rw [exec_Assign_Name_used _ _ _ _ hsw]
 refine wpAny_bind (wpAny_standAt (wpAny_bind ?_))
 show wpAny _ X.A (do let _ ← comprehension (.ListComp elt [⟨target,iter,ifs,0⟩] scope pos) scope X.env _ (newList []) false (eval iter X.env) (some (assign (.Name y py) X.env))) _ _ s
 refine wpAny_bind (wpAny_mono (zR6 (Qv:=fun _ s'=>SP X pins D .next s') S hc hi hg ht he I h (fun D' C s4 H3 J4 q4 m4 hn4 hC hL hS hcell hpin=>?_) hs) (fun _ s' hq=>wpAny_pure (wpAny_pure hq)) fun _ _ e=>e)
 show wpAny (model X.prog X.w) X.A (assign (.Name y py) X.env (.ref D')) (fun _ s''=>∃ m,s''.heap.Ns C m∧∀ h',Heap.SameBut C s''.heap h'→SP X pins D .next { s'' with heap:=h' }) X.xe s4
 refine wpAny_assign_Name (zLh J4 hN hy (.inl hloc) (v:=.ref D') rfl (fun s5 J5 hb=>?_) (.inr hloc))
 obtain ⟨a,sb,ha⟩:=hb
 have hCa:C≠a:=by
  rcases ha with z | z
  ·rw [z]; exact hL
  ·exact fun e=>hcell y a z e.symm
 refine ⟨m4,hn4.sameBut sb hCa,fun h' sb'=>⟨_,H3,?_,q4⟩⟩
 exact J5.turned (t':=s5.toks) (fun b o hb e=>(sb'.2 b hb).trans e) hC hL (.inr hS) hcell hpin
end
end L2

namespace L2
open PySem PySem.Spec PyProof.Rows
theorem zL0:bootBuiltins "enumerate" = some (.type "enumerate"):=by decide +kernel
def Ite (K:PySem.W.Frag) (l:Addr):It :=
 ⟨fun k H=>∃ xs x,SqL K H l xs∧xs[k]? = some x,
   fun k H v H'=>∃ T x,v = .ref T∧H T = none∧H' = upd H T (.tup [.int k,x])∧∀ xs,SqL K H l xs→xs[k]? = some x,
   fun k H=>∃ xs,SqL K H l xs∧xs.length≤k⟩
theorem zPu {P:Program} {w:World} {K:PySem.W.Frag} {elts:List Expr} {kt:Nat} {pt:Pos} {e it l:Addr} (hne:e≠it) :
  Turn P w K (.Tuple elts kt pt) (Ite K l) [e,it] e (fun k h=>(∃ old,IsEnum h e it k old)∧h.IsListIter it l k) where
 mem:=by simp
 obj:=fun k h st b hb=>by
  obtain ⟨⟨old,he⟩,h1⟩:=st
  obtain ⟨o1,g1,_,d1⟩:=h1
  simp only [List.mem_cons,List.not_mem_nil,or_false] at hb
  rcases hb with rfl | rfl
  ·exact ⟨_,he,fun v z=>by cases z⟩
  ·exact ⟨_,g1,fun v z=>by rw [d1] at z; cases z⟩
 keep:=fun k h h' st kp=>by
  obtain ⟨⟨old,he⟩,h1⟩:=st
  exact ⟨⟨old,kp e (by simp) _ he⟩,h1.at fun o z=>kp it (by simp) o z⟩
 item:=by
  intro X hP hw hK hc k pins s σ H E I hf st hg
  subst hP hw hK
  obtain ⟨⟨old,he⟩,h1⟩:=st
  obtain ⟨xs,x,q1,hx⟩:=hg
  obtain ⟨its,r1,p1,_⟩:=I.list q1
  obtain ⟨u1,e1,v1⟩:=r1.get hx
  have fresh:H s.heap.objs.size = none:=I.hok.fresh (Nat.le_refl _)
  refine wpAny_pyNext_enum_item he h1 p1.isList (by simpa using e1) hne fun h' z1 j1 t1 _ kp=>?_
  refine ⟨_,rfl,wpAny_letOwnedTupleGo_enum z1 fun h2' z2 sb=>?_⟩
  have kp2:∀ c o,c ∉ [e,it]→s.heap.get? c = some o→h2'.get? c = some o:=fun c o hc q=>by
   simp only [List.mem_cons,List.not_mem_nil,or_false,not_or] at hc
   exact sb.extBut c o hc.1 (kp c o hc.1 hc.2 q)
  have neT:∀ b o,s.heap.get? b = some o→b≠s.heap.objs.size:=fun b o q=>Nat.ne_of_lt (Heap.lt_size q)
  have neH:∀ b o,H b = some o→b ∉ [e,it]:=fun b o q hb=>by
   rw [(hf b hb).1] at q
   cases q
  have upn:∀ b o,H b = some o→upd H s.heap.objs.size (.tup [.int k,x]) b = some o:=fun b o q=>by
   rw [zAo (zAy q fresh)]
   exact q
  refine ⟨.ref s.heap.objs.size,upd H s.heap.objs.size (.tup [.int k,x]),?_,rfl,⟨_,x,rfl,fresh,rfl,fun zs hz'=>by rw [I.list_inj hz' q1]; exact hx⟩,?_,fun b hb=>?_⟩
  ·refine Inv.step (s:=s) (h':=h2') (g':=s.gens) (d':=s.drawn) (t':=s.toks + 1) (ch:=[e,it]) I (fun b hb=>?_) (fun b o _ _ hc q _=>kp2 b o hc q) (fun b o _ _ hc q _=>⟨o.slots,kp2 b o hc q⟩) (fun b o _ q n=>?_) (fun b o hc q=>⟨o,kp2 b o hc q⟩)
    (fun b zs q=>upn b _ q) (fun b o zs q=>upn b _ q) (fun b ps q=>⟨#[],by rw [upn b _ q]; simp⟩) (fun m hm=>?_) (fun b o q=>?_) I.bare
   ·obtain ⟨_,f1,_,f3,f4,f5⟩:=hf b hb
    exact ⟨f3,f1,f4,f5⟩
   ·rw [zAo (neT b o q)]
    exact n
   ·obtain ⟨o,es,ep,ho,r⟩:=hm
    refine ⟨o,es,ep,kp2 _ o (fun hb=>?_) ho,r⟩
    exact (hf _ hb).2.1 rfl
   ·by_cases hb:b = s.heap.objs.size
    ·subst hb
     rw [zAb] at q
     cases q
     exact ⟨by show 2≤sizeLine; decide,[_,u1],.cons ⟨_,rfl⟩ (.cons v1 .nil),_,sb.extBut _ _ (Nat.ne_of_gt (Heap.lt_size he)) t1,rfl,_,rfl⟩
    ·rw [zAo hb] at q
     refine (I.hok b o q).stay (fun c u hc z=>kp2 c u ?_ z) (fun c z=>upn c _ z) fun c zs z=>upn c _ z
     rcases hc with hc | hc
     ·rw [hc]; exact neH b o q
     ·exact neH c _ hc
  ·exact ⟨⟨_,z2⟩,j1.at fun o z=>sb.extBut _ o (Ne.symm hne) z⟩
  ·obtain ⟨o,q,_⟩:∃ o,s.heap.get? b = some o∧True:=by
    obtain ⟨o1,g1,_⟩:=h1
    simp only [List.mem_cons,List.not_mem_nil,or_false] at hb
    rcases hb with rfl | rfl
    ·exact ⟨_,he,trivial⟩
    ·exact ⟨_,g1,trivial⟩
   rw [zAo (neT b o q)]
   exact (hf b hb).1
 done:=by
  intro X hP hw hK hc k pins s σ H E I hf st hg
  subst hP hw hK
  obtain ⟨⟨old,he⟩,h1⟩:=st
  obtain ⟨xs,q1,hend⟩:=hg
  obtain ⟨its,r1,p1,_⟩:=I.list q1
  have l1':=r1.length
  refine wpAny_pyNext_enum_end (I.ok.hd hc) he h1 p1.isList (Array.getElem?_eq_none (by rw [List.size_toArray]; omega)) fun h' eb=>⟨rfl,?_⟩
  obtain ⟨f0,f1,f2,f3,f4,f5⟩:=hf it (by simp)
  exact I.turned (t':=s.toks) (fun b o hb q=>eb b o hb q) f0 f1 f3 f4 f5
 self:=fun _ _ _ _ _ st h=>by
  obtain ⟨⟨old,he⟩,_⟩:=st
  exact wpAny_pyIter_enum he h
section
variable {X:Cx}
def iEnum (K:PySem.W.Frag) (ta:TA):TI:=fun σ H R=>ta σ H fun vs H1=>∃ (l:Addr) (xs:List V),vs = [.ref l]∧H1 l = some (.lst xs)∧R (Ite K l) H1
theorem zTx {elts:List Expr} {kt:Nat} {pt:Pos} {a:Expr} {ta:TA} {p pos:Pos} (hg:Gl X "enumerate") (hm:X.mg "enumerate" = none) (ha:PA X [a] ta) (hs:starEach [a] X.env = [(false,eval a X.env)]:=by rfl) :
  PI X (.Tuple elts kt pt) (.Call (.Name "enumerate" p) [a] [] pos) (iEnum X.K ta):=by
 intro pins s σ H R I h
 refine Call_ (zH2 I hg hm zL0 (PyProof.Rows.callWith_type1 (thn (ha pos pins s σ H _ I h) fun us s1 ⟨vs,H1,I1,r1,q1⟩=>?_) hs rfl))
 obtain ⟨l,xs,e,hl,q⟩:=q1
 subst e
 obtain ⟨u1,rfl,v1⟩:=Vals.one r1
 cases v1
 obtain ⟨_,its,n,_,_,eo⟩:=I1.lstM hl
 refine call_enumerate_1 eo fun h' he hi _ kp=>?_
 refine wpAny_pyIter_enum he ?_
 refine ⟨_,_,_,_,H1,rfl,I1.kept (t':=s1.toks) kp,zPu (Nat.succ_ne_self _),⟨⟨_,he⟩,hi⟩,fun b hb=>?_,q⟩
 have hge:s1.heap.objs.size≤b:=by
  simp only [List.mem_cons,List.not_mem_nil,or_false] at hb
  rcases hb with rfl | rfl <;> omega
 exact I1.fpOk hge (I1.hok.fresh hge)
end
section
variable {K:PySem.W.Frag} {l D:Addr} {xs:List V} {g:TG} {tt:TT} {te:TE} {σ0:St} {H1:Hp} {Q:VK}
theorem zRa (Pv:Nat→St→List V→Hp→Prop) (h0:Pv 0 σ0 [] (upd H1 D (.lst []))) (hl:∀ i σ zs H,Pv i σ zs H→SqL K H l xs∧H D = some (.lst zs))
  (hs:∀ i x T σ zs H,xs[i]? = some x→H T = none→Pv i σ zs H→g (.ref T) σ (upd H T (.tup [.int i,x])) fun σ2 H2=>tt σ2 H2 fun b H3 =>
   if b = true then te σ2 H3 fun z H4=>H4 D = some (.lst zs)∧zs.length < sizeLine∧Pv (i + 1) σ2 (zs ++ [z]) (upd H4 D (.lst (zs ++ [z]))) else Pv (i + 1) σ2 zs H3)
  (hd:∀ σ zs H,Pv xs.length σ zs H→Q (.ref D) H):zG6 (Ite K l) D g tt te σ0 H1 Q:=by
 refine ⟨fun i m σ zs H=>m = xs.length - i∧i≤xs.length∧Pv i σ zs H,⟨_,rfl,Nat.zero_le _,h0⟩,?_⟩
 rintro i m σ zs H ⟨rfl,hi,p⟩
 obtain ⟨q1,qd⟩:=hl i σ zs H p
 refine ⟨qd,?_⟩
 by_cases hlt:i < xs.length
 ·refine .inr ⟨⟨xs,xs[i],q1,by simp [hlt]⟩,Pv (i + 1),fun σ' zs' H' z=>⟨xs.length - (i + 1),by omega,rfl,hlt,z⟩,fun v H' y=>?_⟩
  obtain ⟨T,x,rfl,hT,rfl,y1⟩:=y
  exact hs i x T σ zs H (y1 xs q1) hT p
 ·have e:i = xs.length:=by omega
  subst e
  exact .inl ⟨⟨xs,q1,Nat.le_refl _⟩,hd σ zs H p⟩
end
end L2

namespace L2
open PySem PySem.Spec PyProof.Rows
section
variable {X:Cx} {e:Expr} {te:TE} {lo hi:Option Expr} {st:Expr} {tl th ts:TO} {pos p2:Pos}
end
theorem zEg:∀ {rs:List Addr} {us:List Value},Vals (rs.map V.ref) us→us = rs.map Value.ref
 | [],_,r=>by cases r; rfl
 | a :: rs,_,r=>by
  cases r with
  | cons r1 r2 =>
   cases r1
   rw [zEg r2]
   rfl
section
variable {X:Cx}
theorem zHb (n:Nat):(List.range n).all (fun _=>true) = true:=List.all_eq_true.mpr fun _ _=>rfl
end
theorem Same.putNew {H H4:Hp} {D:Addr} {o:HO} (s:Same H H4) (h:H D = none):Same H (upd H4 D o):=fun b u q=>by
 rw [zAo (zAy q h)]
 exact s _ _ q
abbrev Pr:=Addr × Int × Int
abbrev refsOf (ps:List Pr):List V:=(ps.map (·.1)).map V.ref
def PrOk (H:Hp) (M:Nat) (ps:List Pr):Prop:=∀ t∈ps,H t.1 = some (.tup [.int t.2.1,.int t.2.2])∧t.2.1.natAbs≤M∧t.2.2.natAbs≤M
end L2
namespace L2
open PySem PySem.Spec PyProof.Rows
theorem zGv:∀ {xs ys:List Int},xs.map V.int = ys.map V.int→xs = ys
 | [],[],_=>rfl
 | [],_ :: _,h=>nomatch h
 | _ :: _,[],h=>nomatch h
 | x :: xs,y :: ys,h=>by
  rw [List.map_cons,List.map_cons] at h
  injection h with h1 h2
  rw [V.int.inj h1,zGv h2]
section
variable {X:Cx}
theorem zP5 {pins:List (Addr × Obj)} {s:Shared} {σ:St} {H:Hp} (I:Inv X pins σ H s) {A:Around} (hu:A.units < cLine) {a b:Addr} {xs ys:List Int} (h1:H a = some (.tup (xs.map V.int))) (h2:H b = some (.tup (ys.map V.int))) :
  SeqAt.EqAt A s (.ref a) (.ref b) (decide (xs = ys)):=by
 by_cases e:a = b
 ·subst e
  rw [h1] at h2
  have z:xs = ys:=zGv (by injection (Option.some.inj h2))
  rw [decide_eq_true z]
  exact SeqAt.EqAt.same _
 ·obtain ⟨us,r1,p1,_⟩:=I.tuple (SqT.of h1)
  obtain ⟨ws,r2,p2,_⟩:=I.tuple (SqT.of h2)
  have q:=SeqAt.RcAt.tuples (A:=A) (s:=s) (l:=a) (b:=b) (items:=us.toArray) (items2:=ws.toArray) (e:=fun j=>decide (xs[j]? = ys[j]?)) p1 p2 hu (zTo r1 r2)
  have l1:=r1.length
  have l2:=r2.length
  rw [List.length_map] at l1 l2
  rw [List.size_toArray,List.size_toArray,← l1,← l2,zP8] at q
  exact SeqAt.EqAt.of_refs e q
end
end L2

namespace PySem.W
open PySem PySem.Calls PyProof.Rows
def zCv {α:Type} (n:Nat) (lt:Nat→Nat→Bool):KasT α→(α→Prop)→Prop
 | .ret a,Q=>Q a
 | .ask i j k,Q=>i < n∧j < n∧zCv n lt (k (lt i j)) Q
theorem zCv.bind {α β:Type} {n:Nat} {lt:Nat→Nat→Bool} {f:α→KasT β} {Q:β→Prop} : ∀ {t:KasT α},zCv n lt t (fun a=>zCv n lt (f a) Q)→zCv n lt (t.bind f) Q
 | .ret _,h=>h
 | .ask _ _ _,h=>⟨h.1,h.2.1,zCv.bind h.2.2⟩
theorem zCv.wp {α:Type} {n:Nat} {lt:Nat→Nat→Bool} {cmp:Nat→Nat→(Bool→Shared→Prop)→Shared→Prop} {P:α→Prop} {Q:α→Shared→Prop} {s:Shared}
  (hc:∀ i j (C:Bool→Shared→Prop),i < n→j < n→C (lt i j) s→cmp i j C s) (hq:∀ a,P a→Q a s):∀ {t:KasT α},zCv n lt t P→t.kasWp cmp Q s
 | .ret a,h=>hq a h
 | .ask i j _,h=>hc i j _ h.1 h.2.1 (zCv.wp hc hq h.2.2)
section
variable {O:KeyOrd} (key:Nat→O.α)
def KP (p:Array Nat) (i:Nat):O.α:=key (p.getD i 0)
def SoT (p:Array Nat) (k:Nat):Prop:=∀ i j,i≤j→j < k→O.kle (KP key p i) (KP key p j)
def NiT (p:Array Nat) (k:Nat):Prop:=∀ i j,i≤j→j < k→O.kle (KP key p j) (KP key p i)
structure PIn (n:Nat) (p:Array Nat):Prop where
 perm:p.Perm (List.toArray (List.range n))
variable {key} {n:Nat}
theorem PIn.size {p:Array Nat} (h:PIn n p):p.size = n:=by rw [h.perm.size_eq]; simp
theorem PIn.lt {p:Array Nat} (h:PIn n p) {i:Nat} (hi:i < n):p.getD i 0 < n:=by
 have hs:=h.size
 have e:p.getD i 0 = p[i]'(by omega):=by simp [Array.getD,show i < p.size by omega]
 rw [e]
 have hm:p[i]'(by omega)∈p.toList:=by simp
 have:=(Array.perm_iff_toList_perm.mp h.perm).mem_iff.mp hm
 simpa using this
theorem PIn.rev {p:Array Nat} (h:PIn n p) (i j:Nat):PIn n (kas_rev p i j):=⟨(mirror_perm _ _ _ _).trans h.perm⟩
theorem PIn.bub {p:Array Nat} (h:PIn n p) (i j:Nat):PIn n (bubble p i j):=⟨(bubble_perm _ _ _).trans h.perm⟩
theorem zF2 {p q:Array Nat} {i j:Nat} (h:p[i]? = q[j]?):KP key p i = KP key q j:=by
 unfold KP; rw [Array.getD_eq_getD_getElem?,Array.getD_eq_getD_getElem?,h]
theorem zTn {p:Array Nat} {src d:Nat} (hs:src < p.size) (hd:d≤src) (k:Nat) :
  KP key (bubble p src d) k = if k = src - d then KP key p src else if src - d < k∧k≤src then KP key p (k - 1) else KP key p k:=by
 have e:=getElem?_bubble hs d hd k
 split
 ·rename_i h; rw [if_pos h] at e; exact zF2 e
 ·rename_i h
  rw [if_neg h] at e
  split
  ·rename_i h2; rw [if_pos h2] at e; exact zF2 e
  ·rename_i h2; rw [if_neg h2] at e; exact zF2 e
theorem zQp {p:Array Nat} {i j:Nat} (hj:j≤p.size) (k:Nat):KP key (kas_rev p i j) k = if i≤k∧k < j then KP key p (i + j - 1 - k) else KP key p k:=by
 have e:=getElem?_mirror_all (i:=i) hj k
 split
 ·rename_i h; rw [if_pos h] at e; exact zF2 e
 ·rename_i h; rw [if_neg h] at e; exact zF2 e
theorem zEv {p:Array Nat} {i j:Nat} (hj:j≤p.size) (he:∀ k,i≤k→k < j→KP key p k = KP key p (j - 1)) (k:Nat):KP key (kas_rev p i j) k = KP key p k:=by
 rw [zQp hj]
 split
 ·rw [he _ (by omega) (by omega),he k (by omega) (by omega)]
 ·rfl
abbrev ltK (key:Nat→O.α) (i j:Nat):Bool:=O.blt (key i) (key j)

theorem zU3 {p:Array Nat} : SoT key p 1:=by
 intro i j hij hj
 have e:i = j:=by omega
 subst e
 exact KeyOrd.kle_refl _
theorem zNd {p:Array Nat} (hp:PIn n p) {Q:Nat→Prop} : ∀ (f a:Nat),1≤a→a + f≤n→SoT key p a →
  (∀ m,a≤m→m≤a + f→SoT key p m→(m = a + f∨O.klt (KP key p m) (KP key p (m - 1)))→Q m)→zCv n (ltK key) (kas_asc p f a) Q
 | 0,a,_,_,hs,q=>q a (Nat.le_refl _) (by omega) hs (.inl rfl)
 | f + 1,a,h1,hn,hs,q=>by
  refine ⟨hp.lt (by omega),hp.lt (by omega),?_⟩
  dsimp only
  by_cases hl:ltK key (p.getD a 0) (p.getD (a - 1) 0) = true
  ·rw [if_pos hl]
   exact q a (Nat.le_refl _) (by omega) hs (.inr hl)
  ·rw [if_neg hl]
   refine zNd hp f (a + 1) (by omega) (by omega) (fun i j hij hj=>?_) fun m m1 m2 hm ho=>q m (by omega) (by omega) hm (ho.imp (by omega) id)
   by_cases hja:j < a
   ·exact hs i j hij hja
   ·have hj':j = a:=by omega
    subst hj'
    by_cases hi:i = j
    ·subst hi; exact KeyOrd.kle_refl _
    ·exact KeyOrd.kle_trans (hs i (j - 1) (by omega) (by omega)) (KeyOrd.kle_of_not_klt hl)

theorem zLq {p:Array Nat} (hp:PIn n p) {m:Nat} {Q:Nat × Array Nat→Prop} (h1:1≤m) (hm:m≤n) (hs:NiT key p m)
  (q:∀ k p',PIn n p'→1≤k→k≤n→SoT key p' k→Q (k,p')):zCv n (ltK key) (kas_tail3 m n p) Q:=by
 have hz:m≤p.size:=by rw [hp.size]; exact hm
 refine zCv.bind (zNd (hp.rev 0 m) (n - m) m h1 (by omega) (fun i j hij hj=>?_) fun k k1 k2 hk _=>q k _ (hp.rev 0 m) (by omega) (by omega) hk)
 rw [zQp hz,zQp hz,if_pos (by omega),if_pos (by omega)]
 exact hs _ _ (by omega) (by omega)

theorem zHu {Q:Array Nat × Nat × Nat→Prop} : ∀ (f:Nat) (p:Array Nat) (a e:Nat),PIn n p→1≤a→a + f = n→NiT key p a→e + 1≤a→(∀ i,a - (e + 1)≤i→i < a→KP key p i = KP key p (a - 1)) →
  (∀ p' m e',PIn n p'→1≤m→m≤n→NiT key p' m→e' + 1≤m→(∀ i,m - (e' + 1)≤i→i < m→KP key p' i = KP key p' (m - 1))→Q (p',m,e'))→zCv n (ltK key) (kas_desc f p a e) Q
 | 0,p,a,e,hp,h1,hf,hs,he,heq,q=>q p a e hp h1 (by omega) hs he heq
 | f + 1,p,a,e,hp,h1,hf,hs,he,heq,q=>by
  have hz:a≤p.size:=by rw [hp.size]; omega
  refine ⟨hp.lt (by omega),hp.lt (by omega),?_⟩
  dsimp only
  by_cases hl:ltK key (p.getD a 0) (p.getD (a - 1) 0) = true
  ·rw [if_pos hl]
   have step:∀ p',(∀ k,KP key p' k = KP key p k)→NiT key p' (a + 1):=by
    intro p' hk i j hij hj
    rw [hk,hk]
    by_cases hja:j < a
    ·exact hs i j hij hja
    ·have hj':j = a:=by omega
     subst hj'
     by_cases hi:i = j
     ·subst hi; exact KeyOrd.kle_refl _
     ·exact KeyOrd.kle_trans (KeyOrd.kle_of_klt hl) (hs i (j - 1) (by omega) (by omega))
   split
   ·exact zHu f _ (a + 1) 0 (hp.rev _ _) (by omega) (by omega) (step _ (zEv hz heq)) (by omega) (fun i i1 i2=>by congr 1; omega) q
   ·exact zHu f p (a + 1) 0 hp (by omega) (by omega) (step _ fun _=>rfl) (by omega) (fun i i1 i2=>by congr 1; omega) q
  ·rw [if_neg hl]
   refine ⟨hp.lt (by omega),hp.lt (by omega),?_⟩
   dsimp only
   by_cases hg:ltK key (p.getD (a - 1) 0) (p.getD a 0) = true
   ·rw [if_pos hg]
    exact q p a e hp h1 (by omega) hs he heq
   ·rw [if_neg hg]
    have ee:KP key p a = KP key p (a - 1):=KeyOrd.kle_antisymm (KeyOrd.kle_of_not_klt hg) (KeyOrd.kle_of_not_klt hl)
    refine zHu f p (a + 1) (e + 1) hp (by omega) (by omega) (fun i j hij hj=>?_) (by omega) (fun i i1 i2=>?_) q
    ·by_cases hja:j < a
     ·exact hs i j hij hja
     ·have hj':j = a:=by omega
      subst hj'
      by_cases hi:i = j
      ·subst hi; exact KeyOrd.kle_refl _
      ·rw [ee]; exact hs i (j - 1) (by omega) (by omega)
    ·rw [show a + 1 - 1 = a by omega]
     by_cases hi:i = a
     ·rw [hi]
     ·rw [ee]; exact heq i (by omega) (by omega)

theorem zHd {p:Array Nat} (hp:PIn n p) {m:Nat} {Q:Nat × Array Nat→Prop} (hm:m + 1≤n) (hs:NiT key p (m + 1))
  (q:∀ k p',PIn n p'→1≤k→k≤n→SoT key p' k→Q (k,p')):zCv n (ltK key) (kas_descPart m n p) Q:=by
 refine zCv.bind (zHu (n - (m + 1)) p (m + 1) 0 hp (by omega) (by omega) hs (by omega) (fun i i1 i2=>by congr 1; omega) fun p' k e hp' k1 k2 hs' he heq=>?_)
 have hz:k≤p'.size:=by rw [hp'.size]; exact k2
 dsimp only
 split
 ·refine zLq (hp'.rev _ _) k1 k2 (fun i j hij hj=>?_) q
  rw [zEv hz heq,zEv hz heq]
  exact hs' i j hij hj
 ·exact zLq hp' k1 k2 hs' q

theorem zP0 {p:Array Nat} (hp:PIn n p) {Q:Nat × Array Nat→Prop} (hn:1≤n)
  (q:∀ k p',PIn n p'→1≤k→k≤n→SoT key p' k→Q (k,p')):zCv n (ltK key) (kas_count n p) Q:=by
 refine zCv.bind (zNd hp (n - 1) 1 (Nat.le_refl _) (by omega) zU3 fun m m1 m2 hm ho=>?_)
 have hz:m≤p.size:=by rw [hp.size]; omega
 by_cases hmn:m = n
 ·rw [if_pos (by simpa using hmn)]
  exact q m p hp m1 (by omega) hm
 ·rw [if_neg (by simpa using hmn)]
  have hlt:O.klt (KP key p m) (KP key p (m - 1)):=ho.resolve_left (by omega)
  split
  ·refine ⟨hp.lt (by omega),hp.lt (by omega),?_⟩
   dsimp only
   by_cases hr:ltK key (p.getD 0 0) (p.getD (m - 1) 0) = true
   ·rw [if_pos hr]
    exact q m p hp m1 (by omega) hm
   ·rw [if_neg hr]
    have hall:∀ k,0≤k→k < m→KP key p k = KP key p (m - 1):=by
     intro k _ hk
     have a1:=hm 0 k (by omega) hk
     have a2:=hm k (m - 1) (by omega) (by omega)
     exact KeyOrd.kle_antisymm a2 (KeyOrd.kle_trans (KeyOrd.kle_of_not_klt hr) a1)
    refine zHd (hp.rev _ _) (by omega) (fun i j hij hj=>?_) q
    rw [zEv hz hall,zEv hz hall]
    by_cases hjm:j < m
    ·rw [hall i (by omega) (by omega),hall j (by omega) hjm]; exact KeyOrd.kle_refl _
    ·have hj':j = m:=by omega
     subst hj'
     by_cases hi:i = j
     ·subst hi; exact KeyOrd.kle_refl _
     ·rw [hall i (by omega) (by omega)]; exact KeyOrd.kle_of_klt hlt
  ·have hm1:m = 1:=by omega
   subst hm1
   refine zHd hp (by omega) (fun i j hij hj=>?_) q
   by_cases hi:i = j
   ·subst hi; exact KeyOrd.kle_refl _
   ·have hi0:i = 0:=by omega
    have hj1:j = 1:=by omega
    subst hi0; subst hj1
    exact KeyOrd.kle_of_klt hlt

theorem zI1 {p:Array Nat} (hp:PIn n p) {k:Nat} (hk:k < n) (hs:SoT key p k) {Q:Nat→Prop}
  (q:∀ l,l≤k→(∀ i,i < l→O.kle (KP key p i) (KP key p k))→(∀ i,l≤i→i < k→O.klt (KP key p k) (KP key p i))→Q l):∀ (f l r:Nat),l≤r→r≤k→r - l≤f →
   (∀ i,i < l→O.kle (KP key p i) (KP key p k))→(∀ i,r≤i→i < k→O.klt (KP key p k) (KP key p i))→zCv n (ltK key) (kas_place p k f l r) Q
 | 0,l,r,h1,h2,h3,lo,hi=>q l (by omega) lo (by rw [show l = r by omega]; exact hi)
 | f + 1,l,r,h1,h2,h3,lo,hi=>by
  show zCv n (ltK key) (if l ≥ r then _ else _) Q
  by_cases hlr:l ≥ r
  ·rw [if_pos hlr]
   exact q l (by omega) lo (by rw [show l = r by omega]; exact hi)
  ·rw [if_neg hlr]
   refine ⟨hp.lt hk,hp.lt (by omega),?_⟩
   dsimp only
   by_cases hl:ltK key (p.getD k 0) (p.getD ((l + r) / 2) 0) = true
   ·rw [if_pos hl]
    exact zI1 hp hk hs q f l ((l + r) / 2) (by omega) (by omega) (by omega) lo fun i i1 i2=>KeyOrd.klt_of_klt_of_kle hl (hs _ _ i1 i2)
   ·rw [if_neg hl]
    exact zI1 hp hk hs q f ((l + r) / 2 + 1) r (by omega) h2 (by omega) (fun i i1=>KeyOrd.kle_trans (hs i ((l + r) / 2) (by omega) (by omega)) (KeyOrd.kle_of_not_klt hl)) hi

theorem zQc {Q:Array Nat→Prop} (q:∀ p',PIn n p'→SoT key p' n→Q p'):∀ (f:Nat) (p:Array Nat) (k:Nat),PIn n p→k + f = n→SoT key p k→zCv n (ltK key) (kas_bin f p k) Q
 | 0,p,k,hp,h,hs=>q p hp (by rw [← h]; exact hs)
 | f + 1,p,k,hp,h,hs=>by
  have hks:k < p.size:=by rw [hp.size]; omega
  refine zCv.bind (zI1 hp (by omega) hs (fun l hl lo hi=>?_) k 0 k (by omega) (by omega) (by omega) (fun i hi=>absurd hi (by omega)) (fun i h1 h2=>absurd h2 (by omega)))
  refine zQc q f _ (k + 1) (hp.bub _ _) (by omega) fun i j hij hj=>?_
  rw [zTn hks (by omega),zTn hks (by omega),show k - (k - l) = l by omega]
  repeat' split
  all_goals first
   | (exfalso; omega)
   | exact KeyOrd.kle_refl _
   | exact lo _ (by omega)
   | exact KeyOrd.kle_of_klt (hi _ (by omega) (by omega))
   | exact hs _ _ (by omega) (by omega)

theorem zSs {Q:Array Nat→Prop} (hn:2≤n) (q:∀ p',PIn n p'→SoT key p' n→Q p'):zCv n (ltK key) (kas_sort n) Q:=by
 refine zCv.bind (zP0 ⟨Array.Perm.refl _⟩ (by omega) fun k p hp k1 k2 hs=>?_)
 dsimp only
 split
 ·rw [show max k 1 = k by omega]
  exact zQc q (n - k) p k hp (by omega) hs
 ·exact q p hp (by rw [show n = k by omega]; exact hs)
end
end PySem.W

namespace PySem.W
open PySem PySem.Calls PyProof.Rows
section
variable {prog:Program} {w:World} {A:Around} {E:Value→Shared→Prop} {s:Shared}
def zBx (h:Heap) (a:Addr) (vs:List Value):Heap:=((h.update a (Obj.mapSeq fun _=>#[])).push (seqObj "tuple" vs.toArray 0)).push (seqObj "list" #[] 0)
theorem zIo {h:Heap} {a b:Addr} {vs:List Value} (hb:b≠a) {o:Obj} (e:h.get? b = some o):(zBx h a vs).get? b = some o:=by
 unfold zBx
 refine Heap.get?_push_of_some _ (Heap.get?_push_of_some _ ?_)
 rw [Heap.get?_update_ne _ _ _ _ hb]
 exact e
theorem zPf {a:Addr} {vs:List Value} {n:Nat} {κ:SortKind} {G:List Value→Prop} {P:PySem.Fin→Shared→Prop} (ho:s.heap.get? a = some (seqObj "list" vs.toArray n)) (h64:vs.length < 64)
  (hk:2≤vs.length→∀ Q:SortKind→Shared→Prop,Q κ { s with heap:=zBx s.heap a vs }→wpAny (model prog w) A (keyKind' vs.toArray) Q E { s with heap:=zBx s.heap a vs })
  (ask:2≤vs.length→(kas_sort vs.length).kasWp (kas_ask prog w A κ vs) (fun p s'=>s' = { s with heap:=zBx s.heap a vs }∧G (p.toList.map fun i=>vs.getD i Value.none)) { s with heap:=zBx s.heap a vs })
  (few:vs.length < 2→G vs)
  (h:∀ out:List Value,out.length = vs.length→G out→P (.done (.ret .none)) { s with heap:=sortedHeap s.heap a vs out.toArray }) :
  wpAny (model prog w) A (Builtin.«list.sort» ⟨[.ref a],[]⟩) P E s:=by
 have ha:a < s.heap.objs.size:=Heap.lt_size ho
 obtain ⟨e1,ho1⟩:∃ e1,(s.heap.update a (Obj.mapSeq fun _=>(#[]:Array Value))).get? a = some (seqObj "list" #[] e1):=⟨_,get?_update_seq ho fun _=>#[]⟩
 have ho3:(zBx s.heap a vs).get? a = some (seqObj "list" #[] e1):=Heap.get?_push_of_some _ (Heap.get?_push_of_some _ ho1)
 rw [list_sort_plain]
 refine wpAny_bind (listItems_at ho rfl ?_)
 refine wpAny_bind (listUpdate_at ho rfl ?_ (by rw [List.size_toArray,sizeLine_eq]; omega) (Nat.zero_le _))
 refine wpAny_bind (seqEpoch_at ho1 rfl ?_)
 refine wpAny_bind (wpAny_newTuple ?_ (by show vs.length≤_; rw [sizeLine_eq]; omega))
 refine wpAny_bind (wpAny_newList ?_ (Nat.zero_le _))
 refine wpAny_holding ?_
 show wpAny (model prog w) A _ P E { s with heap:=zBx s.heap a vs }
 dsimp only
 by_cases h2:vs.toArray.size < 2
 ·rw [if_pos h2,if_pos h2]
  rw [List.size_toArray] at h2
  refine wpAny_bind (wpAny_pure ?_)
  rw [StateT.run_pure]
  refine wpAny_bind (wpAny_pure ?_)
  dsimp only
  refine wpAny_bind (seqEpoch_at ho3 rfl ?_)
  have hout:(vs.toArray.zip vs.toArray).map (·.2) = vs.toArray:=by
   apply Array.toList_inj.mp
   rw [Array.toList_map,Array.toList_zip]
   exact List.map_snd_zip (Nat.le_refl _)
  refine wpAny_bind (listUpdate_at ho3 rfl ?_ (Nat.zero_le _) (by
   refine Nat.le_trans (Nat.le_of_eq ((congrArg Array.size hout).trans List.size_toArray)) ?_
   rw [sizeLine_eq]; omega))
  simp only [bne_self_eq_false,Bool.false_eq_true,if_false]
  refine wpAny_pure ?_
  have hq:=h vs rfl (few h2)
  rw [← hout] at hq
  exact hq
 ·rw [if_neg h2,if_neg h2]
  rw [List.size_toArray] at h2
  have h2':2≤vs.length:=by omega
  refine wpAny_bind (hk h2' _ ?_)
  refine wpAny_bind (wpAny_mono (kat_run (E:=E) (Q:=fun st' s'=>s' = { s with heap:=zBx s.heap a vs }∧∃ p:Array Nat,p.size = vs.length∧arrOf st' = p.map (kas_item (vs.toArray.zip vs.toArray))∧failedOf st' = none∧G (p.toList.map fun i=>vs.getD i Value.none))
   rfl h2' h64 (fun p' st' s' a1 a2 a3 a4=>⟨a4.1,p',a1,a2,a3,a4.2⟩) (ask h2')) ?_ fun _ _ e=>e)
  rintro ⟨⟨⟩,st'⟩ s' ⟨rfl,p,hp,har,hf,hg⟩
  dsimp only
  have hout:=kat_snds rfl har
  have hsz:(p.toList.map fun i=>vs.getD i Value.none).length = vs.length:=by rw [List.length_map,Array.length_toList,hp]
  rw [hout]
  refine wpAny_bind (seqEpoch_at ho3 rfl ?_)
  refine wpAny_bind (listUpdate_at ho3 rfl ?_ (Nat.zero_le _) (by rw [List.size_toArray,hsz,sizeLine_eq]; omega))
  rw [hf]
  simp only [bne_self_eq_false,Bool.false_eq_true,if_false]
  exact wpAny_pure (h _ hsz hg)
def zBo (h:Heap) (vs:List Value):Heap:=((h.push (seqObj "list" #[] 0)).update h.objs.size (Obj.mapSeq (· ++ vs.toArray))).push (seqObj "list" vs.toArray 0)
theorem zFy {h:Heap} {b:Addr} {vs:List Value} {o:Obj} (e:h.get? b = some o):(zBo h vs).get? b = some o:=by
 have hlt:b < h.objs.size:=Heap.lt_size e
 unfold zBo
 refine Heap.get?_push_of_some _ ?_
 rw [Heap.get?_update_ne _ _ _ _ (Nat.ne_of_lt hlt),Heap.get?_push_ne _ _ _ (Nat.ne_of_lt hlt)]
 exact e
theorem zUw {l:Addr} {vs:List Value} {κ:SortKind} {G:List Value→Prop} {Q:Value→Shared→Prop} (hl:s.heap.IsList l vs.toArray) (h64:vs.length < 64)
  (hk:2≤vs.length→∀ s':Shared,(∀ b o,s.heap.get? b = some o→s'.heap.get? b = some o)→∀ (E':Value→Shared→Prop) (Q:SortKind→Shared→Prop),Q κ s'→wpAny (model prog w) A.in1.in1 (keyKind' vs.toArray) Q E' s')
  (ask:2≤vs.length→∀ s':Shared,(∀ b o,s.heap.get? b = some o→s'.heap.get? b = some o)→(kas_sort vs.length).kasWp (kas_ask prog w A.in1.in1 κ vs) (fun p s''=>s'' = s'∧G (p.toList.map fun i=>vs.getD i Value.none)) s')
  (few:vs.length < 2→G vs)
  (h:∀ out:List Value,out.length = vs.length→G out→Q (.ref (s.heap.objs.size + 1)) { s with heap:=sortedAll s.heap vs out.toArray }) :
  wpAny (model prog w) A (call (.builtin "sorted") [.ref l]) Q E s:=by
 refine Calls.call_function_entry kind_sorted plain_sorted entry_sorted (args_sorted1 _) ?_
 unfold Builtin.«sorted»
 refine wpAny_bind (m:=checkCount "sorted" 1 1 _) (wpAny_pure ?_)
 refine wpAny_bind (collect_list hl ?_ (by rw [sizeLine_eq]; omega))
 refine wpAny_bind (wpAny_newList ?_ (by rw [sizeLine_eq]; omega))
 have hsz:((s.heap.push (seqObj "list" #[] 0)).update s.heap.objs.size (Obj.mapSeq (· ++ vs.toArray))).objs.size = s.heap.objs.size + 1:=by
  rw [Heap.size_update,size_push']
 have hoL:(zBo s.heap vs).get? (s.heap.objs.size + 1) = some (seqObj "list" vs.toArray 0):=by
  unfold zBo
  rw [← hsz]; exact Heap.get?_push_size _ rfl
 have keep:∀ b o,s.heap.get? b = some o→(zBx (zBo s.heap vs) (s.heap.objs.size + 1) vs).get? b = some o:=fun b o e=>by
  have hlt:b < s.heap.objs.size:=Heap.lt_size e
  exact zIo (Nat.ne_of_lt (Nat.lt_succ_of_lt hlt)) (zFy e)
 show wpAny _ _ _ _ _ { s with heap:=zBo s.heap vs }
 rw [hsz]
 refine wpAny_bind (wpAny_holding (wpAny_call_entry slot_list_sort ⟨_,hoL,rfl⟩ entry_list_sort ?body (args_list_sort _)))
 case body =>
  exact zPf (s:={ s with heap:=zBo s.heap vs }) hoL h64 (fun h2 Q' hq=>hk h2 _ keep _ Q' hq) (fun h2=>ask h2 _ keep) few fun out hz hg=>⟨_,rfl,wpAny_pure ⟨_,rfl,h out hz hg⟩⟩
end
end PySem.W

namespace L2
open PySem PySem.Spec PyProof.Rows PySem.W
theorem zIv:∀ a:List Int,HT.lexLt a a = false
 | []=>rfl
 | x :: xs=>by rw [HT.lexLt_cons,if_pos rfl]; exact zIv xs
theorem zKx:∀ a b c:List Int,HT.lexLt a b = true→HT.lexLt b c = true→HT.lexLt a c = true
 | [],[],_,h,_=>nomatch h
 | [],_ :: _,[],_,h=>nomatch h
 | [],_ :: _,_ :: _,_,_=>rfl
 | _ :: _,[],_,h,_=>nomatch h
 | _ :: _,_ :: _,[],_,h=>nomatch h
 | x :: xs,y :: ys,z :: zs,h1,h2=>by
  rw [HT.lexLt_cons] at h1 h2 ⊢
  by_cases e1:x = y
  ·rw [if_pos e1] at h1
   by_cases e2:y = z
   ·rw [if_pos e2] at h2
    rw [if_pos (e1.trans e2)]
    exact zKx xs ys zs h1 h2
   ·rw [if_neg e2] at h2
    rw [if_neg (by omega),e1]
    exact h2
  ·rw [if_neg e1] at h1
   have g1:=of_decide_eq_true h1
   by_cases e2:y = z
   ·rw [if_neg (by omega),← e2]
    exact h1
   ·rw [if_neg e2] at h2
    have g2:=of_decide_eq_true h2
    rw [if_neg (by omega)]
    exact decide_eq_true (by omega)
theorem zKk:∀ a b c:List Int,HT.lexLt a c = true→HT.lexLt a b = true∨HT.lexLt b c = true
 | [],_,[],h=>nomatch h
 | [],[],_ :: _,_=>.inr rfl
 | [],_ :: _,_ :: _,_=>.inl rfl
 | _ :: _,_,[],h=>nomatch h
 | _ :: _,[],_ :: _,_=>.inr rfl
 | x :: xs,y :: ys,z :: zs,h=>by
  rw [HT.lexLt_cons] at h ⊢
  rw [HT.lexLt_cons]
  by_cases e1:x = y
  ·by_cases e2:y = z
   ·rw [if_pos (e1.trans e2)] at h
    rw [if_pos e1,if_pos e2]
    exact zKk xs ys zs h
   ·rw [if_neg (by omega)] at h
    right
    rw [if_neg e2,← e1]
    exact h
  ·by_cases e2:y = z
   ·rw [if_neg (by omega)] at h
    left
    rw [if_neg e1,e2]
    exact h
   ·rw [if_neg e1,if_neg e2]
    by_cases g:x < y
    ·exact .inl (decide_eq_true g)
    ·right
     by_cases e3:x = z
     ·exact decide_eq_true (by omega)
     ·rw [if_neg e3] at h
      have:=of_decide_eq_true h
      exact decide_eq_true (by omega)
theorem zH4:∀ a b:List Int,HT.lexLt a b = false→HT.lexLt b a = false→a = b
 | [],[],_,_=>rfl
 | [],_ :: _,h,_=>nomatch h
 | _ :: _,[],_,h=>nomatch h
 | x :: xs,y :: ys,h1,h2=>by
  rw [HT.lexLt_cons] at h1 h2
  by_cases e:x = y
  ·rw [if_pos e] at h1
   rw [if_pos e.symm] at h2
   rw [e,zH4 xs ys h1 h2]
  ·rw [if_neg e] at h1
   rw [if_neg (fun z=>e z.symm)] at h2
   have g1:=of_decide_eq_false h1
   have g2:=of_decide_eq_false h2
   omega
def ordL:KeyOrd where
 α:=List Int
 blt:=HT.lexLt
 irrefl:=zIv
 trans:=zKx
 negTrans:=zKk
 total:=zH4
def TupN (h:Heap) (v:Value) (ns:List Int):Prop:=∃ (a:Addr) (o:Obj) (n:Nat) (its:List Value),v = .ref a∧h.get? a = some o∧o.cls = .type "tuple" ∧ o.data = .seq its.toArray n∧Vals (ns.map V.int) its
theorem TupN.keep {h h':Heap} {v:Value} {t:List Int} (e:TupN h v t) (k:∀ b o,h.get? b = some o→h'.get? b = some o):TupN h' v t:=by
 obtain ⟨a,o,n,its,e1,e2,e3⟩:=e
 exact ⟨a,o,n,its,e1,k _ _ e2,e3⟩
section
variable {prog:Program} {w:World} {A:Around} {E:Value→Shared→Prop} {s:Shared}
theorem zOf {C:Bool→Shared→Prop} : ∀ {ns ms:List Int} {us ws:List Value} (_:Vals (ns.map V.int) us) (_:Vals (ms.map V.int) ws) (_:ns.length = ms.length) (i:Nat) (_:C (HT.lexLt ns ms) s),KatLex prog w A true false C (us.zip ws) i s
 | [],[],_,_,r1,r2,_,i,h=>by
  cases r1
  cases r2
  exact kat_nil h
 | [],_ :: _,_,_,_,_,hl,_,_=>nomatch hl
 | _ :: _,[],_,_,_,_,hl,_,_=>nomatch hl
 | x :: xs,y :: ys,_,_,r1,r2,hl,i,h=>by
  cases r1 with
  | cons p1 q1 =>
   cases r2 with
   | cons p2 q2 =>
    obtain ⟨t,rfl⟩:=p1
    obtain ⟨t',rfl⟩:=p2
    rw [List.zip_cons_cons]
    refine kat_cons (wpAny_eqBool_int ?_)
    rw [HT.lexLt_cons] at h
    by_cases e:x = y
    ·rw [if_pos e] at h
     rw [show (x == y) = true from by simpa using e]
     exact kat_yes (zOf q1 q2 (by simpa using hl) (i + 1) h)
    ·rw [if_neg e] at h
     rw [show (x == y) = false from by simpa using e]
     refine kat_no ?_
     cases i with
     | zero=>exact oneLt_int h
     | succ i=>exact kat_one _ _ (wpAny_lt_int h)
theorem zT8 {u v:Value} {a b:List Int} {C:Bool→Shared→Prop} (hu:TupN s.heap u a) (hv:TupN s.heap v b) (hl:a.length = b.length) (h:C (HT.lexLt a b) s):wpAny (model prog w) A (keyLt' (tuples' true) u v) C E s:=by
 obtain ⟨p,o,n,us,rfl,ho,_,hd,r1⟩:=hu
 obtain ⟨q,o',n',ws,rfl,ho',_,hd',r2⟩:=hv
 refine kat_lt ho hd ho' hd' ?_
 have l1:=r1.length
 have l2:=r2.length
 rw [List.length_map] at l1 l2
 rw [show decide (us.toArray.size < ws.toArray.size) = false from decide_eq_false (by rw [List.size_toArray,List.size_toArray]; omega)]
 exact zOf r1 r2 hl 0 h
theorem zQ0 {h:Heap} : ∀ (vs:List Value),(∀ v∈vs,∃ x xs,TupN h v (x :: xs))→∃ fs:List Value,KatTups h vs fs∧fs.length = vs.length∧∀ v∈fs,∃ i t,v = Value.int i t
 | [],_=>⟨[],.nil,rfl,fun _ hv=>absurd hv (List.not_mem_nil)⟩
 | v :: vs,hv=>by
  obtain ⟨fs,a1,a2,a3⟩:=zQ0 vs fun u hu=>hv u (.tail _ hu)
  obtain ⟨x,xs,p,o,n,its,rfl,ho,hc,hd,r⟩:=hv v (.head _)
  cases r with
  | cons p1 q1 =>
   obtain ⟨t,rfl⟩:=p1
   refine ⟨.int x t :: fs,KatTups.cons ho hc hd rfl a1,by rw [List.length_cons,List.length_cons,a2],fun u hu=>?_⟩
   rcases List.mem_cons.mp hu with rfl | hu
   ·exact ⟨_,_,rfl⟩
   ·exact a3 u hu
theorem zNi {l:Addr} {vs:List Value} {ks:List (List Int)} {m:Nat} {Q:Value→Shared→Prop} (hl:s.heap.IsList l vs.toArray) (h64:vs.length < 64) (hT:∀ i,i < vs.length→TupN s.heap (vs.getD i Value.none) (ks.getD i [])∧(ks.getD i []).length = m + 1)
  (h:∀ is:List Nat,is.Perm (List.range vs.length)→(is.map fun i=>ks.getD i []).Pairwise (fun a b=>HT.lexLt b a = false) →
   Q (.ref (s.heap.objs.size + 1)) { s with heap:=sortedAll s.heap vs (is.map fun i=>vs.getD i Value.none).toArray }) :
  wpAny (model prog w) A (call (.builtin "sorted") [.ref l]) Q E s:=by
 refine zUw (κ:=tuples' true) (G:=fun out=>∃ is:List Nat,is.Perm (List.range vs.length)∧(is.map fun i=>ks.getD i []).Pairwise (fun a b=>HT.lexLt b a = false)∧out = is.map fun i=>vs.getD i Value.none)
  hl h64 (fun h2 s' kp E' Q' hq=>?_) (fun h2 s' kp=>?_) (fun h2=>?_) fun out hz ⟨is,p1,p2,e⟩=>by rw [e]; exact h is p1 p2
 ·obtain ⟨fs,a1,a2,a3⟩:=zQ0 (h:=s'.heap) vs fun v hv=>by
   obtain ⟨i,hi,rfl⟩:=List.getElem_of_mem hv
   obtain ⟨e,en⟩:=hT i hi
   have e':=e.keep kp
   rw [show vs.getD i Value.none = vs[i] by simp [hi]] at e'
   cases ek:ks.getD i [] with
   | nil=>rw [ek] at en; cases en
   | cons x xs=>rw [ek] at e'; exact ⟨x,xs,e'⟩
  refine kat_kind (T:=Value.type "int") a1 (by omega) (fun v hv=>?_) rfl (by first | exact hq | (rw [show (Value.type "int" != Value.type "tuple") = true from by first | decide | simp]; exact hq))
  obtain ⟨i,t,rfl⟩:=a3 v hv
  exact .now
 ·refine zCv.wp (n:=vs.length) (lt:=ltK (O:=ordL) fun i=>ks.getD i []) (fun i j C hi hj hc=>?_) (fun p hp=>⟨rfl,hp⟩) (zSs (O:=ordL) (key:=fun i=>ks.getD i []) h2 fun p hp hs=>?_)
  ·exact zT8 ((hT i hi).1.keep kp) ((hT j hj).1.keep kp) (by rw [(hT i hi).2,(hT j hj).2]) hc
  ·refine ⟨p.toList,by simpa using Array.perm_iff_toList_perm.mp hp.perm,?_,rfl⟩
   rw [List.pairwise_map,List.pairwise_iff_getElem]
   intro i j hi hj hij
   have hi':i < p.size:=by simpa using hi
   have hj':j < p.size:=by simpa using hj
   have q:=hs i j (Nat.le_of_lt hij) (by rw [← hp.size]; exact hj')
   unfold KP at q
   rw [show p.getD i 0 = p.toList[i] by simp [Array.getD,hi'],show p.getD j 0 = p.toList[j] by simp [Array.getD,hj']] at q
   exact q
 ·refine ⟨List.range vs.length,.refl _,?_,?_⟩
  ·rw [List.pairwise_map,List.pairwise_iff_getElem]
   intro i j hi hj hij
   rw [List.length_range] at hj
   omega
  ·refine List.ext_getElem (by simp) fun i h1 h3=>?_
   rw [List.getElem_map,List.getElem_range]
   simp [h1]
end
theorem zJi {α β:Type} (f:α→β) (d:α) (e:β) (xs:List α):((List.range xs.length).map fun i=>f (xs.getD i d)) = xs.map f:=by
 refine List.ext_getElem (by simp) fun i h1 h2=>?_
 have hi:i < xs.length:=by simpa using h1
 rw [List.getElem_map,List.getElem_range,List.getElem_map]
 simp [hi]
theorem zEz:∀ rs:List Addr,Vals (rs.map V.ref) (rs.map Value.ref)
 | []=>.nil
 | _ :: rs=>.cons rfl (zEz rs)
section
variable {X:Cx}
theorem zIn:bootBuiltins "sorted" = some (.builtin "sorted"):=by decide +kernel
theorem zL6:zHk X (.builtin "sorted") (fun xs H Q=>∃ (l:Addr) (ts:List (Addr × List Int)) (m:Nat),xs = [.ref l]∧SqL X.K H l ((ts.map (·.1)).map V.ref)∧ts.length < 64∧(∀ t∈ts,H t.1 = some (.tup (t.2.map V.int))∧t.2.length = m + 1) ∧
  ∀ (p:Addr) (us:List (Addr × List Int)),H p = none→us.Perm ts→us.Pairwise (fun a b=>HT.lexLt b.2 a.2 = false)→Q (.ref p) (upd H p (.lst ((us.map (·.1)).map V.ref)))):=by
 intro pins s σ H xs us Q I r h
 obtain ⟨l,ts,m,rfl,hq,h64,hts,q⟩:=h
 obtain ⟨u,rfl,ru⟩:=Vals.one r
 cases ru
 obtain ⟨its,rv,pl,hz⟩:=I.list hq
 have ei:=zEg rv
 subst ei
 have hn:((ts.map (·.1)).map Value.ref).length = ts.length:=by rw [List.length_map,List.length_map]
 refine zNi (ks:=ts.map (·.2)) (m:=m) pl.isList (by rw [hn]; exact h64) (fun i hi=>?_) fun is hp hs=>?_
 ·rw [hn] at hi
  have ht:=hts ts[i] (List.getElem_mem hi)
  have e1:((ts.map (·.1)).map Value.ref).getD i Value.none = Value.ref ts[i].1:=by simp [hi]
  have e2:(ts.map (·.2)).getD i [] = ts[i].2:=by simp [hi]
  rw [e1,e2]
  refine ⟨?_,ht.2⟩
  obtain ⟨its,r1,⟨o,e,c,n,d⟩,_⟩:=I.tuple (SqT.of ht.1)
  exact ⟨_,o,n,its,rfl,e,c,d,r1⟩
 ·rw [hn] at hp
  have lt:∀ i∈is,i < ts.length:=fun i hi=>List.mem_range.mp (hp.mem_iff.mp hi)
  let d:Addr × List Int:=(0,[])
  have pm:(is.map fun i=>ts.getD i d).Perm ts:=by
   have z:=hp.map fun i=>ts.getD i d
   have e:=zJi (fun t:Addr × List Int=>t) d d ts
   rw [show (List.range ts.length).map (fun i=>ts.getD i d) = ts from by simpa using e] at z
   exact z
  have e1:(is.map fun i=>((ts.map (·.1)).map Value.ref).getD i Value.none) = ((is.map fun i=>ts.getD i d).map (·.1)).map Value.ref:=by
   simp only [List.map_map]
   refine List.map_congr_left fun i hi=>?_
   have:=lt i hi
   simp [this]
  have e2:(is.map fun i=>(ts.map (·.2)).getD i []) = (is.map fun i=>ts.getD i d).map (·.2):=by
   rw [List.map_map]
   refine List.map_congr_left fun i hi=>?_
   have:=lt i hi
   simp [this]
  rw [e2,List.pairwise_map] at hs
  rw [e1]
  obtain ⟨e,at'⟩:=sortedAll_at s.heap ((ts.map (·.1)).map Value.ref) (((is.map fun i=>ts.getD i d).map (·.1)).map Value.ref).toArray
  have fr:H (s.heap.objs.size + 1) = none:=I.hok.fresh (Nat.le_succ _)
  refine ⟨.ref (s.heap.objs.size + 1),_,I.laid (t':=s.toks) (a:=s.heap.objs.size + 1) (o:=.lst (((is.map fun i=>ts.getD i d).map (·.1)).map V.ref)) (fun b ob q=>sortedAll_old q) (Nat.le_succ _) ?_,rfl,q _ _ fr pm hs⟩
  refine ⟨?_,_,e,zEz _,at'⟩
  rw [List.length_map,List.length_map,pm.length_eq]
  exact Nat.le_trans (Nat.le_of_lt h64) (by rw [sizeLine_eq]; decide)
end
end L2
namespace L2
open PySem PySem.Spec PyProof.Rows
section
variable {X:Cx}
def rNeV (K:PySem.W.Frag):R2:=fun x y H Q=>∃ (a b:Addr) (ts us:List (Addr × List Int)),x = .ref a∧y = .ref b∧SqL K H a ((ts.map (·.1)).map V.ref)∧SqL K H b ((us.map (·.1)).map V.ref) ∧
 (∀ t∈ts,H t.1 = some (.tup (t.2.map V.int)))∧(∀ t∈us,H t.1 = some (.tup (t.2.map V.int)))∧ts.map (·.2) = us.map (·.2)∧Q (.bl false) H
theorem zN0 (hu:X.A.units + 64 < cLine):OpR X (compareOp .NotEq) (rNeV X.K):=by
 intro pins s σ H x y v u Q I rx ry h
 obtain ⟨a,b,ts,us,rfl,rfl,h1,h2,k1,k2,e,q⟩:=h
 cases rx
 cases ry
 obtain ⟨is,r1,p1,_⟩:=I.list h1
 obtain ⟨js,r2,p2,_⟩:=I.list h2
 have e1:=zEg r1
 have e2:=zEg r2
 subst e1 e2
 have hl:ts.length = us.length:=by
  have z:=congrArg List.length e
  rwa [List.length_map,List.length_map] at z
 refine SeqAt.RcNeAt.lists (e:=fun _=>true) p1.isList p2.isList (by simp [hl]) (show X.A.units < cLine by omega) (fun j g1 g2=>?_) X.prog X.w _ _ ?_
 ·have j1:j < ts.length:=by simpa using g1
  have j2:j < us.length:=by omega
  have et:ts[j].2 = us[j].2:=by
   have z:=congrArg (fun l=>l[j]?) e
   simp only [List.getElem?_map,List.getElem?_eq_getElem j1,List.getElem?_eq_getElem j2,Option.map_some] at z
   exact Option.some.inj z
  have z:=zP5 I (A:=X.A.in1) (show X.A.units + 1 < cLine by omega) (k1 ts[j] (List.getElem_mem j1)) (k2 us[j] (List.getElem_mem j2))
  rw [decide_eq_true et] at z
  simpa using z
 ·rw [zHb]
  exact ⟨.bl false,H,I,rfl,q⟩
end
end L2

namespace Sea
open PySem L2
theorem zTu {a b c p q r:Int} (hp:0 < p) (hq:0 < q) (hr:0 < r) (h1:a * q≤b * p) (h2:b * r≤c * q):a * r≤c * p:=by
 have e1:=Int.mul_le_mul_of_nonneg_right h1 (Int.le_of_lt hr)
 have e2:=Int.mul_le_mul_of_nonneg_right h2 (Int.le_of_lt hp)
 have e3:a * q * r = a * r * q:=Int.mul_right_comm a q r
 have e4:b * p * r = b * r * p:=Int.mul_right_comm b p r
 have e5:c * q * p = c * p * q:=Int.mul_right_comm c q p
 exact Int.le_of_mul_le_mul_right (by omega) hq
theorem zTh {a b c p q r:Int} (hp:0 < p) (hq:0 < q) (hr:0 < r) (h1:a * q < b * p) (h2:b * r≤c * q):a * r < c * p:=by
 have e1:=Int.mul_lt_mul_of_pos_right h1 hr
 have e2:=Int.mul_le_mul_of_nonneg_right h2 (Int.le_of_lt hp)
 have e3:a * q * r = a * r * q:=Int.mul_right_comm a q r
 have e4:b * p * r = b * r * p:=Int.mul_right_comm b p r
 have e5:c * q * p = c * p * q:=Int.mul_right_comm c q p
 exact Int.lt_of_mul_lt_mul_right (by omega) (Int.le_of_lt hq)
theorem fr_lt2 {a b c p q r:Int} (hp:0 < p) (hq:0 < q) (hr:0 < r) (h1:a * q≤b * p) (h2:b * r < c * q):a * r < c * p:=by
 have e1:=Int.mul_le_mul_of_nonneg_right h1 (Int.le_of_lt hr)
 have e2:=Int.mul_lt_mul_of_pos_right h2 hp
 have e3:a * q * r = a * r * q:=Int.mul_right_comm a q r
 have e4:b * p * r = b * r * p:=Int.mul_right_comm b p r
 have e5:c * q * p = c * p * q:=Int.mul_right_comm c q p
 exact Int.lt_of_mul_lt_mul_right (by omega) (Int.le_of_lt hq)
def leS (s t:SpT):Prop:=ahB t s = false
theorem zKb (s t:SpT):leS s t↔s.2.1 * t.2.2.2 < t.2.1 * s.2.2.2∨(s.2.1 * t.2.2.2 = t.2.1 * s.2.2.2∧s.2.2.1 * t.2.2.2≤t.2.2.1 * s.2.2.2):=by
 unfold leS ahB
 by_cases h:t.2.1 * s.2.2.2 - s.2.1 * t.2.2.2 = 0
 ·rw [if_pos h,decide_eq_false_iff_not]
  omega
 ·rw [if_neg h,decide_eq_false_iff_not]
  omega
theorem zMj {s t:SpT} (h:ahB s t = true):leS s t:=by
 rw [zKb]
 unfold ahB at h
 by_cases e:s.2.1 * t.2.2.2 - t.2.1 * s.2.2.2 = 0
 ·rw [if_pos e] at h
  have:=of_decide_eq_true h
  omega
 ·rw [if_neg e] at h
  have:=of_decide_eq_true h
  omega
theorem zTg {s t u:SpT} (hs:0 < s.2.2.2) (ht:0 < t.2.2.2) (hu:0 < u.2.2.2) (h1:leS s t) (h2:leS t u):leS s u:=by
 rw [zKb] at h1 h2 ⊢
 rcases h1 with h1 | ⟨h1,g1⟩
 ·left
  rcases h2 with h2 | ⟨h2,g2⟩
  ·exact zTh hs ht hu h1 (Int.le_of_lt h2)
  ·exact zTh hs ht hu h1 (Int.le_of_eq h2)
 ·rcases h2 with h2 | ⟨h2,g2⟩
  ·left
   exact fr_lt2 hs ht hu (Int.le_of_eq h1) h2
  ·right
   refine ⟨Int.le_antisymm (zTu hs ht hu (Int.le_of_eq h1) (Int.le_of_eq h2)) ?_,zTu hs ht hu g1 g2⟩
   have z:=zTu (a:=u.2.1) (b:=t.2.1) (c:=s.2.1) hu ht hs (Int.le_of_eq h2.symm) (Int.le_of_eq h1.symm)
   exact z
def WPos (xs:List SpT):Prop:=∀ t∈xs,0 < t.2.2.2
theorem zIl {p:SpT→Bool} : ∀ {xs:List SpT} {x:SpT},x∈xs.takeWhile p→p x = true∧x∈xs
 | [],_,h=>nomatch h
 | y :: ys,x,h=>by
  by_cases hy:p y = true
  ·rw [List.takeWhile_cons_of_pos hy] at h
   rcases List.mem_cons.mp h with rfl | h
   ·exact ⟨hy,List.mem_cons_self ..⟩
   ·exact ⟨(zIl h).1,List.mem_cons_of_mem _ (zIl h).2⟩
  ·rw [List.takeWhile_cons_of_neg hy] at h
   exact nomatch h
theorem zJy {p:SpT→Bool} : ∀ {xs:List SpT},xs.dropWhile p = []∨∃ y ys,xs.dropWhile p = y :: ys∧p y = false
 | []=>.inl rfl
 | y :: ys=>by
  by_cases hy:p y = true
  ·rw [List.dropWhile_cons_of_pos hy]
   exact zJy
  ·rw [List.dropWhile_cons_of_neg hy]
   exact .inr ⟨y,ys,rfl,by simpa using hy⟩
theorem zI6:∀ (ys xs:List SpT),WPos xs→WPos ys→xs.Pairwise leS→ys.Pairwise leS→(zBh xs ys).Pairwise leS
 | [],xs,_,_,hx,_=>by rw [zBh]; exact hx
 | o :: r,xs,wx,wy,hx,hy=>by
  rw [zBh]
  have wo:0 < o.2.2.2:=wy o (List.mem_cons_self ..)
  have wr:WPos r:=fun t ht=>wy t (List.mem_cons_of_mem _ ht)
  obtain ⟨hor,hr⟩:=List.pairwise_cons.mp hy
  have sd:(xs.dropWhile fun x=>!ahB o x).Sublist xs:=List.dropWhile_sublist _
  have st:(xs.takeWhile fun x=>!ahB o x).Sublist xs:=List.takeWhile_sublist _
  have wd:WPos (xs.dropWhile fun x=>!ahB o x):=fun t ht=>wx t (sd.subset ht)
  have ih:=zI6 r (xs.dropWhile fun x=>!ahB o x) wd wr (hx.sublist sd) hr
  have od:∀ y∈xs.dropWhile (fun x=>!ahB o x),leS o y:=fun y hyd=>by
   rcases zJy (p:=fun x=>!ahB o x) (xs:=xs) with e | ⟨z,zs,e,hz⟩
   ·rw [e] at hyd
    exact nomatch hyd
   ·have hz':ahB o z = true:=by simpa using hz
    have pw:=hx.sublist sd
    rw [e] at hyd pw
    rcases List.mem_cons.mp hyd with rfl | h
    ·exact zMj hz'
    ·have wz:0 < z.2.2.2:=wd z (by rw [e]; exact List.mem_cons_self ..)
     have wy':0 < y.2.2.2:=wd y (by rw [e]; exact List.mem_cons_of_mem _ h)
     exact zTg wo wz wy' (zMj hz') ((List.pairwise_cons.mp pw).1 y h)
  have om:∀ y∈zBh (xs.dropWhile fun x=>!ahB o x) r,leS o y:=fun y hym=>by
   rcases List.mem_append.mp ((zD4 r _).mem_iff.mp hym) with h | h
   ·exact od y h
   ·exact hor y h
  rw [List.pairwise_append]
  refine ⟨hx.sublist st,List.pairwise_cons.mpr ⟨om,ih⟩,fun a ha b hb=>?_⟩
  obtain ⟨pa,ma⟩:=zIl ha
  have la:leS a o:=by
   show ahB o a = false
   simpa using pa
  rcases List.mem_cons.mp hb with rfl | hb
  ·exact la
  ·have wb:0 < b.2.2.2:=by
    rcases List.mem_append.mp ((zD4 r _).mem_iff.mp hb) with h | h
    ·exact wd b h
    ·exact wr b h
   exact zTg (wx a ma) wo wb la (om b hb)
theorem zG1:∀ (n:Nat) (xs:List SpT),xs.length≤2 ^ n→WPos xs→(zFp n xs).Pairwise leS
 | 0,xs,h,_=>by
  rw [zFp]
  match xs,h with
  | [],_=>exact .nil
  | [x],_=>exact List.pairwise_singleton ..
  | _ :: _ :: _,h=>rw [List.length_cons,List.length_cons] at h; omega
 | n + 1,xs,h,w=>by
  rw [zFp]
  split
  ·rename_i h2
   match xs,h2 with
   | [],_=>exact .nil
   | [x],_=>exact List.pairwise_singleton ..
   | _ :: _ :: _,h=>rw [List.length_cons,List.length_cons] at h; omega
  ·have e:2 ^ (n + 1) = 2 ^ n * 2:=Nat.pow_succ 2 n
   have w1:WPos (xs.take (xs.length / 2)):=fun t ht=>w t (List.mem_of_mem_take ht)
   have w2:WPos (xs.drop (xs.length / 2)):=fun t ht=>w t (List.mem_of_mem_drop ht)
   refine zI6 _ _ (fun t ht=>w1 t ((zCk n _).mem_iff.mp ht)) (fun t ht=>w2 t ((zCk n _).mem_iff.mp ht)) (zG1 n _ (by rw [List.length_take]; omega) w1) (zG1 n _ (by rw [List.length_drop]; omega) w2)
theorem zKa:∀ {xs ys:List (List Int)},xs.Perm ys→xs.Pairwise (fun a b=>HT.lexLt b a = false)→ys.Pairwise (fun a b=>HT.lexLt b a = false)→xs = ys
 | [],ys,h,_,_=>(List.nil_perm.mp h).symm
 | x :: xs,[],h,_,_=>absurd (List.perm_nil.mp h) (by simp)
 | x :: xs,y :: ys,h,hx,hy=>by
  obtain ⟨hx1,hx2⟩:=List.pairwise_cons.mp hx
  obtain ⟨hy1,hy2⟩:=List.pairwise_cons.mp hy
  have e:x = y:=by
   have m1:x∈y :: ys:=h.mem_iff.mp (List.mem_cons_self ..)
   have m2:y∈x :: xs:=h.mem_iff.mpr (List.mem_cons_self ..)
   rcases List.mem_cons.mp m1 with e | m1
   ·exact e
   ·rcases List.mem_cons.mp m2 with e | m2
    ·exact e.symm
    ·exact zH4 _ _ (hy1 x m1) (hx1 y m2)
  subst e
  rw [zKa (List.perm_cons x |>.mp h) hx2 hy2]
end Sea

namespace L2
open PySem PySem.Spec PyProof.Rows
section
variable {κ:Type} [DecidableEq κ]
def valV (kvs:List (κ × V)) (k:κ):Option V:=(kvs.find? fun kv=>decide (kv.1 = k)).map (·.2)
def putK (kvs:List (κ × V)) (k:κ) (v:V):List (κ × V) :=
 if (kvs.any fun kv=>decide (kv.1 = k)) = true then kvs.map (fun kv=>if kv.1 = k then (kv.1,v) else kv) else kvs ++ [(k,v)]
theorem zCg {p:κ × V} {r:List (κ × V)} {k:κ} (e:p.1 = k):valV (p :: r) k = some p.2:=by simp [valV,List.find?_cons,e]
theorem zCe {p:κ × V} {r:List (κ × V)} {k:κ} (e:¬ p.1 = k):valV (p :: r) k = valV r k:=by simp [valV,List.find?_cons,e]
theorem zHm (k:κ):∀ kvs:List (κ × V),(kvs.any fun kv=>decide (kv.1 = k)) = (valV kvs k).isSome
 | []=>rfl
 | p :: r=>by
  rw [List.any_cons]
  by_cases e:p.1 = k
  ·simp only [zCg e,decide_eq_true e,Bool.true_or,Option.isSome_some]
  ·rw [zCe e,decide_eq_false e,Bool.false_or]; exact zHm k r
theorem zNr (k j:κ) (y:V):∀ kvs:List (κ × V),valV (kvs.map fun kv=>if kv.1 = k then (kv.1,y) else kv) j = (valV kvs j).map fun x=>if j = k then y else x
 | []=>rfl
 | p :: r=>by
  have ih:=zNr k j y r
  rw [List.map_cons]
  by_cases h:p.1 = k
  ·rw [if_pos h]
   by_cases e:p.1 = j
   ·rw [zCg (p:=(p.1,y)) e,zCg e,Option.map_some,if_pos (e.symm.trans h)]
   ·rw [zCe (p:=(p.1,y)) e,zCe e,ih]
  ·rw [if_neg h]
   by_cases e:p.1 = j
   ·rw [zCg (p:=p) e,zCg e,Option.map_some,if_neg (fun z=>h (e.trans z))]
   ·rw [zCe (p:=p) e,zCe e,ih]
theorem zK8 (k j:κ) (y:V):∀ kvs:List (κ × V),valV kvs k = none→valV (kvs ++ [(k,y)]) j = if j = k then some y else valV kvs j
 | [],_=>by
  by_cases e:k = j
  ·rw [if_pos e.symm]; exact zCg (p:=(k,y)) e
  ·rw [if_neg (fun z=>e z.symm)]; exact zCe (p:=(k,y)) e
 | p :: r,hn=>by
  rw [List.cons_append]
  have hk:¬ p.1 = k:=fun z=>by rw [zCg z] at hn; cases hn
  rw [zCe hk] at hn
  have ih:=zK8 k j y r hn
  by_cases e:p.1 = j
  ·rw [zCg e,zCg e,if_neg (fun z=>hk (e.trans z))]
  ·rw [zCe e,zCe e,ih]
theorem zNz (kvs:List (κ × V)) (k j:κ) (y:V):valV (putK kvs k y) j = if j = k then some y else valV kvs j:=by
 unfold putK
 by_cases a:(kvs.any fun kv=>decide (kv.1 = k)) = true
 ·rw [if_pos a,zNr]
  rw [zHm] at a
  by_cases e:j = k
  ·obtain ⟨x,hx⟩:=Option.isSome_iff_exists.mp a
   rw [if_pos e,e,hx,Option.map_some,if_pos rfl]
  ·rw [if_neg e]
   cases valV kvs j with
   | none=>rfl
   | some x=>rw [Option.map_some,if_neg e]
 ·rw [if_neg a]
  refine zK8 k j y kvs ?_
  rw [zHm] at a
  cases q:valV kvs k with
  | none=>rfl
  | some x=>rw [q] at a; exact (a rfl).elim
theorem zH3 (kvs:List (κ × V)) (k:κ) (v:V):(putK kvs k v).length≤kvs.length + 1:=by
 unfold putK
 split
 ·rw [List.length_map]; omega
 ·rw [List.length_append,List.length_cons,List.length_nil]; omega
theorem RelO.isSome_eq {o:Option V} {u:Option Value} (r:RelO o u):o.isSome = u.isSome:=by
 cases o with
 | none=>cases u with
  | none=>rfl
  | some _=>exact (show False from r).elim
 | some _=>cases u with
  | none=>exact (show False from r).elim
  | some _=>rfl
theorem KV.val {kvs:List (κ × V)} {vs:List (κ × Value)} (r:KV kvs vs) (k:κ):RelO (valV kvs k) (valueAt vs k):=by
 unfold KV at r
 induction r with
 | nil=>exact True.intro
 | @cons p q ps qs h t ih =>
  obtain ⟨h1,h2⟩:=h
  by_cases e:p.1 = k
  ·have e':q.1 = k:=h1.symm.trans e
   have b:valueAt (q :: qs) k = some q.2:=by simp [valueAt,List.find?_cons,e']
   rw [zCg e,b]; exact h2
  ·have e':¬ q.1 = k:=fun z=>e (h1.trans z)
   have b:valueAt (q :: qs) k = valueAt qs k:=by simp [valueAt,List.find?_cons,e']
   rw [zCe e,b]; exact ih
theorem KV.any {kvs:List (κ × V)} {vs:List (κ × Value)} (r:KV kvs vs) (k:κ):(kvs.any fun kv=>decide (kv.1 = k)) = vs.any fun kv=>decide (kv.1 = k):=by
 unfold KV at r
 induction r with
 | nil=>rfl
 | cons h t ih=>rw [List.any_cons,List.any_cons,ih,h.1]
theorem KV.repl {kvs:List (κ × V)} {vs:List (κ × Value)} (r:KV kvs vs) (k:κ) {y:V} {u:Value} (ry:RelV y u) :
  KV (kvs.map fun kv=>if kv.1 = k then (kv.1,y) else kv) (vs.map fun kv=>if kv.1 = k then (kv.1,u) else kv):=by
 unfold KV at r ⊢
 induction r with
 | nil=>exact .nil
 | @cons p q ps qs h t ih =>
  rw [List.map_cons,List.map_cons]
  refine .cons ?_ ih
  obtain ⟨h1,h2⟩:=h
  by_cases e:p.1 = k
  ·rw [if_pos e,if_pos (h1.symm.trans e)]; exact ⟨h1,ry⟩
  ·rw [if_neg e,if_neg (fun z=>e (h1.trans z))]; exact ⟨h1,h2⟩
theorem KV.put {kvs:List (κ × V)} {vs:List (κ × Value)} (r:KV kvs vs) (k:κ) {y:V} {u:Value} (ry:RelV y u):KV (putK kvs k y) (stored vs k u):=by
 unfold putK stored
 rw [r.any k]
 by_cases e:(vs.any fun kv=>decide (kv.1 = k)) = true
 ·rw [if_pos e,if_pos e]; exact r.repl k ry
 ·rw [if_neg e,if_neg e]; exact Paired.snoc r ⟨rfl,ry⟩
theorem KV.length {kvs:List (κ × V)} {vs:List (κ × Value)} (r:KV kvs vs):kvs.length = vs.length:=Paired.length r
end


theorem zUe {P:Program} {w:World} {k:Key} {u:Value} (r:RelV (kV k) u):(zCi P w).is k u = true:=by
 cases k with
 | inl i=>obtain ⟨t,e⟩:=(show ∃ t,u = Value.int i t from r); subst e; exact zMl P w i t
 | inr x=>obtain ⟨t,e⟩:=(show ∃ t,u = Value.str x t from r); subst e; exact zNm P w x t
theorem zK3 {P:Program} {w:World} : ∀ {ks:List Key} {us:List Value},Vals (ks.map kV) us→ItemsAre (zCi P w) ks us
 | [],_,r=>by rw [List.map_nil] at r; cases r; exact .nil
 | k :: ks,_,r=>by
  rw [List.map_cons] at r
  cases r with
  | cons h t=>exact .cons (zUe h) (zK3 t)

abbrev KT (H:Hp):List (List Key × V)→List (List Key × Addr × Value)→Prop:=Paired fun p q=>p.1 = q.1∧H q.2.1 = some (.tup (p.1.map kV))∧RelV p.2 q.2.2
theorem KT.val {H:Hp} {kvs:List (List Key × V)} {xs:List (List Key × Addr × Value)} (r:KT H kvs xs) (k:List Key):RelO (valV kvs k) ((atKey xs k).map (·.2)):=by
 induction r with
 | nil=>exact True.intro
 | @cons p q ps qs h t ih =>
  obtain ⟨h1,_,h2⟩:=h
  by_cases e:p.1 = k
  ·have e':q.1 = k:=h1.symm.trans e
   have b:atKey (q :: qs) k = some q.2:=by simp [atKey,List.find?_cons,e']
   rw [zCg e,b]; exact h2
  ·have e':¬ q.1 = k:=fun z=>e (h1.trans z)
   have b:atKey (q :: qs) k = atKey qs k:=by simp [atKey,List.find?_cons,e']
   rw [zCe e,b]; exact ih
theorem KT.repl {H:Hp} {kvs:List (List Key × V)} {xs:List (List Key × Addr × Value)} (r:KT H kvs xs) (k:List Key) {y:V} {u:Value} (ry:RelV y u) :
  KT H (kvs.map fun kv=>if kv.1 = k then (kv.1,y) else kv) (xs.map (putAt k u)):=by
 induction r with
 | nil=>exact .nil
 | @cons p q ps qs h t ih =>
  rw [List.map_cons,List.map_cons]
  refine .cons ?_ ih
  obtain ⟨h1,h2,h3⟩:=h
  unfold putAt
  by_cases e:p.1 = k
  ·rw [if_pos e,if_pos (h1.symm.trans e)]; exact ⟨h1,h2,ry⟩
  ·rw [if_neg e,if_neg (fun z=>e (h1.trans z))]; exact ⟨h1,h2,h3⟩
theorem KT.put {H:Hp} {kvs:List (List Key × V)} {xs:List (List Key × Addr × Value)} (r:KT H kvs xs) (k:List Key) {b:Addr} {y:V} {u:Value} (hb:H b = some (.tup (k.map kV))) (ry:RelV y u) :
  KT H (putK kvs k y) (storedH xs k b u):=by
 have e:(kvs.any fun kv=>decide (kv.1 = k)) = (atKey xs k).isSome:=by
  rw [zHm,(r.val k).isSome_eq,Option.isSome_map]
 unfold putK storedH
 rw [e]
 by_cases q:(atKey xs k).isSome = true
 ·rw [if_pos q,if_pos q]; exact r.repl k ry
 ·rw [if_neg q,if_neg q]; exact Paired.snoc r ⟨rfl,hb,ry⟩
theorem KT.keeps {H H':Hp} {kvs:List (List Key × V)} {xs:List (List Key × Addr × Value)} (r:KT H kvs xs) (ht:∀ b ys,H b = some (.tup ys)→H' b = some (.tup ys)):KT H' kvs xs :=
 Paired.mapP r fun _ _ z=>⟨z.1,ht _ _ z.2.1,z.2.2⟩

section
variable {P:Program} {w:World} {H:Hp} {h:Heap} {a:Addr}
theorem rd_of {u:HO} (ok:HOk P w H h) (e:Rd H a u):zCc P w H h a u:=e.ok ok
theorem zUs {kvs:List (Key × V)} (ok:HOk P w H h) (e:Rd H a (.dK kvs)):kvs.length≤sizeLine∧(a == sysModules) = false∧∃ vs,KV kvs vs∧h.DictOf (zCi P w) a vs :=
 show zCc P w H h a (.dK kvs) from rd_of ok e
theorem dk_of {kvs:List (Key × V)} (ok:HOk P w H h) (e:H a = some (.dK kvs)):kvs.length≤sizeLine∧(a == sysModules) = false∧∃ vs,KV kvs vs∧h.DictOf (zCi P w) a vs:=zUs ok (.inl e)
theorem zP9 {ks:List Key} (ok:HOk P w H h) (e:H a = some (.tup (ks.map kV))):(tupleKind (zCi P w)).is h ks a:=by
 obtain ⟨_,its,r,o,h1,h2,n,h3⟩:=(show zCc P w H h a (.tup (ks.map kV)) from ok a _ e)
 exact ⟨o,its.toArray,n,h1,h2,h3,by simpa using zK3 r⟩
theorem zUv {kvs:List (List Key × V)} (ok:HOk P w H h) (e:Rd H a (.dT kvs)):kvs.length≤sizeLine∧(a == sysModules) = false ∧
  ∃ xs,KT H kvs xs∧h.DictOfH (tupleKind (zCi P w)) a xs:=by
 obtain ⟨z,y,xs,r,o,es,ep,h1,h2,h3,h4,h5⟩:=(show zCc P w H h a (.dT kvs) from rd_of ok e)
 refine ⟨z,y,xs,r,o,es,ep,h1,h2,h3,h4,fun x hx=>?_,h5⟩
 have all:∀ {l:List (List Key × V)} {m:List (List Key × Addr × Value)},KT H l m→∀ x∈m,(tupleKind (zCi P w)).is h x.1 x.2.1:=by
  intro l m q
  induction q with
  | nil=>intro x hx; exact nomatch hx
  | @cons p q ps qs hq t ih =>
   intro x hx
   rcases List.mem_cons.mp hx with e | hx
   ·subst e
    exact zP9 ok (by rw [← hq.1]; exact hq.2.1)
   ·exact ih x hx
 exact all r x hx
theorem zUj {kvs:List (List Key × V)} (ok:HOk P w H h) (e:H a = some (.dT kvs)):kvs.length≤sizeLine∧(a == sysModules) = false ∧
  ∃ xs,KT H kvs xs∧h.DictOfH (tupleKind (zCi P w)) a xs:=zUv ok (.inl e)
end

def DGet (H:Hp) (a:Addr) (y:V) (r:Option V):Prop :=
 (∃ kvs k,Rd H a (.dK kvs)∧y = kV k∧r = valV kvs k)∨∃ kvs k b,Rd H a (.dT kvs)∧y = .ref b∧H b = some (.tup (k.map kV))∧r = valV kvs k
def DPut (H:Hp) (a:Addr) (y v:V) (H':Hp):Prop :=
 (∃ kvs k,H a = some (.dK kvs)∧y = kV k∧kvs.length < sizeLine∧H' = upd H a (.dK (putK kvs k v))) ∨
 ∃ kvs k b,H a = some (.dT kvs)∧y = .ref b∧H b = some (.tup (k.map kV))∧kvs.length < sizeLine∧H' = upd H a (.dT (putK kvs k v))
theorem DGet.t {H:Hp} {a b:Addr} {kvs:List (List Key × V)} {k:List Key} (e:H a = some (.dT kvs)) (eb:H b = some (.tup (k.map kV))):DGet H a (.ref b) (valV kvs k):=.inr ⟨kvs,k,b,.inl e,rfl,eb,rfl⟩
theorem DPut.t {H:Hp} {a b:Addr} {kvs:List (List Key × V)} {k:List Key} {v:V} (e:H a = some (.dT kvs)) (eb:H b = some (.tup (k.map kV))) (hl:kvs.length < sizeLine) :
  DPut H a (.ref b) v (upd H a (.dT (putK kvs k v))):=.inr ⟨kvs,k,b,e,rfl,eb,hl,rfl⟩


section
variable {X:Cx} {pins:List (Addr × Obj)} {σ:St} {H:Hp} {s:Shared} {a:Addr} {y v:V} {u r:Value} {o:Option V} {A:Around} {E:Value→Shared→Prop}

theorem Inv.big (I:Inv X pins σ H s):sysModules < s.heap.objs.size:=by
 have h:mainGlobals < s.heap.objs.size:=(I.mod.glob.keeps I.bk).lt
 exact Nat.lt_trans (by decide) h

theorem zP3 {Q:Value→Shared→Prop} (hu:A.units + 1 < cLine) (I:Inv X pins σ H s) (g:DGet H a y (some v)) (ry:RelV y u) (h:∀ w' s',Inv X pins σ H s'→RelV v w'→Q w' s') :
  wpAny (model X.prog X.w) A (getItem (.ref a) u) Q E s:=by
 rcases g with ⟨kvs,k,e,ey,l⟩ | ⟨kvs,k,b,e,ey,eb,l⟩
 ·subst ey
  obtain ⟨z,hd,vs,rel,dd⟩:=zUs I.hok e
  obtain ⟨w',hw,rw'⟩:=RelO.some_of (v:=v) (o:=valueAt vs k) (by rw [l]; exact rel.val k)
  exact wpAny_getItem_of (zUe ry) dd.mapOf hw (h w' _ (I.tok _) rw')
 ·subst ey
  cases (show u = Value.ref b from ry)
  obtain ⟨z,hd,xs,rel,dd⟩:=zUv I.hok e
  obtain ⟨w',hw,rw'⟩:=RelO.some_of (v:=v) (o:=(atKey xs k).map (·.2)) (by rw [l]; exact rel.val k)
  obtain ⟨p,hp,hp2⟩:=Option.map_eq_some_iff.mp hw
  refine wpAny_getItem_heap (tupleKind_room_in1 hu) (zP9 I.hok eb) dd hp ?_
  rw [hp2]
  exact h w' _ (I.tok _) rw'
theorem zQ1 {h':Heap} {t':Nat} {ob:HO} (I:Inv X pins σ H s) (mu:Mut (H a)) (hs:Heap.SameBut a s.heap h') (he:∃ q,h'.get? a = some q) (new:zCc X.prog X.w (upd H a ob) h' a ob) :
  Inv X pins σ (upd H a ob) { s with heap:=h',toks:=t' } :=
 I.write (x:=a) (e:=a) mu (.inl rfl) (fun b q hb z=>(hs.2 b hb).trans z) he new
theorem dk_new {P:Program} {w:World} {H':Hp} {h':Heap} {kvs:List (Key × V)} {vs:List (Key × Value)} (z:kvs.length≤sizeLine) (hd:(a == sysModules) = false) (rel:KV kvs vs) (dd:h'.DictOf (zCi P w) a vs) :
  zCc P w H' h' a (.dK kvs):=⟨z,hd,vs,rel,dd⟩
theorem zRt {H':Hp} {Q:Unit→Shared→Prop} (hu:A.units + 1 < cLine) (I:Inv X pins σ H s) (g:DPut H a y v H') (ry:RelV y u) (rv:RelV v r) (h:∀ s',Inv X pins σ H' s'→Q () s') :
  wpAny (model X.prog X.w) A (setItem (.ref a) u r) Q E s:=by
 rcases g with ⟨kvs,k,e,ey,l,eH⟩ | ⟨kvs,k,b,e,ey,eb,l,eH⟩
 ·subst ey eH
  obtain ⟨z,hd,vs,rel,dd⟩:=dk_of I.hok e
  have hz:vs.length≤sizeLine:=by rw [← rel.length]; exact z
  have hl:(putK kvs k v).length≤sizeLine:=by have:=zH3 kvs k v; omega
  refine wpAny_setItem_pairs (hsz:=hz) (zUe ry) dd fun h' dd' hs=>h _ ?_
  have he:∃ q,h'.get? a = some q:=let ⟨q,_,_,hq,_⟩:=dd'; ⟨q,hq⟩
  exact zQ1 I (by rw [e]; exact True.intro) hs he (dk_new hl hd (rel.put k rv) dd')
 ·subst ey eH
  cases (show u = Value.ref b from ry)
  obtain ⟨z,hd,xs,rel,dd⟩:=zUj I.hok e
  have hz:xs.length≤sizeLine:=by rw [← Paired.length rel]; exact z
  have hl:(putK kvs k v).length≤sizeLine:=by have:=zH3 kvs k v; omega
  refine wpAny_setItem_heap (hsz:=hz) (tupleKind_room_in1 hu) (zP9 I.hok eb) dd fun h' dd' hs=>h _ ?_
  obtain ⟨q,es,ep,hq,h2,h3,h4,_,h5⟩:=dd'
  refine zQ1 I (by rw [e]; exact True.intro) hs ⟨q,hq⟩ ⟨hl,hd,_,(rel.put k eb rv).keeps fun c ys ec=>?_,q,es,ep,hq,h2,h3,h4,h5⟩
  rw [zAo (zDt ec e (fun z=>nomatch z))]
  exact ec
end

section
variable {X:Cx} {pins:List (Addr × Obj)} {σ:St} {H:Hp} {s:Shared} {a:Addr} {kvs:List (Key × V)} {k:Key} {u:Value} {A:Around} {E:Value→Shared→Prop}
end


def NoSl (i:Expr):Prop:=∀ ov iv,subscripted i false ov iv = operate [ov,iv] (getItem ov iv)
theorem zU5 {prog:Program} {w:World} {A:Around} {E:Value→Shared→Prop} {s:Shared} {env:Env} {value slice:Expr} {pos:Pos} {T id:String} {Q:Value→Shared→Prop}
  (hl:typeLookup (.type T) "__getitem__" = pure (some (.builtin id))) (hs:NoSl slice)
  (h:wpAny (model prog w) A (eval value env) (fun o s₁=>wpAny (model prog w) A (eval slice env) (fun i s₂=>s₂.TypeIs o T∧wpAny (model prog w) A (getItem o i) Q E s₂) E s₁) E s) :
  wpAny (model prog w) A (eval (.Subscript value slice pos) env) Q E s:=by
 refine Subscript_ (wpAny_mono h (fun o s₁ h₁=>wpAny_mono h₁ (fun i s₂ h₂=>?_) fun _ _ x=>x) fun _ _ x=>x)
 obtain ⟨hT,h₂⟩:=h₂
 unfold subscriptTail
 refine wpAny_bind ?_
 rw [getitemInPython_of_ne hT.not_modules]
 refine wpAny_bind (wpAny_specialOf hT hl ?_)
 have fin:wpAny (model prog w) A (subscripted slice false o i) (fun r s₃=>wpAny (model prog w) A (letTemporaryGo value o r >>= fun _=>pure r) Q E s₃) E s₂:=by
  rw [hs o i]
  exact wpAny_operating (wpAny_mono h₂ (fun r s₃ h₃=>wpAny_bind (wpAny_letTemporaryGo (wpAny_pure h₃))) fun _ _ x=>x)
 first
  | exact wpAny_pure (wpAny_bind fin)
  | exact wpAny_bind (wpAny_pure (wpAny_bind fin))
  | exact wpAny_bind fin

theorem zM5 {X:Cx} {pins:List (Addr × Obj)} {σ:St} {H:Hp} {s:Shared} {a:Addr} {y:V} {o:Option V} (I:Inv X pins σ H s) (g:DGet H a y o):s.TypeIs (.ref a) "dict" := by
 rcases g with ⟨kvs,k,e,_,_⟩ | ⟨kvs,k,b,e,_,_,_⟩
 ·obtain ⟨_,_,vs,_,dd⟩:=zUs I.hok e
  exact dd.typeIs
 ·obtain ⟨_,_,xs,_,dd⟩:=zUv I.hok e
  exact dd.typeIs
def tDGet (td ty:TE):TE:=fun σ H Q=>td σ H fun x H1=>ty σ H1 fun y H2=>∃ a v,x = .ref a∧DGet H2 a y (some v)∧Q v H2
def sDPut (td ty tv:TE):TS:=fun D σ H=>tv σ H fun v H1=>td σ H1 fun x H2=>ty σ H2 fun y H3=>∃ a H4,x = .ref a∧DPut H3 a y v H4∧D.nx σ H4
section
variable {X:Cx} {o i e value:Expr} {pos pos' tpos:Pos} {td ty tv:TE}
theorem zU9 (hu:X.A.units + 1 < cLine) (ho:PE X o td) (hi:PE X i ty) (hs:NoSl i):PE X (.Subscript o i pos) (tDGet td ty):=by
 intro pins s σ H Q I h
 refine zU5 PySem.F.slot_dict_getitem.lookup hs (thn (ho pins s σ H _ I h) fun u s1 ⟨x,H1,I1,rx,q1⟩=>thn (hi pins s1 σ H1 _ I1 q1) fun iv s2 ⟨y,H2,I2,ry,a,v,ex,g,q2⟩=>?_)
 subst ex
 obtain rfl:u = Value.ref a:=rx
 exact ⟨zM5 I2 g,zP3 hu I2 g ry fun w' s3 I3 rw'=>⟨v,H2,I3,rw',q2⟩⟩
theorem zKd (hu:X.A.units + 1 < cLine) (ho:PE X o td) (hi:PE X i ty) (hv:PE X value tv) (hs:swapsWith value (some (.Subscript o i pos')) pos.line X.env = pure false) :
  PS X (.Assign [.Subscript o i pos'] value pos) (sDPut td ty tv):=by
 intro pins s σ H D I h
 refine wpAny_Assign_Subscript (thn (hv pins s σ H _ I h) fun r s1 ⟨v,H1,I1,rv,q1⟩=>thn (ho pins s1 σ H1 _ I1 q1) fun u s2 ⟨x,H2,I2,rx,q2⟩=>thn (hi pins s2 σ H2 _ I2 q2) fun iv s3 ⟨y,H3,I3,ry,a,H4,ex,g,q3⟩=>?_) hs
 subst ex
 obtain rfl:u = Value.ref a:=rx
 exact zRt hu I3 g ry rv fun s4 I4=>⟨σ,H4,I4,q3⟩
end


theorem zSq {P:Program} {w:World} {H:Hp} (h:Heap) (hb:sysModules < h.objs.size):zCc P w H (h.push { cls:=.type "dict", data:=.dict #[] }) h.objs.size (.dT []) :=
 ⟨Nat.zero_le _,beq_eq_false_iff_ne.mpr (Ne.symm (Nat.ne_of_lt hb)),[],.nil,_,#[],0,Heap.get?_push_size _ rfl,⟨rfl,rfl,rfl⟩,rfl,rfl,List.nodup_nil⟩
def tDNewT:TE:=fun _ H Q=>∀ p,H p = none→Q (.ref p) (upd H p (.dT []))
section
variable {X:Cx} {pos:Pos}
theorem zHr:PE X (.Dict [] [] pos) tDNewT:=fun pins s σ H Q I h =>
 wpAny_Dict_empty ⟨.ref s.heap.objs.size,_,I.laid (a:=s.heap.objs.size) (o:=.dT []) (t':=s.toks) (fun _ _ q=>Heap.get?_push_of_some _ q) (Nat.le_refl _) (zSq s.heap I.big),rfl,h _ (I.hok.fresh (Nat.le_refl _))⟩
end

end L2

namespace L2
open PySem PySem.Spec PyProof.Rows
def RawD (h:Heap) (a:Addr) (rows:Array DictEntry) (age:Nat):Prop:=∃ ob,h.get? a = some ob∧ob.ExactDict∧ob.data = .dict rows age
theorem RawD.at {h h':Heap} {a:Addr} {rows:Array DictEntry} {age:Nat} (x:RawD h a rows age) (e:∀ ob,h.get? a = some ob→h'.get? a = some ob):RawD h' a rows age:=let ⟨ob,g,r⟩:=x; ⟨ob,e _ g,r⟩
theorem RawD.typeIs {z:Shared} {a:Addr} {rows:Array DictEntry} {age:Nat} (x:RawD z.heap a rows age):z.TypeIs (.ref a) "dict" := let ⟨ob,g,c,_⟩:=x; ⟨ob,g,c.1⟩
section
variable {prog:Program} {w:World} {A:Around} {E:Value→Shared→Prop} {z:Shared} {it a:Addr} {rows:Array DictEntry} {age k:Nat}
theorem zNw {R:Value→Shared→Prop} (hs:(a == sysModules) = false) (x:RawD z.heap a rows age) (hR:R (.ref z.heap.objs.size) { z with heap:=z.heap.push { cls:=.type "dict_keyiterator", data:=.fields #[.ref a,.int 0 0,.int rows.size 0,.int age 0] } }) :
  wpAny (model prog w) A (pyIter (.ref a)) R E z:=by
 have ty:=x.typeIs
 obtain ⟨ob,g,_,dat⟩:=x
 refine wpAny_pyIter_slot ty F.slot_dict_iter (wpAny_call_entry F.slot_dict_iter ty F.entry_dict_iter ?walk (F.args_dict_iter_1 _))
 case walk =>
  unfold Builtin.«dict.__iter__» Builtin.Dict.dictSlotNone
  refine wpAny_bind (wpAny_bind (wpAny_notOrdered_dict ty (show wpAny _ _ (pure (Value.ref a)) _ _ z from wpAny_pure ?_)))
  show wpAny _ _ (Builtin.Dict.showsAll a >>= _) _ _ z
  unfold Builtin.Dict.showsAll
  rw [if_neg (by rw [hs]; decide)]
  refine wpAny_bind (wpAny_pure (wpAny_bind (wpAny_dictEntries g dat (wpAny_bind (wpAny_dictEpoch g dat ?_)))))
  refine wpAny_bind (wpAny_newObj_type (wpAny_pure ⟨_,rfl, "dict_keyiterator", _,⟨_,Heap.get?_push_size _ rfl,rfl⟩,F.slot_dict_keyiterator_next.lookup,?_⟩))
  simpa [rawInt] using hR
theorem zNt {R:Option Value→Shared→Prop} (ki:z.heap.IsKeyIter it a k rows.size age) (x:RawD z.heap a rows age) (hk:k < rows.size)
  (hR:∀ h',h'.IsKeyIter it a (k + 1) rows.size age→Heap.SameBut it z.heap h'→R (some rows[k].key) { z with heap:=h' }):wpAny (model prog w) A (pyNext (.ref it)) R E z:=by
 have ty:=ki.typeIs
 obtain ⟨oi,gi,ci,di⟩:=id ki
 obtain ⟨ob,g,_,dat⟩:=x
 unfold pyNext
 refine wpAny_bind (wpAny_attempt (wpAny_callSpecial?_slot (name:=Str.ofString "__next__") ty F.slot_dict_keyiterator_next (wpAny_call_entry F.slot_dict_keyiterator_next ty F.entry_dict_keyiterator_next ?walk (F.args_dict_keyiterator_next_1 _))))
 case walk =>
  refine wpAny_bind (wpAny_pure (wpAny_bind (wpAny_bind ?_)))
  first | refine wpAny_bind (wpAny_typeNameOfWhole_keyiter ty (wpAny_pure (wpAny_bind (wpAny_fieldsOf gi di ?_)))) | refine wpAny_bind (wpAny_typeNameOf_keyiter ty (wpAny_pure (wpAny_bind (wpAny_fieldsOf gi di ?_))))
  simp only [show Builtin.Dict_items.ownsTuple "dict_keyiterator" = false by decide,Bool.false_eq_true,if_false]
  show wpAny _ _ (if (Value.ref a == Value.none) = true then _ else _) _ _ z
  rw [if_neg (show ¬ ((Value.ref a == Value.none) = true) from Bool.false_ne_true)]
  refine wpAny_bind (wpAny_pure (wpAny_bind (wpAny_dictEntries g dat ?_)))
  rw [if_neg (by simp)]
  refine wpAny_bind (wpAny_pure (wpAny_bind (wpAny_dictEpoch g dat ?_)))
  rw [if_neg (by simp)]
  refine wpAny_pure ?_
  simp only [show ¬ ((k:Int) < 0) from by omega,if_false,Int.toNat_natCast,Array.getElem?_eq_getElem hk]
  refine wpAny_bind ?_
  first | refine wpAny_bind (wpAny_typeNameOfWhole_keyiter ty (wpAny_pure (wpAny_bind (wpAny_isOneOf_keyiter ty ?_)))) | refine wpAny_bind (wpAny_typeNameOf_keyiter ty (wpAny_pure (wpAny_bind (wpAny_isOneOf_keyiter ty ?_))))
  show wpAny _ _ (setField (.ref it) 1 (rawInt ((k:Int) + 1)) >>= _) _ _ z
  refine wpAny_bind (wpAny_setField gi di (by simp) ?_)
  have ki':(z.heap.update it (Obj.mapFields (·.setIfInBounds 1 (rawInt ((k:Int) + 1))))).IsKeyIter it a (k + 1) rows.size age :=
   ⟨_,Heap.get?_update_self _ gi (Obj.isFreed_of_fields (Obj.data_mapFields di _)),(Obj.cls_mapFields ..).trans ci,by rw [Obj.data_mapFields di]; simp [rawInt]⟩
  refine wpAny_bind (wpAny_holding (wpAny_bind (wpAny_isOneOf_keyiter (s:={ z with heap:=z.heap.update it (Obj.mapFields (·.setIfInBounds 1 (rawInt ((k:Int) + 1)))) }) ki'.typeIs ?_)))
  show wpAny _ _ (pure rows[k].key) _ _ _
  exact wpAny_pure (wpAny_pure ⟨_,rfl,wpAny_pure (hR _ ki' (Heap.SameBut.update ..))⟩)
theorem zQd {R:Option Value→Shared→Prop} (hh:A.handled = none) (ki:z.heap.IsKeyIter it a k rows.size age) (x:RawD z.heap a rows age) (hk:rows.size≤k)
  (hR:∀ h',Heap.ExtBut it z.heap h'→R none { z with heap:=h' }):wpAny (model prog w) A (pyNext (.ref it)) R E z:=by
 have ty:=ki.typeIs
 obtain ⟨oi,gi,ci,di⟩:=id ki
 obtain ⟨ob,g,_,dat⟩:=x
 unfold pyNext
 refine wpAny_bind (wpAny_attempt (wpAny_callSpecial?_slot (name:=Str.ofString "__next__") ty F.slot_dict_keyiterator_next (wpAny_call_entry F.slot_dict_keyiterator_next ty F.entry_dict_keyiterator_next ?walk (F.args_dict_keyiterator_next_1 _))))
 case walk =>
  refine wpAny_bind (wpAny_pure (wpAny_bind (wpAny_bind ?_)))
  first | refine wpAny_bind (wpAny_typeNameOfWhole_keyiter ty (wpAny_pure (wpAny_bind (wpAny_fieldsOf gi di ?_)))) | refine wpAny_bind (wpAny_typeNameOf_keyiter ty (wpAny_pure (wpAny_bind (wpAny_fieldsOf gi di ?_))))
  simp only [show Builtin.Dict_items.ownsTuple "dict_keyiterator" = false by decide,Bool.false_eq_true,if_false]
  show wpAny _ _ (if (Value.ref a == Value.none) = true then _ else _) _ _ z
  rw [if_neg (show ¬ ((Value.ref a == Value.none) = true) from Bool.false_ne_true)]
  refine wpAny_bind (wpAny_pure (wpAny_bind (wpAny_dictEntries g dat ?_)))
  rw [if_neg (by simp)]
  refine wpAny_bind (wpAny_pure (wpAny_bind (wpAny_dictEpoch g dat ?_)))
  rw [if_neg (by simp)]
  refine wpAny_pure ?_
  simp only [show ¬ ((k:Int) < 0) from by omega,if_false,Int.toNat_natCast,Array.getElem?_eq_none hk]
  refine wpAny_bind ?_
  first | refine wpAny_bind (wpAny_typeNameOfWhole_keyiter ty (wpAny_pure ?_)) | refine wpAny_bind (wpAny_typeNameOf_keyiter ty (wpAny_pure ?_))
  show wpAny _ _ (setField (.ref it) 0 .none >>= _) _ _ z
  refine wpAny_bind (wpAny_setField gi di (by simp) (show wpAny _ _ (newExc (.type "StopIteration") [] >>= _) _ _ _ from wpAny_bind ?_))
  simp only [newExc,newTuple]
  refine wpAny_bind (wpAny_newObj_type (wpAny_bind (m:=firstArgMember _ _) (wpAny_of_eq (a:=Value.none) (by first | rfl | (simp only [firstArgMember]; rfl)) (wpAny_newObj_type ?_ (by size_fits)))) (by size_fits))
  simp only [raiseNew]
  refine wpAny_bind (wpAny_handled ?_)
  rw [show A.in1.handled = none from hh]
  refine wpAny_bind (wpAny_pure (wpAny_throw ?_))
  refine wpAny_bind (wpAny_isInstance (T := "StopIteration") (b:=true) ⟨_,Heap.get?_push_size _ rfl,rfl⟩ isSubtype_stop ?_)
  exact wpAny_pure (hR _ (((Heap.SameBut.update ..).extBut.push _).push _))
theorem zQ4 (hh:A.handled = none) (hne:a≠it):Walks prog w A it [it,a] [it] rows.size (fun i v=>∃ h:i < rows.size,v = rows[i].key) (fun i h=>h.IsKeyIter it a i rows.size age∧RawD h a rows age) where
 sub:=fun b hb=>by simp at hb; simp [hb]
 frame:=fun _ _ _ st hk=>⟨st.1.at fun o e=>hk it (by simp) o e,st.2.at fun o e=>hk a (by simp) o e⟩
 item:=fun i s Q E hi st hQ=>zNt st.1 st.2 hi fun h' ki' hs' =>
  hQ _ h' s.toks ⟨hi,rfl⟩ ⟨ki',st.2.at fun o e=>hs'.extBut a o hne e⟩ fun b o hb e=>hs'.extBut b o (fun h=>hb (by simp [h])) e
 done:=fun s Q E st hQ=>zQd hh st.1 st.2 (Nat.le_refl _) fun h' he'=>hQ h' s.toks fun b o hb e=>he' b o (fun h=>hb (by simp [h])) e
 self:=fun _ _ _ _ st hQ=>wpAny_pyIter_keyiter st.1 hQ
theorem zTz (hs:(a == sysModules) = false):PySem.W.KdlSrc prog w "dict" a a rows.size (fun i v=>∃ h:i < rows.size,v = rows[i].key) (fun h=>RawD h a rows age) where
 type:=fun _ x=>x.typeIs
 there:=fun _ x=>let ⟨_,g,_⟩:=x; ⟨Heap.lt_size g,Heap.lt_size g⟩
 keep:=fun _ _ x hk=>x.at fun o e=>hk a (.inl rfl) o e
 notList:=by decide
 notTuple:=by decide
 hint:=fun _ _ _ _ x hq=>PySem.W.kdl_hint_dict x.typeIs hq
 iter:=fun _ s hh x=>⟨_,_,(fun _ _ hq=>zNw hs x hq),zQ4 hh (let ⟨_,g,_⟩:=x; Nat.ne_of_lt (Heap.lt_size g)),⟨⟨_,Heap.get?_push_size _ rfl,rfl,rfl⟩,x.at fun o e=>Heap.get?_push_of_some _ e⟩⟩
end
section
variable {X:Cx}
theorem zEw (hc:X.calm = true):zHk X (.type "list") (fun xs H Q=>∃ (d:Addr) (kvs:List (List Key × V)),xs = [.ref d]∧H d = some (.dT kvs) ∧
  ∀ (p:Addr) (ts:List (Addr × List Key)),H p = none→ts.map (·.2) = kvs.map (·.1)→(∀ t∈ts,H t.1 = some (.tup (t.2.map kV)))→Q (.ref p) (upd H p (.lst ((ts.map (·.1)).map V.ref)))):=by
 intro pins s σ H xs us Q I r h
 obtain ⟨d,kvs,rfl,hd,q⟩:=h
 obtain ⟨u,rfl,ru⟩:=Vals.one r
 cases ru
 obtain ⟨hz,hsm,ys,rel,ob,es,age,g,ex,dat,hes,hjunk⟩:=zUj I.hok hd
 have hsz:es.size = ys.length:=size_of_entries hes
 have hlen:kvs.length = ys.length:=Paired.length rel
 refine PySem.W.kdl_call (zTz (rows:=es) (age:=age) hsm) (show X.A.handled = none from I.ok.hd hc) ⟨ob,g,ex,dat⟩ (by rw [hsz,← hlen]; exact hz) fun h' tk acc c keep at' its=>?_
 have eqs:acc.toList = ((ys.map fun y=>(y.2.1,y.1)).map (·.1)).map Value.ref:=by
  refine List.ext_getElem? fun j=>?_
  by_cases hj:j < ys.length
  ·have ja:j < acc.size:=by rw [its.1,hsz]; exact hj
   obtain ⟨hj',e⟩:=its.2 j acc[j] (by simp [ja])
   have ek:=entry_at hes j
   rw [Array.getElem?_eq_getElem hj',List.getElem?_eq_getElem hj,Option.map_some] at ek
   have ev:es[j].key = Value.ref ys[j].2.1:=by rw [Option.some.inj ek]; rfl
   rw [Array.getElem?_toList,Array.getElem?_eq_getElem ja,e,ev,List.getElem?_map,List.getElem?_map,List.getElem?_map,List.getElem?_eq_getElem hj]
   rfl
  ·rw [List.getElem?_eq_none (by rw [Array.length_toList,its.1,hsz]; omega),List.getElem?_eq_none (by simp; omega)]
 have props:(ys.map fun y=>(y.2.1,y.1)).map (·.2) = kvs.map (·.1)∧∀ t∈ys.map (fun y=>(y.2.1,y.1)),H t.1 = some (.tup (t.2.map kV)):=by
  clear hes hsz hlen q eqs hd hz hjunk
  induction rel with
  | nil=>exact ⟨rfl,fun t ht=>nomatch ht⟩
  | @cons p y ps zs hp t ih =>
   refine ⟨by rw [List.map_cons,List.map_cons,List.map_cons,ih.1,hp.1],fun t' ht'=>?_⟩
   rcases List.mem_cons.mp ht' with e | ht'
   ·subst e
    show H y.2.1 = some (.tup (y.1.map kV))
    rw [← hp.1]
    exact hp.2.1
   ·exact ih.2 t' ht'
 have fr:H s.heap.objs.size = none:=I.hok.fresh (Nat.le_refl _)
 refine ⟨.ref s.heap.objs.size,_,I.laid (t':=tk) (a:=s.heap.objs.size) (o:=.lst (((ys.map fun y=>(y.2.1,y.1)).map (·.1)).map V.ref)) keep (Nat.le_refl _) ?_,rfl,q _ _ fr props.1 props.2⟩
 refine ⟨by rw [List.length_map,List.length_map,List.length_map,← hlen]; exact hz,_,c,zEz _,?_⟩
 rw [← eqs,Array.toArray_toList]
 exact at'
end
end L2

namespace Sea
open PySem L2
abbrev Sd:=Addr × Int × Int × Int
abbrev zAn (ss:List Sd):List V:=(ss.map (·.1)).map V.ref
def SdOk (H:Hp) (ss:List Sd):Prop:=∀ t∈ss,H t.1 = some (.tup [.int t.2.1,.int t.2.2.1,.int t.2.2.2])∧(t.2.1≠0∨t.2.2.1≠0)∧t.2.1.natAbs≤10 ^ 9∧t.2.2.1.natAbs≤10 ^ 9∧t.2.2.2.natAbs≤10 ^ 13
theorem SdOk.same {H H':Hp} {ss:List Sd} (h:SdOk H ss) (s:Same H H'):SdOk H' ss:=fun t ht=>⟨s _ _ (h t ht).1,(h t ht).2⟩
theorem zAj (ss:List Sd):(zAn ss).length = ss.length:=by simp [zAn]
theorem zBf {ss:List Sd} {i:Nat} {v:V} (h:(zAn ss)[i]? = some v):∃ t,ss[i]? = some t∧v = .ref t.1∧i < ss.length:=by
 rw [List.getElem?_map,List.getElem?_map] at h
 cases e:ss[i]? with
 | none=>rw [e] at h; cases h
 | some t=>rw [e] at h; exact ⟨t,rfl,(Option.some.inj h).symm,(List.getElem?_eq_some_iff.mp e).1⟩
theorem zE7 {ss:List Sd} {i:Nat} {k:Int} (e:k = i) (h:i < ss.length):∃ t,t∈ss∧ss[i]? = some t∧atI (zAn ss) k = some (.ref t.1):=by
 refine ⟨ss[i],List.getElem_mem h,List.getElem?_eq_getElem h,?_⟩
 rw [e]
 exact zFx (by rw [List.getElem?_map,List.getElem?_map,List.getElem?_eq_getElem h] <;> rfl)
def wayB (ss:List Sd) (x y:Int):Bool:=ss.all fun t=>decide (t.2.1 * x + t.2.2.1 * y≤0)
def WK (ss:List Sd) (n:Nat) (k:List Int):Prop:=∃ j t,j < n∧ss[j]? = some t∧((k = lowL [-t.2.2.1,t.2.1]∧wayB ss (-t.2.2.1) t.2.1 = true)∨(k = lowL [t.2.2.1,-t.2.1]∧wayB ss t.2.2.1 (-t.2.1) = true))
theorem zUb (ss:List Sd) (k:List Int):¬ WK ss 0 k:=fun ⟨_,_,h,_⟩=>absurd h (Nat.not_lt_zero _)
theorem zUc {ss:List Sd} {n:Nat} {t:Sd} (h:ss[n]? = some t) (k:List Int):WK ss (n + 1) k↔WK ss n k∨(k = lowL [-t.2.2.1,t.2.1]∧wayB ss (-t.2.2.1) t.2.1 = true)∨(k = lowL [t.2.2.1,-t.2.1]∧wayB ss t.2.2.1 (-t.2.1) = true):=by
 constructor
 ·rintro ⟨j,u,hj,hu,r⟩
  by_cases e:j = n
  ·subst e
   rw [h] at hu
   cases hu
   exact .inr r
  ·exact .inl ⟨j,u,by omega,hu,r⟩
 ·rintro (⟨j,u,hj,hu,r⟩ | r)
  ·exact ⟨j,u,by omega,hu,r⟩
  ·exact ⟨n,t,by omega,h,r⟩
theorem zSe {ss:List Sd} {x y g:Int} (hg:0 < g):wayB ss (x * g) (y * g) = wayB ss x y:=by
 unfold wayB
 congr 1
 funext t
 refine decide_eq_decide.mpr ?_
 have e:t.2.1 * (x * g) + t.2.2.1 * (y * g) = (t.2.1 * x + t.2.2.1 * y) * g:=by rw [Int.add_mul,Int.mul_assoc,Int.mul_assoc]
 rw [e]
 constructor
 ·intro h
  by_cases c:t.2.1 * x + t.2.2.1 * y≤0
  ·exact c
  ·have:=Int.mul_pos (show 0 < t.2.1 * x + t.2.2.1 * y by omega) hg
   omega
 ·intro h
  have:=Int.mul_nonneg (show 0≤-(t.2.1 * x + t.2.2.1 * y) by omega) (Int.le_of_lt hg)
  rw [Int.neg_mul] at this
  omega
theorem gcd2 {x y:Int} (n:x≠0∨y≠0) (m0:x.natAbs≤10 ^ 9) (m1:y.natAbs≤10 ^ 9):0 < gcdL [x,y]∧(gcdL [x,y]:Int) < 10 ^ 600:=by
 have gp:0 < gcdL [x,y]:=by
  rcases n with n | n
  ·exact zCy (n:=x) (by simp) n
  ·exact zCy (n:=y) (by simp) n
 have z:(gcdL [x,y]:Int)≤10 ^ 9:=by
  rcases n with n | n
  ·have:=zH9 (ns:=[x,y]) (n:=x) (by simp) n
   omega
  ·have:=zH9 (ns:=[x,y]) (n:=y) (by simp) n
   omega
 exact ⟨gp,Int.lt_of_le_of_lt z (by decide +kernel)⟩
theorem zUz {ss:List Sd} {x y:Int} (gp:0 < gcdL [x,y]):wayB ss (x / (gcdL [x,y]:Int)) (y / (gcdL [x,y]:Int)) = wayB ss x y:=by
 have gI:(0:Int) < (gcdL [x,y]:Int):=by omega
 have e1:=zB2 (ns:=[x,y]) (n:=x) (by simp)
 have e2:=zB2 (ns:=[x,y]) (n:=y) (by simp)
 have z:=zSe (ss:=ss) (x:=x / (gcdL [x,y]:Int)) (y:=y / (gcdL [x,y]:Int)) gI
 rw [e1,e2] at z
 exact z.symm
def keyI (ns:List Int):List Key:=ns.map Sum.inl
theorem zEr (ns:List Int):(keyI ns).map kV = ns.map V.int:=by
 unfold keyI
 rw [List.map_map]
 rfl
theorem zKl {a b:List Int} (h:keyI a = keyI b):a = b:=by
 have z:=congrArg (List.map kV) h
 rw [zEr,zEr] at z
 exact zGv z
structure TabK (kvs:List (List Key × V)) (ks:List (List Int)):Prop where
 keys:kvs.map (·.1) = ks.map keyI
 nodup:ks.Nodup
theorem TabK.nil:TabK [] []:=⟨rfl,List.nodup_nil⟩
theorem TabK.put {kvs:List (List Key × V)} {ks:List (List Int)} (h:TabK kvs ks) (k:List Int) (v:V):∃ ks',TabK (putK kvs (keyI k) v) ks'∧(∀ x,x∈ks'↔x∈ks∨x = k)∧ks'.length≤ks.length + 1:=by
 have hm:∀ kv∈kvs,∃ x∈ks,kv.1 = keyI x:=fun kv hkv=>by
  have z:kv.1∈ks.map keyI:=by rw [← h.keys]; exact List.mem_map_of_mem hkv
  obtain ⟨x,hx,e⟩:=List.mem_map.mp z
  exact ⟨x,hx,e.symm⟩
 unfold putK
 by_cases c:(kvs.any fun kv=>decide (kv.1 = keyI k)) = true
 ·rw [if_pos c]
  obtain ⟨kv,hkv,e⟩:=List.any_eq_true.mp c
  obtain ⟨x,hx,ex⟩:=hm kv hkv
  have exk:x = k:=zKl (ex.symm.trans (of_decide_eq_true e))
  refine ⟨ks,⟨?_,h.nodup⟩,fun y=>⟨.inl,fun z=>z.elim id fun z=>by rw [z,← exk]; exact hx⟩,Nat.le_succ _⟩
  rw [List.map_map,← h.keys]
  refine List.map_congr_left fun a _=>?_
  show (if a.1 = keyI k then (a.1,v) else a).1 = a.1
  split <;> rfl
 ·rw [if_neg c]
  have nk:k ∉ ks:=fun hk=>c (by
   have z:keyI k∈kvs.map (·.1):=by rw [h.keys]; exact List.mem_map_of_mem hk
   obtain ⟨kv,hkv,e⟩:=List.mem_map.mp z
   exact List.any_eq_true.mpr ⟨kv,hkv,decide_eq_true e⟩)
  refine ⟨ks ++ [k],⟨by rw [List.map_append,List.map_append,h.keys]; rfl,?_⟩,fun y=>by rw [List.mem_append,List.mem_singleton],by rw [List.length_append]; exact Nat.le_refl _⟩
  rw [List.nodup_append]
  refine ⟨h.nodup,by simp,fun a ha b hb=>?_⟩
  rw [List.mem_singleton] at hb
  intro e
  exact nk (hb ▸ e ▸ ha)
theorem TabK.len {kvs:List (List Key × V)} {ks:List (List Int)} (h:TabK kvs ks):kvs.length = ks.length:=by
 have z:=congrArg List.length h.keys
 rwa [List.length_map,List.length_map] at z
theorem TabK.refs {H:Hp} {kvs:List (List Key × V)} {ks:List (List Int)} {ts:List (Addr × List Key)} (h:TabK kvs ks) (e:ts.map (·.2) = kvs.map (·.1)) (ht:∀ t∈ts,H t.1 = some (.tup (t.2.map kV))) :
  ∃ us:List (Addr × List Int),us.map (·.1) = ts.map (·.1)∧us.map (·.2) = ks∧∀ u∈us,H u.1 = some (.tup (u.2.map V.int)):=by
 rw [h.keys] at e
 clear h
 induction ts generalizing ks with
 | nil =>
  cases ks with
  | nil=>exact ⟨[],rfl,rfl,fun u hu=>nomatch hu⟩
  | cons k ks=>exact absurd e (by simp)
 | cons t ts ih =>
  cases ks with
  | nil=>exact absurd e (by simp)
  | cons k ks =>
   rw [List.map_cons,List.map_cons] at e
   injection e with e1 e2
   obtain ⟨us,h1,h2,h3⟩:=ih e2 fun t' ht'=>ht t' (List.mem_cons_of_mem _ ht')
   refine ⟨(t.1,k) :: us,by rw [List.map_cons,List.map_cons,h1],by rw [List.map_cons,h2],fun u hu=>?_⟩
   rcases List.mem_cons.mp hu with rfl | hu
   ·have z:=ht t (List.mem_cons_self ..)
    rw [e1,zEr] at z
    exact z
   ·exact h3 u hu
theorem zPv {α:Type} [DecidableEq α]:∀ {xs ys:List α},xs.Nodup→ys.Nodup→(∀ a,a∈xs↔a∈ys)→xs.Perm ys
 | [],ys,_,_,h=>by
  cases ys with
  | nil=>exact .refl _
  | cons y ys=>exact absurd ((h y).mpr (List.mem_cons_self ..)) (List.not_mem_nil)
 | x :: xs,ys,hx,hy,h=>by
  have hx':=List.nodup_cons.mp hx
  have m:x∈ys:=(h x).mp (List.mem_cons_self ..)
  refine List.Perm.trans ?_ (List.perm_cons_erase m).symm
  refine (zPv hx'.2 (hy.erase x) fun a=>?_).cons x
  rw [hy.mem_erase_iff]
  constructor
  ·intro ha
   exact ⟨fun e=>hx'.1 (e ▸ ha),(h a).mp (List.mem_cons_of_mem _ ha)⟩
  ·rintro ⟨hne,ha⟩
   rcases List.mem_cons.mp ((h a).mpr ha) with e | ha'
   ·exact absurd e hne
   ·exact ha'
structure zOh (H:Hp) (l:Addr) (ss:List Sd) (us:List (Addr × List Int)):Prop where
 at':H l = some (.lst ((us.map (·.1)).map V.ref))
 all:∀ u∈us,H u.1 = some (.tup (u.2.map V.int))
 rises:(us.map (·.2)).Pairwise (fun a b=>HT.lexLt b a = false)
 nodup:(us.map (·.2)).Nodup
 mem:∀ k,k∈us.map (·.2)↔WK ss ss.length k
 few:us.length≤80
theorem zOh.eq {H H':Hp} {l l':Addr} {ss ss':List Sd} {us us':List (Addr × List Int)} (h:zOh H l ss us) (h':zOh H' l' ss' us') (e:∀ k,WK ss ss.length k↔WK ss' ss'.length k):us.map (·.2) = us'.map (·.2) :=
 zKa (zPv h.nodup h'.nodup fun k=>(h.mem k).trans ((e k).trans (h'.mem k).symm)) h.rises h'.rises
structure SdSt (H0:Hp) (D:Addr) (ss:List Sd) (H:Hp):Prop where
 same:Same H0 H
 new:H0 D = none
 at':H D = some (.lst (zAn ss))
 all:SdOk H ss
theorem SdSt.app {H0 H H2:Hp} {D p:Addr} {ss:List Sd} {a b c:Int} (P:SdSt H0 D ss H) (s:Same H H2) (hp:H p = none) (ep:H2 p = some (.tup [.int a,.int b,.int c])) (n:a≠0∨b≠0) (ma:a.natAbs≤10 ^ 9) (mb:b.natAbs≤10 ^ 9) (mc:c.natAbs≤10 ^ 13) :
  SdSt H0 D (ss ++ [(p,a,b,c)]) (upd H2 D (.lst (zAn ss ++ [.ref p]))):=by
 have npD:p≠D:=fun e=>by rw [e,P.at'] at hp; cases hp
 refine ⟨(P.same.trans s).putNew P.new,P.new,by rw [zAb]; simp [zAn],fun t ht=>?_⟩
 rcases List.mem_append.mp ht with h | h
 ·obtain ⟨h1,h2⟩:=P.all t h
  refine ⟨?_,h2⟩
  rw [zAo (zDt h1 P.at' (by intro z; cases z))]
  exact s _ _ h1
 ·rw [List.mem_singleton] at h
  subst h
  refine ⟨?_,n,ma,mb,mc⟩
  show upd H2 D _ p = _
  rw [zAo npD]
  exact ep
theorem cutS {ok:Addr→List Sd→Hp→Prop} {G:Prop} {R:Addr→List Sd→Hp→Prop} (h1:(∀ D ss H,ok D ss H→R D ss H)→G) (h2:∀ D ss H,ok D ss H→R D ss H):G:=h1 h2
end Sea

namespace Sea
open PySem L2
theorem cm_l {i j:Int} (h:i.natAbs≤10 ^ 18):CMul i j:=.inl ⟨by omega,by omega⟩
theorem cm_r {i j:Int} (h:j.natAbs≤10 ^ 18):CMul i j:=.inr ⟨by omega,by omega⟩
abbrev P3:=Int × Int × Int
abbrev zB1 (qs:List (Addr × P3)):List V:=(qs.map (·.1)).map V.ref
def zIa (H:Hp) (qs:List (Addr × P3)):Prop:=∀ t∈qs,H t.1 = some (.tup [.int t.2.1,.int t.2.2.1,.int t.2.2.2])∧0 < t.2.2.2∧Nat.gcd (Nat.gcd t.2.1.natAbs t.2.2.1.natAbs) t.2.2.2.natAbs = 1
theorem zIa.same {H H':Hp} {qs:List (Addr × P3)} (h:zIa H qs) (s:Same H H'):zIa H' qs:=fun t ht=>⟨s _ _ (h t ht).1,(h t ht).2⟩
def sv (t p:P3):Int:=t.1 * p.1 + t.2.1 * p.2.1 - t.2.2 * p.2.2
def tn (e s:P3):Int:=e.1 * s.2.1 - e.2.1 * s.1
def dl (e p q:P3):Int:=e.1 * (p.2.1 * q.2.2 - q.2.1 * p.2.2) - e.2.1 * (p.1 * q.2.2 - q.1 * p.2.2)
theorem key_id (a b u v X Y:Int):(a * a + b * b) * (u * X + v * Y) = (a * Y - b * X) * (a * v - b * u) + (a * X + b * Y) * (a * u + b * v):=by
 simp only [Int.mul_sub,Int.sub_mul,Int.mul_add,Int.add_mul,Int.mul_comm,Int.mul_left_comm]
 omega
theorem zMm (s p q:P3):sv s p * q.2.2 - sv s q * p.2.2 = s.1 * (p.1 * q.2.2 - q.1 * p.2.2) + s.2.1 * (p.2.1 * q.2.2 - q.2.1 * p.2.2):=by
 unfold sv
 simp only [Int.mul_sub,Int.sub_mul,Int.add_mul,Int.mul_add,Int.mul_comm,Int.mul_left_comm]
 omega
theorem zRn {e p q:P3} (hp:sv e p = 0) (hq:sv e q = 0) (s:P3):(e.1 * e.1 + e.2.1 * e.2.1) * (sv s p * q.2.2 - sv s q * p.2.2) = dl e p q * tn e s:=by
 have z:=zMm e p q
 rw [hp,hq,Int.zero_mul,Int.zero_mul,Int.sub_self] at z
 rw [zMm s p q,key_id,← z,Int.zero_mul,Int.add_zero]
 rfl
theorem zNa {x y h:Int} (hh:h * h = 1):(x * h) * (y * h) = x * y:=by
 have e:(x * h) * (y * h) = x * y * (h * h):=by simp only [Int.mul_comm,Int.mul_left_comm]
 rw [e,hh,Int.mul_one]
theorem zM4 {e p q:P3} {h:Int} (hh:h * h = 1) (hN:0 < e.1 * e.1 + e.2.1 * e.2.1) (hp:sv e p = 0) (hq:sv e q = 0) (pw:0 < p.2.2) (qw:0 < q.2.2) (s:P3) (hs:(dl e p q * h) * (tn e s * h)≤0) (hv:sv s q≤0):sv s p≤0:=by
 have k:=zRn hp hq s
 rw [← zNa (x:=dl e p q) (y:=tn e s) hh] at k
 rw [← k] at hs
 have h1:sv s p * q.2.2 - sv s q * p.2.2≤0:=by
  by_cases c:sv s p * q.2.2 - sv s q * p.2.2≤0
  ·exact c
  ·have:=Int.mul_pos hN (show 0 < sv s p * q.2.2 - sv s q * p.2.2 by omega)
   omega
 have h2:sv s q * p.2.2≤0:=by
  have:=Int.mul_nonneg (show 0≤-sv s q by omega) (Int.le_of_lt pw)
  rw [Int.neg_mul] at this
  omega
 by_cases c:sv s p≤0
 ·exact c
 ·have:=Int.mul_pos (show 0 < sv s p by omega) qw
  omega
theorem zMx {e p q s:P3} {h:Int} (hh:h * h = 1) (hN:0 < e.1 * e.1 + e.2.1 * e.2.1) (hp:sv e p = 0) (hq:sv e q = 0) (pw:0 < p.2.2) (h0:sv s p = 0) (hv:sv s q≤0) (ht:0 < tn e s * h):0≤dl e p q * h:=by
 have k:=zRn hp hq s
 rw [h0,Int.zero_mul,← zNa (x:=dl e p q) (y:=tn e s) hh] at k
 have h2:0≤-sv s q * p.2.2:=Int.mul_nonneg (by omega) (Int.le_of_lt pw)
 rw [Int.neg_mul] at h2
 have h3:=Int.mul_nonneg (Int.le_of_lt hN) (show 0≤0 - sv s q * p.2.2 by omega)
 rw [k] at h3
 by_cases c:0≤dl e p q * h
 ·exact c
 ·have:=Int.mul_pos (show 0 < -(dl e p q * h) by omega) ht
  rw [Int.neg_mul] at this
  omega
theorem zUx {e p q s:P3} {h:Int} (hh:h * h = 1) (hN:0 < e.1 * e.1 + e.2.1 * e.2.1) (hp:sv e p = 0) (hq:sv e q = 0) (pw:0 < p.2.2) (h0:sv s p = 0) (hv:0 < sv s q) (ht:0 < tn e s * h):dl e p q * h≤0:=by
 have k:=zRn hp hq s
 rw [h0,Int.zero_mul,← zNa (x:=dl e p q) (y:=tn e s) hh] at k
 have h2:=Int.mul_pos hv pw
 have h3:=Int.mul_nonneg (Int.le_of_lt hN) (show 0≤sv s q * p.2.2 by omega)
 have h4:(e.1 * e.1 + e.2.1 * e.2.1) * (0 - sv s q * p.2.2) = -((e.1 * e.1 + e.2.1 * e.2.1) * (sv s q * p.2.2)):=by rw [Int.zero_sub,Int.mul_neg]
 rw [h4] at k
 by_cases c:dl e p q * h≤0
 ·exact c
 ·have:=Int.mul_pos (show 0 < dl e p q * h by omega) ht
  omega
def pt3 (l:List Int):P3:=match l with
 | [x,y,w]=>(x,y,w)
 | _=>(0,0,1)
def crL (e s:P3):List Int:=lowL (upL (e.2.2 * s.2.1 - e.2.1 * s.2.2) (e.1 * s.2.2 - e.2.2 * s.1) (e.1 * s.2.1 - e.2.1 * s.1))
def ftL (t:P3):List Int:=lowL (upL (t.1 * t.2.2) (t.2.1 * t.2.2) (t.1 * t.1 + t.2.1 * t.2.1))
structure zQs (l:List Int) (p:P3):Prop where
 list:l = [p.1,p.2.1,p.2.2]
 pos:0 < p.2.2
 low:Nat.gcd (Nat.gcd p.1.natAbs p.2.1.natAbs) p.2.2.natAbs = 1
theorem zCj {e s:P3} (h:tn e s≠0):zQs (crL e s) (pt3 (crL e s))∧sv e (pt3 (crL e s)) = 0∧sv s (pt3 (crL e s)) = 0:=by
 obtain ⟨x,y,w,el,sp⟩:=zEj (X:=e.2.2 * s.2.1 - e.2.1 * s.2.2) (Y:=e.1 * s.2.2 - e.2.2 * s.1) (W:=e.1 * s.2.1 - e.2.1 * s.1) h
 have e1:crL e s = [x,y,w]:=el
 rw [e1]
 refine ⟨⟨rfl,by have:=sp.pos; show 0 < w; omega,sp.low⟩,?_,?_⟩
 ·have z:=zKh (A:=e.1) (B:=e.2.1) (C:=e.2.2) h sp (zP7 e.1 e.2.1 e.2.2 s.1 s.2.1 s.2.2)
  show e.1 * x + e.2.1 * y - e.2.2 * w = 0
  omega
 ·have z:=zKh (A:=s.1) (B:=s.2.1) (C:=s.2.2) h sp (zQy e.1 e.2.1 e.2.2 s.1 s.2.1 s.2.2)
  show s.1 * x + s.2.1 * y - s.2.2 * w = 0
  omega
theorem zGf {t:P3} (h:t.1≠0∨t.2.1≠0):0 < t.1 * t.1 + t.2.1 * t.2.1:=zJ2 h
theorem zSa {t:P3} (h:t.1≠0∨t.2.1≠0):zQs (ftL t) (pt3 (ftL t))∧sv t (pt3 (ftL t)) = 0:=by
 have hw:=zGf h
 obtain ⟨x,y,w,el,sp⟩:=zEj (X:=t.1 * t.2.2) (Y:=t.2.1 * t.2.2) (W:=t.1 * t.1 + t.2.1 * t.2.1) (by omega)
 have e1:ftL t = [x,y,w]:=el
 rw [e1]
 refine ⟨⟨rfl,by have:=sp.pos; show 0 < w; omega,sp.low⟩,?_⟩
 have z:=zKh (A:=t.1) (B:=t.2.1) (C:=t.2.2) (show t.1 * t.1 + t.2.1 * t.2.1≠0 by omega) sp (by simp only [Int.mul_add,Int.mul_comm,Int.mul_left_comm])
 show t.1 * x + t.2.1 * y - t.2.2 * w = 0
 omega
def inW (ss:List Sd) (p:P3):Prop:=∀ t∈ss,sv t.2 p≤0
def zKt (ss:List Sd) (e:P3) (h:Int):Option Nat→Prop
 | none=>∀ t∈ss,tn e t.2 * h≤0
 | some j=>∃ t,ss[j]? = some t∧0 < tn e t.2 * h∧∀ u∈ss,0 < tn e u.2 * h→sv u.2 (pt3 (crL e t.2))≤0
theorem zBa {x h:Int} (h0:0 < x * h):x≠0:=fun z=>by rw [z,Int.zero_mul] at h0; exact absurd h0 (by decide)
theorem zOb {ss:List Sd} {e z:P3} {h:Int} {j:Nat} {t:Sd} (hh:h * h = 1) (hN:0 < e.1 * e.1 + e.2.1 * e.2.1) (hz:sv e z = 0) (zw:0 < z.2.2) (wz:inW ss z) (gt:ss[j]? = some t) (h0:0 < tn e t.2 * h) (ha:∀ u∈ss,0 < tn e u.2 * h→sv u.2 (pt3 (crL e t.2))≤0):inW ss (pt3 (crL e t.2)):=fun u hu=>by
 obtain ⟨sp,c1,c2⟩:=zCj (zBa h0)
 by_cases hp:0 < tn e u.2 * h
 ·exact ha u hu hp
 ·have d0:=zMx hh hN c1 hz sp.pos c2 (wz t (List.mem_of_getElem? gt)) h0
  refine zM4 hh hN c1 hz sp.pos zw u.2 ?_ (wz u hu)
  have:=Int.mul_nonneg d0 (show 0≤-(tn e u.2 * h) by omega)
  rw [Int.mul_neg] at this
  omega
theorem zMa {ss:List Sd} {e z p:P3} (hN:0 < e.1 * e.1 + e.2.1 * e.2.1) (hz:sv e z = 0) (zw:0 < z.2.2) (wz:inW ss z) (hp:sv e p = 0) (pw:0 < p.2.2) (n1:zKt ss e 1 none) (n2:zKt ss e (-1) none):inW ss p:=fun u hu=>by
 have e1:=n1 u hu
 have e2:=n2 u hu
 rw [Int.mul_one] at e1
 have e0:tn e u.2 = 0:=by
  rw [Int.mul_neg,Int.mul_one] at e2
  omega
 refine zM4 (h:=1) (by decide) hN hp hz pw zw u.2 ?_ (wz u hu)
 rw [e0,Int.zero_mul,Int.mul_zero]
 exact Int.le_refl _
theorem zQ6 (t p z:P3) (b a:Int):sv t (b * p.1 + a * z.1,b * p.2.1 + a * z.2.1,b * p.2.2 + a * z.2.2) = b * sv t p + a * sv t z:=by
 unfold sv
 simp only [Int.mul_sub,Int.mul_add,Int.mul_comm,Int.mul_left_comm]
 omega
theorem zPs {ss:List Sd} {e p z:P3} (wp:inW ss p) (wz:inW ss z) (pw:0 < p.2.2) (zw:0 < z.2.2) (hp:0 < sv e p) (hz:sv e z≤0):∃ m:P3,sv e m = 0∧0 < m.2.2∧inW ss m:=by
 refine ⟨(-sv e z * p.1 + sv e p * z.1,-sv e z * p.2.1 + sv e p * z.2.1,-sv e z * p.2.2 + sv e p * z.2.2),?_,?_,fun t ht=>?_⟩
 ·rw [zQ6,Int.neg_mul,Int.mul_comm (sv e p)]
  omega
 ·have h1:=Int.mul_nonneg (show 0≤-sv e z by omega) (Int.le_of_lt pw)
  have h2:=Int.mul_pos hp zw
  show 0 < -sv e z * p.2.2 + sv e p * z.2.2
  omega
 ·rw [zQ6]
  have h1:=Int.mul_nonneg (show 0≤-sv e z by omega) (show 0≤-sv t.2 p by have:=wp t ht; omega)
  have h2:=Int.mul_nonneg (Int.le_of_lt hp) (show 0≤-sv t.2 z by have:=wz t ht; omega)
  rw [Int.mul_neg] at h1 h2
  omega
end Sea

namespace L2
open PySem PySem.Spec PyProof.Rows
section
variable {X:Cx} {pos:Pos}
def tPar3 (i j k:Nat) (ta:TA):TS:=fun D σ H=>ta σ H fun vs H1=>∃ u v w,vs = [u,v,w]∧D.nx (((σ.set i (some u)).set j (some v)).set k (some w)) H1
theorem zU6 {i j k:Nat} {x y z:Str} {a b c:Expr} {ta:TA} {px py pz pt:Pos} {kt k2 pt2} (hc:X.calm = true) (hN:X.N.Nodup) (hi:X.N[i]? = some x) (hj:X.N[j]? = some y) (hk:X.N[k]? = some z) (hij:i≠j) (hik:i≠k) (hjk:j≠k)
  (hx:X.env.scope.names.lookup x = some .local) (hy:X.env.scope.names.lookup y = some .local) (hz:X.env.scope.names.lookup z = some .local) (ha:PA X [a,b,c] ta)
  (hw:swappedStores [.Tuple [.Name x px,.Name y py,.Name z pz] kt pt] (.Tuple [a,b,c] k2 pt2) X.env = pure (some [x,y,z]))
  (hs:swapsWithSole [.Tuple [.Name x px,.Name y py,.Name z pz] kt pt] (.Tuple [a,b,c] k2 pt2) pos.line X.env = pure false:=by rfl) :
  PS X (.Assign [.Tuple [.Name x px,.Name y py,.Name z pz] kt pt] (.Tuple [a,b,c] k2 pt2) pos) (tPar3 i j k ta):=by
 intro pins s σ H D I h
 rw [exec_Assign_arm]
 refine wpAny_bind (wpAny_standAt ?_)
 rw [hs]
 refine wpAny_bind (wpAny_pure ?_)
 rw [if_neg (by decide)]
 refine wpAny_bind (Tuple_ (thn (ha _ pins s σ H _ I h) fun us s1 ⟨vs,H1,I1,r1,q1⟩=>?_))
 obtain ⟨u,v,t,e1,q1⟩:=q1
 subst e1
 obtain ⟨u1,u2,u3,rfl,ru,rv,rt⟩:∃ u1 u2 u3,us = [u1,u2,u3]∧RelV u u1∧RelV v u2∧RelV t u3:=by
  cases r1 with
  | cons p q =>
   cases q with
   | cons p' q' =>
    cases q' with
    | cons p'' q'' =>
     cases q''
     exact ⟨_,_,_,rfl,p,p',p''⟩
 refine wpAny_newObj_type ?_ (by show 3≤sizeLine; decide)
 have I2:Inv X pins σ H1 { s1 with heap:=s1.heap.push { cls:=.type "tuple", data:=.seq [u1,u2,u3].toArray } }:=I1.kept (t':=s1.toks) fun b o e=>Heap.get?_push_of_some _ e
 rw [hw]
 refine wpAny_bind (wpAny_pure ?_)
 show wpAny (model X.prog X.w) X.A (do rule "assign.swapped-stores"; let items ← unpackItems (.ref s1.heap.objs.size) 3 none; assignInOrder [fun v=>bindName X.env z v,fun v=>bindName X.env y v,fun v=>bindName X.env x v] items.reverse; pure Flow.next) _ _ _
 refine wpAny_bind (wpAny_rule (wpAny_bind (unpackItems_tuple (items:=#[u1,u2,u3]) (I.ok.hd hc) (IsTup.new s1.heap _) fun h' hx'=>?_)))
 have I3:=I2.kept (h':=h') (t':=s1.toks) fun b o e=>hx' b o (Nat.ne_of_lt (Heap.lt_size e)) e
 show wpAny _ _ (assignInOrder [fun v=>bindName X.env z v,fun v=>bindName X.env y v,fun v=>bindName X.env x v] [u3,u2,u1] >>= fun _=>pure Flow.next) _ _ _
 refine wpAny_bind (assignInOrder_cons (wpAny_bindName (zCn I3 hN hk (.inl hz) rt (fun s2 I4=>?_) (.inr hz))))
 refine assignInOrder_cons (wpAny_bindName (zCn I4 hN hj (.inl hy) rv (fun s3 I5=>?_) (.inr hy)))
 refine assignInOrder_cons (wpAny_bindName (zCn I5 hN hi (.inl hx) ru (fun s4 I6=>assignInOrder_nil (wpAny_pure ?_)) (.inr hx)))
 rw [List.set_comm (some t) (some v) (Ne.symm hjk),List.set_comm (some t) (some u) (Ne.symm hik),List.set_comm (some v) (some u) (Ne.symm hij)] at I6
 exact ⟨_,H1,I6,q1⟩
end
end L2
namespace Sea
open PySem L2
theorem zPz {e s:P3} (h:tn e s≠0):crL e s = crL s e:=by
 unfold crL
 have e1:s.2.2 * e.2.1 - s.2.1 * e.2.2 = -(e.2.2 * s.2.1 - e.2.1 * s.2.2):=by rw [Int.mul_comm s.2.2,Int.mul_comm s.2.1]; omega
 have e2:s.1 * e.2.2 - s.2.2 * e.1 = -(e.1 * s.2.2 - e.2.2 * s.1):=by rw [Int.mul_comm s.1,Int.mul_comm s.2.2]; omega
 have e3:s.1 * e.2.1 - s.2.1 * e.1 = -(e.1 * s.2.1 - e.2.1 * s.1):=by rw [Int.mul_comm s.1,Int.mul_comm s.2.1]; omega
 rw [e1,e2,e3,zUi (show e.1 * s.2.1 - e.2.1 * s.1≠0 from h)]
end Sea

namespace Sea
open PySem L2
theorem zJ7 (e p q:P3):dl e p q = -dl e q p:=by
 unfold dl
 simp only [Int.mul_sub]
 omega
theorem two_eq {a b X Y:Int} (hN:0 < a * a + b * b) (h1:a * X + b * Y = 0) (h2:a * Y - b * X = 0):X = 0∧Y = 0:=by
 have e1:(a * a + b * b) * X = a * (a * X + b * Y) - b * (a * Y - b * X):=by
  simp only [Int.mul_sub,Int.mul_add,Int.add_mul,Int.mul_comm,Int.mul_left_comm]
  omega
 have e2:(a * a + b * b) * Y = b * (a * X + b * Y) + a * (a * Y - b * X):=by
  simp only [Int.mul_sub,Int.mul_add,Int.add_mul,Int.mul_comm,Int.mul_left_comm]
  omega
 rw [h1,h2,Int.mul_zero,Int.mul_zero] at e1 e2
 constructor
 ·rcases Int.mul_eq_zero.mp e1 with z | z
  ·omega
  ·exact z
 ·rcases Int.mul_eq_zero.mp e2 with z | z
  ·omega
  ·exact z
theorem zJt {e p q:P3} (hN:0 < e.1 * e.1 + e.2.1 * e.2.1) (hp:sv e p = 0) (hq:sv e q = 0) (hd:dl e p q = 0):p.1 * q.2.2 = q.1 * p.2.2∧p.2.1 * q.2.2 = q.2.1 * p.2.2:=by
 have z:=zMm e p q
 rw [hp,hq,Int.zero_mul,Int.zero_mul,Int.sub_self] at z
 have w:=two_eq hN z.symm hd
 omega
theorem zJq {x y w x2 y2 v:Int} (hv:0 < v) (h1:x * v = x2 * w) (h2:y * v = y2 * w) (low:Nat.gcd (Nat.gcd x.natAbs y.natAbs) w.natAbs = 1):w.natAbs ∣ v.natAbs:=by
 have d1:w.natAbs ∣ v.natAbs * x.natAbs:=by
  rw [← Int.natAbs_mul,Int.mul_comm,h1,Int.natAbs_mul]
  exact Nat.dvd_mul_left _ _
 have d2:w.natAbs ∣ v.natAbs * y.natAbs:=by
  rw [← Int.natAbs_mul,Int.mul_comm,h2,Int.natAbs_mul]
  exact Nat.dvd_mul_left _ _
 have d3:w.natAbs ∣ v.natAbs * w.natAbs:=Nat.dvd_mul_left _ _
 have d:=Nat.dvd_gcd (Nat.dvd_gcd d1 d2) d3
 rw [Nat.gcd_mul_left,Nat.gcd_mul_left,low,Nat.mul_one] at d
 exact d
theorem zCp {p q:P3} (pp:0 < p.2.2) (pq:0 < q.2.2) (lp:Nat.gcd (Nat.gcd p.1.natAbs p.2.1.natAbs) p.2.2.natAbs = 1) (lq:Nat.gcd (Nat.gcd q.1.natAbs q.2.1.natAbs) q.2.2.natAbs = 1) (h1:p.1 * q.2.2 = q.1 * p.2.2) (h2:p.2.1 * q.2.2 = q.2.1 * p.2.2):p = q:=by
 have d1:=zJq pq h1 h2 lp
 have d2:=zJq pp h1.symm h2.symm lq
 have e:=Nat.dvd_antisymm d1 d2
 have ew:p.2.2 = q.2.2:=by omega
 rw [ew] at h1 h2
 have e1:=Int.eq_of_mul_eq_mul_right (by omega) h1
 have e2:=Int.eq_of_mul_eq_mul_right (by omega) h2
 exact Prod.ext e1 (Prod.ext e2 ew)
def Cor (ss:List Sd) (P:P3):Prop:=∃ t∈ss,∃ u∈ss,tn t.2 u.2≠0∧P = pt3 (crL t.2 u.2)∧inW ss P
def zJd (ss:List Sd) (e:P3) (h:Int) (qs:List P3):Prop:=zKt ss e h none∨∃ (j:Nat) (t:Sd),ss[j]? = some t∧0 < tn e t.2 * h∧(∀ u∈ss,0 < tn e u.2 * h→sv u.2 (pt3 (crL e t.2))≤0)∧pt3 (crL e t.2)∈qs
theorem zJd.app {ss:List Sd} {e:P3} {h:Int} {qs rs:List P3} (f:zJd ss e h qs):zJd ss e h (qs ++ rs):=by
 rcases f with f | ⟨j,t,g,p,a,m⟩
 ·exact .inl f
 ·exact .inr ⟨j,t,g,p,a,List.mem_append_left _ m⟩
theorem zT2 {ss:List Sd} {e:P3} {s:Sd} {h:Int} {qs:List P3} (hh:h * h = 1) (hN:0 < e.1 * e.1 + e.2.1 * e.2.1) (hs:s∈ss) (hp:0 < tn e s.2 * h) (hw:inW ss (pt3 (crL e s.2))) (f:zJd ss e h qs):pt3 (crL e s.2)∈qs:=by
 rcases f with f | ⟨j,t,g,p,a,m⟩
 ·have:=f s hs
  omega
 ·obtain ⟨s1,o1,o2⟩:=zCj (zBa hp)
  obtain ⟨s2,r1,r2⟩:=zCj (zBa p)
  have d1:=zMx hh hN o1 r1 s1.pos o2 (a s hs hp) hp
  have d2:=zMx hh hN r1 o1 s2.pos r2 (hw t (List.mem_of_getElem? g)) p
  rw [zJ7,Int.neg_mul] at d2
  have d0:dl e (pt3 (crL e s.2)) (pt3 (crL e t.2)) * h = 0:=by omega
  have d3:dl e (pt3 (crL e s.2)) (pt3 (crL e t.2)) = 0:=by
   have z:dl e (pt3 (crL e s.2)) (pt3 (crL e t.2)) * h * h = 0:=by rw [d0,Int.zero_mul]
   rw [Int.mul_assoc,hh,Int.mul_one] at z
   exact z
  obtain ⟨x1,x2⟩:=zJt hN o1 r1 d3
  rw [zCp s1.pos s2.pos s1.low s2.low x1 x2]
  exact m
theorem zUd {x:Int} (h:x≠0):∃ k:Int,(k = 1∨k = -1)∧k * k = 1∧0 < x * k:=by
 by_cases c:0 < x
 ·exact ⟨1,.inl rfl,by decide,by omega⟩
 ·exact ⟨-1,.inr rfl,by decide,by omega⟩
theorem zSu {e s:P3} (h:tn e s≠0) (b1:e.1.natAbs≤10 ^ 9) (b2:e.2.1.natAbs≤10 ^ 9) (b3:e.2.2.natAbs≤10 ^ 13) (c1:s.1.natAbs≤10 ^ 9) (c2:s.2.1.natAbs≤10 ^ 9) (c3:s.2.2.natAbs≤10 ^ 13) :
  (pt3 (crL e s)).1.natAbs≤10 ^ 40∧(pt3 (crL e s)).2.1.natAbs≤10 ^ 40∧(pt3 (crL e s)).2.2.natAbs≤10 ^ 40:=by
 obtain ⟨x,y,w,el,sp⟩:=zEj (X:=e.2.2 * s.2.1 - e.2.1 * s.2.2) (Y:=e.1 * s.2.2 - e.2.2 * s.1) (W:=e.1 * s.2.1 - e.2.1 * s.1) h
 have e1:crL e s = [x,y,w]:=el
 rw [e1]
 have z1:=zAf e.2.2 s.2.1 b3 c2
 have z2:=zAf e.2.1 s.2.2 b2 c3
 have z3:=zAf e.1 s.2.2 b1 c3
 have z4:=zAf e.2.2 s.1 b3 c1
 have z5:=zAf e.1 s.2.1 b1 c2
 have z6:=zAf e.2.1 s.1 b2 c1
 have x1:=sp.xle
 have x2:=sp.yle
 have x3:=sp.wle
 refine ⟨?_,?_,?_⟩
 ·show x.natAbs≤10 ^ 40
  omega
 ·show y.natAbs≤10 ^ 40
  omega
 ·show w.natAbs≤10 ^ 40
  omega
theorem zNy {α:Type} [DecidableEq α]:∀ {xs ys:List α},xs.Nodup→(∀ a∈xs,a∈ys)→xs.length≤ys.length
 | [],_,_,_=>Nat.zero_le _
 | x :: xs,ys,hx,h=>by
  have hx':=List.nodup_cons.mp hx
  have m:x∈ys:=h x (List.mem_cons_self ..)
  have z:=zNy (ys:=ys.erase x) hx'.2 fun a ha=>by
   have ne:a≠x:=fun e=>hx'.1 (by rw [← e]; exact ha)
   exact (List.mem_erase_of_ne ne).mpr (h a (List.mem_cons_of_mem _ ha))
  have:=List.length_erase_of_mem m
  have hp:0 < ys.length:=List.length_pos_of_mem m
  rw [List.length_cons]
  omega
end Sea

namespace Sea
open PySem L2
structure zUf (ss:List Sd) (j:Nat) (e:Sd) (P:P3):Prop where
 at':ss[j]? = some e
 pos:0 < P.2.2
 ahead:inW (ss.take j) P
 out:0 < sv e.2 P
 no:∀ z:P3,sv e.2 z = 0→0 < z.2.2→¬ inW (ss.take j) z
theorem zUf.none {ss:List Sd} {j:Nat} {e:Sd} {P:P3} (S:zUf ss j e P) (z:P3) (zw:0 < z.2.2):¬ inW ss z:=fun wz=>by
 obtain ⟨m,m1,m2,m3⟩:=zPs S.ahead (fun u hu=>wz u (List.mem_of_mem_take hu)) S.pos zw S.out (wz e (List.mem_of_getElem? S.at'))
 exact S.no m m1 m2 m3
def Cand (ss:List Sd) (P:P3):Prop:=P = (0,0,1)∨(∃ t∈ss,P = pt3 (ftL t.2))∨∃ t∈ss,∃ u∈ss,tn t.2 u.2≠0∧P = pt3 (crL t.2 u.2)
theorem zG4 {e:P3} {h:Int} (hh:h * h = 1) (hN:0 < e.1 * e.1 + e.2.1 * e.2.1):∀ ss:List Sd,(∀ t∈ss,tn e t.2 * h≤0)∨∃ t∈ss,0 < tn e t.2 * h∧∀ u∈ss,0 < tn e u.2 * h→sv u.2 (pt3 (crL e t.2))≤0
 | []=>.inl fun _ h=>nomatch h
 | s :: ss=>by
  by_cases hs:0 < tn e s.2 * h
  ·obtain ⟨sp1,r1,r2⟩:=zCj (zBa hs)
   rcases zG4 hh hN ss with n | ⟨t,mt,ht,a⟩
   ·refine .inr ⟨s,List.mem_cons_self ..,hs,fun u hu hp=>?_⟩
    rcases List.mem_cons.mp hu with rfl | hu
    ·exact Int.le_of_eq r2
    ·have:=n u hu
     omega
   ·obtain ⟨sp0,q1,q2⟩:=zCj (zBa ht)
    by_cases hin:sv s.2 (pt3 (crL e t.2))≤0
    ·refine .inr ⟨t,List.mem_cons_of_mem _ mt,ht,fun u hu hp=>?_⟩
     rcases List.mem_cons.mp hu with rfl | hu
     ·exact hin
     ·exact a u hu hp
    ·have d1:=zUx hh hN r1 q1 sp1.pos r2 (show 0 < sv s.2 (pt3 (crL e t.2)) by omega) hs
     refine .inr ⟨s,List.mem_cons_self ..,hs,fun u hu hp=>?_⟩
     rcases List.mem_cons.mp hu with rfl | hu
     ·exact Int.le_of_eq r2
     ·refine zM4 hh hN r1 q1 sp1.pos sp0.pos u.2 ?_ (a u hu hp)
      have:=Int.mul_nonneg (show 0≤-(dl e (pt3 (crL e s.2)) (pt3 (crL e t.2)) * h) by omega) (Int.le_of_lt hp)
      rw [Int.neg_mul] at this
      omega
  ·rcases zG4 hh hN ss with n | ⟨t,mt,ht,a⟩
   ·refine .inl fun u hu=>?_
    rcases List.mem_cons.mp hu with rfl | hu
    ·omega
    ·exact n u hu
   ·refine .inr ⟨t,List.mem_cons_of_mem _ mt,ht,fun u hu hp=>?_⟩
    rcases List.mem_cons.mp hu with rfl | hu
    ·exact absurd hp hs
    ·exact a u hu hp
theorem zLi {ss:List Sd} {e:P3} (he:e.1≠0∨e.2.1≠0) {m:P3} (hm:sv e m = 0) (mw:0 < m.2.2) (wm:inW ss m):∃ P:P3,0 < P.2.2∧inW ss P∧sv e P = 0∧(P = pt3 (ftL e)∨∃ t∈ss,tn e t.2≠0∧P = pt3 (crL e t.2)):=by
 have hN:=zGf he
 obtain ⟨sf,f1⟩:=zSa he
 have one:∀ h:Int,h * h = 1→(∀ t∈ss,tn e t.2 * h≤0)∨∃ P:P3,0 < P.2.2∧inW ss P∧sv e P = 0∧(P = pt3 (ftL e)∨∃ t∈ss,tn e t.2≠0∧P = pt3 (crL e t.2)):=fun h hh=>by
  rcases zG4 hh hN ss with n | ⟨t,mt,ht,a⟩
  ·exact .inl n
  ·obtain ⟨sp,c1,c2⟩:=zCj (zBa ht)
   obtain ⟨j,gj⟩:=List.getElem?_of_mem mt
   exact .inr ⟨pt3 (crL e t.2),sp.pos,zOb hh hN hm mw wm gj ht a,c1,.inr ⟨t,mt,zBa ht,rfl⟩⟩
 rcases one 1 (by decide) with n1 | r
 ·rcases one (-1) (by decide) with n2 | r
  ·exact ⟨pt3 (ftL e),sf.pos,zMa hN hm mw wm f1 sf.pos n1 n2,f1,.inl rfl⟩
  ·exact r
 ·exact r
theorem Cand.cons {ss:List Sd} {P:P3} (s:Sd) (h:Cand ss P):Cand (s :: ss) P:=by
 rcases h with h | ⟨t,ht,h⟩ | ⟨t,ht,u,hu,h⟩
 ·exact .inl h
 ·exact .inr (.inl ⟨t,List.mem_cons_of_mem _ ht,h⟩)
 ·exact .inr (.inr ⟨t,List.mem_cons_of_mem _ ht,u,List.mem_cons_of_mem _ hu,h⟩)
theorem zRu:∀ {ss:List Sd},(∀ t∈ss,t.2.1≠0∨t.2.2.1≠0)→∀ z:P3,0 < z.2.2→inW ss z→∃ P:P3,Cand ss P∧0 < P.2.2∧inW ss P
 | [],_,_,_,_=>⟨(0,0,1),.inl rfl,by decide,fun _ h=>nomatch h⟩
 | s :: ss,hn,z,zw,wz=>by
  obtain ⟨P,cP,pw,wP⟩:=zRu (fun t ht=>hn t (List.mem_cons_of_mem _ ht)) z zw fun t ht=>wz t (List.mem_cons_of_mem _ ht)
  by_cases hin:sv s.2 P≤0
  ·refine ⟨P,cP.cons s,pw,fun t ht=>?_⟩
   rcases List.mem_cons.mp ht with rfl | ht
   ·exact hin
   ·exact wP t ht
  ·obtain ⟨m,m1,m2,m3⟩:=zPs wP (fun t ht=>wz t (List.mem_cons_of_mem _ ht)) pw zw (show 0 < sv s.2 P by omega) (wz s (List.mem_cons_self ..))
   obtain ⟨R,rw',wR,oR,cR⟩:=zLi (hn s (List.mem_cons_self ..)) m1 m2 m3
   refine ⟨R,?_,rw',fun t ht=>?_⟩
   ·rcases cR with h | ⟨t,ht,h1,h2⟩
    ·exact .inr (.inl ⟨s,List.mem_cons_self ..,h⟩)
    ·exact .inr (.inr ⟨s,List.mem_cons_self ..,t,List.mem_cons_of_mem _ ht,h1,h2⟩)
   ·rcases List.mem_cons.mp ht with rfl | ht
    ·exact Int.le_of_eq oR
    ·exact wR t ht
end Sea

namespace L2
open PySem PySem.Spec PyProof.Rows PySem.W
section
variable {X:Cx}
end
end L2

namespace Sea
open PySem L2
theorem flat {a b x y u v:Int} (hn:a≠0∨b≠0) (h1:a * x + b * y = 0) (h2:a * u + b * v = 0):x * v - y * u = 0:=by
 have e1:a * (x * v - y * u) = (a * x + b * y) * v - (a * u + b * v) * y:=by
  simp only [Int.mul_sub,Int.add_mul,Int.mul_add,Int.mul_comm,Int.mul_left_comm]
  omega
 have e2:b * (x * v - y * u) = (a * u + b * v) * x - (a * x + b * y) * u:=by
  simp only [Int.mul_sub,Int.add_mul,Int.mul_add,Int.mul_comm,Int.mul_left_comm]
  omega
 rw [h1,h2,Int.zero_mul,Int.zero_mul,Int.sub_self] at e1 e2
 rcases hn with h | h
 ·exact (Int.mul_eq_zero.mp e1).resolve_left h
 ·exact (Int.mul_eq_zero.mp e2).resolve_left h
theorem zSm {x y u v:Int} (h1:Nat.gcd x.natAbs y.natAbs = 1) (h2:Nat.gcd u.natAbs v.natAbs = 1) (h:x * v - y * u = 0) (hp:0 < x * u + y * v):x = u∧y = v:=by
 have e:x.natAbs * v.natAbs = y.natAbs * u.natAbs:=by
  rw [← Int.natAbs_mul,← Int.natAbs_mul]
  congr 1
  omega
 have d1:x.natAbs ∣ u.natAbs:=Nat.Coprime.dvd_of_dvd_mul_left (m:=y.natAbs) h1 (by rw [← e]; exact Nat.dvd_mul_right _ _)
 have d2:u.natAbs ∣ x.natAbs:=Nat.Coprime.dvd_of_dvd_mul_right (n:=v.natAbs) h2 (by rw [e]; exact Nat.dvd_mul_left _ _)
 have h1':Nat.gcd y.natAbs x.natAbs = 1:=by rw [Nat.gcd_comm]; exact h1
 have h2':Nat.gcd v.natAbs u.natAbs = 1:=by rw [Nat.gcd_comm]; exact h2
 have d3:y.natAbs ∣ v.natAbs:=Nat.Coprime.dvd_of_dvd_mul_left (m:=x.natAbs) h1' (by rw [e]; exact Nat.dvd_mul_right _ _)
 have d4:v.natAbs ∣ y.natAbs:=Nat.Coprime.dvd_of_dvd_mul_right (n:=u.natAbs) h2' (by rw [← e]; exact Nat.dvd_mul_left _ _)
 have ex:=Nat.dvd_antisymm d1 d2
 have ey:=Nat.dvd_antisymm d3 d4
 have sx:x = u∨x = -u:=by omega
 have sy:y = v∨y = -v:=by omega
 have q1:0≤u * u:=by
  by_cases c:0≤u
  ·exact Int.mul_nonneg c c
  ·exact Int.le_of_lt (Int.mul_pos_of_neg_of_neg (by omega) (by omega))
 have q2:0≤v * v:=by
  by_cases c:0≤v
  ·exact Int.mul_nonneg c c
  ·exact Int.le_of_lt (Int.mul_pos_of_neg_of_neg (by omega) (by omega))
 rcases sx with rfl | rfl
 ·rcases sy with rfl | rfl
  ·exact ⟨rfl,rfl⟩
  ·rw [Int.neg_mul,Int.mul_comm v] at h
   have z:x * v = 0:=by omega
   rcases Int.mul_eq_zero.mp z with z | z
   ·rw [z,Int.zero_mul,Int.neg_mul] at hp
    omega
   ·rw [z]
    exact ⟨rfl,rfl⟩
 ·rcases sy with rfl | rfl
  ·rw [Int.neg_mul,Int.mul_comm y] at h
   have z:u * y = 0:=by omega
   rcases Int.mul_eq_zero.mp z with z | z
   ·rw [z]
    exact ⟨rfl,rfl⟩
   ·rw [z,Int.zero_mul,Int.neg_mul] at hp
    omega
  ·rw [Int.neg_mul,Int.neg_mul] at hp
   omega
structure zB6 (ss:List Sd) (x y:Int):Prop where
 low:Nat.gcd x.natAbs y.natAbs = 1
 way:∀ t∈ss,t.2.1 * x + t.2.2.1 * y≤0
 edge:∃ t∈ss,(t.2.1≠0∨t.2.2.1≠0)∧t.2.1 * x + t.2.2.1 * y = 0
theorem zIi {a b p q:Int} (h:a * p + b * q = 0) (hp:p≤0) (hq:q≤0) (hab:0 < a * b):p = 0∧q = 0:=by
 have ha:a≠0:=fun z=>by rw [z,Int.zero_mul] at hab; omega
 have hb:b≠0:=fun z=>by rw [z,Int.mul_zero] at hab; omega
 by_cases c:0 < a
 ·have cb:0 < b:=by
   by_cases d:0 < b
   ·exact d
   ·have:=Int.mul_neg_of_pos_of_neg c (show b < 0 by omega)
    omega
  have z1:=Int.mul_nonneg (Int.le_of_lt c) (show 0≤-p by omega)
  have z2:=Int.mul_nonneg (Int.le_of_lt cb) (show 0≤-q by omega)
  rw [Int.mul_neg] at z1 z2
  exact ⟨(Int.mul_eq_zero.mp (show a * p = 0 by omega)).resolve_left ha,(Int.mul_eq_zero.mp (show b * q = 0 by omega)).resolve_left hb⟩
 ·have cb:b < 0:=by
   by_cases d:b < 0
   ·exact d
   ·have:=Int.mul_neg_of_neg_of_pos (show a < 0 by omega) (show 0 < b by omega)
    omega
  have z1:=Int.mul_nonneg (show 0≤-a by omega) (show 0≤-p by omega)
  have z2:=Int.mul_nonneg (show 0≤-b by omega) (show 0≤-q by omega)
  rw [Int.neg_mul_neg] at z1 z2
  exact ⟨(Int.mul_eq_zero.mp (show a * p = 0 by omega)).resolve_left ha,(Int.mul_eq_zero.mp (show b * q = 0 by omega)).resolve_left hb⟩
theorem rel3 (a b x1 y1 x2 y2 x3 y3:Int):(x2 * y3 - y2 * x3) * (a * x1 + b * y1) + (x3 * y1 - y3 * x1) * (a * x2 + b * y2) + (x1 * y2 - y1 * x2) * (a * x3 + b * y3) = 0:=by
 simp only [Int.mul_sub,Int.sub_mul,Int.add_mul,Int.mul_add,Int.mul_comm,Int.mul_left_comm]
 omega
theorem zOc {x y:Int} (h:Nat.gcd x.natAbs y.natAbs = 1):x≠0∨y≠0:=by
 by_cases c:x = 0
 ·right
  intro z
  rw [c,z] at h
  exact absurd h (by decide)
 ·exact .inl c
theorem zB6.contra {ss:List Sd} {x1 y1 x2 y2 x3 y3:Int} (w1:zB6 ss x1 y1) (w2:zB6 ss x2 y2) (w3:zB6 ss x3 y3) (h:x1 * y2 - y1 * x2 = 0) (hn:x1 * x2 + y1 * y2 < 0):x1 * y3 - y1 * x3 = 0:=by
 obtain ⟨t,mt,nt,et⟩:=w3.edge
 have p1:=w1.way t mt
 have p2:=w2.way t mt
 have hN:=zJ2 (zOc w1.low)
 have e:(x1 * x1 + y1 * y1) * (t.2.1 * x2 + t.2.2.1 * y2) = (x1 * x2 + y1 * y2) * (t.2.1 * x1 + t.2.2.1 * y1) + (x1 * y2 - y1 * x2) * (t.2.2.1 * x1 - t.2.1 * y1):=by
  simp only [Int.mul_sub,Int.sub_mul,Int.add_mul,Int.mul_add,Int.mul_comm,Int.mul_left_comm]
  omega
 rw [h,Int.zero_mul,Int.add_zero] at e
 have z1:=Int.mul_nonneg (show 0≤x1 * x1 + y1 * y1 by omega) (show 0≤-(t.2.1 * x2 + t.2.2.1 * y2) by omega)
 have z2:=Int.mul_nonneg (show 0≤-(x1 * x2 + y1 * y2) by omega) (show 0≤-(t.2.1 * x1 + t.2.2.1 * y1) by omega)
 rw [Int.mul_neg] at z1
 rw [Int.neg_mul_neg] at z2
 have z:t.2.1 * x1 + t.2.2.1 * y1 = 0:=(Int.mul_eq_zero.mp (show (x1 * x2 + y1 * y2) * (t.2.1 * x1 + t.2.2.1 * y1) = 0 by omega)).resolve_left (by omega)
 exact flat nt z et
theorem dot_ne {x y u v:Int} (h:x * v - y * u = 0) (n1:x≠0∨y≠0) (n2:u≠0∨v≠0):x * u + y * v≠0:=fun z=>by
 have e:(x * x + y * y) * (u * u + v * v) = (x * u + y * v) * (x * u + y * v) + (x * v - y * u) * (x * v - y * u):=by
  simp only [Int.mul_sub,Int.sub_mul,Int.add_mul,Int.mul_add,Int.mul_comm,Int.mul_left_comm]
  omega
 rw [h,z,Int.zero_mul,Int.add_zero] at e
 have q1:=zJ2 n1
 have q2:=zJ2 n2
 have:=Int.mul_pos (show 0 < x * x + y * y by omega) (show 0 < u * u + v * v by omega)
 omega
theorem zB6.same {ss:List Sd} {x1 y1 x2 y2:Int} (w1:zB6 ss x1 y1) (w2:zB6 ss x2 y2) (d:¬ (x1 = x2∧y1 = y2)) (h:x1 * y2 - y1 * x2 = 0):x1 * x2 + y1 * y2 < 0:=by
 have:=dot_ne h (zOc w1.low) (zOc w2.low)
 by_cases c:0 < x1 * x2 + y1 * y2
 ·exact absurd (zSm w1.low w2.low h c) d
 ·omega
theorem zOu {ss:List Sd} {x1 y1 x2 y2 x3 y3:Int} (w1:zB6 ss x1 y1) (w2:zB6 ss x2 y2) (w3:zB6 ss x3 y3) (d12:¬ (x1 = x2∧y1 = y2)) (d13:¬ (x1 = x3∧y1 = y3)) (d23:¬ (x2 = x3∧y2 = y3)):False:=by
 have par:∀ {x1 y1 x2 y2 x3 y3:Int},zB6 ss x1 y1→zB6 ss x2 y2→zB6 ss x3 y3→¬ (x1 = x2∧y1 = y2)→¬ (x1 = x3∧y1 = y3)→¬ (x2 = x3∧y2 = y3)→x1 * y2 - y1 * x2≠0:=fun {x1 y1 x2 y2 x3 y3} w1 w2 w3 d12 d13 d23 h=>by
  have n12:=w1.same w2 d12 h
  have h13:=w1.contra w2 w3 h n12
  have n13:=w1.same w3 d13 h13
  have hN:=zJ2 (zOc w1.low)
  have e:(x1 * x1 + y1 * y1) * (x2 * x3 + y2 * y3) = (x1 * x2 + y1 * y2) * (x1 * x3 + y1 * y3) + (x1 * y2 - y1 * x2) * (x1 * y3 - y1 * x3):=by
   simp only [Int.mul_sub,Int.sub_mul,Int.add_mul,Int.mul_add,Int.mul_comm,Int.mul_left_comm]
   omega
  have e2:(x1 * x1 + y1 * y1) * (x2 * y3 - y2 * x3) = (x1 * x2 + y1 * y2) * (x1 * y3 - y1 * x3) - (x1 * y2 - y1 * x2) * (x1 * x3 + y1 * y3):=by
   simp only [Int.mul_sub,Int.sub_mul,Int.add_mul,Int.mul_add,Int.mul_comm,Int.mul_left_comm]
   omega
  rw [h,h13,Int.zero_mul,Int.add_zero] at e
  rw [h,h13,Int.zero_mul,Int.mul_zero,Int.sub_self] at e2
  have z:=(Int.mul_eq_zero.mp e2).resolve_left (by omega)
  have n23:=w2.same w3 d23 z
  have p:=Int.mul_pos_of_neg_of_neg n12 n13
  have q:=Int.mul_neg_of_pos_of_neg (show 0 < x1 * x1 + y1 * y1 by omega) n23
  omega
 have sw:∀ x y u v:Int,x * v - y * u = -(u * y - v * x):=fun x y u v=>by rw [Int.mul_comm u,Int.mul_comm v]; omega
 have a0:x2 * y3 - y2 * x3≠0:=par w2 w3 w1 d23 (fun z=>d12 ⟨z.1.symm,z.2.symm⟩) (fun z=>d13 ⟨z.1.symm,z.2.symm⟩)
 have b0:x3 * y1 - y3 * x1≠0:=par w3 w1 w2 (fun z=>d13 ⟨z.1.symm,z.2.symm⟩) (fun z=>d23 ⟨z.1.symm,z.2.symm⟩) d12
 have c0:x1 * y2 - y1 * x2≠0:=par w1 w2 w3 d12 d13 d23
 obtain ⟨t1,m1,n1,e1⟩:=w1.edge
 obtain ⟨t2,m2,n2,e2⟩:=w2.edge
 obtain ⟨t3,m3,n3,e3⟩:=w3.edge
 have r1:=rel3 t1.2.1 t1.2.2.1 x1 y1 x2 y2 x3 y3
 have r2:=rel3 t2.2.1 t2.2.2.1 x1 y1 x2 y2 x3 y3
 have r3:=rel3 t3.2.1 t3.2.2.1 x1 y1 x2 y2 x3 y3
 rw [e1,Int.mul_zero,Int.zero_add] at r1
 rw [e2,Int.mul_zero,Int.add_zero] at r2
 rw [e3,Int.mul_zero,Int.add_zero] at r3
 have k1:¬ 0 < (x3 * y1 - y3 * x1) * (x1 * y2 - y1 * x2):=fun p=>by
  have z:=zIi r1 (w2.way t1 m1) (w3.way t1 m1) p
  exact c0 (flat n1 e1 z.1)
 have k2:¬ 0 < (x2 * y3 - y2 * x3) * (x1 * y2 - y1 * x2):=fun p=>by
  have z:=zIi r2 (w1.way t2 m2) (w3.way t2 m2) p
  exact c0 (flat n2 z.1 e2)
 have k3:¬ 0 < (x2 * y3 - y2 * x3) * (x3 * y1 - y3 * x1):=fun p=>by
  have z:=zIi r3 (w1.way t3 m3) (w2.way t3 m3) p
  exact c0 (flat n3 z.1 z.2)
 generalize x2 * y3 - y2 * x3 = a at *
 generalize x3 * y1 - y3 * x1 = b at *
 generalize x1 * y2 - y1 * x2 = c at *
 have sg:∀ {p q:Int},p≠0→q≠0→¬ 0 < p * q→(0 < p∧q < 0)∨(p < 0∧0 < q):=fun {p q} hp hq h=>by
  by_cases cp:0 < p
  ·by_cases cq:0 < q
   ·exact absurd (Int.mul_pos cp cq) h
   ·exact .inl ⟨cp,by omega⟩
  ·by_cases cq:0 < q
   ·exact .inr ⟨by omega,cq⟩
   ·exact absurd (Int.mul_pos_of_neg_of_neg (by omega) (by omega)) h
 have s1:=sg b0 c0 k1
 have s2:=sg a0 c0 k2
 have s3:=sg a0 b0 k3
 omega
theorem WK.dir {ss:List Sd} {n:Nat} {k:List Int} (hn:∀ t∈ss,t.2.1≠0∨t.2.2.1≠0) (h:WK ss n k):∃ x y:Int,k = [x,y]∧zB6 ss x y:=by
 obtain ⟨j,t,_,gt,h⟩:=h
 have mt:=List.mem_of_getElem? gt
 have nt:=hn t mt
 have one:∀ X Y:Int,(X≠0∨Y≠0)→t.2.1 * X + t.2.2.1 * Y = 0→k = lowL [X,Y]→wayB ss X Y = true→∃ x y:Int,k = [x,y]∧zB6 ss x y:=fun X Y nXY e ek hw=>by
  obtain ⟨x,y,exy,gp,_,low,_⟩:=zU8 nXY
  have ex:x = X / (gcdL [X,Y]:Int)∧y = Y / (gcdL [X,Y]:Int):=by
   have z:[X / (gcdL [X,Y]:Int),Y / (gcdL [X,Y]:Int)] = [x,y]:=exy
   cases z
   exact ⟨rfl,rfl⟩
  refine ⟨x,y,ek.trans exy,low,fun u hu=>?_,t,mt,nt,?_⟩
  ·have z:=zUz (ss:=ss) gp
   rw [hw,← ex.1,← ex.2] at z
   exact of_decide_eq_true (List.all_eq_true.mp z u hu)
  ·have g0:(0:Int) < (gcdL [X,Y]:Int):=by omega
   have eX:=zB2 (ns:=[X,Y]) (n:=X) (by simp)
   have eY:=zB2 (ns:=[X,Y]) (n:=Y) (by simp)
   rw [← ex.1] at eX
   rw [← ex.2] at eY
   have z:(t.2.1 * x + t.2.2.1 * y) * (gcdL [X,Y]:Int) = 0:=by
    rw [Int.add_mul,Int.mul_assoc,Int.mul_assoc,eX,eY]
    exact e
   rcases Int.mul_eq_zero.mp z with z | z
   ·exact z
   ·omega
 rcases h with ⟨e,hw⟩ | ⟨e,hw⟩
 ·exact one _ _ (by omega) (by rw [Int.mul_neg,Int.mul_comm t.2.2.1]; omega) e hw
 ·exact one _ _ (by omega) (by rw [Int.mul_neg,Int.mul_comm t.2.2.1]; omega) e hw
theorem zS1 {ss:List Sd} {n:Nat} {ks:List (List Int)} (hn:∀ t∈ss,t.2.1≠0∨t.2.2.1≠0) (nd:ks.Nodup) (h:∀ k∈ks,WK ss n k):ks.length≤2:=by
 match ks,nd,h with
 | [],_,_=>exact Nat.zero_le _
 | [_],_,_=>exact (by decide:1≤2)
 | [_,_],_,_=>exact Nat.le_refl 2
 | a :: b :: c :: r,nd,h =>
  obtain ⟨x1,y1,rfl,w1⟩:=(h a (by simp)).dir hn
  obtain ⟨x2,y2,rfl,w2⟩:=(h b (by simp)).dir hn
  obtain ⟨x3,y3,rfl,w3⟩:=(h c (by simp)).dir hn
  simp only [List.nodup_cons,List.mem_cons,not_or] at nd
  exact (zOu w1 w2 w3 (fun z=>nd.1.1 (by rw [z.1,z.2])) (fun z=>nd.1.2.1 (by rw [z.1,z.2])) (fun z=>nd.2.1.1 (by rw [z.1,z.2]))).elim
end Sea

namespace L2
open PySem PySem.Spec PyProof.Rows

theorem zCz {x:Str} : ∀ (names:List (Str × NameKind)) (n:Nat) (acc:List (Str × Addr)),((x,NameKind.cell)∈names∨∃ c,acc.lookup x = some c)→∃ c,(cellsFrom n names acc).lookup x = some c
 | [],_,_,h=>h.elim (fun z=>nomatch z) id
 | (y,k) :: r,n,acc,h=>by
  unfold cellsFrom
  by_cases hk:(k == NameKind.cell) = true
  ·rw [if_pos hk]
   refine zCz r (n + 1) ((y,n) :: acc) ?_
   cases hx:x == y with
   | true=>exact .inr ⟨n,by rw [List.lookup_cons,hx]⟩
   | false =>
    rcases h with h | ⟨c,h⟩
    ·rcases List.mem_cons.mp h with e | e
     ·injection e with e1 _
      subst e1
      simp at hx
     ·exact .inl e
    ·exact .inr ⟨c,by rw [List.lookup_cons,hx]; exact h⟩
  ·rw [if_neg hk]
   refine zCz r n acc ?_
   rcases h with h | h
   ·rcases List.mem_cons.mp h with e | e
    ·injection e with _ e2
     subst e2
     exact absurd rfl hk
    ·exact .inl e
   ·exact .inr h
theorem zDm:∀ (names:List (Str × NameKind)) (h:Heap) (acc:List (Str × Addr)) (x:Str) (c:Addr),(cellsFrom h.objs.size names acc).lookup x = some c →
  (h.objs.size≤c∧(pushCells h names).IsCell c none∧(x,NameKind.cell)∈names)∨acc.lookup x = some c
 | [],_,_,_,_,e=>.inr e
 | (y,k) :: r,h,acc,x,c,e=>by
  unfold cellsFrom at e
  unfold pushCells
  by_cases hk:(k == NameKind.cell) = true
  ·rw [if_pos hk] at e
   rw [if_pos hk]
   have sz:(h.push { cls:=.type "cell", data:=.cell none }).objs.size = h.objs.size + 1:=Heap.size_push ..
   rcases zDm r (h.push { cls:=.type "cell", data:=.cell none }) ((y,h.objs.size) :: acc) x c (by rw [sz]; exact e) with ⟨a,b,m⟩ | e'
   ·exact .inl ⟨by rw [sz] at a; exact Nat.le_of_succ_le a,b,List.mem_cons_of_mem _ m⟩
   ·rw [List.lookup_cons] at e'
    cases hx:x == y with
    | true =>
     rw [hx] at e'
     have ec:h.objs.size = c:=Option.some.inj e'
     have ex:x = y:=by simpa using hx
     have ek:k = NameKind.cell:=by simpa using hk
     subst ec ex ek
     exact .inl ⟨Nat.le_refl _,⟨_,pushCells_keeps r _ _ _ (Heap.get?_push_size _ rfl),rfl⟩,List.mem_cons_self⟩
    | false =>
     rw [hx] at e'
     exact .inr e'
  ·rw [if_neg hk] at e
   rw [if_neg hk]
   rcases zDm r h acc x c e with ⟨a,b,m⟩ | e'
   ·exact .inl ⟨a,b,List.mem_cons_of_mem _ m⟩
   ·exact .inr e'
theorem zEi:∀ (names:List (Str × NameKind)) (n:Nat) (acc:List (Str × Addr)),(∀ x y c,acc.lookup x = some c→acc.lookup y = some c→x = y)→(∀ x c,acc.lookup x = some c→c < n) →
  ∀ x y c,(cellsFrom n names acc).lookup x = some c→(cellsFrom n names acc).lookup y = some c→x = y
 | [],_,_,hi,_=>hi
 | (z,k) :: r,n,acc,hi,hl=>by
  unfold cellsFrom
  by_cases hk:(k == NameKind.cell) = true
  ·rw [if_pos hk]
   refine zEi r (n + 1) ((z,n) :: acc) (fun x y c e1 e2=>?_) fun x c e=>?_
   ·rw [List.lookup_cons] at e1 e2
    cases hx:x == z with
    | true =>
     rw [hx] at e1
     cases hy:y == z with
     | true=>rw [show x = z by simpa using hx,show y = z by simpa using hy]
     | false =>
      rw [hy] at e2
      have:=hl y c e2
      rw [← Option.some.inj e1] at this
      exact absurd this (Nat.lt_irrefl _)
    | false =>
     rw [hx] at e1
     cases hy:y == z with
     | true =>
      rw [hy] at e2
      have:=hl x c e1
      rw [← Option.some.inj e2] at this
      exact absurd this (Nat.lt_irrefl _)
     | false =>
      rw [hy] at e2
      exact hi x y c e1 e2
   ·rw [List.lookup_cons] at e
    cases hx:x == z with
    | true=>rw [hx] at e; rw [← Option.some.inj e]; exact Nat.lt_succ_self _
    | false=>rw [hx] at e; exact Nat.lt_succ_of_lt (hl x c e)
  ·rw [if_neg hk]
   exact zEi r n acc hi hl
def zJa (scope:Scope) (x:Str):Bool:=scope.names.any fun y=>y.1 == x && y.2 == .cell
structure OwnScope (X:Cx) (caps:List (Str × Nat)) (scope:Scope):Prop where
 kind:scope.kind = .function
 dis:(scope.names.all fun x=>!(x.2 == .free) || !zJa scope x.1) = true
 loc:∀ y∈scope.names,y.2 = .local→scope.names.lookup y.1 = some .local
 clos:(scope.names.all fun x=>!(x.2 == .free) || (X.env.cells.lookup x.1).isSome) = true
 cap:zJm X scope caps
section
variable {X:Cx} {T:List Str} {caps:List (Str × Nat)} {scope:Scope} {elt target iter:Expr} {ifs:List Expr} {pos cpos:Pos} {wi:TI} {g:CC→TG} {tt:CC→TT} {te:CC→TE}

def rEqE (K:PySem.W.Frag):R2:=fun x y H Q=>∃ (a b:Addr) (rs:List Addr),x = .ref a∧y = .ref b∧SqL K H a (rs.map V.ref)∧SqL K H b []∧Q (.bl rs.isEmpty) H
theorem op_eqE (hu:X.A.units < cLine):OpR X (compareOp .Eq) (rEqE X.K):=by
 intro pins s σ H x y v u Q I rx ry h
 obtain ⟨a,b,rs,rfl,rfl,h1,h2,q⟩:=h
 cases rx
 cases ry
 obtain ⟨us,r1,p1,_⟩:=I.list h1
 obtain ⟨ws,r2,p2,_⟩:=I.list h2
 have e1:=zEg r1
 have e2:=Vals.zero r2
 subst e1 e2
 cases rs with
 | nil =>
  refine SeqAt.RcAt.lists (e:=fun _=>true) p1.isList p2.isList rfl hu (fun j g _=>absurd g (by simp)) X.prog X.w _ _ ?_
  exact ⟨.bl true,H,I,rfl,q⟩
 | cons r rs =>
  refine SeqAt.RcAt.lists_lengths p1.isList p2.isList (by simp) hu X.prog X.w _ _ ?_
  exact ⟨.bl false,H,I,rfl,q⟩
end
end L2

namespace Sea
open PySem L2
def InC (ss:List Sd) (x y:Int):Prop:=∀ t∈ss,t.2.1 * x + t.2.2.1 * y≤0
theorem zKe {ss:List Sd} {x y:Int} : wayB ss x y = true↔InC ss x y:=by
 unfold wayB InC
 rw [List.all_eq_true]
 exact ⟨fun h t ht=>of_decide_eq_true (h t ht),fun h t ht=>decide_eq_true (h t ht)⟩
theorem zEe {p q:Int} (hp:0 < p) (h:p * q≤0):q≤0:=by
 refine Int.not_lt.mp fun hq=>?_
 have:=Int.mul_pos hp hq
 omega
theorem zFd {a b m n:Int} (h:a * m + b * n = 0) (u v:Int):(a * a + b * b) * (u * m + v * n) = (a * n - b * m) * (v * a - u * b):=by
 have e:(a * a + b * b) * (u * m + v * n) - (a * n - b * m) * (v * a - u * b) = (a * m + b * n) * (a * u + b * v):=by
  simp only [Int.mul_sub,Int.sub_mul,Int.add_mul,Int.mul_add,Int.mul_comm,Int.mul_left_comm,Int.mul_assoc]
  omega
 rw [h,Int.zero_mul] at e
 omega
theorem zT7 {a b:Int} (h:a≠0∨b≠0):0 < a * a + b * b:=zJ2 h
theorem zMy {ss:List Sd} {t:Sd} {m n:Int} (nt:t.2.1≠0∨t.2.2.1≠0) (h:t.2.1 * m + t.2.2.1 * n = 0) (hm:m≠0∨n≠0) (hc:InC ss m n):InC ss (-t.2.2.1) t.2.1∨InC ss t.2.2.1 (-t.2.1):=by
 have pos:=zT7 nt
 have nl:t.2.1 * n - t.2.2.1 * m≠0:=fun z=>by
  have e1:=zFd h 1 0
  have e2:=zFd h 0 1
  rw [z,Int.zero_mul (0 * t.2.1 - 1 * t.2.2.1)] at e1
  rw [z,Int.zero_mul (1 * t.2.1 - 0 * t.2.2.1)] at e2
  have f1:m = 0:=by
   rcases Int.mul_eq_zero.mp e1 with q | q
   ·omega
   ·omega
  have f2:n = 0:=by
   rcases Int.mul_eq_zero.mp e2 with q | q
   ·omega
   ·omega
  rcases hm with q | q
  ·exact q f1
  ·exact q f2
 rcases Int.lt_or_gt_of_ne nl with l | l
 ·refine .inr fun u hu=>?_
  have e:=zFd h u.2.1 u.2.2.1
  have hl:(t.2.1 * t.2.1 + t.2.2.1 * t.2.2.1) * (u.2.1 * m + u.2.2.1 * n)≤0:=Int.mul_nonpos_of_nonneg_of_nonpos (Int.le_of_lt pos) (hc u hu)
  rw [e] at hl
  have e2:(t.2.1 * n - t.2.2.1 * m) * (u.2.2.1 * t.2.1 - u.2.1 * t.2.2.1) = (-(t.2.1 * n - t.2.2.1 * m)) * (u.2.1 * t.2.2.1 + u.2.2.1 * -t.2.1):=by
   rw [Int.neg_mul,← Int.mul_neg]
   congr 1
   rw [Int.mul_neg]
   omega
  rw [e2] at hl
  exact zEe (by omega) hl
 ·refine .inl fun u hu=>?_
  have e:=zFd h u.2.1 u.2.2.1
  have hl:(t.2.1 * t.2.1 + t.2.2.1 * t.2.2.1) * (u.2.1 * m + u.2.2.1 * n)≤0:=Int.mul_nonpos_of_nonneg_of_nonpos (Int.le_of_lt pos) (hc u hu)
  rw [e] at hl
  have e2:u.2.2.1 * t.2.1 - u.2.1 * t.2.2.1 = u.2.1 * -t.2.2.1 + u.2.2.1 * t.2.1:=by
   rw [Int.mul_neg]
   omega
  rw [e2] at hl
  exact zEe l hl
theorem zL3 {t:Sd} : InC [t] (-t.2.2.1) t.2.1:=fun u hu=>by
 rw [List.mem_singleton.mp hu]
 have:t.2.1 * -t.2.2.1 + t.2.2.1 * t.2.1 = 0:=by rw [Int.mul_neg,Int.mul_comm t.2.2.1]; omega
 omega
theorem InC.cons {s:Sd} {r:List Sd} {x y:Int} (h1:s.2.1 * x + s.2.2.1 * y≤0) (h2:InC r x y):InC (s :: r) x y:=fun t ht=>by
 rcases List.mem_cons.mp ht with e | e
 ·rw [e]; exact h1
 ·exact h2 t e
theorem InC.tail {s:Sd} {r:List Sd} {x y:Int} (h:InC (s :: r) x y):InC r x y:=fun t ht=>h t (List.mem_cons_of_mem _ ht)
theorem zIq {x y:Int} (hxy:x≠0∨y≠0):∀ {ss:List Sd},(∀ t∈ss,t.2.1≠0∨t.2.2.1≠0)→ss≠[]→InC ss x y→∃ t∈ss,InC ss (-t.2.2.1) t.2.1∨InC ss t.2.2.1 (-t.2.1)
 | [],_,h,_=>absurd rfl h
 | [t],_,_,_=>⟨t,List.mem_singleton.mpr rfl,.inl zL3⟩
 | s :: s2 :: r,hn,_,hd=>by
  obtain ⟨t,mt,ht⟩:=zIq hxy (ss:=s2 :: r) (fun t mt=>hn t (List.mem_cons_of_mem _ mt)) (by simp) hd.tail
  have mt':t∈s :: s2 :: r:=List.mem_cons_of_mem _ mt
  have ns:=hn s List.mem_cons_self
  have one:∀ f g:Int,InC (s2 :: r) f g→(InC (s :: s2 :: r) f g∨InC (s :: s2 :: r) (-f) (-g))∨∃ t∈s :: s2 :: r,InC (s :: s2 :: r) (-t.2.2.1) t.2.1∨InC (s :: s2 :: r) t.2.2.1 (-t.2.1):=fun f g hf=>by
   by_cases hs:s.2.1 * f + s.2.2.1 * g≤0
   ·exact .inl (.inl (hf.cons hs))
   have hp:0 < s.2.1 * f + s.2.2.1 * g:=by omega
   have hsd:=hd s List.mem_cons_self
   have eS:s.2.1 * ((s.2.1 * f + s.2.2.1 * g) * x - (s.2.1 * x + s.2.2.1 * y) * f) + s.2.2.1 * ((s.2.1 * f + s.2.2.1 * g) * y - (s.2.1 * x + s.2.2.1 * y) * g) = 0:=by
    simp only [Int.mul_sub,Int.add_mul,Int.mul_add,Int.mul_comm,Int.mul_left_comm,Int.mul_assoc]
    omega
   have hm:InC (s :: s2 :: r) ((s.2.1 * f + s.2.2.1 * g) * x - (s.2.1 * x + s.2.2.1 * y) * f) ((s.2.1 * f + s.2.2.1 * g) * y - (s.2.1 * x + s.2.2.1 * y) * g):=by
    refine InC.cons (Int.le_of_eq eS) fun u hu=>?_
    have e:u.2.1 * ((s.2.1 * f + s.2.2.1 * g) * x - (s.2.1 * x + s.2.2.1 * y) * f) + u.2.2.1 * ((s.2.1 * f + s.2.2.1 * g) * y - (s.2.1 * x + s.2.2.1 * y) * g)
      = (s.2.1 * f + s.2.2.1 * g) * (u.2.1 * x + u.2.2.1 * y) + (-(s.2.1 * x + s.2.2.1 * y)) * (u.2.1 * f + u.2.2.1 * g):=by
     simp only [Int.mul_sub,Int.add_mul,Int.mul_add,Int.neg_mul,Int.mul_neg,Int.neg_add,Int.mul_comm,Int.mul_left_comm,Int.mul_assoc]
     omega
    rw [e]
    have z1:=Int.mul_nonpos_of_nonneg_of_nonpos (Int.le_of_lt hp) (hd.tail u hu)
    have z2:=Int.mul_nonpos_of_nonneg_of_nonpos (a:=-(s.2.1 * x + s.2.2.1 * y)) (by omega) (hf u hu)
    omega
   by_cases hz:(s.2.1 * f + s.2.2.1 * g) * x - (s.2.1 * x + s.2.2.1 * y) * f = 0∧(s.2.1 * f + s.2.2.1 * g) * y - (s.2.1 * x + s.2.2.1 * y) * g = 0
   ·-- the other way of f
    refine .inl (.inr fun u hu=>?_)
    have ne:s.2.1 * x + s.2.2.1 * y≠0:=fun z=>by
     have h1:=hz.1
     have h2:=hz.2
     rw [z,Int.zero_mul,Int.sub_zero] at h1 h2
     rcases hxy with q | q
     ·exact (Int.mul_eq_zero.mp h1).elim (fun e=>by omega) q
     ·exact (Int.mul_eq_zero.mp h2).elim (fun e=>by omega) q
    have lt:s.2.1 * x + s.2.2.1 * y < 0:=by omega
    have e:(-(s.2.1 * x + s.2.2.1 * y)) * (u.2.1 * -f + u.2.2.1 * -g) = (s.2.1 * f + s.2.2.1 * g) * (u.2.1 * x + u.2.2.1 * y):=by
     have a1:(s.2.1 * f + s.2.2.1 * g) * x = (s.2.1 * x + s.2.2.1 * y) * f:=by omega
     have a2:(s.2.1 * f + s.2.2.1 * g) * y = (s.2.1 * x + s.2.2.1 * y) * g:=by omega
     have b1:(s.2.1 * f + s.2.2.1 * g) * (u.2.1 * x + u.2.2.1 * y) = u.2.1 * ((s.2.1 * f + s.2.2.1 * g) * x) + u.2.2.1 * ((s.2.1 * f + s.2.2.1 * g) * y):=by
      rw [Int.mul_add,Int.mul_left_comm,Int.mul_left_comm (s.2.1 * f + s.2.2.1 * g) u.2.2.1]
     have b2:(-(s.2.1 * x + s.2.2.1 * y)) * (u.2.1 * -f + u.2.2.1 * -g) = u.2.1 * ((s.2.1 * x + s.2.2.1 * y) * f) + u.2.2.1 * ((s.2.1 * x + s.2.2.1 * y) * g):=by
      rw [Int.mul_neg,Int.mul_neg,← Int.neg_add,Int.neg_mul_neg,Int.mul_add,Int.mul_left_comm,Int.mul_left_comm (s.2.1 * x + s.2.2.1 * y) u.2.2.1]
     rw [b1,b2,a1,a2]
    have z:=Int.mul_nonpos_of_nonneg_of_nonpos (Int.le_of_lt hp) (hd u hu)
    rw [← e] at z
    exact zEe (by omega) z
   ·refine .inr ⟨s,List.mem_cons_self,zMy ns eS ?_ hm⟩
    by_cases h1:(s.2.1 * f + s.2.2.1 * g) * x - (s.2.1 * x + s.2.2.1 * y) * f = 0
    ·exact .inr fun h2=>hz ⟨h1,h2⟩
    ·exact .inl h1
  rcases ht with h | h
  ·rcases one _ _ h with (q | q) | q
   ·exact ⟨t,mt',.inl q⟩
   ·rw [Int.neg_neg] at q
    exact ⟨t,mt',.inr q⟩
   ·exact q
  ·rcases one _ _ h with (q | q) | q
   ·exact ⟨t,mt',.inr q⟩
   ·rw [Int.neg_neg] at q
    exact ⟨t,mt',.inl q⟩
   ·exact q
theorem zTi {ss:List Sd} (hn:∀ t∈ss,t.2.1≠0∨t.2.2.1≠0) (ne:ss≠[]) (h:∀ k,¬ WK ss ss.length k) {x y:Int} (hxy:x≠0∨y≠0):wayB ss x y = false:=by
 cases e:wayB ss x y with
 | false=>rfl
 | true =>
  obtain ⟨t,mt,ht⟩:=zIq hxy hn ne (zKe.mp e)
  obtain ⟨j,hj,ej⟩:=List.getElem_of_mem mt
  have gj:ss[j]? = some t:=by rw [List.getElem?_eq_getElem hj,ej]
  rcases ht with q | q
  ·exact absurd ⟨j,t,hj,gj,.inl ⟨rfl,zKe.mpr q⟩⟩ (h _)
  ·exact absurd ⟨j,t,hj,gj,.inr ⟨rfl,zKe.mpr q⟩⟩ (h _)
end Sea

namespace Sea
open PySem L2
structure PIb (t:TE) (σ:St) (i:Int) (n:Nat):Prop where
 rd:∀ (H:Hp) (Q:VK),Q (.int i) H→t σ H Q
 le:i.natAbs≤n
section
variable {σ:St} {ta tb:TE} {i j:Int} {m n:Nat}
end
abbrev rwRefs (xs:List (Addr × List Pr)):List V:=(xs.map (·.1)).map V.ref
structure Leads (G:Hp) (lo:Addr) (M:Nat) (xs:List (Addr × List Pr)):Prop where
 at':G lo = some (.lst (rwRefs xs))
 all:∀ u∈xs,u.1≠lo∧G u.1 = some (.lst (refsOf u.2))∧PrOk G M u.2
end Sea

namespace L2
open PySem PySem.Spec PyProof.Rows PySem.W
def cdO (c:Addr) (qual:Str):HO:=.ext fun h=>h.CodeRec (.ref c) qual
def fnO (f:Addr) (name qual:Str) (params:Arguments) (body:List Stmt) (scope:Scope) (clos:List (Str × Addr)) (c':Addr):HO :=
 .ext fun h=>∃ doc pm ctv,h.get? f = some (fnMade name qual params body scope clos doc pm c' ctv)
def zT3 (P:Addr) (pos:Pos) (qual:Str) (H:Hp):Prop:=∃ ps:Array Value,H P = some (.tbl ps)∧TriplesOk ps.toList∧(codeAmong pos ps.toList = none∨∃ c',codeAmong pos ps.toList = some (.ref c')∧H c' = some (cdO c' qual))
structure zJ6 (base:Heap) (mg:Str→Option Value) (c P:Addr):Prop where
 code:CodeHd base c P
 blt:∃ bm ob,mg "__builtins__" = some (.ref bm)∧bm≠builtinsNs∧bm≠mainGlobals∧base.get? bm = some ob∧ob.cls = .type "module" ∧ ob.dict = some builtinsNs∧ob.data = .plain
theorem cdO_ok {P:Program} {w:World} {H:Hp} {h:Heap} {c:Addr} {qual:Str} (r:h.CodeRec (.ref c) qual):zCc P w H h c (cdO c qual):=by
 obtain ⟨c',o,vs,t,e,ho,hd,hv⟩:=id r
 cases e
 refine ⟨r,⟨o,ho⟩,fun h1 h2 r1 k=>?_⟩
 obtain ⟨_,o,vs,t,e,ho,hd,hv⟩:=r1
 cases e
 exact ⟨_,o,vs,t,rfl,k _ ho,hd,hv⟩
theorem zTl {P:Program} {w:World} {H:Hp} {h:Heap} {f c':Addr} {name qual:Str} {params:Arguments} {body:List Stmt} {scope:Scope} {clos:List (Str × Addr)} {doc pm ctv:Value} (e:h.get? f = some (fnMade name qual params body scope clos doc pm c' ctv)) :
  zCc P w H h f (fnO f name qual params body scope clos c') :=
 ⟨⟨doc,pm,ctv,e⟩,⟨_,e⟩,fun _ _ ⟨d,p,v,e⟩ k=>⟨d,p,v,k _ e⟩⟩
def tDef (i:Nat) (P:Addr) (pos:Pos) (name qual:Str) (params:Arguments) (body:List Stmt) (scope:Scope) (clos:List (Str × Addr)):TS:=fun D σ H=>zT3 P pos qual H ∧
 ∀ (f c':Addr) (H':Hp),H f = none→f≠P→H' f = some (fnO f name qual params body scope clos c')→H' c' = some (cdO c' qual)→zT3 P pos qual H'→(∀ b o,b≠P→H b = some o→H' b = some o)→D.nx (σ.set i (some (.ref f))) H'
section
variable {X:Cx}
theorem ps_def {i:Nat} {name:Str} {params:Arguments} {body:List Stmt} {scope:Scope} {pos:Pos} {c P:Addr} {clos:List (Str × Addr)} (N:zJ6 X.base X.mg c P) (hcd:X.env.code = .ref c) (hcl:closureFor scope X.env = pure clos)
  (hN:X.N.Nodup) (hi:X.N[i]? = some name) (hx:Loc X.env.scope name) (hd0:params.defaults = []:=by rfl) (hk0:params.kw_defaults = []:=by rfl) (ha:annTrees params none X.env = []:=by rfl)
  (hf:X.fn name = true∨X.env.scope.names.lookup name = some .local:=by first | exact .inl rfl | exact .inr rfl | assumption) :
  PS X (.FunctionDef name params body [] none [] scope none name pos) (tDef i P pos name (qualnameIn X.env name name) params body scope clos):=by
 intro pins s σ H D I h
 obtain ⟨⟨ps,eP,tr,hc⟩,h⟩:=h
 have hP:s.heap.get? P = some (tabObj ps):=I.hok P _ eP
 have hns:s.heap.Ns mainGlobals X.mg:=I.ok.mod.glob.keeps I.bk
 have hgP:mainGlobals≠P:=fun z=>by
  obtain ⟨o,es,ep,e,d,_⟩:=id hns
  rw [z,hP] at e
  cases e
  cases d
 have hb:s.heap.BuiltinsAt X.mg P:=by
  obtain ⟨bm,ob,b1,b2,b3,b4,b5,b6,b7⟩:=N.blt
  refine ⟨bm,ob,b1,b2,b3,fun z=>?_,I.bk _ _ b4,b5,b6,b7⟩
  have e:=I.bk _ _ b4
  rw [z,hP] at e
  cases e
  cases b5
 refine nestDef_K hd0 hk0 ha ?_
 rcases hc with hn | ⟨c',hc',ec'⟩
 ·refine makeFunction_K (mg:=X.mg) hcl I.ok.glob hns hcd (N.code.keeps I.bk) hP tr hn hgP hb fun c' ctv doc h' tk hx' hge hlt hrec htb=>?_
  let o:Obj:=fnMade name (qualnameIn X.env name name) params body scope clos doc ((X.mg "__name__").getD .none) c' ctv
  let ps2:=ps ++ #[rawInt pos.line,rawInt pos.col,.ref c']
  let H3:=upd (upd (upd H P (.tbl ps2)) c' (cdO c' (qualnameIn X.env name name))) h'.objs.size (fnO h'.objs.size name (qualnameIn X.env name name) params body scope clos c')
  have hPlt:P < s.heap.objs.size:=Heap.lt_size hP
  have hcf:c'≠h'.objs.size:=Nat.ne_of_lt hlt
  have nc:∀ b,b < s.heap.objs.size→b≠c':=fun b hb=>Nat.ne_of_lt (Nat.lt_of_lt_of_le hb hge)
  have nf:∀ b,b < s.heap.objs.size→b≠h'.objs.size:=fun b hb=>Nat.ne_of_lt (Nat.lt_of_lt_of_le hb (Nat.le_trans hge (Nat.le_of_lt hlt)))
  have ff:H h'.objs.size = none:=I.hok.fresh (Nat.le_trans hge (Nat.le_of_lt hlt))
  have fP:h'.objs.size≠P:=fun z=>absurd hPlt (by rw [← z]; exact Nat.not_lt_of_ge (Nat.le_trans hge (Nat.le_of_lt hlt)))
  have cP:c'≠P:=(nc P hPlt).symm
  have up:∀ b,b < s.heap.objs.size→b≠P→H3 b = H b:=fun b hb hbP=>by
   show upd (upd (upd H P _) c' _) h'.objs.size _ b = _
   rw [zAo (nf b hb),zAo (nc b hb),zAo hbP]
  have lt:∀ b u,H b = some u→b < s.heap.objs.size:=fun b u e=>I.hok.lt e
  have kp:∀ b u,b≠P→s.heap.get? b = some u→(h'.push o).get? b = some u:=fun b u hb e=>Heap.get?_push_of_some _ (hx' b u hb e)
  have eP3:H3 P = some (.tbl ps2):=by
   show upd (upd (upd H P _) c' _) h'.objs.size _ P = _
   rw [zAo fP.symm,zAo cP.symm,zAb]
  have ec3:H3 c' = some (cdO c' (qualnameIn X.env name name)):=by
   show upd (upd (upd H P _) c' _) h'.objs.size _ c' = _
   rw [zAo hcf,zAb]
  have ef3:H3 h'.objs.size = some (fnO h'.objs.size name (qualnameIn X.env name name) params body scope clos c'):=zAb
  have keep3:∀ b u,b≠P→H b = some u→H3 b = some u:=fun b u hb e=>by rw [up b (lt b u e) hb]; exact e
  have I3:Inv X pins σ H3 { s with heap:=h'.push o,toks:=tk }:=by
   refine I.un (h':=h'.push o) (t':=tk) ⟨fun b u e n _ _=>?_,fun b u e n _ _=>?_,fun b u e n _=>?_,fun b u e _=>?_,fun b xs e=>?_,fun b u v e=>?_,fun b qs e=>?_⟩ fun a u e=>?_
   ·exact kp b u (fun z=>by rw [z,eP] at n; cases n) e
   ·exact ⟨u.slots,kp b u (fun z=>by rw [z,eP] at n; cases n) e⟩
   ·rw [up b (Heap.lt_size e) (fun z=>by rw [z,eP] at n; cases n)]; exact n
   ·by_cases hb:b = P
    ·rw [hb]; exact ⟨_,Heap.get?_push_of_some _ htb⟩
    ·exact ⟨u,kp b u hb e⟩
   ·exact keep3 b _ (fun z=>by rw [z,eP] at e; cases e) e
   ·exact keep3 b _ (fun z=>by rw [z,eP] at e; cases e) e
   ·by_cases hb:b = P
    ·rw [hb,eP] at e
     cases e
     exact ⟨_,by rw [hb]; exact eP3⟩
    ·exact ⟨#[],by rw [keep3 b _ hb e]; simp⟩
   ·by_cases h1:a = h'.objs.size
    ·rw [h1,ef3] at e
     cases e
     rw [h1]
     exact zTl (Heap.get?_push_size _ rfl)
    ·by_cases h2:a = c'
     ·rw [h2,ec3] at e
      cases e
      rw [h2]
      obtain ⟨d,ob,vs,t,e1,ho,r⟩:=hrec
      cases e1
      exact cdO_ok ⟨_,ob,vs,t,rfl,Heap.get?_push_of_some _ ho,r⟩
     ·by_cases h3:a = P
      ·rw [h3,eP3] at e
       cases e
       rw [h3]
       exact Heap.get?_push_of_some _ htb
      ·have e':H a = some u:=by
        have z:upd (upd (upd H P (.tbl ps2)) c' (cdO c' (qualnameIn X.env name name))) h'.objs.size (fnO h'.objs.size name (qualnameIn X.env name name) params body scope clos c') a = some u:=e
        rwa [zAo h1,zAo h2,zAo h3] at z
       refine (I.hok a u e').stay (fun b v hb q=>kp b v (fun z=>?_) q) (fun b q=>keep3 b _ (fun z=>by rw [z,eP] at q; cases q) q) fun b xs q=>keep3 b _ (fun z=>by rw [z,eP] at q; cases q) q
       rcases hb with hb | hb
       ·exact h3 (by rw [← hb]; exact z)
       ·rw [z,eP] at hb; cases hb
  refine zCn I3 hN hi hx (v:=.ref h'.objs.size) rfl (fun s' I'=>⟨_,_,I',h _ c' H3 ff fP ef3 ec3 ⟨ps2,eP3,?_,.inr ⟨c',?_,ec3⟩⟩ keep3⟩) hf
  ·show TriplesOk (ps ++ #[rawInt pos.line,rawInt pos.col,.ref c']).toList
   rw [Array.toList_append]
   exact TriplesOk_snoc _ _ _ _ tr
  ·show codeAmong pos (ps ++ #[rawInt pos.line,rawInt pos.col,.ref c']).toList = _
   rw [Array.toList_append]
   exact codeAmong_snoc _ tr hn
 ·refine makeFunction_hit (mg:=X.mg) hcl I.ok.glob hns hcd (N.code.keeps I.bk) hP tr hc' hb fun ctv doc h' tk hk hsz=>?_
  have ff:H h'.objs.size = none:=I.hok.fresh hsz
  have fP:h'.objs.size≠P:=fun z=>absurd (Heap.lt_size hP) (by rw [← z]; exact Nat.not_lt_of_ge hsz)
  have keep3:∀ b u,b≠P→H b = some u→upd H h'.objs.size (fnO h'.objs.size name (qualnameIn X.env name name) params body scope clos c') b = some u:=fun b u _ e=>by rw [zAo (zAy e ff)]; exact e
  have I3:=I.laid (a:=h'.objs.size) (o:=fnO h'.objs.size name (qualnameIn X.env name name) params body scope clos c') (t':=tk) (h':=h'.push (fnMade name (qualnameIn X.env name name) params body scope clos doc ((X.mg "__name__").getD .none) c' ctv))
   (fun b u e=>Heap.get?_push_of_some _ (hk b u e)) hsz (zTl (Heap.get?_push_size _ rfl))
  refine zCn I3 hN hi hx (v:=.ref h'.objs.size) rfl (fun s' I'=>⟨_,_,I',h _ c' _ ff fP zAb ?_ ⟨ps,?_,tr,.inr ⟨c',hc',?_⟩⟩ keep3⟩) hf
  ·rw [zAo (zAy ec' ff)]; exact ec'
  ·rw [zAo fP.symm]; exact eP
  ·rw [zAo (zAy ec' ff)]; exact ec'
end
structure zGl (N:List Str) (x y:Str) (j:Nat) (sc:Scope):Prop where
 kind:sc.kind = .function
 co:sc.isCoroutine = false
 gen:sc.isGenerator = false
 nd:N.Nodup
 par:N[0]? = some x
 loc:sc.names.lookup x = some .local
 cap:N[j]? = some y
 fr:sc.names.lookup y = some .free
 own:zJa sc y = false
 only:(sc.names.all fun z=>!(z.2 == .free) || z.1 == y) = true
def zJw (CX:CXT) (P:Program) (w:World) (K:PySem.W.Frag) (mg:Str→Option Value) (base:Heap) (N:List Str) (qual:Str) (scope:Scope) (f:Addr) (cd:Value) (clos:List (Str × Addr)) (A:Around) (outer:List Env) (s:Shared) (H:Hp) (E:XK):Cx where
 prog:=P
 w:=w
 K:=K
 mg:=mg
 base:=base
 A:=A.deeper (envX qual scope s.heap.objs.size f cd (cellsFrom (s.heap.objs.size + 1) scope.names clos))
 N:=N
 s₀:=s
 H₀:=H
 env:=envX qual scope s.heap.objs.size f cd (cellsFrom (s.heap.objs.size + 1) scope.names clos)
 outer:=outer
 stack:=envX qual scope s.heap.objs.size f cd (cellsFrom (s.heap.objs.size + 1) scope.names clos) :: outer
 ex:=[]
 calm:=true
 fn:=zJa scope
 pn:=[]
 xe:=fun e s'=>wpAny (model P w) (A.deeper (envX qual scope s.heap.objs.size f cd (cellsFrom (s.heap.objs.size + 1) scope.names clos))) (leaving (envX qual scope s.heap.objs.size f cd (cellsFrom (s.heap.objs.size + 1) scope.names clos)) e) (fun _ s''=>CX outer H s E e s'') (fun e' s''=>CX outer H s E e' s'') s'
def zMf (N:List Str) (j:Nat) (v:V):St:=(List.replicate N.length none).set j (some v)
theorem zOn {CX:CXT} {P:Program} {w:World} {K:PySem.W.Frag} {mg:Str→Option Value} {base:Heap} {N:List Str} {qual x y:Str} {j:Nat} {scope:Scope} {f cc:Addr} {cd u:Value} {v:V} {A:Around} {outer:List Env} {s:Shared} {H:Hp} {E:XK}
  (S:zGl N x y j scope) (hd:A.handled = none) (e0:Env0 P w K mg base A outer s H) (hc:s.heap.IsCell cc (some u)) (hH:H cc = none) (rv:RelV v u) :
  Inv (zJw CX P w K mg base N qual scope f cd [(y,cc)] A outer s H E) [] (zMf N j v) H { s with heap:=pushCells (s.heap.push { cls:=.type "frame", data:=.dict #[] }) scope.names }:=by
 have sz:(s.heap.push { cls:=.type "frame", data:=.dict #[] }).objs.size = s.heap.objs.size + 1:=Heap.size_push ..
 have cs:∀ (z:Str) (c:Addr),List.lookup z [(y,cc)] = some c→z = y∧c = cc:=fun z c e=>by
  rw [List.lookup_cons] at e
  cases hz:z == y with
  | true=>rw [hz] at e; exact ⟨by simpa using hz,(Option.some.inj e).symm⟩
  | false=>rw [hz] at e; cases e
 have old:∀ b o,s.heap.get? b = some o→(pushCells (s.heap.push { cls:=.type "frame", data:=.dict #[] }) scope.names).get? b = some o:=fun b o e=>pushCells_keeps _ _ b o (Heap.get?_push_of_some _ e)
 have ltc:cc < s.heap.objs.size:=hc.lt
 have ey:(cellsFrom (s.heap.objs.size + 1) scope.names [(y,cc)]).lookup y = some cc:=by
  obtain ⟨d,hd'⟩:=zCz (x:=y) scope.names (s.heap.objs.size + 1) [(y,cc)] (.inr ⟨cc,by simp⟩)
  rcases zDm scope.names (s.heap.push { cls:=.type "frame", data:=.dict #[] }) [(y,cc)] y d (by rw [sz]; exact hd') with ⟨_,_,m⟩ | z
  ·have h2:zJa scope y = true:=List.any_eq_true.mpr ⟨_,m,by simp⟩
   rw [S.own] at h2
   cases h2
  ·rw [hd',(cs y d z).2]
 have both:∀ z c,(cellsFrom (s.heap.objs.size + 1) scope.names [(y,cc)]).lookup z = some c →
   (s.heap.objs.size + 1≤c∧(pushCells (s.heap.push { cls:=.type "frame", data:=.dict #[] }) scope.names).IsCell c none∧(z,NameKind.cell)∈scope.names)∨(z = y∧c = cc):=fun z c e=>by
  rcases zDm scope.names (s.heap.push { cls:=.type "frame", data:=.dict #[] }) [(y,cc)] z c (by rw [sz]; exact e) with q | q
  ·rw [sz] at q; exact .inl q
  ·exact .inr (cs z c q)
 have hn:(pushCells (s.heap.push { cls:=.type "frame", data:=.dict #[] }) scope.names).Ns s.heap.objs.size (fun _=>none):=(Heap.Ns.new s.heap (.type "frame")).keeps (pushCells_keeps _ _)
 have noA:∀ b:Addr,b ∉ (zJw CX P w K mg base N qual scope f cd [(y,cc)] A outer s H E).ex:=fun b z=>absurd (show b∈([]:List Addr) from z) (by simp)
 have hjN:j < N.length:=(List.getElem?_eq_some_iff.mp S.cap).1
 refine ⟨⟨e0.mod,S.kind,rfl,rfl,Nat.le_refl _,zEi scope.names _ _ (fun a b c e1 e2=>by rw [(cs a c e1).1,(cs b c e2).1]) (fun a c e=>by rw [(cs a c e).2]; exact Nat.lt_succ_of_lt ltc),fun z hz=>?_,fun z c hf e=>?_,fun _=>hd,Around.frames_deeper e0.frames,.inr ⟨rfl,rfl⟩,fun b z=>absurd z (noA b),e0.bs,e0.bsz,fun b _ _=>noA b,fun b z=>absurd z (noA b),e0.funs,e0.frf⟩,
  rfl,e0.bare,Un.kept old,⟨_,hn,fun i z v' h1 h2 h3=>?_⟩,fun z c e=>?_,e0.hok.fresh (Nat.le_refl _),fun z c e=>?_,fun p hp=>absurd (show p∈([]:List (Addr × Obj)) from hp) (by simp),e0.hok.kept old,?_⟩
 ·have hz:scope.names.lookup z = some .cell∨scope.names.lookup z = some .free:=hz
  rcases hz with hz | hz
  ·exact zCz scope.names _ _ (.inl (PySem.mem_of_lookup hz))
  ·have h:=List.all_eq_true.mp S.only _ (PySem.mem_of_lookup hz)
   have ezy:z = y:=by simpa using h
   rw [ezy]
   exact ⟨cc,ey⟩
 ·rcases both z c e with ⟨a,_,_⟩ | ⟨e1,_⟩
  ·exact Nat.le_of_succ_le a
  ·have h2:zJa scope z = true:=hf
   rw [e1,S.own] at h2
   cases h2
 ·unfold zMf at h2
  by_cases hij:j = i
  ·subst hij
   rw [List.getElem?_set_self (by rw [List.length_replicate]; exact hjN)] at h2
   cases h2
   have ez:z = y:=by
    have h1':N[j]? = some z:=h1
    rw [S.cap] at h1'
    exact (Option.some.inj h1').symm
   subst ez
   obtain ⟨o,ho,hdo⟩:=hc
   exact ⟨u,rv,.inr ⟨.inr S.fr,cc,ey,o,old cc o ho,hdo⟩⟩
  ·rw [List.getElem?_set_ne hij,List.getElem?_replicate] at h2
   split at h2 <;> cases h2
 ·rcases both z c e with ⟨_,q,_⟩ | ⟨_,e1⟩
  ·exact ⟨none,q⟩
  ·obtain ⟨o,ho,hdo⟩:=hc
   rw [e1]
   exact ⟨_,o,old cc o ho,hdo⟩
 ·rcases both z c e with ⟨a,_,_⟩ | ⟨_,e1⟩
  ·exact e0.hok.fresh (Nat.le_of_succ_le a)
  ·rw [e1]; exact hH
 ·unfold zMf
  rw [List.length_set,List.length_replicate]
  rfl
theorem zS4 {CX:CXT} {P:Program} {w:World} {K:PySem.W.Frag} {mg:Str→Option Value} {base:Heap} {k:Nat} {N:List Str} {name qual x y:Str} {j:Nat} {params:Arguments} {body:List Stmt} {scope:Scope} {f cc c':Addr} {uc u:Value} {vc v:V} {A:Around} {outer:List Env} {s:Shared} {H:Hp} {Q:VK} {E:XK}
  (S:zGl N x y j scope) (hr:Room (k + 1) A) (e0:Env0 P w K mg base A outer s H) (hc:s.heap.IsCell cc (some uc)) (hH:H cc = none) (rvc:RelV vc uc) (rv:RelV v u)
  (ef:H f = some (fnO f name qual params body scope [(y,cc)] c')) (ec:H c' = some (cdO c' qual))
  (hbind:∀ doc pm ctv,bindArgs (fnX name qual params body scope [(y,cc)] .none .none doc pm none (.ref c') ctv) ⟨[u],[]⟩ = pure [(x,u)])
  (hbody:Room k (A.deeper (envX qual scope s.heap.objs.size f (.ref c') (cellsFrom (s.heap.objs.size + 1) scope.names [(y,cc)]))) →
   ∃ t,PSs (zJw CX P w K mg base N qual scope f (.ref c') [(y,cc)] A outer s H E) body t∧t { nx:=fun _ H'=>Q .non H',rt:=Q } ((zMf N j vc).set 0 (some v)) H) :
  codeAny (model P w) A (.call (.ref f) ⟨[u],[]⟩) (CR CX outer P w H s Q E) s:=by
 obtain ⟨⟨doc,pm,ctv,hfo⟩,_⟩:=e0.hok f _ ef
 obtain ⟨hrec,_⟩:=e0.hok c' _ ec
 refine codeAny_call_function hr.depth hfo rfl S.co S.gen rfl hrec ?_
 rw [hbind]
 refine wpAny_pure ?_
 simp only [newFunctionEnv,Option.isSome_none,Bool.false_eq_true,if_false]
 refine wpAny_bind (wpAny_alloc ?_)
 refine wpAny_bind (wpAny_layCells _ (fun name kind cells=>by cases hkc:kind == NameKind.cell <;> simp [hkc]) _ _ _ _ ?_)
 rw [show ({ s with heap:=s.heap.push { cls:=.type "frame", data:=.dict #[] } } : Shared).heap.objs.size = s.heap.objs.size + 1 from Heap.size_push ..]
 have I0:=zOn (CX:=CX) (qual:=qual) (f:=f) (cd:=.ref c') (E:=E) S hr.hd e0 hc hH rvc
 rw [List.forIn_cons]
 refine wpAny_bind (wpAny_bind (wpAny_bind ?_))
 refine zCn (X:=zJw CX P w K mg base N qual scope f (.ref c') [(y,cc)] A outer s H E) I0 S.nd S.par (.inl S.loc) rv (fun s1 I1=>wpAny_pure ?_) (.inr S.loc)
 dsimp only
 rw [List.forIn_nil]
 refine wpAny_pure (wpAny_pure ⟨I1.nolimit,codeAny_func ?_⟩)
 obtain ⟨t,ht,hq⟩:=hbody (hr.deeper _)
 refine wpAny_mono (ht [] s1 _ H _ I1 hq) (fun fl s' hs=>?_) fun e s' hs=>hs
 have fin:∀ {σ':St} {H':Hp} {v:V} {u:Value},Inv (zJw CX P w K mg base N qual scope f (.ref c') [(y,cc)] A outer s H E) [] σ' H' s'→RelV v u→Q v H'→CE outer P w H s Q u s' :=
  fun {σ' H' v u} J rv q=>⟨v,H',J.os,J.bare,J.base,J.hok,rv,q⟩
 cases fl with
 | ret u =>
  obtain ⟨v,σ',H',J,rv,q⟩:=hs
  exact fin J rv q
 | next =>
  obtain ⟨σ',H',J,q⟩:=hs
  exact fin (v:=V.non) (u:=Value.none) J rfl q
 | brk =>
  obtain ⟨_,_,_,q⟩:=hs
  exact False.elim q
 | cont =>
  obtain ⟨_,_,_,q⟩:=hs
  exact False.elim q
end L2
namespace PySem.W
open PySem PySem.Calls PyProof.Rows
section
variable {prog:Program} {w:World} {A:Around} {E:Value→Shared→Prop} {s:Shared} {a kS:Addr} {vs:List Value} {kz:List Int} {keys:Array Value} {e e1:Nat} {P:PySem.Fin→Shared→Prop}
theorem zJn {st:SortSt} (hoK:s.heap.get? kS = some (seqObj "list" keys e)) (hoA:s.heap.get? a = some (seqObj "list" #[] e1)) (hka:kS≠a)
  (hk:IntsAre keys.toList kz) (hlen:kz.length = vs.length) (h64:vs.length < 64) (hp:(arrOf st).Perm (keys.zip vs.toArray)) (hs:SortedTo (arrOf st) (arrOf st).size) (hfl:failedOf st = none)
  (h:∀ out:Array Value,out.size = vs.length→KskOut false kz vs out.toList→P (.done (.ret .none)) { s with heap:=(s.heap.update kS (Obj.mapSeq fun _=>#[])).update a (Obj.mapSeq fun _=>out) }) :
  wpAny (model prog w) A (ksk_tail a false e1 (.ref kS) st) P E s:=by
 have hsz:keys.size = vs.length:=by
  have h1:=hk.length
  rw [Array.length_toList] at h1
  omega
 have hsz2:((arrOf st).map (·.2)).size = vs.length:=by rw [Array.size_map,hp.size_eq,Array.size_zip,hsz,List.size_toArray,Nat.min_self]
 have s1:=Heap.SameBut.update s.heap kS (Obj.mapSeq fun _=>(#[]:Array Value))
 have na1:(s.heap.update kS (Obj.mapSeq fun _=>(#[]:Array Value))).get? a = some (seqObj "list" #[] e1):=(s1.2 a hka.symm).trans hoA
 unfold ksk_tail
 try dsimp only
 refine wpAny_bind (listUpdate_at hoK rfl ?_ (by rw [hsz,sizeLine_eq]; omega) (Nat.zero_le _))
 refine wpAny_bind (wpAny_letGo ?_)
 refine wpAny_bind (seqEpoch_at na1 rfl ?_)
 refine wpAny_bind (listUpdate_at na1 rfl ?_ (Nat.zero_le _) (Nat.le_trans (Nat.le_of_eq hsz2) (by rw [sizeLine_eq]; omega)))
 rw [hfl]
 simp only [bne_self_eq_false,Bool.false_eq_true,if_false]
 refine wpAny_pure (h _ hsz2 ?_)
 have z:=ksk_out (b:=false) hk hp hs
 simpa using z
theorem zRl (hoK:s.heap.get? kS = some (seqObj "list" keys e)) (hoA:s.heap.get? a = some (seqObj "list" #[] e1)) (hka:kS≠a)
  (hk:IntsAre keys.toList kz) (hlen:kz.length = vs.length) (h64:vs.length < 64)
  (h:∀ out:Array Value,out.size = vs.length→KskOut false kz vs out.toList→P (.done (.ret .none)) { s with heap:=(s.heap.update kS (Obj.mapSeq fun _=>#[])).update a (Obj.mapSeq fun _=>out) }) :
  wpAny (model prog w) A (ksk_end a false vs.toArray e1 (.ref kS) keys) P E s:=by
 have hsz:keys.size = vs.length:=by
  have h1:=hk.length
  rw [Array.length_toList] at h1
  omega
 have hzs:(keys.zip vs.toArray).size = vs.length:=by rw [Array.size_zip,hsz,List.size_toArray,Nat.min_self]
 unfold ksk_end
 simp only [Bool.false_eq_true,if_false]
 by_cases h2:vs.toArray.size < 2
 ·rw [if_pos h2,if_pos h2]
  refine wpAny_bind (wpAny_pure ?_)
  rw [StateT.run_pure]
  refine wpAny_bind (wpAny_pure ?_)
  try dsimp only
  refine zJn (st:=SortSt.mk' general' (keys.zip vs.toArray) #[] 7 none) hoK hoA hka hk hlen h64 (Array.Perm.refl _) ?_ rfl h
  intro i j hij hj
  have hj2:j < (keys.zip vs.toArray).size:=hj
  rw [hzs] at hj2
  rw [List.size_toArray] at h2
  have:i = j:=by omega
  subst this
  exact Int.le_refl _
 ·rw [if_neg h2,if_neg h2]
  rw [List.size_toArray] at h2
  rw [ksk_kind hk (by rw [hsz]; omega)]
  refine wpAny_bind (wpAny_pure ?_)
  refine wpAny_bind (wpAny_mono (wpS_sortRuns (a₀:=keys.zip vs.toArray) (st:=SortSt.mk' oneType' (keys.zip vs.toArray) #[] 7 none)
   (Q:=fun _ st'=>(arrOf st').Perm (keys.zip vs.toArray)∧failedOf st' = none∧SortedTo (arrOf st') (keys.zip vs.toArray).size)
   (ksk_intKeys hk) ⟨Array.Perm.refl _,rfl,rfl,rfl⟩ (by rw [hzs]; omega) (by rw [hzs]; exact h64) fun st' a1 a2 a3=>⟨a1,a2,a3⟩) ?_ fun _ _ e=>e)
  rintro ⟨⟨⟩,st'⟩ s' ⟨rfl,hp,hf,hs⟩
  try dsimp only
  exact zJn hoK hoA hka hk hlen h64 hp (by rw [hp.size_eq]; exact hs) hf h
end
end PySem.W
namespace L2
open PySem PySem.Spec PyProof.Rows PySem.W
theorem zUa {rs:List Addr} {key:Addr→Int} {out:List Value} (h:KskOut false (rs.map key) (rs.map Value.ref) out):∃ us:List Addr,us.Perm rs∧us.Pairwise (fun a b=>key a≤key b)∧out = us.map Value.ref:=by
 obtain ⟨ps,hp,rfl,hs⟩:=h
 have ez:(rs.map key).zip (rs.map Value.ref) = rs.map fun r=>(key r,Value.ref r):=by
  rw [List.zip_map,List.zip_eq_zipWith,List.zipWith_self,List.map_map]
  exact List.map_congr_left fun _ _=>rfl
 rw [ez] at hp
 let back:Value→Addr:=fun v=>match v with | .ref a=>a | _=>0
 have eb:∀ p∈ps,p = (key (back p.2),Value.ref (back p.2)):=fun p hpp=>by
  obtain ⟨r,_,rfl⟩:=List.mem_map.mp (hp.mem_iff.mp hpp)
  rfl
 refine ⟨ps.map fun p=>back p.2,?_,?_,?_⟩
 ·have z:=hp.map fun p=>back p.2
  rw [List.map_map] at z
  have e2:rs.map ((fun p:Int × Value=>back p.2) ∘ fun r=>(key r,Value.ref r)) = rs:=by
   refine Eq.trans (List.map_congr_left fun r _=>?_) (List.map_id rs)
   rfl
  rw [e2] at z
  exact z
 ·rw [List.pairwise_map]
  refine hs.imp_of_mem fun {p q} hpp hq hr=>?_
  have hr':p.1≤q.1:=by simpa using hr
  have e1:p.1 = key (back p.2):=congrArg Prod.fst (eb p hpp)
  have e2:q.1 = key (back q.2):=congrArg Prod.fst (eb q hq)
  rw [← e1,← e2]
  exact hr'
 ·rw [List.map_map]
  exact List.map_congr_left fun p hpp=>congrArg Prod.snd (eb p hpp)
section
variable {X:Cx}
theorem zPk {pins:List (Addr × Obj)} {σ:St} {H:Hp} {s:Shared} {l f:Addr} {rs:List Addr} {key:Addr→Int} {Q:VK} (I:Inv X pins σ H s) (hl:SqL X.K H l (rs.map V.ref)) (h64:rs.length < 64)
  (turn:∀ r∈rs,∀ (pins':List (Addr × Obj)) (H1:Hp) (s1:Shared),Same H H1→Inv X pins' σ H1 s1→wpAny (model X.prog X.w) X.A.in1.in1 (call (.ref f) [.ref r]) (fun u s2=>∃ t H2,u = .int (key r) t∧Inv X pins' σ H2 s2∧Same H1 H2) (fun _ _=>False) s1)
  (q:∀ (p:Addr) (us:List Addr) (H':Hp),H p = none→Same H H'→H' p = some (.lst (us.map V.ref))→us.Perm rs→us.Pairwise (fun a b=>key a≤key b)→Q (.ref p) H') :
  wpAny (model X.prog X.w) X.A (call (.builtin "sorted") [.ref l] [(Str.ofString "key", .ref f)]) (EP X pins σ Q) X.xe s:=by
 obtain ⟨its,rv,pl,hz⟩:=I.list hl
 have ei:=zEg rv
 subst ei
 have hlenV:(rs.map Value.ref).length = rs.length:=List.length_map ..
 refine call_function_entry_kw kind_sorted plain_sorted entry_sorted (ksk_s1 _ _) ?_
 unfold Builtin.«sorted»
 refine wpAny_bind (m:=checkCount "sorted" 1 1 _) (wpAny_pure ?_)
 refine wpAny_bind (collect_list pl.isList ?_ (by rw [hlenV,sizeLine_eq]; omega))
 refine wpAny_bind (wpAny_newList ?_ (by rw [hlenV,sizeLine_eq]; omega))
 have hsz:((s.heap.push (seqObj "list" #[] 0)).update s.heap.objs.size (Obj.mapSeq (· ++ (rs.map Value.ref).toArray))).objs.size = s.heap.objs.size + 1:=by
  rw [Heap.size_update,size_push']
 have hoL:(zBo s.heap (rs.map Value.ref)).get? (s.heap.objs.size + 1) = some (seqObj "list" (rs.map Value.ref).toArray 0):=by
  unfold zBo
  rw [← hsz]; exact Heap.get?_push_size _ rfl
 show wpAny _ _ _ _ _ { s with heap:=zBo s.heap (rs.map Value.ref) }
 rw [hsz]
 refine wpAny_bind (wpAny_holding (wpAny_call_entry_kw slot_list_sort ⟨_,hoL,rfl⟩ entry_list_sort ?body (ksk_l1 _ _)))
 case body =>
 show wpAny (model X.prog X.w) X.A.in1.in1 (Builtin.«list.sort» ⟨[.ref (s.heap.objs.size + 1)],[(Str.ofString "key", .ref f)]⟩) _ _ _
 rw [ksk_t1]
 obtain ⟨e1,ho1⟩:∃ e1,((zBo s.heap (rs.map Value.ref)).update (s.heap.objs.size + 1) (Obj.mapSeq fun _=>(#[]:Array Value))).get? (s.heap.objs.size + 1) = some (seqObj "list" #[] e1):=⟨_,get?_update_seq hoL fun _=>#[]⟩
 unfold ksk_tree
 refine wpAny_bind (listItems_at hoL rfl ?_)
 refine wpAny_bind (listUpdate_at hoL rfl ?_ (by rw [List.size_toArray,hlenV,sizeLine_eq]; omega) (Nat.zero_le _))
 refine wpAny_bind (seqEpoch_at ho1 rfl ?_)
 refine wpAny_bind (wpAny_newTuple ?_ (by show (rs.map Value.ref).length≤_; rw [hlenV,sizeLine_eq]; omega))
 refine wpAny_bind (wpAny_newList ?_ (Nat.zero_le _))
 refine wpAny_holding ?_
 dsimp only
 generalize hh1:((zBo s.heap (rs.map Value.ref)).update (s.heap.objs.size + 1) (Obj.mapSeq fun _=>(#[]:Array Value))).push (seqObj "tuple" (rs.map Value.ref).toArray 0) = h1
 have keep1:∀ b o,s.heap.get? b = some o→h1.get? b = some o:=fun b o e=>by
  have hlt:b < s.heap.objs.size:=Heap.lt_size e
  rw [← hh1]
  refine Heap.get?_push_of_some _ ?_
  rw [Heap.get?_update_ne _ _ _ _ (Nat.ne_of_lt (Nat.lt_succ_of_lt hlt))]
  exact zFy e
 have ea1:h1.get? (s.heap.objs.size + 1) = some (seqObj "list" #[] e1):=by rw [← hh1]; exact Heap.get?_push_of_some _ ho1
 have hsz1:h1.objs.size = s.heap.objs.size + 3:=by
  rw [← hh1,size_push',Heap.size_update]
  unfold zBo
  rw [size_push',hsz]
 have fa:H (s.heap.objs.size + 1) = none:=I.hok.fresh (Nat.le_succ _)
 have fk:H h1.objs.size = none:=I.hok.fresh (by rw [hsz1]; omega)
 have hka:h1.objs.size≠s.heap.objs.size + 1:=by rw [hsz1]; omega
 have laL:s.heap.objs.size + 1≠X.env.locals:=Nat.ne_of_gt (Nat.lt_succ_of_lt I.lt)
 have I1:Inv X pins σ H { s with heap:=h1 }:=I.kept (t':=s.toks) keep1
 have I2:Inv X (pins ++ [(s.heap.objs.size + 1,seqObj "list" #[] e1)]) σ (upd H h1.objs.size (.lst [])) { s with heap:=h1.push (seqObj "list" #[] 0) }:=by
  have J:=I1.laid (a:=h1.objs.size) (o:=.lst []) (t':=s.toks) (h':=h1.push (seqObj "list" #[] 0)) (fun b u e=>Heap.get?_push_of_some _ e) (Nat.le_refl _) ⟨Nat.zero_le _,[],0,.nil,Heap.get?_push_size _ rfl⟩
  refine J.pins_of fun p hp=>?_
  rcases List.mem_append.mp hp with hp | hp
  ·exact J.pin p (List.mem_append_right _ hp)
  ·rw [List.mem_singleton.mp hp]
   refine ⟨Heap.get?_push_of_some _ ea1,?_,laL,I.nofs (Nat.le_succ _),fun v z=>nomatch z⟩
   rw [zAo hka.symm]
   exact fa
 have s2:Same H (upd H h1.objs.size (.lst [])):=zAd fk _
 show wpAny (model X.prog X.w) X.A.in1.in1 (ksk_rest (s.heap.objs.size + 1) (.ref f) false (rs.map Value.ref).toArray e1 (.ref h1.objs.size)) _ _ { s with heap:=h1.push (seqObj "list" #[] 0) }
 unfold ksk_rest
 refine wpAny_bind (wpAny_rule ?_)
 rw [List.forIn_toArray]
 refine wpAny_bind (ksk_fold (fun i s'=>∃ H',Inv X (pins ++ [(s.heap.objs.size + 1,seqObj "list" #[] e1)]) σ H' s'∧Same H H'∧H' h1.objs.size = some (.lst ((rs.take i).map fun r=>V.int (key r)))) (rs.map Value.ref) 0 _ ⟨_,I2,s2,zAb⟩ ?step ?done)
 case step =>
  rintro j x s' hx ⟨H1,J,sH,eK⟩
  rw [Nat.zero_add] at eK ⊢
  rw [List.getElem?_map] at hx
  cases er:rs[j]? with
  | none=>rw [er] at hx; cases hx
  | some r =>
   rw [er] at hx
   cases hx
   have hj:j < rs.length:=(List.getElem?_eq_some_iff.mp er).1
   refine wpAny_bind (wpAny_attempt (wpAny_mono (turn r (List.mem_of_getElem? er) _ H1 s' sH J) (fun u s2 hu=>?_) fun _ _ hF=>hF.elim))
   obtain ⟨t,H2,rfl,J2,sH2⟩:=hu
   dsimp only
   have eK2:=sH2 _ _ eK
   obtain ⟨zl,ks,n,rk,ek⟩:=J2.hok _ _ eK2
   have lk:ks.length = j:=by
    have z:=rk.length
    rw [List.length_map,List.length_take] at z
    omega
   refine wpAny_bind (listUpdate_at ek rfl ?_ (by rw [List.size_toArray,lk,sizeLine_eq]; omega) (Nat.le_trans (Nat.le_of_eq (Array.size_push ..)) (by rw [List.size_toArray,lk,sizeLine_eq]; omega)))
   obtain ⟨c2,hc2⟩:∃ c2,(s2.heap.update h1.objs.size (Obj.mapSeq (·.push (.int (key r) t)))).get? h1.objs.size = some (seqObj "list" (ks.toArray.push (.int (key r) t)) c2):=⟨_,get?_update_seq ek (·.push (.int (key r) t))⟩
   have et:(rs.take (j + 1)).map (fun r=>V.int (key r)) = (rs.take j).map (fun r=>V.int (key r)) ++ [V.int (key r)]:=by rw [List.take_add_one,er]; simp
   have J3:=J2.write (x:=h1.objs.size) (e:=h1.objs.size) (o:=.lst ((rs.take (j + 1)).map fun r=>V.int (key r))) (t':=s2.toks) (h':=s2.heap.update h1.objs.size (Obj.mapSeq (·.push (.int (key r) t)))) (by rw [eK2]; exact trivial) (.inl rfl)
    (fun b u hb e=>by rw [Heap.get?_update_ne _ _ _ _ hb]; exact e) ⟨_,hc2⟩ ⟨by rw [List.length_map,List.length_take,sizeLine_eq]; omega,ks ++ [.int (key r) t],c2,by rw [et]; exact rk.append (.cons ⟨t,rfl⟩ .nil),by rw [hc2]; simp [seqObj]⟩
   refine wpAny_pure ⟨rfl,_,J3,fun b o e=>?_,zAb⟩
   rw [zAo (zAy e fk)]
   exact sH2 _ _ (sH _ _ e)
 case done =>
  rintro s3 ⟨H3,J,sH,eK⟩
  rw [Nat.zero_add,hlenV,List.take_length] at eK
  obtain ⟨zl,ks,n,rk,ek⟩:=J.hok _ _ eK
  try dsimp only
  refine wpAny_bind (listItems_at ek rfl ?_)
  obtain ⟨ea3,na3,_⟩:=J.pin (s.heap.objs.size + 1,seqObj "list" #[] e1) (List.mem_append_right _ (List.mem_append_right _ (List.mem_singleton.mpr rfl)))
  have hki:IntsAre ks.toArray.toList (rs.map key):=by
   rw [List.toList_toArray]
   refine zFc ?_
   rw [List.map_map]
   exact rk
  refine zRl (keys:=ks.toArray) (kz:=rs.map key) ek ea3 hka hki (by rw [List.length_map,List.length_map]) (by rw [hlenV]; exact h64) fun out hout hko=>⟨_,rfl,wpAny_pure ⟨_,rfl,?_⟩⟩
  obtain ⟨us,pm,pw,eo⟩:=zUa hko
  have hb2:=Heap.SameBut.update s3.heap h1.objs.size (Obj.mapSeq fun _=>(#[]:Array Value))
  obtain ⟨c3,hc3⟩:∃ c3,(s3.heap.update h1.objs.size (Obj.mapSeq fun _=>(#[]:Array Value))).get? h1.objs.size = some (seqObj "list" #[] c3):=⟨_,get?_update_seq ek fun _=>#[]⟩
  have J4:=J.write (x:=h1.objs.size) (e:=h1.objs.size) (o:=.lst []) (t':=s3.toks) (h':=s3.heap.update h1.objs.size (Obj.mapSeq fun _=>(#[]:Array Value))) (by rw [eK]; exact trivial) (.inl rfl)
   (fun b u hb e=>(hb2.2 b hb).trans e) ⟨_,hc3⟩ ⟨Nat.zero_le _,[],c3,.nil,hc3⟩
  have na4:upd H3 h1.objs.size (.lst []) (s.heap.objs.size + 1) = none:=by rw [zAo hka.symm]; exact na3
  have ea4:(s3.heap.update h1.objs.size (Obj.mapSeq fun _=>(#[]:Array Value))).get? (s.heap.objs.size + 1) = some (seqObj "list" #[] e1):=(hb2.2 _ hka.symm).trans ea3
  obtain ⟨c4,hc4⟩:∃ c4,((s3.heap.update h1.objs.size (Obj.mapSeq fun _=>(#[]:Array Value))).update (s.heap.objs.size + 1) (Obj.mapSeq fun _=>out)).get? (s.heap.objs.size + 1) = some (seqObj "list" out c4):=⟨_,get?_update_seq ea4 fun _=>out⟩
  have hb4:=Heap.SameBut.update (s3.heap.update h1.objs.size (Obj.mapSeq fun _=>(#[]:Array Value))) (s.heap.objs.size + 1) (Obj.mapSeq fun _=>out)
  have J4':Inv X pins σ (upd H3 h1.objs.size (.lst [])) { s3 with heap:=s3.heap.update h1.objs.size (Obj.mapSeq fun _=>(#[]:Array Value)) }:=J4.unpinned
  have J5:Inv X pins σ (upd (upd H3 h1.objs.size (.lst [])) (s.heap.objs.size + 1) (.lst (us.map V.ref))) { s3 with heap:=(s3.heap.update h1.objs.size (Obj.mapSeq fun _=>(#[]:Array Value))).update (s.heap.objs.size + 1) (Obj.mapSeq fun _=>out) }:=by
   refine Inv.step (s:={ s3 with heap:=s3.heap.update h1.objs.size (Obj.mapSeq fun _=>(#[]:Array Value)) }) (h':=(s3.heap.update h1.objs.size (Obj.mapSeq fun _=>(#[]:Array Value))).update (s.heap.objs.size + 1) (Obj.mapSeq fun _=>out)) (H':=upd (upd H3 h1.objs.size (.lst [])) (s.heap.objs.size + 1) (.lst (us.map V.ref))) (g':=s3.gens) (t':=s3.toks) (d':=s3.drawn) (ch:=[s.heap.objs.size + 1]) J4' (fun b hb=>?_) (fun b o _ _ hc e _=>(hb4.2 b (fun z=>hc (by simp [z]))).trans e) (fun b o _ _ hc e _=>⟨o.slots,(hb4.2 b (fun z=>hc (by simp [z]))).trans e⟩) (fun b o hc _ n=>by rw [zAo (fun z=>hc (by simp [z]))]; exact n)
    (fun b o hc e=>⟨o,(hb4.2 b (fun z=>hc (by simp [z]))).trans e⟩) (fun b xs e=>by rw [zAo (zAy e na4)]; exact e) (fun b o u e=>by rw [zAo (zAy e na4)]; exact e) (fun b ps e=>⟨#[],by rw [zAo (zAy e na4),e]; simp⟩) (fun m hm=>hm.sameBut hb4 laL.symm) (fun b u e=>?_) J4'.bare
   ·have eb:b = s.heap.objs.size + 1:=by simpa using hb
    subst eb
    refine ⟨.inr (Nat.le_succ_of_le I.sz),laL,fun x c e z=>?_,fun p hp z=>?_⟩
    ·obtain ⟨v,qq⟩:=I.cell x c e
     exact Nat.lt_irrefl _ (Nat.lt_of_lt_of_le qq.lt (by rw [z]; exact Nat.le_succ _))
    ·exact Nat.lt_irrefl _ (Nat.lt_of_lt_of_le (Heap.lt_size (I.pin p hp).1) (by rw [z]; exact Nat.le_succ _))
   ·by_cases hb:b = s.heap.objs.size + 1
    ·rw [hb,zAb] at e
     cases e
     rw [hb]
     refine ⟨by rw [List.length_map,pm.length_eq,sizeLine_eq]; omega,us.map Value.ref,c4,zEz us,?_⟩
     rw [hc4,← eo]
    ·rw [zAo hb] at e
     refine (J4'.hok b u e).stay (fun c v hc q=>(hb4.2 c (fun z=>?_)).trans q) (fun c q=>by rw [zAo (zAy q na4)]; exact q) fun c xs q=>by rw [zAo (zAy q na4)]; exact q
     rcases hc with hc | hc
     ·exact hb (by rw [← hc]; exact z)
     ·rw [z,na4] at hc; cases hc
  refine ⟨.ref (s.heap.objs.size + 1),_,J5,rfl,q _ us _ fa (fun b o e=>?_) zAb pm pw⟩
  rw [zAo (zAy e fa),zAo (zAy e fk)]
  exact sH _ _ e
end
end L2
namespace L2
open PySem PySem.Spec PyProof.Rows PySem.W
def KeyOk (X:Cx) (σ:St) (H:Hp) (f:Addr) (rs:List Addr) (key:Addr→Int):Prop:=∀ r∈rs,∀ (pins':List (Addr × Obj)) (H1:Hp) (s1:Shared),Same H H1→Inv X pins' σ H1 s1 →
 wpAny (model X.prog X.w) X.A.in1.in1 (call (.ref f) [.ref r]) (fun u s2=>∃ t H2,u = .int (key r) t∧Inv X pins' σ H2 s2∧Same H1 H2) (fun _ _=>False) s1
def tSortK (X:Cx) (ta tk:TA):TE:=fun σ H Q=>ta σ H fun xs H1=>tk σ H1 fun ys H2=>∃ (l f:Addr) (rs:List Addr) (key:Addr→Int),xs = [.ref l]∧ys = [.ref f]∧SqL X.K H2 l (rs.map V.ref)∧rs.length < 64∧KeyOk X σ H2 f rs key ∧
 ∀ (p:Addr) (us:List Addr) (H':Hp),H2 p = none→Same H2 H'→H' p = some (.lst (us.map V.ref))→us.Perm rs→us.Pairwise (fun a b=>key a≤key b)→Q (.ref p) H'
section
variable {X:Cx}
theorem zS8 {e kf:Expr} {ta tk:TA} {p pos kpos:Pos} (hg:Gl X "sorted") (hm:X.mg "sorted" = none) (ha:PA X [e] ta) (hk:PK X [⟨some "key", kf,kpos⟩] tk)
  (he:backTo pos (starEach [e] X.env) = (false,eval e X.env) :: backTo pos (starEach [] X.env):=by rfl) (hpl:(backTo pos (starEach [e] X.env)).any (·.1) = false:=by rfl):PE X (.Call (.Name "sorted" p) [e] [⟨some "key", kf,kpos⟩] pos) (tSortK X ta tk):=by
 intro pins s σ H Q I h
 refine wpAny_Call_Name_kw (zH2 I hg hm zIn ?_ (by decide) (by decide))
 refine callWith_kw (thn (ha pos pins s σ H _ I h) fun us s1 ⟨xs,H1,I1,r1,q1⟩=>?_) he hpl
 refine thn (hk pos pins s1 σ H1 _ I1 q1) fun ws s2 ⟨ys,H2,I2,r2,l,f,rs,key,ex,ey,hl,h64,ok,q⟩=>?_
 subst ex ey
 obtain ⟨u,rfl,ru⟩:=Vals.one r1
 obtain ⟨v,rfl,rv⟩:=Vals.one r2
 cases ru
 cases rv
 exact zPk I2 hl h64 ok q
theorem zSt {σ:St} {H:Hp} {k j jy:Nat} {N:List Str} {name qual x y:Str} {params:Arguments} {body:List Stmt} {scope:Scope} {f cc c':Addr} {vc:V} {rs:List Addr} {key:Addr→Int}
  (S:zGl N x y j scope) (hr:Room (k + 3) X.A) (hcc:X.env.cells.lookup y = some cc) (hy:X.N[jy]? = some y) (hk:X.env.scope.names.lookup y = some .cell) (evc:σ[jy]? = some (some vc))
  (ef:H f = some (fnO f name qual params body scope [(y,cc)] c')) (ec:H c' = some (cdO c' qual))
  (hbind:∀ doc pm ctv u,bindArgs (fnX name qual params body scope [(y,cc)] .none .none doc pm none (.ref c') ctv) ⟨[u],[]⟩ = pure [(x,u)])
  (hbody:∀ r∈rs,∀ (A:Around) (outer:List Env) (s1:Shared) (H1:Hp),Same H H1→Room k (A.deeper (envX qual scope s1.heap.objs.size f (.ref c') (cellsFrom (s1.heap.objs.size + 1) scope.names [(y,cc)]))) →
   ∃ t,PSs (zJw CX0 X.prog X.w X.K X.mg X.base N qual scope f (.ref c') [(y,cc)] A outer s1 H1 E0).nox body t∧t { nx:=fun _ H2=>V.non = .int (key r)∧Same H1 H2,rt:=fun v H2=>v = .int (key r)∧Same H1 H2 } ((zMf N j vc).set 0 (some (.ref r))) H1):KeyOk X σ H f rs key:=by
 intro r hrr pins' H1 s1 sH J
 obtain ⟨m,_,hl⟩:=J.loc
 obtain ⟨u,ru,l⟩:=hl jy y vc hy evc (.inr (.inl hk))
 have hcell:s1.heap.IsCell cc (some u):=by
  rcases l with ⟨z,_⟩ | ⟨_,c,e,q⟩
  ·have z':X.env.scope.names.lookup y = some .local:=z
   rw [hk] at z'
   cases z'
  ·rw [hcc] at e
   cases e
   exact q
 refine wpAny_call (codeAny_mono (zS4 (CX:=CX0) (Q:=fun v H2=>v = .int (key r)∧Same H1 H2) (E:=E0) (v:=.ref r) S hr.in1.in1 J.env0.in1.in1 hcell (J.freeC y cc hcc) ru rfl (sH _ _ ef) (sH _ _ ec) (fun doc pm ctv=>hbind doc pm ctv _) fun hr2=>?_) fun r' s' hq=>?_)
 ·obtain ⟨t,h,q⟩:=hbody r hrr X.A.in1.in1 X.stack s1 H1 sH hr2
  exact ⟨t,h.nox,q⟩
 ·cases r' with
  | error e=>exact hq
  | ok fl =>
   cases fl with
   | ret w' =>
    obtain ⟨v,H2,J2,rv,e,s2⟩:=J.after hq
    subst e
    obtain ⟨t,rfl⟩:=rv
    exact ⟨t,H2,rfl,J2,s2⟩
   | next=>exact False.elim hq
   | brk=>exact False.elim hq
   | cont=>exact False.elim hq
end
end L2
namespace L2
open PySem PySem.Spec PyProof.Rows PySem.W
theorem zP2 {P:Program} {w:World} {K:PySem.W.Frag} {mg mb:Str→Option Value} {CX:CXT} {k:Nat} {fa a c Pt:Addr} {fd:FuncData} {x:Str} {sp:Sp} {s₁:Shared} {vs:List Value} {ns:List Int}
  (KX:K.In s₁.heap) (hns:s₁.heap.Ns mainGlobals mg) (hb:s₁.heap.Ns builtinsNs mb) (hbb:∀ x:Str,x ≠ "__name__" → mb x = bootBuiltins x) (hlim:s₁.heap.NoLimit) (hg:s₁.gens = #[])
  (ha:s₁.heap.get? a = some { cls:=.type "list", data:=.seq vs.toArray }) (hi:IntsAre vs ns) (hl:ns.length≤sizeLine) (hr:Room k callerA)
  (hC:CodeHd s₁.heap c Pt) (hT:s₁.heap.get? Pt = some (tabObj #[])) (hKT:K.lookup Pt = none)
  (hbm:∃ bm ob,mg "__builtins__" = some (.ref bm)∧bm≠builtinsNs∧bm≠mainGlobals∧s₁.heap.get? bm = some ob∧ob.cls = .type "module" ∧ ob.dict = some builtinsNs∧ob.data = .plain)
  (F:∀ base:Heap,K.In base→base.Ns mainGlobals mg→zJ6 base mg c Pt→FnOk P w K mg base CX k fa fd [x] sp) (hbind:∀ (s:Shared) (u:Value),BindsTo s fd ⟨[u],[]⟩ [(x,u)])
  (hsp:∀ H:Hp,H Pt = some (.tbl #[])→SqL K H a (ns.map V.int)→sp [.ref a] H (fun v _=>v = .bl true) fun _ _ _=>False)
  (hCX:∀ H e s',CX [] H s₁ (fun _ _ _=>False) e s'→False) :
  codeAny (model P w) callerA (.call (.ref fa) ⟨[.ref a],[]⟩) (fun r s'=>r = .ok (.ret (.bool true))∧OldK s₁.heap s'.heap∧s'.os = s₁.os∧AllBare s'.gens) s₁:=by
 have rv:=zK9 hi
 have lenV:=hi.length
 have haT:a≠Pt:=fun z=>by rw [z,hT] at ha; cases ha
 have core:∀ H:Hp,(∀ b,H b = none∨((∃ o xs,H b = some (.frz o (.lst xs)))∧b = a)∨b = Pt)→H Pt = some (.tbl #[])→SqL K H a (ns.map V.int)→HOk P w H s₁.heap→(H a≠none→K.lookup a = none) →
   codeAny (model P w) callerA (.call (.ref fa) ⟨[.ref a],[]⟩) (fun r s'=>r = .ok (.ret (.bool true))∧OldK s₁.heap s'.heap∧s'.os = s₁.os∧AllBare s'.gens) s₁:=by
  intro H hO hPt hS hok hK
  have base_of:∀ {b:Addr} {o:Obj},s₁.heap.get? b = some o→H b = none→(hidT s₁.heap H).get? b = some o:=fun e n=>zR8 e n
  have no:∀ {b:Addr} {o:Obj},s₁.heap.get? b = some o→(∀ xs n,o.data≠.seq xs n)→o.cls≠.none→H b = none:=fun {b o} e d c=>by
   rcases hO b with z | ⟨_,z⟩ | z
   ·exact z
   ·rw [z,ha] at e; cases e; exact absurd rfl (d _ _)
   ·rw [z,hT] at e; cases e; exact absurd rfl c
  have noD:∀ {b:Addr} {o:Obj} {es:Array DictEntry} {ep:Nat},s₁.heap.get? b = some o→o.data = .dict es ep→H b = none:=fun {b o es ep} e d=>by
   rcases hO b with z | ⟨_,z⟩ | z
   ·exact z
   ·rw [z,ha] at e; cases e; cases d
   ·rw [z,hT] at e; cases e; cases d
  have nsK:∀ {b:Addr} {m:Str→Option Value},s₁.heap.Ns b m→(hidT s₁.heap H).Ns b m:=fun {b m} ⟨o,es,ep,e,d,r⟩=>⟨o,es,ep,base_of e (noD e d),d,r⟩
  have hKb:K.In (hidT s₁.heap H):=fun b o e=>base_of (KX b o e) (by
   rcases hO b with z | ⟨⟨ob,xs,z⟩,ez⟩ | z
   ·exact z
   ·rw [ez,hK (by rw [← ez,z]; simp)] at e; cases e
   ·rw [z,hKT] at e; cases e)
  have hNB:zJ6 (hidT s₁.heap H) mg c Pt:=by
   refine ⟨?_,?_⟩
   ·obtain ⟨o,vs',file,tf,flags,tg,inF,text,tt,e1,e2,e3,r⟩:=hC
    exact ⟨o,vs',file,tf,flags,tg,inF,text,tt,base_of e1 (no e1 (fun xs n z=>by rw [e3] at z; cases z) (fun z=>by rw [e2] at z; cases z)),e2,e3,r⟩
   ·obtain ⟨bm,ob,b1,b2,b3,b4,b5,b6,b7⟩:=hbm
    exact ⟨bm,ob,b1,b2,b3,base_of b4 (no b4 (fun xs n z=>by rw [b7] at z; cases z) (fun z=>by rw [b5] at z; cases z)),b5,b6,b7⟩
  have hM:Mod K mg (hidT s₁.heap H):=⟨hKb,nsK hns,⟨mb,nsK hb,hbb⟩,let ⟨mc,h1,h2⟩:=hlim; ⟨mc,nsK h1,h2⟩⟩
  have e0:Env0 P w K mg (hidT s₁.heap H) callerA [] s₁ H:=⟨rfl,hM,fun b o e=>zUu e,Nat.le_of_eq (zRp _ _),trivial,fun b hb=>absurd (show b∈([]:List Addr) from hb) (by simp),hok,.of_eq hg⟩
  refine codeAny_mono ((F _ hKb (nsK hns) hNB).run callerA [] s₁ H ⟨[.ref a],[]⟩ [.ref a] [.ref a] _ _ hr e0 (hbind s₁ (.ref a)) (.cons rfl .nil) (hsp H hPt hS)) fun r s' h=>?_
  cases r with
  | error e=>exact (hCX H e s' h).elim
  | ok fl =>
   cases fl with
   | next=>exact False.elim h
   | brk=>exact False.elim h
   | cont=>exact False.elim h
   | ret u =>
    obtain ⟨v,H',os,bare,un,hok',r',q⟩:=h
    have q':v = .bl true:=q
    subst q'
    obtain rfl:u = Value.bool true:=r'
    obtain ⟨more,eT⟩:=un.tbls Pt _ hPt
    have eT':s'.heap.get? Pt = some (tabObj (#[] ++ more)):=hok' Pt _ eT
    refine ⟨rfl,⟨fun b o e=>?_,fun b o e=>?_⟩,os,bare⟩
    ·rcases hO b with z | ⟨⟨ob,xs,z⟩,ez⟩ | z
     ·exact .inl (un.keep b o e z (by intro z; exact absurd (show b∈([]:List Addr) from z) (by simp)) (by simp))
     ·have z2:=un.frzs b ob _ z
      obtain ⟨e1,_⟩:=hok b _ z
      obtain ⟨e2,_⟩:=hok' b _ z2
      rw [e] at e1; cases e1
      exact .inl e2
     ·subst z
      rw [hT] at e
      cases e
      exact .inr (.inl ⟨(hC.tab hT).isCodeTable,rfl,#[],more,rfl,eT'⟩)
    ·exact un.there b o e (by simp)
 cases hk:K.lookup a with
 | some o =>
  have e:=KX a o hk
  rw [ha] at e
  cases e
  refine core (fun b=>if b = Pt then some (.tbl #[]) else none) (fun b=>?_) (if_pos rfl) (.inr ⟨_,vs.toArray,_,hk,rfl,rfl,rfl,by rw [List.size_toArray,lenV]; exact hl,by simpa using rv⟩) (fun b u z=>?_) fun z=>absurd (if_neg haT) z
  ·by_cases hb:b = Pt
   ·exact .inr (.inr hb)
   ·exact .inl (if_neg hb)
  ·by_cases hb:b = Pt
   ·have z':=(if_pos hb).symm.trans z
    cases z'
    subst hb
    exact hT
   ·have z':=(if_neg hb).symm.trans z
    cases z'
 | none =>
  refine core (fun b=>if b = a then some (.frz { cls:=.type "list", data:=.seq vs.toArray } (.lst (ns.map V.int))) else if b = Pt then some (.tbl #[]) else none) (fun b=>?_) ((if_neg haT.symm).trans (if_pos rfl)) (.inl (.inr ⟨{ cls:=.type "list", data:=.seq vs.toArray },if_pos rfl⟩)) (fun b u z=>?_) fun _=>hk
  ·by_cases hb:b = a
   ·exact .inr (.inl ⟨⟨_,_,if_pos hb⟩,hb⟩)
   ·by_cases hb2:b = Pt
    ·exact .inr (.inr hb2)
    ·exact .inl ((if_neg hb).trans (if_neg hb2))
  ·by_cases hb:b = a
   ·have z':=(if_pos hb).symm.trans z
    cases z'
    subst hb
    exact ⟨ha,by rw [List.length_map]; exact hl,vs,_,rv,ha⟩
   ·by_cases hb2:b = Pt
    ·have z':=((if_neg hb).trans (if_pos hb2)).symm.trans z
     cases z'
     subst hb2
     exact hT
    ·have z':=((if_neg hb).trans (if_neg hb2)).symm.trans z
     cases z'
def tabC (K:PySem.W.Frag) (x:Str):Addr:=match tabIn K x with
 | some p=>p.1
 | none=>0
def tabP (K:PySem.W.Frag) (x:Str):Addr:=match tabIn K x with
 | some p=>p.2
 | none=>0
def defPos (s:Stmt):Pos:=match s with
 | .FunctionDef _ _ _ _ _ _ _ _ _ p=>p
 | _=>⟨0,0,0,0⟩
theorem tab_nb {base:Heap} {mg:Str→Option Value} {K:PySem.W.Frag} {x:Str} {c P:Addr} (t:tabIn K x = some (c,P)) (N:zJ6 base mg c P):zJ6 base mg (tabC K x) (tabP K x):=by
 unfold tabC tabP
 rw [t]
 exact N
theorem Fun.okC {P:Program} {w:World} {K:PySem.W.Frag} {mg:Str→Option Value} {base:Heap} {x qual:Str} {st:Stmt} {f:Addr} {fd:FuncData} {N ps:List Str} {k:Nat} {sp:Sp} (F:Fun K x qual st f fd) (S:zAs N ps (zAl st)) (len:∀ vs H Q E,sp vs H Q E→vs.length = ps.length)
  (hbody:∀ (cdv:Value) (A:Around) (outer:List Env) (s:Shared) (H:Hp) (vs:List V) (Q:VK) (E:XK),fd.code = cdv→Room k (A.deeper (envOfC qual (zAl st) s.heap.objs.size f cdv))→sp vs H Q E →
   ∃ t,PSs (cxOf CX0 P w K mg base N qual (zAl st) f cdv A outer s H E).nox (zCf st) t∧t { nx:=fun _ H'=>Q .non H',rt:=Q } (start N vs) H):FnOk P w K mg base CX0 (k + 1) f fd ps sp:=by
 obtain ⟨oc,od,kV,doc,pm,an,cdv,ct,osl,rfl,lk,hcd⟩:=F.ex
 refine fn_of lk hcd S len fun A outer s H vs Q E hr hsp=>?_
 obtain ⟨t,h,q⟩:=hbody cdv A outer s H vs Q E rfl hr hsp
 exact ⟨t,h.nox,q⟩
theorem walk_ofT {l:PySem.W.OpenLaw} {n k:Nat} {q:Program} {loose:List Str} {XP:(Str→Option Value)→Heap→Prop} {YP:World→Heap→Prop} {d:DefRec} {K:Params→PySem.W.Frag} {CX:World→CXT} {sp:World→Sp} {x y:Str} {c Pt:Addr}
  (hn:l.most = some n) (hn2:n≤sizeLine) (hdf:d.params.defaults = []) (hr:Room k callerA)
  (hY:∀ (w:World) (h:Heap),YP w h→(K w.params).In h) (hfind:((recsOf q).find? (fun e=>e.name == y)).isSome = true) (ht:∀ p:Params,tabIn (K p) y = some (c,Pt)) (hKT:∀ p:Params,(K p).lookup Pt = none)
  (F:∀ (w:World) (mg:Str→Option Value) (fa:Addr) (h:Heap),(K w.params).In h→h.Ns mainGlobals mg→mg d.name = some (.ref fa) →
   ∃ fd:FuncData,(∀ (s:Shared) (u:Value),BindsTo s fd ⟨[u],[]⟩ [(x,u)]) ∧
    ∀ base:Heap,(K w.params).In base→base.Ns mainGlobals mg→zJ6 base mg c Pt→FnOk l.prog w (K w.params) mg base (CX w) k fa fd [x] (sp w))
  (hsp:∀ (w:World) (H:Hp) (a:Addr) (ns:List Int),ns.length≤n→H Pt = some (.tbl #[])→SqL (K w.params) H a (ns.map V.int)→sp w [.ref a] H (fun v _=>v = .bl true) fun _ _ _=>False)
  (hCX:∀ (w:World) (H:Hp) (s:Shared) (e:Value) (s':Shared),CX w [] H s (fun _ _ _=>False) e s'→False) :
  PySem.W.WalkO q loose XP YP l.row.toRowW d [] (fun f vs=>PySem.call f vs):=by
 refine Att.attach_call hn hdf fun w s₀ s₁ mg mb fa o pm cd doc a vs ns G Y ho hd hcd hmg hobj hints hlen hg=>?_
 have KX:=hY w _ Y
 obtain ⟨fd,hb,hF⟩:=F w mg fa _ KX G.T.g hmg
 obtain ⟨dr,hdr⟩:=Option.isSome_iff_exists.mp hfind
 obtain ⟨hC,hT⟩:=tab_of G.T KX hdr (ht w.params)
 obtain ⟨bm,ob,b1,b2,b3,b4,b5,b6⟩:=G.T.bmain
 have b7:bm≠mainGlobals:=fun z=>by
  obtain ⟨o',es,ep,e,d',_⟩:=G.T.g
  rw [z,e] at b3
  cases b3
  rw [d'] at b6
  cases b6
 exact zP2 KX G.T.g G.T.b G.T.builtins G.T.nolimit hg hobj hints (Nat.le_trans hlen hn2) hr hC hT (hKT w.params) ⟨bm,ob,b1,b2,b7,b3,b4,b5,b6⟩ hF hb (fun H hO hS=>hsp w H a ns hlen hO hS) fun H e s'=>hCX w H s₁ e s'
end L2

namespace Sea
open PySem L2
def wy (O A:P3):Int × Int:=(A.1 * O.2.2 - O.1 * A.2.2,A.2.1 * O.2.2 - O.2.1 * A.2.2)
def tn2 (a b:Int × Int):Int:=a.1 * b.2 - a.2 * b.1
def c3 (O A B:P3):Int:=O.1 * (A.2.1 * B.2.2 - B.2.1 * A.2.2) - O.2.1 * (A.1 * B.2.2 - B.1 * A.2.2) + O.2.2 * (A.1 * B.2.1 - B.1 * A.2.1)
theorem zPp (O A B:P3):tn2 (wy O A) (wy O B) = O.2.2 * c3 O A B:=by
 unfold tn2 wy c3
 grind
theorem zR2 (O A B:P3):c3 O B A = -c3 O A B:=by
 unfold c3
 grind
def fwd (a:Int × Int):Prop:=0 < a.1∨(a.1 = 0∧0 < a.2)
theorem fwd_tr {a b c:Int × Int} (ha:fwd a) (hb:fwd b) (hc:fwd c) (h1:0 < tn2 a b) (h2:0 < tn2 b c):0 < tn2 a c:=by
 obtain ⟨p1,q1⟩:=a
 obtain ⟨p2,q2⟩:=b
 obtain ⟨p3,q3⟩:=c
 unfold fwd at ha hb hc
 unfold tn2 at h1 h2 ⊢
 dsimp only at ha hb hc h1 h2 ⊢
 have id:(p1 * q3 - q1 * p3) * p2 = (p1 * q2 - q1 * p2) * p3 + (p2 * q3 - q2 * p3) * p1:=by grind
 have b0:0 < p2:=by
  rcases hb with h | ⟨h,h'⟩
  ·exact h
  ·subst h
   rw [Int.zero_mul,Int.zero_sub] at h2
   have p3n:0≤p3:=by omega
   have:=Int.mul_nonneg (Int.le_of_lt h') p3n
   omega
 have a0:0 < p1:=by
  rcases ha with h | ⟨h,h'⟩
  ·exact h
  ·subst h
   rw [Int.zero_mul,Int.zero_sub] at h1
   have:=Int.mul_nonneg (Int.le_of_lt h') (Int.le_of_lt b0)
   omega
 have p3n:0≤p3:=by omega
 have z1:=Int.mul_nonneg (Int.le_of_lt h1) p3n
 have z2:=Int.mul_pos h2 a0
 have z3:0 < (p1 * q3 - q1 * p3) * p2:=by rw [id]; omega
 rcases Int.lt_trichotomy (p1 * q3 - q1 * p3) 0 with h | h | h
 ·have:=Int.mul_neg_of_neg_of_pos h b0
  omega
 ·rw [h,Int.zero_mul] at z3
  omega
 ·exact h
theorem zMo {s t:SpT} (h:ahB s t = true):fwd (wy s.2 t.2):=by
 have z:leS s t:=zMj h
 have z2:¬ leS t s:=fun q=>by unfold leS at q; rw [h] at q; cases q
 rw [zKb] at z z2
 unfold fwd wy
 dsimp only
 omega
theorem zT6 {e f p q:P3} (h:tn e f≠0) (hp:0 < p.2.2) (hq:0 < q.2.2) (e1:sv e p = 0) (e2:sv f p = 0) (e3:sv e q = 0) (e4:sv f q = 0):p.1 * q.2.2 = q.1 * p.2.2∧p.2.1 * q.2.2 = q.2.1 * p.2.2:=by
 unfold sv at e1 e2 e3 e4
 unfold tn at h
 have x1:(e.1 * f.2.1 - e.2.1 * f.1) * (p.1 * q.2.2 - q.1 * p.2.2) = 0:=by grind
 have x2:(e.1 * f.2.1 - e.2.1 * f.1) * (p.2.1 * q.2.2 - q.2.1 * p.2.2) = 0:=by grind
 have y1:=(Int.mul_eq_zero.mp x1).resolve_left h
 have y2:=(Int.mul_eq_zero.mp x2).resolve_left h
 omega
theorem zIu {ss:List Sd} {P:P3} (c:Cor ss P):∃ e f:P3,tn e f≠0∧sv e P = 0∧sv f P = 0∧(∀ Q,inW ss Q→sv e Q≤0∧sv f Q≤0)∧inW ss P∧0 < P.2.2∧Nat.gcd (Nat.gcd P.1.natAbs P.2.1.natAbs) P.2.2.natAbs = 1:=by
 obtain ⟨t,ht,u,hu,h,rfl,w⟩:=c
 obtain ⟨sp,o1,o2⟩:=zCj h
 exact ⟨t.2,u.2,h,o1,o2,fun Q hQ=>⟨hQ t ht,hQ u hu⟩,w,sp.pos,sp.low⟩
theorem zQx {ss:List Sd} {O A B:P3} (cO:Cor ss O) (cA:Cor ss A) (cB:Cor ss B) {l m n:Int} (hm:0 < m) (hn:0 < n) (e1:l * A.1 = m * B.1 + n * O.1) (e2:l * A.2.1 = m * B.2.1 + n * O.2.1) (e3:l * A.2.2 = m * B.2.2 + n * O.2.2):O = A:=by
 obtain ⟨e,f,hef,s1,s2,hw,_,pA,lA⟩:=zIu cA
 obtain ⟨_,_,_,_,_,_,wO,pO,lO⟩:=zIu cO
 obtain ⟨_,_,_,_,_,_,wB,_,_⟩:=zIu cB
 have key:∀ g:P3,sv g A = 0→sv g B≤0→sv g O≤0→sv g O = 0:=fun g g1 g2 g3=>by
  have z:l * sv g A = m * sv g B + n * sv g O:=by unfold sv; grind
  rw [g1,Int.mul_zero] at z
  have y1:=Int.mul_nonneg (Int.le_of_lt hm) (show 0≤-sv g B by omega)
  rw [Int.mul_neg] at y1
  have y2:=Int.mul_nonneg (Int.le_of_lt hn) (show 0≤-sv g O by omega)
  rw [Int.mul_neg] at y2
  have y3:n * sv g O = 0:=by omega
  exact (Int.mul_eq_zero.mp y3).resolve_left (by omega)
 obtain ⟨x1,x2⟩:=zT6 hef pO pA (key e s1 (hw B wB).1 (hw O wO).1) (key f s2 (hw B wB).2 (hw O wO).2) s1 s2
 exact zCp pO pA lO lA x1 x2
theorem zNq {ss:List Sd} {O A B:P3} (cO:Cor ss O) (cA:Cor ss A) (cB:Cor ss B) (hA:O≠A) (hB:O≠B) (hAB:A≠B) {s t:Int} (hs:0 < s) (ht:0 < t) (e1:s * (wy O A).1 = t * (wy O B).1) (e2:s * (wy O A).2 = t * (wy O B).2):False:=by
 obtain ⟨_,_,_,_,_,_,_,pO,lO⟩:=zIu cO
 obtain ⟨_,_,_,_,_,_,_,pA,lA⟩:=zIu cA
 obtain ⟨_,_,_,_,_,_,_,pB,lB⟩:=zIu cB
 unfold wy at e1 e2
 dsimp only at e1 e2
 rcases Int.lt_trichotomy (s * A.2.2 - t * B.2.2) 0 with h | h | h
 ·exact hB (zQx (l:=t * O.2.2) (m:=s * O.2.2) (n:=t * B.2.2 - s * A.2.2) cO cB cA (Int.mul_pos hs pO) (by omega) (by grind) (by grind) (by grind))
 ·refine hAB (zCp pA pB lA lB ?_ ?_)
  ·have z:O.2.2 * (s * A.1 - t * B.1) = 0:=by grind
   have z2:=(Int.mul_eq_zero.mp z).resolve_left (by omega)
   have z3:s * (A.1 * B.2.2 - B.1 * A.2.2) = 0:=by grind
   have z4:=(Int.mul_eq_zero.mp z3).resolve_left (by omega)
   omega
  ·have z:O.2.2 * (s * A.2.1 - t * B.2.1) = 0:=by grind
   have z2:=(Int.mul_eq_zero.mp z).resolve_left (by omega)
   have z3:s * (A.2.1 * B.2.2 - B.2.1 * A.2.2) = 0:=by grind
   have z4:=(Int.mul_eq_zero.mp z3).resolve_left (by omega)
   omega
 ·exact hA (zQx (l:=s * O.2.2) (m:=t * O.2.2) (n:=s * A.2.2 - t * B.2.2) cO cA cB (Int.mul_pos ht pO) h (by grind) (by grind) (by grind))
theorem zSn {ss:List Sd} {O A B:P3} (cO:Cor ss O) (cA:Cor ss A) (cB:Cor ss B) (hA:O≠A) (hB:O≠B) (hAB:A≠B) (fA:fwd (wy O A)) (fB:fwd (wy O B)):c3 O A B≠0:=fun z=>by
 have z2:=zPp O A B
 rw [z,Int.mul_zero] at z2
 unfold tn2 at z2
 rcases fA with h | ⟨h,h'⟩
 ·rcases fB with k | ⟨k,k'⟩
  ·exact zNq (s:=(wy O B).1) (t:=(wy O A).1) cO cA cB hA hB hAB k h (Int.mul_comm _ _) (by grind)
  ·rw [k,Int.mul_zero] at z2
   have:=Int.mul_pos h k'
   omega
 ·rcases fB with k | ⟨k,k'⟩
  ·rw [h,Int.zero_mul] at z2
   have:=Int.mul_pos h' k
   omega
  ·exact zNq (s:=(wy O B).2) (t:=(wy O A).2) cO cA cB hA hB hAB k' h' (by rw [h,k]; simp) (Int.mul_comm _ _)
def cntA (O:P3) (qs:List P3) (B:P3):Nat:=(qs.filter fun A=>decide (0 < tn2 (wy O A) (wy O B))).length
theorem filter_lt {α:Type} {p q:α→Bool} : ∀ {l:List α},(∀ a∈l,p a = true→q a = true)→(∃ a∈l,q a = true∧p a = false)→(l.filter p).length < (l.filter q).length
 | [],_,h=>by obtain ⟨a,h,_⟩:=h; cases h
 | x :: l,hpq,h=>by
  have le:∀ (l:List α),(∀ a∈l,p a = true→q a = true)→(l.filter p).length≤(l.filter q).length:=fun l=>by
   induction l with
   | nil=>intro _; exact Nat.le_refl _
   | cons y l ih =>
    intro hl
    have z:=ih fun a ha=>hl a (.tail _ ha)
    rw [List.filter_cons,List.filter_cons]
    cases hp:p y with
    | true =>
     rw [hl y (.head _) hp,if_pos rfl,if_pos rfl,List.length_cons,List.length_cons]
     omega
    | false =>
     rw [if_neg (by decide)]
     split
     ·rw [List.length_cons]; omega
     ·exact z
  have le2:=le l fun a ha=>hpq a (.tail _ ha)
  rw [List.filter_cons,List.filter_cons]
  obtain ⟨a,ha,hq,hp⟩:=h
  rcases List.mem_cons.mp ha with e | ha
  ·subst e
   rw [hq,hp,if_pos rfl,if_neg (by decide),List.length_cons]
   omega
  ·have ih:=filter_lt (l:=l) (fun a ha=>hpq a (.tail _ ha)) ⟨a,ha,hq,hp⟩
   cases hpx:p x with
   | true =>
    rw [hpq x (.head _) hpx,if_pos rfl,if_pos rfl,List.length_cons,List.length_cons]
    omega
   | false =>
    rw [if_neg (by decide)]
    split
    ·rw [List.length_cons]; omega
    ·exact ih
theorem zSv (a:Int × Int):tn2 a a = 0:=by unfold tn2; grind
theorem cnt_lt {O:P3} {qs:List P3} {A B:P3} (hq:∀ C∈qs,C = O∨fwd (wy O C)) (hA:A∈qs) (fA:fwd (wy O A)) (fB:fwd (wy O B)) (h:0 < tn2 (wy O A) (wy O B)):cntA O qs A < cntA O qs B:=by
 refine filter_lt (fun C hC hp=>?_) ⟨A,hA,decide_eq_true h,?_⟩
 ·have hp':=of_decide_eq_true hp
  rcases hq C hC with e | fC
  ·have z:wy O O = (0,0):=by unfold wy; rw [Int.sub_self,Int.sub_self]
   rw [e,z] at hp'
   unfold tn2 at hp'
   simp at hp'
  ·exact decide_eq_true (fwd_tr fC fA fB hp' h)
 ·rw [zSv]
  rfl
theorem zQ3 {ss:List Sd} {O:P3} {qs rs us:List P3} (cO:Cor ss O) (hq:∀ C∈qs,C = O∨fwd (wy O C)) (hr:∀ A∈rs,Cor ss A∧A∈qs∧O≠A∧fwd (wy O A)) (nd:us.Nodup) (pm:us.Perm rs) (pw:us.Pairwise fun A B=>cntA O qs A≤cntA O qs B) :
  us.Pairwise fun A B=>0 < c3 O A B:=by
 refine (List.Pairwise.and pw nd).imp_of_mem fun {A B} hA hB ⟨h,ne⟩=>?_
 obtain ⟨cA,mA,oA,fA⟩:=hr A (pm.mem_iff.mp hA)
 obtain ⟨cB,mB,oB,fB⟩:=hr B (pm.mem_iff.mp hB)
 obtain ⟨_,_,_,_,_,_,_,pO,_⟩:=zIu cO
 have nz:=zSn cO cA cB oA oB ne fA fB
 rcases Int.lt_trichotomy (c3 O A B) 0 with z | z | z
 ·have z2:0 < tn2 (wy O B) (wy O A):=by
   rw [zPp,zR2]
   exact Int.mul_pos pO (by omega)
  have:=cnt_lt hq mB fB fA z2
  omega
 ·exact absurd z nz
 ·exact z
end Sea

namespace Sea
open PySem L2
theorem zKu {e:P3} {h:Int} (hh:h * h = 1) (hN:0 < e.1 * e.1 + e.2.1 * e.2.1):∀ {ss:List Sd},(∃ t∈ss,0 < tn e t.2 * h)→∃ t∈ss,0 < tn e t.2 * h∧∀ u∈ss,0 < tn e u.2 * h→sv u.2 (pt3 (crL e t.2))≤0
 | [],h=>by obtain ⟨t,ht,_⟩:=h; cases ht
 | x :: r,hex=>by
  by_cases hr:∃ t∈r,0 < tn e t.2 * h
  ·obtain ⟨t,ht,tp,tm⟩:=zKu hh hN hr
   by_cases hx:0 < tn e x.2 * h
   ·by_cases hs:sv x.2 (pt3 (crL e t.2))≤0
    ·refine ⟨t,.tail _ ht,tp,fun u hu up=>?_⟩
     rcases List.mem_cons.mp hu with rfl | hu
     ·exact hs
     ·exact tm u hu up
    ·refine ⟨x,.head _,hx,fun u hu up=>?_⟩
     obtain ⟨s1,o1,o2⟩:=zCj (zBa hx)
     obtain ⟨s2,r1,r2⟩:=zCj (zBa tp)
     rcases List.mem_cons.mp hu with rfl | hu
     ·rw [o2]
      exact Int.le_refl _
     ·have d:=zUx hh hN o1 r1 s1.pos o2 (by omega) hx
      refine zM4 hh hN o1 r1 s1.pos s2.pos u.2 ?_ (tm u hu up)
      have z:=Int.mul_nonneg (show 0≤-(dl e (pt3 (crL e x.2)) (pt3 (crL e t.2)) * h) by omega) (Int.le_of_lt up)
      rw [Int.neg_mul] at z
      omega
   ·refine ⟨t,.tail _ ht,tp,fun u hu up=>?_⟩
    rcases List.mem_cons.mp hu with rfl | hu
    ·exact absurd up hx
    ·exact tm u hu up
  ·obtain ⟨t,ht,tp⟩:=hex
   rcases List.mem_cons.mp ht with rfl | ht
   ·refine ⟨t,.head _,tp,fun u hu up=>?_⟩
    rcases List.mem_cons.mp hu with rfl | hu
    ·rw [(zCj (zBa tp)).2.2]
     exact Int.le_refl _
    ·exact absurd ⟨u,hu,up⟩ hr
   ·exact absurd ⟨t,ht,tp⟩ hr
theorem zMb {ss:List Sd} {e z:P3} (hN:0 < e.1 * e.1 + e.2.1 * e.2.1) (hz:sv e z = 0) (zw:0 < z.2.2) (wz:inW ss z) (h1:∃ t∈ss,0 < tn e t.2 * 1) (h2:∃ t∈ss,0 < tn e t.2 * (-1)) {g:P3}
  (hg:∀ t∈ss,tn e t.2≠0→inW ss (pt3 (crL e t.2))→sv g (pt3 (crL e t.2))≤0):sv g z≤0:=by
 obtain ⟨t,ht,tp,tm⟩:=zKu (by decide) hN h1
 obtain ⟨u,hu,up,um⟩:=zKu (by decide) hN h2
 obtain ⟨s1,o1,o2⟩:=zCj (zBa tp)
 obtain ⟨s2,r1,r2⟩:=zCj (zBa up)
 obtain ⟨i,hi,ei⟩:=List.getElem_of_mem ht
 obtain ⟨j,hj,ej⟩:=List.getElem_of_mem hu
 have w1:=zOb (by decide) hN hz zw wz (by rw [List.getElem?_eq_getElem hi,ei]) tp tm
 have w2:=zOb (by decide) hN hz zw wz (by rw [List.getElem?_eq_getElem hj,ej]) up um
 have g1:=hg t ht (zBa tp) w1
 have g2:=hg u hu (zBa up) w2
 have d1:=zMx (by decide) hN o1 hz s1.pos o2 (wz t ht) tp
 have d2:=zMx (by decide) hN r1 hz s2.pos r2 (wz u hu) up
 by_cases hg0:0≤tn e g
 ·refine zM4 (h:=1) (by decide) hN hz o1 zw s1.pos g ?_ g1
  rw [zJ7 e z]
  have z1:=Int.mul_nonneg d1 (show 0≤tn e g * 1 by omega)
  rw [Int.neg_mul,Int.neg_mul]
  omega
 ·refine zM4 (h:=1) (by decide) hN hz r1 zw s2.pos g ?_ g2
  rw [zJ7 e z]
  have z1:=Int.mul_nonneg d2 (show 0≤-(tn e g * 1) by omega)
  have e1:dl e (pt3 (crL e u.2)) z * (-1) * -(tn e g * 1) = dl e (pt3 (crL e u.2)) z * tn e g:=by grind
  have e2 : -dl e (pt3 (crL e u.2)) z * 1 * (tn e g * 1) = -(dl e (pt3 (crL e u.2)) z * tn e g):=by grind
  rw [e1] at z1
  rw [e2]
  omega
theorem zEh {ss:List Sd} (hw:∀ x y:Int,(x≠0∨y≠0)→wayB ss x y = false) {e:P3} (he:e.1≠0∨e.2.1≠0) {h:Int} (hh:h = 1∨h = -1):∃ t∈ss,0 < tn e t.2 * h:=by
 have z:=hw (-e.2.1 * h) (e.1 * h) (by rcases hh with rfl | rfl <;> omega)
 unfold wayB at z
 obtain ⟨t,ht,q⟩:=List.all_eq_false.mp z
 refine ⟨t,ht,?_⟩
 have q':¬ (t.2.1 * (-e.2.1 * h) + t.2.2.1 * (e.1 * h)≤0):=fun y=>q (decide_eq_true y)
 have e1:t.2.1 * (-e.2.1 * h) + t.2.2.1 * (e.1 * h) = tn e t.2 * h:=by unfold tn; grind
 omega
theorem hull {ss:List Sd} (hn:∀ t∈ss,t.2.1≠0∨t.2.2.1≠0) (ne:ss≠[]) (hw:∀ x y:Int,(x≠0∨y≠0)→wayB ss x y = false) {g:P3} (hg:∀ C,Cor ss C→sv g C≤0) {p:P3} (pw:0 < p.2.2) (wp:inW ss p):sv g p≤0:=by
 obtain ⟨t0,r,rfl⟩:=List.exists_cons_of_ne_nil ne
 have n0:=hn t0 (.head _)
 have edge:∀ t∈t0 :: r,∀ q:P3,0 < q.2.2→sv t.2 q = 0→inW (t0 :: r) q→sv g q≤0:=fun t ht q hq e1 wq=>by
  refine zMb (zGf (hn t ht)) e1 hq wq (zEh hw (hn t ht) (.inl rfl)) (zEh hw (hn t ht) (.inr rfl)) fun u hu htu hwu=>?_
  exact hg _ ⟨t,ht,u,hu,htu,rfl,hwu⟩
 have h0:t0.2.1 * p.2.2≠0∨t0.2.2.1 * p.2.2≠0:=n0.imp (fun z=>Int.mul_ne_zero z (by omega)) fun z=>Int.mul_ne_zero z (by omega)
 refine zMb (e:=(t0.2.1 * p.2.2,t0.2.2.1 * p.2.2,t0.2.1 * p.1 + t0.2.2.1 * p.2.1)) (zGf h0) (by unfold sv; grind) pw wp (zEh hw h0 (.inl rfl)) (zEh hw h0 (.inr rfl)) fun u hu htu hwu=>?_
 obtain ⟨s1,o1,o2⟩:=zCj htu
 exact edge u hu _ s1.pos o2 hwu
structure Rg (ss:List Sd) (O:P3) (rest:List P3):Prop where
 nz:∀ t∈ss,t.2.1≠0∨t.2.2.1≠0
 ne:ss≠[]
 nw:∀ x y:Int,(x≠0∨y≠0)→wayB ss x y = false
 mem:∀ P:P3,P∈O :: rest↔Cor ss P
 fw:∀ A∈rest,O≠A∧fwd (wy O A)
 left:rest.Pairwise fun A B=>0 < c3 O A B
section
variable {ss:List Sd} {O:P3} {rest:List P3} {p:P3}
theorem Rg.cO (R:Rg ss O rest):Cor ss O:=(R.mem O).mp (.head _)
theorem Rg.cA (R:Rg ss O rest) {k:Nat} (hk:k < rest.length):Cor ss rest[k]:=(R.mem _).mp (.tail _ (List.getElem_mem hk))
theorem c3_z2 (A B:P3):c3 A B B = 0:=by unfold c3; grind
end
end Sea

namespace Sea
open PySem L2
def arS (O:P3) (r:Nat→P3):Nat→Int × Int
 | 0=>(0,1)
 | j + 1=>((arS O r j).1 * (r (j + 1)).2.2 + c3 O (r j) (r (j + 1)) * (arS O r j).2,(arS O r j).2 * (r j).2.2)
def arB (O:P3) (r:Nat→P3) (j:Nat):Int:=2 * O.2.2 * (arS O r j).2 * (r j).2.2
structure Fq (x y N B:Int):Prop where
 pos:1≤y
 low:Nat.gcd x.natAbs y.natAbs = 1
 eq:x * B = y * N
theorem Fq.yle {x y N B:Int} (f:Fq x y N B) (hB:B≠0):y.natAbs≤B.natAbs:=by
 have d:y.natAbs ∣ x.natAbs * B.natAbs:=by
  rw [← Int.natAbs_mul,f.eq,Int.natAbs_mul]
  exact Nat.dvd_mul_right _ _
 have d2:=Nat.Coprime.dvd_of_dvd_mul_left (Nat.Coprime.symm f.low) d
 exact Nat.le_of_dvd (by omega) d2
theorem Fq.xle {x y N B:Int} (f:Fq x y N B) (hB:B≠0):x.natAbs≤N.natAbs:=by
 by_cases hN:N = 0
 ·have z:=f.eq
  rw [hN,Int.mul_zero] at z
  have:=(Int.mul_eq_zero.mp z).resolve_right hB
  rw [this]
  exact Nat.zero_le _
 ·have d:x.natAbs ∣ y.natAbs * N.natAbs:=by
   rw [← Int.natAbs_mul,← f.eq,Int.natAbs_mul]
   exact Nat.dvd_mul_right _ _
  have d2:=Nat.Coprime.dvd_of_dvd_mul_left f.low d
  exact Nat.le_of_dvd (by omega) d2
theorem zQw {x1 y1 x2 y2 x y N P w0 w w' c:Int} (hw0:0 < w0) (hw:0 < w) (hy1:1≤y1) (hy2:1≤y2) (e1:x1 * (2 * w0 * P * w) = y1 * N) (e2:x2 * (2 * w0 * w * w') = y2 * c) (e3:x * (y1 * y2) = y * (x1 * y2 + x2 * y1)) :
  x * (2 * w0 * (P * w) * w') = y * (N * w' + c * P):=by
 have k:(x * (2 * w0 * (P * w) * w') - y * (N * w' + c * P)) * (y1 * y2 * (2 * w0 * w)) = 0:=by
  have a1:x * (2 * w0 * (P * w) * w') * (y1 * y2 * (2 * w0 * w)) = (x * (y1 * y2)) * ((2 * w0 * P * w) * (2 * w0 * w * w')):=by grind
  have a2:y * (x1 * y2 + x2 * y1) * ((2 * w0 * P * w) * (2 * w0 * w * w')) = y * ((x1 * (2 * w0 * P * w)) * (y2 * (2 * w0 * w * w')) + (x2 * (2 * w0 * w * w')) * (y1 * (2 * w0 * P * w))):=by grind
  rw [Int.sub_mul,a1,e3,a2,e1,e2]
  grind
 have n1:y1 * y2 * (2 * w0 * w)≠0:=Int.mul_ne_zero (Int.mul_ne_zero (by omega) (by omega)) (Int.mul_ne_zero (by omega) (by omega))
 have:=(Int.mul_eq_zero.mp k).resolve_right n1
 omega
theorem Fq.plus {O:P3} {r:Nat→P3} {j:Nat} {x1 y1 x2 y2 x y:Int} (hO:0 < O.2.2) (hr:0 < (r j).2.2) (f:Fq x1 y1 (arS O r j).1 (arB O r j)) (p2:zHa (O.2.2 * c3 O (r j) (r (j + 1))) (2 * O.2.2 ^ 2 * (r j).2.2 * (r (j + 1)).2.2) x2 y2)
  (p:zHa (x1 * y2 + x2 * y1) (y1 * y2) x y):Fq x y (arS O r (j + 1)).1 (arB O r (j + 1)):=by
 refine ⟨p.pos,p.low,?_⟩
 have e2:x2 * (2 * O.2.2 * (r j).2.2 * (r (j + 1)).2.2) = y2 * c3 O (r j) (r (j + 1)):=by
  have z:=p2.eq
  have k:(x2 * (2 * O.2.2 * (r j).2.2 * (r (j + 1)).2.2) - y2 * c3 O (r j) (r (j + 1))) * O.2.2 = 0:=by
   have a:x2 * (2 * O.2.2 ^ 2 * (r j).2.2 * (r (j + 1)).2.2) = x2 * (2 * O.2.2 * (r j).2.2 * (r (j + 1)).2.2) * O.2.2:=by grind
   rw [a] at z
   rw [Int.sub_mul,z]
   grind
  have:=(Int.mul_eq_zero.mp k).resolve_right (by omega)
  omega
 exact zQw hO hr f.pos p2.pos f.eq e2 p.eq
theorem zNl {O:P3} {r:Nat→P3} : ∀ j,(∀ i,i < j→0 < (r i).2.2)→0 < (arS O r j).2
 | 0,_=>(show (0:Int) < 1 by decide)
 | j + 1,h=>Int.mul_pos (zNl j fun i hi=>h i (by omega)) (h j (by omega))
theorem zNc {O:P3} {r:Nat→P3} {j:Nat} (hO:0 < O.2.2) (h:∀ i,i≤j→0 < (r i).2.2):0 < arB O r j :=
 Int.mul_pos (Int.mul_pos (Int.mul_pos (by decide) hO) (zNl j fun i hi=>h i (by omega))) (h j (Nat.le_refl _))
theorem arS_nn {O:P3} {r:Nat→P3} : ∀ j,(∀ i,i≤j→0 < (r i).2.2)→(∀ i,i < j→0≤c3 O (r i) (r (i + 1)))→0≤(arS O r j).1
 | 0,_,_=>(show (0:Int)≤0 by decide)
 | j + 1,h,hc=>by
  have z1:=Int.mul_nonneg (arS_nn j (fun i hi=>h i (by omega)) fun i hi=>hc i (by omega)) (Int.le_of_lt (h (j + 1) (Nat.le_refl _)))
  have z2:=Int.mul_nonneg (hc j (by omega)) (Int.le_of_lt (zNl (O:=O) (r:=r) j fun i hi=>h i (by omega)))
  show 0≤(arS O r j).1 * (r (j + 1)).2.2 + c3 O (r j) (r (j + 1)) * (arS O r j).2
  omega
structure Fine (p:P3):Prop where
 x:p.1.natAbs≤10 ^ 23
 y:p.2.1.natAbs≤10 ^ 23
 w:p.2.2.natAbs≤10 ^ 19
 pos:0 < p.2.2
theorem zQf {O A B:P3} (hO:Fine O) (hA:Fine A) (hB:Fine B):(c3 O A B).natAbs≤10 ^ 66:=by
 have e1:(10:Nat) ^ 23 * 10 ^ 19 = 10 ^ 42:=by decide +kernel
 have e2:(10:Nat) ^ 23 * 10 ^ 23 = 10 ^ 46:=by decide +kernel
 have e3:(10:Nat) ^ 23 * (10 ^ 42 + 10 ^ 42) = 2 * 10 ^ 65:=by decide +kernel
 have e4:(10:Nat) ^ 19 * (10 ^ 46 + 10 ^ 46) = 2 * 10 ^ 65:=by decide +kernel
 have z1:=zAf A.2.1 B.2.2 hA.y hB.w
 have z2:=zAf B.2.1 A.2.2 hB.y hA.w
 have z3:=zAf A.1 B.2.2 hA.x hB.w
 have z4:=zAf B.1 A.2.2 hB.x hA.w
 have z5:=zAf A.1 B.2.1 hA.x hB.y
 have z6:=zAf B.1 A.2.1 hB.x hA.y
 rw [e1] at z1 z2 z3 z4
 rw [e2] at z5 z6
 have y1:=zAf O.1 (A.2.1 * B.2.2 - B.2.1 * A.2.2) hO.x (n:=10 ^ 42 + 10 ^ 42) (by omega)
 have y2:=zAf O.2.1 (A.1 * B.2.2 - B.1 * A.2.2) hO.y (n:=10 ^ 42 + 10 ^ 42) (by omega)
 have y3:=zAf O.2.2 (A.1 * B.2.1 - B.1 * A.2.1) hO.w (n:=10 ^ 46 + 10 ^ 46) (by omega)
 rw [e3] at y1 y2
 rw [e4] at y3
 have e5:6 * (10:Nat) ^ 65≤10 ^ 66:=by decide +kernel
 unfold c3
 generalize O.1 * (A.2.1 * B.2.2 - B.2.1 * A.2.2) = a at y1 ⊢
 generalize O.2.1 * (A.1 * B.2.2 - B.1 * A.2.2) = b at y2 ⊢
 generalize O.2.2 * (A.1 * B.2.1 - B.1 * A.2.1) = d at y3 ⊢
 clear z1 z2 z3 z4 z5 z6 e1 e2 e3 e4
 generalize (10:Nat) ^ 65 = M at y1 y2 y3 e5
 generalize (10:Nat) ^ 66 = M' at e5 ⊢
 omega
theorem zKs {O:P3} {r:Nat→P3} (hO:Fine O):∀ j,(∀ i,i≤j→Fine (r i))→(arS O r j).1.natAbs≤j * 10 ^ (66 + 19 * j)∧(arS O r j).2.natAbs≤10 ^ (19 * j)
 | 0,_=>⟨(show (0:Int).natAbs≤0 * 10 ^ (66 + 19 * 0) by decide),(show (1:Int).natAbs≤10 ^ (19 * 0) by decide)⟩
 | j + 1,h=>by
  obtain ⟨h1,h2⟩:=zKs hO j fun i hi=>h i (by omega)
  have z1:=zAf (arS O r j).1 (r (j + 1)).2.2 h1 (h (j + 1) (Nat.le_refl _)).w
  have z2:=zAf (c3 O (r j) (r (j + 1))) (arS O r j).2 (zQf hO (h j (by omega)) (h (j + 1) (Nat.le_refl _))) h2
  have z3:=zAf (arS O r j).2 (r j).2.2 h2 (h j (by omega)).w
  have e1:(10:Nat) ^ (66 + 19 * (j + 1)) = 10 ^ (66 + 19 * j) * 10 ^ 19:=by rw [← Nat.pow_add]; congr 1
  have e2:(10:Nat) ^ (19 * (j + 1)) = 10 ^ (19 * j) * 10 ^ 19:=by rw [← Nat.pow_add]; congr 1
  have e3:(10:Nat) ^ 66 * 10 ^ (19 * j) = 10 ^ (66 + 19 * j):=by rw [← Nat.pow_add]
  have e4:(10:Nat) ^ (66 + 19 * j)≤10 ^ (66 + 19 * j) * 10 ^ 19:=Nat.le_mul_of_pos_right _ (by decide)
  refine ⟨?_,by rw [e2]; exact z3⟩
  show ((arS O r j).1 * (r (j + 1)).2.2 + c3 O (r j) (r (j + 1)) * (arS O r j).2).natAbs≤(j + 1) * 10 ^ (66 + 19 * (j + 1))
  rw [e3] at z2
  rw [Nat.mul_assoc] at z1
  rw [e1,Nat.add_mul,Nat.one_mul]
  have t:=Int.natAbs_add_le ((arS O r j).1 * (r (j + 1)).2.2) (c3 O (r j) (r (j + 1)) * (arS O r j).2)
  omega
theorem zP1 {O:P3} {r:Nat→P3} {j:Nat} (hO:Fine O) (hj:j≤16) (h:∀ i,i≤j→Fine (r i)):(arS O r j).1.natAbs≤10 ^ 372:=by
 have z:=(zKs hO j h).1
 refine Nat.le_trans z (Nat.le_trans (Nat.mul_le_mul hj (Nat.pow_le_pow_right (by decide) (show 66 + 19 * j≤370 by omega))) (by decide +kernel))
theorem zQa {O:P3} {r:Nat→P3} {j:Nat} (hO:Fine O) (hj:j≤16) (h:∀ i,i≤j→Fine (r i)):(arB O r j).natAbs≤10 ^ 343:=by
 have z:=(zKs hO j h).2
 have z1:=zAf (2 * O.2.2) (arS O r j).2 (m:=2 * 10 ^ 19) (by have:=hO.w; omega) (Nat.le_trans z (Nat.pow_le_pow_right (by decide) (show 19 * j≤304 by omega)))
 have z2:=zAf (2 * O.2.2 * (arS O r j).2) (r j).2.2 z1 (h j (Nat.le_refl _)).w
 exact Nat.le_trans z2 (by decide +kernel)
theorem zKy {ss:List Sd} {P:P3} (sm:∀ t∈ss,t.2.1.natAbs≤10 ^ 9∧t.2.2.1.natAbs≤10 ^ 9∧t.2.2.2.natAbs≤10 ^ 13) (c:Cor ss P):Fine P:=by
 obtain ⟨e,he,s,hs,h,rfl,_⟩:=c
 obtain ⟨b1,b2,b3⟩:=sm e he
 obtain ⟨c1,c2,c3⟩:=sm s hs
 obtain ⟨x,y,w,el,sp⟩:=zEj (X:=e.2.2.2 * s.2.2.1 - e.2.2.1 * s.2.2.2) (Y:=e.2.1 * s.2.2.2 - e.2.2.2 * s.2.1) (W:=e.2.1 * s.2.2.1 - e.2.2.1 * s.2.1) h
 have e1:crL e.2 s.2 = [x,y,w]:=el
 rw [e1]
 have z1:=zAf e.2.2.2 s.2.2.1 b3 c2
 have z2:=zAf e.2.2.1 s.2.2.2 b2 c3
 have z3:=zAf e.2.1 s.2.2.2 b1 c3
 have z4:=zAf e.2.2.2 s.2.1 b3 c1
 have z5:=zAf e.2.1 s.2.2.1 b1 c2
 have z6:=zAf e.2.2.1 s.2.1 b2 c1
 have x1:=sp.xle
 have x2:=sp.yle
 have x3:=sp.wle
 have x4:=sp.pos
 exact ⟨by show x.natAbs≤_; omega,by show y.natAbs≤_; omega,by show w.natAbs≤_; omega,by show 0 < w; omega⟩
theorem Rg.nodup {ss:List Sd} {O:P3} {rest:List P3} (R:Rg ss O rest):(O :: rest).Nodup:=by
 refine List.nodup_cons.mpr ⟨fun h=>(R.fw O h).1 rfl,?_⟩
 rw [List.nodup_iff_pairwise_ne] 
 exact R.left.imp fun {A B} h e=>by
  rw [e,c3_z2] at h
  exact absurd h (by decide)
end Sea

namespace L2
open PySem PySem.Spec PyProof.Rows
section
variable {prog:Program} {w:World} {A:Around} {E:Value→Shared→Prop}
end
section
variable {X:Cx} {pos:Pos}
end
end L2

namespace PyProof.Rows
open PySem
section
variable {prog:Program} {w:World} {A:Around} {E:Value→Shared→Prop} {s:Shared} {st:SortSt} {κ:SortKind} {ys:List Keyed}
theorem zI9 {α:Type} {m:Sem α} {Q:α→SortSt→Prop} (h:wpAny (model prog w) A m (fun a s'=>s' = s∧Q a st) E s):wpS (model prog w) A E s (liftM m:StateT SortSt Sem α) Q st:=by
 unfold wpS
 show wpAny (model prog w) A ((StateT.lift m:StateT SortSt Sem α).run st) _ E s
 rw [StateT.run_lift]
 exact wpAny_bind (wpAny_mono h (fun a s' h'=>wpAny_pure h') fun _ _ e=>e)
theorem zL4 {arr:Array Keyed} {i:Nat} (hi:i < arr.size) {Q:Keyed→SortSt→Prop} (h:Q arr[i] st):wpS (model prog w) A E s (elem' arr i) Q st:=by
 rw [elem'_eq,Array.getElem?_eq_getElem hi]
 exact wpS_pure h
theorem zDc {α:Type} {c:Prop} [Decidable c] {m m':StateT SortSt Sem α} {Q:α→SortSt→Prop} (h1:c→wpS (model prog w) A E s m Q st) (h2:¬ c→wpS (model prog w) A E s m' Q st):wpS (model prog w) A E s (if c then m else m') Q st:=by
 split
 ·exact h1 (by assumption)
 ·exact h2 (by assumption)
theorem zSb {α:Type} {x y:Nat} {m m':StateT SortSt Sem α} {Q:α→SortSt→Prop} (h1:x = y→wpS (model prog w) A E s m Q st) (h2:x≠y→wpS (model prog w) A E s m' Q st):wpS (model prog w) A E s (if (x == y) = true then m else m') Q st:=by
 refine zDc (fun e=>h1 (by simpa using e)) fun e=>h2 (by simpa using e)
end
structure Took (x y out:Array Keyed) (ia ib:Nat):Prop where
 pm:out.toList.Perm (x.toList.take ia ++ y.toList.take ib)
 la:ia≤x.size
 lb:ib≤y.size
section
variable {x y out:Array Keyed} {ia ib:Nat}
end
section
variable {prog:Program} {w:World} {A:Around} {E:Value→Shared→Prop} {s:Shared} {st:SortSt} {κ:SortKind} {ys:List Keyed}
end
structure Left (x y out:Array Keyed) (na nb:Nat):Prop where
 pm:out.toList.Perm (x.toList.drop na ++ y.toList.drop nb)
 la:na≤x.size
 lb:nb≤y.size
section
variable {x y out:Array Keyed} {na nb:Nat}
end
section
variable {prog:Program} {w:World} {A:Around} {E:Value→Shared→Prop} {s:Shared} {st:SortSt} {κ:SortKind} {ys:List Keyed}
end
end PyProof.Rows

namespace PyProof.Rows
open PySem
structure zDp (κ:SortKind) (ys:List Keyed) (st:SortSt):Prop where
 perm:(arrOf st).toList.Perm ys
 kind:kindOf st = κ
 failed:failedOf st = none
section
variable {prog:Program} {w:World} {A:Around} {E:Value→Shared→Prop} {s:Shared} {st st':SortSt} {κ:SortKind} {ys:List Keyed}
theorem zDp.size (h:zDp κ ys st):(arrOf st).size = ys.length:=by rw [← Array.length_toList]; exact h.perm.length_eq
theorem zDp.mem (h:zDp κ ys st) {i:Nat} (hi:i < (arrOf st).size):(arrOf st)[i]∈ys:=h.perm.mem_iff.mp (by rw [← Array.getElem_toList]; exact List.getElem_mem _)
theorem zDp.set (h:zDp κ ys st) {xs:Array Keyed} (hp:xs.Perm (arrOf st)):zDp κ ys (setArr st xs):=⟨(Array.perm_iff_toList_perm.mp hp).trans h.perm,h.kind,h.failed⟩
theorem zK6 {α:Type} {code:StateT SortSt Sem α} {P:SortSt→Prop} {Q:α→SortSt→Prop} {m:StateT SortSt Sem α} (use:(∀ st2,P st2→wpS (model prog w) A E s code Q st2)→wpS (model prog w) A E s m Q st) (H:∀ st2,P st2→wpS (model prog w) A E s code Q st2):wpS (model prog w) A E s m Q st:=use H
theorem zO2 {α:Type} {code:Nat→StateT SortSt Sem α} {P:Nat→SortSt→Prop} {Q:α→SortSt→Prop} {m:StateT SortSt Sem α} (use:(∀ n st2,P n st2→wpS (model prog w) A E s (code n) Q st2)→wpS (model prog w) A E s m Q st) (H:∀ n st2,P n st2→wpS (model prog w) A E s (code n) Q st2):wpS (model prog w) A E s m Q st:=use H
end
section
variable {prog:Program} {w:World} {A:Around} {E:Value→Shared→Prop} {s:Shared} {st st':SortSt} {κ:SortKind} {ys:List Keyed}
end
end PyProof.Rows

namespace PySem.W
open PySem PySem.Calls PyProof.Rows
section
variable {prog:Program} {w:World} {A:Around} {E:Value→Shared→Prop} {s:Shared}
end
end PySem.W
namespace L2
open PySem PySem.Spec PyProof.Rows PySem.W
section
variable {prog:Program} {w:World} {A:Around} {E:Value→Shared→Prop} {s:Shared}
theorem zIf {M:Model} {β:Type} {f:Value→Sem β} {R:β→Prop} : ∀ {vs:List Value} {Q:List β→Shared→Prop},(∀ v∈vs,∀ Q:β→Shared→Prop,(∀ b,R b→Q b s)→wpAny M A (f v) Q E s)→(∀ bs,(∀ b∈bs,R b)→Q bs s)→wpAny M A (vs.mapM f) Q E s
 | [],Q,_,h=>by rw [List.mapM_nil]; exact wpAny_pure (h [] fun b hb=>nomatch hb)
 | v :: vs,Q,hf,h=>by
  rw [List.mapM_cons]
  refine wpAny_bind (hf v (.head _) _ fun b rb=>wpAny_bind (zIf (R:=R) (fun u hu=>hf u (.tail _ hu)) fun bs hbs=>wpAny_pure (h _ fun c hc=>?_)))
  rcases List.mem_cons.mp hc with rfl | hc
  ·exact rb
  ·exact hbs c hc
def zSp (h:Heap) (v:Value):Prop:=(∃ i t,v = .int i t)∨∃ a o,v = .ref a∧h.get? a = some o
theorem zUo {M:Model} {v:Value} (hv:zSp s.heap v) {Q:Value→Shared→Prop} (h:∀ b,Q b s):wpAny M A (typeOf v) Q E s:=by
 rcases hv with ⟨i,t,rfl⟩ | ⟨a,o,rfl,ho⟩
 ·exact wpAny_pure (h _)
 ·exact Looks.here (show Looks M s.heap (typeOf (.ref a)) o.cls from (Looks.ld ho).andThen .now) (h _)
theorem zN3 {M:Model} {vs:List Value} (hv:∀ v∈vs,zSp s.heap v) {Q:Option Value→Shared→Prop} (h:∀ b,Q b s):wpAny M A (oneTypeOnly' vs.toArray) Q E s:=by
 rw [oneTypeOnly'_eq,List.mapM_toArray,map_eq_pure_bind]
 refine wpAny_bind (wpAny_bind (zIf (R:=fun _=>True) (fun v hm Q' hq=>zUo (hv v hm) fun b=>hq b trivial) fun bs _=>wpAny_pure ?_))
 split
 ·exact wpAny_pure (h _)
 ·exact wpAny_pure (h _)
theorem zSl {M:Model} {vs:List Value} (hT:∀ v∈vs,∃ ns,TupN s.heap v ns) {Q:SortKind→Shared→Prop} (h:∀ κ,Q κ s):wpAny M A (keyKind' vs.toArray) Q E s:=by
 have ht:∀ v∈vs,zSp s.heap v:=fun v hv=>by
  obtain ⟨ns,a,o,n,its,e,ho,_⟩:=hT v hv
  exact .inr ⟨a,o,e,ho⟩
 rw [kat_kind_eq,List.mapM_toArray,map_eq_pure_bind]
 refine wpAny_bind (wpAny_bind (zIf (R:=fun b=>∀ v,b = some v→zSp s.heap v) (fun v hm Q' hq=>?_) fun bs hbs=>wpAny_pure ?_))
 ·obtain ⟨ns,a,o,n,its,rfl,ho,hc,hd,r⟩:=hT v hm
  rw [kas_first_eq]
  refine wpAny_bind (Looks.here (show Looks M s.heap (typeOf (.ref a)) o.cls from (Looks.ld ho).andThen .now) ?_)
  rw [hc,if_neg (by first | decide | simp)]
  refine wpAny_bind (listItems_at ho hd (wpAny_pure (hq _ fun v e=>?_)))
  cases ns with
  | nil =>
   cases r
   cases e
  | cons k ks =>
   cases r with
   | cons p q =>
    obtain ⟨t,rfl⟩:=p
    rw [List.getElem?_toArray,List.getElem?_cons_zero] at e
    cases e
    exact .inl ⟨_,_,rfl⟩
 ·split
  ·refine wpAny_bind (wpAny_rule ?_)
   have e:bs.toArray.filterMap id = (bs.filterMap id).toArray:=by simp
   rw [e]
   refine wpAny_bind (zN3 (fun v hv=>?_) fun b=>wpAny_pure (h _))
   obtain ⟨b,hb,e⟩:=List.mem_filterMap.mp hv
   exact hbs b hb v e
  ·split
   ·exact wpAny_pure (h _)
   ·exact wpAny_bind (zN3 ht fun b=>wpAny_pure (h _))
end
theorem zL8 {α β:Type} {f:α→β} {out m:List β} (h:out.Perm m):∀ {l:List α},l.map f = m→∃ l':List α,l'.Perm l∧l'.map f = out:=by
 induction h with
 | nil=>exact fun {l} e=>⟨l,.refl _,e⟩
 | cons x _ ih =>
  intro l e
  cases l with
  | nil=>cases e
  | cons a l =>
   obtain ⟨l',p,e'⟩:=ih (List.cons.inj e).2
   exact ⟨a :: l',p.cons _,by rw [List.map_cons,e',(List.cons.inj e).1]⟩
 | swap x y t =>
  intro l e
  match l,e with
  | a :: b :: l,e =>
   obtain ⟨e1,e2⟩:=List.cons.inj e
   obtain ⟨e3,e4⟩:=List.cons.inj e2
   exact ⟨b :: a :: l,.swap ..,by rw [List.map_cons,List.map_cons,e1,e3,e4]⟩
 | trans _ _ ih1 ih2 =>
  intro l e
  obtain ⟨l2,p2,e2⟩:=ih2 e
  obtain ⟨l1,p1,e1⟩:=ih1 e2
  exact ⟨l1,p1.trans p2,e1⟩
section
variable {X:Cx}
end
end L2

namespace L2
open PySem PySem.Spec PyProof.Rows
def zDe (H:Hp) (d:Addr):Hp:=fun b=>if b = d then none else H b
theorem zF1 {H:Hp} {d:Addr} : zDe H d d = none:=if_pos rfl
theorem zD8 {H:Hp} {d b:Addr} (h:b≠d):zDe H d b = H b:=if_neg h
theorem zU7 {H:Hp} {d b:Addr} {o:HO} (h:zDe H d b = some o):b≠d∧H b = some o:=by
 by_cases e:b = d
 ·rw [e,zF1] at h; cases h
 ·exact ⟨e,by rw [← h,zD8 e]⟩
theorem zD0 {H:Hp} {d b:Addr} (h:H b = none):zDe H d b = none:=by
 by_cases e:b = d
 ·rw [e,zF1]
 ·rw [zD8 e,h]
theorem zDr {H:Hp} {d b:Addr} {o ob:HO} (hd:H d = some ob) (h:H b = some o) (n:ob≠o):zDe H d b = some o:=by
 rw [zD8 fun e=>n ?_]
 ·exact h
 ·rw [e,hd] at h
  exact Option.some.inj h
theorem zRh {H:Hp} {d D:Addr} {o v:HO} (hd:H d = some o) (n:D≠d):upd (upd (zDe H d) D v) d o = upd H D v:=by
 funext b
 by_cases e:b = d
 ·rw [e,zAb,zAo (Ne.symm n),hd]
 ·rw [zAo e]
  by_cases e2:b = D
  ·rw [e2,zAb,zAb]
  ·rw [zAo e2,zAo e2,zD8 e]
section
variable {X:Cx} {pins:List (Addr × Obj)} {σ:St} {H H3:Hp} {s s3:Shared} {d:Addr} {kvs:List (List Key × V)}
theorem Inv.hide (I:Inv X pins σ H s) (hd:H d = some (.dT kvs)):Inv X pins σ (zDe H d) s where
 ok:=I.ok
 os:=I.os
 bare:=I.bare
 base:=⟨I.base.keep,I.base.slot,fun b o e n hx=>zD0 (I.base.free b o e n hx),I.base.there,fun b xs e=>zDr hd (I.base.tups b xs e) (fun z=>nomatch z),fun b o u e=>zDr hd (I.base.frzs b o u e) (fun z=>nomatch z),
  fun b ps e=>let ⟨more,q⟩:=I.base.tbls b ps e; ⟨more,zDr hd q (fun z=>nomatch z)⟩⟩
 loc:=I.loc
 cell:=I.cell
 free:=zD0 I.free
 freeC:=fun x c e=>zD0 (I.freeC x c e)
 pin:=fun p hp=>let ⟨h1,h2,h3⟩:=I.pin p hp; ⟨h1,zD0 h2,h3⟩
 hok:=fun b o e=>by
  obtain ⟨_,e'⟩:=zU7 e
  exact (I.hok b o e').stay (fun c u _ q=>q) (fun c q=>zDr hd q (fun z=>nomatch z)) fun c xs q=>zDr hd q (fun z=>nomatch z)
 len:=I.len
theorem Inv.back (I:Inv X pins σ H s) (hd:H d = some (.dT kvs)) (J:Inv X pins σ H3 s3) (hH:H3 d = none) (same:∀ o,s.heap.get? d = some o→s3.heap.get? d = some o) (tp:∀ b xs,H b = some (.tup xs)→H3 b = some (.tup xs)):Inv X pins σ (upd H3 d (.dT kvs)) s3:=by
 have ne:∀ {b:Addr},H b = none→b≠d:=fun {b} n e=>by rw [e,hd] at n; cases n
 have nk:∀ {b:Addr} {o:HO},H3 b = some o→upd H3 d (.dT kvs) b = some o:=fun {b o} e=>by
  rw [zAo fun z=>by rw [z,hH] at e; cases e]
  exact e
 refine ⟨J.ok,J.os,J.bare,⟨J.base.keep,J.base.slot,fun b o e n hx=>?_,J.base.there,fun b xs e=>nk (J.base.tups b xs e),fun b o u e=>nk (J.base.frzs b o u e),fun b ps e=>let ⟨more,q⟩:=J.base.tbls b ps e; ⟨more,nk q⟩⟩,J.loc,J.cell,?_,fun x c e=>?_,fun p hp=>?_,fun b o e=>?_,J.len⟩
 ·rw [zAo (ne (I.base.free b o e n hx))]
  exact J.base.free b o e n hx
 ·rw [zAo (ne I.free)]
  exact J.free
 ·rw [zAo (ne (I.freeC x c e))]
  exact J.freeC x c e
 ·obtain ⟨h1,h2,h3⟩:=J.pin p hp
  exact ⟨h1,by rw [zAo (ne (I.pin p hp).2.1)]; exact h2,h3⟩
 ·by_cases eb:b = d
  ·subst eb
   rw [zAb] at e
   cases e
   obtain ⟨z,y,xs,r,o,es,ep,h1,h2⟩:=(show zCc X.prog X.w H s.heap b (.dT kvs) from I.hok b _ hd)
   exact ⟨z,y,xs,KT.keeps r (fun c ys q=>nk (tp c ys q)),o,es,ep,same _ h1,h2⟩
  ·rw [zAo eb] at e
   exact (J.hok b o e).stay (fun c u _ q=>q) (fun c q=>nk q) fun c xs q=>nk q
def Itk (ts:List (Addr × List Key)):It:=⟨fun k _=>k < ts.length,fun k H v H'=>H' = H∧∃ t,ts[k]? = some t∧v = .ref t.1,fun k _=>ts.length≤k⟩
def tCompD (nt:Nat) (caps:List (Str × Nat)) (tl:TE) (g:CC→TG) (tt:CC→TT) (te:CC→TE):TE:=fun σ H Q=>tl σ H fun x H1=>∃ (d:Addr) (kvs:List (List Key × V)),x = .ref d∧H1 d = some (.dT kvs) ∧
 ∀ (ts:List (Addr × List Key)),ts.map (·.2) = kvs.map (·.1)→(∀ t∈ts,H1 t.1 = some (.tup (t.2.map kV)))→∀ (c:CC) (D:Addr),H1 D = none →
  zG6 (Itk ts) D (g c) (tt c) (te c) (zL5 caps nt σ) (zDe H1 d) (fun v H'=>H' d = none→Q v (upd H' d (.dT kvs)))
variable {T:List Str} {caps:List (Str × Nat)} {scope:Scope} {elt target iter:Expr} {ifs:List Expr} {pos:Pos} {tl:TE} {g:CC→TG} {tt:CC→TT} {te:CC→TE}
theorem zNv (S:zDb X caps scope) (hc:X.calm = true) (hl:PE X iter tl) (hg:∀ c,PG (zBe X (T ++ caps.map (·.1)) scope c) target (g c)) (ht:∀ c,PIfs (zBe X (T ++ caps.map (·.1)) scope c) ifs (tt c)) (he:∀ c,PE (zBe X (T ++ caps.map (·.1)) scope c) elt (te c))
  (hs:∀ x,foldedSetIterable iter X.env x = pure x:=by intro _; rfl):PE X (.ListComp elt [⟨target,iter,ifs,0⟩] scope pos) (tCompD T.length caps tl g tt te):=by
 intro pins s σ H Q I h
 rw [eval_ListComp]
 refine wpAny_comprehension_free (use:=none) rfl hs (zMw S.cells) S.kind S.loc (thn (hl pins s σ H _ I h) fun v s1 ⟨x,H1,I1,r1,q1⟩=>?_)
 obtain ⟨d,kvs,e,hd,q⟩:=q1
 subst e
 cases r1
 obtain ⟨hz,hsm,ys,rel,ob,es,age,gd,ex,dat,hes,hjunk⟩:=zUj I1.hok hd
 have hsz:es.size = ys.length:=size_of_entries hes
 have props:(ys.map fun y=>(y.2.1,y.1)).map (·.2) = kvs.map (·.1)∧∀ t∈ys.map (fun y=>(y.2.1,y.1)),H1 t.1 = some (.tup (t.2.map kV)):=by
  clear hes hsz q hd hz hjunk
  induction rel with
  | nil=>exact ⟨rfl,fun t ht=>nomatch ht⟩
  | @cons p y ps zs hp t ih =>
   refine ⟨by rw [List.map_cons,List.map_cons,List.map_cons,ih.1,hp.1],fun t' ht'=>?_⟩
   rcases List.mem_cons.mp ht' with e | ht'
   ·subst e
    show H1 y.2.1 = some (.tup (y.1.map kV))
    rw [← hp.1]
    exact hp.2.1
   ·exact ih.2 t' ht'
 have keyAt:∀ (k:Nat) (hk:k < es.size),∃ t,(ys.map fun y=>(y.2.1,y.1))[k]? = some t∧es[k].key = Value.ref t.1:=fun k hk=>by
  have ek:=entry_at hes k
  have hk':k < ys.length:=by omega
  rw [Array.getElem?_eq_getElem hk,List.getElem?_eq_getElem hk',Option.map_some] at ek
  refine ⟨_,by rw [List.getElem?_map,List.getElem?_eq_getElem hk']; rfl,?_⟩
  rw [Option.some.inj ek]
  rfl
 have q:=q _ props.1 props.2
 have tlen:(ys.map fun y=>(y.2.1,y.1)).length = es.size:=by rw [List.length_map,hsz]
 generalize (ys.map fun y=>(y.2.1,y.1)) = ts at props keyAt q tlen
 have raw1:RawD s1.heap d es age:=⟨ob,gd,ex,dat⟩
 refine zNw hsm raw1 ?_
 have I2:Inv X pins σ (zDe H1 d) { s1 with heap:=s1.heap.push { cls:=.type "dict_keyiterator", data:=.fields #[.ref d,.int 0 0,.int es.size 0,.int age 0] } }:=(I1.hide hd).kept (t':=s1.toks) fun b o e=>Heap.get?_push_of_some _ e
 have ki0:({ s1 with heap:=s1.heap.push { cls:=.type "dict_keyiterator", data:=.fields #[.ref d,.int 0 0,.int es.size 0,.int age 0] } } : Shared).heap.IsKeyIter s1.heap.objs.size d 0 es.size age:=⟨_,Heap.get?_push_size _ rfl,rfl,rfl⟩
 have gd2:({ s1 with heap:=s1.heap.push { cls:=.type "dict_keyiterator", data:=.fields #[.ref d,.int 0 0,.int es.size 0,.int age 0] } } : Shared).heap.get? d = some ob:=Heap.get?_push_of_some _ gd
 have f2:∀ b∈[s1.heap.objs.size],FpOk X pins (zDe H1 d) b:=fun b hb=>by
  rw [List.mem_singleton] at hb
  subst hb
  exact I1.fpOk (Nat.le_refl _) (zD0 (I1.hok.fresh (Nat.le_refl _)))
 have ndf:d ∉ frs X.stack:=fun z=>by
  have:=I1.stkFree d z
  rw [hd] at this
  cases this
 have dlt:d < s1.heap.objs.size:=Heap.lt_size gd
 have fr1:∀ b,s1.heap.objs.size≤b→H1 b = none:=fun b hb=>I1.hok.fresh hb
 have q2:∀ c:CC,∀ D:Addr,H1 D = none→zG6 (Itk ts) D (g c) (tt c) (te c) (zL5 caps T.length σ) (zDe H1 d) (fun v H'=>H' d = none→Q v (upd H' d (.dT kvs))):=q
 have hsize:({ s1 with heap:=s1.heap.push { cls:=.type "dict_keyiterator", data:=.fields #[.ref d,.int 0 0,.int es.size 0,.int age 0] } } : Shared).heap.objs.size = s1.heap.objs.size + 1:=by rw [Heap.size_push]
 generalize ({ s1 with heap:=s1.heap.push { cls:=.type "dict_keyiterator", data:=.fields #[.ref d,.int 0 0,.int es.size 0,.int age 0] } } : Shared) = s2 at I2 hsize ki0 gd2 ⊢
 have itlt:s1.heap.objs.size < s2.heap.objs.size:=by rw [hsize]; exact Nat.lt_succ_self _
 generalize s1.heap.objs.size = it at ki0 itlt f2 dlt ⊢
 refine wpAny_newObj_type (wpAny_newFunctionEnv S.nocell (by intro y hy; simp at hy) (fun h1 hn hsb=>?_) S.kind)
 dsimp only at hn hsb ⊢
 generalize hg2:s2.heap.push { cls:=.type "list", dict:=none,data:=.seq ([]:List Value).toArray } = G at hn hsb ⊢
 have hCv:G.objs.size = s2.heap.objs.size + 1:=by rw [← hg2,Heap.size_push]
 have hDC:G.objs.size≠s2.heap.objs.size:=by rw [hCv]; exact Nat.succ_ne_self _
 have hCle:s2.heap.objs.size≤G.objs.size:=by rw [hCv]; exact Nat.le_succ _
 have old:∀ b o,s2.heap.get? b = some o→h1.get? b = some o:=fun b o e=>hsb.extBut b o (Nat.ne_of_lt (Nat.lt_of_lt_of_le (Heap.lt_size e) hCle)) (Heap.get?_push_of_some _ (hg2 ▸ Heap.get?_push_of_some _ e))
 have hacc:∃ n,h1.get? s2.heap.objs.size = some { cls:=.type "list", data:=.seq ([]:List Value).toArray n }:=⟨_,hsb.extBut _ _ (Ne.symm hDC) (Heap.get?_push_of_some _ (hg2 ▸ Heap.get?_push_size _ rfl))⟩
 have hfp:∀ b∈[it],b < s2.heap.objs.size:=fun b hb=>by
  rw [List.mem_singleton] at hb
  subst hb
  exact itlt
 have cs:=zC6 (env:=X.env) scope.names [] S.cells (fun _ _ z=>by cases z)
 have I0:=zGx (T:=T) (tk:=s2.toks + ([]:List (Str × Value)).length) S I2 f2 hfp (Nat.le_refl _) hCle hDC old hacc hn
 have st0:h1.IsKeyIter it d 0 es.size age:=ki0.at fun o e=>old _ o e
 have fresh2:zDe H1 d s2.heap.objs.size = none:=I2.hok.fresh (Nat.le_refl _)
 have dlt2:d < s2.heap.objs.size:=Heap.lt_size gd2
 obtain ⟨W,⟨m0,w0⟩,turn⟩:=q2 ⟨G.objs.size,s2,zDe H1 d,[it]⟩ s2.heap.objs.size (by rw [← zD8 (H:=H1) (Nat.ne_of_gt dlt2)]; exact fresh2)
 have fr0:∀ b∈[it],upd (zDe H1 d) s2.heap.objs.size (.lst []) b = none:=fun b hb=>by
  rw [zAo (Nat.ne_of_lt (hfp b hb))]
  exact (f2 b hb).1
 have stat:∀ {H':Hp},(∀ b∈[it],H' b = none)→∀ b∈[it],FpOk (zBe X (T ++ caps.map (·.1)) scope ⟨G.objs.size,s2,zDe H1 d,[it]⟩) [] H' b:=fun {H'} hn' b hb =>
  ⟨hn' b hb,Nat.ne_of_lt (Nat.lt_of_lt_of_le (hfp b hb) hCle),I0.ok.exfs b hb,.inl hb,fun x c e=>(f2 b hb).2.2.2.2.1 x c (cs x c e),fun p hp=>absurd (show p∈([]:List (Addr × Obj)) from hp) (by simp)⟩
 have ndit:d ∉ [it]:=fun z=>by rw [List.mem_singleton] at z; exact absurd dlt (by rw [z]; exact Nat.lt_irrefl _)
 have rawAt:∀ {pl:List (Addr × Obj)} {σ':St} {H':Hp} {s':Shared},Inv (zBe X (T ++ caps.map (·.1)) scope ⟨G.objs.size,s2,zDe H1 d,[it]⟩) pl σ' H' s'→s'.heap.get? d = some ob∧H' d = none:=fun {pl σ' H' s'} I' =>
  ⟨I'.base.keep d ob gd2 zF1 ndf ndit,I'.base.free d ob gd2 zF1 ndit⟩
 have objAt:∀ {h':Heap} {k:Nat},h'.IsKeyIter it d k es.size age→∀ b∈[it],∃ o,h'.get? b = some o∧∀ v,o.data≠.cell v:=fun {h' k} ki b hb=>by
  rw [List.mem_singleton] at hb
  subst hb
  obtain ⟨o,e,_,d2⟩:=ki
  exact ⟨o,e,fun v z=>by rw [d2] at z; cases z⟩
 have loop:codeAny (model X.prog X.w) X.A (.compLoop (.ListComp elt [⟨target,iter,ifs,0⟩] scope pos) 0 (.ref it) (.ref s2.heap.objs.size) (compEnvC scope (zE9 X.env scope.names []) G.objs.size X.env))
   (compPost (model X.prog X.w) X.A X.xe none (EP X pins σ Q) (.ref s2.heap.objs.size) G.objs.size) { s2 with heap:=h1,toks:=s2.toks + ([]:List (Str × Value)).length }:=by
  refine codeAny_loop rfl (fun n s'=>∃ i σ' ys H',Inv (zBe X (T ++ caps.map (·.1)) scope ⟨G.objs.size,s2,zDe H1 d,[it]⟩) [] σ' H' s'∧s'.heap.IsKeyIter it d i es.size age∧(∀ b∈[it],H' b = none)∧W i n σ' ys H') (fun n s3 hI=>?_) m0 ⟨0,_,[],_,I0,st0,fr0,w0⟩
  obtain ⟨i,σ3,ys,H3,I3,st3,fr3,w3⟩:=hI
  show wpAny _ X.A ((compTurn (.ListComp elt [⟨target,iter,ifs,0⟩] scope pos) 0 (.ref it) (.ref s2.heap.objs.size) (compEnvC scope (zE9 X.env scope.names []) G.objs.size X.env)).onRaise (fun x=>do noteFrame x (compEnvC scope (zE9 X.env scope.names []) G.objs.size X.env); theTreesLotGoes x)) _ _ s3
  refine wpAny_noted ?_
  rw [compTurn_list]
  refine wpAny_bind (wpAny_standAt (wpAny_bind ?_))
  obtain ⟨hD3,turn3⟩:=turn i n σ3 ys H3 w3
  obtain ⟨gd3,hd3⟩:=rawAt I3
  have raw3:RawD s3.heap d es age:=⟨ob,gd3,ex,dat⟩
  obtain ⟨f0,f1,f2',f3,f4,f5⟩:=stat fr3 it (.head _)
  rcases turn3 with ⟨stop,qn⟩ | ⟨go,N,hN,step⟩
  ·have stop:ts.length≤i:=stop
   refine zQd (I3.ok.hd hc) st3 raw3 (by omega) fun h' eb=>?_
   have I4:=I3.turned (t':=s3.toks) (fun b o hb q=>eb b o hb q) f0 f1 f3 f4 f5
   refine wpAny_pure ?_
   show ∃ m,h'.Ns G.objs.size m∧∀ h'',Heap.SameBut G.objs.size h' h''→EP X pins σ Q (.ref s2.heap.objs.size) { s3 with heap:=h'' }
   obtain ⟨m4,hn4,_⟩:=I4.loc
   refine ⟨m4,hn4,fun h'' sb=>⟨.ref s2.heap.objs.size,upd H3 d (.dT kvs),?_,rfl,qn hd3⟩⟩
   have J:Inv X pins σ H3 { s3 with heap:=h'' }:=by
    refine I2.call' (s':={ s3 with heap:=h'' }) (ch:=[it]) I4.os (Un.same I4.base sb (Heap.get?_none_of_le hCle)) (HOk.same I4.hok sb I4.free) I4.bare fun b hb=>?_
    obtain ⟨_,f1,_,f3,f4,f5⟩:=f2 b hb
    exact ⟨f3,f1,f4,f5⟩
   refine I1.back hd J hd3 (fun o e=>?_) fun b xs e=>?_
   ·rw [gd] at e
    cases e
    exact (sb.2 d (Nat.ne_of_lt (Nat.lt_of_lt_of_le dlt2 hCle))).trans (eb d ob (fun z=>ndit (by rw [z]; exact .head _)) gd3)
   ·exact I3.base.tups b xs (zDr hd e (fun z=>nomatch z))
  ·have go:i < ts.length:=go
   have hi':i < es.size:=by omega
   obtain ⟨t,gt,ek⟩:=keyAt i hi'
   refine zNt st3 raw3 hi' fun h' ki' hs'=>?_
   have I4:=I3.turned (t':=s3.toks) (fun b o hb q=>hs'.extBut b o hb q) f0 f1 f3 f4 f5
   have go':∀ {Q':Unit→Shared→Prop} {E':Value→Shared→Prop} {u:Value},Q' () { s3 with heap:=h' }→wpAny (model X.prog X.w) X.A (letOwnedTupleGo target (.ref it) u) Q' E' { s3 with heap:=h' }:=fun {Q' E' u} hq=>by
    obtain ⟨o,e,c,d2⟩:=ki'
    exact zTa e c d2 (by decide) hq
   refine wpAny_bind (go' ?_)
   have I5':=I4.pinned (stat fr3) (objAt ki')
   rw [ek]
   refine wpAny_bind (thnF (hg _ _ _ σ3 H3 (.ref t.1) _ _ I5' rfl (step (.ref t.1) H3 ⟨rfl,t,gt,rfl⟩)) fun _ s6 ⟨σ6,H6,I6,q6⟩=>?_)
   have again:∀ {s7:Shared} {σ7:St} {zs:List V} {H7:Hp},Inv (zBe X (T ++ caps.map (·.1)) scope ⟨G.objs.size,s2,zDe H1 d,[it]⟩) ([] ++ zIc [it] h') σ7 H7 s7→N σ7 zs H7 →
     ∃ m,m < n∧∃ i σ' ys H',Inv (zBe X (T ++ caps.map (·.1)) scope ⟨G.objs.size,s2,zDe H1 d,[it]⟩) [] σ' H' s7∧s7.heap.IsKeyIter it d i es.size age∧(∀ b∈[it],H' b = none)∧W i m σ' ys H':=fun {s7 σ7 zs H7} I7 n7=>by
    obtain ⟨m',hm,w7⟩:=hN σ7 zs H7 n7
    refine ⟨m',hm,i + 1,σ7,zs,H7,I7.unpinned,ki'.at fun o e=>(I7.pin (it,o) (List.mem_append_right _ (List.mem_append_right _ (zB8 (.head _) e)))).1,fun b hb=>?_,w7⟩
    obtain ⟨o,e,d⟩:=objAt ki' b hb
    exact (I7.pin (b,o) (List.mem_append_right _ (List.mem_append_right _ (zB8 hb e)))).2.1
   refine wpAny_bind (thnF (ht _ _ s6 σ6 H6 _ I6 q6) fun ok s7 ⟨H7,I7,q7⟩=>?_)
   cases ok with
   | false=>exact wpAny_pure ⟨rfl,again I7 q7⟩
   | true =>
    refine wpAny_bind (wpAny_bind (thnF (he _ _ s7 σ6 H7 _ I7 q7) fun y s8 ⟨yv,H8,I8,r8,hD8,hl8,q8⟩=>?_))
    refine wpAny_bind (thnF (zBy _ s8 σ6 H8 (.ref s2.heap.objs.size) [yv] (.ref s2.heap.objs.size) [y] (fun _ H9=>N σ6 (ys ++ [yv]) H9) I8 rfl (.cons r8 .nil) ⟨_,ys,yv,rfl,rfl,hD8,hl8,q8⟩) fun _ s9 ⟨_,H9,I9,_,q9⟩=>?_)
    exact wpAny_pure (wpAny_pure ⟨rfl,again I9 q9⟩)
 exact codeAny_compStart_list loop (wpAny_pyIter_keyiter st0 loop)
end
end L2

namespace L2
open PySem PySem.Spec PyProof.Rows
inductive Deep (K:PySem.W.Frag) (H:Hp):Nat→V→V→Bool→Prop where
 | same (n:Nat) (a:Addr):Deep K H n (.ref a) (.ref a) true
 | int (n:Nat) (i j:Int):Deep K H n (.int i) (.int j) (i == j)
 | lst {n:Nat} {a b:Addr} {xs ys:List V} {e:Nat→Bool} (ne:a≠b) (ha:SqL K H a xs) (hb:SqL K H b ys) (hl:xs.length = ys.length) (he:∀ (j:Nat) (h1:j < xs.length) (h2:j < ys.length),Deep K H n xs[j] ys[j] (e j)):Deep K H (n + 1) (.ref a) (.ref b) ((List.range xs.length).all e)
 | lstN {n:Nat} {a b:Addr} {xs ys:List V} (ne:a≠b) (ha:SqL K H a xs) (hb:SqL K H b ys) (hl:xs.length≠ys.length):Deep K H (n + 1) (.ref a) (.ref b) false
 | tup {n:Nat} {a b:Addr} {xs ys:List V} {e:Nat→Bool} (ne:a≠b) (ha:SqT K H a xs) (hb:SqT K H b ys) (he:∀ (j:Nat) (h1:j < xs.length) (h2:j < ys.length),Deep K H n xs[j] ys[j] (e j)):Deep K H (n + 1) (.ref a) (.ref b) ((List.range (min xs.length ys.length)).all e && xs.length == ys.length)
section
variable {X:Cx} {pins:List (Addr × Obj)} {σ:St} {H:Hp} {s:Shared}
theorem Vals.at {xs:List V} {us:List Value} (r:Vals xs us) {j:Nat} (h1:j < xs.length) (h2:j < us.length):RelV xs[j] us[j]:=by
 obtain ⟨u,e,ru⟩:=r.get (List.getElem?_eq_getElem h1)
 rw [List.getElem?_eq_getElem h2] at e
 cases e
 exact ru
theorem Deep.at (I:Inv X pins σ H s) {n:Nat} {x y:V} {r:Bool} (d:Deep X.K H n x y r):∀ {A:Around} {u v:Value},A.units + n < cLine→RelV x u→RelV y v→SeqAt.EqAt A s u v r∧(u≠v→(∃ a,x = .ref a)→SeqAt.RcAt A s u v r):=by
 induction d with
 | same n a =>
  intro A u v hu rx ry
  cases rx
  cases ry
  exact ⟨SeqAt.EqAt.same _,fun h=>absurd rfl h⟩
 | int n i j =>
  intro A u v hu rx ry
  obtain ⟨t,rfl⟩:=rx
  obtain ⟨t',rfl⟩:=ry
  exact ⟨SeqAt.EqAt.int_int _ _ _ _,fun _ ⟨a,e⟩=>nomatch e⟩
 | lst ne ha hb hl he ih =>
  intro A u v hu rx ry
  cases rx
  cases ry
  obtain ⟨us,r1,k1,_⟩:=I.list ha
  obtain ⟨ws,r2,k2,_⟩:=I.list hb
  have l1:=r1.length
  have l2:=r2.length
  have z:=SeqAt.RcAt.lists (A:=A) (s:=s) k1.isList k2.isList (by rw [List.size_toArray,List.size_toArray]; omega) (by omega) (fun j h1 h2=>(ih j (by simpa [l1] using h1) (by simpa [l2] using h2) (A:=A.in1) (show A.units + 1 + _ < cLine by omega) (r1.at _ (by simpa using h1)) (r2.at _ (by simpa using h2))).1)
  rw [List.size_toArray,← l1] at z
  exact ⟨SeqAt.EqAt.of_refs ne z,fun _ _=>z⟩
 | lstN ne ha hb hl =>
  intro A u v hu rx ry
  cases rx
  cases ry
  obtain ⟨us,r1,k1,_⟩:=I.list ha
  obtain ⟨ws,r2,k2,_⟩:=I.list hb
  have l1:=r1.length
  have l2:=r2.length
  have z:=SeqAt.RcAt.lists_lengths (A:=A) (s:=s) k1.isList k2.isList (by rw [List.size_toArray,List.size_toArray,bne_iff_ne]; omega) (by omega)
  exact ⟨SeqAt.EqAt.of_refs ne z,fun _ _=>z⟩
 | tup ne ha hb he ih =>
  intro A u v hu rx ry
  cases rx
  cases ry
  obtain ⟨us,r1,k1,_⟩:=I.tuple ha
  obtain ⟨ws,r2,k2,_⟩:=I.tuple hb
  have l1:=r1.length
  have l2:=r2.length
  have z:=SeqAt.RcAt.tuples (A:=A) (s:=s) (show s.heap.IsTuple _ us.toArray from k1) (show s.heap.IsTuple _ ws.toArray from k2) (by omega) (fun j h1 h2=>(ih j (by simpa [l1] using h1) (by simpa [l2] using h2) (A:=A.in1) (show A.units + 1 + _ < cLine by omega) (r1.at _ (by simpa using h1)) (r2.at _ (by simpa using h2))).1)
  rw [List.size_toArray,List.size_toArray,← l1,← l2] at z
  exact ⟨SeqAt.EqAt.of_refs ne z,fun _ _=>z⟩
def rEqD (K:PySem.W.Frag):R2:=fun x y H Q=>∃ (a b:Addr) (r:Bool),x = .ref a∧y = .ref b∧a≠b∧Deep K H 8 (.ref a) (.ref b) r∧Q (.bl r) H
theorem zTf (hu:X.A.units + 64 < cLine):OpR X (compareOp .Eq) (rEqD X.K):=by
 intro pins s σ H x y v u Q I rx ry h
 obtain ⟨a,b,r,rfl,rfl,ne,d,q⟩:=h
 cases rx
 cases ry
 refine (Deep.at I d (A:=X.A) (by omega) rfl rfl).2 (fun e=>ne (by injection e)) ⟨a,rfl⟩ X.prog X.w _ _ ?_
 exact ⟨.bl r,H,I,rfl,q⟩
theorem zOk:∀ (ns ms:List Int),ns.length = ms.length→(List.range ns.length).all (fun j=>ns.getD j 0 == ms.getD j 0) = decide (ns = ms)
 | [],[],_=>rfl
 | [],_ :: _,h=>nomatch h
 | _ :: _,[],h=>nomatch h
 | x :: xs,y :: ys,h=>by
  have ih:=zOk xs ys (by simpa using h)
  rw [List.length_cons,List.range_succ_eq_map,List.all_cons,List.all_map]
  have e:(List.range xs.length).all ((fun j=>(x :: xs).getD j 0 == (y :: ys).getD j 0) ∘ Nat.succ) = decide (xs = ys):=by
   rw [← ih]
   rfl
  rw [e]
  by_cases e1:x = y
  ·by_cases e2:xs = ys
   ·simp [e1,e2]
   ·simp [e1,e2]
  ·simp [e1]
theorem zPl {K:PySem.W.Frag} {H:Hp} {a b:Addr} {ns ms:List Int} (n:Nat) (ne:a≠b) (ha:SqL K H a (ns.map V.int)) (hb:SqL K H b (ms.map V.int)):Deep K H (n + 1) (.ref a) (.ref b) (decide (ns = ms)):=by
 by_cases hl:ns.length = ms.length
 ·have d:=Deep.lst (n:=n) (e:=fun j=>ns.getD j 0 == ms.getD j 0) ne ha hb (by rw [List.length_map,List.length_map]; exact hl) fun j h1 h2=>by
   rw [List.getElem_map,List.getElem_map]
   have e1:ns.getD j 0 = ns[j]'(by simpa using h1):=by simp [show j < ns.length by simpa using h1]
   have e2:ms.getD j 0 = ms[j]'(by simpa using h2):=by simp [show j < ms.length by simpa using h2]
   rw [e1,e2]
   exact .int _ _ _
  rw [List.length_map,zOk ns ms hl] at d
  exact d
 ·rw [decide_eq_false (fun e=>hl (by rw [e]))]
  exact .lstN ne ha hb (by rw [List.length_map,List.length_map]; exact hl)
theorem zQh (hc:X.calm = true):zHk X (.builtin "min") (fun xs H Q=>∃ (p:Addr) (ns:List Int),xs = [.ref p]∧SqL X.K H p (ns.map V.int)∧ns≠[]∧∀ M:Int,M∈ns→(∀ a∈ns,M≤a)→Q (.int M) H):=by
 intro pins s σ H xs us Q I r h
 obtain ⟨p,ns,rfl,hq,hne,q⟩:=h
 obtain ⟨u,rfl,r1⟩:=zR0 r
 cases r1
 obtain ⟨its,rv,pl,hz⟩:=I.list hq
 have hi:IntsAre its.toArray.toList ns:=zFc rv
 obtain ⟨ys,e⟩:=hi.allInts.items
 have hns:ns = ys.toList.map (·.1):=by rw [← hi.numsOf,← nums_intItems,← e]
 have hsz:0 < ys.size:=by
  have h3:0 < ns.length:=List.length_pos_iff.mpr hne
  rw [hns,List.length_map,Array.length_toList] at h3
  exact h3
 have hL:s.heap.IsList p (intItems ys):=by rw [← e]; exact pl.isList
 refine min_intList (I.ok.hd hc) hL hsz fun v h' tk hv hk=>?_
 obtain ⟨t,rfl⟩:=intItems_at hv
 obtain ⟨h1,h2⟩:=argBest_lt (numAt ys) (ys.size - 1)
 refine ⟨.int _,H,I.kept (t':=tk) hk,⟨t,rfl⟩,q _ ?_ fun a ha=>?_⟩
 ·rw [hns,numAt_eq]; exact getD_mem (by rw [List.length_map,Array.length_toList]; omega)
 ·rw [hns] at ha
  obtain ⟨j,hj,rfl⟩:=mem_getD ha
  rw [List.length_map,Array.length_toList] at hj
  rw [← numAt_eq]; exact h2 j (by omega)
end
end L2

namespace HT
open PySem PySem.Spec
section
open PySem.SeqAt
open PySem.AutoSeq1 (wpAny_loadPart')
open PySem.MeetsSeq PySem.MeetsSeq2 PySem.MeetsSeq3
end
end HT
namespace L2
open PySem PySem.Spec PyProof.Rows PySem.W
section
variable {prog:Program} {w:World} {A:Around} {E:Value→Shared→Prop} {s:Shared}
end
section
variable {X:Cx}
end
end L2

namespace L2
open PySem PySem.Spec PyProof.Rows
section
variable {X:Cx}
end
end L2

namespace PyProof.Rows
open PySem
def rk (r:Keyed→Int) (xs:Array Keyed) (i:Nat):Int:=(xs[i]?.map r).getD 0
section
variable {r:Keyed→Int} {xs zs:Array Keyed} {i j:Nat}
theorem zS2 (h:i < xs.size):rk r xs i = r xs[i]:=by unfold rk; rw [Array.getElem?_eq_getElem h]; rfl
theorem zF7 (h:xs[i]? = zs[j]?):rk r xs i = rk r zs j:=by unfold rk; rw [h]
end
def Asc (r:Keyed→Int) (xs:Array Keyed) (lo hi:Nat):Prop:=∀ i j,lo≤i→i≤j→j < hi→rk r xs i≤rk r xs j
def zPh (prog:Program) (w:World) (A:Around) (s:Shared) (κ:SortKind) (ys:List Keyed) (r:Keyed→Int):Prop :=
 ∀ x y:Keyed,x∈ys→y∈ys→∀ Q:Bool→Shared→Prop,Q (decide (r x < r y)) s→wpAny (model prog w) A (keyLt' κ x.1 y.1) Q (fun _ _=>False) s
section
variable {prog:Program} {w:World} {A:Around} {E:Value→Shared→Prop} {s:Shared} {st:SortSt} {κ:SortKind} {ys:List Keyed} {r:Keyed→Int}
theorem zUl (ha:zPh prog w A s κ ys r) (hk:kindOf st = κ) {x y:Keyed} (hx:x∈ys) (hy:y∈ys) {Q:Option Bool→SortSt→Prop} (h:Q (some (decide (r x < r y))) st):wpS (model prog w) A E s (lt' x y) Q st:=by
 rw [lt'_eq]
 refine wpS_bind (wpS_get ?_)
 rw [hk]
 refine wpS_bind (zI9 (wpAny_attempt (wpAny_mono (ha x y hx hy (fun b s'=>s' = s∧b = decide (r x < r y)) ⟨rfl,rfl⟩) (fun b s' e=>?_) fun _ _ e=>e.elim)))
 obtain ⟨e1,rfl⟩:=e
 exact ⟨e1,wpS_pure h⟩
end
structure TookR (r:Keyed→Int) (x y out:Array Keyed) (ia ib:Nat):Prop extends Took x y out ia ib where
 srt:∀ i j,i≤j→j < out.size→rk r out i≤rk r out j
 oa:∀ i j,i < out.size→ia≤j→j < x.size→rk r out i≤rk r x j
 ob:∀ i j,i < out.size→ib≤j→j < y.size→rk r out i≤rk r y j
section
variable {r:Keyed→Int} {xs zs:Array Keyed} {v:Keyed}
end
section
variable {r:Keyed→Int} {x y out:Array Keyed} {ia ib:Nat}
end
section
variable {prog:Program} {w:World} {A:Around} {E:Value→Shared→Prop} {s:Shared} {st:SortSt}
end
section
variable {prog:Program} {w:World} {A:Around} {E:Value→Shared→Prop} {s:Shared} {st:SortSt} {κ:SortKind} {ys:List Keyed} {r:Keyed→Int}
end
structure LeftR (r:Keyed→Int) (x y out:Array Keyed) (na nb:Nat):Prop extends Left x y out na nb where
 srt:∀ i j,i≤j→j < out.size→rk r out j≤rk r out i
 oa:∀ i j,i < out.size→j < na→rk r x j≤rk r out i
 ob:∀ i j,i < out.size→j < nb→rk r y j≤rk r out i
section
variable {r:Keyed→Int} {x y out:Array Keyed} {na nb:Nat}
end
section
variable {prog:Program} {w:World} {A:Around} {E:Value→Shared→Prop} {s:Shared} {st:SortSt} {κ:SortKind} {ys:List Keyed} {r:Keyed→Int}
end
end PyProof.Rows

namespace PyProof.Rows
open PySem
section
variable {r:Keyed→Int} {xs:Array Keyed} {lo hi:Nat}
theorem Asc.snoc (h:Asc r xs lo hi) (hl:lo < hi) (o:rk r xs (hi - 1)≤rk r xs hi):Asc r xs lo (hi + 1):=by
 intro i j h1 h2 h3
 by_cases c:j < hi
 ·exact h i j h1 h2 c
 ·have e:j = hi:=by omega
  subst e
  by_cases c2:i = j
  ·subst c2
   exact Int.le_refl _
  ·exact Int.le_trans (h i (j - 1) h1 (by omega) (by omega)) o
theorem Asc.one:Asc r xs lo (lo + 1):=fun i j h1 h2 h3=>by
 rw [show i = j by omega]
 exact Int.le_refl _
def Dsc (r:Keyed→Int) (xs:Array Keyed) (lo hi:Nat):Prop:=∀ i j,lo≤i→i≤j→j < hi→rk r xs j≤rk r xs i
theorem Dsc.snoc (h:Dsc r xs lo hi) (hl:lo < hi) (o:rk r xs hi≤rk r xs (hi - 1)):Dsc r xs lo (hi + 1):=by
 intro i j h1 h2 h3
 by_cases c:j < hi
 ·exact h i j h1 h2 c
 ·have e:j = hi:=by omega
  subst e
  by_cases c2:i = j
  ·subst c2
   exact Int.le_refl _
  ·exact Int.le_trans o (h i (j - 1) h1 (by omega) (by omega))
theorem Dsc.ranks {zs:Array Keyed} (h:Dsc r xs lo hi) (e:∀ j,rk r zs j = rk r xs j):Dsc r zs lo hi:=fun i j h1 h2 h3=>by
 rw [e i,e j]
 exact h i j h1 h2 h3
theorem zI4 {i j:Nat} (hj:j≤xs.size) (k:Nat):rk r (mirror xs i j ((j - i) / 2)) k = if i≤k∧k < j then rk r xs (i + j - 1 - k) else rk r xs k:=by
 have e:=getElem?_mirror_all (i:=i) hj k
 by_cases h1:i≤k∧k < j
 ·rw [if_pos h1] at e ⊢; exact zF7 e
 ·rw [if_neg h1] at e ⊢; exact zF7 e
theorem zC3 {i j:Nat} (hj:j≤xs.size) (heq:∀ k,i≤k→k < j→rk r xs k = rk r xs (j - 1)) (k:Nat):rk r (mirror xs i j ((j - i) / 2)) k = rk r xs k:=by
 rw [zI4 hj]
 split
 ·rw [heq _ (by omega) (by omega),heq k (by omega) (by omega)]
 ·rfl
theorem Dsc.turn (h:Dsc r xs lo hi) (hs:hi≤xs.size):Asc r (mirror xs lo hi ((hi - lo) / 2)) lo hi:=fun i j h1 h2 h3=>by
 rw [zI4 hs,zI4 hs,if_pos ⟨h1,by omega⟩,if_pos ⟨by omega,h3⟩]
 exact h _ _ (by omega) (by omega) (by omega)
theorem zMh {src d:Nat} (hs:src < xs.size) (hd:d≤src) (k:Nat):rk r (bubble xs src d) k = if k = src - d then rk r xs src else if src - d < k∧k≤src then rk r xs (k - 1) else rk r xs k:=by
 have e:=getElem?_bubble hs d hd k
 by_cases h1:k = src - d
 ·rw [if_pos h1] at e ⊢; exact zF7 e
 ·rw [if_neg h1] at e ⊢
  by_cases h2:src - d < k∧k≤src
  ·rw [if_pos h2] at e ⊢; exact zF7 e
  ·rw [if_neg h2] at e ⊢; exact zF7 e
end
section
variable {prog:Program} {w:World} {A:Around} {E:Value→Shared→Prop} {s:Shared} {st st':SortSt} {κ:SortKind} {ys:List Keyed} {r:Keyed→Int}
theorem zDz (ha:zPh prog w A s κ ys r) (hB:zDp κ ys st) {i j:Nat} (hi:i < ys.length) (hj:j < ys.length) {Q:Option Bool→SortSt→Prop} (h:Q (some (decide (rk r (arrOf st) i < rk r (arrOf st) j))) st):wpS (model prog w) A E s (ltAt' i j) Q st:=by
 rw [ltAt'_eq]
 have z:=hB.size
 have hi':i < (arrOf st).size:=by omega
 have hj':j < (arrOf st).size:=by omega
 refine wpS_bind (wpS_get ?_)
 refine wpS_bind (zL4 hi' ?_)
 refine wpS_bind (zL4 hj' ?_)
 rw [zS2 hi',zS2 hj'] at h
 exact zUl ha hB.kind (hB.mem _) (hB.mem _) h
structure zGu (κ:SortKind) (ys:List Keyed) (lo:Nat) (st st':SortSt):Prop where
 base:zDp κ ys st'
 pend:pendingOf st' = pendingOf st
 fix:∀ j,j < lo→(arrOf st')[j]? = (arrOf st)[j]?
theorem zGu.rev {lo:Nat} (h:zGu κ ys lo st st') {i j:Nat} (hi:lo≤i) (hj:j≤ys.length):zGu κ ys lo st (setArr st' (mirror (arrOf st') i j ((j - i) / 2))):=by
 refine ⟨h.base.set (mirror_perm _ _ _ _),h.pend,fun k hk=>?_⟩
 show (mirror (arrOf st') i j ((j - i) / 2))[k]? = _
 rw [getElem?_mirror_all (by rw [h.base.size]; exact hj),if_neg (by omega)]
 exact h.fix k hk
theorem zKv (ha:zPh prog w A s κ ys r) (hB:zDp κ ys st) {lo nrem:Nat} (h1:1≤nrem) (hn:lo + nrem≤ys.length) {Q:Option Nat→SortSt→Prop}
  (h:∀ m st',zGu κ ys lo st st'→1≤m→m≤nrem→Asc r (arrOf st') lo (lo + m)→Q (some m) st'):wpS (model prog w) A E s (countRun' lo nrem) Q st:=by
 rw [countRun'_eq]
 refine wpS_bind (wpS_mono (wpS_forRange (I:=fun x c st'=>st' = st∧c = (none,x)∧Asc r (arrOf st) lo (lo + x)) (Q:=fun c st'=>st' = st∧∃ n,c = (none,n)∧1≤n∧n≤nrem∧Asc r (arrOf st) lo (lo + n)∧(n < nrem→rk r (arrOf st) (lo + n) < rk r (arrOf st) (lo + n - 1))) ?_ ?_ ⟨rfl,rfl,Asc.one⟩) ?_)
 ·rintro x c st' hx1 hx2 ⟨rfl,rfl,as⟩
  refine wpS_bind (zDz ha hB (by dsimp only; omega) (by dsimp only; omega) ?_)
  by_cases c:rk r (arrOf st') (lo + x) < rk r (arrOf st') (lo + x - 1)
  ·rw [decide_eq_true c]
   exact wpS_pure ⟨rfl,x,rfl,hx1,by omega,as,fun _=>c⟩
  ·rw [decide_eq_false c]
   exact wpS_pure ⟨rfl,rfl,as.snoc (by omega) (Int.not_lt.mp c)⟩
 ·rintro c st' ⟨rfl,rfl,as⟩
  have e:max 1 nrem = nrem:=by omega
  rw [e] at as ⊢
  exact ⟨rfl,_,rfl,by omega,by omega,as,fun z=>absurd z (by omega)⟩
 rintro c st1 ⟨rfl,n,rfl,n1,n2,as,fall⟩
 dsimp only
 have s0:zGu κ ys lo st1 st1:=⟨hB,rfl,fun _ _=>rfl⟩
 have z1:=hB.size
 refine zSb (fun e=>wpS_pure (h _ _ s0 n1 n2 as)) (fun e1=>?_)
 have fall:=fall (by omega)
 apply zK6 (prog:=prog) (w:=w) (A:=A) (E:=E) (s:=s) (P:=fun st2=>zGu κ ys lo st1 st2∧Dsc r (arrOf st2) lo (lo + (n + 1))) (Q:=Q)
 case use =>
  intro H
  refine zDc (fun e2=>?_) (fun e2=>?_)
  ·refine wpS_bind (zDz ha hB (by omega) (by omega) ?_)
   by_cases c:rk r (arrOf st1) lo < rk r (arrOf st1) (lo + n - 1)
   ·rw [decide_eq_true c]
    exact wpS_pure (h _ _ s0 n1 n2 as)
   ·rw [decide_eq_false c]
    have eq:∀ k,lo≤k→k < lo + n→rk r (arrOf st1) k = rk r (arrOf st1) (lo + n - 1):=fun k k1 k2=>by
     have y1:=as lo k (Nat.le_refl _) k1 k2
     have y2:=as k (lo + n - 1) k1 (by omega) (by omega)
     omega
    have rks:=zC3 (r:=r) (xs:=arrOf st1) (i:=lo) (j:=lo + n) (by omega) eq
    have ds:Dsc r (arrOf st1) lo (lo + n):=fun i j i1 i2 i3=>by
     rw [eq i i1 (by omega),eq j (by omega) i3]
     exact Int.le_refl _
    refine wpS_bind (wpS_reverse (H _ ⟨s0.rev (Nat.le_refl _) (by omega),?_⟩))
    exact Dsc.ranks (ds.snoc (by omega) (Int.le_of_lt fall)) rks
  ·have e:n = 1:=by omega
   subst e
   refine H _ ⟨s0,?_⟩
   have ds:Dsc r (arrOf st1) lo (lo + 1):=fun i j i1 i2 i3=>by
    rw [show i = j by omega]
    exact Int.le_refl _
   exact ds.snoc (by omega) (Int.le_of_lt fall)
 intro st2 ⟨S,ds⟩
 refine wpS_bind (zI9 (wpAny_rule ⟨rfl,?_⟩))
 refine wpS_bind (wpS_mono (wpS_forRange (I:=fun x c st'=>zGu κ ys lo st1 st'∧∃ q,c = (none,x,q)∧Dsc r (arrOf st') lo (lo + x)∧q + 1≤x∧∀ j,lo + x - (q + 1)≤j→j < lo + x→rk r (arrOf st') j = rk r (arrOf st') (lo + x - 1)) (Q:=fun c st'=>zGu κ ys lo st1 st'∧∃ m q,c = (none,m,q)∧1≤m∧m≤nrem∧Dsc r (arrOf st') lo (lo + m)∧q + 1≤m∧∀ j,lo + m - (q + 1)≤j→j < lo + m→rk r (arrOf st') j = rk r (arrOf st') (lo + m - 1)) ?_ ?_ ⟨S,_,rfl,ds,by omega,fun j j1 j2=>by rw [show j = lo + (n + 1) - 1 by omega]⟩) ?_)
 ·rintro x c st3 hx1 hx2 ⟨S3,q,rfl,ds,hq,eq⟩
  have z3:=S3.base.size
  dsimp only
  refine wpS_bind (zDz ha S3.base (by omega) (by omega) ?_)
  by_cases c:rk r (arrOf st3) (lo + x) < rk r (arrOf st3) (lo + x - 1)
  ·rw [decide_eq_true c]
   refine zDc (fun _=>?_) (fun e=>absurd rfl e)
   have ds2:=ds.snoc (by omega) (Int.le_of_lt c)
   refine zDc (fun e=>?_) (fun e=>?_)
   ·have rks:=zC3 (r:=r) (xs:=arrOf st3) (i:=lo + x - (q + 1)) (j:=lo + x) (by omega) eq
    exact wpS_bind (wpS_reverse (wpS_pure ⟨S3.rev (by omega) (by omega),_,rfl,Dsc.ranks ds2 rks,by omega,fun j j1 j2=>by rw [show j = lo + (x + 1) - 1 by omega]⟩))
   ·exact wpS_pure ⟨S3,_,rfl,ds2,by omega,fun j j1 j2=>by rw [show j = lo + (x + 1) - 1 by omega]⟩
  ·rw [decide_eq_false c]
   refine wpS_bind (zDz ha S3.base (by omega) (by omega) ?_)
   by_cases c2:rk r (arrOf st3) (lo + x - 1) < rk r (arrOf st3) (lo + x)
   ·rw [decide_eq_true c2]
    exact wpS_pure ⟨S3,_,_,rfl,by omega,by omega,ds,hq,eq⟩
   ·rw [decide_eq_false c2]
    have e0:rk r (arrOf st3) (lo + x) = rk r (arrOf st3) (lo + x - 1):=by omega
    refine wpS_pure ⟨S3,_,rfl,ds.snoc (by omega) (by omega),by omega,fun j j1 j2=>?_⟩
    rw [show lo + (x + 1) - 1 = lo + x by omega,e0]
    by_cases cj:j = lo + x
    ·rw [cj,e0]
    ·exact eq j (by omega) (by omega)
 ·rintro c st3 ⟨S3,q,rfl,ds,hq,eq⟩
  have e:max (n + 1) nrem = nrem:=by omega
  rw [e] at ds hq eq ⊢
  exact ⟨S3,_,_,rfl,by omega,by omega,ds,hq,eq⟩
 rintro c st3 ⟨S3,m,q,rfl,m1,m2,ds3,hq,eq⟩
 have z3:=S3.base.size
 dsimp only
 apply zK6 (prog:=prog) (w:=w) (A:=A) (E:=E) (s:=s) (P:=fun st4=>zGu κ ys lo st1 st4∧Dsc r (arrOf st4) lo (lo + m)) (Q:=Q)
 case use =>
  intro H
  refine zDc (fun e2=>?_) (fun e2=>?_)
  ·have rks:=zC3 (r:=r) (xs:=arrOf st3) (i:=lo + m - (q + 1)) (j:=lo + m) (by omega) eq
   exact wpS_bind (wpS_reverse (H _ ⟨S3.rev (by omega) (by omega),Dsc.ranks ds3 rks⟩))
  ·exact H _ ⟨S3,ds3⟩
 intro st4 ⟨S4,ds4⟩
 have z4:=S4.base.size
 refine wpS_bind (wpS_reverse ?_)
 have S5:=S4.rev (i:=lo) (j:=lo + m) (Nat.le_refl _) (by omega)
 have as5:Asc r (arrOf (setArr st4 (mirror (arrOf st4) lo (lo + m) ((lo + m - lo) / 2)))) lo (lo + m):=ds4.turn (by omega)
 refine wpS_bind (wpS_mono (wpS_forRange (I:=fun x c st'=>zGu κ ys lo st1 st'∧c = (none,x)∧Asc r (arrOf st') lo (lo + x)) (Q:=fun c st'=>zGu κ ys lo st1 st'∧∃ n,c = (none,n)∧1≤n∧n≤nrem∧Asc r (arrOf st') lo (lo + n)) ?_ ?_ ⟨S5,rfl,as5⟩) ?_)
 ·rintro x c st' hx1 hx2 ⟨S6,rfl,as⟩
  refine wpS_bind (zDz ha S6.base (by dsimp only; omega) (by dsimp only; omega) ?_)
  by_cases c:rk r (arrOf st') (lo + x) < rk r (arrOf st') (lo + x - 1)
  ·rw [decide_eq_true c]
   exact wpS_pure ⟨S6,x,rfl,by omega,by omega,as⟩
  ·rw [decide_eq_false c]
   exact wpS_pure ⟨S6,rfl,as.snoc (by omega) (Int.not_lt.mp c)⟩
 ·rintro c st' ⟨S6,rfl,as⟩
  have e:max m nrem = nrem:=by omega
  rw [e] at as ⊢
  exact ⟨S6,_,rfl,by omega,by omega,as⟩
 rintro c st6 ⟨S6,k,rfl,r1,r2,as⟩
 exact wpS_pure (h _ _ S6 r1 r2 as)
theorem zIt (ha:zPh prog w A s κ ys r) (hB:zDp κ ys st) {lo n ok:Nat} (hn:lo + n≤ys.length) (h1:1≤ok) (h2:ok≤n) (hs:Asc r (arrOf st) lo (lo + ok)) {Q:Bool→SortSt→Prop}
  (h:∀ st',zGu κ ys lo st st'→Asc r (arrOf st') lo (lo + n)→Q true st'):wpS (model prog w) A E s (binarySort' lo n ok) Q st:=by
 rw [binarySort'_eq]
 have eo:max ok 1 = ok:=by omega
 rw [eo]
 refine wpS_bind (wpS_mono (wpS_forRange (I:=fun k c st'=>c = (none,())∧zGu κ ys lo st st'∧Asc r (arrOf st') lo (lo + k)) (Q:=fun c st'=>c = (none,())∧zGu κ ys lo st st'∧Asc r (arrOf st') lo (lo + n)) ?_ (fun _ _ h=>by rw [show max ok n = n by omega] at h; exact h) ⟨rfl,⟨hB,rfl,fun _ _=>rfl⟩,hs⟩) ?_)
 ·rintro k c st1 hk1 hk2 ⟨rfl,S,as⟩
  have z1:=S.base.size
  refine wpS_bind (wpS_mono (wpS_forRange (I:=fun x c st'=>st' = st1∧∃ l q,c = (none,l,q)∧l≤q∧q≤k∧q - l≤k - x∧(∀ j,j < l→rk r (arrOf st1) (lo + j)≤rk r (arrOf st1) (lo + k))∧(∀ j,q≤j→j < k→rk r (arrOf st1) (lo + k) < rk r (arrOf st1) (lo + j))) (Q:=fun c st'=>st' = st1∧∃ l q,c = (none,l,q)∧l = q∧q≤k∧(∀ j,j < l→rk r (arrOf st1) (lo + j)≤rk r (arrOf st1) (lo + k))∧(∀ j,q≤j→j < k→rk r (arrOf st1) (lo + k) < rk r (arrOf st1) (lo + j))) ?_ ?_ ⟨rfl,_,_,rfl,Nat.zero_le _,Nat.le_refl _,by omega,fun j h=>absurd h (Nat.not_lt_zero _),fun j h1 h2=>absurd h2 (by omega)⟩) ?_)
  ·rintro x c st2 _ hx ⟨rfl,l,q,rfl,g1,g2,g3,g4,g5⟩
   dsimp only
   refine zDc (fun e=>wpS_pure ⟨rfl,_,_,rfl,by omega,g2,g4,g5⟩) (fun e=>?_)
   refine wpS_bind (zDz ha S.base (by omega) (by omega) ?_)
   by_cases c:rk r (arrOf st2) (lo + k) < rk r (arrOf st2) (lo + (l + q) / 2)
   ·rw [decide_eq_true c]
    refine wpS_pure ⟨rfl,_,_,rfl,by omega,by omega,by omega,g4,fun j j1 j2=>?_⟩
    exact Int.lt_of_lt_of_le c (as _ _ (by omega) (by omega) (by omega))
   ·rw [decide_eq_false c]
    refine wpS_pure ⟨rfl,_,_,rfl,by omega,by omega,by omega,fun j j1=>?_,g5⟩
    exact Int.le_trans (as _ _ (by omega) (by omega) (by omega)) (Int.not_lt.mp c)
  ·rintro c st2 ⟨rfl,l,q,rfl,g1,g2,g3,g4,g5⟩
   exact ⟨rfl,_,_,rfl,by omega,g2,g4,g5⟩
  ·rintro c st2 ⟨rfl,l,q,rfl,rfl,g2,g4,g5⟩
   show wpS _ _ _ _ (do moveDown' (lo + k) (lo + l); pure (ForInStep.yield (none,()))) _ _
   rw [moveDown'_eq]
   refine wpS_bind (wpS_modify (wpS_pure ⟨rfl,⟨S.base.set (bubble_perm _ _ _),S.pend,fun j hj=>?_⟩,?_⟩))
   ·show (bubble (arrOf st2) (lo + k) (lo + k - (lo + l)))[j]? = _
    rw [getElem?_bubble (by omega) _ (by omega),if_neg (by omega),if_neg (by omega)]
    exact S.fix j hj
   ·show Asc r (bubble (arrOf st2) (lo + k) (lo + k - (lo + l))) lo (lo + (k + 1))
    intro i j i1 i2 i3
    have ri:=zMh (r:=r) (xs:=arrOf st2) (src:=lo + k) (d:=lo + k - (lo + l)) (by omega) (by omega) i
    have rj:=zMh (r:=r) (xs:=arrOf st2) (src:=lo + k) (d:=lo + k - (lo + l)) (by omega) (by omega) j
    rw [ri,rj]
    have e0:lo + k - (lo + k - (lo + l)) = lo + l:=by omega
    rw [e0]
    have lef:∀ u,lo≤u→u < lo + l→rk r (arrOf st2) u≤rk r (arrOf st2) (lo + k):=fun u u1 u2=>by
     have z:=g4 (u - lo) (by omega)
     rwa [show lo + (u - lo) = u by omega] at z
    have rig:∀ u,lo + l≤u→u < lo + k→rk r (arrOf st2) (lo + k)≤rk r (arrOf st2) u:=fun u u1 u2=>by
     have z:=g5 (u - lo) (by omega) (by omega)
     rw [show lo + (u - lo) = u by omega] at z
     exact Int.le_of_lt z
    by_cases a1:i = lo + l
    ·rw [if_pos a1]
     by_cases b1:j = lo + l
     ·rw [if_pos b1]; exact Int.le_refl _
     ·rw [if_neg b1,if_pos ⟨by omega,by omega⟩]
      exact rig _ (by omega) (by omega)
    ·rw [if_neg a1]
     by_cases a2:lo + l < i∧i≤lo + k
     ·rw [if_pos a2,if_neg (show ¬ j = lo + l by omega),if_pos ⟨by omega,by omega⟩]
      exact as _ _ (by omega) (by omega) (by omega)
     ·rw [if_neg a2]
      by_cases b1:j = lo + l
      ·rw [if_pos b1]
       exact lef _ i1 (by omega)
      ·rw [if_neg b1]
       by_cases b2:lo + l < j∧j≤lo + k
       ·rw [if_pos b2]
        exact as _ _ i1 (by omega) (by omega)
       ·rw [if_neg b2]
        exact as _ _ i1 i2 (by omega)
 ·rintro c st1 ⟨rfl,S,as⟩
  exact wpS_pure (h _ S as)
end
end PyProof.Rows

namespace PyProof.Rows
open PySem
section
variable {r:Keyed→Int} {xs zs:Array Keyed}
end
section
variable {prog:Program} {w:World} {A:Around} {E:Value→Shared→Prop} {s:Shared} {st st':SortSt} {κ:SortKind} {ys:List Keyed} {r:Keyed→Int}
end
end PyProof.Rows

namespace HT
open PySem PySem.Spec PyProof.Rows
section
open PySem.SeqAt
open PySem.AutoSeq1 (wpAny_loadPart')
open PySem.MeetsSeq PySem.MeetsSeq2 PySem.MeetsSeq3
end
end HT
namespace PySem.W
open PySem PySem.Calls PyProof.Rows
section
variable {prog:Program} {w:World} {A:Around} {E:Value→Shared→Prop} {s:Shared}
theorem zNk {a:Addr} {vs:List Value} {n:Nat} {P:PySem.Fin→Shared→Prop} {ρ:Value→Int} (ho:s.heap.get? a = some (seqObj "list" vs.toArray n)) (hz:vs.length≤sizeLine)
  (hk:2≤vs.length→∀ Q:SortKind→Shared→Prop,(∀ κ,Q κ { s with heap:=zBx s.heap a vs })→wpAny (model prog w) A (keyKind' vs.toArray) Q E { s with heap:=zBx s.heap a vs })
  (run:2≤vs.length→∀ (κ:SortKind) (st:SortSt),zDp κ (vs.zip vs) st→pendingOf st = #[]→∀ Q:Unit→SortSt→Prop,(∀ st',zDp κ (vs.zip vs) st'→Asc (fun x=>ρ x.2) (arrOf st') 0 (vs.zip vs).length→Q () st')→wpS (model prog w) A E { s with heap:=zBx s.heap a vs } sortRuns' Q st)
  (h:∀ out:List Value,out.Perm vs→out.Pairwise (fun u v=>ρ u≤ρ v)→P (.done (.ret .none)) { s with heap:=sortedHeap s.heap a vs out.toArray }) :
  wpAny (model prog w) A (Builtin.«list.sort» ⟨[.ref a],[]⟩) P E s:=by
 have ha:a < s.heap.objs.size:=Heap.lt_size ho
 obtain ⟨e1,ho1⟩:∃ e1,(s.heap.update a (Obj.mapSeq fun _=>(#[]:Array Value))).get? a = some (seqObj "list" #[] e1):=⟨_,get?_update_seq ho fun _=>#[]⟩
 have ho3:(zBx s.heap a vs).get? a = some (seqObj "list" #[] e1):=Heap.get?_push_of_some _ (Heap.get?_push_of_some _ ho1)
 rw [list_sort_plain]
 refine wpAny_bind (listItems_at ho rfl ?_)
 refine wpAny_bind (listUpdate_at ho rfl ?_ (by rw [List.size_toArray]; exact hz) (Nat.zero_le _))
 refine wpAny_bind (seqEpoch_at ho1 rfl ?_)
 refine wpAny_bind (wpAny_newTuple ?_ (by show vs.length≤_; exact hz))
 refine wpAny_bind (wpAny_newList ?_ (Nat.zero_le _))
 refine wpAny_holding ?_
 show wpAny (model prog w) A _ P E { s with heap:=zBx s.heap a vs }
 dsimp only
 have hout:(vs.toArray.zip vs.toArray).map (·.2) = vs.toArray:=by
  apply Array.toList_inj.mp
  rw [Array.toList_map,Array.toList_zip]
  exact List.map_snd_zip (Nat.le_refl _)
 by_cases h2:vs.toArray.size < 2
 ·rw [if_pos h2,if_pos h2]
  rw [List.size_toArray] at h2
  refine wpAny_bind (wpAny_pure ?_)
  rw [StateT.run_pure]
  refine wpAny_bind (wpAny_pure ?_)
  dsimp only
  refine wpAny_bind (seqEpoch_at ho3 rfl ?_)
  refine wpAny_bind (listUpdate_at ho3 rfl ?_ (Nat.zero_le _) (Nat.le_succ_of_le (Nat.le_trans (Nat.le_of_eq ((congrArg Array.size hout).trans List.size_toArray)) hz)))
  simp only [bne_self_eq_false,Bool.false_eq_true,if_false]
  refine wpAny_pure ?_
  have hq:=h vs (List.Perm.refl _) (by
   match vs,h2 with
   | [],_=>exact .nil
   | [x],_=>exact List.pairwise_singleton ..
   | _ :: _ :: _,h=>exact absurd h (by simp))
  rw [← hout] at hq
  exact hq
 ·rw [if_neg h2,if_neg h2]
  rw [List.size_toArray] at h2
  have h2':2≤vs.length:=by omega
  refine wpAny_bind (hk h2' _ fun κ=>?_)
  refine wpAny_bind (wpAny_mono (run h2' κ _ ⟨by rw [show arrOf _ = vs.toArray.zip vs.toArray from rfl,Array.toList_zip],rfl,rfl⟩ rfl (fun _ st'=>zDp κ (vs.zip vs) st'∧Asc (fun x=>ρ x.2) (arrOf st') 0 (vs.zip vs).length) fun st' b as=>⟨b,as⟩) ?_ fun _ _ e=>e)
  rintro ⟨⟨⟩,st'⟩ s' ⟨rfl,b,as⟩
  dsimp only
  have pm:((arrOf st').map (·.2)).toList.Perm vs:=by
   rw [Array.toList_map]
   refine (b.perm.map _).trans (List.Perm.of_eq ?_)
   exact List.map_snd_zip (Nat.le_refl _)
  have hsz:((arrOf st').map (·.2)).size≤sizeLine:=by
   rw [← Array.length_toList,pm.length_eq]
   exact hz
  have pw:((arrOf st').map (·.2)).toList.Pairwise (fun u v=>ρ u≤ρ v):=by
   rw [List.pairwise_iff_getElem]
   intro i j hi hj hij
   rw [Array.length_toList,Array.size_map] at hi hj
   have z:=as i j (Nat.zero_le _) (Nat.le_of_lt hij) (by rw [← b.size]; exact hj)
   rw [zS2 hi,zS2 hj] at z
   rw [Array.getElem_toList,Array.getElem_toList,Array.getElem_map,Array.getElem_map]
   exact z
  refine wpAny_bind (seqEpoch_at ho3 rfl ?_)
  refine wpAny_bind (listUpdate_at ho3 rfl ?_ (Nat.zero_le _) (Nat.le_succ_of_le hsz))
  rw [b.failed]
  simp only [bne_self_eq_false,Bool.false_eq_true,if_false]
  have hq:=h _ pm pw
  rw [Array.toArray_toList] at hq
  exact wpAny_pure hq
theorem zSi {l:Addr} {vs:List Value} {Q:Value→Shared→Prop} {ρ:Value→Int} (hl:s.heap.IsList l vs.toArray) (hz:vs.length≤sizeLine)
  (hk:2≤vs.length→∀ s':Shared,(∀ b o,s.heap.get? b = some o→s'.heap.get? b = some o)→∀ (E':Value→Shared→Prop) (Q:SortKind→Shared→Prop),(∀ κ,Q κ s')→wpAny (model prog w) A.in1.in1 (keyKind' vs.toArray) Q E' s')
  (run:2≤vs.length→∀ s':Shared,(∀ b o,s.heap.get? b = some o→s'.heap.get? b = some o)→∀ (E':Value→Shared→Prop) (κ:SortKind) (st:SortSt),zDp κ (vs.zip vs) st→pendingOf st = #[]→∀ Q:Unit→SortSt→Prop,(∀ st',zDp κ (vs.zip vs) st'→Asc (fun x=>ρ x.2) (arrOf st') 0 (vs.zip vs).length→Q () st')→wpS (model prog w) A.in1.in1 E' s' sortRuns' Q st)
  (h:∀ out:List Value,out.Perm vs→out.Pairwise (fun u v=>ρ u≤ρ v)→Q (.ref (s.heap.objs.size + 1)) { s with heap:=sortedAll s.heap vs out.toArray }) :
  wpAny (model prog w) A (call (.builtin "sorted") [.ref l]) Q E s:=by
 refine Calls.call_function_entry kind_sorted plain_sorted entry_sorted (args_sorted1 _) ?_
 unfold Builtin.«sorted»
 refine wpAny_bind (m:=checkCount "sorted" 1 1 _) (wpAny_pure ?_)
 refine wpAny_bind (collect_list hl ?_ hz)
 refine wpAny_bind (wpAny_newList ?_ hz)
 have hsz:((s.heap.push (seqObj "list" #[] 0)).update s.heap.objs.size (Obj.mapSeq (· ++ vs.toArray))).objs.size = s.heap.objs.size + 1:=by
  rw [Heap.size_update,size_push']
 have hoL:(zBo s.heap vs).get? (s.heap.objs.size + 1) = some (seqObj "list" vs.toArray 0):=by
  unfold zBo
  rw [← hsz]; exact Heap.get?_push_size _ rfl
 have keep:∀ b o,s.heap.get? b = some o→(zBx (zBo s.heap vs) (s.heap.objs.size + 1) vs).get? b = some o:=fun b o e=>by
  have hlt:b < s.heap.objs.size:=Heap.lt_size e
  exact zIo (Nat.ne_of_lt (Nat.lt_succ_of_lt hlt)) (zFy e)
 show wpAny _ _ _ _ _ { s with heap:=zBo s.heap vs }
 rw [hsz]
 refine wpAny_bind (wpAny_holding (wpAny_call_entry slot_list_sort ⟨_,hoL,rfl⟩ entry_list_sort ?body (args_list_sort _)))
 case body =>
  exact zNk (s:={ s with heap:=zBo s.heap vs }) hoL hz (fun h2 Q' hq=>hk h2 _ keep _ Q' hq) (fun h2=>run h2 _ keep _) fun out hg hp=>⟨_,rfl,wpAny_pure ⟨_,rfl,h out hg hp⟩⟩
end
end PySem.W
namespace L2
open PySem PySem.Spec PyProof.Rows PySem.W
def zKj (all:List (List Int)) (a:List Int):Int:=((all.filter fun b=>HT.lexLt b a).length:Int)
theorem filter_le {α:Type} {p q:α→Bool} : ∀ {l:List α},(∀ x∈l,p x = true→q x = true)→(l.filter p).length≤(l.filter q).length
 | [],_=>Nat.le_refl _
 | x :: l,h=>by
  have ih:=filter_le (l:=l) fun y hy=>h y (.tail _ hy)
  rw [List.filter_cons,List.filter_cons]
  by_cases c:p x = true
  ·rw [if_pos c,if_pos (h x (.head _) c),List.length_cons,List.length_cons]
   omega
  ·rw [if_neg c]
   split
   ·rw [List.length_cons]; omega
   ·exact ih
theorem filter_lt {α:Type} {p q:α→Bool} : ∀ {l:List α} {z:α},(∀ x∈l,p x = true→q x = true)→z∈l→p z = false→q z = true→(l.filter p).length < (l.filter q).length
 | x :: l,z,h,hz,h1,h2=>by
  rw [List.filter_cons,List.filter_cons]
  rcases List.mem_cons.mp hz with rfl | hz
  ·rw [if_neg (by rw [h1]; decide),if_pos h2,List.length_cons]
   have:=filter_le (l:=l) fun y hy=>h y (.tail _ hy)
   omega
  ·have ih:=filter_lt (l:=l) (fun y hy=>h y (.tail _ hy)) hz h1 h2
   by_cases c:p x = true
   ·rw [if_pos c,if_pos (h x (.head _) c),List.length_cons,List.length_cons]
    omega
   ·rw [if_neg c]
    split
    ·rw [List.length_cons]; omega
    ·exact ih
theorem zQi {all:List (List Int)} {a b:List Int} (ha:a∈all):decide (zKj all a < zKj all b) = HT.lexLt a b:=by
 unfold zKj
 cases e:HT.lexLt a b with
 | true =>
  refine decide_eq_true (Int.ofNat_lt.mpr (filter_lt (z:=a) (fun x _ hx=>zKx x a b hx e) ha (zIv a) e))
 | false =>
  refine decide_eq_false (Int.not_lt.mpr (Int.ofNat_le.mpr (filter_le fun x _ hx=>?_)))
  rcases zKk x a b hx with h | h
  ·exact h
  ·rw [e] at h; cases h
theorem zU2 {all:List (List Int)} {a b:List Int} (hb:b∈all) (h:zKj all a≤zKj all b):HT.lexLt b a = false:=by
 have z:=zQi (b:=a) hb
 rw [decide_eq_false (Int.not_lt.mpr h)] at z
 exact z.symm
def zO5 (xs:List V):List Int:=xs.map fun | V.int i=>i | _=>0
theorem zJs:∀ ns:List Int,zO5 (ns.map V.int) = ns
 | []=>rfl
 | x :: ns=>by
  show x :: zO5 (ns.map V.int) = _
  rw [zJs ns]
def zQl (H:Hp):Value→List Int
 | .ref a=>match H a with
  | some (.lst xs)=>zO5 xs
  | some (.tup xs)=>zO5 xs
  | _=>[]
 | _=>[]
theorem zGe {H:Hp} {a:Addr} {ns:List Int} (h:H a = some (.tup (ns.map V.int))):zQl H (.ref a) = ns:=by
 show (match H a with | some (.lst xs)=>zO5 xs | some (.tup xs)=>zO5 xs | _=>[]) = _
 rw [h]
 exact zJs ns
section
variable {prog:Program} {w:World} {A:Around} {E:Value→Shared→Prop} {s:Shared}
theorem zLx {C:Bool→Shared→Prop} {b fin:Bool} : ∀ {ns ms:List Int} {us ws:List Value} (_:Vals (ns.map V.int) us) (_:Vals (ms.map V.int) ws) (i:Nat) (_:fin = decide (ns.length < ms.length)) (_:C (HT.lexLt ns ms) s),KatLex prog w A b fin C (us.zip ws) i s
 | [],[],_,_,r1,r2,i,hf,h=>by
  cases r1
  cases r2
  rw [hf]
  exact kat_nil h
 | [],_ :: _,_,_,r1,_,i,hf,h=>by
  cases r1
  rw [hf]
  refine kat_nil ?_
  exact h
 | _ :: _,[],_,_,r1,r2,i,hf,h=>by
  cases r2
  rw [hf,List.zip_nil_right]
  exact kat_nil h
 | x :: xs,y :: ys,_,_,r1,r2,i,hf,h=>by
  cases r1 with
  | cons p1 q1 =>
   cases r2 with
   | cons p2 q2 =>
    obtain ⟨t,rfl⟩:=p1
    obtain ⟨t',rfl⟩:=p2
    rw [List.zip_cons_cons]
    refine kat_cons (wpAny_eqBool_int ?_)
    rw [HT.lexLt_cons] at h
    by_cases e:x = y
    ·rw [if_pos e] at h
     rw [show (x == y) = true from by simpa using e]
     refine kat_yes (zLx q1 q2 (i + 1) ?_ h)
     rw [hf,List.length_cons,List.length_cons]
     exact decide_eq_decide.mpr ⟨fun z=>by omega,fun z=>by omega⟩
    ·rw [if_neg e] at h
     rw [show (x == y) = false from by simpa using e]
     refine kat_no ?_
     cases (b && i == 0) with
     | true=>exact oneLt_int h
     | false=>exact kat_one _ _ (wpAny_lt_int h)
theorem zPe {vs:List Value} {ρ:Value→Int} (hu:A.units < cLine) (hT:∀ v∈vs,∃ ns,TupN s.heap v ns) (hρ:∀ u∈vs,∀ v∈vs,∀ ns ms,TupN s.heap u ns→TupN s.heap v ms→decide (ρ u < ρ v) = HT.lexLt ns ms) (κ:SortKind):zPh prog w A s κ (vs.zip vs) fun x=>ρ x.2:=fun x y hx hy Q h=>by
 have mx:=mem_zip_self hx
 have my:=mem_zip_self hy
 obtain ⟨ns,l1⟩:=hT _ mx.2
 obtain ⟨ms,l2⟩:=hT _ my.2
 have h:Q (HT.lexLt ns ms) s:=by
  rw [← hρ x.2 (by rw [← mx.1]; exact mx.2) y.2 (by rw [← my.1]; exact my.2) ns ms (by rw [← mx.1]; exact l1) (by rw [← my.1]; exact l2)]
  exact h
 obtain ⟨a,o,n,us,e1,ho,hc,hd,r1⟩:=l1
 obtain ⟨b,o',n',ws,e2,ho',hc',hd',r2⟩:=l2
 rw [e1,e2]
 have i1:IntsAre us.toArray.toList ns:=zFc r1
 have i2:IntsAre ws.toArray.toList ms:=zFc r2
 rcases κ with _ | _ | bb
 ·show wpAny (model prog w) A (oneLt' false (.ref a) (.ref b)) Q _ s
  exact kat_one _ _ (HT.lt_tupInts ⟨o,ho,hc,n,hd⟩ ⟨o',ho',hc',n',hd'⟩ i1 i2 hu (by first | exact h | exact ⟨_,rfl,h⟩))
 ·show wpAny (model prog w) A (oneLt' true (.ref a) (.ref b)) Q _ s
  rw [oneLt'_eq]
  simp only [if_true]
  refine wpAny_bind (wpAny_cRoomFor hu ?_)
  obtain ⟨cls,dd,data,sl⟩:=o
  obtain ⟨cls2,dd2,data2,sl2⟩:=o'
  simp only at hc hd hc' hd'
  subst hc hd hc' hd'
  refine wpAny_bind (wpAny_callSpecialIfBound?_slot ⟨_,ho,rfl⟩ PySem.F.slot_tuple_lt (call_meets PySem.F.slot_tuple_lt ⟨_,ho,rfl⟩ PySem.F.entry_tuple_lt (PySem.F.args_tuple_lt_2 _ _) (HT.tuple_lt_ints a b us.toArray ws.toArray n n' dd dd2 sl sl2 ns ms i1 i2) ⟨ho,ho',?_⟩))
  exact wpAny_truthy_bool h
 ·have l1:=r1.length
  have l2:=r2.length
  rw [List.length_map] at l1 l2
  exact kat_lt ho hd ho' hd' (zLx r1 r2 0 (by rw [List.size_toArray,List.size_toArray,← l1,← l2]) h)
end
theorem zQj:∀ {ns ms:List Int} {us:List Value},Vals (ns.map V.int) us→Vals (ms.map V.int) us→ns = ms
 | [],[],_,_,_=>rfl
 | [],_ :: _,_,r1,r2=>by cases r1; cases r2
 | _ :: _,[],_,r1,r2=>by cases r2; cases r1
 | x :: xs,y :: ys,_,r1,r2=>by
  cases r1 with
  | cons p1 q1 =>
   cases r2 with
   | cons p2 q2 =>
    obtain ⟨t,rfl⟩:=p1
    obtain ⟨t',e⟩:=p2
    cases e
    rw [zQj q1 q2]
theorem TupN.inj {h:Heap} {v:Value} {ns ms:List Int} (a:TupN h v ns) (b:TupN h v ms):ns = ms:=by
 obtain ⟨p,o,n,its,rfl,e1,_,d1,r1⟩:=a
 obtain ⟨q,o',n',its',e,e2,_,d2,r2⟩:=b
 cases e
 rw [e1] at e2
 cases e2
 rw [d1] at d2
 injection d2 with d3 d4
 have e:its = its':=by injection d3
 subst e
 exact zQj r1 r2
section
variable {X:Cx}
end
end L2

namespace PyProof.Rows
open PySem
section
variable {prog:Program} {w:World} {A:Around} {E:Value→Shared→Prop} {s:Shared} {st st':SortSt} {κ:SortKind} {ys:List Keyed} {r:Keyed→Int}
theorem zKc (h2:2≤ys.length) (h64:ys.length < 64) (ha:zPh prog w A s κ ys r) (hB:zDp κ ys st) (hp:pendingOf st = #[]) {Q:Unit→SortSt→Prop} (h:∀ st',zDp κ ys st'→Asc r (arrOf st') 0 ys.length→Q () st'):wpS (model prog w) A E s sortRuns' Q st:=by
 rw [sortRuns'_eq]
 refine wpS_bind (wpS_get ?_)
 dsimp only
 rw [hB.size]
 have em:minRun' ys.length ys.length 0 = ys.length:=by
  obtain ⟨k,e⟩:∃ k,ys.length = k + 1:=⟨ys.length - 1,by omega⟩
  rw [e,minRun'_succ,if_pos (by omega),Nat.add_zero]
 rw [em]
 refine wpS_bind (wpS_mono (wpS_forRange (I:=fun x c st'=>(x = 0∧c = (none,0)∧st' = st)∨(1≤x∧c = (none,ys.length)∧zDp κ ys st'∧Asc r (arrOf st') 0 ys.length∧(pendingOf st').size = 1)) (Q:=fun c st'=>c = (none,ys.length)∧zDp κ ys st'∧Asc r (arrOf st') 0 ys.length∧(pendingOf st').size = 1) ?_ ?_ (.inl ⟨rfl,rfl,rfl⟩)) ?_)
 ·rintro x c st1 _ hx (⟨rfl,rfl,rfl⟩ | ⟨x1,rfl,B1,as1,p1⟩)
  ·dsimp only
   refine zDc (fun e=>absurd e (by omega)) (fun e=>?_)
   apply zO2 (prog:=prog) (w:=w) (A:=A) (E:=E) (s:=s) (P:=fun n st3=>n = ys.length∧zDp κ ys st3∧Asc r (arrOf st3) 0 ys.length∧pendingOf st3 = #[])
   case use =>
    intro H
    refine wpS_bind (zKv ha hB (by omega) (by omega) fun n st2 S m1 m2 as=>?_)
    rw [Nat.zero_add] at as
    dsimp only
    refine zDc (fun e2=>?_) (fun e2=>?_)
    rotate_left
    ·have en:n = ys.length:=by omega
     exact H n _ ⟨en,S.base,by rw [← en]; exact as,by rw [S.pend]; exact hp⟩
    ·refine wpS_bind (zI9 (wpAny_rule ⟨rfl,?_⟩))
     refine wpS_bind (zIt ha S.base (by omega) m1 (by omega) (by rw [Nat.zero_add]; exact as) fun st3 S3 as3=>?_)
     refine zDc (fun e=>nomatch e) (fun _=>?_)
     have en:min (ys.length - 0) ys.length = ys.length:=by omega
     exact H _ _ ⟨en,S3.base,by rw [en,Nat.zero_add] at as3; exact as3,by rw [S3.pend,S.pend]; exact hp⟩
   rintro n st3 ⟨en,B3,as3,p3⟩
   refine wpS_bind (wpS_get ?_)
   have eb:(pendingOf st3).back? = none:=by rw [p3]; rfl
   rw [eb]
   refine wpS_bind (wpS_modify (wpS_pure (.inr ⟨by omega,by rw [en,Nat.zero_add],⟨B3.perm,B3.kind,B3.failed⟩,as3,?_⟩)))
   show ((pendingOf st3).push _).size = 1
   rw [Array.size_push,p3]
   rfl
  ·dsimp only
   refine zDc (fun e=>wpS_pure ⟨rfl,B1,as1,p1⟩) (fun e=>absurd (Nat.le_refl _) e)
 ·rintro c st1 (⟨h0,_⟩ | ⟨x1,rfl,B1,as1,p1⟩)
  ·omega
  ·exact ⟨rfl,B1,as1,p1⟩
 ·rintro c st1 ⟨rfl,B1,as1,p1⟩
  refine wpS_bind (wpS_mono (wpS_forRange (I:=fun _ c st'=>c = (none,())∧st' = st1) (Q:=fun c st'=>c = (none,())∧st' = st1) ?_ (fun _ _ h=>h) ⟨rfl,rfl⟩) ?_)
  ·rintro x c st2 _ hx ⟨rfl,rfl⟩
   refine wpS_bind (wpS_get ?_)
   refine zDc (fun e=>wpS_pure ⟨rfl,rfl⟩) (fun e=>absurd (Nat.le_of_eq p1) e)
  ·rintro c st2 ⟨rfl,rfl⟩
   exact wpS_pure (h _ B1 as1)
end
end PyProof.Rows
namespace L2
open PySem PySem.Spec PyProof.Rows PySem.W
section
variable {X:Cx}
theorem zKo (hu:X.A.units + 2 < cLine):zHk X (.builtin "sorted") (fun xs H Q=>∃ (l:Addr) (ts:List (Addr × List Int)),xs = [.ref l]∧SqL X.K H l ((ts.map (·.1)).map V.ref)∧(∀ t∈ts,H t.1 = some (.tup (t.2.map V.int)))∧ts.length < 64 ∧
  ∀ (p:Addr) (us:List (Addr × List Int)),H p = none→us.Perm ts→us.Pairwise (fun a b=>HT.lexLt b.2 a.2 = false)→Q (.ref p) (upd H p (.lst ((us.map (·.1)).map V.ref)))):=by
 intro pins s σ H xs us Q I r h
 obtain ⟨l,ts,rfl,hq,hts,h64,q⟩:=h
 obtain ⟨u,rfl,ru⟩:=Vals.one r
 cases ru
 obtain ⟨its,rv,pl,hz⟩:=I.list hq
 have ei:=zEg rv
 subst ei
 have hL:∀ t∈ts,TupN s.heap (.ref t.1) t.2:=fun t ht=>by
  obtain ⟨its,r1,⟨o,e,c,n,d⟩,_⟩:=I.tuple (SqT.of (hts t ht))
  exact ⟨_,o,n,its,rfl,e,c,d,r1⟩
 have hM:∀ v∈(ts.map (·.1)).map Value.ref,∃ t∈ts,v = .ref t.1:=fun v hv=>by
  obtain ⟨a,ha,rfl⟩:=List.mem_map.mp hv
  obtain ⟨t,ht,rfl⟩:=List.mem_map.mp ha
  exact ⟨t,ht,rfl⟩
 have hT:∀ v∈(ts.map (·.1)).map Value.ref,∃ ns,TupN s.heap v ns:=fun v hv=>by
  obtain ⟨t,ht,rfl⟩:=hM v hv
  exact ⟨_,hL t ht⟩
 refine zSi (ρ:=fun v=>zKj (ts.map (·.2)) (zQl H v)) pl.isList ?_ (fun _ s' kp E' Q' hq=>zSl (fun v hv=>let ⟨ns,e⟩:=hT v hv; ⟨ns,e.keep kp⟩) hq) (fun h2 s' kp E' κ st B hp Q h=>zKc (by rw [List.length_zip,Nat.min_self]; exact h2) (by rw [List.length_zip,Nat.min_self,List.length_map,List.length_map]; exact h64) (zPe (ρ:=fun v=>zKj (ts.map (·.2)) (zQl H v)) hu (fun v hv=>let ⟨ns,e⟩:=hT v hv; ⟨ns,e.keep kp⟩) (fun u hu v hv ns ms l1 l2=>?_) κ) B hp h) fun out pm pw=>?_
 ·rw [List.length_map]; rw [List.length_map] at hz; exact hz
 ·obtain ⟨t,ht,rfl⟩:=hM u hu
  obtain ⟨t',ht',rfl⟩:=hM v hv
  rw [l1.inj ((hL t ht).keep kp),l2.inj ((hL t' ht').keep kp)]
  rw [zGe (hts t ht),zGe (hts t' ht')]
  exact zQi (List.mem_map_of_mem ht)
 ·rw [List.map_map] at pm
  obtain ⟨us,pu,rfl⟩:=zL8 pm rfl
  have e0:us.map (Value.ref ∘ fun x:Addr × List Int=>x.1) = (us.map (·.1)).map Value.ref:=by rw [List.map_map]
  rw [e0]
  obtain ⟨e,at'⟩:=sortedAll_at s.heap ((ts.map (·.1)).map Value.ref) ((us.map (·.1)).map Value.ref).toArray
  have fr:H (s.heap.objs.size + 1) = none:=I.hok.fresh (Nat.le_succ _)
  have pw2:us.Pairwise (fun a b=>HT.lexLt b.2 a.2 = false):=by
   rw [List.pairwise_map] at pw
   refine pw.imp_of_mem fun {a b} ha hb z=>?_
   have ha':=pu.mem_iff.mp ha
   have hb':=pu.mem_iff.mp hb
   have z:zKj (ts.map (·.2)) (zQl H (.ref a.1))≤zKj (ts.map (·.2)) (zQl H (.ref b.1)):=z
   rw [zGe (hts a ha'),zGe (hts b hb')] at z
   exact zU2 (List.mem_map_of_mem hb') z
  refine ⟨.ref (s.heap.objs.size + 1),_,I.laid (t':=s.toks) (a:=s.heap.objs.size + 1) (o:=.lst ((us.map (·.1)).map V.ref)) (fun b ob q=>sortedAll_old q) (Nat.le_succ _) ?_,rfl,q _ _ fr pu pw2⟩
  refine ⟨?_,_,e,zEz _,at'⟩
  rw [List.length_map,List.length_map,pu.length_eq]
  simpa using hz
theorem zRe {op:Value→Value→Sem Value} {r1 r2:R2} (h1:OpR X op r1) (h2:OpR X op r2):OpR X op (fun x y H Q=>r1 x y H Q∨r2 x y H Q):=by
 intro pins s σ H x y v u Q I rx ry h
 rcases h with h | h
 ·exact h1 pins s σ H x y v u Q I rx ry h
 ·exact h2 pins s σ H x y v u Q I rx ry h
end
end L2

namespace Sea
open PySem L2
def mT (b x y:Int) (t:P3):P3:=(t.1,t.2.1,b * t.2.2 + t.1 * x + t.2.1 * y)
structure Rel (b x y:Int) (P P':P3):Prop where
 pos:0 < P.2.2
 pos':0 < P'.2.2
 ex:(b * P.1 + x * P.2.2) * P'.2.2 = P'.1 * P.2.2
 ey:(b * P.2.1 + y * P.2.2) * P'.2.2 = P'.2.1 * P.2.2
def zDy (P:P3):Prop:=0 < P.2.2∧Nat.gcd (Nat.gcd P.1.natAbs P.2.1.natAbs) P.2.2.natAbs = 1
def fi (b x y:Int) (P:P3):P3:=pt3 (lowL (upL (b * P.1 + x * P.2.2) (b * P.2.1 + y * P.2.2) P.2.2))
section
variable {b x y:Int}
theorem Rel.sv {P P':P3} (h:Rel b x y P P') (t:P3):Sea.sv (mT b x y t) P' * P.2.2 = b * Sea.sv t P * P'.2.2:=by
 have e1:=h.ex
 have e2:=h.ey
 unfold Sea.sv mT
 dsimp only
 have z:(t.1 * P'.1 + t.2.1 * P'.2.1 - (b * t.2.2 + t.1 * x + t.2.1 * y) * P'.2.2) * P.2.2 = t.1 * (P'.1 * P.2.2) + t.2.1 * (P'.2.1 * P.2.2) - (b * t.2.2 + t.1 * x + t.2.1 * y) * P'.2.2 * P.2.2:=by grind
 rw [z,← e1,← e2]
 grind
theorem Rel.svle {P P':P3} (hb:0 < b) (h:Rel b x y P P') (t:P3):Sea.sv (mT b x y t) P'≤0↔Sea.sv t P≤0:=by
 have e:=h.sv t
 have p1:=h.pos
 have p2:=h.pos'
 constructor
 ·intro z
  rcases Int.lt_or_le 0 (Sea.sv t P) with c | c
  ·exfalso
   have z1:=Int.mul_pos (Int.mul_pos hb c) p2
   have z2:=Int.mul_nonneg (show 0≤-Sea.sv (mT b x y t) P' by omega) (Int.le_of_lt p1)
   rw [Int.neg_mul] at z2
   omega
  ·exact c
 ·intro z
  rcases Int.lt_or_le 0 (Sea.sv (mT b x y t) P') with c | c
  ·exfalso
   have z1:=Int.mul_pos c p1
   have z2:=Int.mul_nonneg (Int.mul_nonneg (Int.le_of_lt hb) (show 0≤-Sea.sv t P by omega)) (Int.le_of_lt p2)
   rw [Int.mul_neg,Int.neg_mul] at z2
   omega
  ·exact c
theorem Rel.c3 {O O' A A' B B':P3} (hO:Rel b x y O O') (hA:Rel b x y A A') (hB:Rel b x y B B'):Sea.c3 O' A' B' * (O.2.2 * A.2.2 * B.2.2) = b * b * Sea.c3 O A B * (O'.2.2 * A'.2.2 * B'.2.2):=by
 have o1:=hO.ex
 have o2:=hO.ey
 have a1:=hA.ex
 have a2:=hA.ey
 have b1:=hB.ex
 have b2:=hB.ey
 have z:Sea.c3 O' A' B' * (O.2.2 * A.2.2 * B.2.2) = (O'.1 * O.2.2) * ((A'.2.1 * A.2.2) * (B'.2.2 * B.2.2) - (B'.2.1 * B.2.2) * (A'.2.2 * A.2.2)) - (O'.2.1 * O.2.2) * ((A'.1 * A.2.2) * (B'.2.2 * B.2.2) - (B'.1 * B.2.2) * (A'.2.2 * A.2.2)) + (O'.2.2 * O.2.2) * ((A'.1 * A.2.2) * (B'.2.1 * B.2.2) - (B'.1 * B.2.2) * (A'.2.1 * A.2.2)):=by
  unfold Sea.c3
  grind
 rw [z,← o1,← o2,← a1,← a2,← b1,← b2]
 unfold Sea.c3
 grind
theorem zFn {a c d e:Int} (hc:0 < c) (he:0 < e) (h:a * c = d * e):0 < a↔0 < d:=by
 constructor
 ·intro z
  have z1:=Int.mul_pos z hc
  rcases Int.lt_or_le 0 d with y | y
  ·exact y
  ·have z2:=Int.mul_nonneg (show 0≤-d by omega) (Int.le_of_lt he)
   rw [Int.neg_mul] at z2
   omega
 ·intro z
  have z1:=Int.mul_pos z he
  rcases Int.lt_or_le 0 a with y | y
  ·exact y
  ·have z2:=Int.mul_nonneg (show 0≤-a by omega) (Int.le_of_lt hc)
   rw [Int.neg_mul] at z2
   omega
theorem Rel.c3pos {O O' A A' B B':P3} (hb:0 < b) (hO:Rel b x y O O') (hA:Rel b x y A A') (hB:Rel b x y B B'):0 < Sea.c3 O' A' B'↔0 < Sea.c3 O A B:=by
 have e:=hO.c3 hA hB
 have p:=Int.mul_pos (Int.mul_pos hO.pos hA.pos) hB.pos
 have p':=Int.mul_pos (Int.mul_pos hO.pos' hA.pos') hB.pos'
 rw [zFn p p' e]
 have bb:=Int.mul_pos hb hb
 have z:=zFn (a:=b * b * Sea.c3 O A B) (c:=1) (d:=Sea.c3 O A B) (e:=b * b) (by decide) bb (by rw [Int.mul_one,Int.mul_comm])
 exact z
theorem Rel.fn {P Q R:P3} (hQ:Rel b x y P Q) (hR:Rel b x y P R) (lQ:zDy Q) (lR:zDy R):Q = R:=by
 have p:=hQ.pos
 have e1:=hQ.ex
 have e2:=hQ.ey
 have f1:=hR.ex
 have f2:=hR.ey
 refine zCp lQ.1 lR.1 lQ.2 lR.2 ?_ ?_
 ·have k:(Q.1 * R.2.2 - R.1 * Q.2.2) * P.2.2 = 0:=by
   have z:(Q.1 * R.2.2 - R.1 * Q.2.2) * P.2.2 = (Q.1 * P.2.2) * R.2.2 - (R.1 * P.2.2) * Q.2.2:=by grind
   rw [z,← e1,← f1]
   grind
  have:=(Int.mul_eq_zero.mp k).resolve_right (by omega)
  omega
 ·have k:(Q.2.1 * R.2.2 - R.2.1 * Q.2.2) * P.2.2 = 0:=by
   have z:(Q.2.1 * R.2.2 - R.2.1 * Q.2.2) * P.2.2 = (Q.2.1 * P.2.2) * R.2.2 - (R.2.1 * P.2.2) * Q.2.2:=by grind
   rw [z,← e2,← f2]
   grind
  have:=(Int.mul_eq_zero.mp k).resolve_right (by omega)
  omega
theorem Rel.dx {P P' Q Q':P3} (h:Rel b x y P P') (k:Rel b x y Q Q'):(P'.1 * Q'.2.2 - Q'.1 * P'.2.2) * (P.2.2 * Q.2.2) = b * (P.1 * Q.2.2 - Q.1 * P.2.2) * (P'.2.2 * Q'.2.2):=by
 have e1:=h.ex
 have f1:=k.ex
 have z:(P'.1 * Q'.2.2 - Q'.1 * P'.2.2) * (P.2.2 * Q.2.2) = (P'.1 * P.2.2) * (Q'.2.2 * Q.2.2) - (Q'.1 * Q.2.2) * (P'.2.2 * P.2.2):=by grind
 rw [z,← e1,← f1]
 grind
theorem Rel.dy {P P' Q Q':P3} (h:Rel b x y P P') (k:Rel b x y Q Q'):(P'.2.1 * Q'.2.2 - Q'.2.1 * P'.2.2) * (P.2.2 * Q.2.2) = b * (P.2.1 * Q.2.2 - Q.2.1 * P.2.2) * (P'.2.2 * Q'.2.2):=by
 have e1:=h.ey
 have f1:=k.ey
 have z:(P'.2.1 * Q'.2.2 - Q'.2.1 * P'.2.2) * (P.2.2 * Q.2.2) = (P'.2.1 * P.2.2) * (Q'.2.2 * Q.2.2) - (Q'.2.1 * Q.2.2) * (P'.2.2 * P.2.2):=by grind
 rw [z,← e1,← f1]
 grind
theorem zM8 {a c d e:Int} (hc:0 < c) (he:0 < e) (h:a * c = d * e):a = 0↔d = 0:=by
 constructor
 ·intro z
  rw [z,Int.zero_mul] at h
  exact (Int.mul_eq_zero.mp h.symm).resolve_right (by omega)
 ·intro z
  rw [z,Int.zero_mul] at h
  exact (Int.mul_eq_zero.mp h).resolve_right (by omega)
theorem Rel.inj {P Q R:P3} (hb:0 < b) (hP:Rel b x y P R) (hQ:Rel b x y Q R) (lP:zDy P) (lQ:zDy Q):P = Q:=by
 have pw:=Int.mul_pos hP.pos hQ.pos
 have rw':=Int.mul_pos hP.pos' hQ.pos'
 have ex:=hP.dx hQ
 have ey:=hP.dy hQ
 rw [Int.sub_self,Int.zero_mul] at ex ey
 refine zCp lP.1 lQ.1 lP.2 lQ.2 ?_ ?_
 ·have z:=(Int.mul_eq_zero.mp ex.symm).resolve_right (by omega)
  have:=(Int.mul_eq_zero.mp z).resolve_left (by omega)
  omega
 ·have z:=(Int.mul_eq_zero.mp ey.symm).resolve_right (by omega)
  have:=(Int.mul_eq_zero.mp z).resolve_left (by omega)
  omega
def leP (P Q:P3):Prop:=leS (0,P) (0,Q)
theorem zI2 (P Q:P3):ahB (0,P) (0,Q) = true↔P.1 * Q.2.2 - Q.1 * P.2.2 < 0∨(P.1 * Q.2.2 - Q.1 * P.2.2 = 0∧P.2.1 * Q.2.2 - Q.2.1 * P.2.2 < 0):=by
 unfold ahB
 dsimp only
 split
 ·rename_i h
  rw [decide_eq_true_iff]
  omega
 ·rename_i h
  rw [decide_eq_true_iff]
  omega
theorem Rel.ah {P P' Q Q':P3} (hb:0 < b) (h:Rel b x y P P') (k:Rel b x y Q Q'):ahB (0,P') (0,Q') = true↔ahB (0,P) (0,Q) = true:=by
 have pw:=Int.mul_pos h.pos k.pos
 have pw':=Int.mul_pos h.pos' k.pos'
 have ex:=h.dx k
 have ey:=h.dy k
 have sx:P'.1 * Q'.2.2 - Q'.1 * P'.2.2 < 0↔P.1 * Q.2.2 - Q.1 * P.2.2 < 0:=by
  have z:=zFn (a:=-(P'.1 * Q'.2.2 - Q'.1 * P'.2.2)) (d:=-(P.1 * Q.2.2 - Q.1 * P.2.2)) pw (Int.mul_pos hb pw') (by rw [Int.neg_mul,Int.neg_mul,ex]; grind)
  omega
 have sy:P'.2.1 * Q'.2.2 - Q'.2.1 * P'.2.2 < 0↔P.2.1 * Q.2.2 - Q.2.1 * P.2.2 < 0:=by
  have z:=zFn (a:=-(P'.2.1 * Q'.2.2 - Q'.2.1 * P'.2.2)) (d:=-(P.2.1 * Q.2.2 - Q.2.1 * P.2.2)) pw (Int.mul_pos hb pw') (by rw [Int.neg_mul,Int.neg_mul,ey]; grind)
  omega
 have s0:P'.1 * Q'.2.2 - Q'.1 * P'.2.2 = 0↔P.1 * Q.2.2 - Q.1 * P.2.2 = 0:=zM8 pw (Int.mul_pos hb pw') (by rw [ex]; grind)
 rw [zI2,zI2,sx,sy,s0]
theorem zS3 {P Q:P3} (lP:zDy P) (lQ:zDy Q) (h1:leP P Q) (h2:leP Q P):P = Q:=by
 have n1:¬ ahB (0,Q) (0,P) = true:=by intro z; have h1:ahB (0,Q) (0,P) = false:=h1; rw [h1] at z; cases z
 have n2:¬ ahB (0,P) (0,Q) = true:=by intro z; have h2:ahB (0,P) (0,Q) = false:=h2; rw [h2] at z; cases z
 rw [zI2] at n1 n2
 exact zCp lP.1 lQ.1 lP.2 lQ.2 (by omega) (by omega)
theorem zFs {P:P3} (h:0 < P.2.2):Rel b x y P (fi b x y P)∧zDy (fi b x y P)∧lowL (upL (b * P.1 + x * P.2.2) (b * P.2.1 + y * P.2.2) P.2.2) = [(fi b x y P).1,(fi b x y P).2.1,(fi b x y P).2.2]:=by
 obtain ⟨u,v,w,e,sp⟩:=zEj (X:=b * P.1 + x * P.2.2) (Y:=b * P.2.1 + y * P.2.2) (W:=P.2.2) (by omega)
 unfold fi
 rw [e]
 have p:=sp.pos
 exact ⟨⟨h,(by show 0 < w; omega),sp.ex.symm,sp.ey.symm⟩,⟨(by show 0 < w; omega),sp.low⟩,rfl⟩
def Mv (b x y:Int) (ss ss':List Sd):Prop:=ss'.map (·.2) = ss.map fun t=>mT b x y t.2
theorem Mv.fwd {ss ss':List Sd} (h:Mv b x y ss ss') {t:Sd} (ht:t∈ss):∃ t'∈ss',t'.2 = mT b x y t.2:=by
 have z:mT b x y t.2∈ss'.map (·.2):=by rw [h]; exact List.mem_map_of_mem (f:=fun t:Sd=>mT b x y t.2) ht
 obtain ⟨t',h1,h2⟩:=List.mem_map.mp z
 exact ⟨t',h1,h2⟩
theorem Mv.bwd {ss ss':List Sd} (h:Mv b x y ss ss') {t':Sd} (ht:t'∈ss'):∃ t∈ss,t'.2 = mT b x y t.2:=by
 have z:t'.2∈ss.map fun t=>mT b x y t.2:=by rw [← h]; exact List.mem_map_of_mem (f:=fun t:Sd=>t.2) ht
 obtain ⟨t,h1,h2⟩:=List.mem_map.mp z
 exact ⟨t,h1,h2.symm⟩
theorem Mv.len {ss ss':List Sd} (h:Mv b x y ss ss'):ss'.length = ss.length:=by
 have z:=congrArg List.length h
 rwa [List.length_map,List.length_map] at z
theorem Mv.inW {ss ss':List Sd} (h:Mv b x y ss ss') (hb:0 < b) {P P':P3} (r:Rel b x y P P'):Sea.inW ss' P'↔Sea.inW ss P:=by
 constructor
 ·intro w t ht
  obtain ⟨t',h1,h2⟩:=h.fwd ht
  have z:=w t' h1
  rw [h2] at z
  exact (r.svle hb t.2).mp z
 ·intro w t' ht'
  obtain ⟨t,h1,h2⟩:=h.bwd ht'
  rw [h2]
  exact (r.svle hb t.2).mpr (w t h1)
theorem Mv.place {ss ss':List Sd} (h:Mv b x y ss ss') (hb:0 < b):(∃ z:P3,0 < z.2.2∧Sea.inW ss' z)↔∃ z:P3,0 < z.2.2∧Sea.inW ss z:=by
 constructor
 ·rintro ⟨z,zw,wz⟩
  refine ⟨(z.1 - x * z.2.2,z.2.1 - y * z.2.2,b * z.2.2),Int.mul_pos hb zw,(h.inW hb ⟨Int.mul_pos hb zw,zw,?_,?_⟩).mp wz⟩
  ·dsimp only
   grind
  ·dsimp only
   grind
 ·rintro ⟨z,zw,wz⟩
  refine ⟨(b * z.1 + x * z.2.2,b * z.2.1 + y * z.2.2,z.2.2),zw,(h.inW hb (P:=z) (P':=(b * z.1 + x * z.2.2,b * z.2.1 + y * z.2.2,z.2.2)) ⟨zw,zw,rfl,rfl⟩).mpr wz⟩
theorem zTb {t u:P3} (h:tn t u≠0):Rel b x y (pt3 (crL t u)) (pt3 (crL (mT b x y t) (mT b x y u))):=by
 obtain ⟨p,q,w,e,sp⟩:=zEj (X:=t.2.2 * u.2.1 - t.2.1 * u.2.2) (Y:=t.1 * u.2.2 - t.2.2 * u.1) (W:=t.1 * u.2.1 - t.2.1 * u.1) h
 obtain ⟨p',q',w',e',sp'⟩:=zEj (X:=(mT b x y t).2.2 * (mT b x y u).2.1 - (mT b x y t).2.1 * (mT b x y u).2.2) (Y:=(mT b x y t).1 * (mT b x y u).2.2 - (mT b x y t).2.2 * (mT b x y u).1) (W:=(mT b x y t).1 * (mT b x y u).2.1 - (mT b x y t).2.1 * (mT b x y u).1) h
 have c1:crL t u = [p,q,w]:=e
 have c2:crL (mT b x y t) (mT b x y u) = [p',q',w']:=e'
 rw [c1,c2]
 have a1:=sp.ex
 have a2:=sp.ey
 have b1:=sp'.ex
 have b2:=sp'.ey
 have p1:=sp.pos
 have p2:=sp'.pos
 unfold mT at b1 b2
 dsimp only at b1 b2
 refine ⟨(by show 0 < w; omega),(by show 0 < w'; omega),?_,?_⟩
 ·show (b * p + x * w) * w' = p' * w
  have k:((b * p + x * w) * w' - p' * w) * (t.1 * u.2.1 - t.2.1 * u.1) = 0:=by
   have z:((b * p + x * w) * w' - p' * w) * (t.1 * u.2.1 - t.2.1 * u.1) = b * (p * (t.1 * u.2.1 - t.2.1 * u.1)) * w' + x * w * w' * (t.1 * u.2.1 - t.2.1 * u.1) - (p' * (t.1 * u.2.1 - t.2.1 * u.1)) * w:=by grind
   rw [z,a1,b1]
   grind
  have:=(Int.mul_eq_zero.mp k).resolve_right h
  omega
 ·show (b * q + y * w) * w' = q' * w
  have k:((b * q + y * w) * w' - q' * w) * (t.1 * u.2.1 - t.2.1 * u.1) = 0:=by
   have z:((b * q + y * w) * w' - q' * w) * (t.1 * u.2.1 - t.2.1 * u.1) = b * (q * (t.1 * u.2.1 - t.2.1 * u.1)) * w' + y * w * w' * (t.1 * u.2.1 - t.2.1 * u.1) - (q' * (t.1 * u.2.1 - t.2.1 * u.1)) * w:=by grind
   rw [z,a2,b2]
   grind
  have:=(Int.mul_eq_zero.mp k).resolve_right h
  omega
theorem zCa {ss:List Sd} {P:P3} (c:Cor ss P):zDy P:=by
 obtain ⟨t,_,u,_,h,rfl,_⟩:=c
 obtain ⟨sp,_,_⟩:=zCj h
 exact ⟨sp.pos,sp.low⟩
theorem Mv.cor {ss ss':List Sd} (h:Mv b x y ss ss') (hb:0 < b) {P:P3} (c:Cor ss P):Cor ss' (fi b x y P):=by
 have lP:=zCa c
 obtain ⟨r1,l1,_⟩:=zFs (b:=b) (x:=x) (y:=y) lP.1
 obtain ⟨t,ht,u,hu,hn,e,wP⟩:=c
 obtain ⟨t',ht',et⟩:=h.fwd ht
 obtain ⟨u',hu',eu⟩:=h.fwd hu
 have hn':tn t'.2 u'.2≠0:=by rw [et,eu]; exact hn
 have r2:Rel b x y P (pt3 (crL t'.2 u'.2)):=by rw [et,eu,e]; exact zTb hn
 obtain ⟨sp,_,_⟩:=zCj hn'
 have ef:=r1.fn r2 l1 ⟨sp.pos,sp.low⟩
 rw [ef]
 exact ⟨t',ht',u',hu',hn',rfl,(h.inW hb r2).mpr wP⟩
theorem Mv.cor' {ss ss':List Sd} (h:Mv b x y ss ss') (hb:0 < b) {P':P3} (c:Cor ss' P'):∃ P,Cor ss P∧P' = fi b x y P:=by
 have lP':=zCa c
 obtain ⟨t',ht',u',hu',hn',e,wP⟩:=c
 obtain ⟨t,ht,et⟩:=h.bwd ht'
 obtain ⟨u,hu,eu⟩:=h.bwd hu'
 have hn:tn t.2 u.2≠0:=by rw [et,eu] at hn'; exact hn'
 have r2:Rel b x y (pt3 (crL t.2 u.2)) P':=by rw [e,et,eu]; exact zTb hn
 obtain ⟨sp,_,_⟩:=zCj hn
 obtain ⟨r1,l1,_⟩:=zFs (b:=b) (x:=x) (y:=y) sp.pos
 exact ⟨_,⟨t,ht,u,hu,hn,rfl,(h.inW hb r2).mp wP⟩,r2.fn r1 lP' l1⟩
theorem zRy {P Q:P3} (hb:0 < b) (lP:zDy P) (lQ:zDy Q) (e:fi b x y P = fi b x y Q):P = Q:=by
 have r1:=(zFs (b:=b) (x:=x) (y:=y) lP.1).1
 have r2:=(zFs (b:=b) (x:=x) (y:=y) lQ.1).1
 rw [← e] at r2
 exact r1.inj hb r2 lP lQ
theorem uniq {α:Type} {R:α→α→Prop} : ∀ {xs ys:List α},xs.Perm ys→(∀ a∈xs,∀ c∈xs,R a c→R c a→a = c)→xs.Pairwise R→ys.Pairwise R→xs = ys
 | [],ys,h,_,_,_=>(List.nil_perm.mp h).symm
 | u :: us,[],h,_,_,_=>absurd (List.perm_nil.mp h) (by simp)
 | u :: us,v :: vs,h,an,hx,hy=>by
  obtain ⟨hx1,hx2⟩:=List.pairwise_cons.mp hx
  obtain ⟨hy1,hy2⟩:=List.pairwise_cons.mp hy
  have e:u = v:=by
   have m1:u∈v :: vs:=h.mem_iff.mp (List.mem_cons_self ..)
   have m2:v∈u :: us:=h.mem_iff.mpr (List.mem_cons_self ..)
   rcases List.mem_cons.mp m1 with e | m1
   ·exact e
   ·rcases List.mem_cons.mp m2 with e | m2
    ·exact e.symm
    ·exact an u (.head _) v (.tail _ m2) (hx1 v m2) (hy1 u m1)
  subst e
  rw [uniq (List.perm_cons u |>.mp h) (fun a ha c hc=>an a (.tail _ ha) c (.tail _ hc)) hx2 hy2]
theorem Mv.list {ss ss':List Sd} (h:Mv b x y ss ss') (hb:0 < b) {cs cs':List P3} (n:cs.Nodup) (n':cs'.Nodup) (m:∀ P,P∈cs↔Cor ss P) (m':∀ P,P∈cs'↔Cor ss' P) (r:cs.Pairwise leP) (r':cs'.Pairwise leP):cs' = cs.map (fi b x y):=by
 have low:∀ {P},P∈cs→zDy P:=fun hP=>zCa ((m _).mp hP)
 have nd:(cs.map (fi b x y)).Nodup:=by
  rw [List.Nodup,List.pairwise_map]
  exact List.Pairwise.imp_of_mem (fun {P Q} hP hQ ne e=>ne (zRy hb (low hP) (low hQ) e)) n
 refine uniq (R:=leP) ((List.perm_ext_iff_of_nodup n' nd).mpr fun P'=>?_) (fun a ha c hc h1 h2=>zS3 (zCa ((m' a).mp ha)) (zCa ((m' c).mp hc)) h1 h2) r' ?_
 ·rw [m',List.mem_map]
  constructor
  ·intro c
   obtain ⟨P,c1,e⟩:=h.cor' hb c
   exact ⟨P,(m P).mpr c1,e.symm⟩
  ·rintro ⟨P,hP,rfl⟩
   exact h.cor hb ((m P).mp hP)
 ·rw [List.pairwise_map]
  refine List.Pairwise.imp_of_mem (fun {P Q} hP hQ l=>?_) r
  have r1:=(zFs (b:=b) (x:=x) (y:=y) (low hP).1).1
  have r2:=(zFs (b:=b) (x:=x) (y:=y) (low hQ).1).1
  show ahB (0,fi b x y Q) (0,fi b x y P) = false
  have l:ahB (0,Q) (0,P) = false:=l
  cases e:ahB (0,fi b x y Q) (0,fi b x y P) with
  | false=>rfl
  | true =>
   rw [(r2.ah hb r1).mp e] at l
   cases l
theorem Mv.way {ss ss':List Sd} (h:Mv b x y ss ss') (u v:Int):wayB ss' u v = wayB ss u v:=by
 unfold wayB
 have e:∀ l:List Sd,(l.all fun t=>decide (t.2.1 * u + t.2.2.1 * v≤0)) = (l.map (·.2)).all fun t=>decide (t.1 * u + t.2.1 * v≤0):=fun l=>by rw [List.all_map]; rfl
 rw [e,e,h,List.all_map,List.all_map]
 rfl
theorem Mv.wk {ss ss':List Sd} (h:Mv b x y ss ss') (k:List Int):WK ss' ss'.length k↔WK ss ss.length k:=by
 have at':∀ (j:Nat) (t':Sd),ss'[j]? = some t'→∃ t,ss[j]? = some t∧t'.2 = mT b x y t.2:=fun j t' e=>by
  have z:=congrArg (fun l:List P3=>l[j]?) h
  simp only [List.getElem?_map,e,Option.map_some] at z
  cases g:ss[j]? with
  | none=>rw [g] at z; cases z
  | some t=>rw [g] at z; exact ⟨t,rfl,Option.some.inj z⟩
 have at2:∀ (j:Nat) (t:Sd),ss[j]? = some t→∃ t',ss'[j]? = some t'∧t'.2 = mT b x y t.2:=fun j t e=>by
  have z:=congrArg (fun l:List P3=>l[j]?) h
  simp only [List.getElem?_map,e,Option.map_some] at z
  cases g:ss'[j]? with
  | none=>rw [g] at z; cases z
  | some t'=>rw [g] at z; exact ⟨t',rfl,Option.some.inj z⟩
 rw [h.len]
 constructor
 ·rintro ⟨j,t',hj,g,r⟩
  obtain ⟨t,g2,e⟩:=at' j t' g
  rw [h.way,h.way,show t'.2.1 = t.2.1 by rw [e]; rfl,show t'.2.2.1 = t.2.2.1 by rw [e]; rfl] at r
  exact ⟨j,t,hj,g2,r⟩
 ·rintro ⟨j,t,hj,g,r⟩
  obtain ⟨t',g2,e⟩:=at2 j t g
  refine ⟨j,t',hj,g2,?_⟩
  rw [h.way,h.way,show t'.2.1 = t.2.1 by rw [e]; rfl,show t'.2.2.1 = t.2.2.1 by rw [e]; rfl]
  exact r
theorem zTd {O O':P3} {r r':Nat→P3} : ∀ j:Nat,(∀ i,i < j→c3 O' (r' i) (r' (i + 1)) * (O.2.2 * (r i).2.2 * (r (i + 1)).2.2) = b * b * c3 O (r i) (r (i + 1)) * (O'.2.2 * (r' i).2.2 * (r' (i + 1)).2.2))→(arS O' r' j).1 * arB O r j = b * b * (arS O r j).1 * arB O' r' j
 | 0,_=>by
  show (0:Int) * _ = b * b * 0 * _
  rw [Int.zero_mul,Int.mul_zero,Int.zero_mul]
 | j + 1,h=>by
  have ih:=zTd (O:=O) (O':=O') (r:=r) (r':=r') j fun i hi=>h i (by omega)
  have hj:=h j (by omega)
  unfold arB at ih ⊢
  show ((arS O' r' j).1 * (r' (j + 1)).2.2 + c3 O' (r' j) (r' (j + 1)) * (arS O' r' j).2) * (2 * O.2.2 * ((arS O r j).2 * (r j).2.2) * (r (j + 1)).2.2) = b * b * ((arS O r j).1 * (r (j + 1)).2.2 + c3 O (r j) (r (j + 1)) * (arS O r j).2) * (2 * O'.2.2 * ((arS O' r' j).2 * (r' j).2.2) * (r' (j + 1)).2.2)
  generalize (arS O' r' j).1 = N' at *
  generalize (arS O r j).1 = N at *
  generalize (arS O' r' j).2 = Q' at *
  generalize (arS O r j).2 = Q at *
  generalize c3 O' (r' j) (r' (j + 1)) = c' at *
  generalize c3 O (r j) (r (j + 1)) = c at *
  generalize (r (j + 1)).2.2 = v at *
  generalize (r' (j + 1)).2.2 = v' at *
  generalize (r j).2.2 = u at *
  generalize (r' j).2.2 = u' at *
  generalize O.2.2 = w at *
  generalize O'.2.2 = w' at *
  have z:(N' * v' + c' * Q') * (2 * w * (Q * u) * v) = (N' * (2 * w * Q * u)) * v' * v + 2 * Q * Q' * (c' * (w * u * v)):=by grind
  rw [z,ih,hj]
  grind
theorem zRw {p q p' q':Int} (h:p' * q = q' * p) (hq:1≤q) (hq':1≤q') (l:Nat.gcd p.natAbs q.natAbs = 1) (l':Nat.gcd p'.natAbs q'.natAbs = 1):p' = p∧q' = q:=by
 have d1:q.natAbs ∣ q'.natAbs * p.natAbs:=by rw [← Int.natAbs_mul,← h,Int.natAbs_mul]; exact Nat.dvd_mul_left _ _
 have d2:q'.natAbs ∣ p'.natAbs * q.natAbs:=by rw [← Int.natAbs_mul,h,Int.natAbs_mul]; exact Nat.dvd_mul_right _ _
 have e1:=Nat.Coprime.dvd_of_dvd_mul_right (Nat.Coprime.symm l) d1
 have e2:=Nat.Coprime.dvd_of_dvd_mul_left (Nat.Coprime.symm l') d2
 have eq:q' = q:=by
  have:=Nat.dvd_antisymm e1 e2
  omega
 refine ⟨?_,eq⟩
 rw [eq,Int.mul_comm] at h
 exact Int.eq_of_mul_eq_mul_left (by omega) h
theorem Fq.wide {p q p' q' N B N' B':Int} (f:Fq p q N B) (f':Fq p' q' N' B') (hB:0 < B) (hB':0 < B') (e:N' * B = b * b * N * B'):p' * q = q' * (p * b * b):=by
 have e1:=f.eq
 have e2:=f'.eq
 have k:(p' * q - q' * (p * b * b)) * (B * B') = 0:=by
  have z:(p' * q - q' * (p * b * b)) * (B * B') = (p' * B') * q * B - q' * b * b * (p * B) * B':=by grind
  rw [z,e1,e2]
  have z2:q' * N' * q * B - q' * b * b * (q * N) * B' = q' * q * (N' * B - b * b * N * B'):=by grind
  rw [z2,e,Int.sub_self,Int.mul_zero]
 have nz:B * B'≠0:=Int.ne_of_gt (Int.mul_pos hB hB')
 have:=(Int.mul_eq_zero.mp k).resolve_right nz
 omega
end
end Sea

-- LAW
namespace Sea
open PySem L2
structure Zs (mg:Str→Option Value):Prop where
 abs:mg "abs" = none
 all:mg "all" = none
 bool:mg "bool" = none
 enumerate:mg "enumerate" = none
 int:mg "int" = none
 isinstance:mg "isinstance" = none
 len:mg "len" = none
 list:mg "list" = none
 min:mg "min" = none
 range:mg "range" = none
 sorted:mg "sorted" = none
 tuple:mg "tuple" = none
theorem zA5:zAs ["numbers", "shared", "number", "rest", "smaller"] ["numbers"] (zAl zBw):=⟨rfl,rfl,rfl,by decide +kernel,rfl,by decide +kernel,by decide +kernel⟩
theorem zH8:zAs ["numbers", "shared"] ["numbers"] (zAl zFi):=⟨rfl,rfl,rfl,by decide +kernel,rfl,by decide +kernel,by decide +kernel⟩
theorem zLp:zAs ["numbers"] ["numbers"] (zAl zD7):=⟨rfl,rfl,rfl,by decide +kernel,rfl,by decide +kernel,by decide +kernel⟩
theorem zPw:zAs ["top", "bottom"] ["top", "bottom"] (zAl zH0):=⟨rfl,rfl,rfl,by decide +kernel,rfl,by decide +kernel,by decide +kernel⟩
theorem zQz:zAs ["one", "other"] ["one", "other"] (zAl zHz):=⟨rfl,rfl,rfl,by decide +kernel,rfl,by decide +kernel,by decide +kernel⟩
theorem zP4:zAs ["x", "y", "w"] ["x", "y", "w"] (zAl zHn):=⟨rfl,rfl,rfl,by decide +kernel,rfl,by decide +kernel,by decide +kernel⟩
theorem zJ1:zAs ["one", "other", "east"] ["one", "other"] (zAl zGk):=⟨rfl,rfl,rfl,by decide +kernel,rfl,by decide +kernel,by decide +kernel⟩
theorem zDd:zAs ["ones", "others", "told", "taken", "other"] ["ones", "others"] (zAl zFf):=⟨rfl,rfl,rfl,by decide +kernel,rfl,by decide +kernel,by decide +kernel⟩
theorem zGd:zAs ["spots", "middle"] ["spots"] (zAl zCq):=⟨rfl,rfl,rfl,by decide +kernel,rfl,by decide +kernel,by decide +kernel⟩
theorem zLc:zAs ["one", "other"] ["one", "other"] (zAl zGh):=⟨rfl,rfl,rfl,by decide +kernel,rfl,by decide +kernel,by decide +kernel⟩
theorem zPj:zAs ["one", "other"] ["one", "other"] (zAl zGq):=⟨rfl,rfl,rfl,by decide +kernel,rfl,by decide +kernel,by decide +kernel⟩
theorem zO3:zAs ["direction"] ["direction"] (zAl zF5):=⟨rfl,rfl,rfl,by decide +kernel,rfl,by decide +kernel,by decide +kernel⟩
theorem zMz:zAs ["side", "spot"] ["side", "spot"] (zAl zFj):=⟨rfl,rfl,rfl,by decide +kernel,rfl,by decide +kernel,by decide +kernel⟩
theorem zO4:zAs ["side", "spot"] ["side", "spot"] (zAl zFz):=⟨rfl,rfl,rfl,by decide +kernel,rfl,by decide +kernel,by decide +kernel⟩
theorem zC0:zAs ["one", "other", "w", "x", "y"] ["one", "other"] (zAl zDk):=⟨rfl,rfl,rfl,by decide +kernel,rfl,by decide +kernel,by decide +kernel⟩
theorem zMn:zAs ["side", "x", "y"] ["side", "x", "y"] (zAl zFe):=⟨rfl,rfl,rfl,by decide +kernel,rfl,by decide +kernel,by decide +kernel⟩
theorem zGj:zAs ["sides", "place", "side"] ["sides", "place"] (zAl zDf):=⟨rfl,rfl,rfl,by decide +kernel,rfl,by decide +kernel,by decide +kernel⟩
theorem zRi:zAs ["side"] ["side"] (zAl zHx):=⟨rfl,rfl,rfl,by decide +kernel,rfl,by decide +kernel,by decide +kernel⟩
theorem zBm:zAs ["sides", "edge", "hand", "found", "place", "number", "side"] ["sides", "edge", "hand"] (zAl zDo):=⟨rfl,rfl,rfl,by decide +kernel,rfl,by decide +kernel,by decide +kernel⟩
theorem zFr:zAs ["sides", "edge", "numbers"] ["sides", "edge"] (zAl zC1):=⟨rfl,rfl,rfl,by decide +kernel,rfl,by decide +kernel,by decide +kernel⟩
theorem zDw:zAs ["sides", "edge", "place"] ["sides", "edge"] (zAl zB3):=⟨rfl,rfl,rfl,by decide +kernel,rfl,by decide +kernel,by decide +kernel⟩
theorem zEn:zAs ["sides", "place", "number"] ["sides"] (zAl zFg):=⟨rfl,rfl,rfl,by decide +kernel,rfl,by decide +kernel,by decide +kernel⟩
theorem zJb:zAs ["sides"] ["sides"] (zAl zCx):=⟨rfl,rfl,rfl,by decide +kernel,rfl,by decide +kernel,by decide +kernel⟩
theorem zDi:zAs ["sides", "found", "edge", "place"] ["sides"] (zAl zD9):=⟨rfl,rfl,rfl,by decide +kernel,rfl,by decide +kernel,by decide +kernel⟩
theorem zMu:zAs ["start", "end"] ["start", "end"] (zAl zFk):=⟨rfl,rfl,rfl,by decide +kernel,rfl,by decide +kernel,by decide +kernel⟩
abbrev zI7:Stmt:=(zCf zGs).getD 1 (.Pass ⟨0,0,0,0⟩)
theorem zJu:zGl ["place", "sight", "rising"] "place" "rising" 2 (zAl zI7):=⟨rfl,rfl,rfl,by decide +kernel,rfl,rfl,rfl,rfl,rfl,by decide +kernel⟩
theorem zI5:zAs ["sides", "rising", "count_ahead"] ["sides"] (zAl zGs):=⟨rfl,rfl,rfl,by decide +kernel,rfl,by decide +kernel,by decide +kernel⟩
theorem zH1:zAs ["sides", "direction", "side"] ["sides", "direction"] (zAl zFb):=⟨rfl,rfl,rfl,by decide +kernel,rfl,by decide +kernel,by decide +kernel⟩
theorem zF3:zAs ["sides", "found", "side", "direction"] ["sides"] (zAl zHo):=⟨rfl,rfl,rfl,by decide +kernel,rfl,by decide +kernel,by decide +kernel⟩
theorem zIp:zAs ["sides"] ["sides"] (zAl zCo):=⟨rfl,rfl,rfl,by decide +kernel,rfl,by decide +kernel,by decide +kernel⟩
theorem zGo:zAs ["first", "one", "other", "twice"] ["first", "one", "other"] (zAl zDn):=⟨rfl,rfl,rfl,by decide +kernel,rfl,by decide +kernel,by decide +kernel⟩
theorem zE3:zAs ["sides", "places", "total", "number"] ["sides"] (zAl zHv):=⟨rfl,rfl,rfl,by decide +kernel,rfl,by decide +kernel,by decide +kernel⟩
theorem zLk:zAs ["groups", "place"] ["groups", "place"] (zAl zEm):=⟨rfl,rfl,rfl,by decide +kernel,rfl,by decide +kernel,by decide +kernel⟩
theorem zA4:zAs ["groups", "sides", "group", "places", "number", "other", "place"] ["groups"] (zAl zBv):=⟨rfl,rfl,rfl,by decide +kernel,rfl,by decide +kernel,by decide +kernel⟩
theorem zBd:zAs ["groups", "shown", "place", "least", "told", "choice"] ["groups"] (zAl zB4):=⟨rfl,rfl,rfl,by decide +kernel,rfl,by decide +kernel,by decide +kernel⟩
theorem zLu:zAs ["groups"] ["groups"] (zAl zD5):=⟨rfl,rfl,rfl,by decide +kernel,rfl,by decide +kernel,by decide +kernel⟩
theorem zPb:zAs ["_law_number"] ["_law_number"] (zAl zGb):=⟨rfl,rfl,rfl,by decide +kernel,rfl,by decide +kernel,by decide +kernel⟩
theorem zBu:zAs ["_law_script", "_law_many_here", "_law_rows", "_law_mix", "_law_cell", "_law_rest"] ["_law_script", "_law_many_here"] (zAl zGi):=⟨rfl,rfl,rfl,by decide +kernel,rfl,by decide +kernel,by decide +kernel⟩
theorem zOw:zAs ["_law_some", "_law_sides_here"] ["_law_some", "_law_sides_here"] (zAl zGc):=⟨rfl,rfl,rfl,by decide +kernel,rfl,by decide +kernel,by decide +kernel⟩
theorem zHq:zAs ["_law_one", "_law_two", "_law_wide", "_law_x", "_law_y"] ["_law_one", "_law_two", "_law_wide"] (zAl zJ8):=⟨rfl,rfl,rfl,by decide +kernel,rfl,by decide +kernel,by decide +kernel⟩
theorem zD2:zAs ["_law_d", "_law_a", "_law_b", "_law_c"] ["_law_d"] (zAl zHs):=⟨rfl,rfl,rfl,by decide +kernel,rfl,by decide +kernel,by decide +kernel⟩
theorem zC2:zAs ["_law_some", "_law_many_here", "_law_rows", "_law_x", "_law_y"] ["_law_some", "_law_many_here"] (zAl zF9):=⟨rfl,rfl,rfl,by decide +kernel,rfl,by decide +kernel,by decide +kernel⟩
theorem zPy:zAs ["_law_one", "_law_two", "_law_few", "_law_most"] ["_law_one", "_law_two", "_law_few", "_law_most"] (zAl zHt):=⟨rfl,rfl,rfl,by decide +kernel,rfl,by decide +kernel,by decide +kernel⟩
theorem zHp:zAs ["_law_one", "_law_other"] ["_law_one", "_law_other"] (zAl zKm):=⟨rfl,rfl,rfl,by decide +kernel,rfl,by decide +kernel,by decide +kernel⟩
theorem zE2:zAs ["_law_x", "_law_y", "_law_w", "_law_by"] ["_law_x", "_law_y", "_law_w"] (zAl zD3):=⟨rfl,rfl,rfl,by decide +kernel,rfl,by decide +kernel,by decide +kernel⟩
theorem zOx:zAs ["_law_found"] ["_law_found"] (zAl zGn):=⟨rfl,rfl,rfl,by decide +kernel,rfl,by decide +kernel,by decide +kernel⟩
theorem zLg:zAs ["_law_found", "_law_many_here"] ["_law_found", "_law_many_here"] (zAl zEo):=⟨rfl,rfl,rfl,by decide +kernel,rfl,by decide +kernel,by decide +kernel⟩
theorem zK2:zAs ["_law_found", "_law_top", "_law_bottom"] ["_law_found", "_law_top", "_law_bottom"] (zAl zEb):=⟨rfl,rfl,rfl,by decide +kernel,rfl,by decide +kernel,by decide +kernel⟩
theorem zE4:zAs ["_law_script", "_law_some", "_law_sides_here", "_law_x", "_law_y", "_law_by", "_law_others", "_law_wide", "_law_due", "_law_size"] ["_law_script"] (zAl zNf):=⟨rfl,rfl,rfl,by decide +kernel,rfl,by decide +kernel,by decide +kernel⟩
section
variable {P:Program} {w:World} {K:PySem.W.Frag} {mg:Str→Option Value} {base:Heap} {f:Addr} {fd:FuncData}
def zDh (K:PySem.W.Frag):Sp:=fun vs H Q _=>∃ (a:Addr) (ns:List Int),vs = [.ref a]∧Sq K H a (ns.map V.int)∧Q (.int (gcdL ns)) H
theorem zF6 (F:Fun K "common_factor" "common_factor" zBw f fd) (Z:Zs mg):FnOk P w K mg base CX0 1 f fd ["numbers"] (zDh K):=by
 refine F.ok zA5 (fun vs H Q E h=>?_) (fun cdv A outer s H vs Q E hr h=>?_)
 ·obtain ⟨a,ns,rfl,_⟩:=h
  rfl
 obtain ⟨a,ns,rfl,hS,q⟩:=h
 refine ⟨_,(zAg (zAu (i:=1) zA5.nd rfl (Or.inl rfl) zAc)
   (zAg (zCh PassesOwn.never rfl (zBk (pv 0)) (zAp (i:=2) zA5.nd rfl (Or.inl rfl)) (zAg (zAu (i:=3) zA5.nd rfl (Or.inl rfl) (zAx zD6 rfl Z.abs zIs (zAa (pv 2) zAe)))
   (zAi (zGp PassesOwn.never (zAv zS6 (pv 3) zAc (zAw _)) (zAg (zAu (i:=4) zA5.nd rfl (Or.inl rfl) (zAm zA7 (pv 1) (pv 3)))
   (zAg (zAu (i:=1) zA5.nd rfl (Or.inl rfl) (pv 3))
   (zAi (zAu (i:=3) zA5.nd rfl (Or.inl rfl) (pv 4)))))))))
   (zAi (zAr (pv 1))))),?_⟩
 have mono:∀ (σ:St) (H:Hp) (Q Q':Bool→Hp→Prop),(∀ b H1,Q b H1→Q' b H1)→zR9 (tOp rNe (tVar 3) (tC (.int 0))) σ H Q→zR9 (tOp rNe (tVar 3) (tC (.int 0))) σ H Q':=fun σ H Q Q' hq z=>by
  obtain ⟨v,hv,hs,k,hk,z⟩:=z
  exact ⟨v,hv,hs,k,hk,hq _ _ z⟩
 rcases hS with hS | hS
 ·refine ⟨_,rfl,a,rfl,.inl ⟨⟨_,hS⟩,zBq (K:=K) (a:=a) (xs:=ns.map V.int) (fun i σ H'=>H' = H∧∃ (u v z:Option V),σ = [some (.ref a),some (.int (gcdL (ns.take i))),u,v,z]) ⟨rfl,none,none,none,rfl⟩ (fun i σ H' _ ⟨e,_⟩=>by rw [e]; exact hS) ?_ ?_⟩⟩
  ·rintro i x σ H' hi ⟨rfl,u,v,z,rfl⟩
   obtain ⟨n,hn,rfl⟩:=zCb hi
   refine ⟨_,rfl,n,rfl,?_⟩
   refine zEc (fun σ H1=>H1 = H'∧∃ (g r:Int) (y:Option V),σ = [some (.ref a),some (.int g),some (.int n),some (.int r),y]∧0≤g∧0≤r∧Nat.gcd g.toNat r.toNat = gcdL (ns.take (i + 1)))
    (fun σ _=>match σ with | [_,_,_,some (.int r),_]=>r.toNat | _=>0) ⟨rfl,_,_,_,rfl,Int.natCast_nonneg _,by split <;> omega,?_⟩ ?_ mono
   ·rw [zA8 hn,zLj,zOj]; rfl
   ·rintro σ H1 ⟨rfl,g,r,y,rfl,h1,h2,h3⟩
    refine ⟨_,rfl,rfl,_,rfl,?_⟩
    refine ifNe (fun hr0=>?_) (fun hr0=>?_)
    ·refine ⟨_,rfl,_,rfl,_,_,rfl,rfl,(by show (0:Int) < r; omega),_,rfl,_,rfl,⟨rfl,_,_,_,rfl,h2,Int.emod_nonneg g hr0,?_⟩,?_⟩
     ·rw [zKp h1 (by omega)]; exact h3
     ·have h4:=Int.emod_lt_of_pos g (show 0 < r by omega)
      show (g % r).toNat < r.toNat
      omega
    ·subst hr0
     have h5:g = ((gcdL (ns.take (i + 1)):Nat):Int):=by
      rw [← h3]
      show g = ((Nat.gcd g.toNat 0:Nat):Int)
      rw [Nat.gcd_zero_right]
      omega
     exact ⟨rfl,some (.int n),some (.int 0),y,by rw [h5]⟩
  ·rintro σ H' ⟨rfl,u,v,z,rfl⟩
   refine ⟨_,rfl,?_⟩
   rw [List.length_map,List.take_length]
   exact q
 ·refine ⟨_,rfl,a,rfl,.inr ⟨⟨_,hS⟩,zTs (K:=K) (a:=a) (xs:=ns.map V.int) (fun i σ H'=>H' = H∧∃ (u v z:Option V),σ = [some (.ref a),some (.int (gcdL (ns.take i))),u,v,z]) ⟨rfl,none,none,none,rfl⟩ (fun i σ H' _ ⟨e,_⟩=>by rw [e]; exact hS) ?_ ?_⟩⟩
  ·rintro i x σ H' hi ⟨rfl,u,v,z,rfl⟩
   obtain ⟨n,hn,rfl⟩:=zCb hi
   refine ⟨_,rfl,n,rfl,?_⟩
   refine zEc (fun σ H1=>H1 = H'∧∃ (g r:Int) (y:Option V),σ = [some (.ref a),some (.int g),some (.int n),some (.int r),y]∧0≤g∧0≤r∧Nat.gcd g.toNat r.toNat = gcdL (ns.take (i + 1)))
    (fun σ _=>match σ with | [_,_,_,some (.int r),_]=>r.toNat | _=>0) ⟨rfl,_,_,_,rfl,Int.natCast_nonneg _,by split <;> omega,?_⟩ ?_ mono
   ·rw [zA8 hn,zLj,zOj]; rfl
   ·rintro σ H1 ⟨rfl,g,r,y,rfl,h1,h2,h3⟩
    refine ⟨_,rfl,rfl,_,rfl,?_⟩
    refine ifNe (fun hr0=>?_) (fun hr0=>?_)
    ·refine ⟨_,rfl,_,rfl,_,_,rfl,rfl,(by show (0:Int) < r; omega),_,rfl,_,rfl,⟨rfl,_,_,_,rfl,h2,Int.emod_nonneg g hr0,?_⟩,?_⟩
     ·rw [zKp h1 (by omega)]; exact h3
     ·have h4:=Int.emod_lt_of_pos g (show 0 < r by omega)
      show (g % r).toNat < r.toNat
      omega
    ·subst hr0
     have h5:g = ((gcdL (ns.take (i + 1)):Nat):Int):=by
      rw [← h3]
      show g = ((Nat.gcd g.toNat 0:Nat):Int)
      rw [Nat.gcd_zero_right]
      omega
     exact ⟨rfl,some (.int n),some (.int 0),y,by rw [h5]⟩
  ·rintro σ H' ⟨rfl,u,v,z,rfl⟩
   refine ⟨_,rfl,?_⟩
   rw [List.length_map,List.take_length]
   exact q
def zC7 (K:PySem.W.Frag):Sp:=fun vs H Q _=>∃ (a:Addr) (ns:List Int),vs = [.ref a]∧Sq K H a (ns.map V.int)∧ns.length≤1000∧0 < gcdL ns∧(gcdL ns:Int) < 10 ^ 600 ∧
 ∀ (p:Addr) (H':Hp),Same H H'→H p = none→H' p = some (.tup ((lowL ns).map V.int))→Q (.ref p) H'
theorem zNb (F:Fun K "lowest" "lowest" zFi f fd) (Z:Zs mg) (h_p_common_factor:Has P w K mg base "common_factor" 1 ["numbers"] (zDh K)):FnOk P w K mg base CX0 2 f fd ["numbers"] (zC7 K):=by
 refine F.ok zH8 (fun vs H Q E h=>?_) (fun cdv A outer s H vs Q E hr h=>?_)
 ·obtain ⟨a,ns,rfl,_⟩:=h
  rfl
 obtain ⟨a,ns,rfl,hS,hl,hg,hg2,q⟩:=h
 refine ⟨_,(zAg (zAu (i:=1) zH8.nd rfl (Or.inr rfl) (zAh h_p_common_factor (hr.mono (by decide)) rfl (zAa (pv 0) zAe)))
   (zAi (zAr (zBt zF8 rfl Z.tuple zJ9 (zAa (zCl (T:=["number"]) (caps:=[("shared", 1)]) ⟨rfl,by decide +kernel,by decide +kernel,rfl,⟨⟨rfl,rfl,Or.inl rfl⟩,True.intro⟩⟩ rfl (zBk (pv 0)) (fun _=>(zAp (i:=0) (show (["number", "shared"]:List Str).Nodup by decide +kernel) rfl (Or.inl rfl))) (fun _=>zBg) (fun _=>(zAm zCm (pv 0) (pv 1)))) zAe))))),?_⟩
 refine ⟨_,rfl,a,ns,rfl,hS,?_⟩
 have fin:∀ (D:Addr) (H':Hp),H D = none→Same H H'→H' D = some (.lst ((lowL ns).map V.int))→∀ l,H' l = none→Q (.ref l) (upd H' l (.tup ((lowL ns).map V.int))):=fun D H' hD hs e l hl =>
  q l _ (hs.trans (zAd hl _)) (hs.free hl) zAb
 have len:∀ i,((ns.take i).map fun n=>V.int (n / (gcdL ns:Int))).length < sizeLine:=fun i=>zA3 (by rw [List.length_map,List.length_take]; omega)
 rcases hS with hS | hS
 ·refine ⟨_,rfl,a,rfl,.inl ⟨⟨_,hS⟩,fun c D hD=>zBn (K:=K) (a:=a) (xs:=ns.map V.int) (fun i σ ys H'=>H' = upd H D (.lst ys)∧ys = (ns.take i).map (fun n=>V.int (n / (gcdL ns:Int)))∧∃ u,σ = [u,some (.int (gcdL ns))])
   ⟨rfl,rfl,none,rfl⟩ (fun i σ ys H' _ ⟨e,_⟩=>by rw [e]; exact ⟨(zAd hD _).seq hS,zAb⟩) ?_ ?_⟩⟩
  ·rintro i x σ ys H' hi ⟨rfl,rfl,u,rfl⟩
   obtain ⟨n,hn,rfl⟩:=zCb hi
   refine ⟨_,rfl,_,rfl,_,_,rfl,rfl,zDv.of (by omega) hg2,zAb,len i,?_⟩
   refine ⟨zE8,?_,_,rfl⟩
   rw [zA8 hn,List.map_append]
   rfl
  ·rintro σ ys H' ⟨rfl,rfl,u,rfl⟩
   rw [List.length_map,List.take_length]
   have e:(ns.map fun n=>V.int (n / (gcdL ns:Int))) = (lowL ns).map V.int:=by unfold lowL; rw [List.map_map]; rfl
   rw [e]
   exact ⟨D,_,rfl,.inl ⟨SqL.of zAb,fin D _ hD (zAd hD _) zAb⟩⟩
 ·refine ⟨_,rfl,a,rfl,.inr ⟨⟨_,hS⟩,fun c D hD=>zIj (K:=K) (a:=a) (xs:=ns.map V.int) (fun i σ ys H'=>H' = upd H D (.lst ys)∧ys = (ns.take i).map (fun n=>V.int (n / (gcdL ns:Int)))∧∃ u,σ = [u,some (.int (gcdL ns))])
   ⟨rfl,rfl,none,rfl⟩ (fun i σ ys H' _ ⟨e,_⟩=>by rw [e]; exact ⟨SqT.same hS (zAd hD _),zAb⟩) ?_ ?_⟩⟩
  ·rintro i x σ ys H' hi ⟨rfl,rfl,u,rfl⟩
   obtain ⟨n,hn,rfl⟩:=zCb hi
   refine ⟨_,rfl,_,rfl,_,_,rfl,rfl,zDv.of (by omega) hg2,zAb,len i,?_⟩
   refine ⟨zE8,?_,_,rfl⟩
   rw [zA8 hn,List.map_append]
   rfl
  ·rintro σ ys H' ⟨rfl,rfl,u,rfl⟩
   rw [List.length_map,List.take_length]
   have e:(ns.map fun n=>V.int (n / (gcdL ns:Int))) = (lowL ns).map V.int:=by unfold lowL; rw [List.map_map]; rfl
   rw [e]
   exact ⟨D,_,rfl,.inl ⟨SqL.of zAb,fin D _ hD (zAd hD _) zAb⟩⟩
def zDg (K:PySem.W.Frag):Sp:=fun vs H Q _=>∃ (a:Addr) (ns:List Int) (l:Int),vs = [.ref a]∧Sq K H a (ns.map V.int)∧ns.length≤1000∧atI (ns.map V.int) (-1) = some (.int l)∧l∈ns∧l≠0∧l.natAbs < 10 ^ 500 ∧
 ∀ (p:Addr) (H':Hp),Same H H'→H p = none→H' p = some (.tup ((lowL (if l < 0 then ns.map (fun n=>-n) else ns)).map V.int))→Q (.ref p) H'
theorem zK7 (F:Fun K "upright" "upright" zD7 f fd) (Z:Zs mg) (h_p_lowest:Has P w K mg base "lowest" 2 ["numbers"] (zC7 K)):FnOk P w K mg base CX0 3 f fd ["numbers"] (zDg K):=by
 refine F.ok zLp (fun vs H Q E h=>?_) (fun cdv A outer s H vs Q E hr h=>?_)
 ·obtain ⟨a,ns,l,rfl,_⟩:=h
  rfl
 obtain ⟨a,ns,l,rfl,hS,hl,hat,hm,h0,hb,q⟩:=h
 refine ⟨_,(zAg (zBs (zAv zJe (zAq zAk (pv 0) (zLd zHc zAc) (fun _ _=>rfl)) zAc (zAw _)) (zAi (zAr (zAh h_p_lowest (hr.mono (by decide)) rfl (zAa (zCl (T:=["number"]) (caps:=[]) ⟨rfl,by decide +kernel,by decide +kernel,rfl,True.intro⟩ rfl (zBk (pv 0)) (fun _=>(zAp (i:=0) (show (["number"]:List Str).Nodup by decide +kernel) rfl (Or.inl rfl))) (fun _=>zBg) (fun _=>(zLd zHc (pv 0)))) zAe)))) zA2)
   (zAi (zAr (zAh h_p_lowest (hr.mono (by decide)) rfl (zAa (pv 0) zAe))))),?_⟩
 refine ⟨_,rfl,_,rfl,a,_,_,_,rfl,rfl,hS,hat,_,_,rfl,rfl,_,rfl,?_⟩
 have gp:0 < gcdL ns:=zCy hm h0
 have gb:(gcdL ns:Int) < 10 ^ 600:=by
  have h1:=zH9 hm h0
  have h2:(10:Nat) ^ 500 < 10 ^ 600:=by decide +kernel
  have h3:((10:Int) ^ 600) = ((10 ^ 600:Nat):Int):=by rw [Int.natCast_pow]; rfl
  rw [h3]
  omega
 refine ifD (fun hneg=>?_) (fun hneg=>?_)
 ·have len:∀ i,((ns.take i).map fun n=>V.int (-n)).length < sizeLine:=fun i=>zA3 (by rw [List.length_map,List.length_take]; omega)
  have fin:∀ (D:Addr) (H':Hp),H D = none→Same H H'→H' D = some (.lst ((ns.map fun n=>-n).map V.int))→zC7 K [.ref D] H' Q E0:=fun D H' hD hs e=>by
   refine ⟨D,ns.map fun n=>-n,rfl,.inl (SqL.of e),by rw [List.length_map]; exact hl,by rw [zN8]; exact gp,by rw [zN8]; exact gb,fun p H2 s2 hp e2=>?_⟩
   exact q p H2 (hs.trans s2) (hs.free hp) (by rw [if_pos hneg]; exact e2)
  rcases hS with hS | hS
  ·refine ⟨_,rfl,a,rfl,.inl ⟨⟨_,hS⟩,fun c D hD=>zBn (K:=K) (a:=a) (xs:=ns.map V.int) (fun i σ ys H'=>H' = upd H D (.lst ys)∧ys = (ns.take i).map (fun n=>V.int (-n))∧∃ u,σ = [u])
    ⟨rfl,rfl,none,rfl⟩ (fun i σ ys H' _ ⟨e,_⟩=>by rw [e]; exact ⟨(zAd hD _).seq hS,zAb⟩) ?_ ?_⟩⟩
   ·rintro i x σ ys H' hi ⟨rfl,rfl,u,rfl⟩
    obtain ⟨n,hn,rfl⟩:=zCb hi
    refine ⟨_,rfl,_,rfl,zAb,len i,?_⟩
    refine ⟨zE8,?_,_,rfl⟩
    rw [zA8 hn,List.map_append]
    rfl
   ·rintro σ ys H' ⟨rfl,rfl,u,rfl⟩
    rw [List.length_map,List.take_length]
    have e:(ns.map fun n=>V.int (-n)) = (ns.map fun n=>-n).map V.int:=by rw [List.map_map]; rfl
    rw [e]
    exact fin D _ hD (zAd hD _) zAb
  ·refine ⟨_,rfl,a,rfl,.inr ⟨⟨_,hS⟩,fun c D hD=>zIj (K:=K) (a:=a) (xs:=ns.map V.int) (fun i σ ys H'=>H' = upd H D (.lst ys)∧ys = (ns.take i).map (fun n=>V.int (-n))∧∃ u,σ = [u])
    ⟨rfl,rfl,none,rfl⟩ (fun i σ ys H' _ ⟨e,_⟩=>by rw [e]; exact ⟨SqT.same hS (zAd hD _),zAb⟩) ?_ ?_⟩⟩
   ·rintro i x σ ys H' hi ⟨rfl,rfl,u,rfl⟩
    obtain ⟨n,hn,rfl⟩:=zCb hi
    refine ⟨_,rfl,_,rfl,zAb,len i,?_⟩
    refine ⟨zE8,?_,_,rfl⟩
    rw [zA8 hn,List.map_append]
    rfl
   ·rintro σ ys H' ⟨rfl,rfl,u,rfl⟩
    rw [List.length_map,List.take_length]
    have e:(ns.map fun n=>V.int (-n)) = (ns.map fun n=>-n).map V.int:=by rw [List.map_map]; rfl
    rw [e]
    exact fin D _ hD (zAd hD _) zAb
 ·refine ⟨_,rfl,a,ns,rfl,hS,hl,gp,gb,fun p H2 s2 hp e2=>?_⟩
  exact q p H2 s2 hp (by rw [if_neg hneg]; exact e2)
def zF4 (K:PySem.W.Frag):Sp:=fun vs H Q _=>∃ (t b:Int),vs = [.int t,.int b]∧b≠0∧b.natAbs < 10 ^ 500 ∧
 ∀ (p:Addr) (x y:Int) (H':Hp),Same H H'→H p = none→H' p = some (.tup [.int x,.int y])→zHa t b x y→Q (.ref p) H'
theorem zR4 (F:Fun K "part" "part" zH0 f fd) (Z:Zs mg) (h_p_upright:Has P w K mg base "upright" 3 ["numbers"] (zDg K)):FnOk P w K mg base CX0 4 f fd ["top", "bottom"] (zF4 K):=by
 refine F.ok zPw (fun vs H Q E h=>?_) (fun cdv A outer s H vs Q E hr h=>?_)
 ·obtain ⟨t,b,rfl,_⟩:=h
  rfl
 obtain ⟨t,b,rfl,hb,hb2,q⟩:=h
 refine ⟨_,(zAi (zAr (zAh h_p_upright (hr.mono (by decide)) rfl (zAa (zB0 (zAa (pv 0) (zAa (pv 1) zAe))) zAe)))),?_⟩
 refine ⟨_,rfl,_,rfl,(by show 2≤sizeLine; decide),fun p hp=>⟨p,[t,b],b,rfl,.inr (SqT.of zAb),by show 2≤1000; decide,rfl,by simp,hb,hb2,fun r H2 s2 hr2 e2=>?_⟩⟩
 obtain ⟨x,y,exy,hxy⟩:=zPa t hb
 rw [exy] at e2
 exact q r x y H2 ((zAd hp _).trans s2) ((zAd hp _).free hr2) e2 hxy
def zLt (K:PySem.W.Frag):Sp:=fun vs H Q _=>∃ (a b:Addr) (x1 y1 x2 y2:Int),vs = [.ref a,.ref b]∧H a = some (.tup [.int x1,.int y1])∧H b = some (.tup [.int x2,.int y2]) ∧
 x1.natAbs≤10 ^ 401∧y1.natAbs≤10 ^ 401∧x2.natAbs≤10 ^ 401∧y2.natAbs≤10 ^ 401∧y1≠0∧y2≠0∧(y1 * y2).natAbs < 10 ^ 500∧∀ (p:Addr) (x y:Int) (H':Hp),Same H H'→H p = none→H' p = some (.tup [.int x,.int y])→zHa (x1 * y2 + x2 * y1) (y1 * y2) x y→Q (.ref p) H'
theorem zQr (F:Fun K "plus" "plus" zHz f fd) (Z:Zs mg) (h_p_part:Has P w K mg base "part" 4 ["top", "bottom"] (zF4 K)):FnOk P w K mg base CX0 5 f fd ["one", "other"] (zLt K):=by
 refine F.ok zQz (fun vs H Q E h=>?_) (fun cdv A outer s H vs Q E hr h=>?_)
 ·obtain ⟨a,b,x1,y1,x2,y2,rfl,_⟩:=h
  rfl
 obtain ⟨a,b,x1,y1,x2,y2,rfl,ha',hb',m1,m2,m3,m4,n1,n2,hy,q⟩:=h
 have ha:Sq K H a [.int x1,.int y1]:=.inr (SqT.of ha')
 have hb:Sq K H b [.int x2,.int y2]:=.inr (SqT.of hb')
 have c3:∀ {i j:Int},i.natAbs≤10 ^ 401→j.natAbs≤10 ^ 401→zHj i j:=fun {i j} hi hj=>⟨Nat.lt_of_le_of_lt hi (by decide +kernel),Nat.lt_of_le_of_lt hj (by decide +kernel)⟩
 refine ⟨_,(zAi (zAr (zAh h_p_part (hr.mono (by decide)) rfl (zAa (zAm zBr (zAm zBj (zAq zAk (pv 0) zAc (fun _ _=>rfl)) (zAq zAk (pv 1) zAc (fun _ _=>rfl))) (zAm zBj (zAq zAk (pv 1) zAc (fun _ _=>rfl)) (zAq zAk (pv 0) zAc (fun _ _=>rfl)))) (zAa (zAm zBj (zAq zAk (pv 0) zAc (fun _ _=>rfl)) (zAq zAk (pv 1) zAc (fun _ _=>rfl))) zAe))))),?_⟩
 exact ⟨_,rfl,a,_,_,.int x1,rfl,rfl,ha,rfl,_,rfl,b,_,_,.int y2,rfl,rfl,hb,rfl,_,_,rfl,rfl,c3 m1 m4,
  _,rfl,b,_,_,.int x2,rfl,rfl,hb,rfl,_,rfl,a,_,_,.int y1,rfl,rfl,ha,rfl,_,_,rfl,rfl,c3 m3 m2,_,_,rfl,rfl,
  _,rfl,a,_,_,.int y1,rfl,rfl,ha,rfl,_,rfl,b,_,_,.int y2,rfl,rfl,hb,rfl,_,_,rfl,rfl,c3 m2 m4,
  _,_,rfl,Int.mul_ne_zero n1 n2,hy,q⟩
def zGm (K:PySem.W.Frag):Sp:=fun vs H Q _=>∃ (X Y W:Int),vs = [.int X,.int Y,.int W]∧W≠0∧W.natAbs < 10 ^ 500∧∀ (p:Addr) (H':Hp),Same H H'→H p = none→H' p = some (.tup ((lowL (upL X Y W)).map V.int))→Q (.ref p) H'
theorem zQe (F:Fun K "spot" "spot" zHn f fd) (Z:Zs mg) (h_p_upright:Has P w K mg base "upright" 3 ["numbers"] (zDg K)):FnOk P w K mg base CX0 4 f fd ["x", "y", "w"] (zGm K):=by
 refine F.ok zP4 (fun vs H Q E h=>?_) (fun cdv A outer s H vs Q E hr h=>?_)
 ·obtain ⟨X,Y,W,rfl,_⟩:=h
  rfl
 obtain ⟨X,Y,W,rfl,hw,hw2,q⟩:=h
 refine ⟨_,(zAi (zAr (zAh h_p_upright (hr.mono (by decide)) rfl (zAa (zB0 (zAa (pv 0) (zAa (pv 1) (zAa (pv 2) zAe)))) zAe)))),?_⟩
 refine ⟨_,rfl,_,rfl,_,rfl,(by show 3≤sizeLine; decide),fun p hp=>⟨p,[X,Y,W],W,rfl,.inr (SqT.of zAb),by show 3≤1000; decide,rfl,by simp,hw,hw2,fun r H2 s2 hr2 e2=>?_⟩⟩
 exact q r H2 ((zAd hp _).trans s2) ((zAd hp _).free hr2) e2
theorem cB {i j:Int} (hi:i.natAbs≤10 ^ 100) (hj:j.natAbs≤10 ^ 100):zHj i j:=zHj.of hi hj
def SpOk (H:Hp) (t:SpT):Prop:=H t.1 = some (.tup [.int t.2.1,.int t.2.2.1,.int t.2.2.2])∧t.2.1.natAbs≤10 ^ 100∧t.2.2.1.natAbs≤10 ^ 100∧t.2.2.2.natAbs≤10 ^ 100
theorem SpOk.same {H H':Hp} {t:SpT} (h:SpOk H t) (e:Same H H'):SpOk H' t:=⟨e _ _ h.1,h.2⟩
def zFh (K:PySem.W.Frag):Sp:=fun vs H Q _=>∃ (s t:SpT),vs = [.ref s.1,.ref t.1]∧SpOk H s∧SpOk H t∧Q (.bl (ahB s t)) H
theorem zPc (F:Fun K "ahead" "ahead" zGk f fd) (Z:Zs mg)  : FnOk P w K mg base CX0 1 f fd ["one", "other"] (zFh K):=by
 refine F.ok zJ1 (fun vs H Q E h=>?_) (fun cdv A outer s H vs Q E hr h=>?_)
 ·obtain ⟨s,t,rfl,_⟩:=h
  rfl
 obtain ⟨⟨a,x1,y1,w1⟩,⟨b,x2,y2,w2⟩,rfl,⟨ha,a1,a2,a3⟩,⟨hb,b1,b2,b3⟩,q⟩:=h
 refine ⟨_,(zAg (zAu (i:=2) zJ1.nd rfl (Or.inl rfl) (zAm zBp (zAm zBj (zAq zAk (pv 0) zAc (fun _ _=>rfl)) (zAq zAk (pv 1) zAc (fun _ _=>rfl))) (zAm zBj (zAq zAk (pv 1) zAc (fun _ _=>rfl)) (zAq zAk (pv 0) zAc (fun _ _=>rfl)))))
   (zAg (zBs (zAv zS6 (pv 2) zAc (zAw _)) (zAi (zAr (zEa zJe (pv 2) zAc (zAw _)))) zA2)
   (zAi (zAr (zEa zJe (zAm zBj (zAq zAk (pv 0) zAc (fun _ _=>rfl)) (zAq zAk (pv 1) zAc (fun _ _=>rfl))) (zAm zBj (zAq zAk (pv 1) zAc (fun _ _=>rfl)) (zAq zAk (pv 0) zAc (fun _ _=>rfl))) (zAw _)))))),?_⟩
 have fa':Sq K H a [.int x1,.int y1,.int w1]:=.inr (SqT.of ha)
 have fb:Sq K H b [.int x2,.int y2,.int w2]:=.inr (SqT.of hb)
 refine ⟨_,rfl,a,_,_,.int x1,rfl,rfl,fa',rfl,_,rfl,b,_,_,.int w2,rfl,rfl,fb,rfl,_,_,rfl,rfl,cB a1 b3,_,rfl,b,_,_,.int x2,rfl,rfl,fb,rfl,_,rfl,a,_,_,.int w1,rfl,rfl,fa',rfl,_,_,rfl,rfl,cB b1 a3,_,_,rfl,rfl,?_⟩
 refine ⟨_,rfl,rfl,_,rfl,?_⟩
 refine ifNe (fun h=>?_) (fun h=>?_)
 ·have e:ahB (a,x1,y1,w1) (b,x2,y2,w2) = decide (x1 * w2 - x2 * w1 < 0):=if_neg h
  rw [e] at q
  exact ⟨_,rfl,_,_,rfl,rfl,q⟩
 ·have e:ahB (a,x1,y1,w1) (b,x2,y2,w2) = decide (y1 * w2 < y2 * w1):=if_pos h
  rw [e] at q
  exact ⟨_,rfl,a,_,_,.int y1,rfl,rfl,fa',rfl,_,rfl,b,_,_,.int w2,rfl,rfl,fb,rfl,_,_,rfl,rfl,cB a2 b3,_,rfl,b,_,_,.int y2,rfl,rfl,fb,rfl,_,rfl,a,_,_,.int w1,rfl,rfl,fa',rfl,_,_,rfl,rfl,cB b2 a3,_,_,rfl,rfl,q⟩
theorem zU0 {sp:Sp} {dvs:List V} {E:XK} {t:TA} (hs:∀ (vs:List V) (H:Hp) (Q Q':VK),(∀ v H1,Q v H1→Q' v H1)→sp vs H Q E→sp vs H Q' E) (ht:zRx t):zJg (zTy sp dvs E t):=fun σ _ _ _ hq z=>ht σ _ _ _ (fun _ _ z=>hs _ _ _ _ hq z) z
theorem zOs {K:PySem.W.Frag} : ∀ (vs:List V) (H:Hp) (Q Q':VK),(∀ v H1,Q v H1→Q' v H1)→zFh K vs H Q E0→zFh K vs H Q' E0:=fun _ _ _ _ hq ⟨s,t,a,b,c,z⟩=>⟨s,t,a,b,c,hq _ _ z⟩
def zAt (ps:List SpT):List V:=ps.map fun t=>V.ref t.1
def zFv (K:PySem.W.Frag):Sp:=fun vs H Q _=>∃ (a b:Addr) (xs ys:List SpT),vs = [.ref a,.ref b]∧H a = some (.lst (zAt xs))∧H b = some (.lst (zAt ys))∧(∀ t∈xs,SpOk H t)∧(∀ t∈ys,SpOk H t)∧xs.length + ys.length≤5000 ∧
 ∀ (p:Addr) (H':Hp),Same H H'→H p = none→H' p = some (.lst (zAt (zBh xs ys)))→Q (.ref p) H'
theorem zPg {xs ys:List SpT} {o:SpT} {r:List SpT} {k:Nat} (hk:k≤xs.length) {told:List SpT} (h:told ++ zBh (xs.drop k) (o :: r) = zBh xs ys) {x:SpT} (hx:xs[k]? = some x) (ha:ahB o x = false):(told ++ [x]) ++ zBh (xs.drop (k + 1)) (o :: r) = zBh xs ys:=by
 rw [← h]
 have hk':k < xs.length:=(List.getElem?_eq_some_iff.mp hx).1
 have e:xs.drop k = x :: xs.drop (k + 1):=by
  rw [List.drop_eq_getElem_cons hk']
  congr 1
  exact (List.getElem?_eq_some_iff.mp hx).2
 rw [e,zBh,zBh,List.takeWhile_cons_of_pos (by rw [ha]; rfl),List.dropWhile_cons_of_pos (by rw [ha]; rfl),List.append_assoc]
 rfl
theorem zLz {xs ys:List SpT} {o:SpT} {r:List SpT} {k:Nat} {told:List SpT} (h:told ++ zBh (xs.drop k) (o :: r) = zBh xs ys) (hx:xs.length≤k∨∃ x,xs[k]? = some x∧ahB o x = true):(told ++ [o]) ++ zBh (xs.drop k) r = zBh xs ys:=by
 rw [← h]
 rcases hx with hx | ⟨x,hx,ha⟩
 ·rw [List.drop_eq_nil_of_le hx,zBh,List.takeWhile_nil,List.dropWhile_nil,List.append_assoc]
  rfl
 ·have hk':k < xs.length:=(List.getElem?_eq_some_iff.mp hx).1
  have e:xs.drop k = x :: xs.drop (k + 1):=by
   rw [List.drop_eq_getElem_cons hk']
   congr 1
   exact (List.getElem?_eq_some_iff.mp hx).2
  rw [e,zBh,List.takeWhile_cons_of_neg (by rw [ha]; decide),List.dropWhile_cons_of_neg (by rw [ha]; decide),List.append_assoc]
  rfl
structure MgSt (H:Hp) (l:Addr) (told:List SpT) (H':Hp):Prop where
 same:Same H H'
 at':H' l = some (.lst (zAt told))
theorem MgSt.app {H H':Hp} {l:Addr} {told:List SpT} {x:SpT} (d:MgSt H l told H') (hl:H l = none):MgSt H l (told ++ [x]) (upd H' l (.lst (zAt told ++ [.ref x.1]))):=by
 refine ⟨fun b o e=>?_,?_⟩
 ·rw [zAo (zAy e hl)]
  exact d.same b o e
 ·rw [zAb]
  unfold zAt
  rw [List.map_append]
  rfl
theorem zSo {ps:List SpT} {i:Nat} {x:SpT} (h:ps[i]? = some x):(zAt ps)[i]? = some (.ref x.1):=by
 unfold zAt
 rw [List.getElem?_map,h]
 rfl
theorem zEg {ps:List SpT} {i:Nat} {v:V} (h:(zAt ps)[i]? = some v):∃ x,ps[i]? = some x∧v = .ref x.1:=by
 unfold zAt at h
 rw [List.getElem?_map] at h
 cases e:ps[i]? with
 | none=>rw [e] at h; cases h
 | some x=>rw [e] at h; exact ⟨x,rfl,(Option.some.inj h).symm⟩
theorem zBi (ps:List SpT):(zAt ps).length = ps.length:=List.length_map _
theorem zM9 (F:Fun K "merged" "merged" zFf f fd) (Z:Zs mg) (h_p_ahead:Has P w K mg base "ahead" 1 ["one", "other"] (zFh K)):FnOk P w K mg base CX0 2 f fd ["ones", "others"] (zFv K):=by
 refine F.ok zDd (fun vs H Q E h=>?_) (fun cdv A outer s H vs Q E hr h=>?_)
 ·obtain ⟨a,b,xs,ys,rfl,_⟩:=h
  rfl
 obtain ⟨a,b,xs,ys,rfl,ha,hb,okx,oky,hlen,q⟩:=h
 refine ⟨_,(zAg (zAu (i:=2) zDd.nd rfl (Or.inl rfl) (zEp zAe))
   (zAg (zAu (i:=3) zDd.nd rfl (Or.inl rfl) zAc)
   (zAg (zCh PassesOwn.never rfl (zBk (pv 1)) (zAp (i:=4) zDd.nd rfl (Or.inl rfl)) (zAg (zGp PassesOwn.never (PW.pt (zLa (zAv zJe (pv 3) (zAx zAz rfl Z.len zCs (zAa (pv 0) zAe)) (zAw _)) (zIz (zHg (zEt (zAh h_p_ahead (hr.mono (by decide)) rfl (zAa (pv 4) (zAa (zAq zAk (pv 0) (pv 3) (fun _ _=>rfl)) zAe)))))))) (zAg (zE0 (zLm PySem.F.plainAttrs_list PySem.F.slot_list_append PySem.F.type_list_append zBy (pv 2) (zAa (zAq zAk (pv 0) (pv 3) (fun _ _=>rfl)) zAe)))
   (zAi (zAu (i:=3) zDd.nd rfl (Or.inl rfl) (zAm zBr (pv 3) zAc)))))
   (zAi (zE0 (zLm PySem.F.plainAttrs_list PySem.F.slot_list_append PySem.F.type_list_append zBy (pv 2) (zAa (pv 4) zAe))))))
   (zAi (zAr (zAm zRz (pv 2) (zCd zC8 (pv 0) (zDa (pv 3)) zC5))))))),?_⟩
 have big:∀ n:Nat,n≤5000→n < sizeLine:=fun n hn=>Nat.lt_of_le_of_lt hn (by decide)
 refine ⟨(by show 0≤sizeLine; decide),fun l hl=>?_⟩
 have D0:MgSt H l [] (upd H l (.lst [])):=⟨zAd hl _,zAb⟩
 refine ⟨_,rfl,b,rfl,.inl ⟨⟨_,SqL.of (D0.same _ _ hb)⟩,zBq (K:=K) (a:=b) (xs:=zAt ys) (fun j σ H'=>∃ (told:List SpT) (k:Nat) (u:Option V),σ = [some (.ref a),some (.ref b),some (.ref l),some (.int k),u]∧MgSt H l told H'∧k≤xs.length∧told.length = k + j∧told ++ zBh (xs.drop k) (ys.drop j) = zBh xs ys)
  ⟨[],0,none,rfl,D0,Nat.zero_le _,rfl,rfl⟩ (fun j σ H' _ ⟨_,_,_,_,d,_⟩=>SqL.of (d.same _ _ hb)) ?_ ?_⟩⟩
 ·rintro j v σ H' hj ⟨told,k,u,rfl,d,hk,htl,hm⟩
  obtain ⟨o,ho,rfl⟩:=zEg hj
  have hjl:j < ys.length:=(List.getElem?_eq_some_iff.mp ho).1
  have okO:=oky o (List.mem_of_getElem? ho)
  have eo:ys.drop j = o :: ys.drop (j + 1):=by
   rw [List.drop_eq_getElem_cons hjl]
   congr 1
   exact (List.getElem?_eq_some_iff.mp ho).2
  rw [eo] at hm
  refine zEc (fun σ H1=>∃ (told:List SpT) (k:Nat),σ = [some (.ref a),some (.ref b),some (.ref l),some (.int k),some (.ref o.1)]∧MgSt H l told H1∧k≤xs.length∧told.length = k + j∧told ++ zBh (xs.drop k) (o :: ys.drop (j + 1)) = zBh xs ys)
   (fun σ _=>match σ with | [_,_,_,some (.int z),_]=>xs.length - z.toNat | _=>0) ⟨told,k,rfl,d,hk,htl,hm⟩ ?_ (zQo (zGy (zM7 zO0 zD1 (zR7 zN7 (zGz zD1 zLw)))) (mo_not (mo_b (zU0 zOs (zGz zD1 (zGz (zM7 mo_ixA zD1 zD1) zLw))))))
  rintro σ H1 ⟨told,k,rfl,d,hk,htl,hm⟩
  have fa':Sq K H1 a (zAt xs):=.inl (SqL.of (d.same _ _ ha))
  refine ⟨_,rfl,_,rfl,a,_,rfl,.inl (SqL.of (d.same _ _ ha)),_,_,rfl,rfl,_,rfl,?_⟩
  refine ifD (fun hlt=>?_) (fun hlt=>?_)
  ·have hlt':(k:Int) < ((zAt xs).length:Int):=hlt
   rw [zBi] at hlt'
   have hkl:k < xs.length:=by omega
   have hx:xs[k]? = some xs[k]:=List.getElem?_eq_getElem hkl
   have at':atI (zAt xs) (k:Int) = some (.ref (xs[k]).1):=zFx (zSo hx)
   have okX:=okx xs[k] (List.getElem_mem hkl)
   refine ⟨_,rfl,_,rfl,_,rfl,a,_,_,_,rfl,rfl,fa',at',o,xs[k],rfl,okO.same d.same,okX.same d.same,_,rfl,?_⟩
   refine ifTF (fun hb'=>?_) (fun hb'=>?_)
   ·have hb2:ahB o xs[k] = false:=by cases h:ahB o xs[k] <;> simp_all
    refine ⟨_,rfl,.inl ⟨rfl,_,SqL.of d.at'⟩,_,rfl,_,rfl,a,_,_,_,rfl,rfl,fa',at',l,_,_,rfl,rfl,d.at',big _ (by rw [zBi]; omega),?_⟩
    refine ⟨_,rfl,_,_,rfl,rfl,⟨told ++ [xs[k]],k + 1,rfl,d.app hl,hkl,by rw [List.length_append,List.length_singleton]; omega,zPg hk hm hx hb2⟩,?_⟩
    show xs.length - ((k:Int) + 1).toNat < xs.length - ((k:Int)).toNat
    omega
   ·have hb2:ahB o xs[k] = true:=by cases h:ahB o xs[k] <;> simp_all
    refine ⟨_,rfl,.inl ⟨rfl,_,SqL.of d.at'⟩,_,rfl,l,_,_,rfl,rfl,d.at',big _ (by rw [zBi]; omega),?_⟩
    exact ⟨told ++ [o],k,_,rfl,d.app hl,hk,by rw [List.length_append,List.length_singleton]; omega,zLz hm (.inr ⟨_,hx,hb2⟩)⟩
  ·have hlt':¬ (k:Int) < ((zAt xs).length:Int):=hlt
   rw [zBi] at hlt'
   refine iteF ?_
   refine ⟨_,rfl,.inl ⟨rfl,_,SqL.of d.at'⟩,_,rfl,l,_,_,rfl,rfl,d.at',big _ (by rw [zBi]; omega),?_⟩
   exact ⟨told ++ [o],k,_,rfl,d.app hl,hk,by rw [List.length_append,List.length_singleton]; omega,zLz hm (.inl (by omega))⟩
 ·rintro σ H' ⟨told,k,u,rfl,d,hk,htl,hm⟩
  rw [zBi] at htl hm
  rw [List.drop_length,zBh] at hm
  refine ⟨_,rfl,_,rfl,_,rfl,_,rfl,a,_,rfl,SqL.of (d.same _ _ ha),fun c hc=>?_⟩
  have sc:=zAd hc (.lst (cutV (zAt xs) (some (k:Int)) none))
  have ec:cutV (zAt xs) (some (k:Int)) none = zAt (xs.drop k):=by
   unfold cutV
   rw [HT.sIx_nat,zBi,show min k xs.length = k by omega,show HT.sIx xs.length xs.length none = xs.length from rfl,List.take_of_length_le (by rw [List.length_drop,zBi]; omega)]
   unfold zAt
   rw [List.map_drop]
  refine ⟨l,c,_,_,rfl,rfl,sc _ _ d.at',zAb,?_,fun p hp=>?_⟩
  ·rw [ec,zBi,zBi,List.length_drop]
   exact Nat.le_of_lt (big _ (by omega))
  ·refine q p _ (d.same.trans (sc.trans (zAd hp _))) ((d.same.trans sc).free hp) ?_
   rw [zAb,ec,← hm]
   unfold zAt
   rw [List.map_append]
def zEu (K:PySem.W.Frag):Nat→Sp
 | 0=>fun _ _ _ _=>False
 | n + 1=>fun vs H Q _=>∃ (a:Addr) (xs:List SpT),vs = [.ref a]∧SqL K H a (zAt xs)∧(∀ t∈xs,SpOk H t)∧xs.length≤2 ^ n∧xs.length≤5000∧∀ (p:Addr) (H':Hp),Same H H'→H p = none→H' p = some (.lst (zAt (zFp n xs)))→Q (.ref p) H'
def zF0 (K:PySem.W.Frag):Sp:=zEu K 13
theorem zHi {f:Addr} {fd:FuncData} (F:Fun K "in_order" "in_order" zCq f fd) (Z:Zs mg) (h_p_merged:Has P w K mg base "merged" 2 ["ones", "others"] (zFv K)) (bS:zK4 K fd ["spots"] []) (kS:PySem.W.keepIn K (.ref f) = true) (mS:mg "in_order" = some (.ref f)) :
  ∀ n:Nat,FnOk P w K mg base CX0 (n + 2) f fd ["spots"] (zEu K n)
 | 0=>⟨fun _ _ _ _ h=>h.elim,fun _ _ _ _ _ _ _ _ _ _ _ _ _ h=>h.elim⟩
 | n + 1=>by
  have ih:=zHi F Z h_p_merged bS kS mS n
  have h_p_in_order:Has P w K mg base "in_order" (n + 2) ["spots"] (zEu K n):=⟨f,fd,ih,bS,kS,mS⟩
  rw [show n + 1 + 2 = n + 2 + 1 from by omega]
  refine F.ok zGd (fun vs H Q E h=>?_) (fun cdv A outer s H vs Q E hr h=>?_)
  ·obtain ⟨a,xs,rfl,_⟩:=h
   rfl
  obtain ⟨a,xs,rfl,hS,ok,hl,hl5,q⟩:=h
  have hr_self:=hr
  have hr_m:Room 2 _:=hr.mono (Nat.le_add_left _ _)
  refine ⟨_,(zAg (zBs (zAv zJe (zAx zAz rfl Z.len zCs (zAa (pv 0) zAe)) zAc (zAw _)) (zAi (zAr (zBt zB7 rfl Z.list zEl (zAa (pv 0) zAe)))) zA2)
   (zAg (zAu (i:=1) zGd.nd rfl (Or.inl rfl) (zAm zCm (zAx zAz rfl Z.len zCs (zAa (pv 0) zAe)) zAc))
   (zAi (zAr (zAh h_p_merged hr_m rfl (zAa (zAh h_p_in_order hr_self rfl (zAa (zCd zC8 (pv 0) zC5 (zDa (pv 1))) zAe)) (zAa (zAh h_p_in_order hr_self rfl (zAa (zCd zC8 (pv 0) (zDa (pv 1)) zC5) zAe)) zAe))))))),?_⟩
  have big:∀ n:Nat,n≤5000→n < sizeLine:=fun n hn=>Nat.lt_of_le_of_lt hn (by decide)
  refine ⟨_,rfl,a,_,rfl,.inl hS,_,_,rfl,rfl,_,rfl,?_⟩
  refine ifD (fun hlt=>?_) (fun hlt=>?_)
  ·have hlt':((zAt xs).length:Int) < 2:=hlt
   rw [zBi] at hlt'
   refine ⟨_,rfl,a,_,rfl,.inl hS,fun l hl'=>?_⟩
   refine q l _ (zAd hl' _) hl' ?_
   rw [zAb]
   have e:zFp n xs = xs:=by
    cases n with
    | zero=>rfl
    | succ m=>exact if_pos (by omega)
   rw [e]
  ·have hlt':¬ ((zAt xs).length:Int) < 2:=hlt
   rw [zBi] at hlt'
   cases n with
   | zero=>exact absurd hl (by show ¬ xs.length≤1; omega)
   | succ m =>
    refine ⟨_,rfl,a,_,rfl,.inl hS,_,_,rfl,rfl,zDv.of (by decide) (by decide +kernel),?_⟩
    have emid:((zAt xs).length:Int) / 2 = ((xs.length / 2:Nat):Int):=by rw [zBi]; rfl
    have e1:cutV (zAt xs) none (some (((zAt xs).length:Int) / 2)) = zAt (xs.take (xs.length / 2)):=by
     rw [emid]
     unfold cutV
     rw [HT.sIx_nat,zBi,show HT.sIx xs.length 0 none = 0 from rfl,List.drop_zero,show min (xs.length / 2) xs.length - 0 = xs.length / 2 by omega]
     unfold zAt
     rw [List.map_take]
    have e2:cutV (zAt xs) (some (((zAt xs).length:Int) / 2)) none = zAt (xs.drop (xs.length / 2)):=by
     rw [emid]
     unfold cutV
     rw [HT.sIx_nat,zBi,show min (xs.length / 2) xs.length = xs.length / 2 by omega,show HT.sIx xs.length xs.length none = xs.length from rfl,List.take_of_length_le (by rw [List.length_drop,zBi]; omega)]
     unfold zAt
     rw [List.map_drop]
    have p2:2 ^ (m + 1) = 2 * 2 ^ m:=by rw [Nat.pow_succ,Nat.mul_comm]
    refine ⟨_,rfl,_,rfl,_,rfl,a,_,rfl,hS,fun c1 hc1=>?_⟩
    have sc1:=zAd hc1 (.lst (cutV (zAt xs) none (some (((zAt xs).length:Int) / 2))))
    refine ⟨c1,xs.take (xs.length / 2),rfl,SqL.of (by rw [zAb,e1]),fun t ht=>(ok t (List.mem_of_mem_take ht)).same sc1,by rw [List.length_take]; omega,by rw [List.length_take]; omega,fun r1 H1 s1 hr1 er1=>?_⟩
    have sA:=sc1.trans s1
    refine ⟨_,rfl,_,rfl,_,rfl,a,_,rfl,sA.seq hS,fun c2 hc2=>?_⟩
    have sc2:=zAd hc2 (.lst (cutV (zAt xs) (some (((zAt xs).length:Int) / 2)) none))
    refine ⟨c2,xs.drop (xs.length / 2),rfl,SqL.of (by rw [zAb,e2]),fun t ht=>(ok t (List.mem_of_mem_drop ht)).same (sA.trans sc2),by rw [List.length_drop]; omega,by rw [List.length_drop]; omega,fun r2 H2 s2 hr2 er2=>?_⟩
    have sB:=sA.trans (sc2.trans s2)
    have P1:=zCk m (xs.take (xs.length / 2))
    have P2:=zCk m (xs.drop (xs.length / 2))
    refine ⟨r1,r2,zFp m (xs.take (xs.length / 2)),zFp m (xs.drop (xs.length / 2)),rfl,s2 _ _ (sc2 _ _ er1),er2,fun t ht=>(ok t (List.mem_of_mem_take (P1.mem_iff.mp ht))).same sB,fun t ht=>(ok t (List.mem_of_mem_drop (P2.mem_iff.mp ht))).same sB,by rw [P1.length_eq,P2.length_eq,List.length_take,List.length_drop]; omega,fun p H3 s3 hp e3=>?_⟩
    refine q p H3 (sB.trans s3) (sB.free hp) ?_
    rw [e3]
    have e:zFp (m + 1) xs = zBh (zFp m (xs.take (xs.length / 2))) (zFp m (xs.drop (xs.length / 2))):=if_neg (by omega)
    rw [e]
theorem zKf (F:Fun K "in_order" "in_order" zCq f fd) (Z:Zs mg) (h_p_merged:Has P w K mg base "merged" 2 ["ones", "others"] (zFv K)) (bS:zK4 K fd ["spots"] []) (kS:PySem.W.keepIn K (.ref f) = true) (mS:mg "in_order" = some (.ref f)):FnOk P w K mg base CX0 15 f fd ["spots"] (zF0 K):=zHi F Z h_p_merged bS kS mS 13
def spTurn (K:PySem.W.Frag):Sp:=fun vs H Q _=>∃ (a b:Addr) (us ws:List V) (x1 y1 x2 y2:Int),vs = [.ref a,.ref b]∧Sq K H a us∧Sq K H b ws∧atI us 0 = some (.int x1)∧atI us 1 = some (.int y1)∧atI ws 0 = some (.int x2)∧atI ws 1 = some (.int y2) ∧
 x1.natAbs≤10 ^ 18∧y1.natAbs≤10 ^ 18∧Q (.int (x1 * y2 - y1 * x2)) H
def zEs (K:PySem.W.Frag):Sp:=spTurn K
def zFw (K:PySem.W.Frag):Sp:=fun vs H Q _=>∃ (a b:Addr) (x1 y1 x2 y2:Int),vs = [.ref a,.ref b]∧H a = some (.tup [.int x1,.int y1])∧H b = some (.tup [.int x2,.int y2])∧x1.natAbs≤10 ^ 201∧y1.natAbs≤10 ^ 201∧x2.natAbs≤10 ^ 201∧y2.natAbs≤10 ^ 201∧Q (.int (x1 * y2 - y1 * x2)) H
theorem big401 {n:Nat} (h:n≤10 ^ 201):n≤10 ^ 401:=Nat.le_trans h (by decide +kernel)
theorem cBB {i j:Int} (hi:i.natAbs≤10 ^ 201) (hj:j.natAbs≤10 ^ 201):zHj i j:=⟨Nat.lt_of_le_of_lt hi (by decide +kernel),Nat.lt_of_le_of_lt hj (by decide +kernel)⟩
theorem zRs (F:Fun K "turn" "turn" zGh f fd) (Z:Zs mg)  : FnOk P w K mg base CX0 1 f fd ["one", "other"] (zEs K):=by
 refine F.ok zLc (fun vs H Q E h=>?_) (fun cdv A outer s H vs Q E hr h=>?_)
 ·obtain ⟨a,b,us,ws,x1,y1,x2,y2,rfl,_⟩:=h
  rfl
 obtain ⟨a,b,us,ws,x1,y1,x2,y2,rfl,ha,hb,u0,u1,w0,w1,m1,m2,q⟩:=h
 refine ⟨_,(zAi (zAr (zAm zBp (zAm zA6 (zAq zAk (pv 0) zAc (fun _ _=>rfl)) (zAq zAk (pv 1) zAc (fun _ _=>rfl))) (zAm zA6 (zAq zAk (pv 0) zAc (fun _ _=>rfl)) (zAq zAk (pv 1) zAc (fun _ _=>rfl)))))),?_⟩
 exact ⟨_,rfl,a,_,_,.int x1,rfl,rfl,ha,u0,_,rfl,b,_,_,.int y2,rfl,rfl,hb,w1,_,_,rfl,rfl,cm_l (by omega),
  _,rfl,a,_,_,.int y1,rfl,rfl,ha,u1,_,rfl,b,_,_,.int x2,rfl,rfl,hb,w0,_,_,rfl,rfl,cm_l (by omega),_,_,rfl,rfl,q⟩
theorem zNe (F:Fun K "turn" "turn" zGh f fd) (Z:Zs mg)  : FnOk P w K mg base CX0 1 f fd ["one", "other"] (zFw K):=by
 refine F.ok zLc (fun vs H Q E h=>?_) (fun cdv A outer s H vs Q E hr h=>?_)
 ·obtain ⟨a,b,x1,y1,x2,y2,rfl,_⟩:=h
  rfl
 obtain ⟨a,b,x1,y1,x2,y2,rfl,ha,hb,m1,m2,m3,m4,q⟩:=h
 have fa':Sq K H a [.int x1,.int y1]:=.inr (SqT.of ha)
 have fb:Sq K H b [.int x2,.int y2]:=.inr (SqT.of hb)
 refine ⟨_,(zAi (zAr (zAm zBp (zAm zBj (zAq zAk (pv 0) zAc (fun _ _=>rfl)) (zAq zAk (pv 1) zAc (fun _ _=>rfl))) (zAm zBj (zAq zAk (pv 0) zAc (fun _ _=>rfl)) (zAq zAk (pv 1) zAc (fun _ _=>rfl)))))),?_⟩
 exact ⟨_,rfl,a,_,_,.int x1,rfl,rfl,fa',rfl,_,rfl,b,_,_,.int y2,rfl,rfl,fb,rfl,_,_,rfl,rfl,cBB m1 m4,
  _,rfl,a,_,_,.int y1,rfl,rfl,fa',rfl,_,rfl,b,_,_,.int x2,rfl,rfl,fb,rfl,_,_,rfl,rfl,cBB m2 m3,_,_,rfl,rfl,q⟩
def zG0 (K:PySem.W.Frag):Sp:=fun vs H Q _=>∃ (a b:Addr) (us ws:List V) (x1 y1 x2 y2:Int),vs = [.ref a,.ref b]∧Sq K H a us∧Sq K H b ws∧atI us 0 = some (.int x1)∧atI us 1 = some (.int y1)∧atI ws 0 = some (.int x2)∧atI ws 1 = some (.int y2) ∧
 x1.natAbs≤10 ^ 18∧y1.natAbs≤10 ^ 18∧Q (.int (x1 * x2 + y1 * y2)) H
theorem zPi (F:Fun K "along" "along" zGq f fd) (Z:Zs mg)  : FnOk P w K mg base CX0 1 f fd ["one", "other"] (zG0 K):=by
 refine F.ok zPj (fun vs H Q E h=>?_) (fun cdv A outer s H vs Q E hr h=>?_)
 ·obtain ⟨a,b,us,ws,x1,y1,x2,y2,rfl,_⟩:=h
  rfl
 obtain ⟨a,b,us,ws,x1,y1,x2,y2,rfl,ha,hb,u0,u1,w0,w1,m1,m2,q⟩:=h
 refine ⟨_,(zAi (zAr (zAm zBr (zAm zA6 (zAq zAk (pv 0) zAc (fun _ _=>rfl)) (zAq zAk (pv 1) zAc (fun _ _=>rfl))) (zAm zA6 (zAq zAk (pv 0) zAc (fun _ _=>rfl)) (zAq zAk (pv 1) zAc (fun _ _=>rfl)))))),?_⟩
 exact ⟨_,rfl,a,_,_,.int x1,rfl,rfl,ha,u0,_,rfl,b,_,_,.int x2,rfl,rfl,hb,w0,_,_,rfl,rfl,cm_l (by omega),
  _,rfl,a,_,_,.int y1,rfl,rfl,ha,u1,_,rfl,b,_,_,.int y2,rfl,rfl,hb,w1,_,_,rfl,rfl,cm_l (by omega),_,_,rfl,rfl,q⟩
def zJ3 (K:PySem.W.Frag):Sp:=zC7 K
theorem zO7 (F:Fun K "plain" "plain" zF5 f fd) (Z:Zs mg) (h_p_lowest:Has P w K mg base "lowest" 2 ["numbers"] (zC7 K)):FnOk P w K mg base CX0 3 f fd ["direction"] (zJ3 K):=by
 refine F.ok zO3 (fun vs H Q E h=>?_) (fun cdv A outer s H vs Q E hr h=>?_)
 ·obtain ⟨a,ns,rfl,_⟩:=h
  rfl
 obtain ⟨a,ns,rfl,h⟩:=h
 exact ⟨_,(zAi (zAr (zAh h_p_lowest (hr.mono (by decide)) rfl (zAa (pv 0) zAe)))),⟨_,rfl,a,ns,rfl,h⟩⟩
def zTm (K:PySem.W.Frag) (R:Int→Int→Int→Int→Int→Int→Hp→VK→Prop):Sp:=fun vs H Q _=>∃ (a b:Addr) (A B C x y z:Int),vs = [.ref a,.ref b]∧Sq K H a [.int A,.int B,.int C]∧Sq K H b [.int x,.int y,.int z]∧A.natAbs≤10 ^ 18∧B.natAbs≤10 ^ 18∧C.natAbs≤10 ^ 18∧R A B C x y z H Q
def zIy (K:PySem.W.Frag):Sp:=zTm K fun A B C x y z H Q=>Q (.int (A * x + B * y - C * z)) H
theorem zM2 (F:Fun K "beyond" "beyond" zFj f fd) (Z:Zs mg)  : FnOk P w K mg base CX0 1 f fd ["side", "spot"] (zIy K):=by
 refine F.ok zMz (fun vs H Q E h=>?_) (fun cdv A outer s H vs Q E hr h=>?_)
 ·obtain ⟨a,b,A,B,C,x,y,z,rfl,_⟩:=h
  rfl
 obtain ⟨a,b,A',B,C,x,y,z,rfl,ha,hb,m1,m2,m3,q⟩:=h
 refine ⟨_,(zAi (zAr (zAm zBp (zAm zBr (zAm zA6 (zAq zAk (pv 0) zAc (fun _ _=>rfl)) (zAq zAk (pv 1) zAc (fun _ _=>rfl))) (zAm zA6 (zAq zAk (pv 0) zAc (fun _ _=>rfl)) (zAq zAk (pv 1) zAc (fun _ _=>rfl)))) (zAm zA6 (zAq zAk (pv 0) zAc (fun _ _=>rfl)) (zAq zAk (pv 1) zAc (fun _ _=>rfl)))))),?_⟩
 exact ⟨_,rfl,a,_,_,.int A',rfl,rfl,ha,rfl,_,rfl,b,_,_,.int x,rfl,rfl,hb,rfl,_,_,rfl,rfl,cm_l (by omega),_,rfl,a,_,_,.int B,rfl,rfl,ha,rfl,_,rfl,b,_,_,.int y,rfl,rfl,hb,rfl,_,_,rfl,rfl,cm_l (by omega),_,_,rfl,rfl,_,rfl,a,_,_,.int C,rfl,rfl,ha,rfl,_,rfl,b,_,_,.int z,rfl,rfl,hb,rfl,_,_,rfl,rfl,cm_l (by omega),_,_,rfl,rfl,q⟩
def zFm (K:PySem.W.Frag):Sp:=zTm K fun A B C x y z H Q=>Q (.bl (decide (A * x + B * y - C * z≤0))) H
theorem zO8 (F:Fun K "holds" "holds" zFz f fd) (Z:Zs mg) (h_p_beyond:Has P w K mg base "beyond" 1 ["side", "spot"] (zIy K)):FnOk P w K mg base CX0 2 f fd ["side", "spot"] (zFm K):=by
 refine F.ok zO4 (fun vs H Q E h=>?_) (fun cdv A outer s H vs Q E hr h=>?_)
 ·obtain ⟨a,b,A,B,C,x,y,z,rfl,_⟩:=h
  rfl
 obtain ⟨a,b,A',B,C,x,y,z,rfl,ha,hb,m1,m2,m3,q⟩:=h
 refine ⟨_,(zAi (zAr (zEa op_le (zAh h_p_beyond (hr.mono (by decide)) rfl (zAa (pv 0) (zAa (pv 1) zAe))) zAc (zAw _)))),?_⟩
 exact ⟨_,rfl,_,rfl,a,b,A',B,C,x,y,z,rfl,ha,hb,m1,m2,m3,_,_,rfl,rfl,q⟩
def zCt (K:PySem.W.Frag):Sp:=fun vs H Q _=>∃ (a b:Addr) (A1 B1 C1 A2 B2 C2:Int),vs = [.ref a,.ref b]∧Sq K H a [.int A1,.int B1,.int C1]∧Sq K H b [.int A2,.int B2,.int C2] ∧
 A1.natAbs≤10 ^ 18∧B1.natAbs≤10 ^ 18∧C1.natAbs≤10 ^ 18∧A2.natAbs≤10 ^ 18∧B2.natAbs≤10 ^ 18 ∧
 (A1 * B2 - B1 * A2 = 0→Q .non H)∧(A1 * B2 - B1 * A2≠0→∀ (p:Addr) (H':Hp),Same H H'→H p = none→H' p = some (.tup ((lowL (upL (C1 * B2 - B1 * C2) (A1 * C2 - C1 * A2) (A1 * B2 - B1 * A2))).map V.int))→Q (.ref p) H')
theorem zKi (F:Fun K "crossing" "crossing" zDk f fd) (Z:Zs mg) (h_p_upright:Has P w K mg base "upright" 3 ["numbers"] (zDg K)) (h_p_turn:Has P w K mg base "turn" 1 ["one", "other"] (zEs K)):FnOk P w K mg base CX0 4 f fd ["one", "other"] (zCt K):=by
 refine F.ok zC0 (fun vs H Q E h=>?_) (fun cdv A outer s H vs Q E hr h=>?_)
 ·obtain ⟨a,b,A1,B1,C1,A2,B2,C2,rfl,_⟩:=h
  rfl
 obtain ⟨a,b,A1,B1,C1,A2,B2,C2,rfl,ha,hb,m1,m2,m3,m4,m5,q0,q⟩:=h
 refine ⟨_,(zAg (zAu (i:=2) zC0.nd rfl (Or.inl rfl) (zAh h_p_turn (hr.mono (by decide)) rfl (zAa (pv 0) (zAa (pv 1) zAe))))
   (zAg (zBs (zAv zFo (pv 2) zAc (zAw _)) (zAi (zAr zDj)) zA2)
   (zAg (zAu (i:=3) zC0.nd rfl (Or.inl rfl) (zAm zBp (zAm zA6 (zAq zAk (pv 0) zAc (fun _ _=>rfl)) (zAq zAk (pv 1) zAc (fun _ _=>rfl))) (zAm zA6 (zAq zAk (pv 0) zAc (fun _ _=>rfl)) (zAq zAk (pv 1) zAc (fun _ _=>rfl)))))
   (zAg (zAu (i:=4) zC0.nd rfl (Or.inl rfl) (zAm zBp (zAm zA6 (zAq zAk (pv 0) zAc (fun _ _=>rfl)) (zAq zAk (pv 1) zAc (fun _ _=>rfl))) (zAm zA6 (zAq zAk (pv 0) zAc (fun _ _=>rfl)) (zAq zAk (pv 1) zAc (fun _ _=>rfl)))))
   (zAi (zAr (zAh h_p_upright (hr.mono (by decide)) rfl (zAa (zB0 (zAa (pv 3) (zAa (pv 4) (zAa (pv 2) zAe)))) zAe)))))))),?_⟩
 refine ⟨_,rfl,_,rfl,a,b,_,_,A1,B1,A2,B2,rfl,ha,hb,rfl,rfl,rfl,rfl,m1,m2,?_⟩
 refine ⟨_,rfl,rfl,_,rfl,?_⟩
 refine ifE (fun hw=>q0 hw) (fun hw=>?_)
 have z1:=zAf A1 B2 m1 m5
 have z2:=zAf B1 A2 m2 m4
 have z0:(10:Nat) ^ 18 * 10 ^ 18 = 10 ^ 36:=by decide
 have z3:(10:Nat) ^ 36 + 10 ^ 36≤10 ^ 40:=by decide
 refine ⟨_,rfl,a,_,_,.int C1,rfl,rfl,ha,rfl,_,rfl,b,_,_,.int B2,rfl,rfl,hb,rfl,_,_,rfl,rfl,cm_l (by omega),_,rfl,a,_,_,.int B1,rfl,rfl,ha,rfl,_,rfl,b,_,_,.int C2,rfl,rfl,hb,rfl,_,_,rfl,rfl,cm_l (by omega),_,_,rfl,rfl,?_⟩
 refine ⟨_,rfl,a,_,_,.int A1,rfl,rfl,ha,rfl,_,rfl,b,_,_,.int C2,rfl,rfl,hb,rfl,_,_,rfl,rfl,cm_l (by omega),_,rfl,a,_,_,.int C1,rfl,rfl,ha,rfl,_,rfl,b,_,_,.int A2,rfl,rfl,hb,rfl,_,_,rfl,rfl,cm_l (by omega),_,_,rfl,rfl,?_⟩
 refine ⟨_,rfl,_,rfl,_,rfl,(by show 3≤sizeLine; decide),fun p hp=>⟨p,[C1 * B2 - B1 * C2,A1 * C2 - C1 * A2,A1 * B2 - B1 * A2],A1 * B2 - B1 * A2,rfl,.inr (SqT.of zAb),by show 3≤1000; decide,rfl,by simp,hw,big_ok (by omega),fun r H2 s2 hr2 e2=>?_⟩⟩
 exact q hw r H2 ((zAd hp _).trans s2) ((zAd hp _).free hr2) e2
def zIw (K:PySem.W.Frag):Sp:=fun vs H Q _=>∃ (a:Addr) (A B C x y:Int),vs = [.ref a,.int x,.int y]∧Sq K H a [.int A,.int B,.int C]∧A.natAbs≤10 ^ 18∧B.natAbs≤10 ^ 18 ∧
 ∀ (p:Addr) (H':Hp),Same H H'→H p = none→H' p = some (.tup [.int A,.int B,.int (C + A * x + B * y)])→Q (.ref p) H'
theorem zMr (F:Fun K "pushed" "pushed" zFe f fd) (Z:Zs mg)  : FnOk P w K mg base CX0 1 f fd ["side", "x", "y"] (zIw K):=by
 refine F.ok zMn (fun vs H Q E h=>?_) (fun cdv A outer s H vs Q E hr h=>?_)
 ·obtain ⟨a,A,B,C,x,y,rfl,_⟩:=h
  rfl
 obtain ⟨a,A',B,C,x,y,rfl,ha,m1,m2,q⟩:=h
 refine ⟨_,(zAi (zAr (zB0 (zAa (zAq zAk (pv 0) zAc (fun _ _=>rfl)) (zAa (zAq zAk (pv 0) zAc (fun _ _=>rfl)) (zAa (zAm zBr (zAm zBr (zAq zAk (pv 0) zAc (fun _ _=>rfl)) (zAm zA6 (zAq zAk (pv 0) zAc (fun _ _=>rfl)) (pv 1))) (zAm zA6 (zAq zAk (pv 0) zAc (fun _ _=>rfl)) (pv 2))) zAe)))))),?_⟩
 refine ⟨_,rfl,a,_,_,.int A',rfl,rfl,ha,rfl,_,rfl,a,_,_,.int B,rfl,rfl,ha,rfl,_,rfl,a,_,_,.int C,rfl,rfl,ha,rfl,_,rfl,a,_,_,.int A',rfl,rfl,ha,rfl,_,rfl,_,_,rfl,rfl,.inl ⟨by omega,by omega⟩,_,_,rfl,rfl,
  _,rfl,a,_,_,.int B,rfl,rfl,ha,rfl,_,rfl,_,_,rfl,rfl,.inl ⟨by omega,by omega⟩,_,_,rfl,rfl,(by show 3≤sizeLine; decide),fun p hp=>?_⟩
 exact q p _ (zAd hp _) hp zAb
def inWB (ss:List Sd) (p:P3):Bool:=ss.all fun t=>decide (sv t.2 p≤0)
theorem zEf {ss:List Sd} {p:P3} : inWB ss p = true↔inW ss p:=by
 unfold inWB inW
 rw [List.all_eq_true]
 exact ⟨fun h t ht=>of_decide_eq_true (h t ht),fun h t ht=>decide_eq_true (h t ht)⟩
def zCu (K:PySem.W.Frag):Sp:=fun vs H Q _=>∃ (l p:Addr) (ss:List Sd) (P:P3),vs = [.ref l,.ref p]∧SqL K H l (zAn ss)∧SdOk H ss∧Sq K H p [.int P.1,.int P.2.1,.int P.2.2]∧Q (.bl (inWB ss P)) H
theorem zKz (F:Fun K "in_water" "in_water" zDf f fd) (Z:Zs mg) (h_p_holds:Has P w K mg base "holds" 2 ["side", "spot"] (zFm K)):FnOk P w K mg base CX0 3 f fd ["sides", "place"] (zCu K):=by
 refine F.ok zGj (fun vs H Q E h=>?_) (fun cdv A outer s H vs Q E hr h=>?_)
 ·obtain ⟨l,p,ss,P,rfl,_⟩:=h
  rfl
 obtain ⟨l,p,ss,P,rfl,hl,ok,hp,q⟩:=h
 refine ⟨_,(zAg (zCh PassesOwn.never rfl (zBk (pv 0)) (zAp (i:=2) zGj.nd rfl (Or.inl rfl)) (zAi (zBs (zHg (zEt (zAh h_p_holds (hr.mono (by decide)) rfl (zAa (pv 2) (zAa (pv 1) zAe))))) (zAi (zAr zG2)) zA2)))
   (zAi (zAr zG2))),?_⟩
 refine ⟨_,rfl,l,rfl,.inl ⟨⟨_,hl⟩,zBq (K:=K) (a:=l) (xs:=zAn ss) (fun i σ H'=>H = H'∧(∀ j t,j < i→ss[j]? = some t→sv t.2 P≤0)∧∃ u2:Option V,σ = [some (.ref l),some (.ref p),u2])
  ⟨rfl,fun j t hj=>absurd hj (Nat.not_lt_zero _),none,rfl⟩ (fun i σ H' _ ⟨e,_⟩=>by rw [← e]; exact hl) ?_ ?_⟩⟩
 ·rintro i v σ H' hi ⟨rfl,hall,u2,rfl⟩
  obtain ⟨t,gt,rfl,hil⟩:=zBf hi
  obtain ⟨et,_,b1,b2,b3⟩:=ok t (List.mem_of_getElem? gt)
  refine ⟨_,rfl,_,rfl,t.1,p,t.2.1,t.2.2.1,t.2.2.2,P.1,P.2.1,P.2.2,rfl,.inr (SqT.of et),hp,by omega,by omega,by omega,_,rfl,?_⟩
  refine ifN (fun hpos=>?_) (fun hneg=>?_)
  ·have e:inWB ss P = false:=by
    unfold inWB
    rw [Bool.eq_false_iff]
    intro z
    exact hpos (of_decide_eq_true (List.all_eq_true.mp z t (List.mem_of_getElem? gt)))
   rw [e] at q
   exact q
  ·refine ⟨rfl,fun j t' hj ht'=>?_,_,rfl⟩
   by_cases e:j = i
   ·rw [e,gt] at ht'
    cases ht'
    exact hneg
   ·exact hall j t' (by omega) ht'
 ·rintro σ H' ⟨rfl,hall,u2,rfl⟩
  have e:inWB ss P = true:=zEf.mpr fun t ht=>by
   obtain ⟨j,hj,ej⟩:=List.getElem_of_mem ht
   exact hall j t (by rw [zAj]; exact hj) (by rw [List.getElem?_eq_getElem hj,ej])
  rw [e] at q
  exact q
def zH5 (K:PySem.W.Frag):Sp:=fun vs H Q _=>∃ (a:Addr) (t:P3),vs = [.ref a]∧Sq K H a [.int t.1,.int t.2.1,.int t.2.2]∧(t.1≠0∨t.2.1≠0)∧t.1.natAbs≤10 ^ 9∧t.2.1.natAbs≤10 ^ 9 ∧
 ∀ (p:Addr) (H':Hp),Same H H'→H p = none→H' p = some (.tup ((ftL t).map V.int))→Q (.ref p) H'
theorem zQ8 (F:Fun K "foot" "foot" zHx f fd) (Z:Zs mg) (h_p_spot:Has P w K mg base "spot" 4 ["x", "y", "w"] (zGm K)) (h_p_along:Has P w K mg base "along" 1 ["one", "other"] (zG0 K)):FnOk P w K mg base CX0 5 f fd ["side"] (zH5 K):=by
 refine F.ok zRi (fun vs H Q E h=>?_) (fun cdv A outer s H vs Q E hr h=>?_)
 ·obtain ⟨a,t,rfl,_⟩:=h
  rfl
 obtain ⟨a,t,rfl,ha,hn,b1,b2,q⟩:=h
 refine ⟨_,(zAi (zAr (zAh h_p_spot (hr.mono (by decide)) rfl (zAa (zAm zA6 (zAq zAk (pv 0) zAc (fun _ _=>rfl)) (zAq zAk (pv 0) zAc (fun _ _=>rfl))) (zAa (zAm zA6 (zAq zAk (pv 0) zAc (fun _ _=>rfl)) (zAq zAk (pv 0) zAc (fun _ _=>rfl))) (zAa (zAh h_p_along (hr.mono (by decide)) rfl (zAa (pv 0) (zAa (pv 0) zAe))) zAe)))))),?_⟩
 have pos:=zGf hn
 have z1:=zAf t.1 t.1 b1 b1
 have z2:=zAf t.2.1 t.2.1 b2 b2
 refine ⟨_,rfl,a,_,_,.int t.1,rfl,rfl,ha,rfl,_,rfl,a,_,_,.int t.2.2,rfl,rfl,ha,rfl,_,_,rfl,rfl,cm_l (by omega),
  _,rfl,a,_,_,.int t.2.1,rfl,rfl,ha,rfl,_,rfl,a,_,_,.int t.2.2,rfl,rfl,ha,rfl,_,_,rfl,rfl,cm_l (by omega),
  _,rfl,_,rfl,a,a,_,_,t.1,t.2.1,t.1,t.2.1,rfl,ha,ha,rfl,rfl,rfl,rfl,by omega,by omega,
  t.1 * t.2.2,t.2.1 * t.2.2,t.1 * t.1 + t.2.1 * t.2.1,rfl,by omega,Nat.lt_of_le_of_lt (show (t.1 * t.1 + t.2.1 * t.2.1).natAbs≤10 ^ 40 by omega) (by decide +kernel),fun p H' s' hp ep=>q p H' s' hp ep⟩
def optV:Option Nat→V
 | none=>.non
 | some j=>.int j
theorem zHw {ss:List Sd} {i:Nat} {t u:Sd} (gt:ss[i]? = some t) (hu:u∈ss.take (i + 1)):u∈ss.take i∨u = t:=by
 rw [zA8 gt] at hu
 rcases List.mem_append.mp hu with h | h
 ·exact .inl h
 ·exact .inr (List.mem_singleton.mp h)
theorem zOd {ss:List Sd} {i j:Nat} {t:Sd} (h:(ss.take i)[j]? = some t):(ss.take (i + 1))[j]? = some t:=by
 rw [List.getElem?_take] at h ⊢
 split at h
 ·rw [if_pos (by omega)]
  exact h
 ·cases h
def zLy (ss:List Sd) (e:P3) (h:Int) (H:Hp) (x y:V):Prop:=(x = .non∧y = .non∧zKt ss e h none)∨∃ (j:Nat) (t:Sd) (p:Addr),x = .int j∧y = .ref p∧H p = some (.tup ((crL e t.2).map V.int))∧ss[j]? = some t∧0 < tn e t.2 * h∧∀ u∈ss,0 < tn e u.2 * h→sv u.2 (pt3 (crL e t.2))≤0
theorem zLy.skip {ss:List Sd} {e:P3} {h:Int} {H:Hp} {x y:V} {i:Nat} {t:Sd} (S:zLy (ss.take i) e h H x y) (gt:ss[i]? = some t) (hn:¬ 0 < tn e t.2 * h):zLy (ss.take (i + 1)) e h H x y:=by
 rcases S with ⟨e1,e2,S⟩ | ⟨j,u,p,e1,e2,ep,gu,hu,ha⟩
 ·refine .inl ⟨e1,e2,fun v hv=>?_⟩
  rcases zHw gt hv with hv | rfl
  ·exact S v hv
  ·omega
 ·refine .inr ⟨j,u,p,e1,e2,ep,zOd gu,hu,fun v hv hp=>?_⟩
  rcases zHw gt hv with hv | rfl
  ·exact ha v hv hp
  ·exact absurd hp hn
theorem zLy.keep {ss:List Sd} {e:P3} {h:Int} {H H':Hp} {x y:V} (S:zLy ss e h H x y) (s:Same H H'):zLy ss e h H' x y:=by
 rcases S with S | ⟨j,u,p,e1,e2,ep,r⟩
 ·exact .inl S
 ·exact .inr ⟨j,u,p,e1,e2,s _ _ ep,r⟩
def zGt (K:PySem.W.Frag):Sp:=fun vs H Q _=>∃ (l a:Addr) (ss:List Sd) (e:P3) (h:Int),vs = [.ref l,.ref a,.int h]∧SqL K H l (zAn ss)∧SdOk H ss∧ss.length≤1000∧Sq K H a [.int e.1,.int e.2.1,.int e.2.2]∧(e.1≠0∨e.2.1≠0)∧e.1.natAbs≤10 ^ 9∧e.2.1.natAbs≤10 ^ 9∧e.2.2.natAbs≤10 ^ 13∧(h = 1∨h = -1) ∧
 ∀ (r:Option Nat) (H':Hp),Same H H'→zKt ss e h r→Q (optV r) H'
theorem zKg (F:Fun K "edge_end" "edge_end" zDo f fd) (Z:Zs mg) (h_p_turn:Has P w K mg base "turn" 1 ["one", "other"] (zEs K)) (h_p_holds:Has P w K mg base "holds" 2 ["side", "spot"] (zFm K)) (h_p_crossing:Has P w K mg base "crossing" 4 ["one", "other"] (zCt K)):FnOk P w K mg base CX0 5 f fd ["sides", "edge", "hand"] (zGt K):=by
 refine F.ok zBm (fun vs H Q E h=>?_) (fun cdv A outer s H vs Q E hr h=>?_)
 ·obtain ⟨l,a,ss,e,h,rfl,_⟩:=h
  rfl
 obtain ⟨l,a,ss,e,hd,rfl,hl,ok,hlen,ha,hn,b1,b2,b3,h1,q⟩:=h
 have hh:hd * hd = 1:=by rcases h1 with rfl | rfl <;> rfl
 have hN:=zGf hn
 refine ⟨_,(zAg (zAu (i:=3) zBm.nd rfl (Or.inl rfl) zDj)
   (zAg (zAu (i:=4) zBm.nd rfl (Or.inl rfl) zDj)
   (zAg (zCh PassesOwn.never rfl (zEx rfl Z.range (zAa (zAx zAz rfl Z.len zCs (zAa (pv 0) zAe)) zAe)) (zAp (i:=5) zBm.nd rfl (Or.inl rfl)) (zAg (zAu (i:=6) zBm.nd rfl (Or.inl rfl) (zAq zAk (pv 0) (pv 5) (fun _ _=>rfl)))
   (zAi (zBs (PW.pt (zLa (zAv zM0 (zAm zA6 (zAh h_p_turn (hr.mono (by decide)) rfl (zAa (pv 1) (zAa (pv 6) zAe))) (pv 2)) zAc (zAw _)) (zIz (PW.pt (zR5 (zAv zOi (pv 4) zDj (zAw _)) (zQb (zHg (zEt (zAh h_p_holds (hr.mono (by decide)) rfl (zAa (pv 6) (zAa (pv 4) zAe))))))))))) (zAg (zAu (i:=3) zBm.nd rfl (Or.inl rfl) (pv 5))
   (zAi (zAu (i:=4) zBm.nd rfl (Or.inl rfl) (zAh h_p_crossing (hr.mono (by decide)) rfl (zAa (pv 1) (zAa (pv 6) zAe)))))) zA2))))
   (zAi (zAr (pv 3)))))),?_⟩
 refine ⟨_,rfl,l,_,rfl,.inl hl,_,rfl,(by rw [zAj]; omega),(by rw [zAj]; omega),zGg (lo:=0) (n:=(((zAn ss).length:Nat):Int).toNat) (fun i σ H'=>Same H H'∧∃ (x y:V) (u5 u6:Option V),zLy (ss.take i) e hd H' x y∧σ = [some (.ref l),some (.ref a),some (.int hd),some x,some y,u5,u6])
  ⟨Same.refl _,.non,.non,none,none,.inl ⟨rfl,rfl,fun t ht=>nomatch ht⟩,rfl⟩ ?_ ?_⟩
 ·rintro i σ H' hi ⟨sH,x,y,u5,u6,S,rfl⟩
  have hil:i < ss.length:=by rw [Int.toNat_natCast,zAj] at hi; exact hi
  obtain ⟨t,mt,gt,at'⟩:=zE7 (ss:=ss) (i:=i) (k:=0 + (i:Int)) (by omega) hil
  obtain ⟨et0,nt,c1,c2,c3⟩:=ok t mt
  have et:Sq K H' t.1 [.int t.2.1,.int t.2.2.1,.int t.2.2.2]:=.inr (SqT.of (sH _ _ et0))
  have hae:=ha.same sH
  have z1:=zAf e.1 t.2.2.1 b1 c2
  have z2:=zAf e.2.1 t.2.1 b2 c1
  refine ⟨_,rfl,_,rfl,l,_,_,_,rfl,rfl,.inl (sH.seq hl),at',?_⟩
  refine ⟨_,rfl,_,rfl,a,t.1,_,_,e.1,e.2.1,t.2.1,t.2.2.1,rfl,hae,et,rfl,rfl,rfl,rfl,by omega,by omega,_,rfl,_,_,rfl,rfl,.inl ⟨by omega,by omega⟩,_,_,rfl,rfl,_,rfl,?_⟩
  refine ifD (fun hpos=>?_) (fun hneg=>?_)
  ·have hpos':0 < tn e t.2 * hd:=hpos
   have put:∀ (H2:Hp) (p:Addr),Same H' H2→H2 p = some (.tup ((crL e t.2).map V.int))→(∀ u∈ss.take i,0 < tn e u.2 * hd→sv u.2 (pt3 (crL e t.2))≤0)→zLy (ss.take (i + 1)) e hd H2 (.int (0 + (i:Int))) (.ref p):=fun H2 p s2 ep hb=>by
    refine .inr ⟨i,t,p,by rw [Int.zero_add],rfl,ep,?_,hpos',fun u hu hp=>?_⟩
    ·rw [List.getElem?_take,if_pos (by omega)]
     exact gt
    ·rcases zHw gt hu with hu | rfl
     ·exact hb u hu hp
     ·exact Int.le_of_eq (zCj (zBa hpos')).2.2
   rcases S with ⟨rfl,rfl,S⟩ | ⟨j,u,p,rfl,rfl,ep,gu,hu,hb⟩
   ·refine ⟨_,rfl,rfl,_,rfl,?_⟩
    refine iteT ?_
    refine ⟨_,rfl,_,rfl,_,rfl,a,t.1,e.1,e.2.1,e.2.2,t.2.1,t.2.2.1,t.2.2.2,rfl,hae,et,by omega,by omega,by omega,by omega,by omega,fun z=>absurd z (zBa hpos'),fun _ p2 H2 s2 hp2 ep2=>?_⟩
    exact ⟨sH.trans s2,_,_,_,_,put H2 p2 s2 ep2 fun v hv hp=>by have:=S v hv; omega,rfl⟩
   ·obtain ⟨sp0,q1,q2⟩:=zCj (zBa hu)
    refine ⟨_,rfl,rfl,_,rfl,?_⟩
    refine iteF ?_
    have ep3:Sq K H' p [.int (pt3 (crL e u.2)).1,.int (pt3 (crL e u.2)).2.1,.int (pt3 (crL e u.2)).2.2]:=.inr (SqT.of (by rw [ep]; rw [sp0.list]; rfl))
    refine ⟨_,rfl,_,rfl,t.1,p,t.2.1,t.2.2.1,t.2.2.2,_,_,_,rfl,et,ep3,by omega,by omega,by omega,_,rfl,?_⟩
    refine ifN (fun hout=>?_) (fun hin=>?_)
    ·have hout':0 < sv t.2 (pt3 (crL e u.2)):=by
      have:¬ sv t.2 (pt3 (crL e u.2))≤0:=hout
      omega
     refine ⟨_,rfl,_,rfl,_,rfl,a,t.1,e.1,e.2.1,e.2.2,t.2.1,t.2.2.1,t.2.2.2,rfl,hae,et,by omega,by omega,by omega,by omega,by omega,fun z=>absurd z (zBa hpos'),fun _ p2 H2 s2 hp2 ep2=>?_⟩
     obtain ⟨sp1,r1,r2⟩:=zCj (zBa hpos')
     have d1:=zUx hh hN r1 q1 sp1.pos r2 hout' hpos'
     refine ⟨sH.trans s2,_,_,_,_,put H2 p2 s2 ep2 fun v hv hp=>?_,rfl⟩
     refine zM4 hh hN r1 q1 sp1.pos sp0.pos v.2 ?_ (hb v hv hp)
     have:=Int.mul_nonneg (show 0≤-(dl e (pt3 (crL e t.2)) (pt3 (crL e u.2)) * hd) by omega) (Int.le_of_lt hp)
     rw [Int.neg_mul] at this
     omega
    ·refine ⟨sH,_,_,_,_,.inr ⟨j,u,p,rfl,rfl,ep,zOd gu,hu,fun v hv hp=>?_⟩,rfl⟩
     rcases zHw gt hv with hv | rfl
     ·exact hb v hv hp
     ·exact hin
  ·refine iteF ?_
   exact ⟨sH,x,y,_,_,S.skip gt hneg,rfl⟩
 ·rintro σ H' ⟨sH,x,y,u5,u6,S,rfl⟩
  rw [Int.toNat_natCast,zAj,List.take_length] at S
  rcases S with ⟨rfl,rfl,S⟩ | ⟨j,u,p,rfl,rfl,ep,gu,hu,hb⟩
  ·exact ⟨_,rfl,q none H' sH S⟩
  ·exact ⟨_,rfl,q (some j) H' sH ⟨u,gu,hu,hb⟩⟩
structure EndsOk (ss:List Sd) (e:P3) (qs:List (Addr × P3)):Prop where
 each:∀ q∈qs,∃ (h:Int) (j:Nat) (t:Sd),h * h = 1∧ss[j]? = some t∧0 < tn e t.2 * h∧(∀ u∈ss,0 < tn e u.2 * h→sv u.2 (pt3 (crL e t.2))≤0)∧q.2 = pt3 (crL e t.2)
 none:qs = []→zKt ss e 1 none∧zKt ss e (-1) none
 full:zJd ss e 1 (qs.map (·.2))∧zJd ss e (-1) (qs.map (·.2))
def zDq (K:PySem.W.Frag):Sp:=fun vs H Q _=>∃ (l a:Addr) (ss:List Sd) (e:P3),vs = [.ref l,.ref a]∧SqL K H l (zAn ss)∧SdOk H ss∧ss.length≤1000∧Sq K H a [.int e.1,.int e.2.1,.int e.2.2]∧(e.1≠0∨e.2.1≠0)∧e.1.natAbs≤10 ^ 9∧e.2.1.natAbs≤10 ^ 9∧e.2.2.natAbs≤10 ^ 13 ∧
 ∀ (D:Addr) (qs:List (Addr × P3)) (H':Hp),Same H H'→H D = none→H' D = some (.lst (zB1 qs))→zIa H' qs→qs.length≤2→EndsOk ss e qs→Q (.ref D) H'
theorem zJj (F:Fun K "edge_ends" "edge_ends" zC1 f fd) (Z:Zs mg) (h_p_crossing:Has P w K mg base "crossing" 4 ["one", "other"] (zCt K)) (h_p_edge_end:Has P w K mg base "edge_end" 5 ["sides", "edge", "hand"] (zGt K)):FnOk P w K mg base CX0 6 f fd ["sides", "edge"] (zDq K):=by
 refine F.ok zFr (fun vs H Q E h=>?_) (fun cdv A outer s H vs Q E hr h=>?_)
 ·obtain ⟨l,a,ss,e,rfl,_⟩:=h
  rfl
 obtain ⟨l,a,ss,e,rfl,hl,ok,hlen,ha,hn,b1,b2,b3,q⟩:=h
 refine ⟨_,(zAg (zAu (i:=2) zFr.nd rfl (Or.inl rfl) (zEp (zAa (zAh h_p_edge_end (hr.mono (by decide)) rfl (zAa (pv 0) (zAa (pv 1) (zAa (zLd zHc zAc) zAe)))) (zAa (zAh h_p_edge_end (hr.mono (by decide)) rfl (zAa (pv 0) (zAa (pv 1) (zAa zAc zAe)))) zAe))))
   (zAi (zAr (zCl (T:=["number"]) (caps:=[("edge", 1),("sides", 0)]) ⟨rfl,by decide +kernel,by decide +kernel,rfl,⟨⟨rfl,rfl,Or.inl rfl⟩,⟨rfl,rfl,Or.inl rfl⟩,True.intro⟩⟩ rfl (zBk (pv 2)) (fun _=>(zAp (i:=0) (show (["number", "edge", "sides"]:List Str).Nodup by decide +kernel) rfl (Or.inl rfl))) (fun _=>(zKw (zAv zM3 (pv 0) zDj (zAw _)))) (fun _=>(zAh h_p_crossing (hr.mono (by decide)) rfl (zAa (pv 1) (zAa (zAq zAk (pv 2) (pv 0) (fun _ _=>rfl)) zAe)))))))),?_⟩
 refine ⟨_,rfl,_,rfl,_,rfl,l,a,ss,e,-1,rfl,hl,ok,hlen,ha,hn,b1,b2,b3,.inr rfl,fun r1 H1 s1 k1=>?_⟩
 refine ⟨_,rfl,_,rfl,l,a,ss,e,1,rfl,s1.seq hl,ok.same s1,hlen,ha.same s1,hn,b1,b2,b3,.inl rfl,fun r2 H2 s2 k2=>?_⟩
 refine ⟨(by show 2≤sizeLine; decide),fun nl hnl=>?_⟩
 have snl:Same H2 (upd H2 nl (.lst [optV r1,optV r2])):=zAd hnl _
 have enl:upd H2 nl (.lst [optV r1,optV r2]) nl = some (.lst [optV r1,optV r2]):=zAb
 generalize upd H2 nl (.lst [optV r1,optV r2]) = H3 at snl enl ⊢
 have s3:=(s1.trans s2).trans snl
 have one:∀ (i:Nat) (v:V),[optV r1,optV r2][i]? = some v→(v = .non∧((i = 0∧zKt ss e (-1) none)∨(i = 1∧zKt ss e 1 none)))∨∃ (j:Nat) (t:Sd) (h:Int),v = .int j∧((i = 0∧h = -1)∨(i = 1∧h = 1))∧h * h = 1∧ss[j]? = some t∧0 < tn e t.2 * h∧∀ u∈ss,0 < tn e u.2 * h→sv u.2 (pt3 (crL e t.2))≤0:=fun i v hv=>by
  match i,hv with
  | 0,hv =>
   cases hv
   cases r1 with
   | none=>exact .inl ⟨rfl,.inl ⟨rfl,k1⟩⟩
   | some j=>obtain ⟨t,g,p,r⟩:=k1; exact .inr ⟨j,t,-1,rfl,.inl ⟨rfl,rfl⟩,rfl,g,p,r⟩
  | 1,hv =>
   cases hv
   cases r2 with
   | none=>exact .inl ⟨rfl,.inr ⟨rfl,k2⟩⟩
   | some j=>obtain ⟨t,g,p,r⟩:=k2; exact .inr ⟨j,t,1,rfl,.inr ⟨rfl,rfl⟩,rfl,g,p,r⟩
 refine ⟨_,rfl,nl,rfl,.inl ⟨⟨_,SqL.of enl⟩,fun c D hD=>zI8 (K:=K) (a:=nl) (xs:=[optV r1,optV r2]) (fun i σ ys H'=>Same H3 H'∧H' D = some (.lst ys)∧(∃ qs:List (Addr × P3),ys = zB1 qs∧qs.length≤i∧zIa H' qs∧(∀ q∈qs,∃ (h:Int) (j:Nat) (t:Sd),h * h = 1∧ss[j]? = some t∧0 < tn e t.2 * h∧(∀ u∈ss,0 < tn e u.2 * h→sv u.2 (pt3 (crL e t.2))≤0)∧q.2 = pt3 (crL e t.2)) ∧
   ((0 < i→zJd ss e (-1) (qs.map (·.2)))∧(1 < i→zJd ss e 1 (qs.map (·.2)))))∧∃ u0:Option V,σ = [u0,some (.ref a),some (.ref l)])
  ⟨zAd hD _,zAb,⟨[],rfl,Nat.le_refl _,(fun t ht=>nomatch ht),(fun t ht=>nomatch ht),⟨fun z=>absurd z (Nat.not_lt_zero _),fun z=>absurd z (Nat.not_lt_zero _)⟩⟩,none,rfl⟩ (fun i σ ys H' _ ⟨e1,e2,_⟩=>⟨SqL.of (e1 _ _ enl),e2⟩) ?_ ?_⟩⟩
 ·rintro i v σ ys H' hi ⟨sH,eD,⟨qs,rfl,hq,okq,each,non⟩,u0,rfl⟩
  have hi2:i < 2:=(List.getElem?_eq_some_iff.mp hi).1
  rcases one i v hi with ⟨rfl,hcase⟩ | ⟨j,t,h,rfl,hih,hh,gt,hp,hb⟩
  ·refine ⟨_,rfl,rfl,_,rfl,?_⟩
   refine iteF ?_
   refine ⟨sH,eD,⟨qs,rfl,by omega,okq,each,?_⟩,_,rfl⟩
   rcases hcase with ⟨rfl,k⟩ | ⟨rfl,k⟩
   ·exact ⟨fun _=>.inl k,fun z'=>absurd z' (by decide)⟩
   ·exact ⟨fun _=>non.1 (by decide),fun _=>.inl k⟩
  ·refine ⟨_,rfl,rfl,_,rfl,?_⟩
   refine iteT ?_
   have hj:j < ss.length:=(List.getElem?_eq_some_iff.mp gt).1
   obtain ⟨t',mt,gt',at'⟩:=zE7 (ss:=ss) (i:=j) (k:=(j:Int)) rfl hj
   rw [gt] at gt'
   cases gt'
   obtain ⟨et0,_,c1,c2,c3⟩:=ok t mt
   have s3H:=s3.trans sH
   refine ⟨_,rfl,_,rfl,_,rfl,l,_,_,_,rfl,rfl,.inl (s3H.seq hl),at',a,t.1,e.1,e.2.1,e.2.2,t.2.1,t.2.2.1,t.2.2.2,rfl,ha.same s3H,.inr (SqT.of (s3H _ _ et0)),by omega,by omega,by omega,by omega,by omega,fun z=>absurd z (zBa hp),fun _ p H5 s5 hp5 ep5=>?_⟩
   obtain ⟨sp,_,_⟩:=zCj (zBa hp)
   have ep5':H5 p = some (.tup [.int (pt3 (crL e t.2)).1,.int (pt3 (crL e t.2)).2.1,.int (pt3 (crL e t.2)).2.2]):=by
    have z:H5 p = some (.tup ((crL e t.2).map V.int)):=ep5
    rw [z,sp.list]
    rfl
   have npD:p≠D:=fun z=>by rw [z,eD] at hp5; cases hp5
   refine ⟨s5 _ _ eD,zA3 (by simp only [List.length_map]; omega),(sH.trans s5).putNew hD,zAb,⟨qs ++ [(p,pt3 (crL e t.2))],by simp [zB1],by rw [List.length_append]; show qs.length + 1≤i + 1; omega,fun u hu=>?_,fun u hu=>?_,?_⟩,_,rfl⟩
   ·rcases List.mem_append.mp hu with hu | hu
    ·obtain ⟨g1,g2⟩:=okq u hu
     exact ⟨by rw [zAo (zDt (s5 _ _ g1) (s5 _ _ eD) (by intro z; cases z))]; exact s5 _ _ g1,g2⟩
    ·rw [List.mem_singleton] at hu
     subst hu
     refine ⟨?_,sp.pos,sp.low⟩
     show upd H5 D _ p = _
     rw [zAo npD]
     exact ep5'
   ·rcases List.mem_append.mp hu with hu | hu
    ·exact each u hu
    ·rw [List.mem_singleton] at hu
     subst hu
     exact ⟨h,j,t,hh,gt,hp,hb,rfl⟩
   ·have me:zJd ss e h ((qs ++ [(p,pt3 (crL e t.2))]).map (·.2)):=.inr ⟨j,t,gt,hp,hb,by rw [List.map_append]; exact List.mem_append_right _ (List.mem_singleton.mpr rfl)⟩
    rcases hih with ⟨rfl,rfl⟩ | ⟨rfl,rfl⟩
    ·exact ⟨fun _=>me,fun z'=>absurd z' (by decide)⟩
    ·exact ⟨fun _=>by rw [List.map_append]; exact (non.1 (by decide)).app,fun _=>me⟩
 ·rintro σ ys H' ⟨sH,eD,⟨qs,rfl,hq,okq,each,non⟩,u0,rfl⟩
  have f1:=non.2 (by show 1 < 2; decide)
  have f2:=non.1 (by show 0 < 2; decide)
  refine q D qs H' (s3.trans sH) (s3.free hD) eD okq hq ⟨each,fun z=>?_,f1,f2⟩
  rw [z] at f1 f2
  refine ⟨?_,?_⟩
  ·rcases f1 with f | ⟨_,_,_,_,_,m⟩
   ·exact f
   ·exact nomatch m
  ·rcases f2 with f | ⟨_,_,_,_,_,m⟩
   ·exact f
   ·exact nomatch m
def SpAt (H:Hp) (p:Addr) (P:P3):Prop:=H p = some (.tup [.int P.1,.int P.2.1,.int P.2.2])∧0 < P.2.2∧Nat.gcd (Nat.gcd P.1.natAbs P.2.1.natAbs) P.2.2.natAbs = 1
theorem SpAt.same {H H':Hp} {p:Addr} {P:P3} (h:SpAt H p P) (s:Same H H'):SpAt H' p P:=⟨s _ _ h.1,h.2⟩
def zDu (K:PySem.W.Frag):Sp:=fun vs H Q _=>∃ (l a:Addr) (ss:List Sd) (e:P3),vs = [.ref l,.ref a]∧SqL K H l (zAn ss)∧SdOk H ss∧ss.length≤900∧Sq K H a [.int e.1,.int e.2.1,.int e.2.2]∧(e.1≠0∨e.2.1≠0)∧e.1.natAbs≤10 ^ 9∧e.2.1.natAbs≤10 ^ 9∧e.2.2.natAbs≤10 ^ 13 ∧
 (∀ H',Same H H'→(∀ z:P3,sv e z = 0→0 < z.2.2→¬ inW ss z)→Q .non H') ∧
 ∀ (p:Addr) (P:P3) (H':Hp),Same H H'→SpAt H' p P→inW ss P→sv e P = 0→(P = pt3 (ftL e)∨∃ t∈ss,tn e t.2≠0∧P = pt3 (crL e t.2))→Q (.ref p) H'
theorem zG5 (F:Fun K "spot_on_edge" "spot_on_edge" zB3 f fd) (Z:Zs mg) (h_p_edge_ends:Has P w K mg base "edge_ends" 6 ["sides", "edge"] (zDq K)) (h_p_foot:Has P w K mg base "foot" 5 ["side"] (zH5 K)) (h_p_in_water:Has P w K mg base "in_water" 3 ["sides", "place"] (zCu K)):FnOk P w K mg base CX0 7 f fd ["sides", "edge"] (zDu K):=by
 refine F.ok zDw (fun vs H Q E h=>?_) (fun cdv A outer s H vs Q E hr h=>?_)
 ·obtain ⟨l,a,ss,e,rfl,_⟩:=h
  rfl
 obtain ⟨l,a,ss,e,rfl,hl,ok,hlen,ha,hn,b1,b2,b3,qn,q⟩:=h
 have hN:=zGf hn
 refine ⟨_,(zAg (zCh PassesOwn.never rfl (zBk (zAm zRz (zAh h_p_edge_ends (hr.mono (by decide)) rfl (zAa (pv 0) (zAa (pv 1) zAe))) (zEp (zAa (zAh h_p_foot (hr.mono (by decide)) rfl (zAa (pv 1) zAe)) zAe)))) (zAp (i:=2) zDw.nd rfl (Or.inl rfl)) (zAi (zBs (zEt (zAh h_p_in_water (hr.mono (by decide)) rfl (zAa (pv 0) (zAa (pv 2) zAe)))) (zAi (zAr (pv 2))) zA2)))
   (zAi (zAr zDj))),?_⟩
 refine ⟨_,rfl,_,rfl,l,a,ss,e,rfl,hl,ok,by omega,ha,hn,b1,b2,b3,fun D qs H1 s1 hD eD okq hq ends=>?_⟩
 refine ⟨_,rfl,a,e,rfl,ha.same s1,hn,b1,b2,fun fp H2 s2 hfp efp=>?_⟩
 obtain ⟨sf,f1⟩:=zSa hn
 have efp':H2 fp = some (.tup [.int (pt3 (ftL e)).1,.int (pt3 (ftL e)).2.1,.int (pt3 (ftL e)).2.2]):=by
  rw [efp,sf.list]
  rfl
 refine ⟨(by show 1≤sizeLine; decide),fun fl hfl=>?_⟩
 have sfl:Same H2 (upd H2 fl (.lst [.ref fp])):=zAd hfl _
 have efl:upd H2 fl (.lst [.ref fp]) fl = some (.lst [.ref fp]):=zAb
 generalize upd H2 fl (.lst [.ref fp]) = H3 at sfl efl ⊢
 refine ⟨D,fl,_,_,rfl,rfl,sfl _ _ (s2 _ _ eD),efl,small (by simp only [List.length_map]; show qs.length + 1≤1000; omega),fun L hL=>?_⟩
 have sL:Same H3 (upd H3 L (.lst (zB1 qs ++ [.ref fp]))):=zAd hL _
 have eL:upd H3 L (.lst (zB1 qs ++ [.ref fp])) L = some (.lst (zB1 (qs ++ [(fp,pt3 (ftL e))]))):=by rw [zAb]; simp [zB1]
 generalize upd H3 L (.lst (zB1 qs ++ [.ref fp])) = H4 at sL eL ⊢
 have s24:=sfl.trans sL
 have s14:=s2.trans s24
 have s04:=s1.trans s14
 have okA:zIa H4 (qs ++ [(fp,pt3 (ftL e))]):=fun u hu=>by
  rcases List.mem_append.mp hu with hu | hu
  ·exact okq.same s14 u hu
  ·rw [List.mem_singleton] at hu
   subst hu
   exact ⟨s24 _ _ efp',sf.pos,sf.low⟩
 refine ⟨L,rfl,.inl ⟨⟨_,SqL.of eL⟩,zBq (K:=K) (a:=L) (xs:=zB1 (qs ++ [(fp,pt3 (ftL e))])) (fun i σ H'=>H4 = H'∧(∀ j u,j < i→(qs ++ [(fp,pt3 (ftL e))])[j]? = some u→¬ inW ss u.2)∧∃ u2:Option V,σ = [some (.ref l),some (.ref a),u2])
  ⟨rfl,fun j t hj=>absurd hj (Nat.not_lt_zero _),none,rfl⟩ (fun i σ H' _ ⟨e1,_⟩=>by rw [← e1]; exact SqL.of eL) ?_ ?_⟩⟩
 ·rintro i v σ H' hi ⟨rfl,hall,u2,rfl⟩
  rw [List.getElem?_map,List.getElem?_map] at hi
  cases gu:(qs ++ [(fp,pt3 (ftL e))])[i]? with
  | none=>rw [gu] at hi; cases hi
  | some u =>
   rw [gu] at hi
   cases hi
   obtain ⟨eu,pu,lu⟩:=okA u (List.mem_of_getElem? gu)
   refine ⟨_,rfl,_,rfl,l,u.1,ss,u.2,rfl,s04.seq hl,ok.same s04,.inr (SqT.of eu),_,rfl,?_⟩
   by_cases hw:inWB ss u.2 = true
   ·rw [hw]
    refine iteT ?_
    have on:sv e u.2 = 0∧(u.2 = pt3 (ftL e)∨∃ t∈ss,tn e t.2≠0∧u.2 = pt3 (crL e t.2)):=by
     rcases List.mem_append.mp (List.mem_of_getElem? gu) with hu | hu
     ·obtain ⟨h,j,t,_,gt,hp,_,eq⟩:=ends.each u hu
      rw [eq]
      exact ⟨(zCj (zBa hp)).2.1,.inr ⟨t,List.mem_of_getElem? gt,zBa hp,rfl⟩⟩
     ·rw [List.mem_singleton] at hu
      rw [hu]
      exact ⟨f1,.inl rfl⟩
    exact ⟨_,rfl,q u.1 u.2 _ s04 ⟨eu,pu,lu⟩ (zEf.mp hw) on.1 on.2⟩
   ·have hw':inWB ss u.2 = false:=by simpa using hw
    rw [hw']
    refine iteF ?_
    refine ⟨rfl,fun j t hj ht=>?_,_,rfl⟩
    by_cases ej:j = i
    ·rw [ej,gu] at ht
     cases ht
     exact fun z=>hw (zEf.mpr z)
    ·exact hall j t (by omega) ht
 ·rintro σ H' ⟨rfl,hall,u2,rfl⟩
  refine qn _ s04 fun z hz zw wz=>?_
  have nin:∀ u∈qs ++ [(fp,pt3 (ftL e))],¬ inW ss u.2:=fun u hu=>by
   obtain ⟨j,hj,ej⟩:=List.getElem_of_mem hu
   exact hall j u (by simp only [List.length_map]; exact hj) (by rw [List.getElem?_eq_getElem hj,ej])
  cases qs with
  | nil =>
   obtain ⟨n1,n2⟩:=ends.none rfl
   exact nin (fp,pt3 (ftL e)) (by simp) (zMa hN hz zw wz f1 sf.pos n1 n2)
  | cons u us =>
   obtain ⟨h,j,t,hh,gt,hp,hb,eq⟩:=ends.each u (List.mem_cons_self ..)
   refine nin u (by simp) ?_
   rw [eq]
   exact zOb hh hN hz zw wz gt hp hb
theorem zU4 (ss:List Sd) (n:Nat):cutV (zAn ss) none (some (n:Int)) = zAn (ss.take n):=by
 unfold cutV
 rw [show HT.sIx (zAn ss).length 0 none = 0 from rfl,HT.sIx_nat (zAn ss).length (zAn ss).length n,List.drop_zero,Nat.sub_zero]
 rw [zAj]
 simp only [zAn,← List.map_take]
 congr 2
 rw [List.take_eq_take_iff]
 omega
def zIm (K:PySem.W.Frag):Sp:=fun vs H Q _=>∃ (l:Addr) (ss:List Sd),vs = [.ref l]∧SqL K H l (zAn ss)∧SdOk H ss∧ss.length≤900 ∧
 (∀ (t:Addr) (j:Nat) (e:Sd) (P:P3) (H':Hp),Same H H'→H' t = some (.tup [.non,.int j])→zUf ss j e P→Q (.ref t) H') ∧
 ∀ (t p:Addr) (P:P3) (H':Hp),Same H H'→H' t = some (.tup [.ref p,.non])→SpAt H' p P→inW ss P→Cand ss P→Q (.ref t) H'
theorem zM1 (F:Fun K "sought" "sought" zFg f fd) (Z:Zs mg) (h_p_holds:Has P w K mg base "holds" 2 ["side", "spot"] (zFm K)) (h_p_spot_on_edge:Has P w K mg base "spot_on_edge" 7 ["sides", "edge"] (zDu K)) (h_p_spot:Has P w K mg base "spot" 4 ["x", "y", "w"] (zGm K)):FnOk P w K mg base CX0 8 f fd ["sides"] (zIm K):=by
 refine F.ok zEn (fun vs H Q E h=>?_) (fun cdv A outer s H vs Q E hr h=>?_)
 ·obtain ⟨l,ss,rfl,_⟩:=h
  rfl
 obtain ⟨l,ss,rfl,hl,ok,hlen,qn,q⟩:=h
 refine ⟨_,(zAg (zAu (i:=1) zEn.nd rfl (Or.inl rfl) (zAh h_p_spot (hr.mono (by decide)) rfl (zAa zAc (zAa zAc (zAa zAc zAe)))))
   (zAg (zCh PassesOwn.never rfl (zEx rfl Z.range (zAa (zAx zAz rfl Z.len zCs (zAa (pv 0) zAe)) zAe)) (zAp (i:=2) zEn.nd rfl (Or.inl rfl)) (zAi (zBs (zHg (zEt (zAh h_p_holds (hr.mono (by decide)) rfl (zAa (zAq zAk (pv 0) (pv 2) (fun _ _=>rfl)) (zAa (pv 1) zAe))))) (zAg (zAu (i:=1) zEn.nd rfl (Or.inl rfl) (zAh h_p_spot_on_edge (hr.mono (by decide)) rfl (zAa (zCd zC8 (pv 0) zC5 (zDa (pv 2))) (zAa (zAq zAk (pv 0) (pv 2) (fun _ _=>rfl)) zAe))))
   (zAi (zBs (zAv zOi (pv 1) zDj (zAw _)) (zAi (zAr (zB0 (zAa zDj (zAa (pv 2) zAe))))) zA2))) zA2)))
   (zAi (zAr (zB0 (zAa (pv 1) (zAa zDj zAe))))))),?_⟩
 refine ⟨0,0,1,rfl,by decide,by decide +kernel,fun p0 H1 s1 hp0 ep0=>?_⟩
 have ep0':SpAt H1 p0 (0,0,1):=⟨ep0,by decide,by decide⟩
 refine ⟨_,rfl,l,_,rfl,.inl (s1.seq hl),_,rfl,(by rw [zAj]; omega),(by rw [zAj]; omega),zGg (lo:=0) (n:=(((zAn ss).length:Nat):Int).toNat) (fun i σ H'=>Same H H'∧∃ (p:Addr) (P:P3) (u2:Option V),SpAt H' p P∧inW (ss.take i) P∧Cand ss P∧σ = [some (.ref l),some (.ref p),u2])
  ⟨s1,p0,(0,0,1),none,ep0',(fun t ht=>nomatch ht),.inl rfl,rfl⟩ ?_ ?_⟩
 ·rintro i σ H' hi ⟨sH,p,P,u2,ep,wp,cp,rfl⟩
  have hil:i < ss.length:=by rw [Int.toNat_natCast,zAj] at hi; exact hi
  obtain ⟨t,mt,gt,at'⟩:=zE7 (ss:=ss) (i:=i) (k:=0 + (i:Int)) (by omega) hil
  obtain ⟨et0,nt,c1,c2,c3⟩:=ok t mt
  have et:Sq K H' t.1 [.int t.2.1,.int t.2.2.1,.int t.2.2.2]:=.inr (SqT.of (sH _ _ et0))
  refine ⟨_,rfl,_,rfl,l,_,_,_,rfl,rfl,.inl (sH.seq hl),at',_,rfl,t.1,p,t.2.1,t.2.2.1,t.2.2.2,P.1,P.2.1,P.2.2,rfl,et,.inr (SqT.of ep.1),by omega,by omega,by omega,_,rfl,?_⟩
  refine ifN (fun hout=>?_) (fun hin=>?_)
  ·have hout':0 < sv t.2 P:=by
    have:¬ sv t.2 P≤0:=hout
    omega
   refine ⟨_,rfl,_,rfl,_,rfl,l,_,rfl,sH.seq hl,fun c hc=>?_⟩
   rw [show (0:Int) + (i:Int) = ((i:Nat):Int) from Int.zero_add _,zU4]
   have sc:=zAd hc (.lst (zAn (ss.take i)))
   have ec:upd H' c (.lst (zAn (ss.take i))) c = some (.lst (zAn (ss.take i))):=zAb
   generalize upd H' c (.lst (zAn (ss.take i))) = H2 at sc ec ⊢
   have sH2:=sH.trans sc
   rw [show (0:Int) + (i:Int) = ((i:Nat):Int) from Int.zero_add _] at at'
   refine ⟨_,rfl,_,rfl,l,_,_,_,rfl,rfl,.inl (sH2.seq hl),at',c,t.1,ss.take i,t.2,rfl,SqL.of ec,(fun u hu=>ok.same sH2 u (List.mem_of_mem_take hu)),by rw [List.length_take]; omega,et.same sc,nt,c1,c2,c3,fun H3 s3 no=>?_,fun p3 P3' H3 s3 ep3 wp3 on3 cd3=>?_⟩
   ·refine ⟨_,rfl,rfl,_,rfl,?_⟩
    refine iteT ?_
    refine ⟨_,rfl,(by show 2≤sizeLine; decide),fun tt htt=>?_⟩
    exact qn tt i t P _ ((sH2.trans s3).trans (zAd htt _)) zAb ⟨gt,ep.2.1,wp,hout',no⟩
   ·refine ⟨_,rfl,rfl,_,rfl,?_⟩
    refine iteF ?_
    refine ⟨sH2.trans s3,p3,P3',_,ep3,fun u hu=>?_,?_,rfl⟩
    ·rw [zA8 gt] at hu
     rcases List.mem_append.mp hu with hu | hu
     ·exact wp3 u hu
     ·rw [List.mem_singleton] at hu
      rw [hu,on3]
      exact Int.le_refl _
    ·rcases cd3 with h | ⟨u,hu,ht,h⟩
     ·exact .inr (.inl ⟨t,mt,h⟩)
     ·exact .inr (.inr ⟨t,mt,u,List.mem_of_mem_take hu,ht,h⟩)
  ·refine ⟨sH,p,P,_,ep,fun u hu=>?_,cp,rfl⟩
   rw [zA8 gt] at hu
   rcases List.mem_append.mp hu with hu | hu
   ·exact wp u hu
   ·rw [List.mem_singleton] at hu
    rw [hu]
    exact hin
 ·rintro σ H' ⟨sH,p,P,u2,ep,wp,cp,rfl⟩
  rw [Int.toNat_natCast,zAj,List.take_length] at wp
  refine ⟨_,rfl,(by show 2≤sizeLine; decide),fun tt htt=>?_⟩
  have st:=zAd htt (.tup [.ref p,.non])
  exact q tt p P _ (sH.trans st) zAb (ep.same st) wp cp
def zFq (K:PySem.W.Frag):Sp:=fun vs H Q _=>∃ (l:Addr) (ss:List Sd),vs = [.ref l]∧SqL K H l (zAn ss)∧SdOk H ss∧ss.length≤900 ∧
 (∀ H':Hp,Same H H'→(∀ z:P3,0 < z.2.2→¬ inW ss z)→Q .non H') ∧
 ∀ (p:Addr) (P:P3) (H':Hp),Same H H'→SpAt H' p P→inW ss P→Cand ss P→Q (.ref p) H'
theorem zJc (F:Fun K "some_spot" "some_spot" zCx f fd) (Z:Zs mg) (h_p_sought:Has P w K mg base "sought" 8 ["sides"] (zIm K)):FnOk P w K mg base CX0 9 f fd ["sides"] (zFq K):=by
 refine F.ok zJb (fun vs H Q E h=>?_) (fun cdv A outer s H vs Q E hr h=>?_)
 ·obtain ⟨l,ss,rfl,_⟩:=h
  rfl
 obtain ⟨l,ss,rfl,hl,ok,hlen,qn,q⟩:=h
 refine ⟨_,(zAi (zAr (zAq zAk (zAh h_p_sought (hr.mono (by decide)) rfl (zAa (pv 0) zAe)) zAc (fun _ _=>rfl)))),?_⟩
 refine ⟨_,rfl,l,ss,rfl,hl,ok,hlen,fun t j e P H' sH et st=>?_,fun t p P H' sH et ep wp cp=>?_⟩
 ·exact ⟨t,_,_,.non,rfl,rfl,.inr (SqT.of et),rfl,qn H' sH st.none⟩
 ·exact ⟨t,_,_,.ref p,rfl,rfl,.inr (SqT.of et),rfl,q p P H' sH ep wp cp⟩
def sdN (p:Addr) (P:P3):SpT:=(p,P.1,P.2.1,P.2.2)
structure CoK (ss:List Sd) (n:Nat) (ks:List (List Int)):Prop where
 each:∀ k∈ks,∃ P:P3,Cor ss P∧k = [P.1,P.2.1,P.2.2]
 all:∀ (a:Nat) (t:Sd),a < n→ss[a]? = some t→∀ u∈ss,tn t.2 u.2≠0→inW ss (pt3 (crL t.2 u.2))→crL t.2 u.2∈ks
structure zPx (H:Hp) (D:Addr) (ss:List Sd) (ps:List SpT):Prop where
 at':H D = some (.lst (zAt ps))
 ok:∀ t∈ps,SpOk H t∧0 < t.2.2.2∧Nat.gcd (Nat.gcd t.2.1.natAbs t.2.2.1.natAbs) t.2.2.2.natAbs = 1
 nodup:(ps.map (·.2)).Nodup
 mem:∀ P:P3,P∈ps.map (·.2)↔Cor ss P
 rises:ps.Pairwise leS
 few:ps.length≤ss.length
theorem zUk {ss:List Sd} {P:P3} (c:Cor ss P):0 < P.2.2∧Nat.gcd (Nat.gcd P.1.natAbs P.2.1.natAbs) P.2.2.natAbs = 1:=by
 obtain ⟨t,_,u,_,h,rfl,_⟩:=c
 obtain ⟨sp,_,_⟩:=zCj h
 exact ⟨sp.pos,sp.low⟩
theorem zT5 {ss:List Sd} (hn:∀ t∈ss,t.2.1≠0∨t.2.2.1≠0) {ks:List P3} (nd:ks.Nodup) (hk:∀ P∈ks,Cor ss P):ks.length≤ss.length:=by
 have ex:∀ e:Sd,∃ q:P3,e∈ss→∀ u∈ss,0 < tn e.2 u.2 * 1→inW ss (pt3 (crL e.2 u.2))→pt3 (crL e.2 u.2) = q:=fun e=>by
  by_cases h:∃ u∈ss,0 < tn e.2 u.2 * 1∧inW ss (pt3 (crL e.2 u.2))
  ·obtain ⟨u,hu,hp,hw⟩:=h
   refine ⟨pt3 (crL e.2 u.2),fun he v hv hq hx=>?_⟩
   have hN:=zGf (hn e he)
   obtain ⟨s1,o1,o2⟩:=zCj (zBa hq)
   obtain ⟨s2,r1,r2⟩:=zCj (zBa hp)
   have d1:=zMx (h:=1) (by decide) hN o1 r1 s1.pos o2 (hw v hv) hq
   have d2:=zMx (h:=1) (by decide) hN r1 o1 s2.pos r2 (hx u hu) hp
   rw [zJ7] at d2
   obtain ⟨x1,x2⟩:=zJt hN o1 r1 (by omega)
   exact zCp s1.pos s2.pos s1.low s2.low x1 x2
  ·exact ⟨(0,0,1),fun _ v hv hq hx=>absurd ⟨v,hv,hq,hx⟩ h⟩
 have fn:∃ g:Sd→P3,∀ e∈ss,∀ u∈ss,0 < tn e.2 u.2 * 1→inW ss (pt3 (crL e.2 u.2))→pt3 (crL e.2 u.2) = g e:=⟨fun e=>Classical.choose (ex e),fun e he=>Classical.choose_spec (ex e) he⟩
 obtain ⟨g,hg⟩:=fn
 have z:=zNy (ys:=ss.map g) nd fun P hP=>by
  obtain ⟨t,ht,u,hu,h0,rfl,hw⟩:=hk P hP
  by_cases c:0 < tn t.2 u.2
  ·rw [hg t ht u hu (by omega) hw]
   exact List.mem_map_of_mem ht
  ·have hut:0 < tn u.2 t.2 * 1:=by
    unfold tn at c h0 ⊢
    rw [Int.mul_comm u.2.1,Int.mul_comm u.2.2.1]
    omega
   rw [zPz h0] at hw ⊢
   rw [hg u hu t ht hut hw]
   exact List.mem_map_of_mem hu
 rwa [List.length_map] at z
theorem key3 {P Q:P3} (h:[P.1,P.2.1,P.2.2] = [Q.1,Q.2.1,Q.2.2]):P = Q:=by
 injection h with h1 h
 injection h with h2 h
 injection h with h3 _
 exact Prod.ext h1 (Prod.ext h2 h3)
theorem cor_cr {ss:List Sd} {t u:Sd} (h:tn t.2 u.2≠0):crL t.2 u.2 = [(pt3 (crL t.2 u.2)).1,(pt3 (crL t.2 u.2)).2.1,(pt3 (crL t.2 u.2)).2.2]:=(zCj h).1.list
def zE6 (K:PySem.W.Frag):Sp:=fun vs H Q _=>∃ (l:Addr) (ss:List Sd),vs = [.ref l]∧SqL K H l (zAn ss)∧SdOk H ss∧ss.length≤63 ∧
 ∀ (D:Addr) (ps:List SpT) (H':Hp),Same H H'→H D = none→zPx H' D ss ps→Q (.ref D) H'
theorem zL7 (F:Fun K "corners" "corners" zD9 f fd) (Z:Zs mg) (h_p_in_order:Has P w K mg base "in_order" 15 ["spots"] (zF0 K)) (h_p_edge_ends:Has P w K mg base "edge_ends" 6 ["sides", "edge"] (zDq K)) (h_p_in_water:Has P w K mg base "in_water" 3 ["sides", "place"] (zCu K)):FnOk P w K mg base CX0 16 f fd ["sides"] (zE6 K):=by
 refine F.ok zDi (fun vs H Q E h=>?_) (fun cdv A outer s H vs Q E hr h=>?_)
 ·obtain ⟨l,ss,rfl,_⟩:=h
  rfl
 obtain ⟨l,ss,rfl,hl,ok,hlen,q⟩:=h
 have hu1:=Nat.lt_of_le_of_lt (Nat.add_le_add_left (show 1≤64 by decide) _) hr.units
 have big:∀ n:Nat,n≤1000000→n < sizeLine:=fun n hn=>Nat.lt_of_le_of_lt hn (by decide)
 refine ⟨_,(zAg (zAu (i:=1) zDi.nd rfl (Or.inl rfl) zHr)
   (zAg (zCh PassesOwn.never rfl (zBk (pv 0)) (zAp (i:=2) zDi.nd rfl (Or.inl rfl)) (zAi (zCh PassesOwn.never rfl (zBk (zAh h_p_edge_ends (hr.mono (by decide)) rfl (zAa (pv 0) (zAa (pv 2) zAe)))) (zAp (i:=3) zDi.nd rfl (Or.inl rfl)) (zAi (zBs (zEt (zAh h_p_in_water (hr.mono (by decide)) rfl (zAa (pv 0) (zAa (pv 3) zAe)))) (zAi (zKd hu1 (pv 1) (pv 3) zG2 rfl)) zA2)))))
   (zAi (zAr (zAh h_p_in_order (hr.mono (by decide)) rfl (zAa (zBt (zEw rfl) rfl Z.list zEl (zAa (pv 1) zAe)) zAe)))))),?_⟩
 refine fun d hd=>?_
 refine ⟨_,rfl,l,rfl,.inl ⟨⟨_,(zAd hd _).seq hl⟩,zBq (K:=K) (a:=l) (xs:=zAn ss) (fun i σ H'=>Same H H'∧(∃ kvs ks,H' d = some (.dT kvs)∧TabK kvs ks∧ks.length≤2 * i∧CoK ss i ks)∧∃ u2 u3:Option V,σ = [some (.ref l),some (.ref d),u2,u3])
  ⟨zAd hd _,⟨[],[],zAb,.nil,Nat.le_refl _,(fun k hk=>nomatch hk),fun a t ha=>absurd ha (Nat.not_lt_zero _)⟩,none,none,rfl⟩ (fun i σ H' _ ⟨e,_⟩=>e.seq hl) ?_ ?_⟩⟩
 ·rintro i v σ H' hi ⟨sH,⟨kvs,ks,eD,tk,hks,ck⟩,u2,u3,rfl⟩
  obtain ⟨t,gt,rfl,hil⟩:=zBf hi
  obtain ⟨et0,nt,b1,b2,b3⟩:=ok t (List.mem_of_getElem? gt)
  have hN:=zGf (t:=t.2) nt
  refine ⟨_,rfl,_,rfl,l,t.1,ss,t.2,rfl,sH.seq hl,ok.same sH,by omega,.inr (SqT.of (sH _ _ et0)),nt,b1,b2,b3,fun L qs H2 s2 hL eL okq hq ends=>?_⟩
  have eD2:=s2 _ _ eD
  have nLd:L≠d:=fun z=>by rw [z] at eL; rw [eL] at eD2; cases eD2
  refine ⟨L,rfl,.inl ⟨⟨_,SqL.of eL⟩,zBq (K:=K) (a:=L) (xs:=zB1 qs) (fun j σ H'=>Same H H'∧H' L = some (.lst (zB1 qs))∧zIa H' qs∧(∃ kvs ks,H' d = some (.dT kvs)∧TabK kvs ks∧ks.length≤2 * i + j∧CoK ss i ks∧∀ m x,m < j→qs[m]? = some x→inW ss x.2→[x.2.1,x.2.2.1,x.2.2.2]∈ks)∧∃ u3:Option V,σ = [some (.ref l),some (.ref d),some (.ref t.1),u3])
   ⟨sH.trans s2,eL,okq,⟨kvs,ks,eD2,tk,by omega,ck,fun m x hm=>absurd hm (Nat.not_lt_zero _)⟩,_,rfl⟩ (fun j σ H' _ ⟨_,e,_⟩=>SqL.of e) ?_ ?_⟩⟩
  ·rintro j v σ H4 hj ⟨s4,eL4,ok4,⟨kvs,ks,eD4,tk,hks4,ck,done⟩,u3,rfl⟩
   rw [List.getElem?_map,List.getElem?_map] at hj
   cases gx:qs[j]? with
   | none=>rw [gx] at hj; cases hj
   | some x =>
    rw [gx] at hj
    cases hj
    have hj2:j < qs.length:=(List.getElem?_eq_some_iff.mp gx).1
    obtain ⟨ex,px,lx⟩:=ok4 x (List.mem_of_getElem? gx)
    refine ⟨_,rfl,_,rfl,l,x.1,ss,x.2,rfl,s4.seq hl,ok.same s4,.inr (SqT.of ex),_,rfl,?_⟩
    by_cases hw:inWB ss x.2 = true
    ·rw [hw]
     refine iteT ?_
     obtain ⟨ks',tk',mem',len'⟩:=tk.put [x.2.1,x.2.2.1,x.2.2.2] (.bl true)
     have kl:=tk.len
     refine ⟨_,rfl,_,rfl,d,_,rfl,DPut.t (k:=keyI [x.2.1,x.2.2.1,x.2.2.2]) eD4 (by rw [zEr]; exact ex) (by rw [kl]; exact big _ (by omega)),?_⟩
     have keepT:∀ (b:Addr) (xs:List V),H4 b = some (.tup xs)→upd H4 d (.dT (putK kvs (keyI [x.2.1,x.2.2.1,x.2.2.2]) (.bl true))) b = some (.tup xs):=fun b xs e=>by
      rw [zAo (zDt e eD4 (by intro z; cases z))]
      exact e
     refine ⟨s4.putNew hd,by rw [zAo nLd]; exact eL4,fun y hy=>⟨keepT _ _ (ok4 y hy).1,(ok4 y hy).2⟩,⟨_,ks',zAb,tk',by omega,⟨fun k hk=>?_,fun a t' ha gt' u hu htu hwu=>(mem' _).mpr (.inl (ck.all a t' ha gt' u hu htu hwu))⟩,fun m y hm gy hwy=>?_⟩,_,rfl⟩
     ·rcases (mem' k).mp hk with h | h
      ·exact ck.each k h
      ·obtain ⟨hh,j',t',_,gt',hp,_,eq⟩:=ends.each x (List.mem_of_getElem? gx)
       refine ⟨x.2,⟨t,List.mem_of_getElem? gt,t',List.mem_of_getElem? gt',zBa hp,eq,zEf.mp hw⟩,h⟩
     ·by_cases e:m = j
      ·rw [e,gx] at gy
       cases gy
       exact (mem' _).mpr (.inr rfl)
      ·exact (mem' _).mpr (.inl (done m y (by omega) gy hwy))
    ·have hw':inWB ss x.2 = false:=by simpa using hw
     rw [hw']
     refine iteF ?_
     refine ⟨s4,eL4,ok4,⟨kvs,ks,eD4,tk,by omega,ck,fun m y hm gy hwy=>?_⟩,_,rfl⟩
     by_cases e:m = j
     ·rw [e,gx] at gy
      cases gy
      exact absurd (zEf.mpr hwy) hw
     ·exact done m y (by omega) gy hwy
  ·rintro σ H4 ⟨s4,eL4,ok4,⟨kvs,ks,eD4,tk,hks4,ck,done⟩,u3,rfl⟩
   have hq2:(zB1 qs).length = qs.length:=by simp
   rw [hq2] at hks4 done
   refine ⟨s4,⟨kvs,ks,eD4,tk,by omega,ck.each,fun a t' ha gt' u hu htu hwu=>?_⟩,_,_,rfl⟩
   by_cases e:a = i
   ·rw [e,gt] at gt'
    cases gt'
    obtain ⟨k,hk1,hkk,hpos⟩:=zUd htu
    have f:zJd ss t.2 k (qs.map (·.2)):=by
     rcases hk1 with rfl | rfl
     ·exact ends.full.1
     ·exact ends.full.2
    have m:=zT2 hkk hN hu hpos hwu f
    obtain ⟨y,hy,ey⟩:=List.mem_map.mp m
    obtain ⟨b,hb,eb⟩:=List.getElem_of_mem hy
    have z:=done b y hb (by rw [List.getElem?_eq_getElem hb,eb]) (by rw [ey]; exact hwu)
    rw [ey] at z
    rw [cor_cr (ss:=ss) htu]
    exact z
   ·exact ck.all a t' (by omega) gt' u hu htu hwu
 ·rintro σ H' ⟨sH,⟨kvs,ks,eD,tk,hks,ck⟩,u2,u3,rfl⟩
  rw [zAj] at hks ck
  refine ⟨_,rfl,d,kvs,rfl,eD,fun p1 ts hp1 ets hts=>?_⟩
  have sp1:Same H' (upd H' p1 (.lst ((ts.map (·.1)).map V.ref))):=zAd hp1 _
  have ep1:upd H' p1 (.lst ((ts.map (·.1)).map V.ref)) p1 = some (.lst ((ts.map (·.1)).map V.ref)):=zAb
  obtain ⟨us,w1,w2,w3⟩:=tk.refs ets hts
  have w3':∀ u∈us,upd H' p1 (.lst ((ts.map (·.1)).map V.ref)) u.1 = some (.tup (u.2.map V.int)):=fun u hu=>sp1 _ _ (w3 u hu)
  generalize upd H' p1 (.lst ((ts.map (·.1)).map V.ref)) = H2 at sp1 ep1 w3' ⊢
  let xs:List SpT:=us.map fun u=>(u.1,pt3 u.2)
  have xk:xs.map (·.2) = ks.map pt3:=by
   show (us.map fun u=>((u.1,pt3 u.2):SpT)).map (·.2) = _
   rw [← w2,List.map_map,List.map_map]
   rfl
  have xr:zAt xs = (ts.map (·.1)).map V.ref:=by
   show (us.map fun u=>((u.1,pt3 u.2):SpT)).map (fun t=>V.ref t.1) = _
   rw [← w1,List.map_map,List.map_map]
   rfl
  have xl:xs.length = ks.length:=by
   have z:=congrArg List.length w2
   rw [List.length_map] at z
   show (us.map fun u=>((u.1,pt3 u.2):SpT)).length = _
   rw [List.length_map]
   exact z
  have kc:∀ P∈ks.map pt3,Cor ss P:=fun P hP=>by
   obtain ⟨k,hk,rfl⟩:=List.mem_map.mp hP
   obtain ⟨P,cP,rfl⟩:=ck.each k hk
   exact cP
  have knd:(ks.map pt3).Nodup:=by
   rw [List.Nodup,List.pairwise_map]
   refine List.Pairwise.imp_of_mem (fun {k k'} hk hk' hne e=>?_) tk.nodup
   obtain ⟨P,cP,rfl⟩:=ck.each k hk
   obtain ⟨P',cP',rfl⟩:=ck.each k' hk'
   have e':P = P':=e
   exact hne (by rw [e'])
  have few:=zT5 (fun t ht=>(ok t ht).2.1) knd kc
  rw [List.length_map] at few
  have okx:∀ t∈xs,SpOk H2 t∧0 < t.2.2.2∧Nat.gcd (Nat.gcd t.2.1.natAbs t.2.2.1.natAbs) t.2.2.2.natAbs = 1:=fun t ht=>by
   obtain ⟨u,hu,rfl⟩:=List.mem_map.mp ht
   have huk:u.2∈ks:=by rw [← w2]; exact List.mem_map_of_mem hu
   obtain ⟨P,cP,eP⟩:=ck.each u.2 huk
   have e0:=w3' u hu
   have lw:=zUk cP
   obtain ⟨a,ha,b,hb,hab,rfl,_⟩:=cP
   obtain ⟨_,_,x1,x2,x3⟩:=ok a ha
   obtain ⟨_,_,y1,y2,y3⟩:=ok b hb
   obtain ⟨z1,z2,z3⟩:=zSu hab x1 x2 x3 y1 y2 y3
   rw [eP] at e0
   have e1:pt3 u.2 = pt3 (crL a.2 b.2):=by rw [eP]; rfl
   refine ⟨⟨?_,?_⟩,?_⟩
   ·show H2 u.1 = some (.tup [.int (pt3 u.2).1,.int (pt3 u.2).2.1,.int (pt3 u.2).2.2])
    rw [e1]
    exact e0
   ·show (pt3 u.2).1.natAbs≤10 ^ 100∧(pt3 u.2).2.1.natAbs≤10 ^ 100∧(pt3 u.2).2.2.natAbs≤10 ^ 100
    rw [e1]
    exact ⟨zUr z1,zUr z2,zUr z3⟩
   ·show 0 < (pt3 u.2).2.2∧Nat.gcd (Nat.gcd (pt3 u.2).1.natAbs (pt3 u.2).2.1.natAbs) (pt3 u.2).2.2.natAbs = 1
    rw [e1]
    exact lw
  refine ⟨p1,xs,rfl,by rw [xr]; exact SqL.of ep1,fun t ht=>(okx t ht).1,Nat.le_trans (show xs.length≤63 by omega) (by decide),by omega,fun D H3 s3 hD eD3=>?_⟩
  have pm:=zCk 12 xs
  have pm2:((zFp 12 xs).map (·.2)).Perm (ks.map pt3):=by rw [← xk]; exact pm.map _
  refine q D (zFp 12 xs) H3 ((sH.trans sp1).trans s3) ((sH.trans sp1).free hD) ⟨eD3,fun t ht=>?_,pm2.nodup_iff.mpr knd,fun P=>?_,zG1 12 xs (Nat.le_trans (show xs.length≤63 by omega) (by decide)) fun t ht=>(okx t ht).2.1,?_⟩
  ·obtain ⟨h1,h2⟩:=okx t (pm.mem_iff.mp ht)
   exact ⟨h1.same s3,h2⟩
  ·rw [pm2.mem_iff]
   refine ⟨kc P,fun cP=>?_⟩
   obtain ⟨t,ht,u,hu,htu,rfl,hw⟩:=cP
   obtain ⟨a,ha,ea⟩:=List.getElem_of_mem ht
   exact List.mem_map_of_mem (ck.all a t ha (by rw [List.getElem?_eq_getElem ha,ea]) u hu htu hw)
  ·rw [pm.length_eq,xl]
   exact few
theorem cB3 {i j:Int} (hi:i.natAbs≤10 ^ 401) (hj:j.natAbs≤10 ^ 401):zHj i j:=⟨Nat.lt_of_le_of_lt hi (by decide +kernel),Nat.lt_of_le_of_lt hj (by decide +kernel)⟩
theorem zP6 {a b c d:Int} {m:Nat} (h1:a.natAbs≤m) (h2:b.natAbs≤m) (h3:c.natAbs≤m) (h4:d.natAbs≤m):(a * b - c * d).natAbs≤2 * (m * m):=by
 have z1:=zAf a b h1 h2
 have z2:=zAf c d h3 h4
 omega
theorem zTk:2 * (10 ^ 100 * 10 ^ 100)≤10 ^ 201:=by decide +kernel
def zFt (K:PySem.W.Frag):Sp:=fun vs H Q _=>∃ (s t:SpT),vs = [.ref s.1,.ref t.1]∧SpOk H s∧SpOk H t∧((wy s.2 t.2).1.natAbs≤10 ^ 201→(wy s.2 t.2).2.natAbs≤10 ^ 201→∀ p,H p = none→Q (.ref p) (upd H p (.tup [.int (wy s.2 t.2).1,.int (wy s.2 t.2).2])))
theorem zNh (F:Fun K "way_to" "way_to" zFk f fd) (Z:Zs mg)  : FnOk P w K mg base CX0 1 f fd ["start", "end"] (zFt K):=by
 refine F.ok zMu (fun vs H Q E h=>?_) (fun cdv A outer s H vs Q E hr h=>?_)
 ·obtain ⟨s,t,rfl,_⟩:=h
  rfl
 obtain ⟨⟨a,x1,y1,w1⟩,⟨b,x2,y2,w2⟩,rfl,⟨ha,a1,a2,a3⟩,⟨hb,b1,b2,b3⟩,q⟩:=h
 refine ⟨_,(zAi (zAr (zB0 (zAa (zAm zBp (zAm zBj (zAq zAk (pv 1) zAc (fun _ _=>rfl)) (zAq zAk (pv 0) zAc (fun _ _=>rfl))) (zAm zBj (zAq zAk (pv 0) zAc (fun _ _=>rfl)) (zAq zAk (pv 1) zAc (fun _ _=>rfl)))) (zAa (zAm zBp (zAm zBj (zAq zAk (pv 1) zAc (fun _ _=>rfl)) (zAq zAk (pv 0) zAc (fun _ _=>rfl))) (zAm zBj (zAq zAk (pv 0) zAc (fun _ _=>rfl)) (zAq zAk (pv 1) zAc (fun _ _=>rfl)))) zAe))))),?_⟩
 have fa':Sq K H a [.int x1,.int y1,.int w1]:=.inr (SqT.of ha)
 have fb:Sq K H b [.int x2,.int y2,.int w2]:=.inr (SqT.of hb)
 refine ⟨_,rfl,b,_,_,.int x2,rfl,rfl,fb,rfl,_,rfl,a,_,_,.int w1,rfl,rfl,fa',rfl,_,_,rfl,rfl,cB b1 a3,_,rfl,a,_,_,.int x1,rfl,rfl,fa',rfl,_,rfl,b,_,_,.int w2,rfl,rfl,fb,rfl,_,_,rfl,rfl,cB a1 b3,_,_,rfl,rfl,?_⟩
 refine ⟨_,rfl,b,_,_,.int y2,rfl,rfl,fb,rfl,_,rfl,a,_,_,.int w1,rfl,rfl,fa',rfl,_,_,rfl,rfl,cB b2 a3,_,rfl,a,_,_,.int y1,rfl,rfl,fa',rfl,_,rfl,b,_,_,.int w2,rfl,rfl,fb,rfl,_,_,rfl,rfl,cB a2 b3,_,_,rfl,rfl,?_⟩
 exact ⟨(by show 2≤sizeLine; decide),fun p hp=>q (Nat.le_trans (zP6 b1 a3 a1 b3) zTk) (Nat.le_trans (zP6 b2 a3 a2 b3) zTk) p hp⟩
abbrev rTab (K:PySem.W.Frag):Addr:=tabP K "ring"
abbrev rQual:Str:=("ring" : Str) ++ ".<locals>." ++ "count_ahead"
def RTab (K:PySem.W.Frag) (H:Hp):Prop:=zT3 (rTab K) (defPos zI7) rQual H
def zCw (K:PySem.W.Frag) (H H':Hp):Prop:=∀ b o,b≠rTab K→H b = some o→H' b = some o
structure zQq (H:Hp) (D:Addr) (ss:List Sd) (us:List SpT):Prop where
 at':H D = some (.lst (zAt us))
 ok:∀ t∈us,SpOk H t∧0 < t.2.2.2∧Nat.gcd (Nat.gcd t.2.1.natAbs t.2.2.1.natAbs) t.2.2.2.natAbs = 1
 nodup:(us.map (·.2)).Nodup
 mem:∀ P:P3,P∈us.map (·.2)↔Cor ss P
 first:∀ O rest,us = O :: rest→(∀ t∈rest,ahB O t = true)∧rest.Pairwise (fun A B=>0 < c3 O.2 A.2 B.2)
 few:us.length≤ss.length
theorem RTab.same {K:PySem.W.Frag} {H H':Hp} (t:RTab K H) (s:Same H H'):RTab K H':=by
 obtain ⟨qs,e1,e2,e3⟩:=t
 exact ⟨qs,s _ _ e1,e2,e3.imp id fun ⟨c',h1,h2⟩=>⟨c',h1,s _ _ h2⟩⟩
theorem RTab.ne {K:PySem.W.Frag} {H:Hp} (t:RTab K H) {b:Addr} {o:HO} (e:H b = some o) (h:∀ ps,o≠.tbl ps):b≠rTab K:=fun z=>by
 obtain ⟨qs,e1,_⟩:=t
 rw [z,show H (rTab K) = some (.tbl qs) from e1] at e
 exact h qs (Option.some.inj e).symm
theorem zCw.lst {K:PySem.W.Frag} {H H':Hp} (s:zCw K H H') (t:RTab K H) {b:Addr} {xs:List V} (e:H b = some (.lst xs)):H' b = some (.lst xs):=s b _ (t.ne e fun _ z=>nomatch z) e
theorem zCw.tup {K:PySem.W.Frag} {H H':Hp} (s:zCw K H H') (t:RTab K H) {b:Addr} {xs:List V} (e:H b = some (.tup xs)):H' b = some (.tup xs):=s b _ (t.ne e fun _ z=>nomatch z) e
theorem zCw.of {K:PySem.W.Frag} {H H':Hp} (s:Same H H'):zCw K H H':=fun b o _ e=>s b o e
theorem zCw.trans {K:PySem.W.Frag} {H H1 H2:Hp} (a:zCw K H H1) (b:zCw K H1 H2):zCw K H H2:=fun c o h e=>b c o h (a c o h e)
theorem SdOk.sameT {K:PySem.W.Frag} {H H':Hp} {ss:List Sd} (h:SdOk H ss) (t:RTab K H) (s:zCw K H H'):SdOk H' ss:=fun u hu=>⟨s.tup t (h u hu).1,(h u hu).2⟩
theorem RTab.put {K:PySem.W.Frag} {H:Hp} (t:RTab K H) {D:Addr} {xs ys:List V} (e:H D = some (.lst xs)):RTab K (upd H D (.lst ys)):=by
 have hD:=t.ne e fun _ z=>nomatch z
 obtain ⟨qs,e1,e2,e3⟩:=t
 refine ⟨qs,by rw [zAo hD.symm]; exact e1,e2,e3.imp id fun ⟨c',h1,h2⟩=>⟨c',h1,?_⟩⟩
 rw [zAo (zDt h2 e fun z=>nomatch z)]
 exact h2
def valA (H:Hp) (r:Addr):P3:=match H r with
 | some (.tup [.int x,.int y,.int w])=>(x,y,w)
 | _=>(0,0,1)
theorem zRv {H:Hp} {t:SpT} (h:SpOk H t):valA H t.1 = t.2:=by
 unfold valA
 rw [h.1]
theorem zM6 {s t:SpT} (ws:0 < s.2.2.2) (wt:0 < t.2.2.2) (ls:Nat.gcd (Nat.gcd s.2.1.natAbs s.2.2.1.natAbs) s.2.2.2.natAbs = 1) (lt:Nat.gcd (Nat.gcd t.2.1.natAbs t.2.2.1.natAbs) t.2.2.2.natAbs = 1) (h:leS s t) (ne:s.2≠t.2):ahB s t = true:=by
 by_cases c:ahB s t = true
 ·exact c
 ·have c':leS t s:=by
   show ahB s t = false
   simpa using c
  rw [zKb] at h c'
  exact absurd (zCp (p:=s.2) (q:=t.2) ws wt ls lt (by omega) (by omega)) ne
theorem zUm {H:Hp} {ss:List Sd} {O:SpT} {rest:List SpT} {us:List Addr} (ok:∀ t∈O :: rest,SpOk H t∧0 < t.2.2.2∧Nat.gcd (Nat.gcd t.2.1.natAbs t.2.2.1.natAbs) t.2.2.2.natAbs = 1) (nd:((O :: rest).map (·.2)).Nodup) (mem:∀ P:P3,P∈(O :: rest).map (·.2)↔Cor ss P)
  (ri:(O :: rest).Pairwise leS) (pm:us.Perm (rest.map (·.1))) (pw:us.Pairwise fun a b=>(cntA O.2 ((O :: rest).map (·.2)) (valA H a):Int)≤cntA O.2 ((O :: rest).map (·.2)) (valA H b)) :
  ∃ vs:List SpT,vs.map (·.1) = us∧vs.Perm rest∧(∀ t∈rest,ahB O t = true)∧vs.Pairwise (fun A B=>0 < c3 O.2 A.2 B.2):=by
 have hO:=ok O (.head _)
 have hah:∀ t∈rest,ahB O t = true:=fun t ht=>by
  have h1:=ok t (.tail _ ht)
  refine zM6 hO.2.1 h1.2.1 hO.2.2 h1.2.2 ((List.pairwise_cons.mp ri).1 t ht) fun z=>?_
  rw [List.map_cons,List.nodup_cons] at nd
  exact nd.1 (z ▸ List.mem_map_of_mem ht)
 have eb:rest.map (fun t=>((t.1,valA H t.1):SpT)) = rest:=by
  refine Eq.trans (List.map_congr_left fun t ht=>?_) (List.map_id rest)
  rw [zRv (ok t (.tail _ ht)).1]
  rfl
 have pv:(us.map fun a=>((a,valA H a):SpT)).Perm rest:=by
  have z:=pm.map fun a=>((a,valA H a):SpT)
  rw [List.map_map] at z
  have e:rest.map ((fun a=>((a,valA H a):SpT)) ∘ fun t:SpT=>t.1) = rest:=eb
  rw [e] at z
  exact z
 refine ⟨us.map fun a=>(a,valA H a),?_,pv,hah,?_⟩
 ·rw [List.map_map]
  exact Eq.trans (List.map_congr_left fun a _=>rfl) (List.map_id us)
 ·have nd2:((us.map fun a=>((a,valA H a):SpT)).map (·.2)).Nodup:=by
   refine (pv.map (·.2)).nodup_iff.mpr ?_
   rw [List.map_cons,List.nodup_cons] at nd
   exact nd.2
  have z:=zQ3 (ss:=ss) (O:=O.2) (qs:=(O :: rest).map (·.2)) (rs:=rest.map (·.2)) (us:=(us.map fun a=>((a,valA H a):SpT)).map (·.2)) ((mem _).mp (.head _)) (fun C hC=>?_) (fun A hA=>?_) nd2 (pv.map _) ?_
  ·rw [List.pairwise_map] at z
   exact z
  ·rw [List.map_cons] at hC
   rcases List.mem_cons.mp hC with e | hC
   ·exact .inl e
   ·obtain ⟨t,ht,rfl⟩:=List.mem_map.mp hC
    exact .inr (zMo (hah t ht))
  ·obtain ⟨t,ht,rfl⟩:=List.mem_map.mp hA
   have m:t.2∈(O :: rest).map (·.2):=List.mem_map_of_mem (.tail _ ht)
   refine ⟨(mem _).mp m,m,fun z=>?_,zMo (hah t ht)⟩
   rw [List.map_cons,List.nodup_cons] at nd
   exact nd.1 (z ▸ List.mem_map_of_mem ht)
  ·rw [List.map_map,List.pairwise_map]
   refine pw.imp fun {a b} h=>?_
   exact Int.ofNat_le.mp h
theorem zQv (O:SpT) (rest:List SpT):cutV (zAt (O :: rest)) none (some 1) = [V.ref O.1]:=by
 show ((zAt (O :: rest)).drop 0).take (min 1 (zAt (O :: rest)).length - 0) = _
 rw [List.drop_zero,Nat.sub_zero,show min 1 (zAt (O :: rest)).length = 1 from Nat.min_eq_left (by simp [zAt])]
 rfl
theorem zOl (O:SpT) (rest:List SpT):cutV (zAt (O :: rest)) (some 1) none = (rest.map (·.1)).map V.ref:=by
 show ((zAt (O :: rest)).drop (min 1 (zAt (O :: rest)).length)).take ((zAt (O :: rest)).length - min 1 (zAt (O :: rest)).length) = _
 rw [show min 1 (zAt (O :: rest)).length = 1 from Nat.min_eq_left (by simp [zAt]),List.take_of_length_le (by simp [zAt])]
 simp [zAt]
def zMe (K:PySem.W.Frag):Sp:=fun vs H Q _=>∃ (l:Addr) (ss:List Sd),vs = [.ref l]∧SqL K H l (zAn ss)∧SdOk H ss∧ss.length≤63∧RTab K H ∧
 ∀ (D:Addr) (us:List SpT) (H':Hp),zCw K H H'→H D = none→RTab K H'→zQq H' D ss us→Q (.ref D) H'
theorem zQ9 (F:Fun K "ring" "ring" zGs f fd) (Z:Zs mg) (h_p_corners:Has P w K mg base "corners" 16 ["sides"] (zE6 K)) (h_p_turn:Has P w K mg base "turn" 1 ["one", "other"] (zEs K)) (h_p_way_to:Has P w K mg base "way_to" 1 ["start", "end"] (zFt K)) (h_p_turn_B:Has P w K mg base "turn" 1 ["one", "other"] (zFw K)) (hcode:fd.code = .ref (tabC K "ring")) (NB:zJ6 base mg (tabC K "ring") (tabP K "ring")):FnOk P w K mg base CX0 17 f fd ["sides"] (zMe K):=by
 refine Fun.okC F zI5 (fun vs H Q E h=>?_) (fun cdv A outer s H vs Q E hcv hr h=>?_)
 ·obtain ⟨l,ss,rfl,_⟩:=h
  rfl
 obtain ⟨l,ss,rfl,hl,ok,hlen,tab,q⟩:=h
 have hcd:cdv = .ref (tabC K "ring"):=hcv.symm.trans hcode
 have hcd0:=hcd
 refine ⟨_,(zAg (zAu (i:=1) zI5.nd rfl (Or.inr rfl) (zAh h_p_corners (hr.mono (by decide)) rfl (zAa (pv 0) zAe)))
   (zAg (ps_def (i:=2) (clos:=[("rising", s.heap.objs.size + 1)]) NB hcd rfl zI5.nd rfl (Or.inl rfl))
   (zAi (zAr (zAm zRz (zCd zC8 (pv 1) zC5 (zDa zAc)) (zS8 rfl Z.sorted (zAa (zCd zC8 (pv 1) (zDa zAc) zC5) zAe) (zUn (pv 2) pk_nil))))))),?_⟩
 refine ⟨_,rfl,l,ss,rfl,hl,ok,hlen,fun D ps H1 s1 hD co=>?_⟩
 have tab1:RTab K H1:=by
  obtain ⟨qs,e1,e2,e3⟩:=tab
  refine ⟨qs,s1 _ _ e1,e2,e3.imp id fun ⟨c',h1,h2⟩=>⟨c',h1,s1 _ _ h2⟩⟩
 refine ⟨tab1,fun fa c' H2 hf hfP ef ec tab2 kp=>?_⟩
 have nT:∀ b xs,H1 b = some (.lst xs)→b≠rTab K:=fun b xs e z=>by
  obtain ⟨qs,e1,_⟩:=tab1
  rw [z,e1] at e
  cases e
 have nU:∀ b xs,H1 b = some (.tup xs)→b≠rTab K:=fun b xs e z=>by
  obtain ⟨qs,e1,_⟩:=tab1
  rw [z,e1] at e
  cases e
 have eD2:H2 D = some (.lst (zAt ps)):=kp _ _ (nT _ _ co.at') co.at'
 have ok2:∀ t∈ps,SpOk H2 t∧0 < t.2.2.2∧Nat.gcd (Nat.gcd t.2.1.natAbs t.2.2.1.natAbs) t.2.2.2.natAbs = 1:=fun t ht=>by
  obtain ⟨o1,o2⟩:=co.ok t ht
  exact ⟨⟨kp _ _ (nU _ _ o1.1) o1.1,o1.2⟩,o2⟩
 have few:=co.few
 have sT:zCw K H H2:=fun b o hb e=>kp b o hb (s1 _ _ e)
 have hDT:D≠rTab K:=nT _ _ co.at'
 have fin:∀ (Dn:Addr) (us:List SpT) (H3:Hp),Same H2 H3→H3 Dn = none→us.Perm ps→(∀ O rest,us = O :: rest→(∀ t∈rest,ahB O t = true)∧rest.Pairwise (fun A B=>0 < c3 O.2 A.2 B.2))→Q (.ref Dn) (upd H3 Dn (.lst (zAt us))):=fun Dn us H3 s3 hn pm hfst=>by
  have s4:=zAd hn (.lst (zAt us))
  have hn2:H2 Dn = none:=s3.free hn
  refine q Dn us _ (fun b o hb e=>s4 _ _ (s3 _ _ (sT b o hb e))) ?_ ?_ ⟨zAb,fun t ht=>?_,(pm.map (·.2)).nodup_iff.mpr co.nodup,fun P=>?_,hfst,by rw [pm.length_eq]; exact few⟩
  ·cases e:H Dn with
   | none=>rfl
   | some o =>
    by_cases hb:Dn = rTab K
    ·obtain ⟨qs,e1,_⟩:=tab2
     rw [hb] at hn2
     rw [show H2 (rTab K) = some (.tbl qs) from e1] at hn2
     cases hn2
    ·rw [sT _ _ hb e] at hn2
     cases hn2
  ·obtain ⟨qs,e1,e2,e3⟩:=tab2
   exact ⟨qs,s4 _ _ (s3 _ _ e1),e2,e3.imp id fun ⟨c',h1,h2⟩=>⟨c',h1,s4 _ _ (s3 _ _ h2)⟩⟩
  ·obtain ⟨o1,o2⟩:=ok2 t (pm.mem_iff.mp ht)
   exact ⟨(o1.same s3).same s4,o2⟩
  ·rw [(pm.map (·.2)).mem_iff]
   exact co.mem P
 have sq2:SqL K H2 D (zAt ps):=SqL.of eD2
 refine ⟨_,rfl,_,rfl,D,_,rfl,sq2,fun c1 hc1=>?_⟩
 have sc1:=zAd hc1 (.lst (cutV (zAt ps) none (some 1)))
 have ec1:upd H2 c1 (.lst (cutV (zAt ps) none (some 1))) c1 = some (.lst (cutV (zAt ps) none (some 1))):=zAb
 generalize upd H2 c1 (.lst (cutV (zAt ps) none (some 1))) = H3 at sc1 ec1 ⊢
 refine ⟨_,rfl,_,rfl,D,_,rfl,sc1.seq sq2,fun c2 hc2=>?_⟩
 have sc2:=zAd hc2 (.lst (cutV (zAt ps) (some 1) none))
 have ec2:upd H3 c2 (.lst (cutV (zAt ps) (some 1) none)) c2 = some (.lst (cutV (zAt ps) (some 1) none)):=zAb
 generalize upd H3 c2 (.lst (cutV (zAt ps) (some 1) none)) = H4 at sc2 ec2 ⊢
 have s24:=sc1.trans sc2
 cases ps with
 | nil =>
  refine ⟨_,rfl,c2,fa,[],fun _=>0,rfl,rfl,SqL.of ec2,by decide,(fun r hr=>nomatch hr),fun p us H5 hp s5 ep pm pw=>?_⟩
  have eu:us = []:=List.perm_nil.mp pm
  subst eu
  refine ⟨c1,p,_,_,rfl,rfl,s5 _ _ (sc2 _ _ ec1),ep,(by show 0≤sizeLine; decide),fun Dn hDn=>?_⟩
  exact fin Dn [] H5 (s24.trans s5) hDn (.refl _) (fun O rest z=>nomatch z)
 | cons O rest =>
  have hrest:rest.length < 63:=by rw [List.length_cons] at few; omega
  rw [zQv] at ec1
  rw [zOl] at ec2
  have ok4:∀ t∈O :: rest,SpOk H4 t:=fun t ht=>(ok2 t ht).1.same s24
  refine ⟨_,rfl,c2,fa,rest.map (·.1),fun a=>(cntA O.2 ((O :: rest).map (·.2)) (valA H4 a):Int),rfl,rfl,SqL.of ec2,by rw [List.length_map]; omega,?_,fun p us H5 hp s5 ep pm pw=>?_⟩
  ·refine zSt (k:=3) (jy:=1) (N:=["place", "sight", "rising"]) (params:=zCr zI7) zJu (hr.mono (by decide)) rfl rfl rfl rfl (s24 _ _ ef) (s24 _ _ ec) (fun _ _ _ _=>rfl) fun r hr' A outer s H5 s5 hr=>?_
   obtain ⟨t,ht,rfl⟩:=List.mem_map.mp hr'
   refine ⟨_,(zAg (zAu (i:=1) zJu.nd rfl (Or.inr rfl) (zAh h_p_way_to (hr.mono (by decide)) rfl (zAa (zAq zAk (pv 2) zAc (fun _ _=>rfl)) (zAa (pv 0) zAe))))
   (zAi (zAr (zAx zAz rfl Z.len zCs (zAa (zCl (T:=["other"]) (caps:=[("rising", 2),("sight", 1)]) ⟨rfl,by decide +kernel,by decide +kernel,rfl,⟨⟨rfl,rfl,Or.inr rfl⟩,⟨rfl,rfl,Or.inl rfl⟩,True.intro⟩⟩ rfl (zBk (pv 2)) (fun _=>(zAp (i:=0) (show (["other", "rising", "sight"]:List Str).Nodup by decide +kernel) rfl (Or.inl rfl))) (fun _=>(zKw (zAv zM0 (zAh h_p_turn_B (hr.mono (by decide)) rfl (zAa (zAh h_p_way_to (hr.mono (by decide)) rfl (zAa (zAq zAk (pv 1) zAc (fun _ _=>rfl)) (zAa (pv 0) zAe))) (zAa (pv 2) zAe))) zAc (zAw _)))) (fun _=>(pv 0))) zAe))))),?_⟩
   have s25:=s24.trans s5
   have eD5:=s25 _ _ eD2
   have okO:=(ok4 O (.head _)).same s5
   have okt:=(ok4 t (.tail _ ht)).same s5
   have at0:atI (zAt (O :: rest)) 0 = some (.ref O.1):=zFx (j:=0) rfl
   refine ⟨_,rfl,D,_,_,.ref O.1,rfl,rfl,.inl (SqL.of eD5),at0,_,rfl,O,t,rfl,okO,okt,fun b1 b2 sp hsp=>?_⟩
   have ssp:=zAd hsp (.tup [.int (wy O.2 t.2).1,.int (wy O.2 t.2).2])
   have esp:upd H5 sp (.tup [.int (wy O.2 t.2).1,.int (wy O.2 t.2).2]) sp = some (.tup [.int (wy O.2 t.2).1,.int (wy O.2 t.2).2]):=zAb
   generalize upd H5 sp (.tup [.int (wy O.2 t.2).1,.int (wy O.2 t.2).2]) = H6 at ssp esp ⊢
   have eD6:=ssp _ _ eD5
   refine ⟨_,rfl,D,rfl,.inl ⟨⟨_,SqL.of eD6⟩,fun cc G hG=>zI8 (K:=K) (a:=D) (xs:=zAt (O :: rest)) (fun i σ ys H'=>Same H6 H'∧H' G = some (.lst ys)∧ys.length = (((O :: rest).take i).filter fun A=>decide (0 < tn2 (wy O.2 A.2) (wy O.2 t.2))).length∧i≤63∧∃ u:Option V,σ = [u,some (.ref D),some (.ref sp)])
    ⟨zAd hG _,zAb,rfl,by decide,none,rfl⟩ (fun i σ ys H' _ ⟨e1,e2,_⟩=>⟨SqL.of (e1 _ _ eD6),e2⟩) ?_ ?_⟩⟩
   ·rintro i v σ ys H' hi ⟨sH,eG,hys,hi63,u,rfl⟩
    have hil:i < (O :: rest).length:=by have z:=(List.getElem?_eq_some_iff.mp hi).1; simpa [zAt] using z
    unfold zAt at hi
    rw [List.getElem?_map] at hi
    cases gt:(O :: rest)[i]? with
    | none=>rw [gt] at hi; cases hi
    | some A =>
     rw [gt] at hi
     cases hi
     have okA:=(((ok4 A (List.mem_of_getElem? gt)).same s5).same ssp).same sH
     have et:(O :: rest).take (i + 1) = (O :: rest).take i ++ [A]:=by rw [List.take_add_one,gt]; rfl
     have ln:ys.length≤63:=by
      rw [hys]
      exact Nat.le_trans (List.length_filter_le _ _) (Nat.le_trans (List.length_take_le _ _) hi63)
     refine ⟨_,rfl,D,_,_,.ref O.1,rfl,rfl,.inl (SqL.of (sH _ _ eD6)),at0,_,rfl,O,A,rfl,(okO.same ssp).same sH,okA,fun b3 b4 aw haw=>?_⟩
     have saw:=zAd haw (.tup [.int (wy O.2 A.2).1,.int (wy O.2 A.2).2])
     have eaw:upd H' aw (.tup [.int (wy O.2 A.2).1,.int (wy O.2 A.2).2]) aw = some (.tup [.int (wy O.2 A.2).1,.int (wy O.2 A.2).2]):=zAb
     generalize upd H' aw (.tup [.int (wy O.2 A.2).1,.int (wy O.2 A.2).2]) = H7 at saw eaw ⊢
     refine ⟨_,rfl,aw,sp,_,_,_,_,rfl,eaw,saw _ _ (sH _ _ esp),b3,b4,b1,b2,_,_,rfl,rfl,_,rfl,?_⟩
     refine ifD (fun hp=>?_) (fun hp=>?_)
     ·have hp':0 < tn2 (wy O.2 A.2) (wy O.2 t.2):=hp
      refine ⟨_,rfl,saw _ _ eG,zA3 (by omega),(sH.trans saw).putNew hG,zAb,?_,by rw [List.length_cons] at hil; omega,_,rfl⟩
      rw [et,List.filter_append,List.length_append,List.length_append,hys]
      rw [show [A].filter (fun A=>decide (0 < tn2 (wy O.2 A.2) (wy O.2 t.2))) = [A] from by
       rw [List.filter_cons,if_pos (decide_eq_true hp')]; rfl]
      rfl
     ·have hp':¬ 0 < tn2 (wy O.2 A.2) (wy O.2 t.2):=hp
      refine ⟨sH.trans saw,saw _ _ eG,?_,by rw [List.length_cons] at hil; omega,_,rfl⟩
      rw [et,List.filter_append,List.length_append,hys]
      rw [show [A].filter (fun A=>decide (0 < tn2 (wy O.2 A.2) (wy O.2 t.2))) = [] from by
       rw [List.filter_cons,if_neg (fun z=>hp' (of_decide_eq_true z))]; rfl]
      rfl
   ·rintro σ ys H' ⟨sH,eG,hys,_,u,rfl⟩
    refine ⟨G,_,rfl,.inl (SqL.of eG),?_,ssp.trans sH⟩
    rw [show (zAt (O :: rest)).length = (O :: rest).length from List.length_map _,List.take_length] at hys
    rw [hys,zRv (ok4 t (.tail _ ht))]
    unfold cntA
    rw [List.filter_map,List.length_map]
    rfl
  ·obtain ⟨vs,ev,pv,hah,hpw⟩:=zUm (H:=H4) (fun t ht=>⟨ok4 t ht,(ok2 t ht).2⟩) co.nodup co.mem co.rises pm pw
   refine ⟨c1,p,_,_,rfl,rfl,s5 _ _ (sc2 _ _ ec1),ep,?_,fun Dn hDn=>?_⟩
   ·rw [List.length_map,pm.length_eq,List.length_map,List.length_singleton]
    exact Nat.le_trans (show 1 + rest.length≤1000 by omega) (by decide)
   ·have z:=fin Dn (O :: vs) H5 (s24.trans s5) hDn (pv.cons O) (fun O' rest' e=>by
     injection e with e1 e2
     subst e1 e2
     exact ⟨fun t ht=>hah t (pv.mem_iff.mp ht),hpw⟩)
    have e:[V.ref O.1] ++ us.map V.ref = zAt (O :: vs):=by
     rw [← ev]
     simp [zAt]
    rw [e]
    exact z
def zI3 (K:PySem.W.Frag):Sp:=fun vs H Q _=>∃ (l d:Addr) (ss:List Sd) (x y:Int),vs = [.ref l,.ref d]∧SqL K H l (zAn ss)∧SdOk H ss∧Sq K H d [.int x,.int y]∧Q (.bl (wayB ss x y)) H
theorem zMq (F:Fun K "is_way" "is_way" zFb f fd) (Z:Zs mg) (h_p_along:Has P w K mg base "along" 1 ["one", "other"] (zG0 K)):FnOk P w K mg base CX0 2 f fd ["sides", "direction"] (zI3 K):=by
 refine F.ok zH1 (fun vs H Q E h=>?_) (fun cdv A outer s H vs Q E hr h=>?_)
 ·obtain ⟨l,d,ss,x,y,rfl,_⟩:=h
  rfl
 obtain ⟨l,d,ss,x,y,rfl,hl,ok,hd,q⟩:=h
 refine ⟨_,(zAg (zCh PassesOwn.never rfl (zBk (pv 0)) (zAp (i:=2) zH1.nd rfl (Or.inl rfl)) (zAi (zBs (zAv zM0 (zAh h_p_along (hr.mono (by decide)) rfl (zAa (pv 2) (zAa (pv 1) zAe))) zAc (zAw _)) (zAi (zAr zG2)) zA2)))
   (zAi (zAr zG2))),?_⟩
 refine ⟨_,rfl,l,rfl,.inl ⟨⟨_,hl⟩,zBq (K:=K) (a:=l) (xs:=zAn ss) (fun i σ H'=>H' = H∧(∀ j t,j < i→ss[j]? = some t→t.2.1 * x + t.2.2.1 * y≤0)∧∃ u2:Option V,σ = [some (.ref l),some (.ref d),u2])
  ⟨rfl,fun j t hj=>absurd hj (Nat.not_lt_zero _),none,rfl⟩ (fun i σ H' _ ⟨e,_⟩=>by rw [e]; exact hl) ?_ ?_⟩⟩
 ·rintro i v σ H' hi ⟨rfl,hall,u2,rfl⟩
  obtain ⟨t,gt,rfl,hil⟩:=zBf hi
  obtain ⟨et,_,b1,b2,_⟩:=ok t (List.mem_of_getElem? gt)
  refine ⟨_,rfl,_,rfl,t.1,d,_,_,t.2.1,t.2.2.1,x,y,rfl,.inr (SqT.of et),hd,rfl,rfl,rfl,rfl,by omega,by omega,_,_,rfl,rfl,_,rfl,?_⟩
  refine ifD (fun hpos=>?_) (fun hneg=>?_)
  ·have e:wayB ss x y = false:=by
    unfold wayB
    rw [Bool.eq_false_iff]
    intro z
    have z2:=of_decide_eq_true (List.all_eq_true.mp z t (List.mem_of_getElem? gt))
    omega
   rw [e] at q
   exact q
  ·refine ⟨rfl,fun j t' hj ht'=>?_,_,rfl⟩
   by_cases e:j = i
   ·rw [e,gt] at ht'
    cases ht'
    omega
   ·exact hall j t' (by omega) ht'
 ·rintro σ H' ⟨rfl,hall,u2,rfl⟩
  have e:wayB ss x y = true:=by
   unfold wayB
   rw [List.all_eq_true]
   intro t ht
   obtain ⟨j,hj,ej⟩:=List.getElem_of_mem ht
   exact decide_eq_true (hall j t (by rw [zAj]; exact hj) (by rw [List.getElem?_eq_getElem hj,ej]))
  rw [e] at q
  exact q
def zIe (K:PySem.W.Frag):Sp:=fun vs H Q _=>∃ (l:Addr) (ss:List Sd),vs = [.ref l]∧SqL K H l (zAn ss)∧SdOk H ss∧ss.length≤400 ∧
 ∀ (p:Addr) (us:List (Addr × List Int)) (H':Hp),Same H H'→H p = none→zOh H' p ss us→Q (.ref p) H'
theorem zPq (F:Fun K "ways" "ways" zHo f fd) (Z:Zs mg) (h_p_is_way:Has P w K mg base "is_way" 2 ["sides", "direction"] (zI3 K)) (h_p_plain:Has P w K mg base "plain" 3 ["direction"] (zJ3 K)):FnOk P w K mg base CX0 4 f fd ["sides"] (zIe K):=by
 refine F.ok zF3 (fun vs H Q E h=>?_) (fun cdv A outer s H vs Q E hr h=>?_)
 ·obtain ⟨l,ss,rfl,_⟩:=h
  rfl
 obtain ⟨l,ss,rfl,hl,ok,h31,q⟩:=h
 have nz:∀ t∈ss,t.2.1≠0∨t.2.2.1≠0:=fun t ht=>(ok t ht).2.1
 have hu1:=Nat.lt_of_le_of_lt (Nat.add_le_add_left (show 1≤64 by decide) _) hr.units
 refine ⟨_,(zAg (zAu (i:=1) zF3.nd rfl (Or.inl rfl) zHr)
   (zAg (zCh PassesOwn.never rfl (zBk (pv 0)) (zAp (i:=2) zF3.nd rfl (Or.inl rfl)) (zAi (zCh PassesOwn.never rfl (zMt (zEp (zAa (zB0 (zAa (zLd zHc (zAq zAk (pv 2) zAc (fun _ _=>rfl))) (zAa (zAq zAk (pv 2) zAc (fun _ _=>rfl)) zAe))) (zAa (zB0 (zAa (zAq zAk (pv 2) zAc (fun _ _=>rfl)) (zAa (zLd zHc (zAq zAk (pv 2) zAc (fun _ _=>rfl))) zAe))) zAe)))) (zAp (i:=3) zF3.nd rfl (Or.inl rfl)) (zAi (zBs (zEt (zAh h_p_is_way (hr.mono (by decide)) rfl (zAa (pv 0) (zAa (pv 3) zAe)))) (zAi (zKd hu1 (pv 1) (zAh h_p_plain (hr.mono (by decide)) rfl (zAa (pv 3) zAe)) zG2 rfl)) zA2)))))
   (zAi (zAr (zAx zL6 rfl Z.sorted zIn (zAa (zBt (zEw rfl) rfl Z.list zEl (zAa (pv 1) zAe)) zAe)))))),?_⟩
 refine fun d hd=>?_
 have two:∀ k,WK ss ss.length k→k.length = 1 + 1:=fun k ⟨_,t,_,_,h⟩=>by
  rcases h with ⟨e,_⟩ | ⟨e,_⟩ <;> rw [e] <;> rfl
 refine ⟨_,rfl,l,rfl,.inl ⟨⟨_,(zAd hd _).seq hl⟩,zBq (K:=K) (a:=l) (xs:=zAn ss) (fun i σ H'=>Same H H'∧(∃ kvs ks,H' d = some (.dT kvs)∧TabK kvs ks∧ks.length≤2 * i∧∀ k,k∈ks↔WK ss i k)∧∃ u2 u3:Option V,σ = [some (.ref l),some (.ref d),u2,u3])
  ⟨zAd hd _,⟨[],[],zAb,.nil,Nat.le_refl _,fun k=>⟨(fun z=>nomatch z),fun z=>absurd z (zUb ss k)⟩⟩,none,none,rfl⟩ (fun i σ H' _ ⟨e,_⟩=>e.seq hl) ?_ ?_⟩⟩
 ·rintro i v σ H' hi ⟨sH,⟨kvs,ks,eD,tk,hks,mem⟩,u2,u3,rfl⟩
  obtain ⟨t,gt,rfl,hil⟩:=zBf hi
  obtain ⟨et0,nt,b1,b2,_⟩:=ok t (List.mem_of_getElem? gt)
  have et:=sH _ _ et0
  have st:Sq K H' t.1 [.int t.2.1,.int t.2.2.1,.int t.2.2.2]:=.inr (SqT.of et)
  refine ⟨_,rfl,t.1,_,_,.int t.2.2.1,rfl,rfl,st,rfl,_,rfl,_,rfl,t.1,_,_,.int t.2.1,rfl,rfl,st,rfl,(by show 2≤sizeLine; decide),fun p1 hp1=>?_⟩
  have sp1:Same H' (upd H' p1 (.tup [.int (-t.2.2.1),.int t.2.1])):=zAd hp1 _
  have ep1:upd H' p1 (.tup [.int (-t.2.2.1),.int t.2.1]) p1 = some (.tup [.int (-t.2.2.1),.int t.2.1]):=zAb
  generalize upd H' p1 (.tup [.int (-t.2.2.1),.int t.2.1]) = G1 at sp1 ep1 ⊢
  have st1:=st.same sp1
  refine ⟨_,rfl,t.1,_,_,.int t.2.2.1,rfl,rfl,st1,rfl,_,rfl,t.1,_,_,.int t.2.1,rfl,rfl,st1,rfl,_,rfl,(by show 2≤sizeLine; decide),fun p2 hp2=>?_⟩
  have sp2:Same G1 (upd G1 p2 (.tup [.int t.2.2.1,.int (-t.2.1)])):=zAd hp2 _
  have ep2:upd G1 p2 (.tup [.int t.2.2.1,.int (-t.2.1)]) p2 = some (.tup [.int t.2.2.1,.int (-t.2.1)]):=zAb
  generalize upd G1 p2 (.tup [.int t.2.2.1,.int (-t.2.1)]) = G2 at sp2 ep2 ⊢
  refine ⟨(by show 2≤sizeLine; decide),fun pl hpl=>?_⟩
  have spl:Same G2 (upd G2 pl (.lst [.ref p1,.ref p2])):=zAd hpl _
  have epl:upd G2 pl (.lst [.ref p1,.ref p2]) pl = some (.lst [.ref p1,.ref p2]):=zAb
  have sAll:=(sp1.trans sp2).trans spl
  have ep1':=spl _ _ (sp2 _ _ ep1)
  have ep2':=spl _ _ ep2
  have eD':=sAll _ _ eD
  generalize upd G2 pl (.lst [.ref p1,.ref p2]) = G3 at spl epl sAll ep1' ep2' eD' ⊢
  have npl:pl≠d:=fun z=>by rw [z] at epl; rw [epl] at eD'; cases eD'
  refine ⟨pl,rfl,⟨_,SqL.of epl⟩,zBq (K:=K) (a:=pl) (xs:=[.ref p1,.ref p2]) (fun j σ H'=>Same H H'∧H' pl = some (.lst [.ref p1,.ref p2])∧H' p1 = some (.tup [.int (-t.2.2.1),.int t.2.1])∧H' p2 = some (.tup [.int t.2.2.1,.int (-t.2.1)]) ∧
    (∃ kvs ks,H' d = some (.dT kvs)∧TabK kvs ks∧ks.length≤2 * i + j∧∀ k,k∈ks↔WK ss i k∨(0 < j∧k = lowL [-t.2.2.1,t.2.1]∧wayB ss (-t.2.2.1) t.2.1 = true)∨(1 < j∧k = lowL [t.2.2.1,-t.2.1]∧wayB ss t.2.2.1 (-t.2.1) = true))∧∃ u3:Option V,σ = [some (.ref l),some (.ref d),some (.ref t.1),u3])
   ⟨sH.trans sAll,epl,ep1',ep2',⟨kvs,ks,eD',tk,by omega,fun k=>(mem k).trans ⟨.inl,fun z=>by
    rcases z with z | ⟨z,_⟩ | ⟨z,_⟩
    ·exact z
    ·exact absurd z (Nat.not_lt_zero _)
    ·exact absurd z (Nat.not_lt_zero _)⟩⟩,_,rfl⟩ (fun i σ H' _ ⟨_,e,_⟩=>SqL.of e) ?_ ?_⟩
  ·rintro j v σ H4 hj ⟨s4,e4l,e41,e42,⟨kvs,ks,eD4,tk,hks4,mem⟩,u3,rfl⟩
   have hj2:j < 2:=(List.getElem?_eq_some_iff.mp hj).1
   obtain ⟨pj,X,Y,rfl,epj,hXY,hn,bX,bY⟩:∃ (pj:Addr) (X Y:Int),v = .ref pj∧H4 pj = some (.tup [.int X,.int Y])∧((j = 0∧X = -t.2.2.1∧Y = t.2.1)∨(j = 1∧X = t.2.2.1∧Y = -t.2.1))∧(X≠0∨Y≠0)∧X.natAbs≤10 ^ 9∧Y.natAbs≤10 ^ 9:=by
    match j,hj with
    | 0,h=>cases h; exact ⟨p1,_,_,rfl,e41,.inl ⟨rfl,rfl,rfl⟩,by omega,by omega,by omega⟩
    | 1,h=>cases h; exact ⟨p2,_,_,rfl,e42,.inr ⟨rfl,rfl,rfl⟩,by omega,by omega,by omega⟩
   have step:∀ k,(k = lowL [X,Y]∧wayB ss X Y = true)∨(WK ss i k∨(0 < j∧k = lowL [-t.2.2.1,t.2.1]∧wayB ss (-t.2.2.1) t.2.1 = true)∨(1 < j∧k = lowL [t.2.2.1,-t.2.1]∧wayB ss t.2.2.1 (-t.2.1) = true)) ↔
     WK ss i k∨(0 < j + 1∧k = lowL [-t.2.2.1,t.2.1]∧wayB ss (-t.2.2.1) t.2.1 = true)∨(1 < j + 1∧k = lowL [t.2.2.1,-t.2.1]∧wayB ss t.2.2.1 (-t.2.1) = true):=fun k=>by
    rcases hXY with ⟨rfl,rfl,rfl⟩ | ⟨rfl,rfl,rfl⟩
    ·constructor
     ·rintro (h | h | h | h)
      ·exact .inr (.inl ⟨by decide,h⟩)
      ·exact .inl h
      ·exact absurd h.1 (by decide)
      ·exact absurd h.1 (by decide)
     ·rintro (h | h | h)
      ·exact .inr (.inl h)
      ·exact .inl h.2
      ·exact absurd h.1 (by decide)
    ·constructor
     ·rintro (h | h | h | h)
      ·exact .inr (.inr ⟨by decide,h⟩)
      ·exact .inl h
      ·exact .inr (.inl ⟨by decide,h.2⟩)
      ·exact absurd h.1 (by decide)
     ·rintro (h | h | h)
      ·exact .inr (.inl h)
      ·exact .inr (.inr (.inl ⟨by decide,h.2⟩))
      ·exact .inl h.2
   obtain ⟨gp,g6⟩:=gcd2 hn bX bY
   refine ⟨_,rfl,_,rfl,l,pj,ss,X,Y,rfl,s4.seq hl,ok.same s4,.inr (SqT.of epj),_,rfl,?_⟩
   by_cases hw:wayB ss X Y = true
   ·rw [hw]
    refine iteT ?_
    refine ⟨_,rfl,_,rfl,pj,[X,Y],rfl,.inr (SqT.of epj),by show 2≤1000; decide,gp,g6,fun pk G5 s5 hpk epk=>?_⟩
    have eD5:=s5 _ _ eD4
    obtain ⟨ks',tk',mem',len'⟩:=tk.put (lowL [X,Y]) (.bl true)
    have kl:=tk.len
    refine ⟨d,_,rfl,DPut.t eD5 (by rw [zEr]; exact epk) (by rw [kl]; exact Nat.lt_of_le_of_lt (Nat.le_trans hks4 (show 2 * i + j≤1000 by omega)) (by decide)),?_⟩
    have keepT:∀ (b:Addr) (xs:List V),G5 b = some (.tup xs)→upd G5 d (.dT (putK kvs (keyI (lowL [X,Y])) (.bl true))) b = some (.tup xs):=fun b xs e=>by
     rw [zAo (zDt e eD5 (by intro z; cases z))]
     exact e
    refine ⟨(s4.trans s5).putNew hd,?_,keepT _ _ (s5 _ _ e41),keepT _ _ (s5 _ _ e42),⟨_,ks',zAb,tk',by omega,fun k=>?_⟩,_,rfl⟩
    ·rw [zAo npl]
     exact s5 _ _ e4l
    ·rw [mem' k,← step k,← mem k]
     constructor
     ·rintro (h | h)
      ·exact .inr h
      ·exact .inl ⟨h,hw⟩
     ·rintro (h | h)
      ·exact .inr h.1
      ·exact .inl h
   ·have hw':wayB ss X Y = false:=by simpa using hw
    rw [hw']
    refine iteF ?_
    refine ⟨s4,e4l,e41,e42,⟨kvs,ks,eD4,tk,by omega,fun k=>?_⟩,_,rfl⟩
    rw [mem k,← step k]
    constructor
    ·exact .inr
    ·rintro (h | h)
     ·exact absurd h.2 hw
     ·exact h
  ·rintro σ H4 ⟨s4,_,_,_,⟨kvs,ks,eD4,tk,hks4,mem⟩,u3,rfl⟩
   refine ⟨s4,⟨kvs,ks,eD4,tk,by show ks.length≤2 * (i + 1); have:ks.length≤2 * i + 2:=hks4; omega,fun k=>?_⟩,_,_,rfl⟩
   rw [mem k,zUc gt]
   constructor
   ·rintro (h | h | h)
    ·exact .inl h
    ·exact .inr (.inl h.2)
    ·exact .inr (.inr h.2)
   ·rintro (h | h | h)
    ·exact .inl h
    ·exact .inr (.inl ⟨by show 0 < 2; decide,h⟩)
    ·exact .inr (.inr ⟨by show 1 < 2; decide,h⟩)
 ·rintro σ H' ⟨sH,⟨kvs,ks,eD,tk,hks,mem⟩,u2,u3,rfl⟩
  rw [zAj] at hks mem
  refine ⟨_,rfl,d,kvs,rfl,eD,fun p1 ts hp1 ets hts=>?_⟩
  have sp1:=zAd hp1 (.lst ((ts.map (·.1)).map V.ref))
  obtain ⟨us,u1,u2,u3⟩:=tk.refs ets hts
  have few2:=zS1 nz tk.nodup fun k hk=>(mem k).mp hk
  refine ⟨p1,us,1,rfl,by rw [u1]; exact SqL.of zAb,by have z:=congrArg List.length u2; rw [List.length_map] at z; omega,fun t ht=>⟨sp1 _ _ (u3 t ht),?_⟩,fun p2 us2 hp2 pm ri=>?_⟩
  ·have z:t.2∈ks:=by rw [← u2]; exact List.mem_map_of_mem ht
   exact two t.2 ((mem _).mp z)
  have sp2:=zAd hp2 (.lst ((us2.map (·.1)).map V.ref))
  have pm2:(us2.map (·.2)).Perm ks:=by rw [← u2]; exact pm.map _
  refine q p2 us2 _ (((sH).trans sp1).trans sp2) ((sH).free (sp1.free hp2)) ⟨zAb,fun u hu=>sp2 _ _ (sp1 _ _ (u3 u (pm.mem_iff.mp hu))),List.pairwise_map.mpr ri,pm2.nodup_iff.mpr tk.nodup,fun k=>(pm2.mem_iff).trans (mem k),by have z:=pm2.length_eq; rw [List.length_map] at z; omega⟩
def zEy (K:PySem.W.Frag):Sp:=fun vs H Q _=>∃ (l:Addr) (ss:List Sd),vs = [.ref l]∧SqL K H l (zAn ss)∧SdOk H ss∧ss.length≤400 ∧
 ∀ (b:Bool) (H':Hp),Same H H'→(b = true↔(ss≠[]∧∀ k,¬ WK ss ss.length k))→Q (.bl b) H'
theorem zH7 (F:Fun K "has_no_way" "has_no_way" zCo f fd) (Z:Zs mg) (h_p_ways:Has P w K mg base "ways" 4 ["sides"] (zIe K)):FnOk P w K mg base CX0 5 f fd ["sides"] (zEy K):=by
 refine F.ok zIp (fun vs H Q E h=>?_) (fun cdv A outer s H vs Q E hr h=>?_)
 ·obtain ⟨l,ss,rfl,_⟩:=h
  rfl
 obtain ⟨l,ss,rfl,hl,ok,h400,q⟩:=h
 have hu:=hr.units0
 refine ⟨_,(zAi (zAr (zLo (zEa zM0 (zAx zAz rfl Z.len zCs (zAa (pv 0) zAe)) zAc (zAw _)) (zNu (zEa (op_eqE hu) (zAh h_p_ways (hr.mono (by decide)) rfl (zAa (pv 0) zAe)) (zEp zAe) (zAw _)))))),?_⟩
 refine ⟨_,rfl,l,_,rfl,.inl hl,_,_,rfl,rfl,_,rfl,?_⟩
 rw [zAj]
 refine ifD (fun hpos=>?_) (fun hneg=>?_)
 ·refine ⟨_,rfl,l,ss,rfl,hl,ok,h400,fun p us H1 s1 hp wa=>?_⟩
  refine ⟨(by show 0≤sizeLine; decide),fun z hz=>?_⟩
  have sz:=zAd hz (.lst [])
  refine ⟨p,z,us.map (·.1),rfl,rfl,SqL.of (sz _ _ wa.at'),SqL.of zAb,q _ _ (s1.trans sz) ?_⟩
  have hne:ss≠[]:=fun z=>by rw [z] at hpos; exact absurd hpos (by decide)
  cases us with
  | nil=>exact ⟨fun _=>⟨hne,(fun k hk=>nomatch (wa.mem k).mpr hk)⟩,fun _=>rfl⟩
  | cons u us=>exact ⟨(fun z=>nomatch z),fun z=>absurd ((wa.mem u.2).mp (List.mem_map_of_mem List.mem_cons_self)) (z.2 u.2)⟩
 ·refine q false H (Same.refl _) ⟨(fun z=>nomatch z),fun z=>absurd (List.length_pos_iff.mpr z.1) (fun q=>hneg (by omega))⟩
theorem cBf {i j:Int} {m n:Nat} (hi:i.natAbs≤m) (hj:j.natAbs≤n) (h1:m < 2 ^ 4096) (h2:n < 2 ^ 4096):zHj i j:=⟨Nat.lt_of_le_of_lt hi h1,Nat.lt_of_le_of_lt hj h2⟩
theorem zPm {a b c:Int} (ha:a.natAbs≤10 ^ 19) (hb:b.natAbs≤10 ^ 19) (hc:c.natAbs≤10 ^ 19):(2 * a ^ 2 * b * c).natAbs≤2 * 10 ^ 76∧(2 * a ^ 2 * b).natAbs≤2 * 10 ^ 57∧(2 * a ^ 2).natAbs≤2 * 10 ^ 38∧(a ^ 2).natAbs≤10 ^ 38:=by
 have e1:(10:Nat) ^ 19 * 10 ^ 19 = 10 ^ 38:=by decide +kernel
 have e2:2 * (10:Nat) ^ 38 * 10 ^ 19 = 2 * 10 ^ 57:=by decide +kernel
 have e3:2 * (10:Nat) ^ 57 * 10 ^ 19 = 2 * 10 ^ 76:=by decide +kernel
 have z0:=zAf a a ha ha
 rw [e1] at z0
 have ep:a ^ 2 = a * a:=by rw [Int.pow_succ,Int.pow_succ,Int.pow_zero,Int.one_mul]
 rw [ep]
 have z1:(2 * (a * a)).natAbs≤2 * 10 ^ 38:=by omega
 have z2:=zAf (2 * (a * a)) b z1 hb
 rw [e2] at z2
 have z3:=zAf (2 * (a * a) * b) c z2 hc
 rw [e3] at z3
 exact ⟨z3,z2,z1,z0⟩
def zGa (K:PySem.W.Frag):Sp:=fun vs H Q _=>∃ (r s t:SpT),vs = [.ref r.1,.ref s.1,.ref t.1]∧SpOk H r∧SpOk H s∧SpOk H t∧Fine r.2∧Fine s.2∧Fine t.2 ∧
 ∀ (p:Addr) (x y:Int) (H':Hp),Same H H'→H p = none→H' p = some (.tup [.int x,.int y])→zHa (r.2.2.2 * c3 r.2 s.2 t.2) (2 * r.2.2.2 ^ 2 * s.2.2.2 * t.2.2.2) x y→Q (.ref p) H'
theorem zK0 (F:Fun K "triangle" "triangle" zDn f fd) (Z:Zs mg) (h_p_part:Has P w K mg base "part" 4 ["top", "bottom"] (zF4 K)) (h_p_turn:Has P w K mg base "turn" 1 ["one", "other"] (zEs K)) (h_p_way_to:Has P w K mg base "way_to" 1 ["start", "end"] (zFt K)) (h_p_turn_B:Has P w K mg base "turn" 1 ["one", "other"] (zFw K)):FnOk P w K mg base CX0 5 f fd ["first", "one", "other"] (zGa K):=by
 refine F.ok zGo (fun vs H Q E h=>?_) (fun cdv A outer s H vs Q E hr h=>?_)
 ·obtain ⟨r,s,t,rfl,_⟩:=h
  rfl
 obtain ⟨r,u,t,rfl,okr,oku,okt,fr,fu,ft,q⟩:=h
 refine ⟨_,(zAg (zAu (i:=3) zGo.nd rfl (Or.inl rfl) (zAh h_p_turn_B (hr.mono (by decide)) rfl (zAa (zAh h_p_way_to (hr.mono (by decide)) rfl (zAa (pv 0) (zAa (pv 1) zAe))) (zAa (zAh h_p_way_to (hr.mono (by decide)) rfl (zAa (pv 0) (zAa (pv 2) zAe))) zAe))))
   (zAi (zAr (zAh h_p_part (hr.mono (by decide)) rfl (zAa (pv 3) (zAa (zAm zBj (zAm zBj (zAm zBj zAc (zAm zPt (zAq zAk (pv 0) zAc (fun _ _=>rfl)) zAc)) (zAq zAk (pv 1) zAc (fun _ _=>rfl))) (zAq zAk (pv 2) zAc (fun _ _=>rfl))) zAe)))))),?_⟩
 refine ⟨_,rfl,_,rfl,r,u,rfl,okr,oku,fun b1 b2 p1 hp1=>?_⟩
 have s1:=zAd hp1 (.tup [.int (wy r.2 u.2).1,.int (wy r.2 u.2).2])
 have e1:upd H p1 (.tup [.int (wy r.2 u.2).1,.int (wy r.2 u.2).2]) p1 = some (.tup [.int (wy r.2 u.2).1,.int (wy r.2 u.2).2]):=zAb
 generalize upd H p1 (.tup [.int (wy r.2 u.2).1,.int (wy r.2 u.2).2]) = H1 at s1 e1 ⊢
 refine ⟨_,rfl,_,rfl,r,t,rfl,okr.same s1,okt.same s1,fun b3 b4 p2 hp2=>?_⟩
 have s2:=zAd hp2 (.tup [.int (wy r.2 t.2).1,.int (wy r.2 t.2).2])
 have e2:upd H1 p2 (.tup [.int (wy r.2 t.2).1,.int (wy r.2 t.2).2]) p2 = some (.tup [.int (wy r.2 t.2).1,.int (wy r.2 t.2).2]):=zAb
 generalize upd H1 p2 (.tup [.int (wy r.2 t.2).1,.int (wy r.2 t.2).2]) = H2 at s2 e2 ⊢
 refine ⟨p1,p2,_,_,_,_,rfl,s2 _ _ e1,e2,b1,b2,b3,b4,?_⟩
 have s12:=s1.trans s2
 obtain ⟨z1,z2,z3,z4⟩:=zPm fr.w fu.w ft.w
 have k1:2 * 10 ^ 57 < 2 ^ 4096:=by decide +kernel
 have k2:2 * 10 ^ 38 < 2 ^ 4096:=by decide +kernel
 have k3:10 ^ 19 < 2 ^ 4096:=by decide +kernel
 have k4:10 ^ 38 < 2 ^ 4096:=by decide +kernel
 have fqr:Sq K H2 r.1 [.int r.2.1,.int r.2.2.1,.int r.2.2.2]:=.inr (SqT.of (s12 _ _ okr.1))
 have fqu:Sq K H2 u.1 [.int u.2.1,.int u.2.2.1,.int u.2.2.2]:=.inr (SqT.of (s12 _ _ oku.1))
 have fqt:Sq K H2 t.1 [.int t.2.1,.int t.2.2.1,.int t.2.2.2]:=.inr (SqT.of (s12 _ _ okt.1))
 have hw:=fr.w
 have pz:=Int.mul_ne_zero (Int.mul_ne_zero (Int.mul_ne_zero (show (2:Int)≠0 by decide) (Int.pow_ne_zero (m:=2) (Int.ne_of_gt fr.pos))) (Int.ne_of_gt fu.pos)) (Int.ne_of_gt ft.pos)
 refine ⟨_,rfl,_,rfl,r.1,_,_,.int r.2.2.2,rfl,rfl,fqr,rfl,_,_,rfl,rfl,⟨by decide,by decide,Nat.lt_of_le_of_lt hw (by decide)⟩,_,_,rfl,rfl,cBf (m:=2) (n:=10 ^ 38) (by decide) z4 (by decide +kernel) k4,_,rfl,u.1,_,_,.int u.2.2.2,rfl,rfl,fqu,rfl,_,_,rfl,rfl,cBf z3 fu.w k2 k3,_,rfl,t.1,_,_,.int t.2.2.2,rfl,rfl,fqt,rfl,_,_,rfl,rfl,cBf z2 ft.w k1 k3,_,_,rfl,pz,Nat.lt_of_le_of_lt z1 (by decide +kernel),fun p x y H3 s3 hp ep po=>?_⟩
 refine q p x y H3 (s12.trans s3) (s12.free hp) ep ?_
 have e:(wy r.2 u.2).1 * (wy r.2 t.2).2 - (wy r.2 u.2).2 * (wy r.2 t.2).1 = r.2.2.2 * c3 r.2 u.2 t.2:=zPp r.2 u.2 t.2
 rw [e] at po
 exact po
structure RgA (ss:List Sd) (O:P3) (rest:List P3):Prop where
 rg:Rg ss O rest
 ah:∀ A∈rest,∀ a b:Nat,ahB (a,O) (b,A) = true
 few:rest.length + 1≤ss.length
def rAt (O:P3) (rest:List P3) (i:Nat):P3:=rest.getD i O
theorem zJo {O:P3} {rest:List P3} {i:Nat} (h:i < rest.length):rAt O rest i = rest[i]:=by
 unfold rAt
 rw [List.getD_eq_getElem?_getD,List.getElem?_eq_getElem h]
 rfl
theorem RgA.fine {ss:List Sd} {O:P3} {rest:List P3} (R:RgA ss O rest) (sm:∀ t∈ss,t.2.1.natAbs≤10 ^ 9∧t.2.2.1.natAbs≤10 ^ 9∧t.2.2.2.natAbs≤10 ^ 13):Fine O∧∀ i,Fine (rAt O rest i):=by
 have hO:=zKy sm R.rg.cO
 refine ⟨hO,fun i=>?_⟩
 by_cases h:i < rest.length
 ·rw [zJo h]
  exact zKy sm (R.rg.cA h)
 ·unfold rAt
  rw [List.getD_eq_getElem?_getD,List.getElem?_eq_none (by omega)]
  exact hO
theorem zT4 {s t:SpT} {a b:Nat} : ahB (a,s.2) (b,t.2) = ahB s t:=rfl
theorem rga_of {H:Hp} {D:Addr} {ss:List Sd} {O:SpT} {rest:List SpT} (nz:∀ t∈ss,t.2.1≠0∨t.2.2.1≠0) (ne:ss≠[]) (nw:∀ k,¬ WK ss ss.length k) (ra:zQq H D ss (O :: rest)):RgA ss O.2 (rest.map (·.2)):=by
 obtain ⟨hah,hpw⟩:=ra.first O rest rfl
 have nd:=ra.nodup
 rw [List.map_cons,List.nodup_cons] at nd
 refine ⟨⟨nz,ne,fun x y hxy=>zTi nz ne nw hxy,ra.mem,fun A hA=>?_,List.pairwise_map.mpr hpw⟩,fun A hA a b=>?_,?_⟩
 ·obtain ⟨a,ha,rfl⟩:=List.mem_map.mp hA
  exact ⟨fun z=>nd.1 (z ▸ List.mem_map_of_mem ha),zMo (hah a ha)⟩
 ·obtain ⟨t,ht,rfl⟩:=List.mem_map.mp hA
  rw [zT4]
  exact hah t ht
 ·have z:=ra.few
  rw [List.length_cons] at z
  rw [List.length_map]
  exact z
theorem zQt {H:Hp} {D:Addr} {ss:List Sd} {us:List SpT} (nz:∀ t∈ss,t.2.1≠0∨t.2.2.1≠0) (ne:ss≠[]) (nw:∀ k,¬ WK ss ss.length k) (ra:zQq H D ss us) {z:P3} (zw:0 < z.2.2) (zin:inW ss z):us≠[]:=fun e=>by
 subst e
 have q:=hull nz ne (fun x y hxy=>zTi nz ne nw hxy) (g:=(0,0,-1)) (fun C cC=>by have z:=(ra.mem C).mpr cC; cases z) zw zin
 unfold sv at q
 dsimp only at q
 omega
def zMv (ss:List Sd) (v:V) (H:Hp):Prop :=
 ((∀ z:P3,0 < z.2.2→¬ inW ss z)∧∃ p,v = .ref p∧H p = some (.tup [.int 0,.int 1]))∨((∃ z:P3,0 < z.2.2∧inW ss z)∧¬ (ss≠[]∧∀ k,¬ WK ss ss.length k)∧v = .non) ∨
 ((∃ z:P3,0 < z.2.2∧inW ss z)∧(ss≠[]∧∀ k,¬ WK ss ss.length k)∧∃ (p:Addr) (s t:Int) (O:P3) (rest:List P3),RgA ss O rest∧v = .ref p∧H p = some (.tup [.int s,.int t])∧Fq s t (arS O (rAt O rest) (rest.length - 1)).1 (arB O (rAt O rest) (rest.length - 1)))
theorem ar_all {K:PySem.W.Frag} {H:Hp} {ss:List Sd} {Q:VK} (h:∀ (v:V) (H':Hp),zCw K H H'→RTab K H'→zMv ss v H'→Q v H') :
  (∀ (p:Addr) (H':Hp),zCw K H H'→RTab K H'→(∀ z:P3,0 < z.2.2→¬ inW ss z)→H' p = some (.tup [.int 0,.int 1])→Q (.ref p) H') ∧
  (∀ H':Hp,zCw K H H'→RTab K H'→(∃ z:P3,0 < z.2.2∧inW ss z)→¬ (ss≠[]∧∀ k,¬ WK ss ss.length k)→Q .non H') ∧
  ∀ (p:Addr) (x y:Int) (H':Hp) (O:P3) (rest:List P3),zCw K H H'→RTab K H'→(∃ z:P3,0 < z.2.2∧inW ss z)→(ss≠[]∧∀ k,¬ WK ss ss.length k)→RgA ss O rest→H' p = some (.tup [.int x,.int y])→Fq x y (arS O (rAt O rest) (rest.length - 1)).1 (arB O (rAt O rest) (rest.length - 1))→Q (.ref p) H' :=
 ⟨fun p H' s t no e=>h _ _ s t (.inl ⟨no,p,rfl,e⟩),fun H' s t pl nc=>h _ _ s t (.inr (.inl ⟨pl,nc,rfl⟩)),fun p x y H' O rest s t pl cl R e f=>h _ _ s t (.inr (.inr ⟨pl,cl,p,x,y,O,rest,R,rfl,e,f⟩))⟩
theorem zMv.keep {ss:List Sd} {v:V} {H H':Hp} (h:zMv ss v H) (k:∀ p xs,H p = some (.tup xs)→H' p = some (.tup xs)):zMv ss v H':=by
 rcases h with ⟨no,p,e1,e2⟩ | h | ⟨pl,cl,p,s,t,O,rest,R,e1,e2,f⟩
 ·exact .inl ⟨no,p,e1,k _ _ e2⟩
 ·exact .inr (.inl h)
 ·exact .inr (.inr ⟨pl,cl,p,s,t,O,rest,R,e1,k _ _ e2,f⟩)
def zLe (K:PySem.W.Frag):Sp:=fun vs H Q _=>∃ (l:Addr) (ss:List Sd),vs = [.ref l]∧SqL K H l (zAn ss)∧SdOk H ss∧ss.length≤18∧RTab K H∧∀ (v:V) (H':Hp),zCw K H H'→RTab K H'→zMv ss v H'→Q v H'
theorem zRo (F:Fun K "area" "area" zHv f fd) (Z:Zs mg) (h_p_plus:Has P w K mg base "plus" 5 ["one", "other"] (zLt K)) (h_p_triangle:Has P w K mg base "triangle" 5 ["first", "one", "other"] (zGa K)) (h_p_part:Has P w K mg base "part" 4 ["top", "bottom"] (zF4 K)) (h_p_ring:Has P w K mg base "ring" 17 ["sides"] (zMe K)) (h_p_has_no_way:Has P w K mg base "has_no_way" 5 ["sides"] (zEy K)) (h_p_some_spot:Has P w K mg base "some_spot" 9 ["sides"] (zFq K)):FnOk P w K mg base CX0 18 f fd ["sides"] (zLe K):=by
 refine F.ok zE3 (fun vs H Q E h=>?_) (fun cdv A outer s H vs Q E hr h=>?_)
 ·obtain ⟨l,ss,rfl,_⟩:=h
  rfl
 obtain ⟨l,ss,rfl,hl,ok,h18,tab,qa⟩:=h
 obtain ⟨q1,q2,q3⟩:=ar_all (K:=K) qa
 have nz:∀ t∈ss,t.2.1≠0∨t.2.2.1≠0:=fun t ht=>(ok t ht).2.1
 have sm:∀ t∈ss,t.2.1.natAbs≤10 ^ 9∧t.2.2.1.natAbs≤10 ^ 9∧t.2.2.2.natAbs≤10 ^ 13:=fun t ht=>(ok t ht).2.2
 refine ⟨_,(zAg (zBs (zAv zOi (zAh h_p_some_spot (hr.mono (by decide)) rfl (zAa (pv 0) zAe)) zDj (zAw _)) (zAi (zAr (zAh h_p_part (hr.mono (by decide)) rfl (zAa zAc (zAa zAc zAe))))) zA2)
   (zAg (zBs (zHg (zEt (zAh h_p_has_no_way (hr.mono (by decide)) rfl (zAa (pv 0) zAe)))) (zAi (zAr zDj)) zA2)
   (zAg (zAu (i:=1) zE3.nd rfl (Or.inl rfl) (zAh h_p_ring (hr.mono (by decide)) rfl (zAa (pv 0) zAe)))
   (zAg (zAu (i:=2) zE3.nd rfl (Or.inl rfl) (zAh h_p_part (hr.mono (by decide)) rfl (zAa zAc (zAa zAc zAe))))
   (zAg (zCh PassesOwn.never rfl (zPn rfl Z.range (zAa zAc (zAa (zAx zAz rfl Z.len zCs (zAa (pv 1) zAe)) zAe))) (zAp (i:=3) zE3.nd rfl (Or.inl rfl)) (zAi (zAu (i:=2) zE3.nd rfl (Or.inl rfl) (zAh h_p_plus (hr.mono (by decide)) rfl (zAa (pv 2) (zAa (zAh h_p_triangle (hr.mono (by decide)) rfl (zAa (zAq zAk (pv 1) zAc (fun _ _=>rfl)) (zAa (zAq zAk (pv 1) (zAm zBp (pv 3) zAc) (fun _ _=>rfl)) (zAa (zAq zAk (pv 1) (pv 3) (fun _ _=>rfl)) zAe)))) zAe))))))
   (zAi (zAr (pv 2)))))))),?_⟩
 refine ⟨_,rfl,l,ss,rfl,hl,ok,by omega,fun H1 s1 no=>?_,fun sp P H1 s1 asp wsp csp=>?_⟩
 ·refine ⟨rfl,_,rfl,?_⟩
  refine iteT ?_
  refine ⟨0,1,rfl,by decide,by decide +kernel,fun p x y H2 s2 hp ep po=>?_⟩
  obtain ⟨rfl,rfl⟩:=zL1 (c:=0) (b:=1) po
  exact q1 p H2 (zCw.of (s1.trans s2)) (tab.same (s1.trans s2)) no ep
 ·refine ⟨rfl,_,rfl,?_⟩
  refine iteF ?_
  have pl:∃ z:P3,0 < z.2.2∧inW ss z:=⟨P,asp.2.1,wsp⟩
  refine ⟨_,rfl,l,ss,rfl,s1.seq hl,ok.same s1,by omega,fun b H2 s2 hb=>?_⟩
  cases b with
  | false =>
   refine ⟨_,rfl,?_⟩
   refine iteT ?_
   exact q2 H2 (zCw.of (s1.trans s2)) (tab.same (s1.trans s2)) pl fun z=>absurd (hb.mpr z) Bool.false_ne_true
  | true =>
   refine ⟨_,rfl,?_⟩
   refine iteF ?_
   obtain ⟨hne,hnw⟩:=hb.mp rfl
   have s12:=s1.trans s2
   refine ⟨_,rfl,l,ss,rfl,s12.seq hl,ok.same s12,by omega,tab.same s12,fun D us H3 s3 hD tab3 ra=>?_⟩
   have une:=zQt nz hne hnw ra asp.2.1 wsp
   have sT3:zCw K H H3:=(zCw.of s12).trans s3
   refine ⟨0,1,rfl,by decide,by decide +kernel,fun tp x y H4 s4 htp etp po=>?_⟩
   obtain ⟨rfl,rfl⟩:=zL1 (c:=0) (b:=1) po
   obtain ⟨O,rest,rfl⟩:=List.exists_cons_of_ne_nil une
   have R:=rga_of nz hne hnw ra
   obtain ⟨fO,fr⟩:=R.fine sm
   have few:rest.length≤17:=by have z:=ra.few; rw [List.length_cons] at z; omega
   have lm:(rest.map (·.2)).length = rest.length:=List.length_map _
   have eD4:=s4 _ _ ra.at'
   have lr:(zAt (O :: rest)).length = rest.length + 1:=by show (List.map _ (O :: rest)).length = _; rw [List.length_map,List.length_cons]
   have Bp:∀ j,0 < arB O.2 (rAt O.2 (rest.map (·.2))) j:=fun j=>zNc fO.pos fun i _=>(fr i).pos
   refine ⟨_,rfl,D,_,rfl,.inl (SqL.of eD4),2,_,rfl,(by rw [lr]; omega),?_⟩
   refine zGg (lo:=2) (n:=(((zAt (O :: rest)).length:Int) - 2).toNat) (fun j σ H'=>Same H4 H'∧∃ (tq:Addr) (x y:Int),H' tq = some (.tup [.int x,.int y])∧Fq x y (arS O.2 (rAt O.2 (rest.map (·.2))) j).1 (arB O.2 (rAt O.2 (rest.map (·.2))) j)∧∃ u3:Option V,σ = [some (.ref l),some (.ref D),some (.ref tq),u3])
    ⟨Same.refl _,tp,0,1,etp,⟨by decide,rfl,by rw [show (arS O.2 (rAt O.2 (rest.map (·.2))) 0).1 = 0 from rfl]; simp⟩,none,rfl⟩ ?_ ?_
   ·rintro j σ H5 hj ⟨s5,tq,x1,y1,etq,fq,u3,rfl⟩
    rw [lr] at hj
    have hj1:j + 1 < rest.length:=by omega
    have eD5:=s5 _ _ eD4
    have okA:∀ t∈O :: rest,SpOk H5 t:=fun t ht=>((ra.ok t ht).1.same s4).same s5
    have at0:atI (zAt (O :: rest)) 0 = some (.ref O.1):=zFx (j:=0) rfl
    have atk:∀ k:Nat,(h:k < rest.length)→∀ i:Int,i = ((k + 1:Nat):Int)→atI (zAt (O :: rest)) i = some (.ref rest[k].1):=fun k h i e=>by
     rw [e]
     refine zFx ?_
     unfold zAt
     rw [List.getElem?_map,List.getElem?_cons_succ,List.getElem?_eq_getElem h]
     rfl
    have e1:rAt O.2 (rest.map (·.2)) j = (rest[j]'(by omega)).2:=by rw [zJo (by rw [lm]; omega),List.getElem_map]
    have e2:rAt O.2 (rest.map (·.2)) (j + 1) = (rest[j + 1]).2:=by rw [zJo (by rw [lm]; omega),List.getElem_map]
    have sq:Sq K H5 D (zAt (O :: rest)):=.inl (SqL.of eD5)
    refine ⟨_,rfl,_,rfl,D,_,_,.ref O.1,rfl,rfl,sq,at0,_,rfl,_,rfl,_,_,rfl,rfl,D,_,_,.ref (rest[j]'(by omega)).1,rfl,rfl,sq,atk j (by omega) _ (by omega),_,rfl,_,rfl,D,_,_,.ref rest[j + 1].1,rfl,rfl,sq,atk (j + 1) hj1 _ (by omega),O,rest[j]'(by omega),rest[j + 1],rfl,okA _ (.head _),okA _ (.tail _ (List.getElem_mem _)),okA _ (.tail _ (List.getElem_mem _)),fO,by rw [← e1]; exact fr j,by rw [← e2]; exact fr (j + 1),fun p x2 y2 H6 s6 hp ep po=>?_⟩
    have y1b:=Nat.le_trans (fq.yle (Int.ne_of_gt (Bp j))) (zQa fO (by omega) fun i _=>fr i)
    have x1b:=Nat.le_trans (fq.xle (Int.ne_of_gt (Bp j))) (zP1 fO (by omega) fun i _=>fr i)
    have fw1:(rest[j]'(by omega)).2.2.2.natAbs≤10 ^ 19:=by have z:=(fr j).w; rwa [e1] at z
    have fw2:rest[j + 1].2.2.2.natAbs≤10 ^ 19:=by have z:=(fr (j + 1)).w; rwa [e2] at z
    have y2b:=Nat.le_trans po.yle (zPm fO.w fw1 fw2).1
    have x2b:x2.natAbs≤10 ^ 85:=by
     refine Nat.le_trans po.xle (Nat.le_trans (zAf _ _ fO.w (zQf fO (by rw [← e1]; exact fr j) (by rw [← e2]; exact fr (j + 1)))) (by decide +kernel))
    have p1:=fq.pos
    have p2:=po.pos
    refine ⟨tq,p,x1,y1,x2,y2,rfl,s6 _ _ etq,ep,Nat.le_trans x1b (by decide +kernel),Nat.le_trans y1b (by decide +kernel),Nat.le_trans x2b (by decide +kernel),Nat.le_trans y2b (by decide +kernel),by omega,by omega,Nat.lt_of_le_of_lt (zAf _ _ y1b y2b) (by decide +kernel),fun tr x y H7 s7 htr etr pr=>?_⟩
    refine ⟨(s5.trans s6).trans s7,tr,x,y,etr,?_,_,rfl⟩
    refine Fq.plus fO.pos (fr j).pos fq ?_ pr
    rw [e1,e2]
    exact po
   ·rintro σ H5 ⟨s5,tq,x,y,etq,fq,u3,rfl⟩
    have em:(((zAt (O :: rest)).length:Int) - 2).toNat = (rest.map (·.2)).length - 1:=by rw [lr,lm]; omega
    rw [em] at fq
    refine ⟨_,rfl,?_⟩
    have s35:=s4.trans s5
    exact q3 tq x y H5 O.2 (rest.map (·.2)) (sT3.trans (zCw.of s35)) (tab3.same s35) pl ⟨hne,hnw⟩ R etq fq
def dbN (ss:List (List Sd)) (P:P3) (n:Nat):List Int:=((List.range n).filter fun i=>!(inWB (ss.getD i []) P)).map fun i=>((i:Nat):Int)
theorem zSh (ss:List (List Sd)) (P:P3) (n:Nat):dbN ss P (n + 1) = dbN ss P n ++ (if inWB (ss.getD n []) P then [] else [(n:Int)]):=by
 unfold dbN
 rw [List.range_succ,List.filter_append,List.map_append]
 congr 1
 rw [List.filter_cons]
 cases inWB (ss.getD n []) P <;> rfl
theorem zT9 (ss:List (List Sd)) (P:P3) (n:Nat):(dbN ss P n).length≤n:=by
 unfold dbN
 rw [List.length_map]
 have z:=List.length_filter_le (fun i=>!(inWB (ss.getD i []) P)) (List.range n)
 rwa [List.length_range] at z
def db (ss:List (List Sd)) (P:P3):List Int:=dbN ss P ss.length
abbrev Grp:=Addr × List Sd
def zEq (gs:List Grp):List V:=gs.map fun g=>V.ref g.1
theorem zB9 (gs:List Grp):(zEq gs).length = gs.length:=by unfold zEq; rw [List.length_map]
def GrL (H:Hp) (gs:List Grp):Prop:=∀ g∈gs,H g.1 = some (.lst (zAn g.2))∧SdOk H g.2
theorem GrL.same {H H':Hp} {gs:List Grp} (h:GrL H gs) (s:Same H H'):GrL H' gs:=fun g hg=>⟨s _ _ (h g hg).1,(h g hg).2.same s⟩
theorem zSy {gs:List Grp} {i:Nat} {k:Int} (hi:i < gs.length) (hk:k = i):∃ g,gs[i]? = some g∧g∈gs∧atI (zEq gs) k = some (.ref g.1)∧(gs.map (·.2)).getD i [] = g.2:=by
 subst hk
 refine ⟨gs[i],List.getElem?_eq_getElem hi,List.getElem_mem hi,?_,by simp [hi]⟩
 exact zFx (by unfold zEq; rw [List.getElem?_map,List.getElem?_eq_getElem hi]; rfl)
structure Rws (H0:Hp) (D:Addr) (rs:List (Addr × List Int)) (H:Hp):Prop where
 same:Same H0 H
 new:H0 D = none
 at':H D = some (.lst ((rs.map (·.1)).map V.ref))
 rows:∀ t∈rs,H t.1 = some (.lst (t.2.map V.int))∧H0 t.1 = none∧t.1≠D
theorem Rws.app {H0 H H2:Hp} {D p:Addr} {rs:List (Addr × List Int)} {k:List Int} (h:Rws H0 D rs H) (s2:Same H H2) (hp:H p = none) (ep:H2 p = some (.lst (k.map V.int))) :
  Rws H0 D (rs ++ [(p,k)]) (upd H2 D (.lst ((rs.map (·.1)).map V.ref ++ [.ref p]))):=by
 have npD:p≠D:=fun z=>by rw [z,h.at'] at hp; cases hp
 refine ⟨(h.same.trans s2).putNew h.new,h.new,by rw [zAb]; simp,fun u hu=>?_⟩
 rcases List.mem_append.mp hu with hu | hu
 ·obtain ⟨g1,g2,g3⟩:=h.rows u hu
  exact ⟨by rw [zAo g3]; exact s2 _ _ g1,g2,g3⟩
 ·rw [List.mem_singleton] at hu
  subst hu
  exact ⟨by show upd H2 D _ p = _; rw [zAo npD]; exact ep,h.same.free hp,npD⟩
def zG9 (K:PySem.W.Frag):Sp:=fun vs H Q _=>∃ (l p:Addr) (gs:List Grp) (P:P3),vs = [.ref l,.ref p]∧SqL K H l (zEq gs)∧GrL H gs∧gs.length≤100∧Sq K H p [.int P.1,.int P.2.1,.int P.2.2] ∧
 ∀ (D:Addr),H D = none→Q (.ref D) (upd H D (.lst ((db (gs.map (·.2)) P).map V.int)))
theorem zL9 (F:Fun K "doubted" "doubted" zEm f fd) (Z:Zs mg) (h_p_in_water:Has P w K mg base "in_water" 3 ["sides", "place"] (zCu K)):FnOk P w K mg base CX0 4 f fd ["groups", "place"] (zG9 K):=by
 refine F.ok zLk (fun vs H Q E h=>?_) (fun cdv A outer s H vs Q E hr h=>?_)
 ·obtain ⟨l,p,gs,P,rfl,_⟩:=h
  rfl
 obtain ⟨l,p,gs,P,rfl,hl,ok,hn,hp,q⟩:=h
 refine ⟨_,(zAi (zAr (zCl (T:=["number"]) (caps:=[("groups", 0),("place", 1)]) ⟨rfl,by decide +kernel,by decide +kernel,rfl,⟨⟨rfl,rfl,Or.inl rfl⟩,⟨rfl,rfl,Or.inl rfl⟩,True.intro⟩⟩ rfl (zEx rfl Z.range (zAa (zAx zAz rfl Z.len zCs (zAa (pv 0) zAe)) zAe)) (fun _=>(zAp (i:=0) (show (["number", "groups", "place"]:List Str).Nodup by decide +kernel) rfl (Or.inl rfl))) (fun _=>(zKw (zHg (zEt (zAh h_p_in_water (hr.mono (by decide)) rfl (zAa (zAq zAk (pv 1) (pv 0) (fun _ _=>rfl)) (zAa (pv 2) zAe))))))) (fun _=>(pv 0))))),?_⟩
 refine ⟨_,rfl,l,zEq gs,rfl,.inl hl,_,rfl,by rw [zB9]; omega,by rw [zB9]; omega,fun cc D hD=>zJ4 (lo:=0) (n:=(zEq gs).length) (fun i σ ys H'=>H' = upd H D (.lst ys)∧ys = (dbN (gs.map (·.2)) P i).map V.int∧∃ u:Option V,σ = [u,some (.ref l),some (.ref p)])
  ⟨rfl,rfl,none,rfl⟩ (fun i σ ys H' _ ⟨e,_⟩=>by rw [e]; exact zAb) ?_ ?_⟩
 ·rintro i σ ys H' hi ⟨rfl,rfl,u,rfl⟩
  rw [zB9] at hi
  obtain ⟨g,_,mg',at',eg⟩:=zSy hi (k:=0 + (i:Int)) (by omega)
  obtain ⟨e1,e2⟩:=ok g mg'
  have sD:=zAd hD (.lst ((dbN (gs.map (·.2)) P i).map V.int))
  refine ⟨_,rfl,_,rfl,l,_,_,_,rfl,rfl,.inl (sD.seq hl),at',_,rfl,g.1,p,g.2,P,rfl,SqL.of (sD _ _ e1),e2.same sD,?_,_,rfl,?_⟩
  ·exact hp.same sD
  rw [← eg]
  have nx:=zSh (gs.map (·.2)) P i
  have nl:=zT9 (gs.map (·.2)) P i
  cases hw:inWB ((gs.map (·.2)).getD i []) P with
  | true =>
   rw [hw] at nx
   refine iteF ⟨rfl,?_,_,rfl⟩
   rw [nx]
   simp
  | false =>
   rw [hw] at nx
   refine iteT ⟨_,rfl,zAb,zA3 (by rw [List.length_map]; omega),zE8,?_,_,rfl⟩
   rw [nx,List.map_append]
   show _ ++ [V.int (0 + (i:Int))] = _ ++ [V.int (i:Int)]
   rw [Int.zero_add]
 ·rintro σ ys H' ⟨rfl,rfl,u,rfl⟩
  rw [zB9,show gs.length = (gs.map (·.2)).length by rw [List.length_map]]
  exact q D hD
def tri:Nat→Nat
 | 0=>1
 | i + 1=>tri i + 1 + i
theorem zTe (n:Nat) (h:n≤10):tri n≤56:=by
 have z:∀ n,n < 11→tri n≤56:=by decide
 exact z n (by omega)
theorem zGw {n:Nat} (h:n≤9000):n < sizeLine:=Nat.lt_of_le_of_lt h (by decide)
def zHl (ss:List Sd) (P:P3):Prop:=P = (0,0,1)∨(∃ t∈ss,P = pt3 (ftL t.2))∨∃ t∈ss,∃ u∈ss,tn t.2 u.2≠0∧P = pt3 (crL t.2 u.2)
def zA9 (gs:List Grp):List Sd:=gs.flatMap (·.2)
theorem zSx (ss:List Sd) (n:Nat):cutV (zAn ss) none (some (n:Int)) = zAn (ss.take n):=by
 unfold cutV
 rw [show HT.sIx (zAn ss).length 0 none = 0 from rfl,HT.sIx_nat (zAn ss).length (zAn ss).length n,List.drop_zero,Nat.sub_zero]
 rw [zAj]
 unfold zAn
 rw [← List.map_take,← List.map_take]
 by_cases h:n≤ss.length
 ·rw [Nat.min_eq_left h]
 ·rw [Nat.min_eq_right (by omega),List.take_of_length_le (Nat.le_refl _),List.take_of_length_le (by omega)]
structure Tr (ss:List Sd) (nf i j:Nat) (ps:List P3):Prop where
 each:∀ P∈ps,zHl ss P
 zero:((0,0,1):P3)∈ps
 feet:∀ (a:Nat) (t:Sd),a < nf→ss[a]? = some t→pt3 (ftL t.2)∈ps
 meet:∀ (a b:Nat) (t u:Sd),b < a→(a < i∨(a = i∧b < j))→ss[a]? = some t→ss[b]? = some u→tn t.2 u.2≠0→pt3 (crL t.2 u.2)∈ps
theorem Tr.all {ss:List Sd} {ps:List P3} (h:Tr ss ss.length ss.length 0 ps) (P:P3):P∈ps↔zHl ss P:=by
 refine ⟨h.each P,fun z=>?_⟩
 rcases z with rfl | ⟨t,ht,rfl⟩ | ⟨t,ht,u,hu,hn,rfl⟩
 ·exact h.zero
 ·obtain ⟨a,ha,ea⟩:=List.getElem_of_mem ht
  exact h.feet a t ha (by rw [List.getElem?_eq_getElem ha,ea])
 ·obtain ⟨a,ha,ea⟩:=List.getElem_of_mem ht
  obtain ⟨b,hb,eb⟩:=List.getElem_of_mem hu
  have ga:ss[a]? = some t:=by rw [List.getElem?_eq_getElem ha,ea]
  have gb:ss[b]? = some u:=by rw [List.getElem?_eq_getElem hb,eb]
  by_cases h1:b < a
  ·exact h.meet a b t u h1 (.inl ha) ga gb hn
  ·by_cases e:a = b
   ·subst e
    rw [ga] at gb
    cases gb
    exact absurd (by unfold tn; rw [Int.mul_comm]; omega) hn
   ·have hut:tn u.2 t.2≠0:=fun z=>hn (by unfold tn at z ⊢; rw [Int.mul_comm u.2.1,Int.mul_comm u.2.2.1] at z; omega)
    rw [zPz hn]
    exact h.meet b a u t (by omega) (.inl hb) gb ga hut
theorem Tr.foot {ss:List Sd} {i:Nat} {ps:List P3} {t:Sd} (h:Tr ss i i 0 ps) (gt:ss[i]? = some t):Tr ss (i + 1) i 0 (ps ++ [pt3 (ftL t.2)]):=by
 refine ⟨fun P hP=>?_,List.mem_append_left _ h.zero,fun a u ha gu=>?_,fun a b x y hab hc gx gy hn=>List.mem_append_left _ (h.meet a b x y hab hc gx gy hn)⟩
 ·rcases List.mem_append.mp hP with z | z
  ·exact h.each P z
  ·rw [List.mem_singleton] at z
   exact .inr (.inl ⟨t,List.mem_of_getElem? gt,z⟩)
 ·by_cases e:a = i
  ·rw [e,gt] at gu
   cases gu
   exact List.mem_append_right _ (.head _)
  ·exact List.mem_append_left _ (h.feet a u (by omega) gu)
theorem Tr.more {ss:List Sd} {i j:Nat} {ps ps':List P3} {t u:Sd} (h:Tr ss (i + 1) i j ps) (gt:ss[i]? = some t) (gu:ss[j]? = some u) (sub:∀ P∈ps,P∈ps') (new:∀ P∈ps',P∈ps∨(tn t.2 u.2≠0∧P = pt3 (crL t.2 u.2))) (has:tn t.2 u.2≠0→pt3 (crL t.2 u.2)∈ps'):Tr ss (i + 1) i (j + 1) ps':=by
 refine ⟨fun P hP=>?_,sub _ h.zero,fun a x ha gx=>sub _ (h.feet a x ha gx),fun a b x y hab hc gx gy hn=>?_⟩
 ·rcases new P hP with z | ⟨z1,z2⟩
  ·exact h.each P z
  ·exact .inr (.inr ⟨t,List.mem_of_getElem? gt,u,List.mem_of_getElem? gu,z1,z2⟩)
 ·by_cases e:a = i∧b = j
  ·obtain ⟨rfl,rfl⟩:=e
   rw [gt] at gx
   rw [gu] at gy
   cases gx
   cases gy
   exact has hn
  ·exact sub _ (h.meet a b x y hab (by omega) gx gy hn)
theorem Tr.next {ss:List Sd} {i:Nat} {ps:List P3} (h:Tr ss (i + 1) i i ps):Tr ss (i + 1) (i + 1) 0 ps:=⟨h.each,h.zero,h.feet,fun a b t u hab hc gt gu hn=>h.meet a b t u hab (by omega) gt gu hn⟩
structure PlT (H0:Hp) (D:Addr) (qs:List SpT) (H:Hp):Prop where
 same:Same H0 H
 new:H0 D = none
 at':H D = some (.lst (zB1 qs))
 ok:zIa H qs
theorem PlT.app {H0 H H2:Hp} {D p:Addr} {qs:List SpT} {l:List Int} {x:P3} (h:PlT H0 D qs H) (s2:Same H H2) (hp:H p = none) (ep:H2 p = some (.tup (l.map V.int))) (sp:zQs l x) :
  PlT H0 D (qs ++ [(p,x)]) (upd H2 D (.lst (zB1 qs ++ [.ref p]))):=by
 have npD:p≠D:=fun z=>by rw [z,h.at'] at hp; cases hp
 refine ⟨(h.same.trans s2).putNew h.new,h.new,by rw [zAb]; simp [zB1],fun u hu=>?_⟩
 rcases List.mem_append.mp hu with hu | hu
 ·obtain ⟨g1,g2⟩:=h.ok u hu
  exact ⟨by rw [zAo (zDt (s2 _ _ g1) (s2 _ _ h.at') (by intro z; cases z))]; exact s2 _ _ g1,g2⟩
 ·rw [List.mem_singleton] at hu
  subst hu
  refine ⟨?_,sp.pos,sp.low⟩
  show upd H2 D _ p = _
  rw [zAo npD,ep,sp.list]
  rfl
def zDl (K:PySem.W.Frag):Sp:=fun vs H Q _=>∃ (l:Addr) (gs:List Grp),vs = [.ref l]∧SqL K H l (zEq gs)∧GrL H gs∧gs.length≤10∧(∀ g∈gs,g.2.length≤1) ∧
 ∀ (D:Addr) (qs:List SpT) (H':Hp),Same H H'→H D = none→H' D = some (.lst (zB1 qs))→zIa H' qs→(∀ P,P∈qs.map (·.2)↔zHl (zA9 gs) P)→qs.length < 64→Q (.ref D) H'
theorem zGr (F:Fun K "places_to_try" "places_to_try" zBv f fd) (Z:Zs mg) (h_p_crossing:Has P w K mg base "crossing" 4 ["one", "other"] (zCt K)) (h_p_foot:Has P w K mg base "foot" 5 ["side"] (zH5 K)) (h_p_spot:Has P w K mg base "spot" 4 ["x", "y", "w"] (zGm K)):FnOk P w K mg base CX0 6 f fd ["groups"] (zDl K):=by
 refine F.ok zA4 (fun vs H Q E h=>?_) (fun cdv A outer s H vs Q E hr h=>?_)
 ·obtain ⟨l,gs,rfl,_⟩:=h
  rfl
 obtain ⟨l,gs,rfl,hl,ok,hn,h2,q⟩:=h
 refine ⟨_,(zAg (zAu (i:=1) zA4.nd rfl (Or.inl rfl) (zEp zAe))
   (zAg (zCh PassesOwn.never rfl (zBk (pv 0)) (zAp (i:=2) zA4.nd rfl (Or.inl rfl)) (zAi (zE0 (zLm PySem.F.plainAttrs_list PySem.F.slot_list_extend PySem.F.type_list_extend zRj (pv 1) (zAa (pv 2) zAe)))))
   (zAg (zAu (i:=3) zA4.nd rfl (Or.inl rfl) (zEp (zAa (zAh h_p_spot (hr.mono (by decide)) rfl (zAa zAc (zAa zAc (zAa zAc zAe)))) zAe)))
   (zAg (zCh PassesOwn.never rfl (zEx rfl Z.range (zAa (zAx zAz rfl Z.len zCs (zAa (pv 1) zAe)) zAe)) (zAp (i:=4) zA4.nd rfl (Or.inl rfl)) (zAg (zE0 (zLm PySem.F.plainAttrs_list PySem.F.slot_list_append PySem.F.type_list_append zBy (pv 3) (zAa (zAh h_p_foot (hr.mono (by decide)) rfl (zAa (zAq zAk (pv 1) (pv 4) (fun _ _=>rfl)) zAe)) zAe)))
   (zAi (zCh PassesOwn.never rfl (zMt (zCd zC8 (pv 1) zC5 (zDa (pv 4)))) (zAp (i:=5) zA4.nd rfl (Or.inl rfl)) (zAg (zAu (i:=6) zA4.nd rfl (Or.inl rfl) (zAh h_p_crossing (hr.mono (by decide)) rfl (zAa (zAq zAk (pv 1) (pv 4) (fun _ _=>rfl)) (zAa (pv 5) zAe))))
   (zAi (zBs (zAv zM3 (pv 6) zDj (zAw _)) (zAi (zE0 (zLm PySem.F.plainAttrs_list PySem.F.slot_list_append PySem.F.type_list_append zBy (pv 3) (zAa (pv 6) zAe)))) zA2)))))))
   (zAi (zAr (pv 3))))))),?_⟩
 have len:∀ k,k≤gs.length→(zA9 (gs.take k)).length≤k:=fun k=>by
  induction k with
  | zero=>intro _; simp [zA9]
  | succ k ih =>
   intro hk
   have hk':k < gs.length:=by omega
   have z:=ih (by omega)
   have g2:=h2 gs[k] (List.getElem_mem hk')
   have e:zA9 (gs.take (k + 1)) = zA9 (gs.take k) ++ gs[k].2:=by
    unfold zA9
    rw [List.take_succ_eq_append_getElem hk',List.flatMap_append]
    simp
   rw [e,List.length_append]
   omega
 have okS:∀ {H':Hp},GrL H' gs→SdOk H' (zA9 gs):=fun {H'} o t ht=>by
  obtain ⟨g,hg,htg⟩:=List.mem_flatMap.mp ht
  exact (o g hg).2 t htg
 refine ⟨Nat.zero_le _,fun d hd=>?_⟩
 have sd:∀ v,Same H (upd H d v):=fun v=>zAd hd v
 refine ⟨_,rfl,l,rfl,.inl ⟨⟨_,(sd _).seq hl⟩,zBq (K:=K) (a:=l) (xs:=zEq gs) (fun i σ H'=>H' = upd H d (.lst (zAn (zA9 (gs.take i))))∧∃ u2:Option V,σ = [some (.ref l),some (.ref d),u2,none,none,none,none])
  ⟨rfl,none,rfl⟩ (fun i σ H' _ ⟨e,_⟩=>by rw [e]; exact (sd _).seq hl) ?_ ?_⟩⟩
 ·rintro i v σ H' hi ⟨rfl,u2,rfl⟩
  unfold zEq at hi
  rw [List.getElem?_map] at hi
  cases gx:gs[i]? with
  | none=>rw [gx] at hi; cases hi
  | some g =>
   rw [gx] at hi
   cases hi
   have hil:i < gs.length:=(List.getElem?_eq_some_iff.mp gx).1
   have eg:=(ok g (List.mem_of_getElem? gx)).1
   have lz:=len i (by omega)
   have g2:=h2 g (List.mem_of_getElem? gx)
   refine ⟨_,rfl,.inl ⟨rfl,_,SqL.of zAb⟩,_,rfl,d,g.1,_,_,rfl,rfl,zAb,sd _ _ _ eg,?_,?_⟩
   ·rw [zAj,zAj]
    exact small (by omega)
   ·refine ⟨?_,_,rfl⟩
    rw [zE8]
    congr 2
    unfold zA9
    rw [List.take_succ_eq_append_getElem hil,List.flatMap_append,(List.getElem?_eq_some_iff.mp gx).2]
    simp [zAn]
 ·rintro σ H' ⟨rfl,u2,rfl⟩
  rw [zB9,List.take_length]
  have lz:=len gs.length (Nat.le_refl _)
  rw [List.take_length] at lz
  have ss0:SdOk (upd H d (.lst (zAn (zA9 gs)))) (zA9 gs):=okS (ok.same (sd _))
  have s0:=sd (.lst (zAn (zA9 gs)))
  have ed:upd H d (.lst (zAn (zA9 gs))) d = some (.lst (zAn (zA9 gs))):=zAb
  generalize upd H d (.lst (zAn (zA9 gs))) = H1 at ss0 s0 ed ⊢
  clear len okS sd
  generalize hss:zA9 gs = ss at ss0 ed lz q
  refine ⟨0,0,1,rfl,by decide,by decide +kernel,fun p H2 s2 hp ep=>?_⟩
  have e0:lowL (upL 0 0 1) = [0,0,1]:=by decide +kernel
  rw [e0] at ep
  refine ⟨by show 1≤sizeLine; decide,fun D hD=>?_⟩
  have P0:PlT H2 D [(p,0,0,1)] (upd H2 D (.lst [.ref p])):=by
   refine ⟨zAd hD _,hD,zAb,fun u hu=>?_⟩
   rw [List.mem_singleton] at hu
   subst hu
   exact ⟨zAd hD _ _ _ ep,by show (0:Int) < 1; decide,by show Nat.gcd (Nat.gcd 0 0) 1 = 1; decide⟩
  have T0:Tr ss 0 0 0 ([((p,0,0,1):SpT)].map (·.2)):=⟨fun P hP=>by rw [List.mem_singleton.mp hP]; exact .inl rfl,.head _,fun a t h=>absurd h (Nat.not_lt_zero _),fun a b t u h1 h2=>absurd h2 (by omega)⟩
  have hs12:Same H1 H2:=s2
  have ed2:=s2 _ _ ed
  have ok2:=ss0.same s2
  refine ⟨_,rfl,d,zAn ss,rfl,.inl ((zAd hD _).seq (SqL.of ed2)),_,rfl,by rw [zAj]; omega,by rw [zAj]; omega,zGg (lo:=0) (n:=(zAn ss).length) (fun i σ H'=>∃ qs:List SpT,PlT H2 D qs H'∧Tr ss i i 0 (qs.map (·.2))∧qs.length≤tri i∧∃ u4 u5 u6:Option V,σ = [some (.ref l),some (.ref d),u2,some (.ref D),u4,u5,u6])
   ⟨_,P0,T0,Nat.le_refl _,none,none,none,rfl⟩ ?_ ?_⟩
  ·rintro i σ H' hi ⟨qs,Pq,tr,hq,u4,u5,u6,rfl⟩
   rw [zAj] at hi
   obtain ⟨t,mt,gt,at'⟩:=zE7 (ss:=ss) (i:=i) (k:=0 + (i:Int)) (by omega) hi
   have okH:=ok2.same Pq.same
   obtain ⟨et,nt,b1,b2,b3⟩:=okH t mt
   have hq1:=zTe i (by omega)
   have hq2:tri (i + 1) = tri i + 1 + i:=rfl
   refine ⟨_,rfl,.inl ⟨rfl,_,SqL.of Pq.at'⟩,_,rfl,_,rfl,d,_,_,_,rfl,rfl,.inl (SqL.of (Pq.same _ _ ed2)),at',t.1,t.2,rfl,.inr (SqT.of et),nt,b1,b2,fun p3 H3 s3 hp3 ep3=>?_⟩
   refine ⟨D,_,_,rfl,rfl,s3 _ _ Pq.at',zGw (by simp only [zB1,List.length_map]; omega),?_⟩
   have P1:=Pq.app s3 hp3 ep3 (zSa nt).1
   have T1:=tr.foot gt
   generalize upd H3 D (.lst (zB1 qs ++ [.ref p3])) = H4 at P1 ⊢
   refine ⟨_,rfl,_,rfl,_,rfl,d,_,rfl,SqL.of (P1.same _ _ ed2),fun c hc=>?_⟩
   rw [Int.zero_add,zSx]
   rw [Int.zero_add] at at'
   have sc:Same H4 (upd H4 c (.lst (zAn (ss.take i)))):=zAd hc _
   have ec:upd H4 c (.lst (zAn (ss.take i))) c = some (.lst (zAn (ss.take i))):=zAb
   have P2:PlT H2 D (qs ++ [(p3,pt3 (ftL t.2))]) (upd H4 c (.lst (zAn (ss.take i)))):=⟨P1.same.trans sc,P1.new,sc _ _ P1.at',P1.ok.same sc⟩
   have ncD:c≠D:=fun z=>by rw [z,P1.at'] at hc; cases hc
   generalize upd H4 c (.lst (zAn (ss.take i))) = H5 at P2 ec ⊢
   clear P1 sc hc
   refine ⟨c,rfl,⟨_,SqL.of ec⟩,zBq (K:=K) (a:=c) (xs:=zAn (ss.take i)) (fun j σ H'=>H' c = some (.lst (zAn (ss.take i)))∧(∃ qs:List SpT,PlT H2 D qs H'∧Tr ss (i + 1) i j (qs.map (·.2))∧qs.length≤tri i + 1 + j)∧∃ u5 u6:Option V,σ = [some (.ref l),some (.ref d),u2,some (.ref D),some (.int i),u5,u6])
    ⟨ec,⟨_,P2,by rw [List.map_append]; exact T1,by rw [List.length_append,List.length_singleton]; omega⟩,_,_,rfl⟩ (fun j σ H' _ ⟨e,_⟩=>SqL.of e) ?_ ?_⟩
   ·rintro j v σ H6 hj ⟨ec6,⟨qs,Pq,tr,hq⟩,u5,u6,rfl⟩
    obtain ⟨u,gu0,rfl,hjl⟩:=zBf hj
    rw [List.length_take] at hjl
    have gu:ss[j]? = some u:=by rw [List.getElem?_take_of_lt (by omega)] at gu0; exact gu0
    have okH:=ok2.same Pq.same
    obtain ⟨et,nt,b1,b2,b3⟩:=okH t mt
    obtain ⟨eu,nu,c1,c2,c3⟩:=okH u (List.mem_of_getElem? gu)
    refine ⟨_,rfl,_,rfl,d,_,_,_,rfl,rfl,.inl (SqL.of (Pq.same _ _ ed2)),at',_,rfl,t.1,u.1,t.2.1,t.2.2.1,t.2.2.2,u.2.1,u.2.2.1,u.2.2.2,rfl,.inr (SqT.of et),.inr (SqT.of eu),by omega,by omega,by omega,by omega,by omega,fun h0=>?_,fun h0 p7 H7 s7 hp7 ep7=>?_⟩
    ·refine ⟨_,rfl,rfl,_,rfl,?_⟩
     refine iteF ?_
     exact ⟨ec6,⟨qs,Pq,tr.more gt gu (fun P h=>h) (fun P h=>.inl h) fun z=>absurd h0 z,by omega⟩,_,_,rfl⟩
    ·refine ⟨_,rfl,rfl,_,rfl,?_⟩
     refine iteT ?_
     have P7:=Pq.app (l:=crL t.2 u.2) s7 hp7 ep7 (zCj h0).1
     refine ⟨_,rfl,.inl ⟨rfl,_,SqL.of (s7 _ _ Pq.at')⟩,_,rfl,D,_,_,rfl,rfl,s7 _ _ Pq.at',zGw (by simp only [zB1,List.length_map]; omega),?_⟩
     refine ⟨by rw [zAo ncD]; exact s7 _ _ ec6,⟨_,P7,?_,by rw [List.length_append,List.length_singleton]; omega⟩,_,_,rfl⟩
     rw [List.map_append]
     exact tr.more gt gu (fun P h=>List.mem_append_left _ h) (fun P h=>(List.mem_append.mp h).imp id fun z=>⟨h0,List.mem_singleton.mp z⟩) fun _=>List.mem_append_right _ (.head _)
   ·rintro σ H6 ⟨ec6,⟨qs,Pq,tr,hq⟩,u5,u6,rfl⟩
    rw [zAj,List.length_take,Nat.min_eq_left (by omega)] at tr hq
    exact ⟨qs,Pq,tr.next,by omega,_,_,_,rfl⟩
  ·rintro σ H' ⟨qs,Pq,tr,hq,u4,u5,u6,rfl⟩
   rw [zAj] at tr hq
   refine ⟨_,rfl,q D qs H' ((s0.trans s2).trans Pq.same) ((s0.trans s2).free Pq.new) Pq.at' Pq.ok (fun P=>tr.all P) ?_⟩
   have:=zTe ss.length (by omega)
   omega
theorem zE1:∀ {a b:List (List Int)},a.map keyI = b.map keyI→a = b
 | [],[],_=>rfl
 | [],_ :: _,h=>nomatch h
 | _ :: _,[],h=>nomatch h
 | x :: a,y :: b,h=>by
  rw [List.map_cons,List.map_cons] at h
  injection h with h1 h2
  rw [zKl h1,zE1 h2]
theorem TabK.put_or {kvs:List (List Key × V)} {ks ks':List (List Int)} {k:List Int} {v:V} (h:TabK kvs ks) (h':TabK (putK kvs (keyI k) v) ks'):ks' = ks∨ks' = ks ++ [k]:=by
 have e:=h'.keys
 unfold putK at e
 split at e
 ·left
  refine zE1 ?_
  rw [← e,← h.keys,List.map_map]
  refine List.map_congr_left fun a _=>?_
  show (if a.1 = keyI k then (a.1,v) else a).1 = a.1
  split <;> rfl
 ·right
  refine zE1 ?_
  rw [← e,List.map_append,List.map_append,h.keys]
  rfl
structure zO9 (H:Hp) (gs:List Grp) (kvs:List (List Key × V)) (ks:List (List Int)):Prop where
 tab:TabK kvs ks
 spot:∀ k∈ks,∃ sp:SpT,valV kvs (keyI k) = some (.ref sp.1)∧zIa H [sp]∧k = db (gs.map (·.2)) sp.2∧zHl (zA9 gs) sp.2
structure zUh (gs:List Grp) (ks:List (List Int)):Prop where
 ne:ks≠[]
 least:∀ k∈ks,∀ P,zHl (zA9 gs) P→k.length≤(db (gs.map (·.2)) P).length
 all:∀ P,zHl (zA9 gs) P→(∀ k∈ks,(db (gs.map (·.2)) P).length≤k.length)→db (gs.map (·.2)) P∈ks
theorem zO9.put {H H':Hp} {gs:List Grp} {kvs:List (List Key × V)} {ks:List (List Int)} (sh:zO9 H gs kvs ks) {x:SpT} (hx:zIa H' [x]) (tr:zHl (zA9 gs) x.2) (keep:∀ b xs,H b = some (.tup xs)→H' b = some (.tup xs)) :
  ∃ ks',zO9 H' gs (putK kvs (keyI (db (gs.map (·.2)) x.2)) (.ref x.1)) ks'∧(∀ k,k∈ks'↔k∈ks∨k = db (gs.map (·.2)) x.2)∧ks'.length≤ks.length + 1:=by
 obtain ⟨ks',t1,t2,t3⟩:=sh.tab.put (db (gs.map (·.2)) x.2) (.ref x.1)
 refine ⟨ks',⟨t1,fun k hk=>?_⟩,t2,t3⟩
 by_cases e:k = db (gs.map (·.2)) x.2
 ·exact ⟨x,by rw [zNz,if_pos (by rw [e])],hx,e,tr⟩
 ·obtain ⟨sp,v1,v2,v3,v4⟩:=sh.spot k (((t2 k).mp hk).resolve_right e)
  refine ⟨sp,by rw [zNz,if_neg (fun z=>e (zKl z))]; exact v1,fun u hu=>?_,v3,v4⟩
  exact ⟨keep _ _ (v2 u hu).1,(v2 u hu).2⟩
theorem zJx {ts:List (Addr × List Key)} {D:Addr} {g:TG} {te:TE} {σ0:St} {H1:Hp} {Q:VK} (Pv:Nat→St→List V→Hp→Prop) (h0:Pv 0 σ0 [] (upd H1 D (.lst []))) (hl:∀ i σ ys H,Pv i σ ys H→H D = some (.lst ys))
  (hs:∀ i t σ ys H,ts[i]? = some t→Pv i σ ys H→g (.ref t.1) σ H fun σ2 H2=>te σ2 H2 fun y H4=>H4 D = some (.lst ys)∧ys.length < sizeLine∧Pv (i + 1) σ2 (ys ++ [y]) (upd H4 D (.lst (ys ++ [y]))))
  (hd:∀ σ ys H,Pv ts.length σ ys H→Q (.ref D) H):zG6 (Itk ts) D g tYes te σ0 H1 Q:=by
 refine ⟨fun i m σ ys H=>m = ts.length - i∧i≤ts.length∧Pv i σ ys H,⟨_,rfl,Nat.zero_le _,h0⟩,?_⟩
 rintro i m σ ys H ⟨rfl,hi,p⟩
 refine ⟨hl i σ ys H p,?_⟩
 by_cases hlt:i < ts.length
 ·refine .inr ⟨hlt,Pv (i + 1),fun σ' zs H' z=>⟨ts.length - (i + 1),by omega,rfl,hlt,z⟩,fun x H' y=>?_⟩
  obtain ⟨rfl,t,gt,rfl⟩:=y
  exact hs i t σ ys _ gt p
 ·have e:i = ts.length:=by omega
  subst e
  exact .inl ⟨Nat.le_refl _,hd σ ys H p⟩
def zDs (K:PySem.W.Frag):Sp:=fun vs H Q _=>∃ (l:Addr) (gs:List Grp),vs = [.ref l]∧SqL K H l (zEq gs)∧GrL H gs∧gs.length≤10∧(∀ g∈gs,g.2.length≤1) ∧
 ∀ (D:Addr) (kvs:List (List Key × V)) (ks:List (List Int)) (H':Hp),Same H H'→H D = none→H' D = some (.dT kvs)→zO9 H' gs kvs ks→zUh gs ks→ks.Pairwise (fun a b=>HT.lexLt b a = false)→ks.length≤64→Q (.ref D) H'
theorem zG3 (F:Fun K "least_doubts" "least_doubts" zB4 f fd) (Z:Zs mg) (h_p_places_to_try:Has P w K mg base "places_to_try" 6 ["groups"] (zDl K)) (h_p_doubted:Has P w K mg base "doubted" 4 ["groups", "place"] (zG9 K)):FnOk P w K mg base CX0 7 f fd ["groups"] (zDs K):=by
 refine F.ok zBd (fun vs H Q E h=>?_) (fun cdv A outer s H vs Q E hr h=>?_)
 ·obtain ⟨l,gs,rfl,_⟩:=h
  rfl
 obtain ⟨l,gs,rfl,hl,ok,hn,h2,q⟩:=h
 have hu1:=Nat.lt_of_le_of_lt (Nat.add_le_add_left (show 1≤64 by decide) _) hr.units
 have hu2:=Nat.lt_of_le_of_lt (Nat.add_le_add_left (show 2≤64 by decide) _) hr.units
 refine ⟨_,(zAg (zAu (i:=1) zBd.nd rfl (Or.inl rfl) zHr)
   (zAg (zCh PassesOwn.never rfl (zBk (zAh h_p_places_to_try (hr.mono (by decide)) rfl (zAa (pv 0) zAe))) (zAp (i:=2) zBd.nd rfl (Or.inl rfl)) (zAi (zKd hu1 (pv 1) (zBt zF8 rfl Z.tuple zJ9 (zAa (zAh h_p_doubted (hr.mono (by decide)) rfl (zAa (pv 0) (zAa (pv 2) zAe))) zAe)) (pv 2) rfl)))
   (zAg (zAu (i:=3) zBd.nd rfl (Or.inl rfl) (zAx (zQh rfl) rfl Z.min bt_min (zAa (zNv (T:=["choice"]) (caps:=[]) ⟨rfl,by decide +kernel,by decide +kernel,rfl,True.intro⟩ rfl (pv 1) (fun _=>(zAp (i:=0) (show (["choice"]:List Str).Nodup by decide +kernel) rfl (Or.inl rfl))) (fun _=>zBg) (fun _=>(zAx zAz rfl Z.len zCs (zAa (pv 0) zAe)))) zAe)))
   (zAg (zAu (i:=4) zBd.nd rfl (Or.inl rfl) zHr)
   (zAg (zCh PassesOwn.never rfl (zBk (zAx (zKo hu2) rfl Z.sorted zIn (zAa (zBt (zEw rfl) rfl Z.list zEl (zAa (pv 1) zAe)) zAe))) (zAp (i:=5) zBd.nd rfl (Or.inl rfl)) (zAi (zBs (zAv zFo (zAx zAz rfl Z.len zCs (zAa (pv 5) zAe)) (pv 3) (zAw _)) (zAi (zKd hu1 (pv 4) (pv 5) (zU9 hu1 (pv 1) (pv 5) (fun _ _=>rfl)) rfl)) zA2)))
   (zAi (zAr (pv 4)))))))),?_⟩
 refine fun d hd=>?_
 have s0:=zAd hd (.dT [])
 refine ⟨_,rfl,l,gs,rfl,s0.seq hl,ok.same s0,hn,h2,fun p1 qs H1 s1 hp1 ep1 okq mem hq=>?_⟩
 have ed1:=s1 _ _ (show upd H d (.dT []) d = some (.dT []) from zAb)
 refine ⟨p1,rfl,.inl ⟨⟨_,SqL.of ep1⟩,zBq (K:=K) (a:=p1) (xs:=zB1 qs) (fun i σ H'=>(∀ b o,H1 b = some o→b≠d→H' b = some o)∧(∃ kvs ks,H' d = some (.dT kvs)∧zO9 H' gs kvs ks∧ks.length≤i∧∀ j x,j < i→qs[j]? = some x→db (gs.map (·.2)) x.2∈ks)∧∃ u2 u3 u4 u5:Option V,σ = [some (.ref l),some (.ref d),u2,u3,u4,u5])
  ⟨fun b o e _=>e,⟨[],[],ed1,⟨.nil,fun k hk=>nomatch hk⟩,Nat.le_refl _,fun j x h=>absurd h (Nat.not_lt_zero _)⟩,none,none,none,none,rfl⟩ (fun i σ H' _ ⟨e,_⟩=>SqL.of (e _ _ ep1 ?_)) ?_ ?_⟩⟩
 ·exact zDt ep1 ed1 (by intro z; cases z)
 ·rintro i v σ H2 hi ⟨kp,⟨kvs,ks,eD,sh,hk,done⟩,u2,u3,u4,u5,rfl⟩
  rw [List.getElem?_map,List.getElem?_map] at hi
  cases gx:qs[i]? with
  | none=>rw [gx] at hi; cases hi
  | some x =>
   rw [gx] at hi
   cases hi
   have hx:=okq x (List.mem_of_getElem? gx)
   have nxd:x.1≠d:=zDt hx.1 ed1 (by intro z; cases z)
   have ex2:=kp _ _ hx.1 nxd
   have ld:∀ {b:Addr} {o:HO},H b = some o→b≠d:=fun {b o} e z=>by rw [z,hd] at e; cases e
   have h12:∀ {b:Addr} {o:HO},H b = some o→H2 b = some o:=fun {b o} e=>kp _ _ (s1 _ _ (s0 _ _ e)) (ld e)
   have s02:Same H H2:=fun b o e=>h12 e
   refine ⟨_,rfl,_,rfl,_,rfl,_,rfl,l,x.1,gs,x.2,rfl,s02.seq hl,ok.same s02,by omega,.inr (SqT.of ex2),fun D hD=>?_⟩
   have sD:=zAd hD (.lst ((db (gs.map (·.2)) x.2).map V.int))
   refine ⟨D,_,rfl,.inl ⟨SqL.of zAb,fun t ht=>?_⟩⟩
   have st:=zAd ht (.tup ((db (gs.map (·.2)) x.2).map V.int))
   have eD4:=st _ _ (sD _ _ eD)
   have kl:=sh.tab.len
   have s24:=sD.trans st
   have et:upd (upd H2 D (.lst ((db (gs.map (·.2)) x.2).map V.int))) t (.tup ((db (gs.map (·.2)) x.2).map V.int)) t = some (.tup ((db (gs.map (·.2)) x.2).map V.int)):=zAb
   generalize upd (upd H2 D (.lst ((db (gs.map (·.2)) x.2).map V.int))) t (.tup ((db (gs.map (·.2)) x.2).map V.int)) = H4 at s24 eD4 et ⊢
   have hi2:i < qs.length:=(List.getElem?_eq_some_iff.mp gx).1
   refine ⟨d,_,rfl,DPut.t (k:=keyI (db (gs.map (·.2)) x.2)) eD4 (by rw [zEr]; exact et) (by rw [kl]; exact zGw (by omega)),?_⟩
   have keepT:∀ (b:Addr) (xs:List V),H2 b = some (.tup xs)→upd H4 d (.dT (putK kvs (keyI (db (gs.map (·.2)) x.2)) (.ref x.1))) b = some (.tup xs):=fun b xs e=>by
    rw [zAo (zDt (s24 _ _ e) eD4 (by intro z; cases z))]
    exact s24 _ _ e
   obtain ⟨ks',sh',mem',len'⟩:=sh.put (H':=upd H4 d (.dT (putK kvs (keyI (db (gs.map (·.2)) x.2)) (.ref x.1)))) (x:=x) (fun u hu=>by rw [List.mem_singleton] at hu; subst hu; exact ⟨keepT _ _ ex2,hx.2⟩) ((mem x.2).mp (List.mem_map_of_mem (List.mem_of_getElem? gx))) keepT
   refine ⟨fun b o e n=>by rw [zAo n]; exact s24 _ _ (kp b o e n),⟨_,ks',zAb,sh',by omega,fun j y hj gy=>?_⟩,_,_,_,_,rfl⟩
   by_cases e:j = i
   ·rw [e,gx] at gy
    cases gy
    exact (mem' _).mpr (.inr rfl)
   ·exact (mem' _).mpr (.inl (done j y (by omega) gy))
 ·rintro σ H2 ⟨kp,⟨kvs,ks,eD,sh,hk,done⟩,u2,u3,u4,u5,rfl⟩
  have lq:(zB1 qs).length = qs.length:=by simp
  rw [lq] at hk done
  have ld:∀ {b:Addr} {o:HO},H b = some o→b≠d:=fun {b o} e z=>by rw [z,hd] at e; cases e
  have s02:Same H H2:=fun b o e=>kp _ _ (s1 _ _ (s0 _ _ e)) (ld e)
  have all:∀ P,zHl (zA9 gs) P→db (gs.map (·.2)) P∈ks:=fun P hP=>by
   obtain ⟨x,hx,e⟩:=List.mem_map.mp ((mem P).mpr hP)
   obtain ⟨j,hj,ej⟩:=List.getElem_of_mem hx
   rw [← e]
   exact done j x hj (by rw [List.getElem?_eq_getElem hj,ej])
  clear kp done okq mem
  refine ⟨_,rfl,d,kvs,rfl,eD,fun ts ets hts cc D hD=>zJx (fun i σ ys H'=>H' = upd (zDe H2 d) D (.lst ys)∧ys = ((ts.take i).map fun t=>V.int (t.2.length:Int))∧∃ u:Option V,σ = [u])
   ⟨rfl,rfl,none,rfl⟩ (fun i σ ys H' ⟨e,_⟩=>by rw [e]; exact zAb) ?_ ?_⟩
  ·rintro i t σ ys H' gt ⟨rfl,rfl,u,rfl⟩
   have ht:=hts t (List.mem_of_getElem? gt)
   have htd:t.1≠d:=zDt ht eD (by intro z; cases z)
   have htD:t.1≠D:=fun z=>by rw [z,hD] at ht; cases ht
   have til:i < ts.length:=(List.getElem?_eq_some_iff.mp gt).1
   have tl:ts.length = kvs.length:=by have z:=congrArg List.length ets; rwa [List.length_map,List.length_map] at z
   have kl:=sh.tab.len
   refine ⟨_,rfl,t.1,_,rfl,.inr (SqT.of (by rw [zAo htD,zD8 htd]; exact ht)),zAb,zGw (by rw [List.length_map,List.length_take]; omega),zE8,?_,_,rfl⟩
   rw [zA8 gt,List.map_append,List.length_map]
   rfl
  ·rintro σ ys H' ⟨rfl,rfl,u,rfl⟩
   refine fun _=>?_
   have nDd:D≠d:=fun z=>by rw [z,eD] at hD; cases hD
   rw [zRh eD nDd,List.take_length]
   have lens:(ts.map fun t=>(t.2.length:Int)) = ks.map fun k=>(k.length:Int):=by
    have z:=congrArg (List.map fun t:List Key=>(t.length:Int)) (ets.trans sh.tab.keys)
    rw [List.map_map,List.map_map] at z
    refine z.trans (List.map_congr_left fun k _=>?_)
    show ((keyI k).length:Int) = _
    unfold keyI
    rw [List.length_map]
   have kne:ks≠[]:=fun z=>by have:=all (0,0,1) (.inl rfl); rw [z] at this; cases this
   refine ⟨D,ts.map (fun t=>(t.2.length:Int)),rfl,SqL.of (by rw [zAb,List.map_map]; rfl),by rw [lens]; exact fun z=>kne (List.map_eq_nil_iff.mp z),fun M m1 m2=>?_⟩
   rw [lens] at m1 m2
   obtain ⟨k0,mk0,ek0⟩:=List.mem_map.mp m1
   have m3:∀ k∈ks,M≤(k.length:Int):=fun k hk=>m2 _ (List.mem_map_of_mem (f:=fun k:List Int=>(k.length:Int)) hk)
   have s3:=zAd hD (.lst (ts.map fun t=>V.int (t.2.length:Int)))
   generalize upd H2 D (.lst (ts.map fun t=>V.int (t.2.length:Int))) = H3 at s3 ⊢
   clear lens m1 m2 ets hts
   refine fun d2 hd2=>?_
   have s4:=zAd hd2 (.dT [])
   have ed4:=(s3.trans s4) _ _ eD
   have e24:upd H3 d2 (.dT []) d2 = some (.dT []):=zAb
   have ndd:d≠d2:=fun z=>by rw [← z] at hd2; rw [s3 _ _ eD] at hd2; cases hd2
   have s24:=s3.trans s4
   have hd20:H2 d2 = none:=s3.free hd2
   generalize upd H3 d2 (.dT []) = H4 at s24 ed4 e24 ⊢
   clear s3 s4
   refine ⟨_,rfl,d,kvs,rfl,ed4,fun p5 ts5 hp5 ets5 hts5=>?_⟩
   obtain ⟨us,w1,w2,w3⟩:=sh.tab.refs ets5 hts5
   have s5:=zAd hp5 (.lst ((ts5.map (·.1)).map V.ref))
   have ep5:upd H4 p5 (.lst ((ts5.map (·.1)).map V.ref)) p5 = some (.lst ((us.map (·.1)).map V.ref)):=by rw [zAb,w1]
   generalize upd H4 p5 (.lst ((ts5.map (·.1)).map V.ref)) = H5 at s5 ep5 ⊢
   refine ⟨p5,us,rfl,SqL.of ep5,fun t ht=>s5 _ _ (w3 t ht),(by have z:=congrArg List.length w2; rw [List.length_map] at z; omega),fun p6 us6 hp6 pm pw=>?_⟩
   have s6:=zAd hp6 (.lst ((us6.map (·.1)).map V.ref))
   have ep6:upd H5 p6 (.lst ((us6.map (·.1)).map V.ref)) p6 = some (.lst ((us6.map (·.1)).map V.ref)):=zAb
   generalize upd H5 p6 (.lst ((us6.map (·.1)).map V.ref)) = H6 at s6 ep6 ⊢
   have s46:=s5.trans s6
   have eu6:∀ u∈us6,H6 u.1 = some (.tup (u.2.map V.int)):=fun u hu=>s46 _ _ (w3 u (pm.mem_iff.mp hu))
   have mu6:∀ k,k∈ks↔∃ u∈us6,u.2 = k:=fun k=>by
    rw [← w2,List.mem_map]
    exact ⟨fun ⟨u,h1,h2⟩=>⟨u,pm.mem_iff.mpr h1,h2⟩,fun ⟨u,h1,h2⟩=>⟨u,pm.mem_iff.mp h1,h2⟩⟩
   have lu:us6.length≤64:=by
    have z:=congrArg List.length w2
    rw [List.length_map] at z
    rw [pm.length_eq,z]
    omega
   have e26:=s46 _ _ e24
   have ed6:=s46 _ _ ed4
   have s26:=s24.trans s46
   clear w1 w2 w3 pm ep5 s5 s6 hp5 hp6 ets5 hts5
   refine ⟨p6,rfl,.inl ⟨⟨_,SqL.of ep6⟩,zBq (K:=K) (a:=p6) (xs:=(us6.map (·.1)).map V.ref) (fun i σ H'=>(∀ b o,H6 b = some o→b≠d2→H' b = some o)∧(∃ kvs2 ks2,H' d2 = some (.dT kvs2)∧zO9 H' gs kvs2 ks2∧ks2.length≤i∧ks2.Sublist ((us6.take i).map (·.2))∧∀ k,k∈ks2↔∃ j u,j < i∧us6[j]? = some u∧u.2 = k∧(k.length:Int) = M)∧∃ u5:Option V,σ = [some (.ref l),some (.ref d),u2,some (.int M),some (.ref d2),u5])
    ⟨fun b o e _=>e,⟨[],[],e26,⟨.nil,(fun k hk=>nomatch hk)⟩,Nat.le_refl _,List.nil_sublist _,fun k=>⟨(fun h=>nomatch h),fun ⟨j,u,h,_⟩=>absurd h (Nat.not_lt_zero _)⟩⟩,_,rfl⟩ (fun i σ H' _ ⟨e,_⟩=>SqL.of (e _ _ ep6 (zDt ep6 e26 (by intro z; cases z)))) ?_ ?_⟩⟩
   ·rintro i v σ H7 hi ⟨kp,⟨kvs2,ks2,eD7,sh2,hk2,sub2,mem2⟩,u5,rfl⟩
    rw [List.getElem?_map,List.getElem?_map] at hi
    cases gx:us6[i]? with
    | none=>rw [gx] at hi; cases hi
    | some x =>
     rw [gx] at hi
     cases hi
     have hx:=eu6 x (List.mem_of_getElem? gx)
     have ex7:=kp _ _ hx (zDt hx e26 (by intro z; cases z))
     have ed7:=kp _ _ ed6 ndd
     have hi2:i < us6.length:=(List.getElem?_eq_some_iff.mp gx).1
     have xk:x.2∈ks:=(mu6 x.2).mpr ⟨x,List.mem_of_getElem? gx,rfl⟩
     refine ⟨_,rfl,x.1,_,rfl,.inr (SqT.of ex7),_,rfl,rfl,_,rfl,?_⟩
     rw [List.length_map]
     refine ifE (fun he=>?_) (fun he=>?_)
     ·obtain ⟨sp,v1,v2,v3,v4⟩:=sh.spot x.2 xk
      have hsp:=v2 sp (.head _)
      have esp6:=s26 _ _ hsp.1
      have esp7:=kp _ _ esp6 (zDt esp6 e26 (by intro z; cases z))
      have kl:=sh2.tab.len
      refine ⟨_,rfl,_,rfl,d,.ref sp.1,rfl,by rw [← v1]; exact DGet.t (k:=keyI x.2) ed7 (by rw [zEr]; exact ex7),?_⟩
      refine ⟨_,rfl,_,rfl,d2,_,rfl,DPut.t (k:=keyI x.2) eD7 (by rw [zEr]; exact ex7) (by rw [kl]; exact zGw (by omega)),?_⟩
      have keepT:∀ (b:Addr) (xs:List V),H7 b = some (.tup xs)→upd H7 d2 (.dT (putK kvs2 (keyI x.2) (.ref sp.1))) b = some (.tup xs):=fun b xs e=>by
       rw [zAo (zDt e eD7 (by intro z; cases z))]
       exact e
      obtain ⟨ks',sh',mem',len'⟩:=sh2.put (H':=upd H7 d2 (.dT (putK kvs2 (keyI x.2) (.ref sp.1)))) (x:=sp) (fun u hu=>by rw [List.mem_singleton] at hu; subst hu; exact ⟨keepT _ _ esp7,hsp.2⟩) v4 keepT
      rw [← v3] at sh' mem'
      refine ⟨fun b o e n=>by rw [zAo n]; exact kp b o e n,⟨_,ks',zAb,sh',by omega,?_,fun k=>?_⟩,_,rfl⟩
      ·rw [zA8 gx,List.map_append]
       rcases TabK.put_or sh2.tab sh'.tab with e | e
       ·rw [e]; exact sub2.trans (List.sublist_append_left _ _)
       ·rw [e]; exact List.Sublist.append sub2 (List.Sublist.refl _)
      rw [mem' k,mem2 k]
      refine ⟨fun z=>?_,fun ⟨j,u,h1,h2,h3,h4⟩=>?_⟩
      ·rcases z with ⟨j,u,h1,h2⟩ | z
       ·exact ⟨j,u,by omega,h2⟩
       ·exact ⟨i,x,Nat.lt_succ_self _,gx,z.symm,by rw [z]; exact he⟩
      ·by_cases e:j = i
       ·rw [e,gx] at h2
        cases h2
        exact .inr h3.symm
       ·exact .inl ⟨j,u,by omega,h2,h3,h4⟩
     ·refine ⟨kp,⟨kvs2,ks2,eD7,sh2,by omega,by rw [zA8 gx,List.map_append]; exact sub2.trans (List.sublist_append_left _ _),fun k=>?_⟩,_,rfl⟩
      rw [mem2 k]
      refine ⟨fun ⟨j,u,h1,h2⟩=>⟨j,u,by omega,h2⟩,fun ⟨j,u,h1,h2,h3,h4⟩=>?_⟩
      by_cases e:j = i
      ·rw [e,gx] at h2
       cases h2
       rw [h3] at he
       exact absurd h4 he
      ·exact ⟨j,u,by omega,h2,h3,h4⟩
   ·rintro σ H7 ⟨kp,⟨kvs2,ks2,eD7,sh2,hk2,sub2,mem2⟩,u5,rfl⟩
    refine ⟨_,rfl,?_⟩
    have n02:H d2 = none:=s02.free hd20
    have same7:Same H H7:=fun b o e=>kp _ _ (s26 _ _ (s02 _ _ e)) fun z=>by rw [z,n02] at e; cases e
    have lu6:((us6.map (·.1)).map V.ref).length = us6.length:=by simp
    rw [lu6] at mem2
    have in2:∀ k,k∈ks2↔k∈ks∧(k.length:Int) = M:=fun k=>by
     rw [mem2,mu6]
     refine ⟨fun ⟨j,u,h1,h2,h3,h4⟩=>⟨⟨u,List.mem_of_getElem? h2,h3⟩,h4⟩,fun ⟨⟨u,h1,h2⟩,h3⟩=>?_⟩
     obtain ⟨j,hj,ej⟩:=List.getElem_of_mem h1
     exact ⟨j,u,hj,by rw [List.getElem?_eq_getElem hj,ej],h2,h3⟩
    refine q d2 kvs2 ks2 H7 same7 n02 eD7 sh2 ⟨fun z=>?_,fun k hk P hP=>?_,fun P hP hall=>?_⟩ ?_ ?_
    ·have:=(in2 k0).mpr ⟨mk0,ek0⟩
     rw [z] at this
     cases this
    ·have z1:=((in2 k).mp hk).2
     have z2:=m3 _ (all P hP)
     omega
    ·refine (in2 _).mpr ⟨all P hP,?_⟩
     have z1:=hall k0 ((in2 k0).mpr ⟨mk0,ek0⟩)
     have z2:=m3 _ (all P hP)
     omega
    ·rw [lu6,List.take_length] at sub2
     refine List.Pairwise.sublist sub2 ?_
     rw [List.pairwise_map]
     exact pw
    ·rw [lu6] at hk2
     exact Nat.le_trans hk2 lu
def zG7 (K:PySem.W.Frag):Sp:=fun vs H Q _=>∃ (l:Addr) (gs:List Grp),vs = [.ref l]∧SqL K H l (zEq gs)∧GrL H gs∧gs.length≤10∧(∀ g∈gs,g.2.length≤1) ∧
 ∀ (D:Addr) (fs:List (Addr × List Int)) (H':Hp),Same H H'→H D = none→H' D = some (.lst ((fs.map (·.1)).map V.ref))→(∀ t∈fs,H' t.1 = some (.lst (t.2.map V.int))∧H t.1 = none∧t.1≠D)→(∀ k∈fs.map (·.2),∃ P,zHl (zA9 gs) P∧k = db (gs.map (·.2)) P)→zUh gs (fs.map (·.2))→(fs.map (·.2)).Nodup→(fs.map (·.2)).Pairwise (fun a b=>HT.lexLt b a = false)→fs.length≤64→Q (.ref D) H'
theorem zMg (F:Fun K "choices" "choices" zD5 f fd) (Z:Zs mg) (h_p_least_doubts:Has P w K mg base "least_doubts" 7 ["groups"] (zDs K)):FnOk P w K mg base CX0 8 f fd ["groups"] (zG7 K):=by
 refine F.ok zLu (fun vs H Q E h=>?_) (fun cdv A outer s H vs Q E hr h=>?_)
 ·obtain ⟨l,gs,rfl,_⟩:=h
  rfl
 obtain ⟨l,gs,rfl,hl,ok,hn,h2,q⟩:=h
 refine ⟨_,(zAi (zAr (zNv (T:=["choice"]) (caps:=[]) ⟨rfl,by decide +kernel,by decide +kernel,rfl,True.intro⟩ rfl (zAh h_p_least_doubts (hr.mono (by decide)) rfl (zAa (pv 0) zAe)) (fun _=>(zAp (i:=0) (show (["choice"]:List Str).Nodup by decide +kernel) rfl (Or.inl rfl))) (fun _=>zBg) (fun _=>(zBt zB7 rfl Z.list zEl (zAa (pv 0) zAe)))))),?_⟩
 refine ⟨_,rfl,l,gs,rfl,hl,ok,hn,h2,fun d kvs ks H1 s1 hd ed sh le pw lk=>?_⟩
 refine ⟨d,kvs,rfl,ed,fun ts ets hts cc D hD=>?_⟩
 obtain ⟨us,w1,w2,w3⟩:=sh.tab.refs ets hts
 have lt:ts.length = us.length:=by have z:=congrArg List.length w1; rw [List.length_map,List.length_map] at z; exact z.symm
 have lu:us.length = ks.length:=by have z:=congrArg List.length w2; rwa [List.length_map] at z
 have nDd:D≠d:=fun z=>by rw [z,ed] at hD; cases hD
 have hD':zDe H1 d D = none:=zD0 hD
 refine zJx (fun i σ ys H'=>(∃ rs:List (Addr × List Int),ys = (rs.map (·.1)).map V.ref∧Rws (zDe H1 d) D rs H'∧rs.map (·.2) = ks.take i)∧∃ u:Option V,σ = [u])
  ⟨⟨[],rfl,⟨zAd hD' _,hD',zAb,(fun t ht=>nomatch ht)⟩,rfl⟩,none,rfl⟩ (fun i σ ys H' ⟨⟨rs,e,R,_⟩,_⟩=>by rw [e]; exact R.at') ?_ ?_
 ·rintro i t σ ys H' gt ⟨⟨rs,rfl,R,em⟩,u,rfl⟩
  have hi:i < ts.length:=(List.getElem?_eq_some_iff.mp gt).1
  have gu:us[i]? = some us[i]:=List.getElem?_eq_getElem (by omega)
  have e1:us[i].1 = t.1:=by
   have z:=congrArg (fun l:List Addr=>l[i]?) w1
   simp only [List.getElem?_map,gu,gt,Option.map_some] at z
   exact Option.some.inj z
  have ek:ks[i]? = some us[i].2:=by rw [← w2,List.getElem?_map,gu]; rfl
  have et:=w3 us[i] (List.getElem_mem _)
  rw [e1] at et
  have ntd:t.1≠d:=zDt et ed (by intro z; cases z)
  have et':=R.same _ _ ((zD8 ntd).trans et)
  have lr:rs.length = i:=by have z:=congrArg List.length em; rw [List.length_map,List.length_take] at z; omega
  refine ⟨_,rfl,t.1,_,rfl,.inr (SqT.of et'),fun c hc=>?_⟩
  have sc:=zAd hc (.lst (us[i].2.map V.int))
  refine ⟨sc _ _ R.at',zGw (by simp only [List.length_map]; omega),⟨_,by simp,R.app sc hc zAb,?_⟩,_,rfl⟩
  rw [List.map_append,em,zA8 ek]
  rfl
 ·rintro σ ys H' ⟨⟨rs,rfl,R,em⟩,u,rfl⟩ hn'
  rw [lt,lu,List.take_length] at em
  have nk:∀ {b:Addr} {o:HO},H' b = some o→upd H' d (.dT kvs) b = some o:=fun {b o} e=>by
   rw [zAo fun z=>by rw [z,hn'] at e; cases e]
   exact e
  have sB:Same H1 (upd H' d (.dT kvs)):=fun b o e=>by
   by_cases c:b = d
   ·subst c
    rw [ed] at e
    cases e
    exact zAb
   ·exact nk (R.same _ _ ((zD8 c).trans e))
  refine q D rs _ (s1.trans sB) (s1.free hD) (nk R.at') (fun t ht=>?_) (fun k hk=>?_) (by rw [em]; exact le) (by rw [em]; exact sh.tab.nodup) (by rw [em]; exact pw) ?_
  ·obtain ⟨r1,r2,r3⟩:=R.rows t ht
   have r4:=nk r1
   refine ⟨r4,?_,r3⟩
   have ntd:t.1≠d:=fun z=>by rw [z,hn'] at r1; cases r1
   rw [zD8 ntd] at r2
   exact s1.free r2
  ·rw [em] at hk
   obtain ⟨sp,_,_,e1,e2⟩:=sh.spot k hk
   exact ⟨_,e2,e1⟩
  ·have z:=congrArg List.length em
   rw [List.length_map] at z
   omega
def zJr (_:PySem.W.Frag):Sp:=fun vs H Q _=>∃ (n:Int),vs = [.int n]∧∀ v:Int,0≤v→v < 1000003→Q (.int v) H
theorem zOm (F:Fun K "_law_power" "_law_power" zGb f fd) (Z:Zs mg):FnOk P w K mg base CX0 1 f fd ["_law_number"] (zJr K):=by
 refine F.ok zPb (fun vs H Q E h=>?_) (fun cdv A outer s H vs Q E hr h=>?_)
 ·obtain ⟨n,rfl,_⟩:=h
  rfl
 obtain ⟨n,rfl,q⟩:=h
 refine ⟨_,(zAi (zAr (zAm zA7 (zAm zPt (zAm zA7 (pv 0) zAc) zAc) zAc))),?_⟩
 have h1:=Int.emod_nonneg n (show (1000003:Int)≠0 by decide)
 have h2:=Int.emod_lt_of_pos n (show (0:Int) < 1000003 by decide)
 refine ⟨_,rfl,_,_,rfl,rfl,(by show (0:Int) < 1000003; decide),_,_,rfl,rfl,⟨by decide,by decide,by omega⟩,_,_,rfl,rfl,(by show (0:Int) < 1000003; decide),?_⟩
 exact q _ (Int.emod_nonneg _ (by decide)) (Int.emod_lt_of_pos _ (by decide))
def zJp (K:PySem.W.Frag):Sp:=fun vs H Q _=>∃ (a:Addr) (ns:List Int) (many:Int),vs = [.ref a,.int many]∧SqL K H a (ns.map V.int)∧ns.length≤63∧0≤many∧many≤500 ∧
 ∀ (r:Addr) (rows:List Int) (H':Hp),Same H H'→H r = none→H' r = some (.lst (rows.map V.int))→many≤rows.length→rows.length≤600→(∀ x∈rows,0≤x∧x < 1000003)→Q (.ref r) H'
structure zIh (H:Hp) (r c:Addr) (ms:List Int) (H':Hp) (rows:List Int):Prop where
 same:Same H H'
 src:H' c = some (.lst (ms.map V.int))
 at':H' r = some (.lst (rows.map V.int))
 bd:∀ x∈rows,0≤x∧x < 1000003
theorem zIh.app {H H':Hp} {r c:Addr} {ms rows:List Int} {v:Int} (d:zIh H r c ms H' rows) (hr:H r = none) (hrc:c≠r) (h0:0≤v) (h1:v < 1000003):zIh H r c ms (upd H' r (.lst (rows.map V.int ++ [.int v]))) (rows ++ [v]):=by
 refine ⟨fun b o e=>?_,?_,?_,fun x hx=>?_⟩
 ·rw [zAo (zAy e hr)]
  exact d.same b o e
 ·rw [zAo hrc]
  exact d.src
 ·rw [zAb,List.map_append]
  rfl
 ·rcases List.mem_append.mp hx with e | e
  ·exact d.bd x e
  ·rw [List.mem_singleton] at e
   rw [e]
   exact ⟨h0,h1⟩
theorem zOq (F:Fun K "_law_draws" "_law_draws" zGi f fd) (Z:Zs mg) (h_L_power:Has P w K mg base "_law_power" 1 ["_law_number"] (zJr K)):FnOk P w K mg base CX0 2 f fd ["_law_script", "_law_many_here"] (zJp K):=by
 refine F.ok zBu (fun vs H Q E h=>?_) (fun cdv A outer s H vs Q E hr h=>?_)
 ·obtain ⟨a,ns,many,rfl,_⟩:=h
  rfl
 obtain ⟨a,ns,many,rfl,hS,hl,hm0,hm1,q⟩:=h
 refine ⟨_,(zAg (zAu (i:=2) zBu.nd rfl (Or.inl rfl) (zEp zAe))
   (zAg (zAu (i:=3) zBu.nd rfl (Or.inl rfl) zAc)
   (zAg (zCh PassesOwn.never rfl (zMt (zCd zC8 (pv 0) zC5 (zDa zAc))) (zAp (i:=4) zBu.nd rfl (Or.inl rfl)) (zAg (zAu (i:=3) zBu.nd rfl (Or.inl rfl) (zAm zA7 (zAm zBr (zAm zA6 (pv 3) zAc) (pv 4)) zAc))
   (zAg (zAu (i:=5) zBu.nd rfl (Or.inl rfl) (zAx zD6 rfl Z.abs zIs (zAa (pv 4) zAe)))
   (zAg (zBs (zAv zJe (pv 5) (zAm zPt zAc zAc) (zAw _)) (zAg (zE0 (zLm PySem.F.plainAttrs_list PySem.F.slot_list_append PySem.F.type_list_append zBy (pv 2) (zAa (zAh h_L_power (hr.mono (by decide)) rfl (zAa (zAm zBr (pv 4) (zAm zA6 zAc (zAx zAz rfl Z.len zCs (zAa (pv 2) zAe)))) zAe)) zAe)))
   (zAi (zAu (i:=5) zBu.nd rfl (Or.inl rfl) zAc))) zA2)
   (zAi (zGp PassesOwn.never (PW.pt (zLa (zAv zM0 (pv 5) zAc (zAw _)) (zIz (zAv zJe (zAx zAz rfl Z.len zCs (zAa (pv 2) zAe)) (pv 1) (zAw _))))) (zAg (zE0 (zLm PySem.F.plainAttrs_list PySem.F.slot_list_append PySem.F.type_list_append zBy (pv 2) (zAa (zAm zA7 (pv 5) zAc) zAe)))
   (zAi (zAu (i:=5) zBu.nd rfl (Or.inl rfl) (zAm zCm (pv 5) zAc))))))))))
   (zAg (zGp PassesOwn.never (zAv zJe (zAx zAz rfl Z.len zCs (zAa (pv 2) zAe)) (pv 1) (zAw _)) (zAg (zAu (i:=3) zBu.nd rfl (Or.inl rfl) (zAm zA7 (zAm zBr (zAm zA6 (pv 3) zAc) zAc) zAc))
   (zAi (zE0 (zLm PySem.F.plainAttrs_list PySem.F.slot_list_append PySem.F.type_list_append zBy (pv 2) (zAa (zAh h_L_power (hr.mono (by decide)) rfl (zAa (pv 3) zAe)) zAe))))))
   (zAi (zAr (pv 2))))))),?_⟩
 refine ⟨(by show 0≤sizeLine; decide),fun r hr0=>?_⟩
 have S1:=zAd hr0 (.lst [])
 refine ⟨_,rfl,_,rfl,a,_,rfl,S1.seq hS,fun c hc=>⟨c,rfl,⟨_,SqL.of zAb⟩,?_⟩⟩
 rw [zIx]
 generalize hms:((ns.drop (HT.sIx ns.length 0 none)).take (HT.sIx ns.length ns.length (some 63) - HT.sIx ns.length 0 none)) = ms
 have hml:ms.length≤63:=by
  rw [← hms,List.length_take,List.length_drop]
  omega
 have hcr:c≠r:=fun e=>by
  rw [e,zAb] at hc
  cases hc
 have hc0:H c = none:=S1.free hc
 refine zBq (K:=K) (a:=c) (xs:=ms.map V.int) (fun i σ H'=>∃ (rows:List Int) (mix:Int) (u v:Option V),σ = [some (.ref a),some (.int many),some (.ref r),some (.int mix),u,v]∧zIh H r c ms H' rows∧0≤mix∧mix < 2147483647∧rows.length≤many.toNat + i)
  ⟨[],7,none,none,rfl,⟨S1.trans (zAd hc _),zAb,by rw [zAo (Ne.symm hcr),zAb]; rfl,fun x hx=>nomatch hx⟩,by decide,by decide,Nat.zero_le _⟩ (fun i σ H' _ ⟨_,_,_,_,_,d,_⟩=>SqL.of d.src) ?_ ?_
 ·rintro i x σ H' hi ⟨rows,mix,u,v,rfl,d,hx0,hx1,hrl⟩
  obtain ⟨n,hn,rfl⟩:=zCb hi
  have hi63:i < 63:=Nat.lt_of_lt_of_le (List.getElem?_eq_some_iff.mp hn).1 hml
  refine ⟨_,rfl,_,_,rfl,rfl,.inr ⟨by decide,by decide⟩,_,rfl,_,_,rfl,rfl,_,_,rfl,rfl,(by show (0:Int) < 2147483647; decide),?_⟩
  have m0:=Int.emod_nonneg (mix * 48271 + n) (show (2147483647:Int)≠0 by decide)
  have m1:=Int.emod_lt_of_pos (mix * 48271 + n) (show (0:Int) < 2147483647 by decide)
  refine ⟨_,rfl,n,rfl,?_⟩
  have a0:0≤(if n < 0 then -n else n):=by split <;> omega
  generalize (if n < 0 then -n else n) = rest at a0 ⊢
  refine ⟨_,rfl,_,_,rfl,rfl,⟨by decide,by decide,by decide⟩,_,_,rfl,rfl,_,rfl,?_⟩
  refine ifD (fun hsm=>?_) (fun hsm=>?_)
  ·refine ⟨_,rfl,.inl ⟨rfl,_,SqL.of d.at'⟩,_,rfl,_,rfl,r,_,rfl,.inl (SqL.of d.at'),_,_,rfl,rfl,.inl ⟨by decide,by decide⟩,_,_,rfl,rfl,_,rfl,fun v v0 v1=>?_⟩
   refine ⟨r,_,_,rfl,rfl,d.at',zA3 (by rw [List.length_map]; omega),?_⟩
   have j0:(0:Int)≤0:=Int.le_refl 0
   have j1:=d.app hr0 hcr v0 v1
   have j2:(rows ++ [v]).length≤many.toNat + (i + 1):=by rw [List.length_append,List.length_singleton]; omega
   refine zEc (fun σ H2=>∃ (rows:List Int) (rest:Int),σ = [some (.ref a),some (.int many),some (.ref r),some (.int ((mix * 48271 + n) % 2147483647)),some (.int n),some (.int rest)]∧0≤rest∧zIh H r c ms H2 rows∧rows.length≤many.toNat + (i + 1))
    (fun σ _=>match σ with | [_,_,_,_,_,some (.int z)]=>z.toNat | _=>0) ⟨_,_,rfl,j0,j1,j2⟩ ?_ (zQo (zGy (zM7 zO0 zD1 mo_c)) (zGy (zM7 zO0 (zR7 zN7 (zGz zD1 zLw)) zD1)))
   rintro σ H2 ⟨rows,rest,rfl,r0,d2,l2⟩
   refine ⟨_,rfl,_,_,rfl,rfl,_,rfl,?_⟩
   refine ifD (fun hpos=>?_) (fun hpos=>?_)
   ·refine ⟨_,rfl,r,_,rfl,.inl (SqL.of d2.at'),_,rfl,_,_,rfl,rfl,_,rfl,?_⟩
    refine ifD (fun hlt=>?_) (fun hlt=>?_)
    ·have hlt':((rows.map V.int).length:Int) < many:=hlt
     rw [List.length_map] at hlt'
     refine ⟨_,rfl,.inl ⟨rfl,_,SqL.of d2.at'⟩,_,rfl,_,_,rfl,rfl,(by show (0:Int) < 1000003; decide),r,_,_,rfl,rfl,d2.at',zA3 (by rw [List.length_map]; omega),?_⟩
     have v0:=Int.emod_nonneg rest (show (1000003:Int)≠0 by decide)
     have v1:=Int.emod_lt_of_pos rest (show (0:Int) < 1000003 by decide)
     refine ⟨_,rfl,_,_,rfl,rfl,zDv.of (by decide) (by decide +kernel),⟨rows ++ [rest % 1000003],_,rfl,by omega,d2.app hr0 hcr v0 v1,by rw [List.length_append,List.length_singleton]; omega⟩,?_⟩
     show (rest / 1000003).toNat < rest.toNat
     omega
    ·exact ⟨rows,_,_,_,rfl,d2,m0,m1,l2⟩
   ·exact ⟨rows,_,_,_,rfl,d2,m0,m1,l2⟩
  ·have j0:=a0
   have j1:=d
   have j2:rows.length≤many.toNat + (i + 1):=by omega
   refine zEc (fun σ H2=>∃ (rows:List Int) (rest:Int),σ = [some (.ref a),some (.int many),some (.ref r),some (.int ((mix * 48271 + n) % 2147483647)),some (.int n),some (.int rest)]∧0≤rest∧zIh H r c ms H2 rows∧rows.length≤many.toNat + (i + 1))
    (fun σ _=>match σ with | [_,_,_,_,_,some (.int z)]=>z.toNat | _=>0) ⟨_,_,rfl,j0,j1,j2⟩ ?_ (zQo (zGy (zM7 zO0 zD1 mo_c)) (zGy (zM7 zO0 (zR7 zN7 (zGz zD1 zLw)) zD1)))
   rintro σ H2 ⟨rows,rest,rfl,r0,d2,l2⟩
   refine ⟨_,rfl,_,_,rfl,rfl,_,rfl,?_⟩
   refine ifD (fun hpos=>?_) (fun hpos=>?_)
   ·refine ⟨_,rfl,r,_,rfl,.inl (SqL.of d2.at'),_,rfl,_,_,rfl,rfl,_,rfl,?_⟩
    refine ifD (fun hlt=>?_) (fun hlt=>?_)
    ·have hlt':((rows.map V.int).length:Int) < many:=hlt
     rw [List.length_map] at hlt'
     refine ⟨_,rfl,.inl ⟨rfl,_,SqL.of d2.at'⟩,_,rfl,_,_,rfl,rfl,(by show (0:Int) < 1000003; decide),r,_,_,rfl,rfl,d2.at',zA3 (by rw [List.length_map]; omega),?_⟩
     have v0:=Int.emod_nonneg rest (show (1000003:Int)≠0 by decide)
     have v1:=Int.emod_lt_of_pos rest (show (0:Int) < 1000003 by decide)
     refine ⟨_,rfl,_,_,rfl,rfl,zDv.of (by decide) (by decide +kernel),⟨rows ++ [rest % 1000003],_,rfl,by omega,d2.app hr0 hcr v0 v1,by rw [List.length_append,List.length_singleton]; omega⟩,?_⟩
     show (rest / 1000003).toNat < rest.toNat
     omega
    ·exact ⟨rows,_,_,_,rfl,d2,m0,m1,l2⟩
   ·exact ⟨rows,_,_,_,rfl,d2,m0,m1,l2⟩
 ·rintro σ H' ⟨rows,mix,u,v,rfl,d,hx0,hx1,hrl⟩
  rw [List.length_map] at hrl
  refine zEc (fun σ H2=>∃ (rows:List Int) (mix:Int),σ = [some (.ref a),some (.int many),some (.ref r),some (.int mix),u,v]∧zIh H r c ms H2 rows∧0≤mix∧mix < 2147483647∧rows.length≤many.toNat + 63∧H2 r = some (.lst (rows.map V.int)))
   (fun σ H2=>match H2 r with | some (.lst xs)=>many.toNat - xs.length | _=>0) ⟨rows,mix,rfl,d,hx0,hx1,by omega,d.at'⟩ ?_ (zGy (zM7 zO0 (zR7 zN7 (zGz zD1 zLw)) zD1))
  rintro σ H2 ⟨rows,mix,rfl,d2,hx0,hx1,l2,ha2⟩
  refine ⟨_,rfl,r,_,rfl,.inl (SqL.of d2.at'),_,rfl,_,_,rfl,rfl,_,rfl,?_⟩
  refine ifD (fun hlt=>?_) (fun hlt=>?_)
  ·have hlt':((rows.map V.int).length:Int) < many:=hlt
   rw [List.length_map] at hlt'
   refine ⟨_,rfl,_,_,rfl,rfl,.inr ⟨by decide,by decide⟩,_,_,rfl,rfl,_,_,rfl,rfl,(by show (0:Int) < 2147483647; decide),?_⟩
   have m0:=Int.emod_nonneg (mix * 48271 + 11) (show (2147483647:Int)≠0 by decide)
   have m1:=Int.emod_lt_of_pos (mix * 48271 + 11) (show (0:Int) < 2147483647 by decide)
   refine ⟨_,rfl,.inl ⟨rfl,_,SqL.of d2.at'⟩,_,rfl,_,rfl,fun v v0 v1=>?_⟩
   refine ⟨r,_,_,rfl,rfl,d2.at',zA3 (by rw [List.length_map]; omega),⟨rows ++ [v],_,rfl,d2.app hr0 hcr v0 v1,m0,m1,by rw [List.length_append,List.length_singleton]; omega,(d2.app hr0 hcr v0 v1).at'⟩,?_⟩
   rw [ha2,zAb]
   show many.toNat - (rows.map V.int ++ [V.int v]).length < many.toNat - (rows.map V.int).length
   rw [List.length_append,List.length_map,List.length_singleton]
   omega
  ·have hlt':¬ ((rows.map V.int).length:Int) < many:=hlt
   rw [List.length_map] at hlt'
   exact ⟨_,rfl,q r rows H2 d2.same hr0 d2.at' (by omega) (by omega) d2.bd⟩
def zS9 (ss:List Sd) (m:Nat):Prop:=∀ t∈ss,t.2.1.natAbs≤3 * 10 ^ 7∧t.2.2.1.natAbs≤3 * 10 ^ 7∧t.2.2.2.natAbs≤m
def zJ0 (K:PySem.W.Frag):Sp:=fun vs H Q _=>∃ (r l:Addr) (rows:List Int) (ss:List Sd),vs = [.ref r,.ref l]∧SqL K H r (rows.map V.int)∧2≤rows.length∧(∀ x∈rows,0≤x∧x < 1000003)∧H l = some (.lst (zAn ss))∧SdOk H ss∧ss.length≤900∧zS9 ss (9 * 10 ^ 10) ∧
 ∀ (l':Addr) (ss':List Sd) (H':Hp),Same H H'→H' l' = some (.lst (zAn ss'))→ss'.length = ss.length→SdOk H' ss'→zS9 ss' (10 ^ 11)→Q (.ref l') H'
theorem zOv (F:Fun K "_law_tight" "_law_tight" zGc f fd) (Z:Zs mg)  : FnOk P w K mg base CX0 1 f fd ["_law_some", "_law_sides_here"] (zJ0 K):=by
 refine F.ok zOw (fun vs H Q E h=>?_) (fun cdv A outer s H vs Q E hr h=>?_)
 ·obtain ⟨r,l,rows,ss,rfl,_⟩:=h
  rfl
 obtain ⟨r,l,rows,ss,rfl,hS,h2,bd,el,ok,hlen,bnd,q⟩:=h
 refine ⟨_,(zAg (zBs (zAv zFo (zAm zA7 (zAq zAk (pv 0) zAc (fun _ _=>rfl)) zAc) zAc (zAw _)) (zAi (zAr (pv 1))) zA2)
   (zAg (zBs (zAv zFo (zAm zA7 (zAq zAk (pv 0) zAc (fun _ _=>rfl)) zAc) zAc (zAw _)) (zAi (zAr (zCl (T:=["_law_a", "_law_b", "_law_c"]) (caps:=[]) ⟨rfl,by decide +kernel,by decide +kernel,rfl,True.intro⟩ rfl (zBk (pv 1)) (fun _=>(zE5 rfl (zA0 (zAp (i:=0) (show (["_law_a", "_law_b", "_law_c"]:List Str).Nodup by decide +kernel) rfl (Or.inl rfl)) (zA0 (zAp (i:=1) (show (["_law_a", "_law_b", "_law_c"]:List Str).Nodup by decide +kernel) rfl (Or.inl rfl)) (zA0 (zAp (i:=2) (show (["_law_a", "_law_b", "_law_c"]:List Str).Nodup by decide +kernel) rfl (Or.inl rfl)) zC9))))) (fun _=>zBg) (fun _=>(zB0 (zAa (pv 0) (zAa (pv 1) (zAa (zAm zBp (zAm zBp (pv 2) (zAx zD6 rfl Z.abs zIs (zAa (pv 0) zAe))) (zAx zD6 rfl Z.abs zIs (zAa (pv 1) zAe))) zAe)))))))) zA2)
   (zAi (zAr (zCl (T:=["_law_a", "_law_b", "_law_c"]) (caps:=[("_law_some", 0)]) ⟨rfl,by decide +kernel,by decide +kernel,rfl,⟨⟨rfl,rfl,Or.inl rfl⟩,True.intro⟩⟩ rfl (zBk (pv 1)) (fun _=>(zE5 rfl (zA0 (zAp (i:=0) (show (["_law_a", "_law_b", "_law_c", "_law_some"]:List Str).Nodup by decide +kernel) rfl (Or.inl rfl)) (zA0 (zAp (i:=1) (show (["_law_a", "_law_b", "_law_c", "_law_some"]:List Str).Nodup by decide +kernel) rfl (Or.inl rfl)) (zA0 (zAp (i:=2) (show (["_law_a", "_law_b", "_law_c", "_law_some"]:List Str).Nodup by decide +kernel) rfl (Or.inl rfl)) zC9))))) (fun _=>zBg) (fun _=>(zB0 (zAa (pv 0) (zAa (pv 1) (zAa (zAm zBr (zAx zD6 rfl Z.abs zIs (zAa (pv 2) zAe)) (zAm zA7 (zAq zAk (pv 3) zAc (fun _ _=>rfl)) zAc)) zAe)))))))))),?_⟩
 obtain ⟨v0,a0,_⟩:=zC4 bd (k:=0) (by decide) (by omega)
 obtain ⟨v1,a1,w0,w1⟩:=zC4 bd (k:=1) (by decide) (by omega)
 refine ⟨_,rfl,r,_,_,_,rfl,rfl,.inl hS,a0,_,_,rfl,rfl,(by show (0:Int) < 3; decide),rfl,_,rfl,?_⟩
 refine ifE (fun _=>?_) (fun _=>?_)
 ·exact ⟨_,rfl,q l ss H (Same.refl _) el rfl ok fun t ht=>⟨(bnd t ht).1,(bnd t ht).2.1,by have:=(bnd t ht).2.2; omega⟩⟩
 refine ⟨_,rfl,r,_,_,_,rfl,rfl,.inl hS,a0,_,_,rfl,rfl,(by show (0:Int) < 3; decide),rfl,_,rfl,?_⟩
 refine ifE (fun _=>?_) (fun _=>?_)
 ·show _
  refine ⟨_,rfl,l,rfl,.inl ⟨⟨_,SqL.of el⟩,fun cc D hD=>zBn (K:=K) (a:=l) (xs:=zAn ss) (fun i σ ys G=>∃ sa:List Sd,ys = zAn sa∧sa.length = i∧SdSt H D sa G∧zS9 sa (10 ^ 11)∧∃ u0 u1 u2:Option V,σ = [u0,u1,u2])
   ⟨[],rfl,rfl,⟨zAd hD _,hD,zAb,(fun t ht=>nomatch ht)⟩,(fun t ht=>nomatch ht),none,none,none,rfl⟩ (fun i σ ys G _ ⟨sa,e1,_,Pq,_⟩=>⟨SqL.of (Pq.same _ _ el),by rw [e1]; exact Pq.at'⟩) ?_ ?_⟩⟩
  ·rintro i x σ ys Gc hi ⟨sa,rfl,na,Pc,bc,u0,u1,u2,rfl⟩
   obtain ⟨t,gt,rfl,hil⟩:=zBf hi
   obtain ⟨et,nt,_⟩:=ok t (List.mem_of_getElem? gt)
   obtain ⟨b1,b2,b3⟩:=bnd t (List.mem_of_getElem? gt)
   refine ⟨t.1,_,rfl,SqT.of (Pc.same _ _ et),rfl,.int t.2.1,_,rfl,.int t.2.2.1,_,rfl,.int t.2.2.2,_,rfl,rfl,?_⟩
   have nb:(t.2.2.2 - (if t.2.1 < 0 then -t.2.1 else t.2.1) - (if t.2.2.1 < 0 then -t.2.2.1 else t.2.2.1)).natAbs≤10 ^ 11:=by
    split <;> first | omega | (split <;> omega)
   refine ⟨_,rfl,_,rfl,_,rfl,_,rfl,_,rfl,_,_,rfl,rfl,_,rfl,_,rfl,_,_,rfl,rfl,(by show 3≤sizeLine; decide),fun p hp=>?_⟩
   have sp:=zAd hp (.tup [.int t.2.1,.int t.2.2.1,.int (t.2.2.2 - (if t.2.1 < 0 then -t.2.1 else t.2.1) - (if t.2.2.1 < 0 then -t.2.2.1 else t.2.2.1))])
   refine ⟨sp _ _ Pc.at',zA3 (by rw [zAj]; omega),sa ++ [(p,t.2.1,t.2.2.1,(t.2.2.2 - (if t.2.1 < 0 then -t.2.1 else t.2.1) - (if t.2.2.1 < 0 then -t.2.2.1 else t.2.2.1)))],by simp [zAn],by rw [List.length_append,na]; rfl,Pc.app sp hp zAb nt (by omega) (by omega) (by omega),fun u hu=>(List.mem_append.mp hu).elim (bc u) fun h=>by rw [List.mem_singleton] at h; subst h; exact ⟨b1,b2,nb⟩,_,_,_,rfl⟩
  ·rintro σ ys Gc ⟨sa,rfl,na,Pc,bc,u0,u1,u2,rfl⟩
   rw [zAj] at na
   exact q D sa Gc Pc.same Pc.at' na Pc.all bc
 ·show _
  refine ⟨_,rfl,l,rfl,.inl ⟨⟨_,SqL.of el⟩,fun cc D hD=>zBn (K:=K) (a:=l) (xs:=zAn ss) (fun i σ ys G=>∃ sa:List Sd,ys = zAn sa∧sa.length = i∧SdSt H D sa G∧zS9 sa (10 ^ 11)∧∃ u0 u1 u2:Option V,σ = [u0,u1,u2,some (.ref r)])
   ⟨[],rfl,rfl,⟨zAd hD _,hD,zAb,(fun t ht=>nomatch ht)⟩,(fun t ht=>nomatch ht),none,none,none,rfl⟩ (fun i σ ys G _ ⟨sa,e1,_,Pq,_⟩=>⟨SqL.of (Pq.same _ _ el),by rw [e1]; exact Pq.at'⟩) ?_ ?_⟩⟩
  ·rintro i x σ ys Gc hi ⟨sa,rfl,na,Pc,bc,u0,u1,u2,rfl⟩
   obtain ⟨t,gt,rfl,hil⟩:=zBf hi
   obtain ⟨et,nt,_⟩:=ok t (List.mem_of_getElem? gt)
   obtain ⟨b1,b2,b3⟩:=bnd t (List.mem_of_getElem? gt)
   refine ⟨t.1,_,rfl,SqT.of (Pc.same _ _ et),rfl,.int t.2.1,_,rfl,.int t.2.2.1,_,rfl,.int t.2.2.2,_,rfl,rfl,?_⟩
   have nb:((if t.2.2.2 < 0 then -t.2.2.2 else t.2.2.2) + v1 % 4).natAbs≤10 ^ 11:=by
    split <;> first | omega | (split <;> omega)
   refine ⟨_,rfl,_,rfl,_,rfl,_,rfl,_,rfl,r,_,_,_,rfl,rfl,.inl (Pc.same.seq hS),a1,_,_,rfl,rfl,(by show (0:Int) < 4; decide),_,_,rfl,rfl,(by show 3≤sizeLine; decide),fun p hp=>?_⟩
   have sp:=zAd hp (.tup [.int t.2.1,.int t.2.2.1,.int ((if t.2.2.2 < 0 then -t.2.2.2 else t.2.2.2) + v1 % 4)])
   refine ⟨sp _ _ Pc.at',zA3 (by rw [zAj]; omega),sa ++ [(p,t.2.1,t.2.2.1,((if t.2.2.2 < 0 then -t.2.2.2 else t.2.2.2) + v1 % 4))],by simp [zAn],by rw [List.length_append,na]; rfl,Pc.app sp hp zAb nt (by omega) (by omega) (by omega),fun u hu=>(List.mem_append.mp hu).elim (bc u) fun h=>by rw [List.mem_singleton] at h; subst h; exact ⟨b1,b2,nb⟩,_,_,_,rfl⟩
  ·rintro σ ys Gc ⟨sa,rfl,na,Pc,bc,u0,u1,u2,rfl⟩
   rw [zAj] at na
   exact q D sa Gc Pc.same Pc.at' na Pc.all bc
def zN1 (_:PySem.W.Frag):Sp:=fun vs H Q _=>∃ (o t wd:Int),vs = [.int o,.int t,.int wd]∧1≤wd∧wd≤1000000 ∧
 ∀ (p:Addr) (x y:Int) (H':Hp),Same H H'→H p = none→H' p = some (.tup [.int x,.int y])→(x≠0∨y≠0)→x.natAbs≤wd.natAbs→y.natAbs≤wd.natAbs→Q (.ref p) H'
theorem zS7 (F:Fun K "_law_way" "_law_way" zJ8 f fd) (Z:Zs mg)  : FnOk P w K mg base CX0 1 f fd ["_law_one", "_law_two", "_law_wide"] (zN1 K):=by
 refine F.ok zHq (fun vs H Q E h=>?_) (fun cdv A outer s H vs Q E hr h=>?_)
 ·obtain ⟨o,t,wd,rfl,_⟩:=h
  rfl
 obtain ⟨o,t,wd,rfl,w1,w2,q⟩:=h
 refine ⟨_,(zAg (zAu (i:=3) zHq.nd rfl (Or.inl rfl) (zAm zBp (zAm zA7 (pv 0) (zAm zBr (zAm zA6 zAc (pv 2)) zAc)) (pv 2)))
   (zAg (zAu (i:=4) zHq.nd rfl (Or.inl rfl) (zAm zBp (zAm zA7 (pv 1) (zAm zBr (zAm zA6 zAc (pv 2)) zAc)) (pv 2)))
   (zAg (zBs (PW.pt (zLa (zAv zFo (pv 3) zAc (zAw _)) (zIz (zAv zFo (pv 4) zAc (zAw _))))) (zAi (zAu (i:=3) zHq.nd rfl (Or.inl rfl) (zAm zBp zAc (zAm zA6 zAc (zAm zA7 (pv 0) zAc))))) zA2)
   (zAi (zAr (zB0 (zAa (pv 3) (zAa (pv 4) zAe)))))))),?_⟩
 have x0:=Int.emod_nonneg o (show 2 * wd + 1≠0 by omega)
 have x1:=Int.emod_lt_of_pos o (show 0 < 2 * wd + 1 by omega)
 have y0:=Int.emod_nonneg t (show 2 * wd + 1≠0 by omega)
 have y1:=Int.emod_lt_of_pos t (show 0 < 2 * wd + 1 by omega)
 refine ⟨_,rfl,_,rfl,_,_,rfl,rfl,.inl ⟨by decide,by decide⟩,_,_,rfl,rfl,_,_,rfl,rfl,(by show 0 < 2 * wd + 1; omega),_,rfl,_,_,rfl,rfl,?_⟩
 refine ⟨_,rfl,_,rfl,_,_,rfl,rfl,.inl ⟨by decide,by decide⟩,_,_,rfl,rfl,_,_,rfl,rfl,(by show 0 < 2 * wd + 1; omega),_,rfl,_,_,rfl,rfl,?_⟩
 refine ⟨_,rfl,rfl,_,rfl,?_⟩
 refine ifE (fun hx=>?_) (fun hx=>?_)
 ·refine ⟨_,rfl,rfl,_,rfl,?_⟩
  refine ifE (fun hy=>?_) (fun hy=>?_)
  ·refine ⟨_,rfl,_,_,rfl,rfl,(by show (0:Int) < 2; decide),_,_,rfl,rfl,.inl ⟨by decide,by decide⟩,_,_,rfl,rfl,?_⟩
   refine ⟨_,rfl,_,rfl,(by show 2≤sizeLine; decide),fun p hp=>?_⟩
   exact q p _ _ _ (zAd hp _) hp zAb (by left; omega) (by omega) (by omega)
  ·refine ⟨_,rfl,_,rfl,(by show 2≤sizeLine; decide),fun p hp=>?_⟩
   exact q p _ _ _ (zAd hp _) hp zAb (.inr hy) (by omega) (by omega)
 ·refine iteF ?_
  refine ⟨_,rfl,_,rfl,(by show 2≤sizeLine; decide),fun p hp=>?_⟩
  exact q p _ _ _ (zAd hp _) hp zAb (.inl hx) (by omega) (by omega)
theorem zHy {x y C v0 v1 v3:Int} (hn:x≠0∨y≠0) (mx:x.natAbs≤2000) (my:y.natAbs≤2000) (mc:C.natAbs≤1000000):(997 * x + v0 % 5 - 2≠0∨997 * y + v1 % 5 - 2≠0)∧(997 * x + v0 % 5 - 2).natAbs≤10 ^ 7∧(997 * y + v1 % 5 - 2).natAbs≤10 ^ 7∧(997 * C + v3 % 900).natAbs≤10 ^ 10 :=
 ⟨by clear mx my mc; omega,by clear my mc hn; omega,by clear mx mc hn; omega,by clear mx my hn; omega⟩
def zLr (K:PySem.W.Frag):Sp:=fun vs H Q _=>∃ (a:Addr) (rows:List Int),vs = [.ref a]∧SqL K H a (rows.map V.int)∧5≤rows.length∧(∀ x∈rows,0≤x∧x < 1000003) ∧
 ∀ (p:Addr) (A B C:Int) (H':Hp),Same H H'→H p = none→H' p = some (.tup [.int A,.int B,.int C])→(A≠0∨B≠0)→A.natAbs≤10 ^ 7→B.natAbs≤10 ^ 7→C.natAbs≤10 ^ 10→Q (.ref p) H'
theorem zR3 (F:Fun K "_law_side" "_law_side" zHs f fd) (Z:Zs mg) (h_L_way:Has P w K mg base "_law_way" 1 ["_law_one", "_law_two", "_law_wide"] (zN1 K)):FnOk P w K mg base CX0 2 f fd ["_law_d"] (zLr K):=by
 refine F.ok zD2 (fun vs H Q E h=>?_) (fun cdv A outer s H vs Q E hr h=>?_)
 ·obtain ⟨a,rows,rfl,_⟩:=h
  rfl
 obtain ⟨a,rows,rfl,hS,hl,bd,q⟩:=h
 refine ⟨_,(zAg (zOa (zAh h_L_way (hr.mono (by decide)) rfl (zAa (zAq zAk (pv 0) zAc (fun _ _=>rfl)) (zAa (zAq zAk (pv 0) zAc (fun _ _=>rfl)) (zAa (zAq zAk (zEp (zAa zAc (zAa zAc (zAa zAc (zAa zAc (zAa zAc zAe)))))) (zAm zA7 (zAq zAk (pv 0) zAc (fun _ _=>rfl)) zAc) (fun _ _=>rfl)) zAe)))) (zE5 rfl (zA0 (zAp (i:=1) zD2.nd rfl (Or.inl rfl)) (zA0 (zAp (i:=2) zD2.nd rfl (Or.inl rfl)) zC9))))
   (zAg (zAu (i:=3) zD2.nd rfl (Or.inl rfl) (zAm zBp (zAm zA7 (zAq zAk (pv 0) zAc (fun _ _=>rfl)) zAc) zAc))
   (zAg (zBs (zAv zFo (zAm zA7 (zAq zAk (pv 0) zAc (fun _ _=>rfl)) zAc) zAc (zAw _)) (zAi (zAu (i:=3) zD2.nd rfl (Or.inl rfl) (zAm zBp (zAm zA7 (zAq zAk (pv 0) zAc (fun _ _=>rfl)) zAc) zAc))) zA2)
   (zAg (zBs (zAv zFo (zAm zA7 (zAq zAk (pv 0) zAc (fun _ _=>rfl)) zAc) zAc (zAw _)) (zAi (zAu (i:=3) zD2.nd rfl (Or.inl rfl) (zAm zBr (zAm zA6 (pv 1) (zAm zBp (zAm zA7 (zAq zAk (pv 0) zAc (fun _ _=>rfl)) zAc) zAc)) (zAm zA6 (pv 2) (zAm zBp (zAm zA7 (zAm zCm (zAq zAk (pv 0) zAc (fun _ _=>rfl)) zAc) zAc) zAc))))) zA2)
   (zAg (zBs (zAv zFo (zAm zA7 (zAm zCm (zAq zAk (pv 0) zAc (fun _ _=>rfl)) zAc) zAc) zAc (zAw _)) (zAi (zAr (zB0 (zAa (zAm zBp (zAm zBr (zAm zA6 zAc (pv 1)) (zAm zA7 (zAq zAk (pv 0) zAc (fun _ _=>rfl)) zAc)) zAc) (zAa (zAm zBp (zAm zBr (zAm zA6 zAc (pv 2)) (zAm zA7 (zAq zAk (pv 0) zAc (fun _ _=>rfl)) zAc)) zAc) (zAa (zAm zBr (zAm zA6 zAc (pv 3)) (zAm zA7 (zAq zAk (pv 0) zAc (fun _ _=>rfl)) zAc)) zAe)))))) zA2)
   (zAi (zAr (zB0 (zAa (pv 1) (zAa (pv 2) (zAa (pv 3) zAe))))))))))),?_⟩
 obtain ⟨v0,a0,b00,b01⟩:=zC4 bd (k:=0) (by decide) (by omega)
 obtain ⟨v1,a1,b10,b11⟩:=zC4 bd (k:=1) (by decide) (by omega)
 obtain ⟨v2,a2,b20,b21⟩:=zC4 bd (k:=2) (by decide) (by omega)
 obtain ⟨v3,a3,b30,b31⟩:=zC4 bd (k:=3) (by decide) (by omega)
 obtain ⟨v4,a4,b40,b41⟩:=zC4 bd (k:=4) (by decide) (by omega)
 refine ⟨_,rfl,a,_,_,_,rfl,rfl,.inl hS,a0,_,rfl,a,_,_,_,rfl,rfl,.inl hS,a1,(by show 5≤sizeLine; decide),fun c hc=>?_⟩
 have s1:=zAd hc (.lst [.int 3,.int 3,.int 3,.int 100,.int 2000])
 obtain ⟨wd,hw,hw1,hw2⟩:∃ b:Int,atI [V.int 3,V.int 3,V.int 3,V.int 100,V.int 2000] (v4 % 5) = some (.int b)∧1≤b∧b≤2000:=by
  have c0:=Int.emod_nonneg v4 (show (5:Int)≠0 by decide)
  have c1:=Int.emod_lt_of_pos v4 (show (0:Int) < 5 by decide)
  have cc:v4 % 5 = 0∨v4 % 5 = 1∨v4 % 5 = 2∨v4 % 5 = 3∨v4 % 5 = 4:=by omega
  rcases cc with e | e | e | e | e
  ·exact ⟨3,by rw [e]; rfl,by decide,by decide⟩
  ·exact ⟨3,by rw [e]; rfl,by decide,by decide⟩
  ·exact ⟨3,by rw [e]; rfl,by decide,by decide⟩
  ·exact ⟨100,by rw [e]; rfl,by decide,by decide⟩
  ·exact ⟨2000,by rw [e]; rfl,by decide,by decide⟩
 refine ⟨_,rfl,a,_,_,_,rfl,rfl,.inl (s1.seq hS),a4,_,_,rfl,rfl,(by show (0:Int) < 5; decide),c,_,_,.int wd,rfl,rfl,.inl (SqL.of zAb),hw,v0,v1,wd,rfl,hw1,by omega,fun p x y H2 s2' hp e2 hn n1 n2=>?_⟩
 have s2:=s1.trans s2'
 have mx:x.natAbs≤2000:=by omega
 have my:y.natAbs≤2000:=by omega
 refine ⟨p,[.int x,.int y],rfl,SqT.of e2,rfl,.int x,[.int y],rfl,.int y,[],rfl,rfl,?_⟩
 refine ⟨_,rfl,a,_,_,_,rfl,rfl,.inl (s2.seq hS),a2,_,_,rfl,rfl,(by show (0:Int) < 19; decide),_,_,rfl,rfl,?_⟩
 refine ⟨_,rfl,a,_,_,_,rfl,rfl,.inl (s2.seq hS),a3,_,_,rfl,rfl,(by show (0:Int) < 4; decide),rfl,_,rfl,?_⟩
 refine ifE (fun _=>?_) (fun _=>?_)
 ·refine ⟨_,rfl,a,_,_,_,rfl,rfl,.inl (s2.seq hS),a2,_,_,rfl,rfl,(by show (0:Int) < 1000001; decide),_,_,rfl,rfl,?_⟩
  refine ⟨_,rfl,a,_,_,_,rfl,rfl,.inl (s2.seq hS),a3,_,_,rfl,rfl,(by show (0:Int) < 4; decide),rfl,_,rfl,?_⟩
  refine ifE (fun _=>?_) (fun _=>?_)
  ·refine ⟨_,rfl,_,rfl,a,_,_,_,rfl,rfl,.inl (s2.seq hS),a2,_,_,rfl,rfl,(by show (0:Int) < 9; decide),_,_,rfl,rfl,_,_,rfl,rfl,cm_l (by omega),
    _,rfl,_,rfl,a,_,_,_,rfl,rfl,.inl (s2.seq hS),a2,_,_,rfl,rfl,zDv.of (by decide) (by decide +kernel),_,_,rfl,rfl,(by show (0:Int) < 9; decide),_,_,rfl,rfl,_,_,rfl,rfl,cm_l (by omega),_,_,rfl,rfl,?_⟩
   have z1:=zAf x (v2 % 9 - 4) (m:=2000) (n:=4) mx (by omega)
   have z2:=zAf y (v2 / 9 % 9 - 4) (m:=2000) (n:=4) my (by omega)
   have mc:((x * (v2 % 9 - 4) + y * (v2 / 9 % 9 - 4))).natAbs≤1000000:=by omega
   refine ⟨_,rfl,a,_,_,_,rfl,rfl,.inl (s2.seq hS),a4,_,_,rfl,rfl,zDv.of (by decide) (by decide +kernel),_,_,rfl,rfl,(by show (0:Int) < 12; decide),rfl,_,rfl,?_⟩
   refine ifE (fun _=>?_) (fun _=>?_)
   ·refine ⟨_,rfl,_,_,rfl,rfl,.inl ⟨by decide,by decide⟩,_,rfl,a,_,_,_,rfl,rfl,.inl (s2.seq hS),a0,_,_,rfl,rfl,(by show (0:Int) < 5; decide),_,_,rfl,rfl,_,_,rfl,rfl,
     _,rfl,_,_,rfl,rfl,.inl ⟨by decide,by decide⟩,_,rfl,a,_,_,_,rfl,rfl,.inl (s2.seq hS),a1,_,_,rfl,rfl,(by show (0:Int) < 5; decide),_,_,rfl,rfl,_,_,rfl,rfl,
     _,rfl,_,_,rfl,rfl,.inl ⟨by decide,by decide⟩,_,rfl,a,_,_,_,rfl,rfl,.inl (s2.seq hS),a3,_,_,rfl,rfl,(by show (0:Int) < 900; decide),_,_,rfl,rfl,(by show 3≤sizeLine; decide),fun r hr0=>?_⟩
    have sb:=zHy (v0:=v0) (v1:=v1) (v3:=v3) hn mx my mc
    exact q r _ _ _ _ (s2.trans (zAd hr0 _)) (s2.free hr0) zAb sb.1 sb.2.1 sb.2.2.1 sb.2.2.2
   ·refine ⟨_,rfl,_,rfl,_,rfl,(by show 3≤sizeLine; decide),fun r hr0=>?_⟩
    exact q r _ _ _ _ (s2.trans (zAd hr0 _)) (s2.free hr0) zAb hn (Nat.le_trans mx (by decide)) (Nat.le_trans my (by decide)) (Nat.le_trans mc (by decide))
  ·skip
   have mc:((v2 % 1000001 - 300000)).natAbs≤1000000:=by omega
   refine ⟨_,rfl,a,_,_,_,rfl,rfl,.inl (s2.seq hS),a4,_,_,rfl,rfl,zDv.of (by decide) (by decide +kernel),_,_,rfl,rfl,(by show (0:Int) < 12; decide),rfl,_,rfl,?_⟩
   refine ifE (fun _=>?_) (fun _=>?_)
   ·refine ⟨_,rfl,_,_,rfl,rfl,.inl ⟨by decide,by decide⟩,_,rfl,a,_,_,_,rfl,rfl,.inl (s2.seq hS),a0,_,_,rfl,rfl,(by show (0:Int) < 5; decide),_,_,rfl,rfl,_,_,rfl,rfl,
     _,rfl,_,_,rfl,rfl,.inl ⟨by decide,by decide⟩,_,rfl,a,_,_,_,rfl,rfl,.inl (s2.seq hS),a1,_,_,rfl,rfl,(by show (0:Int) < 5; decide),_,_,rfl,rfl,_,_,rfl,rfl,
     _,rfl,_,_,rfl,rfl,.inl ⟨by decide,by decide⟩,_,rfl,a,_,_,_,rfl,rfl,.inl (s2.seq hS),a3,_,_,rfl,rfl,(by show (0:Int) < 900; decide),_,_,rfl,rfl,(by show 3≤sizeLine; decide),fun r hr0=>?_⟩
    have sb:=zHy (v0:=v0) (v1:=v1) (v3:=v3) hn mx my mc
    exact q r _ _ _ _ (s2.trans (zAd hr0 _)) (s2.free hr0) zAb sb.1 sb.2.1 sb.2.2.1 sb.2.2.2
   ·refine ⟨_,rfl,_,rfl,_,rfl,(by show 3≤sizeLine; decide),fun r hr0=>?_⟩
    exact q r _ _ _ _ (s2.trans (zAd hr0 _)) (s2.free hr0) zAb hn (Nat.le_trans mx (by decide)) (Nat.le_trans my (by decide)) (Nat.le_trans mc (by decide))
 ·skip
  refine ⟨_,rfl,a,_,_,_,rfl,rfl,.inl (s2.seq hS),a3,_,_,rfl,rfl,(by show (0:Int) < 4; decide),rfl,_,rfl,?_⟩
  refine ifE (fun _=>?_) (fun _=>?_)
  ·refine ⟨_,rfl,_,rfl,a,_,_,_,rfl,rfl,.inl (s2.seq hS),a2,_,_,rfl,rfl,(by show (0:Int) < 9; decide),_,_,rfl,rfl,_,_,rfl,rfl,cm_l (by omega),
    _,rfl,_,rfl,a,_,_,_,rfl,rfl,.inl (s2.seq hS),a2,_,_,rfl,rfl,zDv.of (by decide) (by decide +kernel),_,_,rfl,rfl,(by show (0:Int) < 9; decide),_,_,rfl,rfl,_,_,rfl,rfl,cm_l (by omega),_,_,rfl,rfl,?_⟩
   have z1:=zAf x (v2 % 9 - 4) (m:=2000) (n:=4) mx (by omega)
   have z2:=zAf y (v2 / 9 % 9 - 4) (m:=2000) (n:=4) my (by omega)
   have mc:((x * (v2 % 9 - 4) + y * (v2 / 9 % 9 - 4))).natAbs≤1000000:=by omega
   refine ⟨_,rfl,a,_,_,_,rfl,rfl,.inl (s2.seq hS),a4,_,_,rfl,rfl,zDv.of (by decide) (by decide +kernel),_,_,rfl,rfl,(by show (0:Int) < 12; decide),rfl,_,rfl,?_⟩
   refine ifE (fun _=>?_) (fun _=>?_)
   ·refine ⟨_,rfl,_,_,rfl,rfl,.inl ⟨by decide,by decide⟩,_,rfl,a,_,_,_,rfl,rfl,.inl (s2.seq hS),a0,_,_,rfl,rfl,(by show (0:Int) < 5; decide),_,_,rfl,rfl,_,_,rfl,rfl,
     _,rfl,_,_,rfl,rfl,.inl ⟨by decide,by decide⟩,_,rfl,a,_,_,_,rfl,rfl,.inl (s2.seq hS),a1,_,_,rfl,rfl,(by show (0:Int) < 5; decide),_,_,rfl,rfl,_,_,rfl,rfl,
     _,rfl,_,_,rfl,rfl,.inl ⟨by decide,by decide⟩,_,rfl,a,_,_,_,rfl,rfl,.inl (s2.seq hS),a3,_,_,rfl,rfl,(by show (0:Int) < 900; decide),_,_,rfl,rfl,(by show 3≤sizeLine; decide),fun r hr0=>?_⟩
    have sb:=zHy (v0:=v0) (v1:=v1) (v3:=v3) hn mx my mc
    exact q r _ _ _ _ (s2.trans (zAd hr0 _)) (s2.free hr0) zAb sb.1 sb.2.1 sb.2.2.1 sb.2.2.2
   ·refine ⟨_,rfl,_,rfl,_,rfl,(by show 3≤sizeLine; decide),fun r hr0=>?_⟩
    exact q r _ _ _ _ (s2.trans (zAd hr0 _)) (s2.free hr0) zAb hn (Nat.le_trans mx (by decide)) (Nat.le_trans my (by decide)) (Nat.le_trans mc (by decide))
  ·skip
   have mc:((v2 % 19 - 4)).natAbs≤1000000:=by omega
   refine ⟨_,rfl,a,_,_,_,rfl,rfl,.inl (s2.seq hS),a4,_,_,rfl,rfl,zDv.of (by decide) (by decide +kernel),_,_,rfl,rfl,(by show (0:Int) < 12; decide),rfl,_,rfl,?_⟩
   refine ifE (fun _=>?_) (fun _=>?_)
   ·refine ⟨_,rfl,_,_,rfl,rfl,.inl ⟨by decide,by decide⟩,_,rfl,a,_,_,_,rfl,rfl,.inl (s2.seq hS),a0,_,_,rfl,rfl,(by show (0:Int) < 5; decide),_,_,rfl,rfl,_,_,rfl,rfl,
     _,rfl,_,_,rfl,rfl,.inl ⟨by decide,by decide⟩,_,rfl,a,_,_,_,rfl,rfl,.inl (s2.seq hS),a1,_,_,rfl,rfl,(by show (0:Int) < 5; decide),_,_,rfl,rfl,_,_,rfl,rfl,
     _,rfl,_,_,rfl,rfl,.inl ⟨by decide,by decide⟩,_,rfl,a,_,_,_,rfl,rfl,.inl (s2.seq hS),a3,_,_,rfl,rfl,(by show (0:Int) < 900; decide),_,_,rfl,rfl,(by show 3≤sizeLine; decide),fun r hr0=>?_⟩
    have sb:=zHy (v0:=v0) (v1:=v1) (v3:=v3) hn mx my mc
    exact q r _ _ _ _ (s2.trans (zAd hr0 _)) (s2.free hr0) zAb sb.1 sb.2.1 sb.2.2.1 sb.2.2.2
   ·refine ⟨_,rfl,_,rfl,_,rfl,(by show 3≤sizeLine; decide),fun r hr0=>?_⟩
    exact q r _ _ _ _ (s2.trans (zAd hr0 _)) (s2.free hr0) zAb hn (Nat.le_trans mx (by decide)) (Nat.le_trans my (by decide)) (Nat.le_trans mc (by decide))
theorem zOr {K:PySem.W.Frag} {l D:Addr} {xs:List V} {g:TG} {te:TE} {σ0:St} {H1:Hp} {Q:VK} (Pv:Nat→St→List V→Hp→Prop) (h0:Pv 0 σ0 [] (upd H1 D (.lst []))) (hl:∀ i σ zs H,Pv i σ zs H→SqL K H l xs∧H D = some (.lst zs))
  (hs:∀ i x T σ zs H,xs[i]? = some x→H T = none→Pv i σ zs H→g (.ref T) σ (upd H T (.tup [.int i,x])) fun σ2 H2=>te σ2 H2 fun z H4=>H4 D = some (.lst zs)∧zs.length < sizeLine∧Pv (i + 1) σ2 (zs ++ [z]) (upd H4 D (.lst (zs ++ [z]))))
  (hd:∀ σ zs H,Pv xs.length σ zs H→Q (.ref D) H):zG6 (Ite K l) D g tYes te σ0 H1 Q:=zRa Pv h0 hl (fun i x T σ zs H e1 e2 p=>hs i x T σ zs H e1 e2 p) hd
theorem zO6 (ss:List Sd) (j:Nat) (t:Sd):(zAn ss).set j (.ref t.1) = zAn (ss.set j t):=by
 simp [zAn,List.map_set]
theorem cutS2 {ok:Addr→List Sd→Hp→Prop} {G:Prop} {R:Addr→List Sd→Hp→Option V→Option V→Prop} (h1:(∀ D ss H u v,ok D ss H→R D ss H u v)→G) (h2:∀ D ss H u v,ok D ss H→R D ss H u v):G:=h1 h2
def zJk (K:PySem.W.Frag):Sp:=fun vs H Q _=>∃ (r:Addr) (rows:List Int) (m:Int),vs = [.ref r,.int m]∧SqL K H r (rows.map V.int)∧0≤m∧m≤60∧3≤rows.length∧3 + 5 * m≤rows.length∧(∀ x∈rows,0≤x∧x < 1000003) ∧
 ∀ (l:Addr) (ss:List Sd) (H':Hp),Same H H'→H l = none→H' l = some (.lst (zAn ss))→ss.length = m.toNat→SdOk H' ss→(∀ t∈ss,t.2.1.natAbs≤3 * 10 ^ 7∧t.2.2.1.natAbs≤3 * 10 ^ 7∧t.2.2.2.natAbs≤9 * 10 ^ 10)→Q (.ref l) H'
theorem zOz (F:Fun K "_law_sides" "_law_sides" zF9 f fd) (Z:Zs mg) (h_L_side:Has P w K mg base "_law_side" 2 ["_law_d"] (zLr K)):FnOk P w K mg base CX0 3 f fd ["_law_some", "_law_many_here"] (zJk K):=by
 refine F.ok zC2 (fun vs H Q E h=>?_) (fun cdv A outer s H vs Q E hr h=>?_)
 ·obtain ⟨r,rows,m,rfl,_⟩:=h
  rfl
 obtain ⟨r,rows,m,rfl,hS,m0,m60,hl3,hl,bd,q⟩:=h
 refine ⟨_,(zAg (zDx (T:=["_law_k"]) (caps:=[("_law_some", 0)]) (i:=2) zC2.nd rfl rfl ⟨rfl,by decide +kernel,by decide +kernel,rfl,⟨⟨rfl,rfl,Or.inl rfl⟩,True.intro⟩⟩ rfl (zEx rfl Z.range (zAa (pv 1) zAe)) (fun _=>(zAp (i:=0) (show (["_law_k", "_law_some"]:List Str).Nodup by decide +kernel) rfl (Or.inl rfl))) (fun _=>zBg) (fun _=>(zAh h_L_side (hr.mono (by decide)) rfl (zAa (zCd zC8 (pv 1) (zDa (zAm zBr zAc (zAm zA6 zAc (pv 0)))) zC5) zAe))))
   (zAg (zBs (PW.pt (zLa (zAv zM0 (pv 1) zAc (zAw _)) (zIz (zAv zFo (zAm zA7 (zAq zAk (pv 0) zAc (fun _ _=>rfl)) zAc) zAc (zAw _))))) (zAi (zOa (zAq zAk (pv 2) (zAm zA7 (zAq zAk (pv 0) zAc (fun _ _=>rfl)) (pv 1)) (fun _ _=>rfl)) (pg_sub (pv 2) (zAm zA7 (zAq zAk (pv 0) zAc (fun _ _=>rfl)) (pv 1)) zSw))) zA2)
   (zAg (zBs (zAv zFo (zAm zA7 (zAm zCm (zAq zAk (pv 0) zAc (fun _ _=>rfl)) zAc) zAc) zAc (zAw _)) (zAg (zOa (zB0 (zAa (zAm zBp (zAm zA7 (zAq zAk (pv 0) zAc (fun _ _=>rfl)) zAc) zAc) (zAa (zAm zBp (zAm zA7 (zAq zAk (pv 0) zAc (fun _ _=>rfl)) zAc) zAc) zAe))) (zE5 rfl (zA0 (zAp (i:=3) zC2.nd rfl (Or.inr rfl)) (zA0 (zAp (i:=4) zC2.nd rfl (Or.inr rfl)) zC9))))
   (zAi (zDx (T:=["_law_a", "_law_b", "_law_c"]) (caps:=[("_law_x", 3),("_law_y", 4)]) (i:=2) zC2.nd rfl rfl ⟨rfl,by decide +kernel,by decide +kernel,rfl,⟨⟨rfl,rfl,Or.inl rfl⟩,⟨rfl,rfl,Or.inl rfl⟩,True.intro⟩⟩ rfl (zBk (pv 2)) (fun _=>(zE5 rfl (zA0 (zAp (i:=0) (show (["_law_a", "_law_b", "_law_c", "_law_x", "_law_y"]:List Str).Nodup by decide +kernel) rfl (Or.inl rfl)) (zA0 (zAp (i:=1) (show (["_law_a", "_law_b", "_law_c", "_law_x", "_law_y"]:List Str).Nodup by decide +kernel) rfl (Or.inl rfl)) (zA0 (zAp (i:=2) (show (["_law_a", "_law_b", "_law_c", "_law_x", "_law_y"]:List Str).Nodup by decide +kernel) rfl (Or.inl rfl)) zC9))))) (fun _=>zBg) (fun _=>(zB0 (zAa (pv 0) (zAa (pv 1) (zAa (zAm zBr (zAm zBr (pv 2) (zAm zA6 (pv 0) (pv 3))) (zAm zA6 (pv 1) (pv 4))) zAe)))))))) zA2)
   (zAg (zBs (zAv zFo (zAm zA7 (zAm zCm (zAq zAk (pv 0) zAc (fun _ _=>rfl)) zAc) zAc) zAc (zAw _)) (zAi (zDx (T:=["_law_k", "_law_a", "_law_b", "_law_c"]) (caps:=[]) (i:=2) zC2.nd rfl rfl ⟨rfl,by decide +kernel,by decide +kernel,rfl,True.intro⟩ rfl (zTx rfl Z.enumerate (zAa (pv 2) zAe)) (fun _=>(zE5 rfl (zA0 (zAp (i:=0) (show (["_law_k", "_law_a", "_law_b", "_law_c"]:List Str).Nodup by decide +kernel) rfl (Or.inl rfl)) (zA0 (zE5 rfl (zA0 (zAp (i:=1) (show (["_law_k", "_law_a", "_law_b", "_law_c"]:List Str).Nodup by decide +kernel) rfl (Or.inl rfl)) (zA0 (zAp (i:=2) (show (["_law_k", "_law_a", "_law_b", "_law_c"]:List Str).Nodup by decide +kernel) rfl (Or.inl rfl)) (zA0 (zAp (i:=3) (show (["_law_k", "_law_a", "_law_b", "_law_c"]:List Str).Nodup by decide +kernel) rfl (Or.inl rfl)) zC9)))) zC9)))) (fun _=>zBg) (fun _=>(zS0 (zAv zFo (zAm zA7 (pv 0) zAc) zAc (zAw _)) (zB0 (zAa (zAm zA6 zAc (pv 1)) (zAa (zAm zA6 zAc (pv 2)) (zAa (zAm zA6 zAc (pv 3)) zAe)))) (zB0 (zAa (pv 1) (zAa (pv 2) (zAa (pv 3) zAe)))))))) zA2)
   (zAi (zAr (pv 2))))))),?_⟩
 obtain ⟨v0,a0,_⟩:=zC4 bd (k:=0) (by decide) (by omega)
 obtain ⟨v1,a1,_⟩:=zC4 bd (k:=1) (by decide) (by omega)
 obtain ⟨v2,a2,_⟩:=zC4 bd (k:=2) (by decide) (by omega)
 have cutD:∀ k:Nat,k≤rows.length→cutV (rows.map V.int) (some (k:Int)) none = (rows.drop k).map V.int:=fun k hk=>by
  rw [zIx,HT.sIx_nat rows.length 0 k,show min k rows.length = k by omega,show HT.sIx rows.length rows.length none = rows.length from rfl,List.take_of_length_le (by rw [List.length_drop]; omega)]
 apply cutS (ok:=fun D ss G=>ss.length = m.toNat∧SdSt H D ss G∧∀ t∈ss,t.2.1.natAbs≤10 ^ 7∧t.2.2.1.natAbs≤10 ^ 7∧t.2.2.2.natAbs≤10 ^ 10)
 ·intro main
  refine ⟨_,rfl,_,rfl,(by omega),(by omega),fun cc D hD=>zMk (lo:=0) (n:=m.toNat) (fun i σ ys G=>∃ ss:List Sd,ys = zAn ss∧ss.length = i∧SdSt H D ss G∧(∀ t∈ss,t.2.1.natAbs≤10 ^ 7∧t.2.2.1.natAbs≤10 ^ 7∧t.2.2.2.natAbs≤10 ^ 10)∧∃ u0:Option V,σ = [u0,some (.ref r)])
   ⟨[],rfl,rfl,⟨zAd hD _,hD,zAb,(fun t ht=>nomatch ht)⟩,(fun t ht=>nomatch ht),none,rfl⟩ (fun i σ ys G _ ⟨ss,e1,_,P,_⟩=>by rw [e1]; exact P.at') ?_ ?_⟩
  ·rintro i σ ys G hi ⟨ss,rfl,hlen,Pi,bnd,u0,rfl⟩
   have cm:CMul 5 (0 + (i:Int)):=.inl ⟨by decide,by decide⟩
   have ci:(3:Int) + 5 * (0 + (i:Int)) = ((3 + 5 * i:Nat):Int):=by omega
   have hi':3 + 5 * i + 5≤rows.length:=by omega
   refine ⟨_,rfl,_,rfl,_,_,rfl,rfl,cm,_,_,rfl,rfl,_,rfl,r,_,rfl,Pi.same.seq hS,fun c1 hc1=>?_⟩
   rw [ci,cutD (3 + 5 * i) (by omega)]
   have sc1:=zAd hc1 (.lst ((rows.drop (3 + 5 * i)).map V.int))
   refine ⟨c1,rows.drop (3 + 5 * i),rfl,SqL.of zAb,by rw [List.length_drop]; omega,fun x hx=>bd x (List.mem_of_mem_drop hx),fun p a b c G2 s2 hp ep n ma mb mc=>?_⟩
   refine ⟨s2 _ _ (sc1 _ _ Pi.at'),zA3 (by rw [zAj]; omega),ss ++ [(p,a,b,c)],by simp [zAn],by rw [List.length_append,hlen]; rfl,Pi.app (sc1.trans s2) (sc1.free hp) ep n (Nat.le_trans ma (by decide)) (Nat.le_trans mb (by decide)) (Nat.le_trans mc (by decide)),fun u hu=>?_,_,rfl⟩
   rcases List.mem_append.mp hu with h | h
   ·exact bnd u h
   ·rw [List.mem_singleton] at h
    subst h
    exact ⟨ma,mb,mc⟩
  rintro σ ys G ⟨ss,rfl,hlen,P0,bnd,u0,rfl⟩
  refine ⟨_,rfl,_,_,rfl,rfl,_,rfl,?_⟩
  refine ifD (fun hm1=>?_) (fun _=>?_)
  ·refine ⟨_,rfl,r,_,_,_,rfl,rfl,.inl (P0.same.seq hS),a0,_,_,rfl,rfl,(by show (0:Int) < 4; decide),rfl,_,rfl,?_⟩
   refine ifE (fun _=>?_) (fun _=>?_)
   ·have sqr:Sq K G r (rows.map V.int):=.inl (P0.same.seq hS)
    have y0:=Int.emod_nonneg v2 (show m≠0 by omega)
    have y1:=Int.emod_lt_of_pos v2 (show 0 < m by omega)
    have x0:=Int.emod_nonneg v1 (show m≠0 by omega)
    have x1:=Int.emod_lt_of_pos v1 (show 0 < m by omega)
    obtain ⟨t,mt,gt,at'⟩:=zE7 (ss:=ss) (i:=(v2 % m).toNat) (k:=v2 % m) (by omega) (by omega)
    have ixn:ixN (zAn ss).length (v1 % m) = some (v1 % m).toNat:=by
     unfold ixN
     rw [if_pos x0,zAj,if_pos (by omega)]
    refine ⟨_,rfl,_,rfl,r,_,_,_,rfl,rfl,sqr,a2,_,rfl,_,_,rfl,rfl,(by show (0:Int) < m; omega),D,_,_,_,rfl,rfl,.inl (SqL.of P0.at'),at',?_⟩
    refine ⟨_,rfl,_,rfl,r,_,_,_,rfl,rfl,sqr,a1,_,rfl,_,_,rfl,rfl,(by show (0:Int) < m; omega),D,_,_,_,rfl,rfl,P0.at',ixn,?_⟩
    rw [zO6]
    have P1:SdSt H D (ss.set (v1 % m).toNat t) (upd G D (.lst (zAn (ss.set (v1 % m).toNat t)))):=by
     refine ⟨P0.same.putNew P0.new,P0.new,zAb,fun u hu=>?_⟩
     have hu':u∈ss:=by
      rcases List.mem_or_eq_of_mem_set hu with h | h
      ·exact h
      ·rw [h]; exact mt
     obtain ⟨h1,h2⟩:=P0.all u hu'
     exact ⟨by rw [zAo (zDt h1 P0.at' (by intro z; cases z))]; exact h1,h2⟩
    have B1:∀ u∈ss.set (v1 % m).toNat t,u.2.1.natAbs≤10 ^ 7∧u.2.2.1.natAbs≤10 ^ 7∧u.2.2.2.natAbs≤10 ^ 10:=fun u hu=>by
     rcases List.mem_or_eq_of_mem_set hu with h | h
     ·exact bnd u h
     ·rw [h]; exact bnd t mt
    have N1:(ss.set (v1 % m).toNat t).length = m.toNat:=by rw [List.length_set]; exact hlen
    generalize upd G D (.lst (zAn (ss.set (v1 % m).toNat t))) = G1 at P1 ⊢
    generalize ss.set (v1 % m).toNat t = ss1 at P1 B1 N1
    exact main D ss1 G1 ⟨N1,P1,B1⟩
   ·exact main D ss G ⟨hlen,P0,bnd⟩
  ·refine iteF ?_
   exact main D ss G ⟨hlen,P0,bnd⟩
 clear cutD
 rintro D ss G ⟨hlen,P0,bnd⟩
 apply cutS2 (ok:=fun D ss G=>ss.length = m.toNat∧SdSt H D ss G∧∀ t∈ss,t.2.1.natAbs≤10 ^ 7∧t.2.2.1.natAbs≤10 ^ 7∧t.2.2.2.natAbs≤3 * 10 ^ 10)
 ·intro main2
  refine ⟨_,rfl,r,_,_,_,rfl,rfl,(.inl ((P0).same.seq hS)),a0,_,_,rfl,rfl,zDv.of (by decide) (by decide +kernel),_,_,rfl,rfl,(by show (0:Int) < 3; decide),rfl,_,rfl,?_⟩
  refine ifE (fun _=>?_) (fun _=>?_)
  ·have sqr:Sq K G r (rows.map V.int):=.inl ((P0).same.seq hS)
   refine ⟨_,rfl,r,_,_,_,rfl,rfl,sqr,a1,_,_,rfl,rfl,(by show (0:Int) < 2001; decide),_,_,rfl,rfl,_,rfl,r,_,_,_,rfl,rfl,sqr,a2,_,_,rfl,rfl,(by show (0:Int) < 2001; decide),_,_,rfl,rfl,(by show 2≤sizeLine; decide),fun tx htx=>?_⟩
   have stx:Same G (upd G tx (.tup [.int (v1 % 2001 - 1000),.int (v2 % 2001 - 1000)])):=zAd htx _
   have etx:upd G tx (.tup [.int (v1 % 2001 - 1000),.int (v2 % 2001 - 1000)]) tx = some (.tup [.int (v1 % 2001 - 1000),.int (v2 % 2001 - 1000)]):=zAb
   generalize upd G tx (.tup [.int (v1 % 2001 - 1000),.int (v2 % 2001 - 1000)]) = GX at stx etx ⊢
   have bX:(v1 % 2001 - 1000).natAbs≤1000:=by omega
   have bY:(v2 % 2001 - 1000).natAbs≤1000:=by omega
   generalize v1 % 2001 - 1000 = X at etx bX
   generalize v2 % 2001 - 1000 = Y at etx bY
   refine ⟨tx,_,rfl,SqT.of etx,rfl,.int X,_,rfl,.int Y,_,rfl,rfl,?_⟩
   refine ⟨_,rfl,D,rfl,.inl ⟨⟨_,SqL.of (stx _ _ (P0).at')⟩,fun cc D2 hD2=>zBn (K:=K) (a:=D) (xs:=zAn ss) (fun i σ ys Gd=>∃ sb:List Sd,ys = zAn sb∧sb.length = i∧SdSt GX D2 sb Gd∧(∀ t∈sb,t.2.1.natAbs≤10 ^ 7∧t.2.2.1.natAbs≤10 ^ 7∧t.2.2.2.natAbs≤3 * 10 ^ 10)∧∃ u0 u1 u2:Option V,σ = [u0,u1,u2,some (.int X),some (.int Y)])
    ⟨[],rfl,rfl,⟨zAd hD2 _,hD2,zAb,(fun t ht=>nomatch ht)⟩,(fun t ht=>nomatch ht),none,none,none,rfl⟩ (fun i σ ys Ge _ ⟨sb,e1,_,Pq,_⟩=>⟨SqL.of (Pq.same _ _ (stx _ _ (P0).at')),by rw [e1]; exact Pq.at'⟩) ?_ ?_⟩⟩
   ·rintro i x σ ys Gf hi ⟨sb,rfl,nb,Pg,bnb,u0,u1,u2,rfl⟩
    obtain ⟨t,gt,rfl,hil⟩:=zBf hi
    obtain ⟨et,nt,b1,b2,b3⟩:=(P0).all t (List.mem_of_getElem? gt)
    obtain ⟨c1,c2,c3⟩:=bnd t (List.mem_of_getElem? gt)
    refine ⟨t.1,_,rfl,SqT.of (Pg.same _ _ (stx _ _ et)),rfl,.int t.2.1,_,rfl,.int t.2.2.1,_,rfl,.int t.2.2.2,_,rfl,rfl,?_⟩
    have z1:=zAf t.2.1 X c1 bX
    have z2:=zAf t.2.2.1 Y c2 bY
    refine ⟨_,rfl,_,rfl,_,rfl,_,rfl,_,rfl,_,_,rfl,rfl,cm_l (by omega),_,_,rfl,rfl,_,rfl,_,rfl,_,_,rfl,rfl,cm_l (by omega),_,_,rfl,rfl,(by show 3≤sizeLine; decide),fun p hp=>?_⟩
    have sp:=zAd hp (.tup [.int t.2.1,.int t.2.2.1,.int (t.2.2.2 + t.2.1 * X + t.2.2.1 * Y)])
    refine ⟨sp _ _ Pg.at',zA3 (by rw [zAj]; omega),sb ++ [(p,t.2.1,t.2.2.1,t.2.2.2 + t.2.1 * X + t.2.2.1 * Y)],by simp [zAn],by rw [List.length_append,nb]; rfl,Pg.app sp hp zAb nt b1 b2 (by omega),fun u hu=>?_,_,_,_,rfl⟩
    rcases List.mem_append.mp hu with h | h
    ·exact bnb u h
    ·rw [List.mem_singleton] at h
     subst h
     exact ⟨c1,c2,by show (t.2.2.2 + t.2.1 * X + t.2.2.1 * Y).natAbs≤3 * 10 ^ 10; omega⟩
   ·rintro σ ys Gf ⟨ss2,rfl,nb,Pg,bnb,u0,u1,u2,rfl⟩
    rw [zAj] at nb
    have N2:ss2.length = m.toNat:=nb.trans hlen
    have P2:SdSt H D2 ss2 Gf:=⟨((P0).same.trans stx).trans Pg.same,(P0).same.free (stx.free Pg.new),Pg.at',Pg.all⟩
    have P2s:∀ t∈ss2,t.2.1.natAbs≤10 ^ 7∧t.2.2.1.natAbs≤10 ^ 7∧t.2.2.2.natAbs≤3 * 10 ^ 10:=fun t ht=>⟨Nat.le_trans (bnb t ht).1 (by decide),Nat.le_trans (bnb t ht).2.1 (by decide),(bnb t ht).2.2⟩
    clear Pg
    generalize some (V.int X) = uX
    generalize some (V.int Y) = uY
    exact main2 D2 ss2 Gf uX uY ⟨N2,P2,P2s⟩
  ·exact main2 D ss G none none ⟨hlen,P0,fun t ht=>⟨Nat.le_trans (bnd t ht).1 (by decide),Nat.le_trans (bnd t ht).2.1 (by decide),Nat.le_trans (bnd t ht).2.2 (by decide)⟩⟩
 clear P0 bnd hlen
 rintro D2 ss2 Gf uX uY ⟨N2,P2,P2s⟩
 refine ⟨_,rfl,r,_,_,_,rfl,rfl,(.inl (P2.same.seq hS)),a0,_,_,rfl,rfl,zDv.of (by decide) (by decide +kernel),_,_,rfl,rfl,(by show (0:Int) < 3; decide),rfl,_,rfl,?_⟩
 refine ifE (fun _=>?_) (fun _=>?_)
 ·refine ⟨_,rfl,D2,_,rfl,(P2).at',fun cc D3 hD3=>zOr (K:=K) (l:=D2) (xs:=zAn ss2) (fun i σ ys Ga=>∃ sa:List Sd,ys = zAn sa∧sa.length = i∧SdSt Gf D3 sa Ga∧(∀ t∈sa,t.2.1.natAbs≤3 * 10 ^ 7∧t.2.2.1.natAbs≤3 * 10 ^ 7∧t.2.2.2.natAbs≤9 * 10 ^ 10)∧∃ u0 u1 u2 u3:Option V,σ = [u0,u1,u2,u3])
   ⟨[],rfl,rfl,⟨zAd hD3 _,hD3,zAb,(fun t ht=>nomatch ht)⟩,(fun t ht=>nomatch ht),none,none,none,none,rfl⟩ (fun i σ ys Gb ⟨sa,e1,_,Pq,_⟩=>⟨SqL.of (Pq.same _ _ (P2).at'),by rw [e1]; exact Pq.at'⟩) ?_ ?_⟩
  ·rintro i x T σ ys Gc hi hT ⟨sa,rfl,na,Pc,bc,u0,u1,u2,u3,rfl⟩
   obtain ⟨t,gt,rfl,hil⟩:=zBf hi
   obtain ⟨et,nt,_⟩:=(P2).all t (List.mem_of_getElem? gt)
   obtain ⟨b1,b2,b3⟩:=P2s t (List.mem_of_getElem? gt)
   have k9:(10:Nat) ^ 8 * 3≤10 ^ 9:=by decide
   have sT:=zAd hT (.tup [.int i,.ref t.1])
   have npT:∀ p,upd Gc T (.tup [.int i,.ref t.1]) p = none→Gc p = none:=fun p hp=>sT.free hp
   have eT:upd Gc T (.tup [.int i,.ref t.1]) T = some (.tup [.int i,.ref t.1]):=zAb
   have et':=sT _ _ (Pc.same _ _ et)
   generalize upd Gc T (.tup [.int i,.ref t.1]) = G2 at sT npT eT et' ⊢
   refine ⟨T,_,rfl,SqT.of eT,rfl,.int i,_,rfl,.ref t.1,_,rfl,?_⟩
   refine ⟨t.1,_,rfl,SqT.of et',rfl,.int t.2.1,_,rfl,.int t.2.2.1,_,rfl,.int t.2.2.2,_,rfl,rfl,rfl,?_⟩
   have c3:∀ j:Int,CMul 3 j:=fun j=>.inl ⟨by decide,by decide⟩
   refine ⟨_,rfl,_,_,rfl,rfl,(by show (0:Int) < 2; decide),rfl,_,rfl,?_⟩
   refine ifE (fun _=>?_) (fun _=>?_)
   ·refine ⟨_,rfl,_,_,rfl,rfl,c3 _,_,rfl,_,_,rfl,rfl,c3 _,_,rfl,_,_,rfl,rfl,c3 _,(by show 3≤sizeLine; decide),fun p hp=>?_⟩
    have sp:=zAd hp (.tup [.int (3 * t.2.1),.int (3 * t.2.2.1),.int (3 * t.2.2.2)])
    have t1:=zAf 3 t.2.1 (m:=3) (by decide) b1
    have t2:=zAf 3 t.2.2.1 (m:=3) (by decide) b2
    have t3:=zAf 3 t.2.2.2 (m:=3) (by decide) b3
    refine ⟨sp _ _ (sT _ _ Pc.at'),zA3 (by rw [zAj]; omega),sa ++ [(p,3 * t.2.1,3 * t.2.2.1,3 * t.2.2.2)],by simp [zAn],by rw [List.length_append,na]; rfl,Pc.app (sT.trans sp) (npT p hp) zAb (by clear b1 b2 b3; omega) (Nat.le_trans t1 (by decide)) (Nat.le_trans t2 (by decide)) (Nat.le_trans t3 (by decide)),fun u hu=>(List.mem_append.mp hu).elim (bc u) fun h=>by rw [List.mem_singleton] at h; subst h; exact ⟨t1,t2,t3⟩,_,_,_,_,rfl⟩
   ·refine ⟨_,rfl,_,rfl,_,rfl,(by show 3≤sizeLine; decide),fun p hp=>?_⟩
    have sp:=zAd hp (.tup [.int t.2.1,.int t.2.2.1,.int t.2.2.2])
    refine ⟨sp _ _ (sT _ _ Pc.at'),zA3 (by rw [zAj]; omega),sa ++ [(p,t.2.1,t.2.2.1,t.2.2.2)],by simp [zAn],by rw [List.length_append,na]; rfl,Pc.app (sT.trans sp) (npT p hp) zAb nt (Nat.le_trans b1 (by decide)) (Nat.le_trans b2 (by decide)) (Nat.le_trans b3 (by decide)),fun u hu=>(List.mem_append.mp hu).elim (bc u) fun h=>by rw [List.mem_singleton] at h; subst h; exact ⟨Nat.le_trans b1 (by decide),Nat.le_trans b2 (by decide),Nat.le_trans b3 (by decide)⟩,_,_,_,_,rfl⟩
  ·rintro σ ys Gc ⟨sa,rfl,na,Pc,bc,u0,u1,u2,u3,rfl⟩
   rw [zAj] at na
   exact ⟨_,rfl,q D3 sa Gc ((P2).same.trans Pc.same) ((P2).same.free Pc.new) Pc.at' (na.trans N2) (fun t ht=>(Pc.all t ht)) bc⟩
 ·exact ⟨_,rfl,q D2 ss2 _ (P2).same (P2).new (P2).at' N2 (P2).all (fun t ht=>⟨Nat.le_trans (P2s t ht).1 (by decide),Nat.le_trans (P2s t ht).2.1 (by decide),Nat.le_trans (P2s t ht).2.2 (by decide)⟩)⟩
def zLb (_:PySem.W.Frag):Sp:=fun vs H Q _=>∃ (x y few most:Int),vs = [.int x,.int y,.int few,.int most]∧0≤few∧0≤most∧∀ (v:Int),0≤v→(v≤few∨v≤most)→Q (.int v) H
theorem zQn (F:Fun K "_law_many" "_law_many" zHt f fd) (Z:Zs mg)  : FnOk P w K mg base CX0 1 f fd ["_law_one", "_law_two", "_law_few", "_law_most"] (zLb K):=by
 refine F.ok zPy (fun vs H Q E h=>?_) (fun cdv A outer s H vs Q E hr h=>?_)
 ·obtain ⟨x,y,few,most,rfl,_⟩:=h
  rfl
 obtain ⟨x,y,few,most,rfl,h1,h2,q⟩:=h
 refine ⟨_,(zAg (zBs (zAv zFo (zAm zA7 (pv 1) zAc) zAc (zAw _)) (zAi (zAr (zAm zA7 (pv 0) (zAm zBr (pv 3) zAc)))) zA2)
   (zAi (zAr (zAm zA7 (pv 0) (zAm zBr (pv 2) zAc))))),?_⟩
 have g1:(0:Int) < most + 1:=by omega
 have g2:(0:Int) < few + 1:=by omega
 have m1:=Int.emod_nonneg x (show most + 1≠0 by omega)
 have m2:=Int.emod_lt_of_pos x g1
 have m3:=Int.emod_nonneg x (show few + 1≠0 by omega)
 have m4:=Int.emod_lt_of_pos x g2
 refine ⟨_,rfl,_,_,rfl,rfl,(by show (0:Int) < 8; decide),rfl,_,rfl,?_⟩
 refine ifE (fun _=>?_) (fun _=>?_)
 ·exact ⟨_,rfl,_,rfl,_,_,rfl,rfl,_,_,rfl,rfl,g1,q _ m1 (.inr (by omega))⟩
 ·exact ⟨_,rfl,_,rfl,_,_,rfl,rfl,_,_,rfl,rfl,g2,q _ m3 (.inl (by omega))⟩
def zKq (_:PySem.W.Frag):Sp:=fun vs H Q _=>∃ (x y:Int),vs = [.int x,.int y]∧Q (.int (Nat.gcd x.natAbs y.natAbs)) H
theorem zSk (F:Fun K "_law_low" "_law_low" zKm f fd) (Z:Zs mg):FnOk P w K mg base CX0 1 f fd ["_law_one", "_law_other"] (zKq K):=by
 refine F.ok zHp (fun vs H Q E h=>?_) (fun cdv A outer s H vs Q E hr h=>?_)
 ·obtain ⟨x,y,rfl,_⟩:=h
  rfl
 obtain ⟨x,y,rfl,q⟩:=h
 refine ⟨_,(zAg (zAu (i:=0) zHp.nd rfl (Or.inl rfl) (zAx zD6 rfl Z.abs zIs (zAa (pv 0) zAe)))
   (zAg (zAu (i:=1) zHp.nd rfl (Or.inl rfl) (zAx zD6 rfl Z.abs zIs (zAa (pv 1) zAe)))
   (zAg (zGp PassesOwn.never (zAv zM0 (pv 1) zAc (zAw _)) (zAi (ps_par (i:=0) (j:=1) rfl zHp.nd rfl rfl (by decide) rfl rfl (zAa (pv 1) (zAa (zAm zA7 (pv 0) (pv 1)) zAe)) rfl)))
   (zAi (zAr (pv 0)))))),?_⟩
 refine ⟨_,rfl,_,rfl,_,rfl,_,rfl,?_⟩
 refine zEc (fun σ H1=>H1 = H∧∃ (a b:Int),σ = [some (.int a),some (.int b)]∧0≤a∧0≤b∧Nat.gcd a.toNat b.toNat = Nat.gcd x.natAbs y.natAbs)
  (fun σ _=>match σ with | [_,some (.int b)]=>b.toNat | _=>0) ⟨rfl,_,_,rfl,by split <;> omega,by split <;> omega,by rw [zOj,zOj]; rfl⟩ ?_ (fun σ H Q Q' hq z=>by
   obtain ⟨v,hv,i,j,e1,e2,k,hk,z⟩:=z
   exact ⟨v,hv,i,j,e1,e2,k,hk,hq _ _ z⟩)
 rintro σ H1 ⟨rfl,a,b,rfl,h1,h2,h3⟩
 refine ⟨_,rfl,_,_,rfl,rfl,_,rfl,?_⟩
 refine ifD (fun hb=>?_) (fun hb=>?_)
 ·refine ⟨_,rfl,_,rfl,_,rfl,_,_,rfl,rfl,hb,_,_,rfl,⟨rfl,_,_,rfl,h2,Int.emod_nonneg a (by omega),?_⟩,?_⟩
  ·rw [zKp h1 hb]; exact h3
  ·have h4:=Int.emod_lt_of_pos a hb
   show (a % b).toNat < b.toNat
   omega
 ·refine ⟨_,rfl,?_⟩
  have hb0:b = 0:=by omega
  subst hb0
  have h5:a = ((Nat.gcd x.natAbs y.natAbs:Nat):Int):=by
   rw [← h3]
   show a = ((Nat.gcd a.toNat 0:Nat):Int)
   rw [Nat.gcd_zero_right]
   omega
  rw [h5]
  exact q
def zG8 (_:PySem.W.Frag):Sp:=fun vs H Q _=>∃ (x y z:Int),vs = [.int x,.int y,.int z]∧z≠0∧z.natAbs≤10 ^ 40∧∀ (p:Addr) (H':Hp),Same H H'→H p = none→H' p = some (.tup ((lowL (upL x y z)).map V.int))→Q (.ref p) H'
theorem zMc (F:Fun K "_law_spot_of" "_law_spot_of" zD3 f fd) (Z:Zs mg) (h_L_low:Has P w K mg base "_law_low" 1 ["_law_one", "_law_other"] (zKq K)):FnOk P w K mg base CX0 2 f fd ["_law_x", "_law_y", "_law_w"] (zG8 K):=by
 refine F.ok zE2 (fun vs H Q E h=>?_) (fun cdv A outer s H vs Q E hr h=>?_)
 ·obtain ⟨x,y,z,rfl,_⟩:=h
  rfl
 obtain ⟨x,y,z,rfl,hz,hz2,q⟩:=h
 refine ⟨_,(zAg (zBs (zAv zJe (pv 2) zAc (zAw _)) (zAi (zU6 (i:=0) (j:=1) (k:=2) rfl zE2.nd rfl rfl rfl (by decide) (by decide) (by decide) rfl rfl rfl (zAa (zLd zHc (pv 0)) (zAa (zLd zHc (pv 1)) (zAa (zLd zHc (pv 2)) zAe))) rfl)) zA2)
   (zAg (zAu (i:=3) zE2.nd rfl (Or.inl rfl) (zAh h_L_low (hr.mono (by decide)) rfl (zAa (zAh h_L_low (hr.mono (by decide)) rfl (zAa (pv 0) (zAa (pv 1) zAe))) (zAa (pv 2) zAe))))
   (zAi (zAr (zB0 (zAa (zAm zCm (pv 0) (pv 3)) (zAa (zAm zCm (pv 1) (pv 3)) (zAa (zAm zCm (pv 2) (pv 3)) zAe)))))))),?_⟩
 refine ⟨_,rfl,_,_,rfl,rfl,_,rfl,?_⟩
 refine ifD (fun hneg=>?_) (fun hpos=>?_)
 ·refine ⟨_,rfl,_,rfl,_,rfl,_,rfl,_,rfl,_,rfl,_,_,_,rfl,?_⟩
  have u:upL x y z = [-x,-y,-z]:=by unfold upL; rw [if_pos hneg]
  have eg:(Nat.gcd ((Nat.gcd (-x).natAbs (-y).natAbs:Nat):Int).natAbs (-z).natAbs:Nat) = gcdL [-x,-y,-z]:=gcd3 _ _ _
  refine ⟨_,rfl,_,rfl,-x,-y,rfl,_,rfl,_,-z,rfl,?_⟩
  rw [eg]
  have gp:0 < gcdL [-x,-y,-z]:=zCy (n:=-z) (by simp) (by omega)
  have gle:=zH9 (ns:=[-x,-y,-z]) (n:=-z) (by simp) (by omega)
  have dv:∀ i:Int,zDv i (gcdL [-x,-y,-z]:Int):=fun i=>zDv.of (by omega) (Int.lt_of_le_of_lt (show (gcdL [-x,-y,-z]:Int)≤10 ^ 40 by omega) (by decide +kernel))
  refine ⟨_,rfl,_,rfl,_,_,rfl,rfl,dv _,_,rfl,_,rfl,_,_,rfl,rfl,dv _,_,rfl,_,rfl,_,_,rfl,rfl,dv _,(by show 3≤sizeLine; decide),fun p hp=>?_⟩
  refine q p _ (zAd hp _) hp ?_
  rw [u]
  exact zAb
 ·have u:upL x y z = [x,y,z]:=by unfold upL; rw [if_neg hpos]
  have eg:(Nat.gcd ((Nat.gcd (x).natAbs (y).natAbs:Nat):Int).natAbs (z).natAbs:Nat) = gcdL [x,y,z]:=gcd3 _ _ _
  refine ⟨_,rfl,_,rfl,x,y,rfl,_,rfl,_,z,rfl,?_⟩
  rw [eg]
  have gp:0 < gcdL [x,y,z]:=zCy (n:=z) (by simp) (by omega)
  have gle:=zH9 (ns:=[x,y,z]) (n:=z) (by simp) (by omega)
  have dv:∀ i:Int,zDv i (gcdL [x,y,z]:Int):=fun i=>zDv.of (by omega) (Int.lt_of_le_of_lt (show (gcdL [x,y,z]:Int)≤10 ^ 40 by omega) (by decide +kernel))
  refine ⟨_,rfl,_,rfl,_,_,rfl,rfl,dv _,_,rfl,_,rfl,_,_,rfl,rfl,dv _,_,rfl,_,rfl,_,_,rfl,rfl,dv _,(by show 3≤sizeLine; decide),fun p hp=>?_⟩
  refine q p _ (zAd hp _) hp ?_
  rw [u]
  exact zAb
def zJv (_:PySem.W.Frag):Sp:=fun vs H Q _=>∃ (x:Int),vs = [.int x]∧Q (.bl true) H
theorem zOt (F:Fun K "_law_whole" "_law_whole" zGn f fd) (Z:Zs mg):FnOk P w K mg base CX0 1 f fd ["_law_found"] (zJv K):=by
 refine F.ok zOx (fun vs H Q E h=>?_) (fun cdv A outer s H vs Q E hr h=>?_)
 ·obtain ⟨x,rfl,_⟩:=h
  rfl
 obtain ⟨x,rfl,q⟩:=h
 refine ⟨_,(zAi (zAr (zLo (zAx zFu rfl Z.isinstance zEd (zAa (pv 0) (zAa (zMp (v:=.ty "int") rfl Z.int bt_int rfl) zAe))) (zNu (pe_not (zAx zFu rfl Z.isinstance zEd (zAa (pv 0) (zAa (zMp (v:=.ty "bool") rfl Z.bool zUg rfl) zAe)))))))),?_⟩
 refine ⟨_,rfl,_, "int", _,_,rfl,.int x,zNg K,_,rfl,iteT ?_⟩
 exact ⟨_,rfl,_, "bool", _,_,rfl,.int x,zK5 K,_,rfl,q⟩
def zHh (_:PySem.W.Frag):Sp:=fun vs H Q _=>∃ (a:Addr) (ns:List Int) (m:Int),vs = [.ref a,.int m]∧H a = some (.tup (ns.map V.int))∧ns.length≤1000∧m = ns.length∧∀ H',Same H H'→Q (.bl true) H'
theorem zLl (F:Fun K "_law_numbers" "_law_numbers" zEo f fd) (Z:Zs mg) (h_L_whole:Has P w K mg base "_law_whole" 1 ["_law_found"] (zJv K)):FnOk P w K mg base CX0 2 f fd ["_law_found", "_law_many_here"] (zHh K):=by
 refine F.ok zLg (fun vs H Q E h=>?_) (fun cdv A outer s H vs Q E hr h=>?_)
 ·obtain ⟨a,ns,m,rfl,_⟩:=h
  rfl
 obtain ⟨a,ns,m,rfl,ha,hl,hm,q⟩:=h
 refine ⟨_,(zAi (zAr (zLo (zAx zFu rfl Z.isinstance zEd (zAa (pv 0) (zAa (zMp (v:=.ty "tuple") rfl Z.tuple zJ9 rfl) zAe))) (zLo (zEa zFo (zAx zAz rfl Z.len zCs (zAa (pv 0) zAe)) (pv 1) (zAw _)) (zNu (zAx (zRf rfl) rfl Z.all bt_all (zAa (zCl (T:=["_law_one"]) (caps:=[]) ⟨rfl,by decide +kernel,by decide +kernel,rfl,True.intro⟩ rfl (zBk (pv 0)) (fun _=>(zAp (i:=0) (show (["_law_one"]:List Str).Nodup by decide +kernel) rfl (Or.inl rfl))) (fun _=>zBg) (fun _=>(zAh h_L_whole (hr.mono (by decide)) rfl (zAa (pv 0) zAe)))) zAe))))))),?_⟩
 refine ⟨_,rfl,_, "tuple", _,_,rfl,.tup ha,zId K,_,rfl,iteT ?_⟩
 refine ⟨_,rfl,a,_,rfl,.inr (SqT.of ha),_,rfl,rfl,_,rfl,?_⟩
 rw [decI (by rw [List.length_map,hm])]
 refine iteT ?_
 refine ⟨_,rfl,a,rfl,.inr ⟨⟨_,SqT.of ha⟩,fun c D hD=>zIj (K:=K) (a:=a) (xs:=ns.map V.int) (fun i σ ys H'=>H' = upd H D (.lst ys)∧ys = (List.replicate i true).map V.bl∧i≤ns.length∧∃ u,σ = [u])
  ⟨rfl,rfl,Nat.zero_le _,none,rfl⟩ (fun i σ ys H' _ ⟨e,_⟩=>by rw [e]; exact ⟨SqT.same (SqT.of ha) (zAd hD _),zAb⟩) ?_ ?_⟩⟩
 ·rintro i x σ ys H' hi ⟨rfl,rfl,hil,u,rfl⟩
  obtain ⟨n,hn,rfl⟩:=zCb hi
  have hin:i < ns.length:=(List.getElem?_eq_some_iff.mp hn).1
  refine ⟨_,rfl,n,rfl,zAb,zA3 (by rw [List.length_map,List.length_replicate]; omega),?_⟩
  refine ⟨zE8,?_,hin,_,rfl⟩
  rw [List.replicate_succ',List.map_append]
  rfl
 ·rintro σ ys H' ⟨rfl,rfl,hil,u,rfl⟩
  refine ⟨D,List.replicate (ns.map V.int).length true,rfl,SqL.of zAb,?_⟩
  rw [show (List.replicate (ns.map V.int).length true).all id = true from by simp]
  exact q _ (zAd hD _)
theorem cBp {i j:Int} (hi:i.natAbs≤10 ^ 401) (hj:j.natAbs≤10 ^ 401):zHj i j:=⟨Nat.lt_of_le_of_lt hi (by decide +kernel),Nat.lt_of_le_of_lt hj (by decide +kernel)⟩
def zHe (_:PySem.W.Frag):Sp:=fun vs H Q _=>∃ (a:Addr) (x y t b:Int),vs = [.ref a,.int t,.int b]∧H a = some (.tup [.int x,.int y])∧1≤y∧Nat.gcd x.natAbs y.natAbs = 1∧x * b = y * t∧(x.natAbs≤10 ^ 401∧y.natAbs≤10 ^ 401)∧(t.natAbs≤10 ^ 401∧b.natAbs≤10 ^ 401)∧∀ H',Same H H'→Q (.bl true) H'
theorem zLf (F:Fun K "_law_is_part" "_law_is_part" zEb f fd) (Z:Zs mg) (h_L_numbers:Has P w K mg base "_law_numbers" 2 ["_law_found", "_law_many_here"] (zHh K)) (h_L_low:Has P w K mg base "_law_low" 1 ["_law_one", "_law_other"] (zKq K)):FnOk P w K mg base CX0 3 f fd ["_law_found", "_law_top", "_law_bottom"] (zHe K):=by
 refine F.ok zK2 (fun vs H Q E h=>?_) (fun cdv A outer s H vs Q E hr h=>?_)
 ·obtain ⟨a,x,y,t,b,rfl,_⟩:=h
  rfl
 obtain ⟨a,x,y,t,b,rfl,ha,hy,hg,he,hb1,hb2,q⟩:=h
 refine ⟨_,(zAg (zBs (PW.pt (zR5 (zHg (zEt (zAh h_L_numbers (hr.mono (by decide)) rfl (zAa (pv 0) (zAa zAc zAe))))) (zR5 (zAv zJe (zAq zAk (pv 0) zAc (fun _ _=>rfl)) zAc (zAw _)) (zQb (zAv zS6 (zAh h_L_low (hr.mono (by decide)) rfl (zAa (zAq zAk (pv 0) zAc (fun _ _=>rfl)) (zAa (zAq zAk (pv 0) zAc (fun _ _=>rfl)) zAe))) zAc (zAw _)))))) (zAi (zAr zG2)) zA2)
   (zAi (zAr (zEa zFo (zAm zBj (zAq zAk (pv 0) zAc (fun _ _=>rfl)) (pv 2)) (zAm zBj (zAq zAk (pv 0) zAc (fun _ _=>rfl)) (pv 1)) (zAw _))))),?_⟩
 refine ⟨_,rfl,a,[x,y],2,rfl,ha,by show 2≤1000; decide,rfl,fun H1 s1=>⟨true,rfl,?_⟩⟩
 have h1:=s1 _ _ ha
 refine iteF ?_
 refine ⟨_,rfl,a,_,_,.int y,rfl,rfl,.inr (SqT.of h1),rfl,_,_,rfl,rfl,_,rfl,?_⟩
 refine ifD (fun z=>absurd z (by omega)) (fun _=>?_)
 refine ⟨_,rfl,a,_,_,.int x,rfl,rfl,.inr (SqT.of h1),rfl,_,rfl,a,_,_,.int y,rfl,rfl,.inr (SqT.of h1),rfl,x,y,rfl,rfl,_,rfl,?_⟩
 refine ifNe (fun z=>absurd (by rw [hg]; rfl) z) (fun _=>?_)
 refine ⟨_,rfl,a,_,_,.int x,rfl,rfl,.inr (SqT.of h1),rfl,_,rfl,_,_,rfl,rfl,cBp hb1.1 hb2.2,
  _,rfl,a,_,_,.int y,rfl,rfl,.inr (SqT.of h1),rfl,_,rfl,_,_,rfl,rfl,cBp hb1.2 hb2.1,rfl,?_⟩
 rw [decI he]
 exact q _ s1
def fl (p:Nat→Bool) (n:Nat):List Int:=((List.range n).filter p).map fun i=>((i:Nat):Int)
theorem fl_succ (p:Nat→Bool) (n:Nat):fl p (n + 1) = fl p n ++ (if p n then [(n:Int)] else []):=by
 unfold fl
 rw [List.range_succ,List.filter_append,List.map_append]
 congr 1
 rw [List.filter_cons]
 cases p n <;> rfl
theorem fl_len (p:Nat→Bool) (n:Nat):(fl p n).length≤n:=by
 unfold fl
 rw [List.length_map]
 have z:=List.length_filter_le p (List.range n)
 rwa [List.length_range] at z
theorem zNo {p q:Nat→Bool} {n:Nat} (h:∀ i,i < n→p i = q i):fl p n = fl q n:=by
 unfold fl
 rw [List.filter_congr fun i hi=>h i (List.mem_range.mp hi)]
theorem fl_le {p q:Nat→Bool} {n:Nat} (h:∀ i,i < n→p i = true→q i = true):(fl p n).length≤(fl q n).length:=by
 unfold fl
 rw [List.length_map,List.length_map]
 exact L2.filter_le fun i hi=>h i (List.mem_range.mp hi)
theorem fl_eq {p q:Nat→Bool} {n:Nat} (h:∀ i,i < n→p i = true→q i = true) (hl:(fl q n).length≤(fl p n).length):fl p n = fl q n:=by
 refine zNo fun i hi=>?_
 cases e1:p i with
 | true=>exact (h i hi e1).symm
 | false =>
  cases e2:q i with
  | false=>rfl
  | true =>
   exfalso
   unfold fl at hl
   rw [List.length_map,List.length_map] at hl
   have z:=L2.filter_lt (l:=List.range n) (p:=p) (q:=q) (z:=i) (fun j hj=>h j (List.mem_range.mp hj)) (List.mem_range.mpr hi) e1 e2
   omega
theorem zPd (ss:List (List Sd)) (P:P3):db ss P = fl (fun i=>!(inWB (ss.getD i []) P)) ss.length:=rfl
theorem zI0 {ss:List Sd} {P:P3} (nz:∀ t∈ss,t.2.1≠0∨t.2.2.1≠0) (h:zHl ss P):0 < P.2.2:=by
 rcases h with rfl | ⟨t,ht,rfl⟩ | ⟨t,ht,u,hu,hn,rfl⟩
 ·decide
 ·exact (zSa (nz t ht)).1.pos
 ·exact (zCj hn).1.pos
theorem zJz (gs:List Grp) (g:Grp):zEq (gs ++ [g]) = zEq gs ++ [.ref g.1]:=by unfold zEq; rw [List.map_append]; rfl
structure CpS (H0:Hp) (D:Addr) (cs:List Grp) (H:Hp):Prop where
 same:Same H0 H
 at':H D = some (.lst (zEq cs))
 all:GrL H cs
 new:∀ g∈cs,H0 g.1 = none∧g.1≠D
theorem deepL {K:PySem.W.Frag} {H:Hp} {n:Nat} {a b:Addr} {xs ys:List V} (ne:a≠b) (ha:SqL K H a xs) (hb:SqL K H b ys) (hl:xs.length = ys.length) (he:∀ (j:Nat) (h1:j < xs.length) (h2:j < ys.length),Deep K H n xs[j] ys[j] true):Deep K H (n + 1) (.ref a) (.ref b) true:=by
 have d:=Deep.lst (e:=fun _=>true) ne ha hb hl he
 rw [zHb] at d
 exact d

theorem zEk {K:PySem.W.Frag} {te:TE} {H:Hp} {l D:Addr} {S:List Sd} {Q:VK} (hl:H l = some (.lst (zAn S))) (ok:SdOk H S) (hD:H D = none) (hn:S.length≤100)
  (hte:∀ (H':Hp) (x:Addr) (Q':VK),(∀ c,H' c = none→Q' (.ref c) (upd H' c (.lst [.ref x])))→te [some (.ref x)] H' Q')
  (q:∀ (cs:List Grp) (H':Hp),CpS H D cs H'→cs.map (·.2) = S.map (fun t=>[t])→Q (.ref D) H'):zG6 (Itl K l) D (zSf 0) tYes te [none] H Q:=by
 refine zBn (K:=K) (a:=l) (xs:=zAn S) (fun i σ ys H'=>(∃ cs:List Grp,ys = zEq cs∧CpS H D cs H'∧cs.map (·.2) = (S.take i).map fun t=>[t])∧∃ u:Option V,σ = [u])
  ⟨⟨[],rfl,⟨zAd hD _,zAb,(fun g hg=>nomatch hg),(fun g hg=>nomatch hg)⟩,rfl⟩,none,rfl⟩ (fun i σ ys H' _ ⟨⟨cs,e,P,_⟩,_⟩=>⟨SqL.of (P.same _ _ hl),by rw [e]; exact P.at'⟩) ?_ ?_
 ·rintro i v σ ys H' hi ⟨⟨cs,rfl,P,em⟩,u,rfl⟩
  obtain ⟨t,gt,rfl,hil⟩:=zBf hi
  have ot:=ok t (List.mem_of_getElem? gt)
  have lc:cs.length = i:=by have z:=congrArg List.length em; rw [List.length_map,List.length_map,List.length_take] at z; omega
  refine hte H' t.1 _ fun c hc=>?_
  have sc:=zAd hc (.lst [.ref t.1])
  have ncD:c≠D:=fun z=>by rw [z,P.at'] at hc; cases hc
  refine ⟨sc _ _ P.at',zA3 (by rw [zB9]; omega),⟨cs ++ [(c,[t])],(zJz cs (c,[t])).symm,⟨(P.same.trans sc).putNew hD,by rw [zAb,zJz],fun x hx=>?_,fun x hx=>?_⟩,?_⟩,_,rfl⟩
  ·have sk:∀ {ss:List Sd},SdOk H' ss→SdOk (upd (upd H' c (.lst [.ref t.1])) D (.lst (zEq cs ++ [V.ref c]))) ss:=fun {ss} o t ht=>by
    have e:=sc _ _ (o t ht).1
    exact ⟨by rw [zAo (zDt e (sc _ _ P.at') (by intro z; cases z))]; exact e,(o t ht).2⟩
   rcases List.mem_append.mp hx with hx | hx
   ·obtain ⟨h1,h2⟩:=P.all x hx
    exact ⟨by rw [zAo (P.new x hx).2]; exact sc _ _ h1,sk h2⟩
   ·rw [List.mem_singleton] at hx
    subst hx
    refine ⟨by show upd _ D _ c = _; rw [zAo ncD]; exact zAb,sk fun u hu=>?_⟩
    rw [List.mem_singleton] at hu
    subst hu
    exact ⟨P.same _ _ ot.1,ot.2⟩
  ·rcases List.mem_append.mp hx with hx | hx
   ·exact P.new x hx
   ·rw [List.mem_singleton] at hx
    subst hx
    exact ⟨P.same.free hc,ncD⟩
  ·rw [List.map_append,em,zA8 gt,List.map_append]
   rfl
 ·rintro σ ys H' ⟨⟨cs,rfl,P,em⟩,u,rfl⟩
  rw [zAj,List.take_length] at em
  exact q cs H' P em
def zRr (ss:List (List Sd)) (k:List Int):Prop:=(∃ P:P3,0 < P.2.2∧k = db ss P)∧∀ P:P3,0 < P.2.2→k.length≤(db ss P).length
theorem zKr {gs:List Grp} {ks:List (List Int)} (nz:∀ t∈zA9 gs,t.2.1≠0∨t.2.2.1≠0) (in2:∀ k∈ks,∃ P,zHl (zA9 gs) P∧k = db (gs.map (·.2)) P) (le:zUh gs ks) (k:List Int):k∈ks↔zRr (gs.map (·.2)) k:=by
 have better:∀ P0:P3,0 < P0.2.2→∃ P,zHl (zA9 gs) P∧∀ i,i < (gs.map (·.2)).length→(!(inWB ((gs.map (·.2)).getD i []) P)) = true→(!(inWB ((gs.map (·.2)).getD i []) P0)) = true:=fun P0 hP0=>by
  have sub:∀ t,t∈((gs.map (·.2)).filter fun l=>inWB l P0).flatten→t∈zA9 gs:=fun t ht=>by
   obtain ⟨l,hl,htl⟩:=List.mem_flatten.mp ht
   obtain ⟨g,hg,rfl⟩:=List.mem_map.mp (List.mem_filter.mp hl).1
   exact List.mem_flatMap.mpr ⟨g,hg,htl⟩
  obtain ⟨P,cP,_,wP⟩:=zRu (fun t ht=>nz t (sub t ht)) P0 hP0 (fun t ht=>by
   obtain ⟨l,hl,htl⟩:=List.mem_flatten.mp ht
   exact zEf.mp (List.mem_filter.mp hl).2 t htl)
  refine ⟨P,?_,fun i hi hb=>?_⟩
  ·rcases cP with e | ⟨t,ht,e⟩ | ⟨t,ht,u,hu,hn,e⟩
   ·exact .inl e
   ·exact .inr (.inl ⟨t,sub t ht,e⟩)
   ·exact .inr (.inr ⟨t,sub t ht,u,sub u hu,hn,e⟩)
  ·cases e:inWB ((gs.map (·.2)).getD i []) P0 with
   | false=>rfl
   | true =>
    have hm:(gs.map (·.2)).getD i []∈(gs.map (·.2)).filter fun l=>inWB l P0:=List.mem_filter.mpr ⟨by rw [List.getD_eq_getElem?_getD,List.getElem?_eq_getElem hi]; exact List.getElem_mem hi,e⟩
    have z:inWB ((gs.map (·.2)).getD i []) P = true:=zEf.mpr fun t ht=>wP t (List.mem_flatten.mpr ⟨_,hm,ht⟩)
    rw [z] at hb
    cases hb
 constructor
 ·intro hk
  obtain ⟨P,hP,e⟩:=in2 k hk
  refine ⟨⟨P,zI0 nz hP,e⟩,fun P0 hP0=>?_⟩
  obtain ⟨P',h1,h2⟩:=better P0 hP0
  refine Nat.le_trans (le.least k hk P' h1) ?_
  rw [zPd,zPd]
  exact fl_le h2
 ·rintro ⟨⟨P0,hP0,e⟩,low⟩
  obtain ⟨P',h1,h2⟩:=better P0 hP0
  have z:=low P' (zI0 nz h1)
  rw [e] at z
  have eq:db (gs.map (·.2)) P' = k:=by
   rw [e]
   rw [zPd,zPd] at z ⊢
   exact fl_eq h2 z
  have z2:=le.all P' h1 (fun k' hk'=>by
   obtain ⟨P'',h3,h4⟩:=in2 k' hk'
   rw [eq,h4]
   exact low P'' (zI0 nz h3))
  rwa [eq] at z2
theorem zSj {b x y:Int} (hb:0 < b) {S S':List Sd} (h:Mv b x y S S') {P P':P3} (r:Rel b x y P P'):db (S'.map fun t=>[t]) P' = db (S.map fun t=>[t]) P:=by
 rw [zPd,zPd,List.length_map,List.length_map,h.len]
 refine zNo fun i hi=>?_
 have hi':i < S'.length:=by rw [h.len]; exact hi
 rw [List.getD_eq_getElem?_getD,List.getD_eq_getElem?_getD,List.getElem?_map,List.getElem?_map,List.getElem?_eq_getElem hi,List.getElem?_eq_getElem hi']
 have e:S'[i].2 = mT b x y S[i].2:=by
  have z:=congrArg (fun l:List P3=>l[i]?) h
  simp only [List.getElem?_map,List.getElem?_eq_getElem hi,List.getElem?_eq_getElem hi',Option.map_some] at z
  exact Option.some.inj z
 show (!(inWB [S'[i]] P')) = (!(inWB [S[i]] P))
 congr 1
 unfold inWB
 rw [List.all_cons,List.all_cons,List.all_nil,List.all_nil,Bool.and_true,Bool.and_true,e]
 exact decide_eq_decide.mpr (r.svle hb _)
theorem zTj {b x y:Int} (hb:0 < b) {S S':List Sd} (h:Mv b x y S S') (k:List Int):zRr (S'.map fun t=>[t]) k↔zRr (S.map fun t=>[t]) k:=by
 have up:∀ z:P3,0 < z.2.2→∃ z',0 < z'.2.2∧Rel b x y z z':=fun z zw=>⟨(b * z.1 + x * z.2.2,b * z.2.1 + y * z.2.2,z.2.2),zw,⟨zw,zw,rfl,rfl⟩⟩
 have dn:∀ z:P3,0 < z.2.2→∃ z',0 < z'.2.2∧Rel b x y z' z:=fun z zw=>⟨(z.1 - x * z.2.2,z.2.1 - y * z.2.2,b * z.2.2),Int.mul_pos hb zw,⟨Int.mul_pos hb zw,zw,by dsimp only; grind,by dsimp only; grind⟩⟩
 constructor
 ·rintro ⟨⟨P,hP,e⟩,low⟩
  obtain ⟨P',h1,r⟩:=dn P hP
  refine ⟨⟨P',h1,by rw [e,zSj hb h r]⟩,fun Q hQ=>?_⟩
  obtain ⟨Q',h2,r2⟩:=up Q hQ
  rw [← zSj hb h r2]
  exact low Q' h2
 ·rintro ⟨⟨P,hP,e⟩,low⟩
  obtain ⟨P',h1,r⟩:=up P hP
  refine ⟨⟨P',h1,by rw [e,zSj hb h r]⟩,fun Q hQ=>?_⟩
  obtain ⟨Q',h2,r2⟩:=dn Q hQ
  rw [zSj hb h r2]
  exact low Q' h2
structure Two (b:Int) (H:Hp) (v v':V) (p p':Addr) (s t s' t':Int):Prop where
 ev:v = .ref p
 ev':v' = .ref p'
 e:H p = some (.tup [.int s,.int t])
 e':H p' = some (.tup [.int s',.int t'])
 pos:1≤t
 pos':1≤t'
 low:Nat.gcd s.natAbs t.natAbs = 1
 low':Nat.gcd s'.natAbs t'.natAbs = 1
 eq:s' * t = t' * (s * b * b)
 bnd:s.natAbs≤10 ^ 372∧t.natAbs≤10 ^ 372∧s'.natAbs≤10 ^ 372∧t'.natAbs≤10 ^ 372
theorem rga_mv {b x y:Int} (hb:0 < b) {S S':List Sd} (h:Mv b x y S S') {O O':P3} {rest rest':List P3} (R:RgA S O rest) (R':RgA S' O' rest'):O' = fi b x y O∧rest' = rest.map (fi b x y):=by
 have cO:zDy O:=zCa R.rg.cO
 have low:∀ A∈O :: rest,zDy A:=fun A hA=>zCa ((R.rg.mem A).mp hA)
 have rel:∀ A∈O :: rest,Rel b x y A (fi b x y A):=fun A hA=>(zFs (low A hA).1).1
 have nd':=R'.rg.nodup
 have nd:=R.rg.nodup
 have eO:O' = fi b x y O:=by
  obtain ⟨P,cP,e⟩:=h.cor' hb R'.rg.cO
  rcases List.mem_cons.mp ((R.rg.mem P).mpr cP) with rfl | hP
  ·exact e
  ·exfalso
   have a1:ahB (0,O) (0,P) = true:=R.ah P hP 0 0
   have a2:=((rel O (.head _)).ah hb (rel P (.tail _ hP))).mpr a1
   rw [← e] at a2
   have m:fi b x y O∈O' :: rest':=(R'.rg.mem _).mpr (h.cor hb R.rg.cO)
   rcases List.mem_cons.mp m with z | z
   ·rw [z] at a2
    rw [zI2] at a2
    omega
   ·have a3:ahB (0,O') (0,fi b x y O) = true:=R'.ah _ z 0 0
    rw [zI2] at a2 a3
    omega
 refine ⟨eO,?_⟩
 have mapnd:(rest.map (fi b x y)).Nodup:=by
  rw [List.Nodup,List.pairwise_map]
  exact List.Pairwise.imp_of_mem (fun {P Q} hP hQ ne e=>ne (zRy hb (low P (.tail _ hP)) (low Q (.tail _ hQ)) e)) (List.nodup_cons.mp nd).2
 refine uniq (R:=fun A B=>0 < c3 O' A B) ((List.perm_ext_iff_of_nodup (List.nodup_cons.mp nd').2 mapnd).mpr fun A'=>?_) (fun A _ B _ h1 h2=>by have z:=zR2 O' A B; omega) R'.rg.left ?_
 ·rw [List.mem_map]
  constructor
  ·intro hA'
   obtain ⟨P,cP,e⟩:=h.cor' hb ((R'.rg.mem A').mp (.tail _ hA'))
   rcases List.mem_cons.mp ((R.rg.mem P).mpr cP) with rfl | hP
   ·exfalso
    rw [← eO] at e
    exact (List.nodup_cons.mp nd').1 (e ▸ hA')
   ·exact ⟨P,hP,e.symm⟩
  ·rintro ⟨P,hP,rfl⟩
   rcases List.mem_cons.mp ((R'.rg.mem _).mpr (h.cor hb ((R.rg.mem P).mp (.tail _ hP)))) with z | z
   ·exfalso
    rw [eO] at z
    have:=zRy hb (low P (.tail _ hP)) cO z
    exact (List.nodup_cons.mp nd).1 (this ▸ hP)
   ·exact z
 ·rw [List.pairwise_map,eO]
  exact List.Pairwise.imp_of_mem (fun {A B} hA hB l=>((rel O (.head _)).c3pos hb (rel A (.tail _ hA)) (rel B (.tail _ hB))).mpr l) R.rg.left
theorem zH6 {b x y:Int} (hb:0 < b) {S S':List Sd} (h:Mv b x y S S') {v v':V} {H:Hp} (o:zMv S v H) (o':zMv S' v' H) (n18:S.length≤18) (sm:∀ t∈S,t.2.1.natAbs≤10 ^ 9∧t.2.2.1.natAbs≤10 ^ 9∧t.2.2.2.natAbs≤10 ^ 13) (sm':∀ t∈S',t.2.1.natAbs≤10 ^ 9∧t.2.2.1.natAbs≤10 ^ 9∧t.2.2.2.natAbs≤10 ^ 13) :
  (v = .non∧v' = .non)∨∃ p p' s t s' t',Two b H v v' p p' s t s' t':=by
 have pl:=h.place hb
 have hne:S'≠[]↔S≠[]:=by
  have z:=h.len
  constructor
  ·intro a e
   rw [e] at z
   exact a (List.length_eq_zero_iff.mp z)
  ·intro a e
   rw [e] at z
   exact a (List.length_eq_zero_iff.mp z.symm)
 have hcl:(S'≠[]∧∀ k,¬ WK S' S'.length k)↔(S≠[]∧∀ k,¬ WK S S.length k):=by
  rw [hne]
  constructor
  ·rintro ⟨a,c⟩
   exact ⟨a,fun k z=>c k ((h.wk k).mpr z)⟩
  ·rintro ⟨a,c⟩
   exact ⟨a,fun k z=>c k ((h.wk k).mp z)⟩
 rcases o with ⟨no,p,ev,e⟩ | ⟨z,nc,ev⟩ | ⟨z,cl,p,s,t,O,rest,R,ev,e,f⟩
 ·rcases o' with ⟨no',p',ev',e'⟩ | ⟨⟨z,zw,wz⟩,_⟩ | ⟨⟨z,zw,wz⟩,_⟩
  ·exact .inr ⟨p,p',0,1,0,1,ev,ev',e,e',by decide,by decide,by decide,by decide,by grind,by decide +kernel⟩
  ·obtain ⟨z1,z2,z3⟩:=pl.mp ⟨z,zw,wz⟩
   exact absurd z3 (no z1 z2)
  ·obtain ⟨z1,z2,z3⟩:=pl.mp ⟨z,zw,wz⟩
   exact absurd z3 (no z1 z2)
 ·rcases o' with ⟨no',p',ev',e'⟩ | ⟨_,_,ev'⟩ | ⟨_,cl',_⟩
  ·obtain ⟨z1,z2,z3⟩:=pl.mpr z
   exact absurd z3 (no' z1 z2)
  ·exact .inl ⟨ev,ev'⟩
  ·exact absurd (hcl.mp cl') nc
 ·rcases o' with ⟨no',p',ev',e'⟩ | ⟨_,nc',_⟩ | ⟨_,_,p',s',t',O',rest',R',ev',e',f'⟩
  ·obtain ⟨z1,z2,z3⟩:=pl.mpr z
   exact absurd z3 (no' z1 z2)
  ·exact absurd (hcl.mpr cl) nc'
  ·obtain ⟨fO,fr⟩:=R.fine sm
   obtain ⟨fO',fr'⟩:=R'.fine sm'
   have few:=R.few
   have few':=R'.few
   have hl:=h.len
   have Bp:0 < arB O (rAt O rest) (rest.length - 1):=zNc fO.pos fun i _=>(fr i).pos
   have Bp':0 < arB O' (rAt O' rest') (rest'.length - 1):=zNc fO'.pos fun i _=>(fr' i).pos
   obtain ⟨eO,er⟩:=rga_mv hb h R R'
   have ll:rest'.length = rest.length:=by rw [er,List.length_map]
   have low:∀ A∈O :: rest,0 < A.2.2:=fun A hA=>(zCa ((R.rg.mem A).mp hA)).1
   have ar:∀ i,i < rest.length→Rel b x y (rAt O rest i) (rAt O' rest' i):=fun i hi=>by
    have e1:rAt O' rest' i = fi b x y (rAt O rest i):=by
     rw [zJo (show i < rest'.length by omega),zJo hi]
     simp only [er,List.getElem_map]
    rw [e1,zJo hi]
    exact (zFs (low _ (.tail _ (List.getElem_mem hi)))).1
   have rO:Rel b x y O O':=by rw [eO]; exact (zFs (low O (.head _))).1
   have eq:=zTd (b:=b) (O:=O) (O':=O') (r:=rAt O rest) (r':=rAt O' rest') (rest.length - 1) fun i hi=>rO.c3 (ar i (by omega)) (ar (i + 1) (by omega))
   rw [ll] at f' Bp'
   have hj:rest.length - 1≤16:=by omega
   refine .inr ⟨p,p',s,t,s',t',ev,ev',e,e',f.pos,f'.pos,f.low,f'.low,f.wide f' Bp Bp' eq,?_,?_,?_,?_⟩
   ·exact Nat.le_trans (f.xle (Int.ne_of_gt Bp)) (zP1 fO hj fun i _=>fr i)
   ·exact Nat.le_trans (Nat.le_trans (f.yle (Int.ne_of_gt Bp)) (zQa fO hj fun i _=>fr i)) (by decide +kernel)
   ·exact Nat.le_trans (f'.xle (Int.ne_of_gt Bp')) (zP1 fO' hj fun i _=>fr' i)
   ·exact Nat.le_trans (Nat.le_trans (f'.yle (Int.ne_of_gt Bp')) (zQa fO' hj fun i _=>fr' i)) (by decide +kernel)
structure Trio (H:Hp) (l lo lw:Addr) (S So Sw:List Sd):Prop where
 e:H l = some (.lst (zAn S))
 eo:H lo = some (.lst (zAn So))
 ew:H lw = some (.lst (zAn Sw))
 ok:SdOk H S
 oko:SdOk H So
 okw:SdOk H Sw
theorem Trio.same {H H':Hp} {l lo lw:Addr} {S So Sw:List Sd} (h:Trio H l lo lw S So Sw) (s:Same H H'):Trio H' l lo lw S So Sw:=⟨s _ _ h.e,s _ _ h.eo,s _ _ h.ew,h.ok.same s,h.oko.same s,h.okw.same s⟩
theorem Trio.sameT {K:PySem.W.Frag} {H H':Hp} {l lo lw:Addr} {S So Sw:List Sd} (h:Trio H l lo lw S So Sw) (t:RTab K H) (s:zCw K H H'):Trio H' l lo lw S So Sw:=⟨s.lst t h.e,s.lst t h.eo,s.lst t h.ew,h.ok.sameT t s,h.oko.sameT t s,h.okw.sameT t s⟩
theorem cutV1 {ok:Hp→Prop} {G:Prop} {R:Hp→Prop} (h1:(∀ H,ok H→R H)→G) (h2:∀ H,ok H→R H):G:=h1 h2
def tI (t:SpT):List Int:=[t.2.1,t.2.2.1,t.2.2.2]
theorem zNs {H:Hp} {ps:List SpT} (h:∀ t∈ps,SpOk H t∧0 < t.2.2.2∧Nat.gcd (Nat.gcd t.2.1.natAbs t.2.2.1.natAbs) t.2.2.2.natAbs = 1):∀ u∈ps.map (fun t=>(t.1,tI t)),H u.1 = some (.tup (u.2.map V.int)):=fun u hu=>by
 obtain ⟨t,ht,rfl⟩:=List.mem_map.mp hu
 exact (h t ht).1.1
theorem zN4 {b x y:Int} {ps qs:List SpT} (h:qs.map (·.2) = (ps.map (·.2)).map (fi b x y)) (pos:∀ t∈ps,0 < t.2.2.2):qs.map tI = ps.map fun t=>lowL (upL (b * t.2.1 + x * t.2.2.2) (b * t.2.2.1 + y * t.2.2.2) t.2.2.2):=by
 have e:qs.map tI = (qs.map (·.2)).map fun P:P3=>[P.1,P.2.1,P.2.2]:=by rw [List.map_map]; rfl
 rw [e,h,List.map_map,List.map_map]
 refine List.map_congr_left fun t ht=>?_
 exact (zFs (b:=b) (x:=x) (y:=y) (pos t ht)).2.2.symm
structure Tws (H0:Hp) (D:Addr) (us:List (Addr × List Int)) (H:Hp):Prop where
 same:Same H0 H
 new:H0 D = none
 at':H D = some (.lst ((us.map (·.1)).map V.ref))
 rows:∀ t∈us,H t.1 = some (.tup (t.2.map V.int))
theorem Tws.app {H0 H H2:Hp} {D p:Addr} {us:List (Addr × List Int)} {k:List Int} (h:Tws H0 D us H) (s2:Same H H2) (ep:H2 p = some (.tup (k.map V.int))):Tws H0 D (us ++ [(p,k)]) (upd H2 D (.lst ((us.map (·.1)).map V.ref ++ [.ref p]))):=by
 refine ⟨(h.same.trans s2).putNew h.new,h.new,by rw [zAb]; simp,fun u hu=>?_⟩
 have eD:=s2 _ _ h.at'
 rcases List.mem_append.mp hu with hu | hu
 ·have e:=s2 _ _ (h.rows u hu)
  rw [zAo (zDt e eD (by intro z; cases z))]
  exact e
 ·rw [List.mem_singleton] at hu
  subst hu
  show upd H2 D _ p = _
  rw [zAo (zDt ep eD (by intro z; cases z))]
  exact ep
theorem zPo (ps:List SpT):zAt ps = ((ps.map fun t=>(t.1,tI t)).map (·.1)).map V.ref:=by
 unfold zAt
 rw [List.map_map,List.map_map]
 rfl
theorem zTc (ps:List SpT):(ps.map fun t=>(t.1,tI t)).map (·.2) = ps.map tI:=by rw [List.map_map]; rfl
theorem zN5 {K:PySem.W.Frag} {H:Hp} {a b:Addr} {fs gs:List (Addr × List Int)} (n:Nat) (ne:a≠b) (ha:H a = some (.lst ((fs.map (·.1)).map V.ref))) (hb:H b = some (.lst ((gs.map (·.1)).map V.ref))) (of':∀ t∈fs,H t.1 = some (.lst (t.2.map V.int))) (og:∀ t∈gs,H t.1 = some (.lst (t.2.map V.int))) (e:fs.map (·.2) = gs.map (·.2)):Deep K H (n + 2) (.ref a) (.ref b) true:=by
 have ll:fs.length = gs.length:=by have z:=congrArg List.length e; rwa [List.length_map,List.length_map] at z
 refine deepL ne (SqL.of ha) (SqL.of hb) (by simp only [List.length_map]; exact ll) fun j h1 h2=>?_
 have j1:j < fs.length:=by simpa using h1
 have j2:j < gs.length:=by simpa using h2
 have e1:((fs.map (·.1)).map V.ref)[j] = .ref fs[j].1:=by simp
 have e2:((gs.map (·.1)).map V.ref)[j] = .ref gs[j].1:=by simp
 rw [e1,e2]
 have es:fs[j].2 = gs[j].2:=by
  have z:=congrArg (fun l:List (List Int)=>l[j]?) e
  simp only [List.getElem?_map,List.getElem?_eq_getElem j1,List.getElem?_eq_getElem j2,Option.map_some] at z
  exact Option.some.inj z
 by_cases c:fs[j].1 = gs[j].1
 ·rw [c]
  exact .same _ _
 ·have z:=zPl (K:=K) n c (SqL.of (of' _ (List.getElem_mem j1))) (SqL.of (og _ (List.getElem_mem j2)))
  rw [decide_eq_true es] at z
  exact z
theorem zIk {H0 H:Hp} {D:Addr} {cs:List Grp} {S:List Sd} (P:CpS H0 D cs H) (em:cs.map (·.2) = S.map fun t=>[t]):cs.length = S.length∧(∀ g∈cs,g.2.length≤1)∧∀ t∈zA9 cs,t.2.1≠0∨t.2.2.1≠0:=by
 refine ⟨by have z:=congrArg List.length em; rwa [List.length_map,List.length_map] at z,fun g hg=>?_,fun t ht=>?_⟩
 ·have z:g.2∈S.map fun t=>[t]:=by rw [← em]; exact List.mem_map_of_mem hg
  obtain ⟨t,_,e⟩:=List.mem_map.mp z
  rw [← e]
  exact Nat.le_refl _
 ·obtain ⟨g,hg,htg⟩:=List.mem_flatMap.mp ht
  exact ((P.all g hg).2 t htg).2.1
def sp_law (K:PySem.W.Frag):Sp:=fun vs H Q _=>∃ (a:Addr) (ns:List Int),vs = [.ref a]∧SqL K H a (ns.map V.int)∧ns.length≤63∧H (rTab K) = some (.tbl #[])∧∀ H',Q (.bl true) H'
theorem ok_law (F:Fun K "law" "law" zNf f fd) (Z:Zs mg) (h_p_choices:Has P w K mg base "choices" 8 ["groups"] (zG7 K)) (h_p_area:Has P w K mg base "area" 18 ["sides"] (zLe K)) (h_L_is_part:Has P w K mg base "_law_is_part" 3 ["_law_found", "_law_top", "_law_bottom"] (zHe K)) (h_p_ways:Has P w K mg base "ways" 4 ["sides"] (zIe K)) (h_p_corners:Has P w K mg base "corners" 16 ["sides"] (zE6 K)) (h_L_spot_of:Has P w K mg base "_law_spot_of" 2 ["_law_x", "_law_y", "_law_w"] (zG8 K)) (h_p_pushed:Has P w K mg base "pushed" 1 ["side", "x", "y"] (zIw K)) (h_L_tight:Has P w K mg base "_law_tight" 1 ["_law_some", "_law_sides_here"] (zJ0 K)) (h_L_sides:Has P w K mg base "_law_sides" 3 ["_law_some", "_law_many_here"] (zJk K)) (h_L_many:Has P w K mg base "_law_many" 1 ["_law_one", "_law_two", "_law_few", "_law_most"] (zLb K)) (h_L_draws:Has P w K mg base "_law_draws" 2 ["_law_script", "_law_many_here"] (zJp K)):FnOk P w K mg base CX0 19 f fd ["_law_script"] (sp_law K):=by
 refine F.ok zE4 (fun vs H Q E h=>?_) (fun cdv A outer s H vs Q E hr h=>?_)
 ·obtain ⟨a,ns,rfl,_⟩:=h
  rfl
 obtain ⟨ad,ns,rfl,hS,hl,hT,q⟩:=h
 have hu:=hr.units0
 have hu64:=hr.units
 have tab0:RTab K H:=⟨#[],hT,trivial,.inl rfl⟩
 refine ⟨_,(zAg (zAu (i:=1) zE4.nd rfl (Or.inl rfl) (zAh h_L_draws (hr.mono (by decide)) rfl (zAa (pv 0) (zAa zAc zAe))))
   (zAg (zAu (i:=2) zE4.nd rfl (Or.inl rfl) (zAh h_L_tight (hr.mono (by decide)) rfl (zAa (zCd zC8 (pv 1) (zDa zAc) zC5) (zAa (zAh h_L_sides (hr.mono (by decide)) rfl (zAa (zCd zC8 (pv 1) (zDa zAc) zC5) (zAa (zAh h_L_many (hr.mono (by decide)) rfl (zAa (zAq zAk (pv 1) zAc (fun _ _=>rfl)) (zAa (zAq zAk (pv 1) zAc (fun _ _=>rfl)) (zAa zAc (zAa zAc zAe))))) zAe))) zAe))))
   (zAg (zOa (zB0 (zAa (zAm zBp (zAm zA7 (zAq zAk (pv 1) zAc (fun _ _=>rfl)) zAc) zAc) (zAa (zAm zBp (zAm zA7 (zAq zAk (pv 1) zAc (fun _ _=>rfl)) zAc) zAc) zAe))) (zE5 rfl (zA0 (zAp (i:=3) zE4.nd rfl (Or.inr rfl)) (zA0 (zAp (i:=4) zE4.nd rfl (Or.inr rfl)) zC9))))
   (zAg (zAu (i:=5) zE4.nd rfl (Or.inr rfl) (zAm zBr zAc (zAm zA7 (zAq zAk (pv 1) zAc (fun _ _=>rfl)) zAc)))
   (zAg (zDx (T:=["_law_side_here"]) (caps:=[("_law_x", 3),("_law_y", 4)]) (i:=6) zE4.nd rfl rfl ⟨rfl,by decide +kernel,by decide +kernel,rfl,⟨⟨rfl,rfl,Or.inl rfl⟩,⟨rfl,rfl,Or.inl rfl⟩,True.intro⟩⟩ rfl (zBk (pv 2)) (fun _=>(zAp (i:=0) (show (["_law_side_here", "_law_x", "_law_y"]:List Str).Nodup by decide +kernel) rfl (Or.inl rfl))) (fun _=>zBg) (fun _=>(zAh h_p_pushed (hr.mono (by decide)) rfl (zAa (pv 0) (zAa (pv 1) (zAa (pv 2) zAe))))))
   (zAg (zDx (T:=["_law_a", "_law_b", "_law_c"]) (caps:=[("_law_by", 5)]) (i:=7) zE4.nd rfl rfl ⟨rfl,by decide +kernel,by decide +kernel,rfl,⟨⟨rfl,rfl,Or.inl rfl⟩,True.intro⟩⟩ rfl (zBk (pv 2)) (fun _=>(zE5 rfl (zA0 (zAp (i:=0) (show (["_law_a", "_law_b", "_law_c", "_law_by"]:List Str).Nodup by decide +kernel) rfl (Or.inl rfl)) (zA0 (zAp (i:=1) (show (["_law_a", "_law_b", "_law_c", "_law_by"]:List Str).Nodup by decide +kernel) rfl (Or.inl rfl)) (zA0 (zAp (i:=2) (show (["_law_a", "_law_b", "_law_c", "_law_by"]:List Str).Nodup by decide +kernel) rfl (Or.inl rfl)) zC9))))) (fun _=>zBg) (fun _=>(zB0 (zAa (pv 0) (zAa (pv 1) (zAa (zAm zA6 (pv 3) (pv 2)) zAe))))))
   (zAg (zAu (i:=8) zE4.nd rfl (Or.inl rfl) (zAh h_p_corners (hr.mono (by decide)) rfl (zAa (zBt zB7 rfl Z.list zEl (zAa (pv 2) zAe)) zAe)))
   (zAg (zBs (zAv (zN0 hu64) (zAh h_p_corners (hr.mono (by decide)) rfl (zAa (pv 6) zAe)) (zCl (T:=["_law_p", "_law_q", "_law_w"]) (caps:=[("_law_x", 3),("_law_y", 4)]) ⟨rfl,by decide +kernel,by decide +kernel,rfl,⟨⟨rfl,rfl,Or.inl rfl⟩,⟨rfl,rfl,Or.inl rfl⟩,True.intro⟩⟩ rfl (zBk (pv 8)) (fun _=>(zE5 rfl (zA0 (zAp (i:=0) (show (["_law_p", "_law_q", "_law_w", "_law_x", "_law_y"]:List Str).Nodup by decide +kernel) rfl (Or.inl rfl)) (zA0 (zAp (i:=1) (show (["_law_p", "_law_q", "_law_w", "_law_x", "_law_y"]:List Str).Nodup by decide +kernel) rfl (Or.inl rfl)) (zA0 (zAp (i:=2) (show (["_law_p", "_law_q", "_law_w", "_law_x", "_law_y"]:List Str).Nodup by decide +kernel) rfl (Or.inl rfl)) zC9))))) (fun _=>zBg) (fun _=>(zAh h_L_spot_of (hr.mono (by decide)) rfl (zAa (zAm zBr (pv 0) (zAm zA6 (pv 3) (pv 2))) (zAa (zAm zBr (pv 1) (zAm zA6 (pv 4) (pv 2))) (zAa (pv 2) zAe)))))) (zAw _)) (zAi (zAr zG2)) zA2)
   (zAg (zBs (zAv (zN0 hu64) (zAh h_p_corners (hr.mono (by decide)) rfl (zAa (pv 7) zAe)) (zCl (T:=["_law_p", "_law_q", "_law_w"]) (caps:=[("_law_by", 5)]) ⟨rfl,by decide +kernel,by decide +kernel,rfl,⟨⟨rfl,rfl,Or.inl rfl⟩,True.intro⟩⟩ rfl (zBk (pv 8)) (fun _=>(zE5 rfl (zA0 (zAp (i:=0) (show (["_law_p", "_law_q", "_law_w", "_law_by"]:List Str).Nodup by decide +kernel) rfl (Or.inl rfl)) (zA0 (zAp (i:=1) (show (["_law_p", "_law_q", "_law_w", "_law_by"]:List Str).Nodup by decide +kernel) rfl (Or.inl rfl)) (zA0 (zAp (i:=2) (show (["_law_p", "_law_q", "_law_w", "_law_by"]:List Str).Nodup by decide +kernel) rfl (Or.inl rfl)) zC9))))) (fun _=>zBg) (fun _=>(zAh h_L_spot_of (hr.mono (by decide)) rfl (zAa (zAm zA6 (pv 0) (pv 3)) (zAa (zAm zA6 (pv 1) (pv 3)) (zAa (pv 2) zAe)))))) (zAw _)) (zAi (zAr zG2)) zA2)
   (zAg (zBs (PW.pt (zR5 (zAv (zN0 hu64) (zAh h_p_ways (hr.mono (by decide)) rfl (zAa (pv 6) zAe)) (zAh h_p_ways (hr.mono (by decide)) rfl (zAa (zBt zB7 rfl Z.list zEl (zAa (pv 2) zAe)) zAe)) (zAw _)) (zQb (zAv (zN0 hu64) (zAh h_p_ways (hr.mono (by decide)) rfl (zAa (pv 7) zAe)) (zAh h_p_ways (hr.mono (by decide)) rfl (zAa (zBt zB7 rfl Z.list zEl (zAa (pv 2) zAe)) zAe)) (zAw _))))) (zAi (zAr zG2)) zA2)
   (zAg (zAu (i:=9) zE4.nd rfl (Or.inl rfl) (zAh h_p_area (hr.mono (by decide)) rfl (zAa (zBt zB7 rfl Z.list zEl (zAa (pv 2) zAe)) zAe)))
   (zAg (zBs (zAv (zRe zS6 (op_neT hu)) (zAh h_p_area (hr.mono (by decide)) rfl (zAa (pv 6) zAe)) (pv 9) (zAw _)) (zAi (zAr zG2)) zA2)
   (zAg (zBs (zAv zOi (pv 9) zDj (zAw _)) (zAi (zBs (zAv zM3 (zAh h_p_area (hr.mono (by decide)) rfl (zAa (pv 7) zAe)) zDj (zAw _)) (zAi (zAr zG2)) zA2)) (zAi (zBs (zHg (zEt (zAh h_L_is_part (hr.mono (by decide)) rfl (zAa (zAh h_p_area (hr.mono (by decide)) rfl (zAa (pv 7) zAe)) (zAa (zAm zBj (zAm zBj (zAq zAk (pv 9) zAc (fun _ _=>rfl)) (pv 5)) (pv 5)) (zAa (zAq zAk (pv 9) zAc (fun _ _=>rfl)) zAe)))))) (zAi (zAr zG2)) zA2)))
   (zAg (zAu (i:=8) zE4.nd rfl (Or.inl rfl) (zAh h_p_choices (hr.mono (by decide)) rfl (zAa (zCl (T:=["_law_side_here"]) (caps:=[]) ⟨rfl,by decide +kernel,by decide +kernel,rfl,True.intro⟩ rfl (zBk (pv 2)) (fun _=>(zAp (i:=0) (show (["_law_side_here"]:List Str).Nodup by decide +kernel) rfl (Or.inl rfl))) (fun _=>zBg) (fun _=>(zEp (zAa (pv 0) zAe)))) zAe)))
   (zAi (zAr (zLo (zEa (zTf hu64) (zAh h_p_choices (hr.mono (by decide)) rfl (zAa (zCl (T:=["_law_side_here"]) (caps:=[]) ⟨rfl,by decide +kernel,by decide +kernel,rfl,True.intro⟩ rfl (zBk (pv 6)) (fun _=>(zAp (i:=0) (show (["_law_side_here"]:List Str).Nodup by decide +kernel) rfl (Or.inl rfl))) (fun _=>zBg) (fun _=>(zEp (zAa (pv 0) zAe)))) zAe)) (pv 8) (zAw _)) (zNu (zEa (zTf hu64) (zAh h_p_choices (hr.mono (by decide)) rfl (zAa (zCl (T:=["_law_side_here"]) (caps:=[]) ⟨rfl,by decide +kernel,by decide +kernel,rfl,True.intro⟩ rfl (zBk (pv 7)) (fun _=>(zAp (i:=0) (show (["_law_side_here"]:List Str).Nodup by decide +kernel) rfl (Or.inl rfl))) (fun _=>zBg) (fun _=>(zEp (zAa (pv 0) zAe)))) zAe)) (pv 8) (zAw _)))))))))))))))))))),?_⟩
 refine ⟨_,rfl,ad,ns,96,rfl,hS,hl,by decide,by decide,fun r rows H1 s1 hr0 er1 l1 l2 bd=>?_⟩
 have tab1:=tab0.same s1
 obtain ⟨v0,a0,_⟩:=zC4 bd (k:=0) (by decide) (by omega)
 obtain ⟨v1,a1,_⟩:=zC4 bd (k:=1) (by decide) (by omega)
 obtain ⟨v90,a90,_⟩:=zC4 bd (k:=90) (by decide) (by omega)
 obtain ⟨v91,a91,_⟩:=zC4 bd (k:=91) (by decide) (by omega)
 obtain ⟨v92,a92,_⟩:=zC4 bd (k:=92) (by decide) (by omega)
 have cutD:∀ k:Nat,k≤90→cutV (rows.map V.int) (some (k:Int)) none = (rows.drop k).map V.int:=fun k hk=>by
  rw [zIx,HT.sIx_nat rows.length 0 k,show min k rows.length = k by omega,show HT.sIx rows.length rows.length none = rows.length from rfl,List.take_of_length_le (by rw [List.length_drop]; omega)]
 have sqr:SqL K H1 r (rows.map V.int):=SqL.of er1
 refine ⟨_,rfl,_,rfl,r,_,rfl,sqr,fun c hc=>?_⟩
 rw [show cutV (rows.map V.int) (some 3) none = (rows.drop 3).map V.int from cutD 3 (by decide)]
 have sc:=zAd hc (.lst ((rows.drop 3).map V.int))
 have ec:upd H1 c (.lst ((rows.drop 3).map V.int)) c = some (.lst ((rows.drop 3).map V.int)):=zAb
 generalize upd H1 c (.lst ((rows.drop 3).map V.int)) = H2 at sc ec ⊢
 refine ⟨_,rfl,_,rfl,r,_,rfl,sc.seq sqr,fun d hd0=>?_⟩
 rw [show cutV (rows.map V.int) (some 2) none = (rows.drop 2).map V.int from cutD 2 (by decide)]
 have sd:=zAd hd0 (.lst ((rows.drop 2).map V.int))
 have ed:upd H2 d (.lst ((rows.drop 2).map V.int)) d = some (.lst ((rows.drop 2).map V.int)):=zAb
 generalize upd H2 d (.lst ((rows.drop 2).map V.int)) = H3 at sd ed ⊢
 have s13:=sc.trans sd
 have sq3:Sq K H3 r (rows.map V.int):=.inl (s13.seq sqr)
 refine ⟨_,rfl,r,_,_,_,rfl,rfl,sq3,a0,_,rfl,r,_,_,_,rfl,rfl,sq3,a1,v0,v1,6,10,rfl,by decide,by decide,fun mh mh0 mh1=>?_⟩
 refine ⟨d,rows.drop 2,mh,rfl,SqL.of ed,by omega,by omega,by rw [List.length_drop]; omega,by rw [List.length_drop]; omega,fun x hx=>bd x (List.mem_of_mem_drop hx),fun l0 S0 H4 s4 hl0 el0 hn0 ok0 bnd0=>?_⟩
 refine ⟨c,l0,rows.drop 3,S0,rfl,SqL.of (s4 _ _ (sd _ _ ec)),by rw [List.length_drop]; omega,fun x hx=>bd x (List.mem_of_mem_drop hx),el0,ok0,by omega,bnd0,fun l S H5 s5 el hlen okS sm=>?_⟩
 have n10:S.length≤10:=by omega
 have s15:=s13.trans (s4.trans s5)
 have sq5:Sq K H5 r (rows.map V.int):=.inl (s15.seq sqr)
 have tab5:=tab1.same s15
 clear s4 s5 sd sc s13 ec ed el0 ok0 bnd0 hc hd0 hl0 hn0 hlen sq3 s15
 refine ⟨_,rfl,r,_,_,_,rfl,rfl,sq5,a90,_,_,rfl,rfl,(by show (0:Int) < 26001; decide),_,_,rfl,rfl,_,rfl,r,_,_,_,rfl,rfl,sq5,a91,_,_,rfl,rfl,(by show (0:Int) < 26001; decide),_,_,rfl,rfl,(by show 2≤sizeLine; decide),fun t ht=>?_⟩
 have bX:(v90 % 26001 - 13000).natAbs≤13000:=by omega
 have bY:(v91 % 26001 - 13000).natAbs≤13000:=by omega
 have st:=zAd ht (.tup [.int (v90 % 26001 - 13000),.int (v91 % 26001 - 13000)])
 have et:upd H5 t (.tup [.int (v90 % 26001 - 13000),.int (v91 % 26001 - 13000)]) t = some (.tup [.int (v90 % 26001 - 13000),.int (v91 % 26001 - 13000)]):=zAb
 generalize upd H5 t (.tup [.int (v90 % 26001 - 13000),.int (v91 % 26001 - 13000)]) = H6 at st et ⊢
 generalize v90 % 26001 - 13000 = X at bX et ⊢
 generalize v91 % 26001 - 13000 = Y at bY et ⊢
 refine ⟨t,_,rfl,SqT.of et,rfl,.int X,_,rfl,.int Y,_,rfl,rfl,?_⟩
 have el6:=st _ _ el
 have ok6:=okS.same st
 have tab6:=tab5.same st
 refine ⟨_,rfl,r,_,_,_,rfl,rfl,sq5.same st,a92,_,_,rfl,rfl,(by show (0:Int) < 39; decide),_,_,rfl,rfl,?_⟩
 have bW:2≤2 + v92 % 39∧2 + v92 % 39≤40:=by omega
 generalize 2 + v92 % 39 = W at bW ⊢
 have hW:0 < W:=by omega
 clear st et ht sq5 tab5 el okS
 refine ⟨_,rfl,l,rfl,.inl ⟨⟨_,SqL.of el6⟩,fun cc lo hlo=>zBn (K:=K) (a:=l) (xs:=zAn S) (fun i σ ys G=>∃ sa:List Sd,ys = zAn sa∧SdSt H6 lo sa G∧sa.map (·.2) = (S.take i).map (fun t=>mT 1 X Y t.2)∧∃ u0:Option V,σ = [u0,some (.int X),some (.int Y)])
  ⟨[],rfl,⟨zAd hlo _,hlo,zAb,(fun t ht=>nomatch ht)⟩,rfl,none,rfl⟩ (fun i σ ys G _ ⟨sa,e1,Pq,_⟩=>⟨SqL.of (Pq.same _ _ el6),by rw [e1]; exact Pq.at'⟩) ?_ ?_⟩⟩
 ·rintro i v σ ys Gc hi ⟨sa,rfl,Pc,em,u0,rfl⟩
  obtain ⟨t,gt,rfl,hil⟩:=zBf hi
  have mt:=List.mem_of_getElem? gt
  obtain ⟨et,nt,b1,b2,b3⟩:=ok6 t mt
  obtain ⟨c1,c2,c3'⟩:=sm t mt
  have la:sa.length = i:=by have z:=congrArg List.length em; rw [List.length_map,List.length_map,List.length_take] at z; omega
  have z1:=zAf t.2.1 X c1 bX
  have z2:=zAf t.2.2.1 Y c2 bY
  refine ⟨_,rfl,_,rfl,_,rfl,t.1,t.2.1,t.2.2.1,t.2.2.2,X,Y,rfl,.inr (SqT.of (Pc.same _ _ et)),Nat.le_trans b1 (by decide),Nat.le_trans b2 (by decide),fun p G2 s2 hp ep=>?_⟩
  refine ⟨s2 _ _ Pc.at',zA3 (by rw [zAj]; omega),sa ++ [(p,t.2.1,t.2.2.1,t.2.2.2 + t.2.1 * X + t.2.2.1 * Y)],by simp [zAn],Pc.app s2 hp ep nt b1 b2 (by omega),?_,_,rfl⟩
  rw [List.map_append,em,zA8 gt,List.map_append]
  congr 1
  show [(t.2.1,t.2.2.1,t.2.2.2 + t.2.1 * X + t.2.2.1 * Y)] = [(t.2.1,t.2.2.1,1 * t.2.2.2 + t.2.1 * X + t.2.2.1 * Y)]
  rw [Int.one_mul]
 rintro σ ys H7 ⟨So,rfl,Po,mvo,u0,rfl⟩
 rw [zAj,List.take_length] at mvo
 have mvo:Mv 1 X Y S So:=mvo
 have el7:=Po.same _ _ el6
 have ok7:=ok6.same Po.same
 have tab7:=tab6.same Po.same
 refine ⟨_,rfl,l,rfl,.inl ⟨⟨_,SqL.of el7⟩,fun cc lw hlw=>zBn (K:=K) (a:=l) (xs:=zAn S) (fun i σ ys G=>∃ sa:List Sd,ys = zAn sa∧SdSt H7 lw sa G∧sa.map (·.2) = (S.take i).map (fun t=>mT W 0 0 t.2)∧∃ u0 u1 u2:Option V,σ = [u0,u1,u2,some (.int W)])
  ⟨[],rfl,⟨zAd hlw _,hlw,zAb,(fun t ht=>nomatch ht)⟩,rfl,none,none,none,rfl⟩ (fun i σ ys G _ ⟨sa,e1,Pq,_⟩=>⟨SqL.of (Pq.same _ _ el7),by rw [e1]; exact Pq.at'⟩) ?_ ?_⟩⟩
 ·rintro i v σ ys Gc hi ⟨sa,rfl,Pc,em,u0,u1,u2,rfl⟩
  obtain ⟨t,gt,rfl,hil⟩:=zBf hi
  have mt:=List.mem_of_getElem? gt
  obtain ⟨et,nt,b1,b2,b3⟩:=ok7 t mt
  obtain ⟨c1,c2,c3'⟩:=sm t mt
  have la:sa.length = i:=by have z:=congrArg List.length em; rw [List.length_map,List.length_map,List.length_take] at z; omega
  have z1:=zAf W t.2.2.2 (m:=40) (by omega) c3'
  refine ⟨t.1,_,rfl,SqT.of (Pc.same _ _ et),rfl,.int t.2.1,_,rfl,.int t.2.2.1,_,rfl,.int t.2.2.2,_,rfl,rfl,?_⟩
  refine ⟨_,rfl,_,rfl,_,rfl,_,rfl,_,_,rfl,rfl,cm_l (by omega),(by show 3≤sizeLine; decide),fun p hp=>?_⟩
  have sp:=zAd hp (.tup [.int t.2.1,.int t.2.2.1,.int (W * t.2.2.2)])
  refine ⟨sp _ _ Pc.at',zA3 (by rw [zAj]; omega),sa ++ [(p,t.2.1,t.2.2.1,W * t.2.2.2)],by simp [zAn],Pc.app sp hp zAb nt b1 b2 (by omega),?_,_,_,_,rfl⟩
  rw [List.map_append,em,zA8 gt,List.map_append]
  congr 1
  show [(t.2.1,t.2.2.1,W * t.2.2.2)] = [(t.2.1,t.2.2.1,W * t.2.2.2 + t.2.1 * 0 + t.2.2.1 * 0)]
  rw [Int.mul_zero,Int.mul_zero,Int.add_zero,Int.add_zero]
 rintro σ ys H8 ⟨Sw,rfl,Pw,mvw,u0',u1',u2',rfl⟩
 rw [zAj,List.take_length] at mvw
 have mvw:Mv W 0 0 S Sw:=mvw
 have tr:Trio H8 l lo lw S So Sw:=⟨Pw.same _ _ el7,Pw.same _ _ Po.at',Pw.at',ok7.same Pw.same,Po.all.same Pw.same,Pw.all⟩
 have tab8:=tab7.same Pw.same
 have lno:=mvo.len
 have lnw:=mvw.len
 clear Po Pw el7 ok7 tab7 el6 ok6 tab6 hlo hlw tab1 tab0 sqr
 have smS:∀ t∈S,t.2.1.natAbs≤10 ^ 9∧t.2.2.1.natAbs≤10 ^ 9∧t.2.2.2.natAbs≤10 ^ 13:=fun t ht=>(tr.ok t ht).2.2
 have smO:∀ t∈So,t.2.1.natAbs≤10 ^ 9∧t.2.2.1.natAbs≤10 ^ 9∧t.2.2.2.natAbs≤10 ^ 13:=fun t ht=>(tr.oko t ht).2.2
 have smW:∀ t∈Sw,t.2.1.natAbs≤10 ^ 9∧t.2.2.1.natAbs≤10 ^ 9∧t.2.2.2.natAbs≤10 ^ 13:=fun t ht=>(tr.okw t ht).2.2
 refine ⟨_,rfl,l,_,rfl,.inl (SqL.of tr.e),fun c1 hc1=>?_⟩
 have sc1:=zAd hc1 (.lst (zAn S))
 refine ⟨c1,S,rfl,SqL.of zAb,tr.ok.same sc1,by omega,fun D ps H9 s9 hD ca=>?_⟩
 have tr9:=tr.same (sc1.trans s9)
 have tab9:=tab8.same (sc1.trans s9)
 clear sc1 s9 hc1 tr tab8 hD
 have mb:(ps.map (·.2)).Pairwise leP:=by rw [List.pairwise_map]; exact ca.rises
 refine ⟨_,rfl,lo,So,rfl,SqL.of tr9.eo,tr9.oko,by omega,fun D2 qs H10 s10 hD2 cb=>?_⟩
 have eD10:=s10 _ _ ca.at'
 have okp10:∀ t∈ps,SpOk H10 t:=fun t ht=>(ca.ok t ht).1.same s10
 have fine:∀ t∈ps,Fine t.2:=fun t ht=>zKy smS ((ca.mem t.2).mp (List.mem_map_of_mem ht))
 have pos:∀ t∈ps,0 < t.2.2.2:=fun t ht=>(ca.ok t ht).2.1
 refine ⟨_,rfl,D,rfl,.inl ⟨⟨_,SqL.of eD10⟩,fun cc D3 hD3=>zBn (K:=K) (a:=D) (xs:=zAt ps) (fun i σ ys G=>∃ us:List (Addr × List Int),ys = (us.map (·.1)).map V.ref∧Tws H10 D3 us G∧us.map (·.2) = (ps.take i).map (fun t=>lowL (upL (t.2.1 + X * t.2.2.2) (t.2.2.1 + Y * t.2.2.2) t.2.2.2))∧∃ u0 u1 u2:Option V,σ = [u0,u1,u2,some (.int X),some (.int Y)])
  ⟨[],rfl,⟨zAd hD3 _,hD3,zAb,(fun t ht=>nomatch ht)⟩,rfl,none,none,none,rfl⟩ (fun i σ ys G _ ⟨us,e1,T,_⟩=>⟨SqL.of (T.same _ _ eD10),by rw [e1]; exact T.at'⟩) ?_ ?_⟩⟩
 ·rintro i v σ ys Gc hi ⟨us,rfl,T,em,u0,u1,u2,rfl⟩
  unfold zAt at hi
  rw [List.getElem?_map] at hi
  cases gx:ps[i]? with
  | none=>rw [gx] at hi; cases hi
  | some t =>
   rw [gx] at hi
   cases hi
   have mt:=List.mem_of_getElem? gx
   have il:i < ps.length:=(List.getElem?_eq_some_iff.mp gx).1
   have lu:us.length = i:=by have z:=congrArg List.length em; rw [List.length_map,List.length_map,List.length_take] at z; omega
   have few:=ca.few
   have ft:=(fine t mt).w
   have pt:=pos t mt
   refine ⟨t.1,_,rfl,SqT.of (T.same _ _ (okp10 t mt).1),rfl,.int t.2.1,_,rfl,.int t.2.2.1,_,rfl,.int t.2.2.2,_,rfl,rfl,?_⟩
   refine ⟨_,rfl,_,rfl,_,rfl,_,_,rfl,rfl,cm_l (by omega),_,_,rfl,rfl,_,rfl,_,rfl,_,rfl,_,_,rfl,rfl,cm_l (by omega),_,_,rfl,rfl,_,rfl,t.2.1 + X * t.2.2.2,t.2.2.1 + Y * t.2.2.2,t.2.2.2,rfl,by omega,Nat.le_trans ft (by decide +kernel),fun p G2 s2 hp ep=>?_⟩
   refine ⟨s2 _ _ T.at',zA3 (by simp only [List.length_map]; omega),us ++ [(p,lowL (upL (t.2.1 + X * t.2.2.2) (t.2.2.1 + Y * t.2.2.2) t.2.2.2))],by simp,T.app s2 ep,?_,_,_,_,rfl⟩
   rw [List.map_append,em,zA8 gx,List.map_append]
   rfl
 rintro σ ys H11 ⟨us,rfl,T11,em,u0',u1',u2',rfl⟩
 rw [show (zAt ps).length = ps.length by unfold zAt; rw [List.length_map],List.take_length] at em
 have cb11:∀ u∈qs.map (fun t=>(t.1,tI t)),H11 u.1 = some (.tup (u.2.map V.int)):=zNs fun t ht=>⟨(cb.ok t ht).1.same T11.same,(cb.ok t ht).2⟩
 have eqo:qs.map (·.2) = (ps.map (·.2)).map (fi 1 X Y):=mvo.list (by decide) ca.nodup cb.nodup ca.mem cb.mem mb (by rw [List.pairwise_map]; exact cb.rises)
 refine ⟨D2,D3,qs.map (fun t=>(t.1,tI t)),us,rfl,rfl,SqL.of (by rw [← zPo]; exact T11.same _ _ cb.at'),SqL.of T11.at',cb11,T11.rows,?_,_,rfl,?_⟩
 ·rw [zTc,em,zN4 eqo pos]
  refine List.map_congr_left fun t _=>?_
  rw [Int.one_mul,Int.one_mul]
 refine iteF ?_
 have s911:=s10.trans T11.same
 have tr11:=tr9.same s911
 have tab11:=tab9.same s911
 have ca11:∀ t∈ps,SpOk H11 t:=fun t ht=>(ca.ok t ht).1.same s911
 have eD11:=s911 _ _ ca.at'
 clear T11 s911 s10 cb cb11 eqo em okp10 eD10 tr9 tab9 hD3 hD2
 refine ⟨_,rfl,lw,Sw,rfl,SqL.of tr11.ew,tr11.okw,by omega,fun D4 qw H12 s12 hD4 cw=>?_⟩
 have eD12:=s12 _ _ eD11
 have okp12:∀ t∈ps,SpOk H12 t:=fun t ht=>(ca11 t ht).same s12
 refine ⟨_,rfl,D,rfl,.inl ⟨⟨_,SqL.of eD12⟩,fun cc D5 hD5=>zBn (K:=K) (a:=D) (xs:=zAt ps) (fun i σ ys G=>∃ us:List (Addr × List Int),ys = (us.map (·.1)).map V.ref∧Tws H12 D5 us G∧us.map (·.2) = (ps.take i).map (fun t=>lowL (upL (t.2.1 * W) (t.2.2.1 * W) t.2.2.2))∧∃ u0 u1 u2:Option V,σ = [u0,u1,u2,some (.int W)])
  ⟨[],rfl,⟨zAd hD5 _,hD5,zAb,(fun t ht=>nomatch ht)⟩,rfl,none,none,none,rfl⟩ (fun i σ ys G _ ⟨us,e1,T,_⟩=>⟨SqL.of (T.same _ _ eD12),by rw [e1]; exact T.at'⟩) ?_ ?_⟩⟩
 ·rintro i v σ ys Gc hi ⟨us,rfl,T,em,u0,u1,u2,rfl⟩
  unfold zAt at hi
  rw [List.getElem?_map] at hi
  cases gx:ps[i]? with
  | none=>rw [gx] at hi; cases hi
  | some t =>
   rw [gx] at hi
   cases hi
   have mt:=List.mem_of_getElem? gx
   have il:i < ps.length:=(List.getElem?_eq_some_iff.mp gx).1
   have lu:us.length = i:=by have z:=congrArg List.length em; rw [List.length_map,List.length_map,List.length_take] at z; omega
   have few:=ca.few
   have ft:=(fine t mt).w
   have pt:=pos t mt
   refine ⟨t.1,_,rfl,SqT.of (T.same _ _ (okp12 t mt).1),rfl,.int t.2.1,_,rfl,.int t.2.2.1,_,rfl,.int t.2.2.2,_,rfl,rfl,?_⟩
   refine ⟨_,rfl,_,rfl,_,_,rfl,rfl,cm_r (by omega),_,rfl,_,rfl,_,_,rfl,rfl,cm_r (by omega),_,rfl,t.2.1 * W,t.2.2.1 * W,t.2.2.2,rfl,by omega,Nat.le_trans ft (by decide +kernel),fun p G2 s2 hp ep=>?_⟩
   refine ⟨s2 _ _ T.at',zA3 (by simp only [List.length_map]; omega),us ++ [(p,lowL (upL (t.2.1 * W) (t.2.2.1 * W) t.2.2.2))],by simp,T.app s2 ep,?_,_,_,_,rfl⟩
   rw [List.map_append,em,zA8 gx,List.map_append]
   rfl
 rintro σ ys H13 ⟨us,rfl,T13,em,u0',u1',u2',rfl⟩
 rw [show (zAt ps).length = ps.length by unfold zAt; rw [List.length_map],List.take_length] at em
 have cw13:∀ u∈qw.map (fun t=>(t.1,tI t)),H13 u.1 = some (.tup (u.2.map V.int)):=zNs fun t ht=>⟨(cw.ok t ht).1.same T13.same,(cw.ok t ht).2⟩
 have eqw:qw.map (·.2) = (ps.map (·.2)).map (fi W 0 0):=mvw.list hW ca.nodup cw.nodup ca.mem cw.mem mb (by rw [List.pairwise_map]; exact cw.rises)
 refine ⟨D4,D5,qw.map (fun t=>(t.1,tI t)),us,rfl,rfl,SqL.of (by rw [← zPo]; exact T13.same _ _ cw.at'),SqL.of T13.at',cw13,T13.rows,?_,_,rfl,?_⟩
 ·rw [zTc,em,zN4 eqw pos]
  refine List.map_congr_left fun t _=>?_
  rw [Int.zero_mul,Int.add_zero,Int.add_zero,Int.mul_comm W,Int.mul_comm W]
 refine iteF ?_
 have s1113:=s12.trans T13.same
 have tr13:=tr11.same s1113
 have tab13:=tab11.same s1113
 clear T13 s1113 s12 cw cw13 eqw em okp12 eD12 tr11 tab11 hD5 hD4 ca11 eD11 ca mb fine pos
 refine ⟨_,rfl,lo,So,rfl,SqL.of tr13.eo,tr13.oko,by omega,fun w1 us1 G1 s1 hw1 wa1=>?_⟩
 have trG:=tr13.same s1
 refine ⟨_,rfl,l,_,rfl,.inl (SqL.of trG.e),fun c hc=>?_⟩
 have sc:=zAd hc (.lst (zAn S))
 refine ⟨c,S,rfl,SqL.of zAb,trG.ok.same sc,by omega,fun w2 us2 G2 s2 hw2 wa2=>?_⟩
 have sG:=sc.trans s2
 refine ⟨w1,w2,us1,us2,rfl,rfl,SqL.of (sG _ _ wa1.at'),SqL.of wa2.at',fun u hu=>sG _ _ (wa1.all u hu),wa2.all,wa1.eq wa2 (fun k=>mvo.wk k),_,rfl,?_⟩
 refine iteF ?_
 have tr14:=trG.same sG
 have tab14:=tab13.same (s1.trans sG)
 clear sG s2 sc s1 wa1 wa2 trG tr13 tab13 hc hw1 hw2
 refine ⟨_,rfl,lw,Sw,rfl,SqL.of tr14.ew,tr14.okw,by omega,fun w1 us1 G1' s1 hw1 wa1=>?_⟩
 have trG:=tr14.same s1
 refine ⟨_,rfl,l,_,rfl,.inl (SqL.of trG.e),fun c hc=>?_⟩
 have sc:=zAd hc (.lst (zAn S))
 refine ⟨c,S,rfl,SqL.of zAb,trG.ok.same sc,by omega,fun w2 us2 G2' s2 hw2 wa2=>?_⟩
 have sG:=sc.trans s2
 refine ⟨w1,w2,us1,us2,rfl,rfl,SqL.of (sG _ _ wa1.at'),SqL.of wa2.at',fun u hu=>sG _ _ (wa1.all u hu),wa2.all,wa1.eq wa2 (fun k=>mvw.wk k),_,rfl,?_⟩
 refine iteF ?_
 have tr15:=trG.same sG
 have tab15:=tab14.same (s1.trans sG)
 clear sG s2 sc s1 wa1 wa2 trG tr14 tab14 hc hw1 hw2
 refine ⟨_,rfl,l,_,rfl,.inl (SqL.of tr15.e),fun c hc=>?_⟩
 have sc:=zAd hc (.lst (zAn S))
 refine ⟨c,S,rfl,SqL.of zAb,tr15.ok.same sc,by omega,tab15.same sc,fun v G3 sT tab16 out=>?_⟩
 have tr16:=(tr15.same sc).sameT (tab15.same sc) sT
 clear sc hc sT tr15 tab15
 refine ⟨_,rfl,lo,So,rfl,SqL.of tr16.eo,tr16.oko,by omega,tab16,fun v' G4 sT tab17 out'=>?_⟩
 have tr17:=tr16.sameT tab16 sT
 have out17:=out.keep fun p xs e=>sT.tup tab16 e
 clear out tr16 tab16 sT
 apply cutV1 (ok:=fun G=>Trio G l lo lw S So Sw)
 ·intro main
  rcases zH6 (by decide) mvo out17 out' (by omega) smS smO with ⟨ev,ev'⟩ | ⟨p,p',s0,t0,s0',t0',tw⟩
  ·-- no area
   refine ⟨_,rfl,.inl ⟨by rw [ev,ev']; rfl,?_⟩⟩
   rw [decide_eq_true (ev'.trans ev.symm)]
   refine ⟨_,rfl,?_⟩
   refine iteF ?_
   refine ⟨_,rfl,rfl,_,rfl,?_⟩
   rw [decide_eq_true ev]
   refine iteT ?_
   refine ⟨_,rfl,lw,Sw,rfl,SqL.of tr17.ew,tr17.okw,by omega,tab17,fun vw G5 sT tab18 outw=>?_⟩
   have tr18:=tr17.sameT tab17 sT
   have out18:=out17.keep fun p xs e=>sT.tup tab17 e
   refine ⟨rfl,_,rfl,?_⟩
   rcases zH6 hW mvw out18 outw (by omega) smS smW with ⟨_,ew⟩ | ⟨p,p',s0,t0,s0',t0',tw⟩
   ·rw [decide_eq_true ew]
    refine iteF ?_
    exact main G5 tr18
   ·have z:=tw.ev
    rw [ev] at z
    cases z
  ·-- an area
   have two:=tw.eq
   rw [Int.mul_one,Int.mul_one] at two
   obtain ⟨e1,e2⟩:=zRw two tw.pos tw.pos' tw.low tw.low'
   refine ⟨_,rfl,.inr ⟨p',p,[s0',t0'],[s0,t0],tw.ev',tw.ev,SqT.of tw.e',SqT.of tw.e,?_⟩⟩
   rw [decide_eq_true (show [s0',t0'] = [s0,t0] by rw [e1,e2])]
   refine ⟨_,rfl,?_⟩
   refine iteF ?_
   refine ⟨_,rfl,rfl,_,rfl,?_⟩
   rw [decide_eq_false (show ¬ v = .non by rw [tw.ev]; intro z; cases z)]
   refine iteF ?_
   refine ⟨_,rfl,lw,Sw,rfl,SqL.of tr17.ew,tr17.okw,by omega,tab17,fun vw G5 sT tab18 outw=>?_⟩
   have tr18:=tr17.sameT tab17 sT
   have out18:=out17.keep fun p xs e=>sT.tup tab17 e
   have ep:=sT.tup tab17 tw.e
   have evp:=tw.ev
   clear tw
   rcases zH6 hW mvw out18 outw (by omega) smS smW with ⟨ev,ew⟩ | ⟨p2,pw,s1,t1,sw,tw',tw⟩
   ·rw [evp] at ev
    cases ev
   ·have e3:=tw.ev
    rw [evp] at e3
    cases e3
    have e4:=tw.e
    rw [ep] at e4
    cases e4
    have sqp:Sq K G5 p [.int s0,.int t0]:=.inr (SqT.of ep)
    obtain ⟨n1,n2,n3,n4⟩:=tw.bnd
    have z1:=zAf s0 W n1 (n:=40) (by omega)
    have z2:=zAf (s0 * W) W z1 (n:=40) (by omega)
    have c1:zHj s0 W:=cBf n1 (n:=40) (by omega) (by decide +kernel) (by decide +kernel)
    have c2:zHj (s0 * W) W:=cBf z1 (n:=40) (by omega) (by decide +kernel) (by decide +kernel)
    refine ⟨_,rfl,p,_,_,.int s0,evp,rfl,sqp,rfl,_,rfl,_,_,rfl,rfl,c1,_,rfl,_,_,rfl,rfl,c2,_,rfl,p,_,_,.int t0,evp,rfl,sqp,rfl,pw,sw,tw',s0 * W * W,t0,by rw [tw.ev']; rfl,tw.e',tw.pos',tw.low',tw.eq,⟨Nat.le_trans n3 (by decide +kernel),Nat.le_trans n4 (by decide +kernel)⟩,⟨Nat.le_trans z2 (by decide +kernel),Nat.le_trans n2 (by decide +kernel)⟩,fun G6 s6=>?_⟩
    refine ⟨_,rfl,?_⟩
    refine iteF ?_
    exact main G6 (tr18.same s6)
 clear out17 out' tab17 tr17
 intro G tr
 refine ⟨_,rfl,l,rfl,.inl ⟨⟨_,SqL.of tr.e⟩,fun cc D1 hD1=>zEk tr.e tr.ok hD1 (by omega) (fun H' x Q' q'=>⟨_,rfl,by show 1≤sizeLine; decide,q'⟩) fun cs H1 P1 em=>?_⟩⟩
 obtain ⟨lc,fc,nz⟩:=zIk P1 em
 refine ⟨D1,cs,rfl,SqL.of P1.at',P1.all,by omega,fc,fun F1 fs H2 s2 hF eF of1 in1 le1 nd1 pw1 lf1=>?_⟩
 have row1:=zKr nz in1 le1
 rw [em] at row1
 have tr2:=tr.same (P1.same.trans s2)
 clear P1 em lc fc nz in1 le1 s2 hD1 hF
 refine ⟨_,rfl,lo,rfl,.inl ⟨⟨_,SqL.of tr2.eo⟩,fun cc D2 hD2=>zEk tr2.eo tr2.oko hD2 (by omega) (fun H' x Q' q'=>⟨_,rfl,by show 1≤sizeLine; decide,q'⟩) fun cs2 H3 P3' em=>?_⟩⟩
 obtain ⟨lc,fc,nz⟩:=zIk P3' em
 refine ⟨D2,cs2,rfl,SqL.of P3'.at',P3'.all,by omega,fc,fun F2 fs2 H4 s4 hF2 eF2 of2 in2 le2 nd2 pw2 lf2=>?_⟩
 have row2:=zKr nz in2 le2
 rw [em] at row2
 have s24:=P3'.same.trans s4
 have ne2:F2≠F1:=fun z=>by rw [z,P3'.same _ _ eF] at hF2; cases hF2
 have eq2:fs2.map (·.2) = fs.map (·.2):=zKa ((List.perm_ext_iff_of_nodup nd2 nd1).mpr fun k=>(row2 k).trans ((zTj (by decide) mvo k).trans (row1 k).symm)) pw2 pw1
 refine ⟨_,rfl,F2,F1,true,rfl,rfl,ne2,zN5 6 ne2 eF2 (s24 _ _ eF) (fun t ht=>(of2 t ht).1) (fun t ht=>s24 _ _ (of1 t ht).1) eq2,_,rfl,?_⟩
 refine iteT ?_
 have tr4:=tr2.same s24
 have eF4:=s24 _ _ eF
 have of4:∀ t∈fs,H4 t.1 = some (.lst (t.2.map V.int)):=fun t ht=>s24 _ _ (of1 t ht).1
 clear P3' em lc fc nz in2 le2 s4 hD2 hF2 of2 row2 eq2 ne2 s24
 refine ⟨_,rfl,lw,rfl,.inl ⟨⟨_,SqL.of tr4.ew⟩,fun cc D3 hD3=>zEk tr4.ew tr4.okw hD3 (by omega) (fun H' x Q' q'=>⟨_,rfl,by show 1≤sizeLine; decide,q'⟩) fun cs3 H5 P5 em=>?_⟩⟩
 obtain ⟨lc,fc,nz⟩:=zIk P5 em
 refine ⟨D3,cs3,rfl,SqL.of P5.at',P5.all,by omega,fc,fun F3 fs3 H6 s6 hF3 eF3 of3 in3 le3 nd3 pw3 lf3=>?_⟩
 have row3:=zKr nz in3 le3
 rw [em] at row3
 have s46:=P5.same.trans s6
 have ne3:F3≠F1:=fun z=>by rw [z,P5.same _ _ eF4] at hF3; cases hF3
 have eq3:fs3.map (·.2) = fs.map (·.2):=zKa ((List.perm_ext_iff_of_nodup nd3 nd1).mpr fun k=>(row3 k).trans ((zTj hW mvw k).trans (row1 k).symm)) pw3 pw1
 exact ⟨_,rfl,F3,F1,true,rfl,rfl,ne3,zN5 6 ne3 eF3 (s46 _ _ eF4) (fun t ht=>(of3 t ht).1) (fun t ht=>s46 _ _ (of4 t ht)) eq3,q _⟩
end
abbrev AtK (K:PySem.W.Frag) (x:Str) (s:Stmt) (f:Addr) (oc:Value) (od:Option Addr) (sl:Array (Option Value)) (kV dc pm:Value) (an:Option Addr) (cd ct:Value):Prop :=
 PySem.W.nsIn K mainGlobals x = some (some (.ref f))∧K.lookup f = some ⟨oc,od,.func (PySem.W.fnOf x x (zCr s) (zCf s) (zAl s) .none kV dc pm an cd ct),sl⟩∧PySem.W.codeIn K cd x = true∧PySem.W.keepIn K (.ref f) = true
section
variable {K:PySem.W.Frag} {x:Str} {s:Stmt} {f:Addr} {oc kV dc pm cd ct:Value} {od an:Option Addr} {sl:Array (Option Value)} {h:Heap} {mg:Str→Option Value}
theorem zBb (q:AtK K x s f oc od sl kV dc pm an cd ct):Fun K x x s f (PySem.W.fnOf x x (zCr s) (zCf s) (zAl s) .none kV dc pm an cd ct):=fun_mk (st:=s) q.2.1 q.2.2.1 q.2.2.2
theorem zA1 (P:Program) (w:World) (base:Heap) (X:K.In h) (G:h.Ns mainGlobals mg) (q:AtK K x s f oc od sl kV dc pm an cd ct) {ps:List Str} {n:Nat} {sp:Sp} (o:FnOk P w K mg base CX0 n f (PySem.W.fnOf x x (zCr s) (zCf s) (zAl s) .none kV dc pm an cd ct) ps sp)
  (b:∀ (kV doc pm:Value) (an:Option Addr) (cdv ct:Value) (us:List Value),us.length = ps.length→bindArgs (PySem.W.fnOf x x (zCr s) (zCf s) (zAl s) .none kV doc pm an cdv ct) ⟨us,[]⟩ = pure (ps.zip us)):Has P w K mg base x n ps sp :=
 ⟨_,_,o,(zBb q).binds b,q.2.2.2,PySem.W.mg_of X G q.1⟩
end
theorem us1 {R:List Value→Prop} (h:∀ a,R [a]):∀ us:List Value,us.length = 1→R us
 | [a],_=>h a
theorem us2 {R:List Value→Prop} (h:∀ a b,R [a,b]):∀ us:List Value,us.length = 2→R us
 | [a,b],_=>h a b
theorem us3 {R:List Value→Prop} (h:∀ a b c,R [a,b,c]):∀ us:List Value,us.length = 3→R us
 | [a,b,c],_=>h a b c
theorem us4 {R:List Value→Prop} (h:∀ a b c d,R [a,b,c,d]):∀ us:List Value,us.length = 4→R us
 | [a,b,c,d],_=>h a b c d
theorem tab_cd {K:PySem.W.Frag} {x:Str} {s:Stmt} {f:Addr} {oc kV dc pm cd ct:Value} {od an:Option Addr} {sl:Array (Option Value)} {c P:Addr} (q:AtK K x s f oc od sl kV dc pm an cd ct) (t:PySem.W.tabIn K x = some (c,P)):(PySem.W.fnOf x x (zCr s) (zCf s) (zAl s) .none kV dc pm an cd ct).code = .ref (tabC K x):=by
 have e:tabC K x = c:=by unfold tabC; rw [t]
 rw [e]
 unfold PySem.W.tabIn at t
 rw [q.1] at t
 dsimp only at t
 rw [q.2.1] at t
 dsimp only at t
 cases cd with
 | ref c' =>
  dsimp only at t
  cases h:K.lookup c' with
  | none=>rw [h] at t; cases t
  | some ob =>
   rw [h] at t
   obtain ⟨k1,k2,k3,k4⟩:=ob
   cases k3 with
   | fields vs =>
    dsimp only at t
    split at t
    ·cases t; rfl
    ·cases t
   | _=>cases t
 | _=>cases t
theorem all_mk {l:PySem.W.OpenLaw} {w:World} {K:PySem.W.Frag} {h:Heap} {mg:Str→Option Value} {fa:Addr} (X:K.In h) (G:h.Ns mainGlobals mg) (hfa:mg "law" = some (.ref fa))
  {f1 f2 f3 f4 f5 f6 f7 f8 f9 f10 f11 f12 f13 f14 f15 f16 f17 f18 f19 f20 f21 f22 f23 f24 f25 f26 f27 f28 f29 f30 f31 f32 f33 f34 f35 f36 f37 f38 f39 f40 f41 f42 f43 f44 f45 f46 f47 f48:Addr}
  {oc1 kV1 dc1 pm1 cd1 ct1 oc2 kV2 dc2 pm2 cd2 ct2 oc3 kV3 dc3 pm3 cd3 ct3 oc4 kV4 dc4 pm4 cd4 ct4 oc5 kV5 dc5 pm5 cd5 ct5 oc6 kV6 dc6 pm6 cd6 ct6 oc7 kV7 dc7 pm7 cd7 ct7 oc8 kV8 dc8 pm8 cd8 ct8 oc9 kV9 dc9 pm9 cd9 ct9 oc10 kV10 dc10 pm10 cd10 ct10 oc11 kV11 dc11 pm11 cd11 ct11 oc12 kV12 dc12 pm12 cd12 ct12 oc13 kV13 dc13 pm13 cd13 ct13 oc14 kV14 dc14 pm14 cd14 ct14 oc15 kV15 dc15 pm15 cd15 ct15 oc16 kV16 dc16 pm16 cd16 ct16 oc17 kV17 dc17 pm17 cd17 ct17 oc18 kV18 dc18 pm18 cd18 ct18 oc19 kV19 dc19 pm19 cd19 ct19 oc20 kV20 dc20 pm20 cd20 ct20 oc21 kV21 dc21 pm21 cd21 ct21 oc22 kV22 dc22 pm22 cd22 ct22 oc23 kV23 dc23 pm23 cd23 ct23 oc24 kV24 dc24 pm24 cd24 ct24 oc25 kV25 dc25 pm25 cd25 ct25 oc26 kV26 dc26 pm26 cd26 ct26 oc27 kV27 dc27 pm27 cd27 ct27 oc28 kV28 dc28 pm28 cd28 ct28 oc29 kV29 dc29 pm29 cd29 ct29 oc30 kV30 dc30 pm30 cd30 ct30 oc31 kV31 dc31 pm31 cd31 ct31 oc32 kV32 dc32 pm32 cd32 ct32 oc33 kV33 dc33 pm33 cd33 ct33 oc34 kV34 dc34 pm34 cd34 ct34 oc35 kV35 dc35 pm35 cd35 ct35 oc36 kV36 dc36 pm36 cd36 ct36 oc37 kV37 dc37 pm37 cd37 ct37 oc38 kV38 dc38 pm38 cd38 ct38 oc39 kV39 dc39 pm39 cd39 ct39 oc40 kV40 dc40 pm40 cd40 ct40 oc41 kV41 dc41 pm41 cd41 ct41 oc42 kV42 dc42 pm42 cd42 ct42 oc43 kV43 dc43 pm43 cd43 ct43 oc44 kV44 dc44 pm44 cd44 ct44 oc45 kV45 dc45 pm45 cd45 ct45 oc46 kV46 dc46 pm46 cd46 ct46 oc47 kV47 dc47 pm47 cd47 ct47 oc48 kV48 dc48 pm48 cd48 ct48:Value}
  {od1 an1 od2 an2 od3 an3 od4 an4 od5 an5 od6 an6 od7 an7 od8 an8 od9 an9 od10 an10 od11 an11 od12 an12 od13 an13 od14 an14 od15 an15 od16 an16 od17 an17 od18 an18 od19 an19 od20 an20 od21 an21 od22 an22 od23 an23 od24 an24 od25 an25 od26 an26 od27 an27 od28 an28 od29 an29 od30 an30 od31 an31 od32 an32 od33 an33 od34 an34 od35 an35 od36 an36 od37 an37 od38 an38 od39 an39 od40 an40 od41 an41 od42 an42 od43 an43 od44 an44 od45 an45 od46 an46 od47 an47 od48 an48:Option Addr}
  {sl1 sl2 sl3 sl4 sl5 sl6 sl7 sl8 sl9 sl10 sl11 sl12 sl13 sl14 sl15 sl16 sl17 sl18 sl19 sl20 sl21 sl22 sl23 sl24 sl25 sl26 sl27 sl28 sl29 sl30 sl31 sl32 sl33 sl34 sl35 sl36 sl37 sl38 sl39 sl40 sl41 sl42 sl43 sl44 sl45 sl46 sl47 sl48:Array (Option Value)}
  (q1:AtK K "common_factor" zBw f1 oc1 od1 sl1 kV1 dc1 pm1 an1 cd1 ct1)
  (q2:AtK K "lowest" zFi f2 oc2 od2 sl2 kV2 dc2 pm2 an2 cd2 ct2)
  (q3:AtK K "upright" zD7 f3 oc3 od3 sl3 kV3 dc3 pm3 an3 cd3 ct3)
  (q4:AtK K "part" zH0 f4 oc4 od4 sl4 kV4 dc4 pm4 an4 cd4 ct4)
  (q5:AtK K "plus" zHz f5 oc5 od5 sl5 kV5 dc5 pm5 an5 cd5 ct5)
  (q6:AtK K "spot" zHn f6 oc6 od6 sl6 kV6 dc6 pm6 an6 cd6 ct6)
  (q7:AtK K "ahead" zGk f7 oc7 od7 sl7 kV7 dc7 pm7 an7 cd7 ct7)
  (q8:AtK K "merged" zFf f8 oc8 od8 sl8 kV8 dc8 pm8 an8 cd8 ct8)
  (q9:AtK K "in_order" zCq f9 oc9 od9 sl9 kV9 dc9 pm9 an9 cd9 ct9)
  (q10:AtK K "turn" zGh f10 oc10 od10 sl10 kV10 dc10 pm10 an10 cd10 ct10)
  (q11:AtK K "along" zGq f11 oc11 od11 sl11 kV11 dc11 pm11 an11 cd11 ct11)
  (q12:AtK K "plain" zF5 f12 oc12 od12 sl12 kV12 dc12 pm12 an12 cd12 ct12)
  (q13:AtK K "beyond" zFj f13 oc13 od13 sl13 kV13 dc13 pm13 an13 cd13 ct13)
  (q14:AtK K "holds" zFz f14 oc14 od14 sl14 kV14 dc14 pm14 an14 cd14 ct14)
  (q15:AtK K "crossing" zDk f15 oc15 od15 sl15 kV15 dc15 pm15 an15 cd15 ct15)
  (q16:AtK K "pushed" zFe f16 oc16 od16 sl16 kV16 dc16 pm16 an16 cd16 ct16)
  (q17:AtK K "in_water" zDf f17 oc17 od17 sl17 kV17 dc17 pm17 an17 cd17 ct17)
  (q18:AtK K "foot" zHx f18 oc18 od18 sl18 kV18 dc18 pm18 an18 cd18 ct18)
  (q19:AtK K "edge_end" zDo f19 oc19 od19 sl19 kV19 dc19 pm19 an19 cd19 ct19)
  (q20:AtK K "edge_ends" zC1 f20 oc20 od20 sl20 kV20 dc20 pm20 an20 cd20 ct20)
  (q21:AtK K "spot_on_edge" zB3 f21 oc21 od21 sl21 kV21 dc21 pm21 an21 cd21 ct21)
  (q22:AtK K "sought" zFg f22 oc22 od22 sl22 kV22 dc22 pm22 an22 cd22 ct22)
  (q23:AtK K "some_spot" zCx f23 oc23 od23 sl23 kV23 dc23 pm23 an23 cd23 ct23)
  (q24:AtK K "corners" zD9 f24 oc24 od24 sl24 kV24 dc24 pm24 an24 cd24 ct24)
  (q25:AtK K "way_to" zFk f25 oc25 od25 sl25 kV25 dc25 pm25 an25 cd25 ct25)
  (q26:AtK K "ring" zGs f26 oc26 od26 sl26 kV26 dc26 pm26 an26 cd26 ct26)
  (q27:AtK K "is_way" zFb f27 oc27 od27 sl27 kV27 dc27 pm27 an27 cd27 ct27)
  (q28:AtK K "ways" zHo f28 oc28 od28 sl28 kV28 dc28 pm28 an28 cd28 ct28)
  (q29:AtK K "has_no_way" zCo f29 oc29 od29 sl29 kV29 dc29 pm29 an29 cd29 ct29)
  (q30:AtK K "triangle" zDn f30 oc30 od30 sl30 kV30 dc30 pm30 an30 cd30 ct30)
  (q31:AtK K "area" zHv f31 oc31 od31 sl31 kV31 dc31 pm31 an31 cd31 ct31)
  (q32:AtK K "doubted" zEm f32 oc32 od32 sl32 kV32 dc32 pm32 an32 cd32 ct32)
  (q33:AtK K "places_to_try" zBv f33 oc33 od33 sl33 kV33 dc33 pm33 an33 cd33 ct33)
  (q34:AtK K "least_doubts" zB4 f34 oc34 od34 sl34 kV34 dc34 pm34 an34 cd34 ct34)
  (q35:AtK K "choices" zD5 f35 oc35 od35 sl35 kV35 dc35 pm35 an35 cd35 ct35)
  (q36:AtK K "_law_power" zGb f36 oc36 od36 sl36 kV36 dc36 pm36 an36 cd36 ct36)
  (q37:AtK K "_law_draws" zGi f37 oc37 od37 sl37 kV37 dc37 pm37 an37 cd37 ct37)
  (q38:AtK K "_law_tight" zGc f38 oc38 od38 sl38 kV38 dc38 pm38 an38 cd38 ct38)
  (q39:AtK K "_law_way" zJ8 f39 oc39 od39 sl39 kV39 dc39 pm39 an39 cd39 ct39)
  (q40:AtK K "_law_side" zHs f40 oc40 od40 sl40 kV40 dc40 pm40 an40 cd40 ct40)
  (q41:AtK K "_law_sides" zF9 f41 oc41 od41 sl41 kV41 dc41 pm41 an41 cd41 ct41)
  (q42:AtK K "_law_many" zHt f42 oc42 od42 sl42 kV42 dc42 pm42 an42 cd42 ct42)
  (q43:AtK K "_law_low" zKm f43 oc43 od43 sl43 kV43 dc43 pm43 an43 cd43 ct43)
  (q44:AtK K "_law_spot_of" zD3 f44 oc44 od44 sl44 kV44 dc44 pm44 an44 cd44 ct44)
  (q45:AtK K "_law_whole" zGn f45 oc45 od45 sl45 kV45 dc45 pm45 an45 cd45 ct45)
  (q46:AtK K "_law_numbers" zEo f46 oc46 od46 sl46 kV46 dc46 pm46 an46 cd46 ct46)
  (q47:AtK K "_law_is_part" zEb f47 oc47 od47 sl47 kV47 dc47 pm47 an47 cd47 ct47)
  (q48:AtK K "law" zNf f48 oc48 od48 sl48 kV48 dc48 pm48 an48 cd48 ct48)
  (z_abs:PySem.W.nsIn K mainGlobals "abs" = some none)
  (z_all:PySem.W.nsIn K mainGlobals "all" = some none)
  (z_bool:PySem.W.nsIn K mainGlobals "bool" = some none)
  (z_enumerate:PySem.W.nsIn K mainGlobals "enumerate" = some none)
  (z_int:PySem.W.nsIn K mainGlobals "int" = some none)
  (z_isinstance:PySem.W.nsIn K mainGlobals "isinstance" = some none)
  (z_len:PySem.W.nsIn K mainGlobals "len" = some none)
  (z_list:PySem.W.nsIn K mainGlobals "list" = some none)
  (z_min:PySem.W.nsIn K mainGlobals "min" = some none)
  (z_range:PySem.W.nsIn K mainGlobals "range" = some none)
  (z_sorted:PySem.W.nsIn K mainGlobals "sorted" = some none)
  (z_tuple:PySem.W.nsIn K mainGlobals "tuple" = some none)
  {c0 pt0:Addr} (tt:PySem.W.tabIn K "ring" = some (c0,pt0)) :
  ∃ fd:FuncData,(∀ (s:Shared) (v:Value),BindsTo s fd ⟨[v],[]⟩ [("_law_script", v)])∧∀ base:Heap,K.In base→base.Ns mainGlobals mg→zJ6 base mg c0 pt0→FnOk l.prog w K mg base CX0 19 fa fd ["_law_script"] (sp_law K):=by
 have e:=hfa.symm.trans (PySem.W.mg_of X G q48.1)
 cases e
 have Z:Zs mg:=⟨PySem.W.mg_none_of X G z_abs,PySem.W.mg_none_of X G z_all,PySem.W.mg_none_of X G z_bool,PySem.W.mg_none_of X G z_enumerate,PySem.W.mg_none_of X G z_int,PySem.W.mg_none_of X G z_isinstance,PySem.W.mg_none_of X G z_len,PySem.W.mg_none_of X G z_list,PySem.W.mg_none_of X G z_min,PySem.W.mg_none_of X G z_range,PySem.W.mg_none_of X G z_sorted,PySem.W.mg_none_of X G z_tuple⟩
 refine ⟨PySem.W.fnOf "law" "law" (zCr zNf) (zCf zNf) (zAl zNf) .none kV48 dc48 pm48 an48 cd48 ct48,fun s v=>.of_eq rfl,fun base _ _ NB=>?_⟩
 have h_p_common_factor:=zA1 l.prog w base X G q1 (zF6 (zBb q1) Z ) (fun _ _ _ _ _ _=>us1 fun _=>rfl)
 have h_p_lowest:=zA1 l.prog w base X G q2 (zNb (zBb q2) Z h_p_common_factor) (fun _ _ _ _ _ _=>us1 fun _=>rfl)
 have h_p_upright:=zA1 l.prog w base X G q3 (zK7 (zBb q3) Z h_p_lowest) (fun _ _ _ _ _ _=>us1 fun _=>rfl)
 have h_p_part:=zA1 l.prog w base X G q4 (zR4 (zBb q4) Z h_p_upright) (fun _ _ _ _ _ _=>us2 fun _ _=>rfl)
 have h_p_plus:=zA1 l.prog w base X G q5 (zQr (zBb q5) Z h_p_part) (fun _ _ _ _ _ _=>us2 fun _ _=>rfl)
 have h_p_spot:=zA1 l.prog w base X G q6 (zQe (zBb q6) Z h_p_upright) (fun _ _ _ _ _ _=>us3 fun _ _ _=>rfl)
 have h_p_ahead:=zA1 l.prog w base X G q7 (zPc (zBb q7) Z ) (fun _ _ _ _ _ _=>us2 fun _ _=>rfl)
 have h_p_merged:=zA1 l.prog w base X G q8 (zM9 (zBb q8) Z h_p_ahead) (fun _ _ _ _ _ _=>us2 fun _ _=>rfl)
 have h_p_in_order:=zA1 l.prog w base X G q9 (zKf (zBb q9) Z h_p_merged ((zBb q9).binds (ps:=["spots"]) fun _ _ _ _ _ _=>us1 fun _=>rfl) q9.2.2.2 (PySem.W.mg_of X G q9.1)) (fun _ _ _ _ _ _=>us1 fun _=>rfl)
 have h_p_turn_B:=zA1 l.prog w base X G q10 (zNe (zBb q10) Z ) (fun _ _ _ _ _ _=>us2 fun _ _=>rfl)
 have h_p_turn:=zA1 l.prog w base X G q10 (zRs (zBb q10) Z ) (fun _ _ _ _ _ _=>us2 fun _ _=>rfl)
 have h_p_along:=zA1 l.prog w base X G q11 (zPi (zBb q11) Z ) (fun _ _ _ _ _ _=>us2 fun _ _=>rfl)
 have h_p_plain:=zA1 l.prog w base X G q12 (zO7 (zBb q12) Z h_p_lowest) (fun _ _ _ _ _ _=>us1 fun _=>rfl)
 have h_p_beyond:=zA1 l.prog w base X G q13 (zM2 (zBb q13) Z ) (fun _ _ _ _ _ _=>us2 fun _ _=>rfl)
 have h_p_holds:=zA1 l.prog w base X G q14 (zO8 (zBb q14) Z h_p_beyond) (fun _ _ _ _ _ _=>us2 fun _ _=>rfl)
 have h_p_crossing:=zA1 l.prog w base X G q15 (zKi (zBb q15) Z h_p_upright h_p_turn) (fun _ _ _ _ _ _=>us2 fun _ _=>rfl)
 have h_p_pushed:=zA1 l.prog w base X G q16 (zMr (zBb q16) Z ) (fun _ _ _ _ _ _=>us3 fun _ _ _=>rfl)
 have h_p_in_water:=zA1 l.prog w base X G q17 (zKz (zBb q17) Z h_p_holds) (fun _ _ _ _ _ _=>us2 fun _ _=>rfl)
 have h_p_foot:=zA1 l.prog w base X G q18 (zQ8 (zBb q18) Z h_p_spot h_p_along) (fun _ _ _ _ _ _=>us1 fun _=>rfl)
 have h_p_edge_end:=zA1 l.prog w base X G q19 (zKg (zBb q19) Z h_p_turn h_p_holds h_p_crossing) (fun _ _ _ _ _ _=>us3 fun _ _ _=>rfl)
 have h_p_edge_ends:=zA1 l.prog w base X G q20 (zJj (zBb q20) Z h_p_crossing h_p_edge_end) (fun _ _ _ _ _ _=>us2 fun _ _=>rfl)
 have h_p_spot_on_edge:=zA1 l.prog w base X G q21 (zG5 (zBb q21) Z h_p_edge_ends h_p_foot h_p_in_water) (fun _ _ _ _ _ _=>us2 fun _ _=>rfl)
 have h_p_sought:=zA1 l.prog w base X G q22 (zM1 (zBb q22) Z h_p_holds h_p_spot_on_edge h_p_spot) (fun _ _ _ _ _ _=>us1 fun _=>rfl)
 have h_p_some_spot:=zA1 l.prog w base X G q23 (zJc (zBb q23) Z h_p_sought) (fun _ _ _ _ _ _=>us1 fun _=>rfl)
 have h_p_corners:=zA1 l.prog w base X G q24 (zL7 (zBb q24) Z h_p_in_order h_p_edge_ends h_p_in_water) (fun _ _ _ _ _ _=>us1 fun _=>rfl)
 have h_p_way_to:=zA1 l.prog w base X G q25 (zNh (zBb q25) Z ) (fun _ _ _ _ _ _=>us2 fun _ _=>rfl)
 have h_p_ring:=zA1 l.prog w base X G q26 (zQ9 (zBb q26) Z h_p_corners h_p_turn h_p_way_to h_p_turn_B (tab_cd q26 tt) (tab_nb tt NB)) (fun _ _ _ _ _ _=>us1 fun _=>rfl)
 have h_p_is_way:=zA1 l.prog w base X G q27 (zMq (zBb q27) Z h_p_along) (fun _ _ _ _ _ _=>us2 fun _ _=>rfl)
 have h_p_ways:=zA1 l.prog w base X G q28 (zPq (zBb q28) Z h_p_is_way h_p_plain) (fun _ _ _ _ _ _=>us1 fun _=>rfl)
 have h_p_has_no_way:=zA1 l.prog w base X G q29 (zH7 (zBb q29) Z h_p_ways) (fun _ _ _ _ _ _=>us1 fun _=>rfl)
 have h_p_triangle:=zA1 l.prog w base X G q30 (zK0 (zBb q30) Z h_p_part h_p_turn h_p_way_to h_p_turn_B) (fun _ _ _ _ _ _=>us3 fun _ _ _=>rfl)
 have h_p_area:=zA1 l.prog w base X G q31 (zRo (zBb q31) Z h_p_plus h_p_triangle h_p_part h_p_ring h_p_has_no_way h_p_some_spot) (fun _ _ _ _ _ _=>us1 fun _=>rfl)
 have h_p_doubted:=zA1 l.prog w base X G q32 (zL9 (zBb q32) Z h_p_in_water) (fun _ _ _ _ _ _=>us2 fun _ _=>rfl)
 have h_p_places_to_try:=zA1 l.prog w base X G q33 (zGr (zBb q33) Z h_p_crossing h_p_foot h_p_spot) (fun _ _ _ _ _ _=>us1 fun _=>rfl)
 have h_p_least_doubts:=zA1 l.prog w base X G q34 (zG3 (zBb q34) Z h_p_places_to_try h_p_doubted) (fun _ _ _ _ _ _=>us1 fun _=>rfl)
 have h_p_choices:=zA1 l.prog w base X G q35 (zMg (zBb q35) Z h_p_least_doubts) (fun _ _ _ _ _ _=>us1 fun _=>rfl)
 have h_L_power:=zA1 l.prog w base X G q36 (zOm (zBb q36) Z ) (fun _ _ _ _ _ _=>us1 fun _=>rfl)
 have h_L_draws:=zA1 l.prog w base X G q37 (zOq (zBb q37) Z h_L_power) (fun _ _ _ _ _ _=>us2 fun _ _=>rfl)
 have h_L_tight:=zA1 l.prog w base X G q38 (zOv (zBb q38) Z ) (fun _ _ _ _ _ _=>us2 fun _ _=>rfl)
 have h_L_way:=zA1 l.prog w base X G q39 (zS7 (zBb q39) Z ) (fun _ _ _ _ _ _=>us3 fun _ _ _=>rfl)
 have h_L_side:=zA1 l.prog w base X G q40 (zR3 (zBb q40) Z h_L_way) (fun _ _ _ _ _ _=>us1 fun _=>rfl)
 have h_L_sides:=zA1 l.prog w base X G q41 (zOz (zBb q41) Z h_L_side) (fun _ _ _ _ _ _=>us2 fun _ _=>rfl)
 have h_L_many:=zA1 l.prog w base X G q42 (zQn (zBb q42) Z ) (fun _ _ _ _ _ _=>us4 fun _ _ _ _=>rfl)
 have h_L_low:=zA1 l.prog w base X G q43 (zSk (zBb q43) Z ) (fun _ _ _ _ _ _=>us2 fun _ _=>rfl)
 have h_L_spot_of:=zA1 l.prog w base X G q44 (zMc (zBb q44) Z h_L_low) (fun _ _ _ _ _ _=>us3 fun _ _ _=>rfl)
 have h_L_whole:=zA1 l.prog w base X G q45 (zOt (zBb q45) Z ) (fun _ _ _ _ _ _=>us1 fun _=>rfl)
 have h_L_numbers:=zA1 l.prog w base X G q46 (zLl (zBb q46) Z h_L_whole) (fun _ _ _ _ _ _=>us2 fun _ _=>rfl)
 have h_L_is_part:=zA1 l.prog w base X G q47 (zLf (zBb q47) Z h_L_numbers h_L_low) (fun _ _ _ _ _ _=>us3 fun _ _ _=>rfl)
 exact ok_law (zBb q48) Z h_p_choices h_p_area h_L_is_part h_p_ways h_p_corners h_L_spot_of h_p_pushed h_L_tight h_L_sides h_L_many h_L_draws
theorem walk {l:PySem.W.OpenLaw} {q:Program} {loose:List Str} {XP:(Str→Option Value)→Heap→Prop} {YP:World→Heap→Prop} {d:DefRec} {K:Params→PySem.W.Frag} {c Pt:Addr} (hn:l.most = some 63) (hdf:d.params.defaults = [])
  (hY:∀ (w:World) (h:Heap),YP w h→(K w.params).In h) (hfind:((PyProof.Rows.recsOf q).find? (fun e:DefRec=>e.name == ("ring" : Str))).isSome = true) (ht:∀ p:Params,PySem.W.tabIn (K p) "ring" = some (c,Pt)) (hKT:∀ p:Params,(K p).lookup Pt = none)
  (F:∀ (w:World) (mg:Str→Option Value) (fa:Addr) (h:Heap),(K w.params).In h→h.Ns mainGlobals mg→mg d.name = some (.ref fa) →
   ∃ fd:FuncData,(∀ (s:Shared) (u:Value),BindsTo s fd ⟨[u],[]⟩ [("_law_script", u)])∧∀ base:Heap,(K w.params).In base→base.Ns mainGlobals mg→zJ6 base mg c Pt→FnOk l.prog w (K w.params) mg base CX0 19 fa fd ["_law_script"] (sp_law (K w.params))) :
  PySem.W.WalkO q loose XP YP l.row.toRowW d [] (fun f vs=>PySem.call f vs) :=
 L2.walk_ofT (n:=63) (k:=19) (x := "_law_script") (y := "ring") (CX:=fun _=>CX0) (sp:=fun w=>sp_law (K w.params)) hn (by decide) hdf ⟨rfl,by decide,by decide⟩ hY hfind ht hKT F (fun w H a ns hl hT hS=>⟨a,ns,rfl,hS,hl,(by have e:tabP (K w.params) "ring" = Pt:=(by unfold tabP; rw [ht]); show H (tabP (K w.params) "ring") = _; rw [e]; exact hT),fun _=>rfl⟩) fun _ _ _ _ _ z=>z

end Sea
open PySem PySem.W PyProof.Rows
set_option maxRecDepth 100000 in
set_option maxHeartbeats 0 in
theorem PySem.Challenge.cw_seamarks_k32_whole_pushed_and_widened_holds : PySem.Challenge.rw_seamarks_k32_whole_pushed_and_widened.Holds := by
 w_on
 refine holds_law Sea.said_ok fun said=>?_
 refine holds_open (q:=Sea.qv) (loose:=[]) (XP:=XL Sea.qv []) (YP:=InK Sea.KK) Sea.left_ok (InK.of Sea.kas_ok)
  InK.keeps (fun s e=>xl_of s (Bool.and_eq_true_iff.mp e).1) XL.keeps (by rfl) (by rfl) (by rfl)
  (fun s e=>recFacts_of (Bool.and_eq_true_iff.mp e).2) (by rfl) (by assumption) (by decide +kernel)
  ⟨rfl,rfl,rfl,rfl,rfl,by decide +kernel⟩ ?hw ?hc
 case hw=>w_witness2
 k_fill
 refine Sea.walk (l:=PySem.Challenge.rw_seamarks_k32_whole_pushed_and_widened) (c:=189) (Pt:=185) rfl rfl (fun w h Y=>Y) (by kernel_rfl) (fun _=>by kernel_rfl) (fun _=>by kernel_rfl) ?F
 case F =>
  intro w mg fa h KX G hmg
  refine' Sea.all_mk KX G hmg ?q1 ?q2 ?q3 ?q4 ?q5 ?q6 ?q7 ?q8 ?q9 ?q10 ?q11 ?q12 ?q13 ?q14 ?q15 ?q16 ?q17 ?q18 ?q19 ?q20 ?q21 ?q22 ?q23 ?q24 ?q25 ?q26 ?q27 ?q28 ?q29 ?q30 ?q31 ?q32 ?q33 ?q34 ?q35 ?q36 ?q37 ?q38 ?q39 ?q40 ?q41 ?q42 ?q43 ?q44 ?q45 ?q46 ?q47 ?q48 ?z_abs ?z_all ?z_bool ?z_enumerate ?z_int ?z_isinstance ?z_len ?z_list ?z_min ?z_range ?z_sorted ?z_tuple ?tt
  (case q1=>and_intros <;> k_is)
  (case q2=>and_intros <;> k_is)
  (case q3=>and_intros <;> k_is)
  (case q4=>and_intros <;> k_is)
  (case q5=>and_intros <;> k_is)
  (case q6=>and_intros <;> k_is)
  (case q7=>and_intros <;> k_is)
  (case q8=>and_intros <;> k_is)
  (case q9=>and_intros <;> k_is)
  (case q10=>and_intros <;> k_is)
  (case q11=>and_intros <;> k_is)
  (case q12=>and_intros <;> k_is)
  (case q13=>and_intros <;> k_is)
  (case q14=>and_intros <;> k_is)
  (case q15=>and_intros <;> k_is)
  (case q16=>and_intros <;> k_is)
  (case q17=>and_intros <;> k_is)
  (case q18=>and_intros <;> k_is)
  (case q19=>and_intros <;> k_is)
  (case q20=>and_intros <;> k_is)
  (case q21=>and_intros <;> k_is)
  (case q22=>and_intros <;> k_is)
  (case q23=>and_intros <;> k_is)
  (case q24=>and_intros <;> k_is)
  (case q25=>and_intros <;> k_is)
  (case q26=>and_intros <;> k_is)
  (case q27=>and_intros <;> k_is)
  (case q28=>and_intros <;> k_is)
  (case q29=>and_intros <;> k_is)
  (case q30=>and_intros <;> k_is)
  (case q31=>and_intros <;> k_is)
  (case q32=>and_intros <;> k_is)
  (case q33=>and_intros <;> k_is)
  (case q34=>and_intros <;> k_is)
  (case q35=>and_intros <;> k_is)
  (case q36=>and_intros <;> k_is)
  (case q37=>and_intros <;> k_is)
  (case q38=>and_intros <;> k_is)
  (case q39=>and_intros <;> k_is)
  (case q40=>and_intros <;> k_is)
  (case q41=>and_intros <;> k_is)
  (case q42=>and_intros <;> k_is)
  (case q43=>and_intros <;> k_is)
  (case q44=>and_intros <;> k_is)
  (case q45=>and_intros <;> k_is)
  (case q46=>and_intros <;> k_is)
  (case q47=>and_intros <;> k_is)
  (case q48=>and_intros <;> k_is)
  (case z_abs=>k_is)
  (case z_all=>k_is)
  (case z_bool=>k_is)
  (case z_enumerate=>k_is)
  (case z_int=>k_is)
  (case z_isinstance=>k_is)
  (case z_len=>k_is)
  (case z_list=>k_is)
  (case z_min=>k_is)
  (case z_range=>k_is)
  (case z_sorted=>k_is)
  (case z_tuple=>k_is)
  (case tt=>kernel_rfl)
