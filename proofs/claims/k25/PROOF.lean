import PyProof.Rows.All
import Wide.All
import OpenK.AllK
import Wide.FinOn
import Lean
import PyProof.EqAt
import PyProof.EqKinds
import PyProof.TupleCall
import PyProof.ZipIter
import PyProof.Rows.ZipGen
import PyProof.EnumFor
import PyProof.EnumStmt
import KE.KSortTup
import KE.KDictList
import PySem.Challenge.RW_seamarks_k25_words_of_banks
set_option Elab.async false
set_option linter.all false
set_option maxRecDepth 100000
set_option maxHeartbeats 4000000
namespace L2
open PySem
def zE6 (s:Stmt):Arguments:=match s with
 | .FunctionDef _ a _ _ _ _ _ _ _ _=>a
 | _=>{ posonlyargs:=[],args:=[],vararg:=none,kwonlyargs:=[],kw_defaults:=[],kwarg:=none,defaults:=[] }
def zEo (s:Stmt):List Stmt:=match s with
 | .FunctionDef _ _ b _ _ _ _ _ _ _=>b
 | _=>[]
def zAp (s:Stmt):Scope:=match s with
 | .FunctionDef _ _ _ _ _ _ sc _ _ _=>sc
 | _=>{ kind:=.function,names:=[],isGenerator:=false,isCoroutine:=false }
end L2
namespace Sea
open PySem L2
def top (i:Nat):Stmt:=PySem.Challenge.pw_seamarks_k25_words_of_banks.main.body.getD i (.Pass ⟨0,0,0,0⟩)
abbrev zC3:Stmt:=top 1
abbrev zG3:Stmt:=top 2
abbrev zFn:Stmt:=top 3
abbrev zJb:Stmt:=top 4
abbrev zJs:Stmt:=top 5
abbrev zJt:Stmt:=top 7
abbrev zHu:Stmt:=top 8
abbrev zHq:Stmt:=top 9
abbrev zDv:Stmt:=top 10
abbrev zG0:Stmt:=top 11
abbrev zH6:Stmt:=top 12
abbrev zE1:Stmt:=top 13
abbrev zEu:Stmt:=top 15
abbrev zJm:Stmt:=top 16
abbrev zEz:Stmt:=top 17
abbrev zD0:Stmt:=top 18
abbrev zC9:Stmt:=top 19
abbrev zG6:Stmt:=top 20
abbrev zD1:Stmt:=top 21
abbrev zGx:Stmt:=top 22
abbrev zJr:Stmt:=top 23
abbrev zJv:Stmt:=top 25
abbrev zFr:Stmt:=top 26
abbrev zCp:Stmt:=top 27
abbrev zH9:Stmt:=top 28
abbrev zDq:Stmt:=top 29
abbrev zDu:Stmt:=top 30
abbrev zCs:Stmt:=top 31
abbrev zDr:Stmt:=top 32
abbrev zHv:Stmt:=top 33
abbrev zDh:Stmt:=top 35
abbrev zC8:Stmt:=top 36
abbrev zDt:Stmt:=top 37
abbrev zCq:Stmt:=top 38
abbrev zDg:Stmt:=top 39
abbrev zB0:Stmt:=top 40
abbrev zEc:Stmt:=top 41
abbrev zL1:Stmt:=top 43
abbrev zDi:Stmt:=top 44
abbrev zIa:Stmt:=top 45
abbrev zHs:Stmt:=top 46
abbrev zJh:Stmt:=top 47
abbrev zH2:Stmt:=top 48
abbrev zL4:Stmt:=top 49
abbrev zJk:Stmt:=top 50
abbrev zHr:Stmt:=top 51
abbrev zG5:Stmt:=top 52
abbrev zD7:Stmt:=top 53
abbrev zJp:Stmt:=top 54
abbrev zD2:Stmt:=top 55
abbrev zGz:Stmt:=top 56
abbrev zIc:Stmt:=top 57
abbrev zFt:Stmt:=top 58
abbrev zFo:Stmt:=top 59
abbrev zD8:Stmt:=top 60
abbrev zEx:Stmt:=top 61
abbrev zG2:Stmt:=top 62
abbrev zHt:Stmt:=top 63
abbrev zMi:Stmt:=top 64
abbrev zEd:Stmt:=top 65
abbrev zFq:Stmt:=top 66
abbrev zJg:Stmt:=top 67
abbrev zDs:Stmt:=top 68
abbrev zJi:Stmt:=top 69
abbrev zDz:Stmt:=top 70
abbrev zFk:Stmt:=top 71
abbrev zOr:Stmt:=top 72
noncomputable def qv:Program:={ PySem.Challenge.pw_seamarks_k25_words_of_banks with main:={ PySem.Challenge.pw_seamarks_k25_words_of_banks.main with body:=[top 1,top 2,top 3,top 4,top 5,top 7,top 8,top 9,top 10,top 11,top 12,top 13,top 15,top 16,top 17,top 18,top 19,top 20,top 21,top 22,top 23,top 25,top 26,top 27,top 28,top 29,top 30,top 31,top 32,top 33,top 35,top 36,top 37,top 38,top 39,top 40,top 41,top 43,top 44,top 45,top 46,top 47,top 48,top 49,top 50,top 51,top 52,top 53,top 54,top 55,top 56,top 57,top 58,top 59,top 60,top 61,top 62,top 63,top 64,top 65,top 66,top 67,top 68,top 69,top 70,top 71,top 72] } }
noncomputable def kd (P:Params) (x:Str) (t:Nat) (v:Value):DictEntry:=⟨PyData.keyHash P x,.str x t,v⟩
noncomputable def kc (l:List Value):Obj:=⟨.type "code", none,.fields (List.toArray l),List.toArray []⟩
noncomputable abbrev kf (x:Str) (s:Stmt) (kV doc pm cd ct:Value):Obj:=⟨.type "function", none,.func (PySem.W.fnOf x x (zE6 s) (zEo s) (zAp s) .none kV doc pm none cd ct),List.toArray []⟩
noncomputable def KK (P:Params):PySem.W.Frag :=
 (nat_lit 3,⟨.type "dict", none,.dict (List.toArray (kd P "__name__" 165 (.str "law_seamarks_k25_words_of_banks" 528) :: kd P "__doc__" 166 .none :: kd P "__package__" 167 .none :: kd P "__loader__" 168 (.builtin "__main__.__loader__#opaque") :: kd P "__spec__" 169 .none :: kd P "__annotations__" 170 (.ref 6) :: kd P "__builtins__" 171 (.ref 4) :: kd P "__file__" 173 (.str "/claim/cut.py" 172) :: kd P "__cached__" 174 .none :: kd P "common_factor" 199 (.ref 21) :: kd P "lowest" 205 (.ref 26) :: kd P "upright" 211 (.ref 31) :: kd P "part" 219 (.ref 38) :: kd P "spot" 228 (.ref 45) :: kd P "turn" 238 (.ref 52) :: kd P "along" 246 (.ref 59) :: kd P "plain" 253 (.ref 66) :: kd P "plain_side" 260 (.ref 73) :: kd P "beyond" 268 (.ref 80) :: kd P "holds" 276 (.ref 87) :: kd P "crossing" 287 (.ref 94) :: kd P "in_water" 298 (.ref 101) :: kd P "foot" 305 (.ref 108) :: kd P "edge_end" 318 (.ref 115) :: kd P "edge_ends" 324 (.ref 120) :: kd P "spot_on_edge" 333 (.ref 127) :: kd P "sought" 342 (.ref 134) :: kd P "some_spot" 349 (.ref 141) :: kd P "is_way" 358 (.ref 148) :: kd P "ways" 368 (.ref 155) :: kd P "span" 377 (.ref 162) :: kd P "weighed" 383 (.ref 167) :: kd P "clash_of_three" 396 (.ref 174) :: kd P "clash" 407 (.ref 181) :: kd P "way_onward" 416 (.ref 188) :: kd P "far_by_one" 427 (.ref 195) :: kd P "weights_of_two" 440 (.ref 202) :: kd P "far_by_two" 452 (.ref 209) :: kd P "reach" 462 (.ref 216) :: kd P "stretch_way" 472 (.ref 223) :: kd P "stretch_side" 481 (.ref 230) :: kd P "bank_sides" 487 (.ref 235) :: kd P "word_of_cannot" 493 (.ref 240) :: kd P "gone_beyond" 504 (.ref 247) :: kd P "beyond_or_weights" 513 (.ref 254) :: kd P "bank_word" 527 (.ref 261) :: kd P "_law_low" 537 (.ref 268) :: kd P "_law_low_weights" 543 (.ref 273) :: kd P "_law_power" 550 (.ref 280) :: kd P "_law_draws" 562 (.ref 287) :: kd P "_law_many" 572 (.ref 294) :: kd P "_law_tight" 578 (.ref 299) :: kd P "_law_way" 589 (.ref 306) :: kd P "_law_side" 599 (.ref 313) :: kd P "_law_sides" 605 (.ref 318) :: kd P "_law_turned" 613 (.ref 325) :: kd P "_law_left_pair" 623 (.ref 332) :: kd P "_law_bank" 645 (.ref 339) :: kd P "_law_bank_rows" 659 (.ref 346) :: kd P "_law_banked" 665 (.ref 351) :: kd P "_law_whole" 672 (.ref 358) :: kd P "_law_numbers" 678 (.ref 363) :: kd P "_law_is_spot" 685 (.ref 370) :: kd P "_law_word_kind" 692 (.ref 377) :: kd P "_law_is_clash" 706 (.ref 384) :: kd P "_law_summed" 715 (.ref 391) :: kd P "_law_bound" 721 (.ref 396) :: kd P "_law_has" 727 (.ref 401) :: kd P "_law_good_word" 733 (.ref 406) :: kd P "_law_spot_of" 743 (.ref 413) :: kd P "_law_meet" 752 (.ref 420) :: kd P "_law_corners_of" 764 (.ref 427) :: kd P "_law_feet" 770 (.ref 432) :: kd P "_law_any_place" 778 (.ref 439) :: kd P "_law_all_low" 784 (.ref 444) :: kd P "law" 797 (.ref 451) :: [])) 76,List.toArray []⟩) ::
 (nat_lit 20,kc ((.str "common_factor" 189) :: ((.str "common_factor" 190) :: ((.str "/claim/cut.py" 191) :: ((.int 2 0) :: ((.int 1 0) :: ((.int 0 0) :: ((.int 0 0) :: ((.int 3 0) :: ((.ref 15) :: ((.bool true) :: ((.int 181 0) :: ((.ref 16) :: (.none :: ((.ref 17) :: ((.ref 18) :: ((.ref 19) :: ((.int 197 0) :: ((.int 2 0) :: ((.str "/claim/cut.py" 198) :: [])))))))))))))))))))) ::
 (nat_lit 21,kf "common_factor" zC3 .none .none (.str "seamarks.parts" 187) (.ref 20) .none) ::
 (nat_lit 25,kc ((.str "lowest" 200) :: ((.str "lowest" 201) :: ((.str "/claim/cut.py" 202) :: ((.int 11 0) :: ((.int 1 0) :: ((.int 0 0) :: ((.int 0 0) :: ((.int 3 0) :: ((.ref 22) :: ((.bool true) :: ((.int 181 0) :: ((.ref 23) :: (.none :: (.none :: (.none :: ((.ref 24) :: ((.int 203 0) :: ((.int 11 0) :: ((.str "/claim/cut.py" 204) :: [])))))))))))))))))))) ::
 (nat_lit 26,kf "lowest" zG3 .none .none (.str "seamarks.parts" 187) (.ref 25) .none) ::
 (nat_lit 30,kc ((.str "upright" 206) :: ((.str "upright" 207) :: ((.str "/claim/cut.py" 208) :: ((.int 14 0) :: ((.int 1 0) :: ((.int 0 0) :: ((.int 0 0) :: ((.int 3 0) :: ((.ref 27) :: ((.bool true) :: ((.int 181 0) :: ((.ref 28) :: (.none :: (.none :: (.none :: ((.ref 29) :: ((.int 209 0) :: ((.int 14 0) :: ((.str "/claim/cut.py" 210) :: [])))))))))))))))))))) ::
 (nat_lit 31,kf "upright" zFn .none .none (.str "seamarks.parts" 187) (.ref 30) .none) ::
 (nat_lit 37,kc ((.str "part" 212) :: ((.str "part" 213) :: ((.str "/claim/cut.py" 214) :: ((.int 18 0) :: ((.int 2 0) :: ((.int 0 0) :: ((.int 0 0) :: ((.int 3 0) :: ((.ref 32) :: ((.bool true) :: ((.int 181 0) :: ((.ref 33) :: (.none :: ((.ref 34) :: ((.ref 35) :: ((.ref 36) :: ((.int 217 0) :: ((.int 18 0) :: ((.str "/claim/cut.py" 218) :: [])))))))))))))))))))) ::
 (nat_lit 38,kf "part" zJb .none .none (.str "seamarks.parts" 187) (.ref 37) .none) ::
 (nat_lit 44,kc ((.str "spot" 220) :: ((.str "spot" 221) :: ((.str "/claim/cut.py" 222) :: ((.int 20 0) :: ((.int 3 0) :: ((.int 0 0) :: ((.int 0 0) :: ((.int 3 0) :: ((.ref 39) :: ((.bool true) :: ((.int 181 0) :: ((.ref 40) :: (.none :: ((.ref 41) :: ((.ref 42) :: ((.ref 43) :: ((.int 226 0) :: ((.int 20 0) :: ((.str "/claim/cut.py" 227) :: [])))))))))))))))))))) ::
 (nat_lit 45,kf "spot" zJs .none .none (.str "seamarks.parts" 187) (.ref 44) .none) ::
 (nat_lit 51,kc ((.str "turn" 231) :: ((.str "turn" 232) :: ((.str "/claim/cut.py" 233) :: ((.int 23 0) :: ((.int 2 0) :: ((.int 0 0) :: ((.int 0 0) :: ((.int 3 0) :: ((.ref 46) :: ((.bool true) :: ((.int 181 0) :: ((.ref 47) :: (.none :: ((.ref 48) :: ((.ref 49) :: ((.ref 50) :: ((.int 236 0) :: ((.int 23 0) :: ((.str "/claim/cut.py" 237) :: [])))))))))))))))))))) ::
 (nat_lit 52,kf "turn" zJt .none .none (.str "seamarks.sides" 229) (.ref 51) .none) ::
 (nat_lit 58,kc ((.str "along" 239) :: ((.str "along" 240) :: ((.str "/claim/cut.py" 241) :: ((.int 25 0) :: ((.int 2 0) :: ((.int 0 0) :: ((.int 0 0) :: ((.int 3 0) :: ((.ref 53) :: ((.bool true) :: ((.int 181 0) :: ((.ref 54) :: (.none :: ((.ref 55) :: ((.ref 56) :: ((.ref 57) :: ((.int 244 0) :: ((.int 25 0) :: ((.str "/claim/cut.py" 245) :: [])))))))))))))))))))) ::
 (nat_lit 59,kf "along" zHu .none .none (.str "seamarks.sides" 229) (.ref 58) .none) ::
 (nat_lit 65,kc ((.str "plain" 247) :: ((.str "plain" 248) :: ((.str "/claim/cut.py" 249) :: ((.int 27 0) :: ((.int 1 0) :: ((.int 0 0) :: ((.int 0 0) :: ((.int 3 0) :: ((.ref 60) :: ((.bool true) :: ((.int 181 0) :: ((.ref 61) :: (.none :: ((.ref 62) :: ((.ref 63) :: ((.ref 64) :: ((.int 251 0) :: ((.int 27 0) :: ((.str "/claim/cut.py" 252) :: [])))))))))))))))))))) ::
 (nat_lit 66,kf "plain" zHq .none .none (.str "seamarks.sides" 229) (.ref 65) .none) ::
 (nat_lit 72,kc ((.str "plain_side" 254) :: ((.str "plain_side" 255) :: ((.str "/claim/cut.py" 256) :: ((.int 29 0) :: ((.int 1 0) :: ((.int 0 0) :: ((.int 0 0) :: ((.int 3 0) :: ((.ref 67) :: ((.bool true) :: ((.int 181 0) :: ((.ref 68) :: (.none :: ((.ref 69) :: ((.ref 70) :: ((.ref 71) :: ((.int 258 0) :: ((.int 29 0) :: ((.str "/claim/cut.py" 259) :: [])))))))))))))))))))) ::
 (nat_lit 73,kf "plain_side" zDv .none .none (.str "seamarks.sides" 229) (.ref 72) .none) ::
 (nat_lit 79,kc ((.str "beyond" 261) :: ((.str "beyond" 262) :: ((.str "/claim/cut.py" 263) :: ((.int 31 0) :: ((.int 2 0) :: ((.int 0 0) :: ((.int 0 0) :: ((.int 3 0) :: ((.ref 74) :: ((.bool true) :: ((.int 181 0) :: ((.ref 75) :: (.none :: ((.ref 76) :: ((.ref 77) :: ((.ref 78) :: ((.int 266 0) :: ((.int 31 0) :: ((.str "/claim/cut.py" 267) :: [])))))))))))))))))))) ::
 (nat_lit 80,kf "beyond" zG0 .none .none (.str "seamarks.sides" 229) (.ref 79) .none) ::
 (nat_lit 86,kc ((.str "holds" 269) :: ((.str "holds" 270) :: ((.str "/claim/cut.py" 271) :: ((.int 33 0) :: ((.int 2 0) :: ((.int 0 0) :: ((.int 0 0) :: ((.int 3 0) :: ((.ref 81) :: ((.bool true) :: ((.int 181 0) :: ((.ref 82) :: (.none :: ((.ref 83) :: ((.ref 84) :: ((.ref 85) :: ((.int 274 0) :: ((.int 33 0) :: ((.str "/claim/cut.py" 275) :: [])))))))))))))))))))) ::
 (nat_lit 87,kf "holds" zH6 .none .none (.str "seamarks.sides" 229) (.ref 86) .none) ::
 (nat_lit 93,kc ((.str "crossing" 277) :: ((.str "crossing" 278) :: ((.str "/claim/cut.py" 279) :: ((.int 35 0) :: ((.int 2 0) :: ((.int 0 0) :: ((.int 0 0) :: ((.int 3 0) :: ((.ref 88) :: ((.bool true) :: ((.int 181 0) :: ((.ref 89) :: (.none :: ((.ref 90) :: ((.ref 91) :: ((.ref 92) :: ((.int 285 0) :: ((.int 35 0) :: ((.str "/claim/cut.py" 286) :: [])))))))))))))))))))) ::
 (nat_lit 94,kf "crossing" zE1 .none .none (.str "seamarks.sides" 229) (.ref 93) .none) ::
 (nat_lit 100,kc ((.str "in_water" 290) :: ((.str "in_water" 291) :: ((.str "/claim/cut.py" 292) :: ((.int 43 0) :: ((.int 2 0) :: ((.int 0 0) :: ((.int 0 0) :: ((.int 3 0) :: ((.ref 95) :: ((.bool true) :: ((.int 181 0) :: ((.ref 96) :: (.none :: ((.ref 97) :: ((.ref 98) :: ((.ref 99) :: ((.int 296 0) :: ((.int 43 0) :: ((.str "/claim/cut.py" 297) :: [])))))))))))))))))))) ::
 (nat_lit 101,kf "in_water" zEu .none .none (.str "seamarks.water" 288) (.ref 100) .none) ::
 (nat_lit 107,kc ((.str "foot" 299) :: ((.str "foot" 300) :: ((.str "/claim/cut.py" 301) :: ((.int 48 0) :: ((.int 1 0) :: ((.int 0 0) :: ((.int 0 0) :: ((.int 3 0) :: ((.ref 102) :: ((.bool true) :: ((.int 181 0) :: ((.ref 103) :: (.none :: ((.ref 104) :: ((.ref 105) :: ((.ref 106) :: ((.int 303 0) :: ((.int 48 0) :: ((.str "/claim/cut.py" 304) :: [])))))))))))))))))))) ::
 (nat_lit 108,kf "foot" zJm .none .none (.str "seamarks.water" 288) (.ref 107) .none) ::
 (nat_lit 114,kc ((.str "edge_end" 306) :: ((.str "edge_end" 307) :: ((.str "/claim/cut.py" 308) :: ((.int 50 0) :: ((.int 3 0) :: ((.int 0 0) :: ((.int 0 0) :: ((.int 3 0) :: ((.ref 109) :: ((.bool true) :: ((.int 181 0) :: ((.ref 110) :: (.none :: ((.ref 111) :: ((.ref 112) :: ((.ref 113) :: ((.int 316 0) :: ((.int 50 0) :: ((.str "/claim/cut.py" 317) :: [])))))))))))))))))))) ::
 (nat_lit 115,kf "edge_end" zEz .none .none (.str "seamarks.water" 288) (.ref 114) .none) ::
 (nat_lit 119,kc ((.str "edge_ends" 319) :: ((.str "edge_ends" 320) :: ((.str "/claim/cut.py" 321) :: ((.int 59 0) :: ((.int 2 0) :: ((.int 0 0) :: ((.int 0 0) :: ((.int 3 0) :: ((.ref 116) :: ((.bool true) :: ((.int 181 0) :: ((.ref 117) :: (.none :: (.none :: (.none :: ((.ref 118) :: ((.int 322 0) :: ((.int 59 0) :: ((.str "/claim/cut.py" 323) :: [])))))))))))))))))))) ::
 (nat_lit 120,kf "edge_ends" zD0 .none .none (.str "seamarks.water" 288) (.ref 119) .none) ::
 (nat_lit 126,kc ((.str "spot_on_edge" 325) :: ((.str "spot_on_edge" 326) :: ((.str "/claim/cut.py" 327) :: ((.int 62 0) :: ((.int 2 0) :: ((.int 0 0) :: ((.int 0 0) :: ((.int 3 0) :: ((.ref 121) :: ((.bool true) :: ((.int 181 0) :: ((.ref 122) :: (.none :: ((.ref 123) :: ((.ref 124) :: ((.ref 125) :: ((.int 331 0) :: ((.int 62 0) :: ((.str "/claim/cut.py" 332) :: [])))))))))))))))))))) ::
 (nat_lit 127,kf "spot_on_edge" zC9 .none .none (.str "seamarks.water" 288) (.ref 126) .none) ::
 (nat_lit 133,kc ((.str "sought" 334) :: ((.str "sought" 335) :: ((.str "/claim/cut.py" 336) :: ((.int 67 0) :: ((.int 1 0) :: ((.int 0 0) :: ((.int 0 0) :: ((.int 3 0) :: ((.ref 128) :: ((.bool true) :: ((.int 181 0) :: ((.ref 129) :: (.none :: ((.ref 130) :: ((.ref 131) :: ((.ref 132) :: ((.int 340 0) :: ((.int 67 0) :: ((.str "/claim/cut.py" 341) :: [])))))))))))))))))))) ::
 (nat_lit 134,kf "sought" zG6 .none .none (.str "seamarks.water" 288) (.ref 133) .none) ::
 (nat_lit 140,kc ((.str "some_spot" 343) :: ((.str "some_spot" 344) :: ((.str "/claim/cut.py" 345) :: ((.int 75 0) :: ((.int 1 0) :: ((.int 0 0) :: ((.int 0 0) :: ((.int 3 0) :: ((.ref 135) :: ((.bool true) :: ((.int 181 0) :: ((.ref 136) :: (.none :: ((.ref 137) :: ((.ref 138) :: ((.ref 139) :: ((.int 347 0) :: ((.int 75 0) :: ((.str "/claim/cut.py" 348) :: [])))))))))))))))))))) ::
 (nat_lit 141,kf "some_spot" zD1 .none .none (.str "seamarks.water" 288) (.ref 140) .none) ::
 (nat_lit 147,kc ((.str "is_way" 350) :: ((.str "is_way" 351) :: ((.str "/claim/cut.py" 352) :: ((.int 77 0) :: ((.int 2 0) :: ((.int 0 0) :: ((.int 0 0) :: ((.int 3 0) :: ((.ref 142) :: ((.bool true) :: ((.int 181 0) :: ((.ref 143) :: (.none :: ((.ref 144) :: ((.ref 145) :: ((.ref 146) :: ((.int 356 0) :: ((.int 77 0) :: ((.str "/claim/cut.py" 357) :: [])))))))))))))))))))) ::
 (nat_lit 148,kf "is_way" zGx .none .none (.str "seamarks.water" 288) (.ref 147) .none) ::
 (nat_lit 154,kc ((.str "ways" 359) :: ((.str "ways" 360) :: ((.str "/claim/cut.py" 361) :: ((.int 82 0) :: ((.int 1 0) :: ((.int 0 0) :: ((.int 0 0) :: ((.int 3 0) :: ((.ref 149) :: ((.bool true) :: ((.int 181 0) :: ((.ref 150) :: (.none :: ((.ref 151) :: ((.ref 152) :: ((.ref 153) :: ((.int 366 0) :: ((.int 82 0) :: ((.str "/claim/cut.py" 367) :: [])))))))))))))))))))) ::
 (nat_lit 155,kf "ways" zJr .none .none (.str "seamarks.water" 288) (.ref 154) .none) ::
 (nat_lit 161,kc ((.str "span" 371) :: ((.str "span" 372) :: ((.str "/claim/cut.py" 373) :: ((.int 90 0) :: ((.int 1 0) :: ((.int 0 0) :: ((.int 0 0) :: ((.int 3 0) :: ((.ref 156) :: ((.bool true) :: ((.int 181 0) :: ((.ref 157) :: (.none :: ((.ref 158) :: ((.ref 159) :: ((.ref 160) :: ((.int 375 0) :: ((.int 90 0) :: ((.str "/claim/cut.py" 376) :: [])))))))))))))))))))) ::
 (nat_lit 162,kf "span" zJv .none .none (.str "seamarks.reach" 369) (.ref 161) .none) ::
 (nat_lit 166,kc ((.str "weighed" 378) :: ((.str "weighed" 379) :: ((.str "/claim/cut.py" 380) :: ((.int 92 0) :: ((.int 2 0) :: ((.int 0 0) :: ((.int 0 0) :: ((.int 3 0) :: ((.ref 163) :: ((.bool true) :: ((.int 181 0) :: ((.ref 164) :: (.none :: (.none :: (.none :: ((.ref 165) :: ((.int 381 0) :: ((.int 92 0) :: ((.str "/claim/cut.py" 382) :: [])))))))))))))))))))) ::
 (nat_lit 167,kf "weighed" zFr .none .none (.str "seamarks.reach" 369) (.ref 166) .none) ::
 (nat_lit 173,kc ((.str "clash_of_three" 384) :: ((.str "clash_of_three" 385) :: ((.str "/claim/cut.py" 386) :: ((.int 95 0) :: ((.int 2 0) :: ((.int 0 0) :: ((.int 0 0) :: ((.int 3 0) :: ((.ref 168) :: ((.bool true) :: ((.int 181 0) :: ((.ref 169) :: (.none :: ((.ref 170) :: ((.ref 171) :: ((.ref 172) :: ((.int 394 0) :: ((.int 95 0) :: ((.str "/claim/cut.py" 395) :: [])))))))))))))))))))) ::
 (nat_lit 174,kf "clash_of_three" zCp .none .none (.str "seamarks.reach" 369) (.ref 173) .none) ::
 (nat_lit 180,kc ((.str "clash" 397) :: ((.str "clash" 398) :: ((.str "/claim/cut.py" 399) :: ((.int 102 0) :: ((.int 1 0) :: ((.int 0 0) :: ((.int 0 0) :: ((.int 3 0) :: ((.ref 175) :: ((.bool true) :: ((.int 181 0) :: ((.ref 176) :: (.none :: ((.ref 177) :: ((.ref 178) :: ((.ref 179) :: ((.int 405 0) :: ((.int 102 0) :: ((.str "/claim/cut.py" 406) :: [])))))))))))))))))))) ::
 (nat_lit 181,kf "clash" zH9 .none .none (.str "seamarks.reach" 369) (.ref 180) .none) ::
 (nat_lit 187,kc ((.str "way_onward" 408) :: ((.str "way_onward" 409) :: ((.str "/claim/cut.py" 410) :: ((.int 112 0) :: ((.int 2 0) :: ((.int 0 0) :: ((.int 0 0) :: ((.int 3 0) :: ((.ref 182) :: ((.bool true) :: ((.int 181 0) :: ((.ref 183) :: (.none :: ((.ref 184) :: ((.ref 185) :: ((.ref 186) :: ((.int 414 0) :: ((.int 112 0) :: ((.str "/claim/cut.py" 415) :: [])))))))))))))))))))) ::
 (nat_lit 188,kf "way_onward" zDq .none .none (.str "seamarks.reach" 369) (.ref 187) .none) ::
 (nat_lit 194,kc ((.str "far_by_one" 417) :: ((.str "far_by_one" 418) :: ((.str "/claim/cut.py" 419) :: ((.int 117 0) :: ((.int 2 0) :: ((.int 0 0) :: ((.int 0 0) :: ((.int 3 0) :: ((.ref 189) :: ((.bool true) :: ((.int 181 0) :: ((.ref 190) :: (.none :: ((.ref 191) :: ((.ref 192) :: ((.ref 193) :: ((.int 425 0) :: ((.int 117 0) :: ((.str "/claim/cut.py" 426) :: [])))))))))))))))))))) ::
 (nat_lit 195,kf "far_by_one" zDu .none .none (.str "seamarks.reach" 369) (.ref 194) .none) ::
 (nat_lit 201,kc ((.str "weights_of_two" 428) :: ((.str "weights_of_two" 429) :: ((.str "/claim/cut.py" 430) :: ((.int 125 0) :: ((.int 3 0) :: ((.int 0 0) :: ((.int 0 0) :: ((.int 3 0) :: ((.ref 196) :: ((.bool true) :: ((.int 181 0) :: ((.ref 197) :: (.none :: ((.ref 198) :: ((.ref 199) :: ((.ref 200) :: ((.int 438 0) :: ((.int 125 0) :: ((.str "/claim/cut.py" 439) :: [])))))))))))))))))))) ::
 (nat_lit 202,kf "weights_of_two" zCs .none .none (.str "seamarks.reach" 369) (.ref 201) .none) ::
 (nat_lit 208,kc ((.str "far_by_two" 441) :: ((.str "far_by_two" 442) :: ((.str "/claim/cut.py" 443) :: ((.int 131 0) :: ((.int 2 0) :: ((.int 0 0) :: ((.int 0 0) :: ((.int 3 0) :: ((.ref 203) :: ((.bool true) :: ((.int 181 0) :: ((.ref 204) :: (.none :: ((.ref 205) :: ((.ref 206) :: ((.ref 207) :: ((.int 450 0) :: ((.int 131 0) :: ((.str "/claim/cut.py" 451) :: [])))))))))))))))))))) ::
 (nat_lit 209,kf "far_by_two" zDr .none .none (.str "seamarks.reach" 369) (.ref 208) .none) ::
 (nat_lit 215,kc ((.str "reach" 453) :: ((.str "reach" 454) :: ((.str "/claim/cut.py" 455) :: ((.int 140 0) :: ((.int 2 0) :: ((.int 0 0) :: ((.int 0 0) :: ((.int 3 0) :: ((.ref 210) :: ((.bool true) :: ((.int 181 0) :: ((.ref 211) :: (.none :: ((.ref 212) :: ((.ref 213) :: ((.ref 214) :: ((.int 460 0) :: ((.int 140 0) :: ((.str "/claim/cut.py" 461) :: [])))))))))))))))))))) ::
 (nat_lit 216,kf "reach" zHv .none .none (.str "seamarks.reach" 369) (.ref 215) .none) ::
 (nat_lit 222,kc ((.str "stretch_way" 465) :: ((.str "stretch_way" 466) :: ((.str "/claim/cut.py" 467) :: ((.int 149 0) :: ((.int 2 0) :: ((.int 0 0) :: ((.int 0 0) :: ((.int 3 0) :: ((.ref 217) :: ((.bool true) :: ((.int 181 0) :: ((.ref 218) :: (.none :: ((.ref 219) :: ((.ref 220) :: ((.ref 221) :: ((.int 470 0) :: ((.int 149 0) :: ((.str "/claim/cut.py" 471) :: [])))))))))))))))))))) ::
 (nat_lit 223,kf "stretch_way" zDh .none .none (.str "seamarks.banks" 463) (.ref 222) .none) ::
 (nat_lit 229,kc ((.str "stretch_side" 473) :: ((.str "stretch_side" 474) :: ((.str "/claim/cut.py" 475) :: ((.int 151 0) :: ((.int 2 0) :: ((.int 0 0) :: ((.int 0 0) :: ((.int 3 0) :: ((.ref 224) :: ((.bool true) :: ((.int 181 0) :: ((.ref 225) :: (.none :: ((.ref 226) :: ((.ref 227) :: ((.ref 228) :: ((.int 479 0) :: ((.int 151 0) :: ((.str "/claim/cut.py" 480) :: [])))))))))))))))))))) ::
 (nat_lit 230,kf "stretch_side" zC8 .none .none (.str "seamarks.banks" 463) (.ref 229) .none) ::
 (nat_lit 234,kc ((.str "bank_sides" 482) :: ((.str "bank_sides" 483) :: ((.str "/claim/cut.py" 484) :: ((.int 154 0) :: ((.int 1 0) :: ((.int 0 0) :: ((.int 0 0) :: ((.int 3 0) :: ((.ref 231) :: ((.bool true) :: ((.int 181 0) :: ((.ref 232) :: (.none :: (.none :: (.none :: ((.ref 233) :: ((.int 485 0) :: ((.int 154 0) :: ((.str "/claim/cut.py" 486) :: [])))))))))))))))))))) ::
 (nat_lit 235,kf "bank_sides" zDt .none .none (.str "seamarks.banks" 463) (.ref 234) .none) ::
 (nat_lit 239,kc ((.str "word_of_cannot" 488) :: ((.str "word_of_cannot" 489) :: ((.str "/claim/cut.py" 490) :: ((.int 157 0) :: ((.int 2 0) :: ((.int 0 0) :: ((.int 0 0) :: ((.int 3 0) :: ((.ref 236) :: ((.bool true) :: ((.int 181 0) :: ((.ref 237) :: (.none :: (.none :: (.none :: ((.ref 238) :: ((.int 491 0) :: ((.int 157 0) :: ((.str "/claim/cut.py" 492) :: [])))))))))))))))))))) ::
 (nat_lit 240,kf "word_of_cannot" zCq .none .none (.str "seamarks.banks" 463) (.ref 239) .none) ::
 (nat_lit 246,kc ((.str "gone_beyond" 494) :: ((.str "gone_beyond" 495) :: ((.str "/claim/cut.py" 496) :: ((.int 162 0) :: ((.int 3 0) :: ((.int 0 0) :: ((.int 0 0) :: ((.int 3 0) :: ((.ref 241) :: ((.bool true) :: ((.int 181 0) :: ((.ref 242) :: (.none :: ((.ref 243) :: ((.ref 244) :: ((.ref 245) :: ((.int 502 0) :: ((.int 162 0) :: ((.str "/claim/cut.py" 503) :: [])))))))))))))))))))) ::
 (nat_lit 247,kf "gone_beyond" zDg .none .none (.str "seamarks.banks" 463) (.ref 246) .none) ::
 (nat_lit 253,kc ((.str "beyond_or_weights" 505) :: ((.str "beyond_or_weights" 506) :: ((.str "/claim/cut.py" 507) :: ((.int 166 0) :: ((.int 2 0) :: ((.int 0 0) :: ((.int 0 0) :: ((.int 3 0) :: ((.ref 248) :: ((.bool true) :: ((.int 181 0) :: ((.ref 249) :: (.none :: ((.ref 250) :: ((.ref 251) :: ((.ref 252) :: ((.int 511 0) :: ((.int 166 0) :: ((.str "/claim/cut.py" 512) :: [])))))))))))))))))))) ::
 (nat_lit 254,kf "beyond_or_weights" zB0 .none .none (.str "seamarks.banks" 463) (.ref 253) .none) ::
 (nat_lit 260,kc ((.str "bank_word" 514) :: ((.str "bank_word" 515) :: ((.str "/claim/cut.py" 516) :: ((.int 173 0) :: ((.int 2 0) :: ((.int 0 0) :: ((.int 0 0) :: ((.int 3 0) :: ((.ref 255) :: ((.bool true) :: ((.int 181 0) :: ((.ref 256) :: (.none :: ((.ref 257) :: ((.ref 258) :: ((.ref 259) :: ((.int 525 0) :: ((.int 173 0) :: ((.str "/claim/cut.py" 526) :: [])))))))))))))))))))) ::
 (nat_lit 261,kf "bank_word" zEc .none .none (.str "seamarks.banks" 463) (.ref 260) .none) ::
 (nat_lit 267,kc ((.str "_law_low" 530) :: ((.str "_law_low" 531) :: ((.str "/claim/cut.py" 532) :: ((.int 189 0) :: ((.int 2 0) :: ((.int 0 0) :: ((.int 0 0) :: ((.int 3 0) :: ((.ref 262) :: ((.bool true) :: ((.int 181 0) :: ((.ref 263) :: (.none :: ((.ref 264) :: ((.ref 265) :: ((.ref 266) :: ((.int 535 0) :: ((.int 189 0) :: ((.str "/claim/cut.py" 536) :: [])))))))))))))))))))) ::
 (nat_lit 268,kf "_law_low" zL1 .none .none (.str "law_seamarks_k25_words_of_banks" 528) (.ref 267) .none) ::
 (nat_lit 272,kc ((.str "_law_low_weights" 538) :: ((.str "_law_low_weights" 539) :: ((.str "/claim/cut.py" 540) :: ((.int 195 0) :: ((.int 1 0) :: ((.int 0 0) :: ((.int 0 0) :: ((.int 3 0) :: ((.ref 269) :: ((.bool true) :: ((.int 181 0) :: ((.ref 270) :: (.none :: (.none :: (.none :: ((.ref 271) :: ((.int 541 0) :: ((.int 195 0) :: ((.str "/claim/cut.py" 542) :: [])))))))))))))))))))) ::
 (nat_lit 273,kf "_law_low_weights" zDi .none .none (.str "law_seamarks_k25_words_of_banks" 528) (.ref 272) .none) ::
 (nat_lit 279,kc ((.str "_law_power" 544) :: ((.str "_law_power" 545) :: ((.str "/claim/cut.py" 546) :: ((.int 197 0) :: ((.int 1 0) :: ((.int 0 0) :: ((.int 0 0) :: ((.int 3 0) :: ((.ref 274) :: ((.bool true) :: ((.int 181 0) :: ((.ref 275) :: (.none :: ((.ref 276) :: ((.ref 277) :: ((.ref 278) :: ((.int 548 0) :: ((.int 197 0) :: ((.str "/claim/cut.py" 549) :: [])))))))))))))))))))) ::
 (nat_lit 280,kf "_law_power" zIa .none .none (.str "law_seamarks_k25_words_of_banks" 528) (.ref 279) .none) ::
 (nat_lit 286,kc ((.str "_law_draws" 551) :: ((.str "_law_draws" 552) :: ((.str "/claim/cut.py" 553) :: ((.int 199 0) :: ((.int 2 0) :: ((.int 0 0) :: ((.int 0 0) :: ((.int 3 0) :: ((.ref 281) :: ((.bool true) :: ((.int 181 0) :: ((.ref 282) :: (.none :: ((.ref 283) :: ((.ref 284) :: ((.ref 285) :: ((.int 560 0) :: ((.int 199 0) :: ((.str "/claim/cut.py" 561) :: [])))))))))))))))))))) ::
 (nat_lit 287,kf "_law_draws" zHs .none .none (.str "law_seamarks_k25_words_of_banks" 528) (.ref 286) .none) ::
 (nat_lit 293,kc ((.str "_law_many" 563) :: ((.str "_law_many" 564) :: ((.str "/claim/cut.py" 565) :: ((.int 215 0) :: ((.int 4 0) :: ((.int 0 0) :: ((.int 0 0) :: ((.int 3 0) :: ((.ref 288) :: ((.bool true) :: ((.int 181 0) :: ((.ref 289) :: (.none :: ((.ref 290) :: ((.ref 291) :: ((.ref 292) :: ((.int 570 0) :: ((.int 215 0) :: ((.str "/claim/cut.py" 571) :: [])))))))))))))))))))) ::
 (nat_lit 294,kf "_law_many" zJh .none .none (.str "law_seamarks_k25_words_of_banks" 528) (.ref 293) .none) ::
 (nat_lit 298,kc ((.str "_law_tight" 573) :: ((.str "_law_tight" 574) :: ((.str "/claim/cut.py" 575) :: ((.int 219 0) :: ((.int 2 0) :: ((.int 0 0) :: ((.int 0 0) :: ((.int 3 0) :: ((.ref 295) :: ((.bool true) :: ((.int 181 0) :: ((.ref 296) :: (.none :: (.none :: (.none :: ((.ref 297) :: ((.int 576 0) :: ((.int 219 0) :: ((.str "/claim/cut.py" 577) :: [])))))))))))))))))))) ::
 (nat_lit 299,kf "_law_tight" zH2 .none .none (.str "law_seamarks_k25_words_of_banks" 528) (.ref 298) .none) ::
 (nat_lit 305,kc ((.str "_law_way" 579) :: ((.str "_law_way" 580) :: ((.str "/claim/cut.py" 581) :: ((.int 225 0) :: ((.int 3 0) :: ((.int 0 0) :: ((.int 0 0) :: ((.int 3 0) :: ((.ref 300) :: ((.bool true) :: ((.int 181 0) :: ((.ref 301) :: (.none :: ((.ref 302) :: ((.ref 303) :: ((.ref 304) :: ((.int 587 0) :: ((.int 225 0) :: ((.str "/claim/cut.py" 588) :: [])))))))))))))))))))) ::
 (nat_lit 306,kf "_law_way" zL4 .none .none (.str "law_seamarks_k25_words_of_banks" 528) (.ref 305) .none) ::
 (nat_lit 312,kc ((.str "_law_side" 590) :: ((.str "_law_side" 591) :: ((.str "/claim/cut.py" 592) :: ((.int 231 0) :: ((.int 1 0) :: ((.int 0 0) :: ((.int 0 0) :: ((.int 3 0) :: ((.ref 307) :: ((.bool true) :: ((.int 181 0) :: ((.ref 308) :: (.none :: ((.ref 309) :: ((.ref 310) :: ((.ref 311) :: ((.int 597 0) :: ((.int 231 0) :: ((.str "/claim/cut.py" 598) :: [])))))))))))))))))))) ::
 (nat_lit 313,kf "_law_side" zJk .none .none (.str "law_seamarks_k25_words_of_banks" 528) (.ref 312) .none) ::
 (nat_lit 317,kc ((.str "_law_sides" 600) :: ((.str "_law_sides" 601) :: ((.str "/claim/cut.py" 602) :: ((.int 241 0) :: ((.int 2 0) :: ((.int 0 0) :: ((.int 0 0) :: ((.int 3 0) :: ((.ref 314) :: ((.bool true) :: ((.int 181 0) :: ((.ref 315) :: (.none :: (.none :: (.none :: ((.ref 316) :: ((.int 603 0) :: ((.int 241 0) :: ((.str "/claim/cut.py" 604) :: [])))))))))))))))))))) ::
 (nat_lit 318,kf "_law_sides" zHr .none .none (.str "law_seamarks_k25_words_of_banks" 528) (.ref 317) .none) ::
 (nat_lit 324,kc ((.str "_law_turned" 606) :: ((.str "_law_turned" 607) :: ((.str "/claim/cut.py" 608) :: ((.int 251 0) :: ((.int 2 0) :: ((.int 0 0) :: ((.int 0 0) :: ((.int 3 0) :: ((.ref 319) :: ((.bool true) :: ((.int 181 0) :: ((.ref 320) :: (.none :: ((.ref 321) :: ((.ref 322) :: ((.ref 323) :: ((.int 611 0) :: ((.int 251 0) :: ((.str "/claim/cut.py" 612) :: [])))))))))))))))))))) ::
 (nat_lit 325,kf "_law_turned" zG5 .none .none (.str "law_seamarks_k25_words_of_banks" 528) (.ref 324) .none) ::
 (nat_lit 331,kc ((.str "_law_left_pair" 614) :: ((.str "_law_left_pair" 615) :: ((.str "/claim/cut.py" 616) :: ((.int 253 0) :: ((.int 2 0) :: ((.int 0 0) :: ((.int 0 0) :: ((.int 3 0) :: ((.ref 326) :: ((.bool true) :: ((.int 181 0) :: ((.ref 327) :: (.none :: ((.ref 328) :: ((.ref 329) :: ((.ref 330) :: ((.int 621 0) :: ((.int 253 0) :: ((.str "/claim/cut.py" 622) :: [])))))))))))))))))))) ::
 (nat_lit 332,kf "_law_left_pair" zD7 .none .none (.str "law_seamarks_k25_words_of_banks" 528) (.ref 331) .none) ::
 (nat_lit 338,kc ((.str "_law_bank" 624) :: ((.str "_law_bank" 625) :: ((.str "/claim/cut.py" 626) :: ((.int 263 0) :: ((.int 2 0) :: ((.int 0 0) :: ((.int 0 0) :: ((.int 3 0) :: ((.ref 333) :: ((.bool true) :: ((.int 181 0) :: ((.ref 334) :: (.none :: ((.ref 335) :: ((.ref 336) :: ((.ref 337) :: ((.int 643 0) :: ((.int 263 0) :: ((.str "/claim/cut.py" 644) :: [])))))))))))))))))))) ::
 (nat_lit 339,kf "_law_bank" zJp .none .none (.str "law_seamarks_k25_words_of_banks" 528) (.ref 338) .none) ::
 (nat_lit 345,kc ((.str "_law_bank_rows" 646) :: ((.str "_law_bank_rows" 647) :: ((.str "/claim/cut.py" 648) :: ((.int 279 0) :: ((.int 1 0) :: ((.int 0 0) :: ((.int 0 0) :: ((.int 3 0) :: ((.ref 340) :: ((.bool true) :: ((.int 181 0) :: ((.ref 341) :: (.none :: ((.ref 342) :: ((.ref 343) :: ((.ref 344) :: ((.int 657 0) :: ((.int 279 0) :: ((.str "/claim/cut.py" 658) :: [])))))))))))))))))))) ::
 (nat_lit 346,kf "_law_bank_rows" zD2 .none .none (.str "law_seamarks_k25_words_of_banks" 528) (.ref 345) .none) ::
 (nat_lit 350,kc ((.str "_law_banked" 660) :: ((.str "_law_banked" 661) :: ((.str "/claim/cut.py" 662) :: ((.int 287 0) :: ((.int 1 0) :: ((.int 0 0) :: ((.int 0 0) :: ((.int 3 0) :: ((.ref 347) :: ((.bool true) :: ((.int 181 0) :: ((.ref 348) :: (.none :: (.none :: (.none :: ((.ref 349) :: ((.int 663 0) :: ((.int 287 0) :: ((.str "/claim/cut.py" 664) :: [])))))))))))))))))))) ::
 (nat_lit 351,kf "_law_banked" zGz .none .none (.str "law_seamarks_k25_words_of_banks" 528) (.ref 350) .none) ::
 (nat_lit 357,kc ((.str "_law_whole" 666) :: ((.str "_law_whole" 667) :: ((.str "/claim/cut.py" 668) :: ((.int 300 0) :: ((.int 1 0) :: ((.int 0 0) :: ((.int 0 0) :: ((.int 3 0) :: ((.ref 352) :: ((.bool true) :: ((.int 181 0) :: ((.ref 353) :: (.none :: ((.ref 354) :: ((.ref 355) :: ((.ref 356) :: ((.int 670 0) :: ((.int 300 0) :: ((.str "/claim/cut.py" 671) :: [])))))))))))))))))))) ::
 (nat_lit 358,kf "_law_whole" zIc .none .none (.str "law_seamarks_k25_words_of_banks" 528) (.ref 357) .none) ::
 (nat_lit 362,kc ((.str "_law_numbers" 673) :: ((.str "_law_numbers" 674) :: ((.str "/claim/cut.py" 675) :: ((.int 302 0) :: ((.int 2 0) :: ((.int 0 0) :: ((.int 0 0) :: ((.int 3 0) :: ((.ref 359) :: ((.bool true) :: ((.int 181 0) :: ((.ref 360) :: (.none :: (.none :: (.none :: ((.ref 361) :: ((.int 676 0) :: ((.int 302 0) :: ((.str "/claim/cut.py" 677) :: [])))))))))))))))))))) ::
 (nat_lit 363,kf "_law_numbers" zFt .none .none (.str "law_seamarks_k25_words_of_banks" 528) (.ref 362) .none) ::
 (nat_lit 369,kc ((.str "_law_is_spot" 679) :: ((.str "_law_is_spot" 680) :: ((.str "/claim/cut.py" 681) :: ((.int 304 0) :: ((.int 1 0) :: ((.int 0 0) :: ((.int 0 0) :: ((.int 3 0) :: ((.ref 364) :: ((.bool true) :: ((.int 181 0) :: ((.ref 365) :: (.none :: ((.ref 366) :: ((.ref 367) :: ((.ref 368) :: ((.int 683 0) :: ((.int 304 0) :: ((.str "/claim/cut.py" 684) :: [])))))))))))))))))))) ::
 (nat_lit 370,kf "_law_is_spot" zFo .none .none (.str "law_seamarks_k25_words_of_banks" 528) (.ref 369) .none) ::
 (nat_lit 376,kc ((.str "_law_word_kind" 686) :: ((.str "_law_word_kind" 687) :: ((.str "/claim/cut.py" 688) :: ((.int 308 0) :: ((.int 1 0) :: ((.int 0 0) :: ((.int 0 0) :: ((.int 3 0) :: ((.ref 371) :: ((.bool true) :: ((.int 181 0) :: ((.ref 372) :: (.none :: ((.ref 373) :: ((.ref 374) :: ((.ref 375) :: ((.int 690 0) :: ((.int 308 0) :: ((.str "/claim/cut.py" 691) :: [])))))))))))))))))))) ::
 (nat_lit 377,kf "_law_word_kind" zD8 .none .none (.str "law_seamarks_k25_words_of_banks" 528) (.ref 376) .none) ::
 (nat_lit 383,kc ((.str "_law_is_clash" 693) :: ((.str "_law_is_clash" 694) :: ((.str "/claim/cut.py" 695) :: ((.int 318 0) :: ((.int 2 0) :: ((.int 0 0) :: ((.int 0 0) :: ((.int 3 0) :: ((.ref 378) :: ((.bool true) :: ((.int 181 0) :: ((.ref 379) :: (.none :: ((.ref 380) :: ((.ref 381) :: ((.ref 382) :: ((.int 704 0) :: ((.int 318 0) :: ((.str "/claim/cut.py" 705) :: [])))))))))))))))))))) ::
 (nat_lit 384,kf "_law_is_clash" zEx .none .none (.str "law_seamarks_k25_words_of_banks" 528) (.ref 383) .none) ::
 (nat_lit 390,kc ((.str "_law_summed" 707) :: ((.str "_law_summed" 708) :: ((.str "/claim/cut.py" 709) :: ((.int 330 0) :: ((.int 3 0) :: ((.int 0 0) :: ((.int 0 0) :: ((.int 3 0) :: ((.ref 385) :: ((.bool true) :: ((.int 181 0) :: ((.ref 386) :: (.none :: ((.ref 387) :: ((.ref 388) :: ((.ref 389) :: ((.int 713 0) :: ((.int 330 0) :: ((.str "/claim/cut.py" 714) :: [])))))))))))))))))))) ::
 (nat_lit 391,kf "_law_summed" zG2 .none .none (.str "law_seamarks_k25_words_of_banks" 528) (.ref 390) .none) ::
 (nat_lit 395,kc ((.str "_law_bound" 716) :: ((.str "_law_bound" 717) :: ((.str "/claim/cut.py" 718) :: ((.int 332 0) :: ((.int 3 0) :: ((.int 0 0) :: ((.int 0 0) :: ((.int 3 0) :: ((.ref 392) :: ((.bool true) :: ((.int 181 0) :: ((.ref 393) :: (.none :: (.none :: (.none :: ((.ref 394) :: ((.int 719 0) :: ((.int 332 0) :: ((.str "/claim/cut.py" 720) :: [])))))))))))))))))))) ::
 (nat_lit 396,kf "_law_bound" zHt .none .none (.str "law_seamarks_k25_words_of_banks" 528) (.ref 395) .none) ::
 (nat_lit 400,kc ((.str "_law_has" 722) :: ((.str "_law_has" 723) :: ((.str "/claim/cut.py" 724) :: ((.int 349 0) :: ((.int 2 0) :: ((.int 0 0) :: ((.int 0 0) :: ((.int 3 0) :: ((.ref 397) :: ((.bool true) :: ((.int 181 0) :: ((.ref 398) :: (.none :: (.none :: (.none :: ((.ref 399) :: ((.int 725 0) :: ((.int 349 0) :: ((.str "/claim/cut.py" 726) :: [])))))))))))))))))))) ::
 (nat_lit 401,kf "_law_has" zMi .none .none (.str "law_seamarks_k25_words_of_banks" 528) (.ref 400) .none) ::
 (nat_lit 405,kc ((.str "_law_good_word" 728) :: ((.str "_law_good_word" 729) :: ((.str "/claim/cut.py" 730) :: ((.int 352 0) :: ((.int 3 0) :: ((.int 0 0) :: ((.int 0 0) :: ((.int 3 0) :: ((.ref 402) :: ((.bool true) :: ((.int 181 0) :: ((.ref 403) :: (.none :: (.none :: (.none :: ((.ref 404) :: ((.int 731 0) :: ((.int 352 0) :: ((.str "/claim/cut.py" 732) :: [])))))))))))))))))))) ::
 (nat_lit 406,kf "_law_good_word" zEd .none .none (.str "law_seamarks_k25_words_of_banks" 528) (.ref 405) .none) ::
 (nat_lit 412,kc ((.str "_law_spot_of" 734) :: ((.str "_law_spot_of" 735) :: ((.str "/claim/cut.py" 736) :: ((.int 376 0) :: ((.int 3 0) :: ((.int 0 0) :: ((.int 0 0) :: ((.int 3 0) :: ((.ref 407) :: ((.bool true) :: ((.int 181 0) :: ((.ref 408) :: (.none :: ((.ref 409) :: ((.ref 410) :: ((.ref 411) :: ((.int 741 0) :: ((.int 376 0) :: ((.str "/claim/cut.py" 742) :: [])))))))))))))))))))) ::
 (nat_lit 413,kf "_law_spot_of" zFq .none .none (.str "law_seamarks_k25_words_of_banks" 528) (.ref 412) .none) ::
 (nat_lit 419,kc ((.str "_law_meet" 744) :: ((.str "_law_meet" 745) :: ((.str "/claim/cut.py" 746) :: ((.int 381 0) :: ((.int 2 0) :: ((.int 0 0) :: ((.int 0 0) :: ((.int 3 0) :: ((.ref 414) :: ((.bool true) :: ((.int 181 0) :: ((.ref 415) :: (.none :: ((.ref 416) :: ((.ref 417) :: ((.ref 418) :: ((.int 750 0) :: ((.int 381 0) :: ((.str "/claim/cut.py" 751) :: [])))))))))))))))))))) ::
 (nat_lit 420,kf "_law_meet" zJg .none .none (.str "law_seamarks_k25_words_of_banks" 528) (.ref 419) .none) ::
 (nat_lit 426,kc ((.str "_law_corners_of" 753) :: ((.str "_law_corners_of" 754) :: ((.str "/claim/cut.py" 755) :: ((.int 386 0) :: ((.int 1 0) :: ((.int 0 0) :: ((.int 0 0) :: ((.int 3 0) :: ((.ref 421) :: ((.bool true) :: ((.int 181 0) :: ((.ref 422) :: (.none :: ((.ref 423) :: ((.ref 424) :: ((.ref 425) :: ((.int 762 0) :: ((.int 386 0) :: ((.str "/claim/cut.py" 763) :: [])))))))))))))))))))) ::
 (nat_lit 427,kf "_law_corners_of" zDs .none .none (.str "law_seamarks_k25_words_of_banks" 528) (.ref 426) .none) ::
 (nat_lit 431,kc ((.str "_law_feet" 765) :: ((.str "_law_feet" 766) :: ((.str "/claim/cut.py" 767) :: ((.int 394 0) :: ((.int 1 0) :: ((.int 0 0) :: ((.int 0 0) :: ((.int 3 0) :: ((.ref 428) :: ((.bool true) :: ((.int 181 0) :: ((.ref 429) :: (.none :: (.none :: (.none :: ((.ref 430) :: ((.int 768 0) :: ((.int 394 0) :: ((.str "/claim/cut.py" 769) :: [])))))))))))))))))))) ::
 (nat_lit 432,kf "_law_feet" zJi .none .none (.str "law_seamarks_k25_words_of_banks" 528) (.ref 431) .none) ::
 (nat_lit 438,kc ((.str "_law_any_place" 771) :: ((.str "_law_any_place" 772) :: ((.str "/claim/cut.py" 773) :: ((.int 396 0) :: ((.int 1 0) :: ((.int 0 0) :: ((.int 0 0) :: ((.int 3 0) :: ((.ref 433) :: ((.bool true) :: ((.int 181 0) :: ((.ref 434) :: (.none :: ((.ref 435) :: ((.ref 436) :: ((.ref 437) :: ((.int 776 0) :: ((.int 396 0) :: ((.str "/claim/cut.py" 777) :: [])))))))))))))))))))) ::
 (nat_lit 439,kf "_law_any_place" zDz .none .none (.str "law_seamarks_k25_words_of_banks" 528) (.ref 438) .none) ::
 (nat_lit 443,kc ((.str "_law_all_low" 779) :: ((.str "_law_all_low" 780) :: ((.str "/claim/cut.py" 781) :: ((.int 401 0) :: ((.int 1 0) :: ((.int 0 0) :: ((.int 0 0) :: ((.int 3 0) :: ((.ref 440) :: ((.bool true) :: ((.int 181 0) :: ((.ref 441) :: (.none :: (.none :: (.none :: ((.ref 442) :: ((.int 782 0) :: ((.int 401 0) :: ((.str "/claim/cut.py" 783) :: [])))))))))))))))))))) ::
 (nat_lit 444,kf "_law_all_low" zFk .none .none (.str "law_seamarks_k25_words_of_banks" 528) (.ref 443) .none) ::
 (nat_lit 450,kc ((.str "law" 785) :: ((.str "law" 786) :: ((.str "/claim/cut.py" 787) :: ((.int 407 0) :: ((.int 1 0) :: ((.int 0 0) :: ((.int 0 0) :: ((.int 3 0) :: ((.ref 445) :: ((.bool true) :: ((.int 181 0) :: ((.ref 446) :: (.none :: ((.ref 447) :: ((.ref 448) :: ((.ref 449) :: ((.int 795 0) :: ((.int 407 0) :: ((.str "/claim/cut.py" 796) :: [])))))))))))))))))))) ::
 (nat_lit 451,kf "law" zOr .none .none (.str "law_seamarks_k25_words_of_banks" 528) (.ref 450) .none) :: []
noncomputable def kas:List Nat:=nat_lit 3 :: nat_lit 20 :: nat_lit 21 :: nat_lit 25 :: nat_lit 26 :: nat_lit 30 :: nat_lit 31 :: nat_lit 37 :: nat_lit 38 :: nat_lit 44 :: nat_lit 45 :: nat_lit 51 :: nat_lit 52 :: nat_lit 58 :: nat_lit 59 :: nat_lit 65 :: nat_lit 66 :: nat_lit 72 :: nat_lit 73 :: nat_lit 79 :: nat_lit 80 :: nat_lit 86 :: nat_lit 87 :: nat_lit 93 :: nat_lit 94 :: nat_lit 100 :: nat_lit 101 :: nat_lit 107 :: nat_lit 108 :: nat_lit 114 :: nat_lit 115 :: nat_lit 119 :: nat_lit 120 :: nat_lit 126 :: nat_lit 127 :: nat_lit 133 :: nat_lit 134 :: nat_lit 140 :: nat_lit 141 :: nat_lit 147 :: nat_lit 148 :: nat_lit 154 :: nat_lit 155 :: nat_lit 161 :: nat_lit 162 :: nat_lit 166 :: nat_lit 167 :: nat_lit 173 :: nat_lit 174 :: nat_lit 180 :: nat_lit 181 :: nat_lit 187 :: nat_lit 188 :: nat_lit 194 :: nat_lit 195 :: nat_lit 201 :: nat_lit 202 :: nat_lit 208 :: nat_lit 209 :: nat_lit 215 :: nat_lit 216 :: nat_lit 222 :: nat_lit 223 :: nat_lit 229 :: nat_lit 230 :: nat_lit 234 :: nat_lit 235 :: nat_lit 239 :: nat_lit 240 :: nat_lit 246 :: nat_lit 247 :: nat_lit 253 :: nat_lit 254 :: nat_lit 260 :: nat_lit 261 :: nat_lit 267 :: nat_lit 268 :: nat_lit 272 :: nat_lit 273 :: nat_lit 279 :: nat_lit 280 :: nat_lit 286 :: nat_lit 287 :: nat_lit 293 :: nat_lit 294 :: nat_lit 298 :: nat_lit 299 :: nat_lit 305 :: nat_lit 306 :: nat_lit 312 :: nat_lit 313 :: nat_lit 317 :: nat_lit 318 :: nat_lit 324 :: nat_lit 325 :: nat_lit 331 :: nat_lit 332 :: nat_lit 338 :: nat_lit 339 :: nat_lit 345 :: nat_lit 346 :: nat_lit 350 :: nat_lit 351 :: nat_lit 357 :: nat_lit 358 :: nat_lit 362 :: nat_lit 363 :: nat_lit 369 :: nat_lit 370 :: nat_lit 376 :: nat_lit 377 :: nat_lit 383 :: nat_lit 384 :: nat_lit 390 :: nat_lit 391 :: nat_lit 395 :: nat_lit 396 :: nat_lit 400 :: nat_lit 401 :: nat_lit 405 :: nat_lit 406 :: nat_lit 412 :: nat_lit 413 :: nat_lit 419 :: nat_lit 420 :: nat_lit 426 :: nat_lit 427 :: nat_lit 431 :: nat_lit 432 :: nat_lit 438 :: nat_lit 439 :: nat_lit 443 :: nat_lit 444 :: nat_lit 450 :: nat_lit 451 :: []
theorem kas_ok:∀ P:Params,kas = (KK P).map (·.1):=fun _=>by kernel_rfl
set_option maxHeartbeats 0 in
theorem said_ok:PySem.Challenge.rw_seamarks_k25_words_of_banks.wellSaid = true:=by kernel_rfl
set_option maxHeartbeats 0 in
open PySem.W in
theorem left_ok:LeftO PySem.Challenge.rw_seamarks_k25_words_of_banks.row.prog qv [] (fun s=>xlAt qv [] s && recOk (RowW.records (OpenRow.toRowW PySem.Challenge.rw_seamarks_k25_words_of_banks.row)) s)
  (fun s=>kas.map s.heap.get?) (fun w=>(KK w.params).map fun p=>some p.2) 9000:=by
 unfold LeftO
 rw [Fast.te4187177175401517315,Fast.te5923862056798008813,Fast.te2368527892694137696,Fast.te14364793385576792824]
 intro w
 kernel_rfl
end Sea
-- BASE
namespace L2
open PySem PySem.Spec PyProof.Rows

abbrev Key:=Sum Int Str
def zQq:Key→Value→Bool
 | .inl k,v=>Value.isInt k v
 | .inr x,v=>Value.isStrOf x v
def keyH (w:World):Key→Int
 | .inl k=>hashInt k
 | .inr x=>hashStr w x
theorem zCe:∀ {k:Key} {v:Value},zQq k v = true→(∃ i t,k = Sum.inl i∧v = Value.int i t)∨(∃ x t,k = Sum.inr x∧v = Value.str x t)
 | .inl i,v,h=>by
  obtain ⟨t,e⟩:=Value.isInt_shape (k:=i) (v:=v) h
  exact .inl ⟨i,t,rfl,e⟩
 | .inr x,v,h=>by
  obtain ⟨t,e⟩:=Value.isStrOf_shape (x:=x) (v:=v) h
  exact .inr ⟨x,t,rfl,e⟩
theorem zSy (i:Int) (t:Tok):zQq (.inl i) (.int i t) = true:=by simp [zQq,Value.isInt]
theorem zRb (x:Str) (t:Tok):zQq (.inr x) (.str x t) = true:=by simp [zQq,Value.isStrOf]
theorem key_ll (a b:Int):decide ((Sum.inl a:Key) = Sum.inl b) = (a == b):=by
 by_cases e:a = b
 ·subst e; simp
 ·have h:¬ (Sum.inl a:Key) = Sum.inl b:=fun q=>e (Sum.inl.inj q)
  rw [decide_eq_false h]
  exact (beq_eq_false_iff_ne.mpr e).symm
theorem key_rr (a b:Str):decide ((Sum.inr a:Key) = Sum.inr b) = decide (a = b):=by
 by_cases e:a = b
 ·subst e; simp
 ·have h:¬ (Sum.inr a:Key) = Sum.inr b:=fun q=>e (Sum.inr.inj q)
  rw [decide_eq_false h,decide_eq_false e]
theorem key_lr (a:Int) (b:Str):decide ((Sum.inl a:Key) = Sum.inr b) = false:=decide_eq_false (fun q=>nomatch q)
theorem key_rl (a:Str) (b:Int):decide ((Sum.inr a:Key) = Sum.inl b) = false:=decide_eq_false (fun q=>nomatch q)

def zDf (prog:Program) (w:World):PySem.KeyKind prog w Key where
 is:=zQq
 hash:=keyH w
 inj:=fun v a b ha hb=>by
  rcases zCe ha with ⟨i,t,rfl,rfl⟩ | ⟨x,t,rfl,rfl⟩
  ·rcases zCe hb with ⟨j,u,rfl,e⟩ | ⟨y,u,rfl,e⟩
   ·injection e with e1 _; rw [e1]
   ·exact nomatch e
  ·rcases zCe hb with ⟨j,u,rfl,e⟩ | ⟨y,u,rfl,e⟩
   ·exact nomatch e
   ·injection e with e1 _; rw [e1]
 byValue:=fun k v h=>by
  rcases zCe h with ⟨i,t,rfl,rfl⟩ | ⟨x,t,rfl,rfl⟩ <;> rfl
 pyHash:=fun hv h=>by
  rcases zCe hv with ⟨i,t,rfl,rfl⟩ | ⟨x,t,rfl,rfl⟩
  ·exact wpAny_pyHash_int h
  ·exact wpAny_pyHash_str h
 eqBool:=fun hu hv h=>by
  rcases zCe hu with ⟨i,t,rfl,rfl⟩ | ⟨x,t,rfl,rfl⟩
  ·rcases zCe hv with ⟨j,u,rfl,rfl⟩ | ⟨y,u,rfl,rfl⟩
   ·rw [key_ll] at h; exact wpAny_eqBool_int h
   ·rw [key_lr] at h; exact SeqAt.EqAt.int_str i t y u _ _ _ _ h
  ·rcases zCe hv with ⟨j,u,rfl,rfl⟩ | ⟨y,u,rfl,rfl⟩
   ·rw [key_rl] at h; exact SeqAt.EqAt.str_int x t j u _ _ _ _ h
   ·rw [key_rr] at h; exact wpAny_eqBool_str h
 «strs»:=fun k x t v h=>by
  rcases zCe h with ⟨i,u,rfl,e⟩ | ⟨y,u,rfl,e⟩
  ·exact nomatch e
  ·injection e with e1 _
   subst e1
   cases v <;> rfl

theorem zOt (prog:Program) (w:World) (i:Int) (t:Tok):(zDf prog w).is (.inl i) (.int i t) = true:=zSy i t
theorem zN5 (prog:Program) (w:World) (x:Str) (t:Tok):(zDf prog w).is (.inr x) (.str x t) = true:=zRb x t
end L2

namespace L2
open PySem PySem.Spec PyProof.Rows

inductive V where
 | non | bl (b:Bool) | int (i:Int) | str (x:Str) | byt (b:Array UInt8) | flt (b:UInt64) | ref (a:Addr) | ty (n:String)
 deriving DecidableEq

def RelV:V→Value→Prop
 | .non,u=>u = Value.none
 | .bl b,u=>u = Value.bool b
 | .int i,u=>∃ t,u = Value.int i t
 | .str x,u=>∃ t,u = Value.str x t
 | .byt b,u=>∃ t,u = Value.bytes b t
 | .flt b,u=>∃ t,u = Value.float b t
 | .ref a,u=>u = Value.ref a
 | .ty n,u=>u = Value.type n

abbrev Vals:List V→List Value→Prop:=Paired RelV
theorem Vals.length {xs:List V} {us:List Value} (r:Vals xs us):xs.length = us.length:=Paired.length r
theorem Vals.get:∀ {xs:List V} {us:List Value} {i:Nat} {x:V},Vals xs us→xs[i]? = some x→∃ u,us[i]? = some u∧RelV x u
 | _,_,_,_,.nil,e=>by simp at e
 | _,_,0,_,.cons r _,e=>by simp at e; subst e; exact ⟨_,rfl,r⟩
 | _,_,i + 1,x,.cons _ t,e=>by
  obtain ⟨u,h1,h2⟩:=Vals.get (i:=i) (x:=x) t (by simpa using e)
  exact ⟨u,by simpa using h1,h2⟩
theorem Vals.set {x:V} {u:Value} (r:RelV x u):∀ {xs:List V} {us:List Value} (i:Nat),Vals xs us→Vals (xs.set i x) (us.set i u)
 | _,_,_,.nil=>.nil
 | _,_,0,.cons _ t=>.cons r t
 | _,_,i + 1,.cons q t=>.cons q (Vals.set r i t)
theorem Vals.append:∀ {xs ys:List V} {us ws:List Value},Vals xs us→Vals ys ws→Vals (xs ++ ys) (us ++ ws)
 | _,_,_,_,.nil,s=>s
 | _,_,_,_,.cons r t,s=>.cons r (Vals.append t s)
theorem Vals.take:∀ {xs:List V} {us:List Value} (n:Nat),Vals xs us→Vals (xs.take n) (us.take n)
 | _,_,0,_=>.nil
 | _,_,_ + 1,.nil=>.nil
 | _,_,n + 1,.cons r t=>.cons r (Vals.take n t)
theorem Vals.drop:∀ {xs:List V} {us:List Value} (n:Nat),Vals xs us→Vals (xs.drop n) (us.drop n)
 | _,_,0,r=>r
 | _,_,_ + 1,.nil=>.nil
 | _,_,n + 1,.cons _ t=>Vals.drop n t
def RelO:Option V→Option Value→Prop
 | some v,some u=>RelV v u
 | none,none=>True
 | _,_=>False
def KV {κ:Type} : List (κ × V)→List (κ × Value)→Prop:=Paired fun (p:κ × V) (q:κ × Value)=>p.1 = q.1∧RelV p.2 q.2

def kV:Key→V
 | .inl i=>.int i
 | .inr x=>.str x

inductive HO where
 | lst (xs:List V)
 | tup (xs:List V)
 | dK (kvs:List (Key × V)) | dT (kvs:List (List Key × V))
 | set (S:Int→Bool) (n:Nat)
 | ins (C dx:Addr) (fs:List (Str × V))
 | own (x:Addr)
 | xd (fs:List (Str × V))
 | met (f x:Addr)
 | rng (lo hi:Int)
 | frz (o:Obj) (u:HO)
 | tbl (ps:Array Value)
 | ext (φ:Heap→Prop)

abbrev Hp:=Addr→Option HO
def upd (H:Hp) (a:Addr) (o:HO):Hp:=fun b=>if b = a then some o else H b
theorem zAc {H:Hp} {a:Addr} {o:HO} : upd H a o a = some o:=by unfold upd; rw [if_pos rfl]
theorem zA5 {H:Hp} {a b:Addr} {o:HO} (h:b≠a):upd H a o b = H b:=by unfold upd; rw [if_neg h]
theorem zGq {H:Hp} {a:Addr} {o u:HO} : upd (upd H a o) a u = upd H a u:=by
 funext b; unfold upd; split <;> rfl
theorem zIb {H:Hp} {a b:Addr} {o u:HO} (h:H a = some o) (h':H b = some u) (d:o≠u):a≠b:=by
 intro e; subst e; rw [h] at h'; exact d (Option.some.inj h')
theorem zCk {H:Hp} {a b:Addr} {o:HO} (h:H a = some o) (h':H b = none):a≠b:=by
 intro e; subst e; rw [h] at h'; cases h'

section
variable (P:Program) (w:World)
def zDp (H:Hp) (h:Heap) (a:Addr):HO→Prop
 | .lst xs=>xs.length≤sizeLine∧∃ (its:List Value) (n:Nat),Vals xs its∧h.get? a = some { cls:=.type "list", data:=.seq its.toArray n }
 | .tup xs=>xs.length≤sizeLine∧∃ its:List Value,Vals xs its∧IsTup h a its.toArray
 | .dK kvs=>kvs.length≤sizeLine∧(a == sysModules) = false∧∃ vs,KV kvs vs∧h.DictOf (zDf P w) a vs
 | .dT kvs=>kvs.length≤sizeLine∧(a == sysModules) = false∧∃ xs:List (List Key × Addr × Value),
   Paired (fun (p:List Key × V) (q:List Key × Addr × Value)=>p.1 = q.1∧H q.2.1 = some (.tup (p.1.map kV))∧RelV p.2 q.2.2) kvs xs ∧
   ∃ o es ep,h.get? a = some o∧o.ExactDict∧o.data = .dict es ep∧es.toList = xs.map (entryOfKey (tupleKind (zDf P w)))∧(xs.map (·.1)).Nodup
 | .set S n=>h.SetOf (intKind P w) a S n
 | .ins C dx fs=>H dx = some (.own a)∧fs.length≤1000∧dx≠a∧h.get? a = some (PySem.W.instObj C dx) ∧
   ∃ mA,h.Ns1 dx mA∧(∀ f,RelO (fs.lookup f) (mA f))∧PySem.Within mA (fs.map (·.1))
 | .own _=>∃ o,h.get? a = some o
 | .xd fs=>∃ mA,h.Ns1 a mA∧∀ f,RelO (fs.lookup f) (mA f)
 | .rng lo hi=>∃ t u v,h.get? a = some { cls:=.type "range", data:=.fields #[.int lo t,.int hi u,.int 1 v] }
 | .frz o u=>h.get? a = some o∧zDp H h a u
 | .tbl ps=>h.get? a = some { cls:=.none,data:=.fields ps }
 | .met f x=>h.get? a = some (PySem.W.methodObj (.ref f) (.ref x))
 | .ext φ=>φ h∧(∃ o,h.get? a = some o)∧∀ h1 h2:Heap,φ h1→(∀ o,h1.get? a = some o→h2.get? a = some o)→φ h2
def HOk (H:Hp) (h:Heap):Prop:=∀ a o,H a = some o→zDp P w H h a o
end

section
variable {P:Program} {w:World} {H H':Hp} {h h':Heap} {a:Addr} {o:HO}
theorem zDp.lt (x:zDp P w H h a o):a < h.objs.size:=by
 cases o with
 | lst xs=>obtain ⟨_,_,_,_,e⟩:=x; exact Heap.lt_size e
 | tup xs=>obtain ⟨_,_,_,p⟩:=x; exact p.lt
 | dK kvs=>obtain ⟨_,_,_,_,o,_,_,e,_⟩:=x; exact Heap.lt_size e
 | dT kvs=>obtain ⟨_,_,_,_,o,_,_,e,_⟩:=x; exact Heap.lt_size e
 | set S n=>obtain ⟨o,_,_,_,e,_⟩:=x; exact Heap.lt_size e
 | ins C dx fs=>obtain ⟨_,_,_,e,_⟩:=x; exact Heap.lt_size e
 | own y=>obtain ⟨_,e⟩:=x; exact Heap.lt_size e
 | xd fs=>obtain ⟨_,⟨_,_,_,e,_⟩,_⟩:=x; exact Heap.lt_size e
 | rng lo hi=>obtain ⟨_,_,_,e⟩:=x; exact Heap.lt_size e
 | frz ob u=>obtain ⟨e,_⟩:=x; exact Heap.lt_size e
 | tbl ps=>exact Heap.lt_size (show h.get? a = some _ from x)
 | met f y=>exact Heap.lt_size (show h.get? a = some _ from x)
 | ext φ=>obtain ⟨_,⟨_,e⟩,_⟩:=x; exact Heap.lt_size e
theorem Paired.mapP {α β:Type} {F G:α→β→Prop} : ∀ {l₁:List α} {l₂:List β},Paired F l₁ l₂→(∀ a b,F a b→G a b)→Paired G l₁ l₂
 | _,_,.nil,_=>.nil
 | _,_,.cons r t,f=>.cons (f _ _ r) (Paired.mapP t f)
theorem zDp.stay (x:zDp P w H h a o) (k:∀ b u,(b = a∨H b = some (.own a))→h.get? b = some u→h'.get? b = some u)
  (ho:∀ b,H b = some (.own a)→H' b = some (.own a)) (ht:∀ b xs,H b = some (.tup xs)→H' b = some (.tup xs)):zDp P w H' h' a o:=by
 induction o with
 | lst xs=>obtain ⟨z,its,n,r,e⟩:=x; exact ⟨z,its,n,r,k _ _ (.inl rfl) e⟩
 | tup xs=>obtain ⟨z,its,r,ob,e,c⟩:=x; exact ⟨z,its,r,ob,k _ _ (.inl rfl) e,c⟩
 | dK kvs=>obtain ⟨z,y,vs,r,ob,es,ep,e,c⟩:=x; exact ⟨z,y,vs,r,ob,es,ep,k _ _ (.inl rfl) e,c⟩
 | dT kvs =>
  obtain ⟨z,y,xs,r,ob,es,ep,e,c⟩:=x
  exact ⟨z,y,xs,Paired.mapP r fun p q z=>⟨z.1,ht _ _ z.2.1,z.2.2⟩,ob,es,ep,k _ _ (.inl rfl) e,c⟩
 | set S n=>obtain ⟨ob,es,ep,t,e,c⟩:=x; exact ⟨ob,es,ep,t,k _ _ (.inl rfl) e,c⟩
 | ins C dx fs =>
  obtain ⟨d,z,ne,e,mA,⟨od,es,ep,e2,c⟩,r⟩:=x
  exact ⟨ho _ d,z,ne,k _ _ (.inl rfl) e,mA,⟨od,es,ep,k _ _ (.inr d) e2,c⟩,r⟩
 | own y=>obtain ⟨ob,e⟩:=x; exact ⟨ob,k _ _ (.inl rfl) e⟩
 | xd fs=>obtain ⟨mA,⟨od,es,ep,e,c⟩,r⟩:=x; exact ⟨mA,⟨od,es,ep,k _ _ (.inl rfl) e,c⟩,r⟩
 | rng lo hi=>obtain ⟨t,u,v,e⟩:=x; exact ⟨t,u,v,k _ _ (.inl rfl) e⟩
 | frz ob u ih=>obtain ⟨e,q⟩:=x; exact ⟨k _ _ (.inl rfl) e,ih q⟩
 | tbl ps =>
  have e:h.get? a = some { cls:=.none,data:=.fields ps }:=x
  show h'.get? a = some { cls:=.none,data:=.fields ps }
  exact k a _ (.inl rfl) e
 | met f y =>
  have e:h.get? a = some (PySem.W.methodObj (.ref f) (.ref y)):=x
  show h'.get? a = some (PySem.W.methodObj (.ref f) (.ref y))
  exact k a _ (.inl rfl) e
 | ext φ=>obtain ⟨p,⟨o,e⟩,st⟩:=x; exact ⟨st _ _ p fun o q=>k _ _ (.inl rfl) q,⟨o,k _ _ (.inl rfl) e⟩,st⟩
theorem HOk.lt (x:HOk P w H h) (e:H a = some o):a < h.objs.size:=(x a o e).lt
theorem HOk.fresh (x:HOk P w H h) (e:h.objs.size≤a):H a = none:=by
 cases q:H a with
 | none=>rfl
 | some u=>exact absurd (Nat.lt_of_lt_of_le (x.lt q) e) (Nat.lt_irrefl _)
theorem HOk.kept (x:HOk P w H h) (k:∀ b u,h.get? b = some u→h'.get? b = some u):HOk P w H h':=fun a o e =>
 (x a o e).stay (fun b u _ q=>k b u q) (fun _ q=>q) fun _ _ q=>q
theorem HOk.laid (x:HOk P w H h) (k:∀ b u,h.get? b = some u→h'.get? b = some u) (hp:h.objs.size≤a) (new:zDp P w (upd H a o) h' a o):HOk P w (upd H a o) h':=fun b u e=>by
 have hn:=x.fresh hp
 by_cases hb:b = a
 ·subst hb; rw [zAc] at e; cases e; exact new
 ·rw [zA5 hb] at e
  exact (x b u e).stay (fun c v _ q=>k c v q) (fun c q=>by rw [zA5 (zCk q hn)]; exact q) fun c xs q=>by rw [zA5 (zCk q hn)]; exact q
end

def Rd (H:Hp) (a:Addr) (u:HO):Prop:=H a = some u∨∃ o,H a = some (.frz o u)
theorem Rd.ok {P:Program} {w:World} {H:Hp} {h:Heap} {a:Addr} {u:HO} (r:Rd H a u) (x:HOk P w H h):zDp P w H h a u:=by
 rcases r with r | ⟨o,r⟩
 ·exact x a u r
 ·obtain ⟨_,q⟩:=x a _ r
  exact q
def Mut:Option HO→Prop
 | some (.lst _)=>True
 | some (.dK _)=>True
 | some (.dT _)=>True
 | some (.set _ _)=>True
 | some (.ins _ _ _)=>True
 | some (.ext _)=>True
 | _=>False
section
variable {P:Program} {w:World} {H:Hp} {h h':Heap} {x e:Addr} {o':HO}
theorem HOk.write (ok:HOk P w H h) (mu:Mut (H x)) (he:e = x∨H e = some (.own x)) (k:∀ b u,b≠e→h.get? b = some u→h'.get? b = some u) (heo:∃ u,h'.get? e = some u)
  (new:zDp P w (upd H x o') h' x o'):HOk P w (upd H x o') h':=fun b u q=>by
 have nown:∀ c y,H c = some (.own y)→c≠x:=fun c y r z=>by subst z; rw [r] at mu; exact mu
 have ntup:∀ c xs,H c = some (.tup xs)→c≠x:=fun c xs r z=>by subst z; rw [r] at mu; exact mu
 by_cases hb:b = x
 ·subst hb; rw [zAc] at q; cases q; exact new
 ·rw [zA5 hb] at q
  by_cases hbe:b = e
  ·have q':H b = some (.own x):=by
    rcases he with z | z
    ·exact absurd (hbe.trans z) hb
    ·rw [hbe]; exact z
   rw [q] at q'; cases q'
   obtain ⟨v,hv⟩:=heo
   exact ⟨v,by rw [hbe]; exact hv⟩
  ·refine (ok b u q).stay (fun c v hc r=>k c v ?_ r) (fun c r=>by rw [zA5 (nown c b r)]; exact r) fun c xs r=>by rw [zA5 (ntup c xs r)]; exact r
   rcases hc with rfl | hc
   ·exact hbe
   ·rintro rfl
    rcases he with z | z
    ·exact nown c b hc z
    ·rw [hc] at z; cases z; exact hb rfl
end

structure Un (fs ex:List Addr) (H H':Hp) (h h':Heap):Prop where
 keep:∀ b o,h.get? b = some o→H b = none→b ∉ fs→b ∉ ex→h'.get? b = some o
 slot:∀ b o,h.get? b = some o→H b = none→b∈fs→b ∉ ex→∃ sl,h'.get? b = some { o with slots:=sl }
 free:∀ b o,h.get? b = some o→H b = none→b ∉ ex→H' b = none
 there:∀ b o,h.get? b = some o→b ∉ ex→∃ o',h'.get? b = some o'
 tups:∀ b xs,H b = some (.tup xs)→H' b = some (.tup xs)
 frzs:∀ b o u,H b = some (.frz o u)→H' b = some (.frz o u)
 tbls:∀ b ps,H b = some (.tbl ps)→∃ more,H' b = some (.tbl (ps ++ more))
section
variable {fs fs' ex ex':List Addr} {H H1 H2:Hp} {h h1 h2 h':Heap} {a x e:Addr} {o:HO}
theorem Un.any (u:Un fs ex H H1 h h1) {b:Addr} {ob:Obj} (q:h.get? b = some ob) (n:H b = none) (hx:b ∉ ex):∃ sl,h1.get? b = some { ob with slots:=sl }:=by
 by_cases hb:b∈fs
 ·exact u.slot b ob q n hb hx
 ·exact ⟨ob.slots,u.keep b ob q n hb hx⟩
theorem Un.kept (k:∀ b u,h.get? b = some u→h'.get? b = some u):Un fs ex H H h h' :=
 ⟨fun b ob q _ _ _=>k b ob q,fun b ob q _ _ _=>⟨ob.slots,k b ob q⟩,fun _ _ _ n _=>n,fun b ob q _=>⟨ob,k b ob q⟩,fun _ _ q=>q,fun _ _ _ q=>q,fun _ ps q=>⟨#[],by rw [q]; simp⟩⟩
theorem Un.refl:Un fs ex H H h h:=Un.kept fun _ _ q=>q
theorem Un.laid (k:∀ b u,h.get? b = some u→h'.get? b = some u) (hp:h.objs.size≤a) (hn:H a = none):Un fs ex H (upd H a o) h h' where
 keep:=fun b u q _ _ _=>k b u q
 slot:=fun b u q _ _ _=>⟨u.slots,k b u q⟩
 free:=fun b u q n _=>by rw [zA5 (Nat.ne_of_lt (Nat.lt_of_lt_of_le (Heap.lt_size q) hp))]; exact n
 there:=fun b u q _=>⟨u,k b u q⟩
 tups:=fun b xs q=>by rw [zA5 (zCk q hn)]; exact q
 frzs:=fun b u xs q=>by rw [zA5 (zCk q hn)]; exact q
 tbls:=fun b ps q=>⟨#[],by rw [zA5 (zCk q hn),q]; simp⟩
theorem Un.write (mu:Mut (H x)) (he:e = x∨H e = some (.own x)) (k:∀ b u,b≠e→h.get? b = some u→h'.get? b = some u) (heo:∃ u,h'.get? e = some u):Un fs ex H (upd H x o) h h':=by
 have hx:∀ b,H b = none→b≠x:=fun b n z=>by subst z; rw [n] at mu; exact mu
 have hb:∀ b,H b = none→b≠e:=fun b n z=>by
  subst z
  rcases he with r | r
  ·exact hx b n r
  ·rw [n] at r; cases r
 have hm:∀ b u,H b = some u→¬ Mut (some u)→b≠x:=fun b u q nm z=>by subst z; rw [q] at mu; exact nm mu
 refine ⟨fun b u q n _ _=>k b u (hb b n) q,fun b u q n _ _=>⟨u.slots,k b u (hb b n) q⟩,fun b u q n _=>by rw [zA5 (hx b n)]; exact n,fun b u q _=>?_,
  fun b xs q=>by rw [zA5 (hm b _ q fun z=>z)]; exact q,fun b u xs q=>by rw [zA5 (hm b _ q fun z=>z)]; exact q,fun b ps q=>⟨#[],by rw [zA5 (hm b _ q fun z=>z),q]; simp⟩⟩
 by_cases hbe:b = e
 ·subst hbe; exact heo
 ·exact ⟨u,k b u hbe q⟩
end

def trk (h:Heap) (H:Hp):List Addr:=(List.range h.objs.size).filter fun a=>(H a).isSome
def hidT (h:Heap) (H:Hp):Heap:=PySem.W.hideAll h (trk h H)
theorem zQv (h:Heap) (H:Hp):(hidT h H).objs.size = h.objs.size:=PySem.W.hideAll_size _ _
theorem zUh {h:Heap} {H:Hp} {b:Addr} {o:Obj} (e:h.get? b = some o) (n:H b = none):(hidT h H).get? b = some o :=
 PySem.W.hideAll_get _ e fun hm=>by
  have q:(H b).isSome = true:=(List.mem_filter.mp hm).2
  rw [n] at q; simp at q
theorem zV3 {h:Heap} {H:Hp} {b:Addr} {o:Obj} (e:(hidT h H).get? b = some o):h.get? b = some o∧H b = none:=by
 have e':h.get? b = some o:=PySem.W.of_hideAll (trk h H) e
 refine ⟨e',?_⟩
 cases q:H b with
 | none=>rfl
 | some x =>
  have hm:b∈trk h H:=List.mem_filter.mpr ⟨List.mem_range.mpr (Heap.lt_size e'),by simp [q]⟩
  have z:(hidT h H).get? b = none:=PySem.W.hideAll_none (trk h H) hm
  rw [z] at e; cases e

end L2

namespace L2
open PySem PySem.Spec PyProof.Rows

structure Mod (K:PySem.W.Frag) (mg:Str→Option Value) (base:Heap):Prop where
 kin:K.In base
 glob:base.Ns mainGlobals mg
 blt:∃ mb,base.Ns builtinsNs mb∧∀ x:Str,x ≠ "__name__" → mb x = bootBuiltins x
 nolimit:base.NoLimit

structure Cx where
 prog:Program
 w:World
 K:PySem.W.Frag
 mg:Str→Option Value
 base:Heap
 A:Around
 N:List Str
 s₀:Shared
 H₀:Hp
 env:Env
 outer:List Env
 stack:List Env
 ex:List Addr
 fn:Str→Bool
 calm:Bool
 pn:List (Addr × Obj)
 xe:Value→Shared→Prop
def frs (l:List Env):List Addr:=l.filterMap (·.frame)
abbrev Cx.fs (X:Cx):List Addr:=frs X.outer

def Vis (sc:Scope) (x:Str):Prop:=sc.names.lookup x = some .local∨sc.names.lookup x = some .cell∨sc.names.lookup x = some .free
def Loc (sc:Scope) (x:Str):Prop:=sc.names.lookup x = some .local∨sc.names.lookup x = some .cell
def Look (env:Env) (h:Heap) (m:Str→Option Value) (x:Str) (u:Value):Prop :=
 (env.kindOf x = some .local∧m x = some u)∨((env.kindOf x = some .cell∨env.kindOf x = some .free)∧∃ c,env.cells.lookup x = some c∧h.IsCell c (some u))

structure Cx.Ok (X:Cx):Prop where
 mod:Mod X.K X.mg X.base
 kind:X.env.scope.kind = .function
 glob:X.env.globals = mainGlobals
 blt:X.env.builtins = builtinsNs
 above:X.s₀.heap.objs.size≤X.env.locals
 inj:∀ x y c,X.env.cells.lookup x = some c→X.env.cells.lookup y = some c→x = y
 has:∀ x,(X.env.kindOf x = some .cell∨X.env.kindOf x = some .free)→∃ c,X.env.cells.lookup x = some c
 cab:∀ x c,X.fn x = true→X.env.cells.lookup x = some c→X.s₀.heap.objs.size≤c
 hd:X.calm = true→X.A.handled = none
 frames:X.A.frames = some X.stack
 stk:X.stack = X.outer∨(X.stack = X.env :: X.outer∧X.env.frame = some X.env.locals)
 exf:∀ b∈X.ex,b≠X.env.locals∧∀ x c,X.env.cells.lookup x = some c→c≠b
 bs:∀ b o,X.base.get? b = some o→X.s₀.heap.get? b = some o∧X.H₀ b = none
 bsz:X.base.objs.size≤X.s₀.heap.objs.size
 noex:∀ b o,X.base.get? b = some o→b ∉ X.ex
 exfs:∀ b∈X.ex,b ∉ X.fs
 funs:X.s₀.heap.FunFrames X.base X.outer
 frf:∀ b∈X.fs,X.H₀ b = none

structure Inv (X:Cx) (pins:List (Addr × Obj)) (σ:List (Option V)) (H:Hp) (s:Shared):Prop where
 ok:X.Ok
 os:s.os = X.s₀.os
 bare:AllBare s.gens
 base:Un X.fs X.ex X.H₀ H X.s₀.heap s.heap
 loc:∃ m,s.heap.Ns X.env.locals m∧∀ (i:Nat) (x:Str) (v:V),X.N[i]? = some x→σ[i]? = some (some v)→Vis X.env.scope x→∃ u,RelV v u∧Look X.env s.heap m x u
 cell:∀ x c,X.env.cells.lookup x = some c→∃ v,s.heap.IsCell c v
 free:H X.env.locals = none
 freeC:∀ x c,X.env.cells.lookup x = some c→H c = none
 pin:∀ p∈X.pn ++ pins,s.heap.get? p.1 = some p.2∧H p.1 = none∧p.1≠X.env.locals∧p.1 ∉ X.fs∧∀ v,p.2.data≠.cell v
 hok:HOk X.prog X.w H s.heap
 len:σ.length = X.N.length

section
variable {X:Cx} {pins:List (Addr × Obj)} {σ:List (Option V)} {H H':Hp} {s:Shared} {h':Heap}

theorem Cx.Ok.nofr (ok:X.Ok) {b:Addr} {o:Obj} (e:X.base.get? b = some o):b ∉ X.fs:=fun hb=>by
 have:=(ok.funs.mem hb).1
 rw [e] at this; cases this
theorem Inv.bs (I:Inv X pins σ H s):∀ b o,X.base.get? b = some o→s.heap.get? b = some o∧H b = none:=fun b o e =>
 ⟨I.base.keep b o (I.ok.bs b o e).1 (I.ok.bs b o e).2 (I.ok.nofr e) (I.ok.noex b o e),I.base.free b o (I.ok.bs b o e).1 (I.ok.bs b o e).2 (I.ok.noex b o e)⟩
theorem Inv.bk (I:Inv X pins σ H s):∀ b o,X.base.get? b = some o→s.heap.get? b = some o:=fun b o e=>(I.bs b o e).1
theorem Inv.mod (I:Inv X pins σ H s):Mod X.K X.mg X.base:=I.ok.mod
theorem Inv.kIn (I:Inv X pins σ H s):X.K.In s.heap:=I.ok.mod.kin.keeps I.bk
theorem Inv.lt (I:Inv X pins σ H s):X.env.locals < s.heap.objs.size:=let ⟨_,hn,_⟩:=I.loc; hn.lt
theorem Inv.sz (I:Inv X pins σ H s):X.s₀.heap.objs.size≤s.heap.objs.size:=Nat.le_trans I.ok.above (Nat.le_of_lt I.lt)
theorem Inv.nofs (I:Inv X pins σ H s) {a:Addr} (h:s.heap.objs.size≤a):a ∉ X.fs:=fun hb=>by
 obtain ⟨_,o,ho,_⟩:=I.ok.funs.mem hb
 exact absurd (Nat.lt_of_lt_of_le (Heap.lt_size ho) (Nat.le_trans I.sz h)) (Nat.lt_irrefl _)
theorem Inv.cne (I:Inv X pins σ H s):∀ x c,X.env.cells.lookup x = some c→c≠X.env.locals:=fun x c e z=>by
 obtain ⟨v,o,ho,hd⟩:=I.cell x c e
 obtain ⟨m,⟨o',es,ep,ho',hd',_⟩,_⟩:=I.loc
 rw [z,ho'] at ho; cases ho; rw [hd'] at hd; cases hd
theorem Inv.funs (I:Inv X pins σ H s):s.heap.FunFrames X.base X.outer:=by
 have all:∀ (l:List Env),(∀ b∈frs l,b∈X.fs)→X.s₀.heap.FunFrames X.base l→s.heap.FunFrames X.base l:=by
  intro l
  induction l with
  | nil=>intro _ _; trivial
  | cons env r ih =>
   intro hs hl
   obtain ⟨hk,⟨L,o,hf,hn,ho,hd⟩,hr⟩:=hl
   have hL:L∈X.fs:=hs L (by unfold frs; rw [List.filterMap_cons,hf]; exact List.mem_cons_self)
   obtain ⟨sl,e⟩:=I.base.slot L o ho (I.ok.frf L hL) hL fun z=>I.ok.exfs L z hL
   exact ⟨hk,⟨L,_,hf,hn,e,hd⟩,ih (fun b hb=>hs b (by unfold frs; rw [List.filterMap_cons,hf]; exact List.mem_cons_of_mem _ hb)) hr⟩
 exact all X.outer (fun _ hb=>hb) I.ok.funs

theorem Inv.stack (I:Inv X pins σ H s):s.heap.FunFrames X.base X.stack:=by
 rcases I.ok.stk with e | ⟨e,hf⟩
 ·rw [e]; exact I.funs
 ·rw [e]
  obtain ⟨m,hn,_⟩:=I.loc
  refine .cons (by rw [I.ok.kind]; decide) hf hn ?_ I.funs
  exact Heap.get?_none_of_le (Nat.le_trans I.ok.bsz I.ok.above)
theorem Inv.stkSub (I:Inv X pins σ H s):∀ b∈frs X.stack,b∈X.env.locals :: X.fs:=fun b hb=>by
 rcases I.ok.stk with e | ⟨e,hf⟩
 ·rw [e] at hb; exact List.mem_cons_of_mem _ hb
 ·rw [e] at hb
  unfold frs at hb
  rw [List.filterMap_cons,hf] at hb
  exact hb
theorem Inv.stkFree (I:Inv X pins σ H s):∀ b∈frs X.stack,H b = none:=fun b hb=>by
 rcases List.mem_cons.mp (I.stkSub b hb) with e | hb
 ·rw [e]; exact I.free
 ·obtain ⟨_,o,ho,_⟩:=I.ok.funs.mem hb
  exact I.base.free b o ho (I.ok.frf b hb) fun z=>I.ok.exfs b z hb

theorem Inv.step {g':Array GenState} {t':Nat} {d':Drawn} {ch:List Addr} (I:Inv X pins σ H s)
  (hch:∀ b∈ch,(b∈X.ex∨X.s₀.heap.objs.size≤b)∧b≠X.env.locals∧(∀ x c,X.env.cells.lookup x = some c→c≠b)∧∀ p∈X.pn ++ pins,p.1≠b)
  (keep:∀ b o,b≠X.env.locals→b ∉ X.fs→b ∉ ch→s.heap.get? b = some o→H b = none→h'.get? b = some o)
  (slot:∀ b o,b≠X.env.locals→b∈X.fs→b ∉ ch→s.heap.get? b = some o→H b = none→∃ sl,h'.get? b = some { o with slots:=sl }) (free:∀ b o,b ∉ ch→s.heap.get? b = some o→H b = none→H' b = none)
  (there:∀ b o,b ∉ ch→s.heap.get? b = some o→∃ o',h'.get? b = some o')
  (tups:∀ b xs,H b = some (.tup xs)→H' b = some (.tup xs)) (frzs:∀ b o u,H b = some (.frz o u)→H' b = some (.frz o u)) (tbls:∀ b ps,H b = some (.tbl ps)→∃ more,H' b = some (.tbl (ps ++ more)))
  (ns:∀ m,s.heap.Ns X.env.locals m→h'.Ns X.env.locals m) (hok:HOk X.prog X.w H' h') (hg:AllBare g') :
  Inv X pins σ H' { s with heap:=h',gens:=g',drawn:=d',toks:=t' }:=by
 have neL:∀ b o,X.s₀.heap.get? b = some o→b≠X.env.locals:=fun b o e=>Nat.ne_of_lt (Nat.lt_of_lt_of_le (Heap.lt_size e) I.ok.above)
 have neC:∀ b o,X.s₀.heap.get? b = some o→b ∉ X.ex→b ∉ ch:=fun b o e hx hb=>by
  rcases (hch b hb).1 with z | z
  ·exact hx z
  ·exact absurd (Nat.lt_of_lt_of_le (Heap.lt_size e) z) (Nat.lt_irrefl _)
 have cellK:∀ x c,X.env.cells.lookup x = some c→∀ v,s.heap.IsCell c v→h'.IsCell c v:=fun x c e v ⟨o,ho,hd⟩=>by
  have nch:c ∉ ch:=fun z=>(hch c z).2.2.1 x c e rfl
  by_cases hc:c∈X.fs
  ·obtain ⟨sl,q⟩:=slot c o (I.cne x c e) hc nch ho (I.freeC x c e)
   exact ⟨_,q,hd⟩
  ·exact ⟨o,keep c o (I.cne x c e) hc nch ho (I.freeC x c e),hd⟩
 refine ⟨I.ok,I.os,hg,⟨fun b o e n hb hx=>?_,fun b o e n hb hx=>?_,fun b o e n hx=>?_,fun b o e hx=>?_,fun b xs e=>tups b xs (I.base.tups b xs e),fun b o xs e=>frzs b o xs (I.base.frzs b o xs e),fun b ps e=>?_⟩,?_,fun x c e=>?_,?_,fun x c e=>?_,fun p hp=>?_,hok,I.len⟩
 ·exact keep b o (neL b o e) hb (neC b o e hx) (I.base.keep b o e n hb hx) (I.base.free b o e n hx)
 ·obtain ⟨sl,e1⟩:=I.base.slot b o e n hb hx
  obtain ⟨sl',e2⟩:=slot b _ (neL b o e) hb (neC b o e hx) e1 (I.base.free b o e n hx)
  exact ⟨sl',e2⟩
 ·obtain ⟨o',e1⟩:=I.base.there b o e hx
  exact free b o' (neC b o e hx) e1 (I.base.free b o e n hx)
 ·obtain ⟨o',e1⟩:=I.base.there b o e hx
  exact there b o' (neC b o e hx) e1
 ·obtain ⟨m1,e1⟩:=I.base.tbls b ps e
  obtain ⟨m2,e2⟩:=tbls b _ e1
  exact ⟨m1 ++ m2,by rw [e2,Array.append_assoc]⟩
 ·obtain ⟨m,hn,hl⟩:=I.loc
  refine ⟨m,ns m hn,fun i x v e1 e2 e3=>?_⟩
  obtain ⟨u,r,l⟩:=hl i x v e1 e2 e3
  refine ⟨u,r,?_⟩
  rcases l with l | ⟨k,c,e,z⟩
  ·exact .inl l
  ·exact .inr ⟨k,c,e,cellK x c e _ z⟩
 ·obtain ⟨v,z⟩:=I.cell x c e
  exact ⟨v,cellK x c e v z⟩
 ·obtain ⟨m,⟨o,_,_,ho,_⟩,_⟩:=I.loc
  exact free _ o (fun z=>(hch _ z).2.1 rfl) ho I.free
 ·obtain ⟨v,o,ho,hd⟩:=I.cell x c e
  exact free c o (fun z=>(hch c z).2.2.1 x c e rfl) ho (I.freeC x c e)
 ·obtain ⟨e,n,ne,nf,d⟩:=I.pin p hp
  have nch:p.1 ∉ ch:=fun z=>(hch p.1 z).2.2.2 p hp rfl
  exact ⟨keep p.1 p.2 ne nf nch e n,free p.1 p.2 nch e n,ne,nf,d⟩
theorem Inv.un {t':Nat} (I:Inv X pins σ H s) (u:Un X.fs [] H H' s.heap h') (hok:HOk X.prog X.w H' h'):Inv X pins σ H' { s with heap:=h',toks:=t' }:=by
 obtain ⟨m,⟨o,es,ep,ho,r⟩,_⟩:=id I.loc
 obtain ⟨sl,hL⟩:=u.any ho I.free (by simp)
 exact I.step (g':=s.gens) (d':=s.drawn) (ch:=[]) (fun _ z=>nomatch z) (fun b o _ hb _ e n=>u.keep b o e n hb (by simp)) (fun b o _ hb _ e n=>u.slot b o e n hb (by simp)) (fun b o _ e n=>u.free b o e n (by simp)) (fun b o _ e=>u.there b o e (by simp)) u.tups u.frzs u.tbls (fun m' hm=>by
  obtain ⟨o',es',ep',ho',r'⟩:=hm
  rw [ho] at ho'; cases ho'
  exact ⟨_,es',ep',hL,r'⟩) hok I.bare
theorem Inv.call {g':Array GenState} {t':Nat} {d':Drawn} {ch:List Addr} (I:Inv X pins σ H s) (u:Un (frs X.stack) ch H H' s.heap h') (hok:HOk X.prog X.w H' h') (hg:AllBare g')
  (hch:∀ b∈ch,(b∈X.ex∨X.s₀.heap.objs.size≤b)∧b≠X.env.locals∧(∀ x c,X.env.cells.lookup x = some c→c≠b)∧∀ p∈X.pn ++ pins,p.1≠b) :
  Inv X pins σ H' { s with heap:=h',gens:=g',drawn:=d',toks:=t' }:=by
 obtain ⟨m,⟨o,es,ep,ho,r⟩,_⟩:=id I.loc
 obtain ⟨sl,hL⟩:=u.any ho I.free fun z=>(hch _ z).2.1 rfl
 exact I.step (ch:=ch) hch (fun b o hL hb hc e n=>u.keep b o e n (fun z=>(List.mem_cons.mp (I.stkSub b z)).elim hL hb) hc) (fun b o _ _ hc e n=>u.any e n hc) (fun b o hc e n=>u.free b o e n hc) (fun b o hc e=>u.there b o e hc) u.tups u.frzs u.tbls (fun m' hm=>by
  obtain ⟨o',es',ep',ho',r'⟩:=hm
  rw [ho] at ho'; cases ho'
  exact ⟨_,es',ep',hL,r'⟩) hok hg
theorem Inv.turned {t':Nat} {it:Addr} (I:Inv X pins σ H s) (k:∀ b o,b≠it→s.heap.get? b = some o→h'.get? b = some o) (hn:H it = none) (hL:it≠X.env.locals)
  (h1:it∈X.ex∨X.s₀.heap.objs.size≤it) (h2:∀ x c,X.env.cells.lookup x = some c→c≠it) (h3:∀ p∈X.pn ++ pins,p.1≠it):Inv X pins σ H { s with heap:=h',toks:=t' }:=by
 have nit:∀ b u,H b = some u→b≠it:=fun b u e z=>by rw [z,hn] at e; cases e
 refine I.step (g':=s.gens) (d':=s.drawn) (ch:=[it]) (fun b hb=>?_) (fun b o _ _ hc e _=>k b o (fun z=>hc (by simp [z])) e) (fun b o _ _ hc e _=>⟨o.slots,k b o (fun z=>hc (by simp [z])) e⟩) (fun _ _ _ _ n=>n)
  (fun b o hc e=>⟨o,k b o (fun z=>hc (by simp [z])) e⟩) (fun _ _ e=>e) (fun _ _ _ e=>e) (fun b ps e=>⟨#[],by rw [e]; simp⟩) (fun m hm=>?_) (fun b u e=>?_) I.bare
 ·have e:b = it:=by simpa using hb
  subst e
  exact ⟨h1,hL,h2,h3⟩
 ·obtain ⟨o,es,ep,ho,r⟩:=hm
  exact ⟨o,es,ep,k _ o (Ne.symm hL) ho,r⟩
 ·refine (I.hok b u e).stay (fun c v hc q=>k c v ?_ q) (fun _ q=>q) fun _ _ q=>q
  rcases hc with z | z
  ·rw [z]; exact nit b u e
  ·exact nit c _ z
theorem Inv.tok (I:Inv X pins σ H s) (t:Nat):Inv X pins σ H { s with toks:=t }:=I.un (h':=s.heap) (t':=t) Un.refl I.hok
theorem Inv.kept {t':Nat} (I:Inv X pins σ H s) (k:∀ b u,s.heap.get? b = some u→h'.get? b = some u):Inv X pins σ H { s with heap:=h',toks:=t' }:=I.un (Un.kept k) (I.hok.kept k)
theorem Inv.laid {a:Addr} {o:HO} {t':Nat} (I:Inv X pins σ H s) (k:∀ b u,s.heap.get? b = some u→h'.get? b = some u) (hp:s.heap.objs.size≤a) (new:zDp X.prog X.w (upd H a o) h' a o) :
  Inv X pins σ (upd H a o) { s with heap:=h',toks:=t' }:=I.un (Un.laid k hp (I.hok.fresh hp)) (I.hok.laid k hp new)
theorem Inv.write {x e:Addr} {o:HO} {t':Nat} (I:Inv X pins σ H s) (mu:Mut (H x)) (he:e = x∨H e = some (.own x)) (k:∀ b u,b≠e→s.heap.get? b = some u→h'.get? b = some u) (heo:∃ u,h'.get? e = some u)
  (new:zDp X.prog X.w (upd H x o) h' x o):Inv X pins σ (upd H x o) { s with heap:=h',toks:=t' }:=I.un (Un.write mu he k heo) (I.hok.write mu he k heo new)
theorem Inv.pins_of {pins':List (Addr × Obj)} (I:Inv X pins σ H s) (h:∀ p∈pins',s.heap.get? p.1 = some p.2∧H p.1 = none∧p.1≠X.env.locals∧p.1 ∉ X.fs∧∀ v,p.2.data≠.cell v):Inv X pins' σ H s :=
 ⟨I.ok,I.os,I.bare,I.base,I.loc,I.cell,I.free,I.freeC,fun p hp=>(List.mem_append.mp hp).elim (fun z=>I.pin p (List.mem_append_left _ z)) (h p),I.hok,I.len⟩

theorem zO0 {N:List Str} (hN:N.Nodup) {i j:Nat} {x:Str} (a:N[i]? = some x) (b:N[j]? = some x):i = j:=by
 obtain ⟨h1,e1⟩:=List.getElem?_eq_some_iff.mp a
 obtain ⟨h2,e2⟩:=List.getElem?_eq_some_iff.mp b
 exact (List.getElem_inj hN).mp (e1.trans e2.symm)

theorem zNe {M:Model} {A:Around} {E:Value→Shared→Prop} {i:Nat} {x:Str} {v:V} {u:Value} {Q:Unit→Shared→Prop} (I:Inv X pins σ H s) (hN:X.N.Nodup) (hi:X.N[i]? = some x) (hx:Loc X.env.scope x) (r:RelV v u)
  (h:∀ s',Inv X pins (σ.set i (some v)) H s'→(∃ a,Heap.SameBut a s.heap s'.heap∧(a = X.env.locals∨X.env.cells.lookup x = some a))→Q () s') (hf:X.fn x = true∨X.env.scope.names.lookup x = some .local:=by first | exact .inl rfl | exact .inr rfl | assumption):wpAny M A (storeName X.env x u) Q E s:=by
 obtain ⟨m,hn,hl⟩:=id I.loc
 have hcls:(X.env.scope.kind == .class || (X.env.scope.kind == .module && X.env.locals != X.env.globals)) = false:=by rw [I.ok.kind]; rfl
 have hiσ:i < σ.length:=by rw [I.len]; exact (List.getElem?_eq_some_iff.mp hi).1
 have cne:=I.cne
 have tracked:∀ {a:Addr} {h':Heap},(∃ o,s.heap.get? a = some o∧H a = none)→Heap.SameBut a s.heap h'→HOk X.prog X.w H h':=fun {a h'} ha hs b ob e=>by
  obtain ⟨_,_,hfree⟩:=ha
  refine (I.hok b ob e).stay (fun c w' hc q=>(hs.2 c ?_).trans q) (fun _ q=>q) fun _ _ q=>q
  rintro rfl
  rcases hc with rfl | hc
  ·rw [hfree] at e; cases e
  ·rw [hfree] at hc; cases hc
 rcases hx with hk | hk
 ·refine wpAny_storeName_local hk hn (fun h' hn' hs=>?_) hcls
  obtain ⟨oL,_,_,hoL,_⟩:=id hn
  refine h _ ⟨I.ok,I.os,I.bare,⟨fun b o e n hb hx=>?_,fun b o e n hb hx=>?_,I.base.free,fun b o e hx=>?_,I.base.tups,I.base.frzs,I.base.tbls⟩,⟨_,hn',fun j y v' e1 e2 e3=>?_⟩,fun y c e=>?_,I.free,I.freeC,fun p hp=>?_,tracked ⟨oL,hoL,I.free⟩ hs,by simpa using I.len⟩ ⟨_,hs,.inl rfl⟩
  ·exact (hs.2 b (Nat.ne_of_lt (Nat.lt_of_lt_of_le (Heap.lt_size e) I.ok.above))).trans (I.base.keep b o e n hb hx)
  ·obtain ⟨sl,e1⟩:=I.base.slot b o e n hb hx
   exact ⟨sl,(hs.2 b (Nat.ne_of_lt (Nat.lt_of_lt_of_le (Heap.lt_size e) I.ok.above))).trans e1⟩
  ·obtain ⟨o',e1⟩:=I.base.there b o e hx
   exact ⟨o',(hs.2 b (Nat.ne_of_lt (Nat.lt_of_lt_of_le (Heap.lt_size e) I.ok.above))).trans e1⟩
  ·by_cases hj:j = i
   ·subst hj
    rw [hi] at e1; cases e1
    rw [List.getElem?_set_self hiσ] at e2
    cases e2
    exact ⟨u,r,.inl ⟨hk,by simp⟩⟩
   ·rw [List.getElem?_set_ne (Ne.symm hj)] at e2
    obtain ⟨u',r',q⟩:=hl j y v' e1 e2 e3
    refine ⟨u',r',?_⟩
    rcases q with ⟨k,e⟩ | ⟨k,c,e,z⟩
    ·refine .inl ⟨k,?_⟩
     have:y≠x:=fun e=>hj (zO0 hN e1 (e ▸ hi))
     simp [this,e]
    ·exact .inr ⟨k,c,e,z.sameBut hs (cne y c e)⟩
  ·obtain ⟨w',z⟩:=I.cell y c e
   exact ⟨w',z.sameBut hs (cne y c e)⟩
  ·obtain ⟨e,n,ne,nf,d⟩:=I.pin p hp
   exact ⟨(hs.2 p.1 ne).trans e,n,ne,nf,d⟩
 ·have hfn:X.fn x = true:=by
   rcases hf with z | z
   ·exact z
   ·rw [z] at hk; cases hk
  obtain ⟨c,hc⟩:=I.ok.has x (.inl hk)
  obtain ⟨w',z⟩:=I.cell x c hc
  refine wpAny_storeName_cell I.ok.kind hk hc z (fun h' hc' hs=>?_)
  obtain ⟨oc,hoc,hocd⟩:=id z
  refine h { s with heap:=h' } ⟨I.ok,I.os,I.bare,⟨fun b o e n hb hx=>?_,fun b o e n hb hx=>?_,I.base.free,fun b o e hx=>?_,I.base.tups,I.base.frzs,I.base.tbls⟩,⟨m,hn.sameBut hs (Ne.symm (cne x c hc)),fun j y v' e1 e2 e3=>?_⟩,fun y c' e=>?_,I.free,I.freeC,fun p hp=>?_,tracked ⟨oc,hoc,I.freeC x c hc⟩ hs,by simpa using I.len⟩ ⟨c,hs,.inr hc⟩
  ·exact (hs.2 b (Nat.ne_of_lt (Nat.lt_of_lt_of_le (Heap.lt_size e) (I.ok.cab x c hfn hc)))).trans (I.base.keep b o e n hb hx)
  ·obtain ⟨sl,e1⟩:=I.base.slot b o e n hb hx
   exact ⟨sl,(hs.2 b (Nat.ne_of_lt (Nat.lt_of_lt_of_le (Heap.lt_size e) (I.ok.cab x c hfn hc)))).trans e1⟩
  ·obtain ⟨o',e1⟩:=I.base.there b o e hx
   exact ⟨o',(hs.2 b (Nat.ne_of_lt (Nat.lt_of_lt_of_le (Heap.lt_size e) (I.ok.cab x c hfn hc)))).trans e1⟩
  ·by_cases hj:j = i
   ·subst hj
    rw [hi] at e1; cases e1
    rw [List.getElem?_set_self hiσ] at e2
    cases e2
    exact ⟨u,r,.inr ⟨.inl hk,c,hc,hc'⟩⟩
   ·rw [List.getElem?_set_ne (Ne.symm hj)] at e2
    obtain ⟨u',r',q⟩:=hl j y v' e1 e2 e3
    refine ⟨u',r',?_⟩
    rcases q with q | ⟨k,c',e,z'⟩
    ·exact .inl q
    ·refine .inr ⟨k,c',e,z'.sameBut hs ?_⟩
     rintro rfl
     exact hj (zO0 hN e1 (I.ok.inj _ _ _ e hc ▸ hi))
  ·by_cases hcc:c' = c
   ·subst hcc; exact ⟨_,hc'⟩
   ·obtain ⟨w2,z2⟩:=I.cell y c' e
    exact ⟨w2,z2.sameBut hs hcc⟩
  ·obtain ⟨e,n,ne,nf,d⟩:=I.pin p hp
   refine ⟨(hs.2 p.1 ?_).trans e,n,ne,nf,d⟩
   intro q
   rw [q,hoc] at e
   have q':oc = p.2:=Option.some.inj e
   exact d w' (by rw [← q']; exact hocd)
theorem zFm {M:Model} {A:Around} {E:Value→Shared→Prop} {i:Nat} {x:Str} {v:V} {u:Value} {Q:Unit→Shared→Prop} (I:Inv X pins σ H s) (hN:X.N.Nodup) (hi:X.N[i]? = some x) (hx:Loc X.env.scope x) (r:RelV v u)
  (h:∀ s',Inv X pins (σ.set i (some v)) H s'→Q () s') (hf:X.fn x = true∨X.env.scope.names.lookup x = some .local:=by first | exact .inl rfl | exact .inr rfl | assumption):wpAny M A (storeName X.env x u) Q E s :=
 zNe I hN hi hx r (fun s' I' _=>h s' I') hf
theorem Inv.call' {s':Shared} {ch:List Addr} (I:Inv X pins σ H s) (ho:s'.os = s.os) (u:Un (frs X.stack) ch H H' s.heap s'.heap) (hok:HOk X.prog X.w H' s'.heap) (hg:AllBare s'.gens)
  (hch:∀ b∈ch,(b∈X.ex∨X.s₀.heap.objs.size≤b)∧b≠X.env.locals∧(∀ x c,X.env.cells.lookup x = some c→c≠b)∧∀ p∈X.pn ++ pins,p.1≠b):Inv X pins σ H' s':=by
 obtain ⟨h',g',d',t',o'⟩:=s'
 have e:o' = s.os:=ho
 subst e
 exact I.call (g':=g') (t':=t') (d':=d') u hok hg hch
end

abbrev XK:=Value→Option Addr→Hp→Prop
abbrev St:=List (Option V)
abbrev VK:=V→Hp→Prop
abbrev TE:=St→Hp→VK→Prop
abbrev TT:=St→Hp→(Bool→Hp→Prop)→Prop
abbrev TA:=St→Hp→(List V→Hp→Prop)→Prop
structure Ends where
 nx:St→Hp→Prop
 rt:VK
 bk:St→Hp→Prop:=fun _ _=>False
 ct:St→Hp→Prop:=fun _ _=>False
abbrev TS:=Ends→St→Hp→Prop

def EP (X:Cx) (pins:List (Addr × Obj)) (σ:St) (Q:VK) (u:Value) (s':Shared):Prop:=∃ v H',Inv X pins σ H' s'∧RelV v u∧Q v H'
def TP (X:Cx) (pins:List (Addr × Obj)) (σ:St) (Q:Bool→Hp→Prop) (b:Bool) (s':Shared):Prop:=∃ H',Inv X pins σ H' s'∧Q b H'
def AP (X:Cx) (pins:List (Addr × Obj)) (σ:St) (Q:List V→Hp→Prop) (us:List Value) (s':Shared):Prop:=∃ vs H',Inv X pins σ H' s'∧Vals vs us∧Q vs H'
def SP (X:Cx) (pins:List (Addr × Obj)) (D:Ends) (f:Flow) (s':Shared):Prop :=
 match f with
 | .next=>∃ σ' H',Inv X pins σ' H' s'∧D.nx σ' H'
 | .brk=>∃ σ' H',Inv X pins σ' H' s'∧D.bk σ' H'
 | .cont=>∃ σ' H',Inv X pins σ' H' s'∧D.ct σ' H'
 | .ret u=>∃ v σ' H',Inv X pins σ' H' s'∧RelV v u∧D.rt v H'

def PE (X:Cx) (e:Expr) (t:TE):Prop :=
 ∀ (pins:List (Addr × Obj)) (s:Shared) (σ:St) (H:Hp) (Q:VK),Inv X pins σ H s→t σ H Q→wpAny (model X.prog X.w) X.A (eval e X.env) (EP X pins σ Q) X.xe s
def PT (X:Cx) (e:Expr) (t:TT):Prop :=
 ∀ (pins:List (Addr × Obj)) (s:Shared) (σ:St) (H:Hp) (Q:Bool→Hp→Prop),Inv X pins σ H s→t σ H Q→wpAny (model X.prog X.w) X.A (isTrue e X.env (eval e X.env)) (TP X pins σ Q) X.xe s
def PW (X:Cx) (e:Expr) (t:TT):Prop :=
 ∀ (whole:Sem Value) (pins:List (Addr × Obj)) (s:Shared) (σ:St) (H:Hp) (Q:Bool→Hp→Prop),Inv X pins σ H s→t σ H Q→wpAny (model X.prog X.w) X.A (isTrue e X.env whole) (TP X pins σ Q) X.xe s
theorem PW.pt {X:Cx} {e:Expr} {t:TT} (h:PW X e t):PT X e t:=h _
def PA (X:Cx) (es:List Expr) (t:TA):Prop :=
 ∀ (pos:Pos) (pins:List (Addr × Obj)) (s:Shared) (σ:St) (H:Hp) (Q:List V→Hp→Prop),Inv X pins σ H s→t σ H Q→wpAny (model X.prog X.w) X.A (spliced (backTo pos (starEach es X.env))) (AP X pins σ Q) X.xe s
def PS (X:Cx) (st:Stmt) (t:TS):Prop :=
 ∀ (pins:List (Addr × Obj)) (s:Shared) (σ:St) (H:Hp) (D:Ends),Inv X pins σ H s→t D σ H→wpAny (model X.prog X.w) X.A (exec st X.env) (SP X pins D) X.xe s
def PSs (X:Cx) (st:List Stmt) (t:TS):Prop :=
 ∀ (pins:List (Addr × Obj)) (s:Shared) (σ:St) (H:Hp) (D:Ends),Inv X pins σ H s→t D σ H→wpAny (model X.prog X.w) X.A (execs st X.env) (SP X pins D) X.xe s
theorem thn {α:Type} {t:Sem α} {Q Q':α→Shared→Prop} {M:Model} {A:Around} {E:Value→Shared→Prop} {s:Shared} (h:wpAny M A t Q E s) (hQ:∀ a s,Q a s→Q' a s):wpAny M A t Q' E s:=wpAny_mono h hQ fun _ _ x=>x
end L2

namespace L2
open PySem PySem.Spec PyProof.Rows
section
variable {X:Cx}

theorem bin {a b:Expr} {ta tb:TE} (ha:PE X a ta) (hb:PE X b tb) {pins:List (Addr × Obj)} {s:Shared} {σ:St} {H:Hp} {R:V→V→Hp→Prop} (I:Inv X pins σ H s) (h:ta σ H fun x H1=>tb σ H1 fun y H2=>R x y H2)
  {α:Type} {Q:α→Shared→Prop} {f:Value→Value→Sem α}
  (hf:∀ v u s2 x y H2,Inv X pins σ H2 s2→RelV x v→RelV y u→R x y H2→wpAny (model X.prog X.w) X.A (f v u) Q X.xe s2) :
  wpAny (model X.prog X.w) X.A (eval a X.env) (fun v s₁=>wpAny (model X.prog X.w) X.A (eval b X.env) (fun u s₂=>wpAny (model X.prog X.w) X.A (f v u) Q X.xe s₂) X.xe s₁) X.xe s:=by
 refine thn (ha pins s σ H _ I h) fun v s1 ⟨x,H1,I1,r1,q1⟩=>?_
 refine thn (hb pins s1 σ H1 _ I1 q1) fun u s2 ⟨y,H2,I2,r2,q2⟩=>?_
 exact hf v u s2 x y H2 I2 r1 r2 q2

inductive TVar (i:Nat) (σ:St) (H:Hp) (Q:VK):Prop where
 | mk (v:V) (e:σ[i]? = some (some v)) (q:Q v H)
def tVar (i:Nat):TE:=fun σ H Q=>TVar i σ H Q
def tC (v:V):TE:=fun _ H Q=>Q v H
theorem pe_var {i:Nat} {x:Str} {pos:Pos} (hN:X.N[i]? = some x) (hv:Vis X.env.scope x) (hd:(x == ("__debug__" : Str)) = false:=by decide) (hcd:(x == ("__classdict__" : Str)) = false:=by decide):PE X (.Name x pos) (tVar i):=by
 intro pins s σ H Q I h
 obtain ⟨v,e,h⟩:=h
 obtain ⟨m,hn,hl⟩:=I.loc
 obtain ⟨u,r,l⟩:=hl i x v hN e hv
 have fin:EP X pins σ Q u s:=⟨v,H,I,r,h⟩
 rcases l with ⟨hk,hm⟩ | ⟨hk,c,hc,hcell⟩
 ·exact wpAny_Name (wpAny_loadName_local I.ok.kind hk hn hm fin) hd
 ·rcases hk with hk | hk
  ·exact wpAny_Name (wpAny_loadName_cell I.ok.kind hk hc hcell fin) hd
  ·exact wpAny_Name (wpAny_loadName_free I.ok.kind hk hc hcell fin hcd) hd
theorem zAb {i j pos} : PE X (.Constant (.int i) j pos) (tC (.int i)):=fun _ _ _ H _ I h=>wpAny_Constant_int ⟨.int i,H,I.tok _,⟨_,rfl⟩,h⟩
theorem zE3 {b j pos} : PE X (.Constant (.bool b) j pos) (tC (.bl b)):=fun _ _ _ H _ I h=>Constant_bool ⟨.bl b,H,I,rfl,h⟩
theorem zBm {j pos} : PE X (.Constant .none j pos) (tC .non):=fun _ _ _ H _ I h=>Constant_none ⟨.non,H,I,rfl,h⟩
theorem zDc {x j pos} : PE X (.Constant (.str x) j pos) (tC (.str x)):=fun _ _ _ H _ I h=>Calls.Constant_str ⟨.str x,H,I.tok _,⟨_,rfl⟩,h⟩

def Gl (X:Cx) (x:Str):Prop:=X.env.kindOf x = some .globalImplicit
theorem zWf {E:Value→Shared→Prop} {pins:List (Addr × Obj)} {s:Shared} {σ:St} {H:Hp} {x:Str} {u:Value} {pos:Pos} {Q:Value→Shared→Prop} (I:Inv X pins σ H s) (hg:Gl X x) (hm:X.mg x = some u) (h:Q u s)
  (hd:(x == ("__debug__" : Str)) = false:=by decide):wpAny (model X.prog X.w) X.A (eval (.Name x pos) X.env) Q E s :=
 Calls.Name_function_global I.ok.kind hg (Calls.loadGlobal_global (by rw [I.ok.glob]; exact I.mod.glob.keeps I.bk) hm h) hd
theorem zLq {E:Value→Shared→Prop} {pins:List (Addr × Obj)} {s:Shared} {σ:St} {H:Hp} {x:Str} {u:Value} {pos:Pos} {Q:Value→Shared→Prop} (I:Inv X pins σ H s) (hg:Gl X x) (hm:X.mg x = none) (hv:bootBuiltins x = some u) (h:Q u s)
  (hn:x ≠ "__name__" := by decide) (hd:(x == ("__debug__" : Str)) = false:=by decide):wpAny (model X.prog X.w) X.A (eval (.Name x pos) X.env) Q E s:=by
 obtain ⟨mb,h1,h2⟩:=I.mod.blt
 exact Calls.Name_function_global I.ok.kind hg (Calls.loadGlobal_builtin (by rw [I.ok.glob]; exact I.mod.glob.keeps I.bk) hm (by rw [I.ok.blt]; exact h1.keeps I.bk) ((h2 x hn).trans hv) h) hd
theorem zFx {x:Str} {v:V} {u:Value} {pos:Pos} (hg:Gl X x) (hm:X.mg x = none) (hv:bootBuiltins x = some u) (r:RelV v u) (hn:x ≠ "__name__" := by decide) (hd:(x == ("__debug__" : Str)) = false:=by decide):PE X (.Name x pos) (tC v) :=
 fun _ _ _ H _ I h=>zLq I hg hm hv ⟨v,H,I,r,h⟩ hn hd

variable {a b:Expr} {ta tb:TE} {pos:Pos}
def PC (X:Cx) (op:CmpOp) (a b:Expr) (t:TE):Prop :=
 ∀ (pins:List (Addr × Obj)) (s:Shared) (σ:St) (H:Hp) (Q:VK),Inv X pins σ H s→t σ H Q →
  wpAny (model X.prog X.w) X.A (eval a X.env) (fun v s₁=>wpAny (model X.prog X.w) X.A (eval b X.env) (fun u s₂=>wpAny (model X.prog X.w) X.A (compareOp op v u) (EP X pins σ Q) X.xe s₂) X.xe s₁) X.xe s
def tB (t:TE):TT:=fun σ H Q=>t σ H fun x H1=>∃ c,x = .bl c∧Q c H1
theorem pt_cmp {op:CmpOp} {t:TE} (h:PC X op a b t) (h1:behindInMarks op b = false:=by first | exact nobehind _ (by decide) (by decide) | rfl):PT X (.Compare a [op] [b] pos) (tB t):=by
 intro pins s σ H Q I hw
 refine wpAny_isTrue_Compare1 (thn (h pins s σ H _ I hw) fun v s1 h1=>thn h1 fun u s2 h2=>thn h2 fun c s3 ⟨x,H1,I1,r1,q1⟩=>?_) h1
 obtain ⟨d,rfl,q⟩:=q1
 cases r1
 exact wpAny_truthy_bool ⟨H1,I1,q⟩
theorem zCv {e:Expr} {t:TE} (h:PE X e t) (he:∀ whole,isTrue e X.env whole = (do let v ← whole; standAt e.pos; holding [v] (truthy v)):=by intro _; rfl):PT X e (tB t):=by
 intro pins s σ H Q I hw
 refine isTrue_plain (thn (h pins s σ H _ I hw) fun v s1 ⟨x,H1,I1,r1,q1⟩=>?_) (he _)
 obtain ⟨d,rfl,q⟩:=q1
 cases r1
 exact wpAny_truthy_bool ⟨H1,I1,q⟩

variable {tA tB':TT} {rest:List Expr}
def tAnd (t u:TT):TT:=fun σ H Q=>t σ H fun c H1=>if c = true then u σ H1 Q else Q false H1
def tOr (t u:TT):TT:=fun σ H Q=>t σ H fun c H1=>if c = true then Q true H1 else u σ H1 Q
def tNot (t:TT):TT:=fun σ H Q=>t σ H fun c H1=>Q (!c) H1
theorem zEp (ha:PT X a tA):PW X (.BoolOp .And [a] pos) tA:=by
 intro wh pins s σ H Q I h
 refine isTrue_and (thn (ha pins s σ H Q I h) fun c s1 e=>?_)
 cases c with
 | true=>exact isTrue_and_nil e
 | false=>exact e
theorem zEl (ha:PT X a tA):PW X (.BoolOp .Or [a] pos) tA:=by
 intro wh pins s σ H Q I h
 refine isTrue_or (thn (ha pins s σ H Q I h) fun c s1 e=>?_)
 cases c with
 | false=>exact isTrue_or_nil e
 | true=>exact e
theorem zGb (ha:PT X a tA) (hb:PW X (.BoolOp .And (b :: rest) pos) tB'):PW X (.BoolOp .And (a :: b :: rest) pos) (tAnd tA tB'):=by
 intro wh pins s σ H Q I h
 refine isTrue_and (thn (ha pins s σ H _ I h) fun c s1 ⟨H1,I1,q1⟩=>?_)
 cases c with
 | true=>exact hb wh pins s1 σ H1 Q I1 q1
 | false=>exact ⟨H1,I1,q1⟩
theorem zGw (ha:PT X a tA) (hb:PW X (.BoolOp .Or (b :: rest) pos) tB'):PW X (.BoolOp .Or (a :: b :: rest) pos) (tOr tA tB'):=by
 intro wh pins s σ H Q I h
 refine isTrue_or (thn (ha pins s σ H _ I h) fun c s1 ⟨H1,I1,q1⟩=>?_)
 cases c with
 | true=>exact ⟨H1,I1,q1⟩
 | false=>exact hb wh pins s1 σ H1 Q I1 q1
theorem zDd (ha:PT X a tA):PT X (.UnaryOp .Not a pos) (tNot tA):=by
 intro pins s σ H Q I h
 exact isTrue_not (ha pins s σ H (fun c H1=>Q (!c) H1) I h)
def tAndV (ta tb:TE):TE:=fun σ H Q=>ta σ H fun x H1=>∃ c,x = .bl c∧if c = true then tb σ H1 Q else Q (.bl false) H1
def tNotV (ta:TE):TE:=fun σ H Q=>ta σ H fun x H1=>∃ c,x = .bl c∧Q (.bl (!c)) H1
theorem zIx {op} {t:TE} (h:PE X a t):PE X (.BoolOp op [a] pos) t:=fun pins s σ H Q I hw=>BoolOp_one (h pins s σ H Q I hw)
theorem zGa (ha:PE X a ta) (hb:PE X (.BoolOp .And (b :: rest) pos) tb):PE X (.BoolOp .And (a :: b :: rest) pos) (tAndV ta tb):=by
 intro pins s σ H Q I h
 refine BoolOp_and (thn (ha pins s σ H _ I h) fun v s1 ⟨x,H1,I1,r1,q1⟩=>?_)
 obtain ⟨c,rfl,q1⟩:=q1
 cases r1
 refine wpAny_truthy_bool ?_
 cases c with
 | true=>exact hb pins s1 σ H1 Q I1 q1
 | false=>exact ⟨.bl false,H1,I1,rfl,q1⟩
theorem zUx (ha:PE X a ta):PE X (.UnaryOp .Not a pos) (tNotV ta):=by
 intro pins s σ H Q I h
 refine UnaryOp_ (thn (ha pins s σ H _ I h) fun v s1 ⟨x,H1,I1,r1,q1⟩=>?_)
 obtain ⟨c,rfl,q1⟩:=q1
 cases r1
 exact not_of (wpAny_truthy_bool ⟨.bl (!c),H1,I1,rfl,q1⟩)
def tIf (t:TT) (ta tb:TE):TE:=fun σ H Q=>t σ H fun c H1=>if c = true then ta σ H1 Q else tb σ H1 Q
theorem zTz {c:Expr} (hc:PT X c tA) (ha:PE X a ta) (hb:PE X b tb):PE X (.IfExp c a b pos) (tIf tA ta tb):=by
 intro pins s σ H Q I h
 refine wpAny_IfExp (thn (hc pins s σ H _ I h) fun d s1 ⟨H1,I1,q1⟩=>?_)
 cases d with
 | true=>exact ha pins s1 σ H1 Q I1 q1
 | false=>exact hb pins s1 σ H1 Q I1 q1
end
end L2

namespace L2
open PySem PySem.Spec PyProof.Rows

def SqL (K:PySem.W.Frag) (H:Hp) (a:Addr) (xs:List V):Prop :=
 Rd H a (.lst xs) ∨
  ∃ (o:Obj) (its:Array Value) (n:Nat),K.lookup a = some o∧o.cls = .type "list" ∧ o.dict = none∧o.data = .seq its n∧its.size≤sizeLine∧Vals xs its.toList
def SqT (K:PySem.W.Frag) (H:Hp) (a:Addr) (xs:List V):Prop :=
 Rd H a (.tup xs) ∨
  ∃ (o:Obj) (its:Array Value) (n:Nat),K.lookup a = some o∧o.cls = .type "tuple" ∧ o.data = .seq its n∧its.size≤sizeLine∧Vals xs its.toList
def absV:Value→Option V
 | .none=>some .non
 | .bool b=>some (.bl b)
 | .int i _=>some (.int i)
 | .str x _=>some (.str x)
 | .bytes b _=>some (.byt b)
 | .float b _=>some (.flt b)
 | .ref a=>some (.ref a)
 | .type n=>some (.ty n)
 | _=>none
theorem RelV.abs {x:V} {u:Value} (r:RelV x u):absV u = some x:=by
 cases x with
 | non=>cases r; rfl
 | bl _=>cases r; rfl
 | int _=>obtain ⟨t,rfl⟩:=r; rfl
 | str _=>obtain ⟨t,rfl⟩:=r; rfl
 | byt _=>obtain ⟨t,rfl⟩:=r; rfl
 | flt _=>obtain ⟨t,rfl⟩:=r; rfl
 | ref _=>cases r; rfl
 | ty _=>cases r; rfl
theorem RelV.inj {x y:V} {u:Value} (r:RelV x u) (q:RelV y u):x = y:=Option.some.inj (r.abs.symm.trans q.abs)
theorem Vals.inj:∀ {xs ys:List V} {us:List Value},Vals xs us→Vals ys us→xs = ys
 | _,_,_,.nil,.nil=>rfl
 | _,_,_,.cons r t,.cons r' t'=>by rw [r.inj r',Vals.inj t t']
section
variable {X:Cx} {pins:List (Addr × Obj)} {σ:St} {H:Hp} {s:Shared} {a:Addr} {xs ys:List V}
theorem SqL.of {K:PySem.W.Frag} (h:H a = some (.lst xs)):SqL K H a xs:=.inl (.inl h)
theorem SqT.of {K:PySem.W.Frag} (h:H a = some (.tup xs)):SqT K H a xs:=.inl (.inl h)
theorem Inv.list (I:Inv X pins σ H s) (h:SqL X.K H a xs):∃ its:List Value,Vals xs its∧PlainL s.heap a its.toArray∧xs.length≤sizeLine:=by
 rcases h with h | ⟨o,its,n,hk,hc,hd,hs,hz,r⟩
 ·obtain ⟨z,its,n,r,e⟩:=h.ok I.hok
  exact ⟨its,r,⟨_,n,e,rfl,rfl,rfl⟩,z⟩
 ·refine ⟨its.toList,r,⟨o,n,I.kIn a o hk,hc,hd,by simpa using hs⟩,?_⟩
  have e:=r.length
  simp only [Array.length_toList] at e
  omega
theorem Inv.tuple (I:Inv X pins σ H s) (h:SqT X.K H a xs):∃ its:List Value,Vals xs its∧IsTup s.heap a its.toArray∧xs.length≤sizeLine:=by
 rcases h with h | ⟨o,its,n,hk,hc,hs,hz,r⟩
 ·obtain ⟨z,its,r,p⟩:=h.ok I.hok
  exact ⟨its,r,p,z⟩
 ·refine ⟨its.toList,r,⟨o,I.kIn a o hk,hc,n,by simpa using hs⟩,?_⟩
  have e:=r.length
  simp only [Array.length_toList] at e
  omega
theorem Inv.list_inj (I:Inv X pins σ H s) (h:SqL X.K H a xs) (h':SqL X.K H a ys):xs = ys:=by
 obtain ⟨its,r,⟨o,n,e,_,_,d⟩,_⟩:=I.list h
 obtain ⟨its',r',⟨o',n',e',_,_,d'⟩,_⟩:=I.list h'
 rw [e] at e'; cases e'
 rw [d] at d'
 injection d' with d1 _
 have:its = its':=by simpa using congrArg Array.toList d1
 subst this
 exact r.inj r'
theorem Inv.tuple_inj (I:Inv X pins σ H s) (h:SqT X.K H a xs) (h':SqT X.K H a ys):xs = ys:=by
 obtain ⟨its,r,⟨o,e,_,n,d⟩,_⟩:=I.tuple h
 obtain ⟨its',r',⟨o',e',_,n',d'⟩,_⟩:=I.tuple h'
 rw [e] at e'; cases e'
 rw [d] at d'
 injection d' with d1 _
 have:its = its':=by simpa using congrArg Array.toList d1
 subst this
 exact r.inj r'
end

abbrev Cx.wish (X:Cx) (E:Value→Shared→Prop):Cx:={ X with xe:=E }
abbrev Cx.nox (X:Cx):Cx:=X.wish fun _ _=>False
theorem Cx.Ok.wish {X:Cx} (ok:X.Ok) (E:Value→Shared→Prop):(X.wish E).Ok :=
 ⟨ok.mod,ok.kind,ok.glob,ok.blt,ok.above,ok.inj,ok.has,ok.cab,ok.hd,ok.frames,ok.stk,ok.exf,ok.bs,ok.bsz,ok.noex,ok.exfs,ok.funs,ok.frf⟩
theorem Cx.Ok.unwish {X:Cx} {E:Value→Shared→Prop} (ok:(X.wish E).Ok):X.Ok :=
 ⟨ok.mod,ok.kind,ok.glob,ok.blt,ok.above,ok.inj,ok.has,ok.cab,ok.hd,ok.frames,ok.stk,ok.exf,ok.bs,ok.bsz,ok.noex,ok.exfs,ok.funs,ok.frf⟩
section
variable {X:Cx} {pins:List (Addr × Obj)} {σ:St} {H:Hp} {s:Shared} {E:Value→Shared→Prop}
theorem Inv.wish (I:Inv X pins σ H s) (E:Value→Shared→Prop):Inv (X.wish E) pins σ H s:=⟨I.ok.wish E,I.os,I.bare,I.base,I.loc,I.cell,I.free,I.freeC,I.pin,I.hok,I.len⟩
theorem Inv.unwish (I:Inv (X.wish E) pins σ H s):Inv X pins σ H s:=⟨I.ok.unwish,I.os,I.bare,I.base,I.loc,I.cell,I.free,I.freeC,I.pin,I.hok,I.len⟩
theorem SP.unwish {D:Ends} {f:Flow} {s':Shared} (h:SP (X.wish E) pins D f s'):SP X pins D f s':=by
 cases f with
 | next=>obtain ⟨σ',H',I,q⟩:=h; exact ⟨σ',H',I.unwish,q⟩
 | brk=>obtain ⟨σ',H',I,q⟩:=h; exact ⟨σ',H',I.unwish,q⟩
 | cont=>obtain ⟨σ',H',I,q⟩:=h; exact ⟨σ',H',I.unwish,q⟩
 | ret u=>obtain ⟨v,σ',H',I,r,q⟩:=h; exact ⟨v,σ',H',I.unwish,r,q⟩
theorem PSs.nox {st:List Stmt} {t:TS} (h:PSs X.nox st t):PSs X st t:=fun pins s σ H D I hw =>
 wpAny_mono (h pins s σ H D (I.wish _) hw) (fun _ _ q=>q.unwish) fun _ _ z=>False.elim z
end

section
variable {X:Cx} {st:Stmt} {rest:List Stmt} {t u:TS} {e:Expr} {te:TE} {pos:Pos}
def tNext:TS:=fun D σ H=>D.nx σ H
def tSeq (t u:TS):TS:=fun D σ H=>t { D with nx:=u D } σ H
theorem zAx:PSs X [] tNext:=fun _ _ σ H _ I h=>wpAny_execs_nil ⟨σ,H,I,h⟩
theorem zAf (h1:PS X st t) (h2:PSs X rest u):PSs X (st :: rest) (tSeq t u):=by
 intro pins s σ H D I h
 refine wpAny_execs_cons (thn (h1 pins s σ H { D with nx:=u D } I h) fun f s1 q=>?_)
 cases f with
 | next =>
  obtain ⟨σ',H',I',q⟩:=q
  exact h2 pins s1 σ' H' D I' q
 | ret v=>exact q
 | brk=>exact q
 | cont=>exact q
theorem zAi (h1:PS X st t):PSs X [st] t:=by
 intro pins s σ H D I h
 refine wpAny_execs_cons (thn (h1 pins s σ H D I h) fun f s1 q=>?_)
 cases f with
 | next=>exact wpAny_execs_nil q
 | ret v=>exact q
 | brk=>exact q
 | cont=>exact q
theorem Inv.quiet {pins:List (Addr × Obj)} {σ:St} {H:Hp} {s:Shared} (I:Inv X pins σ H s):interactive X.env = false:=by simp [interactive,I.ok.kind]
def tDrop (te:TE):TS:=fun D σ H=>te σ H fun _ H1=>D.nx σ H1
theorem zFl (he:PE X e te) (hs:swapsWith e none pos.line X.env = pure false:=by rfl):PS X (.Expr e pos) (tDrop te):=by
 intro pins s σ H D I h
 exact wpAny_Expr_any (thn (he pins s σ H _ I h) fun v s1 ⟨x,H1,I1,r1,q1⟩=>⟨σ,H1,I1,q1⟩) I.quiet hs
def tRet (te:TE):TS:=fun D σ H=>te σ H D.rt
theorem zAr (he:PE X e te):PS X (.Return (some e) pos) (tRet te):=by
 intro pins s σ H D I h
 exact wpAny_Return_some (thn (he pins s σ H _ I h) fun v s1 ⟨x,H1,I1,r1,q1⟩=>⟨x,σ,H1,I1,r1,q1⟩)
def tIfS (c:TT) (t u:TS):TS:=fun D σ H=>c σ H fun b H1=>if b = true then t D σ H1 else u D σ H1
theorem zA8 {c:Expr} {a b:List Stmt} {tc:TT} (hc:PT X c tc) (ha:PSs X a t) (hb:PSs X b u):PS X (.If c a b pos) (tIfS tc t u):=by
 intro pins s σ H D I h
 refine wpAny_If (thn (hc pins s σ H _ I h) fun d s1 ⟨H1,I1,q1⟩=>?_)
 cases d with
 | true=>exact ha pins s1 σ H1 D I1 q1
 | false=>exact hb pins s1 σ H1 D I1 q1
end

abbrev TG:=V→St→Hp→(St→Hp→Prop)→Prop
abbrev TGs:=List V→St→Hp→(St→Hp→Prop)→Prop
def PG (X:Cx) (target:Expr) (t:TG):Prop :=
 ∀ (pins:List (Addr × Obj)) (s:Shared) (σ:St) (H:Hp) (v:V) (u:Value) (Q:St→Hp→Prop),Inv X pins σ H s→RelV v u→t v σ H Q →
  wpAny (model X.prog X.w) X.A (assign target X.env u) (fun _ s'=>∃ σ' H',Inv X pins σ' H' s'∧Q σ' H') X.xe s
def PGs (X:Cx) (ts:List Expr) (t:TGs):Prop :=
 ∀ (pins:List (Addr × Obj)) (s:Shared) (σ:St) (H:Hp) (vs:List V) (us:List Value) (Q:St→Hp→Prop),Inv X pins σ H s→Vals vs us→t vs σ H Q →
  wpAny (model X.prog X.w) X.A (assignInOrder ((assignEach ts X.env).map (·.2)) us) (fun _ s'=>∃ σ' H',Inv X pins σ' H' s'∧Q σ' H') X.xe s
abbrev TSet:=V→V→V→Hp→(Hp→Prop)→Prop
def PSet (X:Cx) (t:TSet):Prop :=
 ∀ (pins:List (Addr × Obj)) (s:Shared) (σ:St) (H:Hp) (o i v:V) (ov iv u:Value) (Q:Hp→Prop),Inv X pins σ H s→RelV o ov→RelV i iv→RelV v u→t o i v H Q →
  wpAny (model X.prog X.w) X.A (setItem ov iv u) (fun _ s'=>∃ H',Inv X pins σ H' s'∧Q H') X.xe s
section
variable {X:Cx} {pos:Pos}
def zUc (i:Nat):TG:=fun v σ H Q=>Q (σ.set i (some v)) H
theorem zAq {i:Nat} {x:Str} (hN:X.N.Nodup) (hi:X.N[i]? = some x) (hx:Loc X.env.scope x) (hf:X.fn x = true∨X.env.scope.names.lookup x = some .local:=by first | exact .inl rfl | exact .inr rfl | assumption):PG X (.Name x pos) (zUc i):=by
 intro pins s σ H v u Q I r h
 exact wpAny_assign_Name (zFm I hN hi hx r (fun s' I'=>⟨_,H,I',h⟩) hf)
def gNil:TGs:=fun vs σ H Q=>vs = []∧Q σ H
def gCons (t:TG) (u:TGs):TGs:=fun vs σ H Q=>∃ v r,vs = v :: r∧t v σ H fun σ' H'=>u r σ' H' Q
theorem zBf:PGs X [] gNil:=by
 intro pins s σ H vs us Q I r h
 obtain ⟨e,h⟩:=h
 subst e
 cases r
 exact assignInOrder_nil ⟨σ,H,I,h⟩
theorem zAs {e:Expr} {es:List Expr} {t:TG} {u:TGs} (h1:PG X e t) (h2:PGs X es u)
  (hs:(assignEach (e :: es) X.env).map (·.2) = assign e X.env :: (assignEach es X.env).map (·.2):=by rfl):PGs X (e :: es) (gCons t u):=by
 intro pins s σ H vs us Q I r h
 obtain ⟨v,vr,e1,h⟩:=h
 subst e1
 cases r with
 | cons r rr =>
  rw [hs]
  refine assignInOrder_cons (thn (h1 pins s σ H _ _ _ I r h) fun _ s1 ⟨σ1,H1,I1,q1⟩=>?_)
  exact h2 pins s1 σ1 H1 _ _ Q I1 rr q1
def gTup (K:PySem.W.Frag) (n:Nat) (t:TGs):TG:=fun v σ H Q=>∃ a xs,v = .ref a∧SqT K H a xs∧xs.length = n∧t xs σ H Q
theorem zB5 {es:List Expr} {k:Nat} {t:TGs} {n:Nat} (hc:X.calm = true) (h:PGs X es t)
  (hn:(assignEach es X.env).length = n:=by rfl) (hst:(assignEach es X.env).findIdx? (·.1) = none:=by rfl):PG X (.Tuple es k pos) (gTup X.K n t):=by
 intro pins s σ H v u Q I r hw
 obtain ⟨a,xs,e1,hq,hl,hw⟩:=hw
 subst e1
 cases r
 obtain ⟨its,rv,ht,hz⟩:=I.tuple hq
 refine assign_Tuple_tuple (I.ok.hd hc) ht (by simp [hn,← hl,rv.length]) hst fun h' hx=>?_
 have I1:Inv X pins σ H { s with heap:=h' }:=I.kept (t':=s.toks) fun b o e=>hx b o (Nat.ne_of_lt (Heap.lt_size e)) e
 exact h pins _ σ H xs _ Q I1 (by simpa using rv) hw
def gSub (to ti:TE) (t:TSet):TG:=fun v σ H Q=>to σ H fun o H1=>ti σ H1 fun i H2=>t o i v H2 fun H3=>Q σ H3
theorem pg_sub {o i:Expr} {to ti:TE} {t:TSet} (ho:PE X o to) (hi:PE X i ti) (hs:PSet X t)
  (ha:∀ v,assign (.Subscript o i pos) X.env v = (do
   let ov ← holding [v] (eval o X.env)
   let iv ← holding [v,ov] (eval i X.env)
   standAt pos
   holding [v,ov,iv] (setItem ov iv v)
   release [v,ov,iv] []):=by intro _; rfl):PG X (.Subscript o i pos) (gSub to ti t):=by
 intro pins s σ H v u Q I r h
 rw [ha]
 refine wpAny_bind (wpAny_holding (thn (ho pins s σ H _ I h) fun ov s1 ⟨x,H1,I1,r1,q1⟩=>?_))
 refine wpAny_bind (wpAny_holding (thn (hi pins s1 σ H1 _ I1 q1) fun iv s2 ⟨y,H2,I2,r2,q2⟩=>?_))
 refine wpAny_bind (wpAny_standAt (wpAny_bind (wpAny_holding (thn (hs pins s2 σ H2 x y v ov iv u _ I2 r1 r2 r q2) fun _ s3 ⟨H3,I3,q3⟩=>?_))))
 exact wpAny_release ⟨σ,H3,I3,q3⟩
def tAsg (te:TE) (g:TG):TS:=fun D σ H=>te σ H fun x H1=>g x σ H1 D.nx
theorem zEw {tg e:Expr} {te:TE} {g:TG} (he:PE X e te) (hg:PG X tg g) (hs:swapsWithSole [tg] e pos.line X.env = pure false:=by rfl) (hw:swappedStores [tg] e X.env = pure none:=by rfl)
  (h1:(assignEach [tg] X.env).map (·.2) = [assign tg X.env]:=by rfl):PS X (.Assign [tg] e pos) (tAsg te g):=by
 intro pins s σ H D I h
 refine wpAny_Assign_stores (thn (he pins s σ H _ I h) fun v s1 ⟨x,H1,I1,r1,q1⟩=>?_) hs hw
 rw [h1]
 exact thn (hg pins s1 σ H1 x v _ I1 r1 q1) fun _ s2 q=>q
theorem zAw {i:Nat} {x:Str} {e:Expr} {te:TE} {pos':Pos} (hN:X.N.Nodup) (hi:X.N[i]? = some x) (hx:Loc X.env.scope x) (he:PE X e te) (hs:swapsWith e (some (.Name x pos')) pos.line X.env = pure false:=by rfl) (hf:X.fn x = true∨X.env.scope.names.lookup x = some .local:=by first | exact .inl rfl | exact .inr rfl | assumption) :
  PS X (.Assign [.Name x pos'] e pos) (tAsg te (zUc i)):=by
 intro pins s σ H D I h
 refine wpAny_Assign_Name (thn (he pins s σ H _ I h) fun v s1 ⟨y,H1,I1,r1,q1⟩=>?_) hs
 exact zFm I1 hN hi hx r1 (fun s2 I2=>⟨_,H1,I2,q1⟩) hf
def tPar (i j:Nat) (ta:TA):TS:=fun D σ H=>ta σ H fun vs H1=>∃ v w,vs = [v,w]∧D.nx ((σ.set i (some v)).set j (some w)) H1
theorem zRm {i j:Nat} {x y:Str} {a b:Expr} {ta:TA} {px py pt:Pos} {kt k2 pt2} (hc:X.calm = true) (hN:X.N.Nodup) (hi:X.N[i]? = some x) (hj:X.N[j]? = some y) (hij:i≠j)
  (hx:X.env.scope.names.lookup x = some .local) (hy:X.env.scope.names.lookup y = some .local) (ha:PA X [a,b] ta)
  (hw:swappedStores [.Tuple [.Name x px,.Name y py] kt pt] (.Tuple [a,b] k2 pt2) X.env = pure (some [x,y]))
  (hs:swapsWithSole [.Tuple [.Name x px,.Name y py] kt pt] (.Tuple [a,b] k2 pt2) pos.line X.env = pure false:=by rfl) :
  PS X (.Assign [.Tuple [.Name x px,.Name y py] kt pt] (.Tuple [a,b] k2 pt2) pos) (tPar i j ta):=by
 intro pins s σ H D I h
 rw [exec_Assign_arm]
 refine wpAny_bind (wpAny_standAt ?_)
 rw [hs]
 refine wpAny_bind (wpAny_pure ?_)
 rw [if_neg (by decide)]
 refine wpAny_bind (Tuple_ (thn (ha _ pins s σ H _ I h) fun us s1 ⟨vs,H1,I1,r1,q1⟩=>?_))
 obtain ⟨v,w,e1,q1⟩:=q1
 subst e1
 obtain ⟨u1,u2,rfl,rv,rw'⟩:∃ u1 u2,us = [u1,u2]∧RelV v u1∧RelV w u2:=by
  cases r1 with
  | cons p q =>
   cases q with
   | cons p' q' =>
    cases q'
    exact ⟨_,_,rfl,p,p'⟩
 refine wpAny_newObj_type ?_ (by show 2≤sizeLine; decide)
 have I2:Inv X pins σ H1 { s1 with heap:=s1.heap.push { cls:=.type "tuple", data:=.seq [u1,u2].toArray } }:=I1.kept (t':=s1.toks) fun b o e=>Heap.get?_push_of_some _ e
 rw [hw]
 refine wpAny_bind (wpAny_pure ?_)
 show wpAny (model X.prog X.w) X.A (do rule "assign.swapped-stores"; let items ← unpackItems (.ref s1.heap.objs.size) 2 none; assignInOrder [fun v=>bindName X.env y v,fun v=>bindName X.env x v] items.reverse; pure Flow.next) _ _ _
 refine wpAny_bind (wpAny_rule (wpAny_bind (unpackItems_tuple (items:=#[u1,u2]) (I.ok.hd hc) (IsTup.new s1.heap _) fun h' hx'=>?_)))
 have I3:=I2.kept (h':=h') (t':=s1.toks) fun b o e=>hx' b o (Nat.ne_of_lt (Heap.lt_size e)) e
 show wpAny _ _ (assignInOrder [fun v=>bindName X.env y v,fun v=>bindName X.env x v] [u2,u1] >>= fun _=>pure Flow.next) _ _ _
 refine wpAny_bind (assignInOrder_cons (wpAny_bindName (zFm I3 hN hj (.inl hy) rw' (fun s2 I4=>?_) (.inr hy))))
 refine assignInOrder_cons (wpAny_bindName (zFm I4 hN hi (.inl hx) rv (fun s3 I5=>assignInOrder_nil (wpAny_pure ?_)) (.inr hx)))
 rw [List.set_comm _ _ (Ne.symm hij)] at I5
 exact ⟨_,H1,I5,q1⟩
end

section
variable {X:Cx} {pos:Pos}
def zUy (c:TT) (tb:TS):TS:=fun D σ H=>∃ W:Nat→St→Hp→Prop,(∃ m,W m σ H)∧∀ m σ H,W m σ H →
 c σ H fun b H1=>if b = true then ∃ N:St→Hp→Prop,(∀ σ' H',N σ' H'→∃ m',m' < m∧W m' σ' H')∧tb { D with nx:=N,ct:=N,bk:=D.nx } σ H1 else D.nx σ H1
theorem zJe {c:Expr} {body:List Stmt} {tc:TT} {tb:TS} (hp:PassesOwn (model X.prog X.w) X.A X.env X.xe) (hc:PT X c tc) (hb:PSs X body tb):PS X (.While c body [] pos) (zUy tc tb):=by
 intro pins s σ H D I h
 obtain ⟨W,⟨m0,w0⟩,turn⟩:=h
 refine wpAny_While (codeAny_whileLoop (fun n s'=>∃ σ' H',Inv X pins σ' H' s'∧W n σ' H') ?_ m0 ⟨σ,H,I,w0⟩)
 rintro n s1 ⟨σ1,H1,I1,w1⟩
 refine wpAny_passesOwn hp (thn (hc pins s1 σ1 H1 _ I1 (turn n σ1 H1 w1)) fun b s2 ⟨H2,I2,q2⟩=>?_)
 cases b with
 | true =>
  obtain ⟨N,hN,q2⟩:=q2
  rw [if_pos rfl]
  refine wpAny_passesOwn hp (thn (hb pins s2 σ1 H2 _ I2 q2) fun f s3 q3=>?_)
  cases f with
  | next =>
   obtain ⟨σ3,H3,I3,n3⟩:=q3
   obtain ⟨m',hm,w3⟩:=hN σ3 H3 n3
   exact ⟨m',hm,σ3,H3,I3,w3⟩
  | cont =>
   obtain ⟨σ3,H3,I3,n3⟩:=q3
   obtain ⟨m',hm,w3⟩:=hN σ3 H3 n3
   exact ⟨m',hm,σ3,H3,I3,w3⟩
  | brk=>exact q3
  | ret v=>exact q3
 | false =>
  rw [if_neg Bool.false_ne_true]
  exact wpAny_execs_nil ⟨σ1,H2,I2,q2⟩
end

structure It where
 go:Nat→Hp→Prop
 yld:Nat→Hp→V→Hp→Prop
 stop:Nat→Hp→Prop
def FpOk (X:Cx) (pins:List (Addr × Obj)) (H:Hp) (b:Addr):Prop :=
 H b = none∧b≠X.env.locals∧b ∉ X.fs∧(b∈X.ex∨X.s₀.heap.objs.size≤b)∧(∀ x c,X.env.cells.lookup x = some c→c≠b)∧∀ p∈X.pn ++ pins,p.1≠b
theorem Inv.fpOk {X:Cx} {pins:List (Addr × Obj)} {σ:St} {H H':Hp} {s:Shared} {b:Addr} (I:Inv X pins σ H s) (hb:s.heap.objs.size≤b) (hn:H' b = none):FpOk X pins H' b:=by
 refine ⟨hn,Nat.ne_of_gt (Nat.lt_of_lt_of_le I.lt hb),I.nofs hb,.inr (Nat.le_trans I.sz hb),fun x c e z=>?_,fun p hp z=>?_⟩
 ·obtain ⟨v,q⟩:=I.cell x c e
  exact absurd (Nat.lt_of_lt_of_le q.lt (by rw [z]; exact hb)) (Nat.lt_irrefl _)
 ·exact absurd (Nat.lt_of_lt_of_le (Heap.lt_size (I.pin p hp).1) (by rw [z]; exact hb)) (Nat.lt_irrefl _)
structure Turn (P:Program) (w:World) (K:PySem.W.Frag) (tg:Expr) (J:It) (fp:List Addr) (it:Addr) (tn:Nat→Heap→Prop):Prop where
 mem:it∈fp
 obj:∀ i h,tn i h→∀ b∈fp,∃ o,h.get? b = some o∧∀ v,o.data≠.cell v
 keep:∀ i h h',tn i h→(∀ b∈fp,∀ o,h.get? b = some o→h'.get? b = some o)→tn i h'
 item:∀ (X:Cx),X.prog = P→X.w = w→X.K = K→X.calm = true→∀ (i:Nat) (pins:List (Addr × Obj)) (s:Shared) (σ:St) (H:Hp) (E:Value→Shared→Prop),Inv X pins σ H s→(∀ b∈fp,FpOk X pins H b)→tn i s.heap→J.go i H →
  wpAny (model P w) X.A (pyNext (.ref it)) (fun r s1=>∃ u,r = some u ∧
   wpAny (model P w) X.A (letOwnedTupleGo tg (.ref it) u) (fun _ s2=>∃ x H',Inv X pins σ H' s2∧RelV x u∧J.yld i H x H'∧tn (i + 1) s2.heap∧∀ b∈fp,H' b = none) E s1) E s
 done:∀ (X:Cx),X.prog = P→X.w = w→X.K = K→X.calm = true→∀ (i:Nat) (pins:List (Addr × Obj)) (s:Shared) (σ:St) (H:Hp) (E:Value→Shared→Prop),Inv X pins σ H s→(∀ b∈fp,FpOk X pins H b)→tn i s.heap→J.stop i H →
  wpAny (model P w) X.A (pyNext (.ref it)) (fun r s1=>r = none∧Inv X pins σ H s1) E s
 self:∀ (A:Around) (i:Nat) (s:Shared) (Q:Value→Shared→Prop) (E:Value→Shared→Prop),tn i s.heap→Q (.ref it) s→wpAny (model P w) A (pyIter (.ref it)) Q E s
abbrev TI:=St→Hp→(It→Hp→Prop)→Prop
def PIE (X:Cx) (pins:List (Addr × Obj)) (σ:St) (tg:Expr) (R:It→Hp→Prop) (itv:Value) (s2:Shared):Prop :=
 ∃ (it:Addr) (fp:List Addr) (tn:Nat→Heap→Prop) (J:It) (H':Hp),itv = .ref it∧Inv X pins σ H' s2∧Turn X.prog X.w X.K tg J fp it tn∧tn 0 s2.heap∧(∀ b∈fp,FpOk X pins H' b)∧R J H'
def PI (X:Cx) (tg iter:Expr) (wi:TI):Prop :=
 ∀ (pins:List (Addr × Obj)) (s:Shared) (σ:St) (H:Hp) (R:It→Hp→Prop),Inv X pins σ H s→wi σ H R →
  wpAny (model X.prog X.w) X.A (eval iter X.env) (fun v s1=>wpAny (model X.prog X.w) X.A (pyIter v) (PIE X pins σ tg R) X.xe s1) X.xe s

theorem zV9 {M:Model} {A:Around} {E:Value→Shared→Prop} {s:Shared} {tg:Expr} {it:Addr} {u:Value} {o:Obj} {n:String} {vs:Array Value} {Q:Unit→Shared→Prop} (ho:s.heap.get? it = some o) (hc:o.cls = .type n) (hd:o.data = .fields vs)
  (hn:["enumerate", "zip", "dict_itemiterator", "dict_reverseitemiterator", "odict_iterator", "itertools.zip_longest", "itertools.pairwise"].contains n = false) (hQ:Q () s):wpAny M A (letOwnedTupleGo tg (.ref it) u) Q E s:=by
 unfold letOwnedTupleGo
 cases tg <;> first
  | exact wpAny_pure hQ
  | (cases u <;> first
    | exact wpAny_pure hQ
    | (refine wpAny_bind (wpAny_load ho ?_)
       rw [hc,hd]
       show wpAny M A (if (["enumerate", "zip", "dict_itemiterator", "dict_reverseitemiterator", "odict_iterator", "itertools.zip_longest", "itertools.pairwise"].contains n && vs[0]? == some (rawInt _)) = true then _ else _) Q E s
       rw [if_neg (by intro h; rw [hn,Bool.false_and] at h; cases h)]
       exact wpAny_pure hQ))

def Itl (K:PySem.W.Frag) (a:Addr):It :=
 ⟨fun i H=>∃ xs x,SqL K H a xs∧xs[i]? = some x,fun i H x H'=>H' = H∧∀ xs,SqL K H a xs→xs[i]? = some x,fun i H=>∃ xs,SqL K H a xs∧xs.length≤i⟩
def Itt (K:PySem.W.Frag) (a:Addr):It :=
 ⟨fun i H=>∃ xs x,SqT K H a xs∧xs[i]? = some x,fun i H x H'=>H' = H∧∀ xs,SqT K H a xs→xs[i]? = some x,fun i H=>∃ xs,SqT K H a xs∧xs.length≤i⟩
def Itr (lo:Int) (n:Nat):It:=⟨fun i _=>i < n,fun i H x H'=>H' = H∧x = .int (lo + i),fun i _=>n≤i⟩
theorem zNo {P:Program} {w:World} {K:PySem.W.Frag} {tg:Expr} (a it:Addr):Turn P w K tg (Itl K a) [it] it (fun i h=>h.IsListIter it a i) where
 mem:=by simp
 obj:=fun i h st b hb=>by
  have e:b = it:=by simpa using hb
  subst e
  obtain ⟨o,e,c,d⟩:=st
  exact ⟨o,e,fun v z=>by rw [d] at z; cases z⟩
 keep:=fun i h h' st k=>st.at fun o e=>k it (by simp) o e
 item:=by
  intro X hP hw hK hc i pins s σ H E I hf st hg
  subst hP hw hK
  obtain ⟨xs,x,hq,hx⟩:=hg
  obtain ⟨its,rv,p,hz⟩:=I.list hq
  obtain ⟨u,hu,ru⟩:=rv.get hx
  obtain ⟨f0,f1,f2,f3,f4,f5⟩:=hf it (by simp)
  refine wpAny_pyNext_list_item st p.isList (x:=u) (by simpa using hu) fun h' st' sb=>?_
  have I1:Inv X pins σ H { s with heap:=h' }:=I.turned (t':=s.toks) (fun b o hb e=>(sb.2 b hb).trans e) f0 f1 f3 f4 f5
  obtain ⟨o,e,c,d⟩:=id st'
  exact ⟨u,rfl,zV9 (s:={ s with heap:=h' }) e c d (by decide) ⟨x,H,I1,ru,⟨rfl,fun ys hy=>by rw [I.list_inj hy hq]; exact hx⟩,st',fun b hb=>(hf b hb).1⟩⟩
 done:=by
  intro X hP hw hK hc i pins s σ H E I hf st hg
  subst hP hw hK
  obtain ⟨xs,hq,hx⟩:=hg
  obtain ⟨its,rv,p,hz⟩:=I.list hq
  obtain ⟨f0,f1,f2,f3,f4,f5⟩:=hf it (by simp)
  have hl:=rv.length
  exact wpAny_pyNext_list_end (I.ok.hd hc) st p.isList (by simp; omega) fun h' eb=>⟨rfl,I.turned (t':=s.toks) (fun b o hb e=>eb b o hb e) f0 f1 f3 f4 f5⟩
 self:=fun _ _ _ _ _ st h=>wpAny_pyIter_listiter st h
theorem zPv {P:Program} {w:World} {K:PySem.W.Frag} {tg:Expr} (a it:Addr):Turn P w K tg (Itt K a) [it] it (fun i h=>h.IsTupleIter it a i) where
 mem:=by simp
 obj:=fun i h st b hb=>by
  have e:b = it:=by simpa using hb
  subst e
  obtain ⟨o,e,c,d⟩:=st
  exact ⟨o,e,fun v z=>by rw [d] at z; cases z⟩
 keep:=fun i h h' st k=>st.at fun o e=>k it (by simp) o e
 item:=by
  intro X hP hw hK hc i pins s σ H E I hf st hg
  subst hP hw hK
  obtain ⟨xs,x,hq,hx⟩:=hg
  obtain ⟨its,rv,p,hz⟩:=I.tuple hq
  obtain ⟨u,hu,ru⟩:=rv.get hx
  obtain ⟨f0,f1,f2,f3,f4,f5⟩:=hf it (by simp)
  refine wpAny_pyNext_tuple_item st (show s.heap.IsTuple a its.toArray from p) (x:=u) (by simpa using hu) fun h' st' sb=>?_
  have I1:Inv X pins σ H { s with heap:=h' }:=I.turned (t':=s.toks) (fun b o hb e=>(sb.2 b hb).trans e) f0 f1 f3 f4 f5
  obtain ⟨o,e,c,d⟩:=id st'
  exact ⟨u,rfl,zV9 (s:={ s with heap:=h' }) e c d (by decide) ⟨x,H,I1,ru,⟨rfl,fun ys hy=>by rw [I.tuple_inj hy hq]; exact hx⟩,st',fun b hb=>(hf b hb).1⟩⟩
 done:=by
  intro X hP hw hK hc i pins s σ H E I hf st hg
  subst hP hw hK
  obtain ⟨xs,hq,hx⟩:=hg
  obtain ⟨its,rv,p,hz⟩:=I.tuple hq
  obtain ⟨f0,f1,f2,f3,f4,f5⟩:=hf it (by simp)
  have hl:=rv.length
  exact wpAny_pyNext_tuple_end (I.ok.hd hc) st (show s.heap.IsTuple a its.toArray from p) (by simp; omega) fun h' eb=>⟨rfl,I.turned (t':=s.toks) (fun b o hb e=>eb b o hb e) f0 f1 f3 f4 f5⟩
 self:=fun _ _ _ _ _ st h=>wpAny_pyIter_tupleiter st h
theorem zQi {P:Program} {w:World} {K:PySem.W.Frag} {tg:Expr} (it:Addr) (lo:Int) (n:Nat):Turn P w K tg (Itr lo n) [it] it (fun i h=>IsRangeIter h it (lo + (i:Nat) * 1) ((n:Int) - (i:Nat)) 1) where
 mem:=by simp
 obj:=fun i h st b hb=>by
  have e:b = it:=by simpa using hb
  subst e
  exact ⟨_,st,fun v z=>by
   have z':Data.fields _ = Data.cell v:=z
   cases z'⟩
 keep:=fun i h h' st k=>k it (by simp) _ st
 item:=by
  intro X hP hw hK hc i pins s σ H E I hf st hg
  subst hP hw hK
  obtain ⟨f0,f1,f2,f3,f4,f5⟩:=hf it (by simp)
  have W:=Walks.range (prog:=X.prog) (w:=X.w) (I.ok.hd hc) it lo 1 n
  refine W.item i s _ _ hg st fun v h' tk hv st' kk=>?_
  obtain ⟨t,rfl⟩:=hv
  have I1:Inv X pins σ H { s with heap:=h',toks:=tk }:=I.turned (fun b o hb e=>kk b o (by simpa using hb) e) f0 f1 f3 f4 f5
  refine ⟨_,rfl,zV9 (s:={ s with heap:=h',toks:=tk }) (n := "range_iterator") st' rfl rfl (by decide) ⟨.int (lo + i),H,I1,⟨t,?_⟩,⟨rfl,rfl⟩,st',fun b hb=>(hf b hb).1⟩⟩
  rw [Int.mul_one]
 done:=by
  intro X hP hw hK hc i pins s σ H E I hf st hg
  subst hP hw hK
  obtain ⟨f0,f1,f2,f3,f4,f5⟩:=hf it (by simp)
  exact wpAny_pyNext_range_end (I.ok.hd hc) st (by have:n≤i:=hg; omega) fun h' eb=>⟨rfl,I.turned (t':=s.toks) (fun b o hb e=>eb b o hb e) f0 f1 f3 f4 f5⟩
 self:=fun _ _ _ _ _ st h=>wpAny_pyIter_rangeiter st h
end L2

namespace L2
open PySem PySem.Spec PyProof.Rows
section
variable {X:Cx} {tg:Expr}
def iList (K:PySem.W.Frag) (tl:TE):TI:=fun σ H R=>tl σ H fun x H1=>∃ a,x = .ref a∧(∃ xs,SqL K H1 a xs)∧R (Itl K a) H1
theorem zMc {l:Expr} {tl:TE} (hl:PE X l tl):PI X tg l (iList X.K tl):=by
 intro pins s σ H R I h
 refine thn (hl pins s σ H _ I h) fun v s1 ⟨x,H1,I1,r1,q1⟩=>?_
 obtain ⟨a,e,⟨xs,hq⟩,q⟩:=q1
 subst e
 cases r1
 obtain ⟨its,rv,p,hz⟩:=I1.list hq
 refine wpAny_pyIter_list p.isList ?_
 refine ⟨s1.heap.objs.size,[s1.heap.objs.size],_,_,H1,rfl,I1.kept (t':=s1.toks) fun b o e=>Heap.get?_push_of_some _ e,zNo a _,⟨_,Heap.get?_push_size _ rfl,rfl,rfl⟩,fun b hb=>?_,q⟩
 have e:b = s1.heap.objs.size:=by simpa using hb
 subst e
 exact I1.fpOk (Nat.le_refl _) (I1.hok.fresh (Nat.le_refl _))
theorem zTi {pins:List (Addr × Obj)} {σ:St} {H:Hp} {s:Shared} {R:It→Hp→Prop} {E:Value→Shared→Prop} {lo hi:Int} {t u v:Tok} {tk:Nat} (I:Inv X pins σ H s) (h1 : -(2 ^ 62)≤lo) (h2:lo < 2 ^ 62) (h3 : -(2 ^ 62)≤hi) (h4:hi < 2 ^ 62)
  (q:R (Itr lo (hi - lo).toNat) H):wpAny (model X.prog X.w) X.A (pyIter (.ref s.heap.objs.size)) (PIE X pins σ tg R) E { s with heap:=s.heap.push { cls:=.type "range", data:=.fields #[.int lo t,.int hi u,.int 1 v] },toks:=tk }:=by
 refine wpAny_pyIter_range (IsRange.new ..) (small_one h1 h2 h3 h4) ?_
 have I1:Inv X pins σ H { s with heap:=s.heap.push { cls:=.type "range", data:=.fields #[.int lo t,.int hi u,.int 1 v] },toks:=tk }:=I.kept fun b o e=>Heap.get?_push_of_some _ e
 refine ⟨(s.heap.push { cls:=.type "range", data:=.fields #[.int lo t,.int hi u,.int 1 v] }).objs.size,[(s.heap.push { cls:=.type "range", data:=.fields #[.int lo t,.int hi u,.int 1 v] }).objs.size],_,_,H,rfl,
  I1.kept (t':=tk) fun b o e=>Heap.get?_push_of_some _ e,zQi _ lo (hi - lo).toNat,?_,fun b hb=>?_,q⟩
 ·have e1:lo + ((0:Nat):Int) * 1 = lo:=by simp
  have e2:(((hi - lo).toNat:Nat):Int) - ((0:Nat):Int) = Builtin.Range.rangeSize lo hi 1:=by rw [rangeSize_one]; split <;> omega
  show IsRangeIter _ _ (lo + ((0:Nat):Int) * 1) ((((hi - lo).toNat:Nat):Int) - ((0:Nat):Int)) 1
  rw [e1,e2]
  exact Heap.get?_push_size _ rfl
 ·have e:b = (s.heap.push { cls:=.type "range", data:=.fields #[.int lo t,.int hi u,.int 1 v] }).objs.size:=by simpa using hb
  subst e
  exact I1.fpOk (Nat.le_refl _) (I1.hok.fresh (Nat.le_refl _))
def iRng1 (ta:TA):TI:=fun σ H R=>ta σ H fun vs H1=>∃ j:Int,vs = [.int j]∧-(2 ^ 62)≤j∧j < 2 ^ 62∧R (Itr 0 j.toNat) H1
theorem zC7 {a:Expr} {ta:TA} {p pos:Pos} (hg:Gl X "range") (hm:X.mg "range" = none) (ha:PA X [a] ta) (hs:starEach [a] X.env = [(false,eval a X.env)]:=by rfl):PI X tg (.Call (.Name "range" p) [a] [] pos) (iRng1 ta):=by
 intro pins s σ H R I h
 refine Call_ (zLq I hg hm boot_range (PyProof.Rows.callWith_type1 (thn (ha pos pins s σ H _ I h) fun us s1 ⟨vs,H1,I1,r1,q1⟩=>?_) hs rfl))
 obtain ⟨j,e,q1,q2,q⟩:=q1
 subst e
 cases r1 with
 | cons r rr =>
  cases rr
  obtain ⟨t,rfl⟩:=r
  exact call_range_1 (zTi I1 (by omega) (by omega) q1 q2 (by simpa using q))
def tFor (wi:TI) (g:TG) (tb:TS):TS:=fun D σ H=>wi σ H fun J H1=>∃ W:Nat→Nat→St→Hp→Prop,(∃ m,W 0 m σ H1)∧∀ i m σ H,W i m σ H →
 (J.stop i H∧D.nx σ H)∨(J.go i H∧∃ N:St→Hp→Prop,(∀ σ' H',N σ' H'→∃ m',m' < m∧W (i + 1) m' σ' H')∧∀ x H',J.yld i H x H'→g x σ H' fun σ2 H2=>tb { D with nx:=N,ct:=N,bk:=D.nx } σ2 H2)
def zLv (fp:List Addr) (h:Heap):List (Addr × Obj):=fp.filterMap fun b=>(h.get? b).map fun o=>(b,o)
theorem zEj {fp:List Addr} {h:Heap} {b:Addr} {o:Obj} (hb:b∈fp) (e:h.get? b = some o):(b,o)∈zLv fp h:=List.mem_filterMap.mpr ⟨b,hb,by rw [e]; rfl⟩
theorem zRh {fp:List Addr} {h:Heap} {p:Addr × Obj} (hp:p∈zLv fp h):p.1∈fp∧h.get? p.1 = some p.2:=by
 obtain ⟨b,hb,e⟩:=List.mem_filterMap.mp hp
 cases q:h.get? b with
 | none=>rw [q] at e; cases e
 | some o =>
  rw [q] at e
  have e':(b,o) = p:=Option.some.inj e
  subst e'
  exact ⟨hb,q⟩
theorem Inv.pinned {pins:List (Addr × Obj)} {σ:St} {H:Hp} {s:Shared} {fp:List Addr} (I:Inv X pins σ H s) (hf:∀ b∈fp,FpOk X pins H b) (ho:∀ b∈fp,∃ o,s.heap.get? b = some o∧∀ v,o.data≠.cell v):Inv X (pins ++ zLv fp s.heap) σ H s :=
 I.pins_of fun p hp=>(List.mem_append.mp hp).elim (fun z=>I.pin p (List.mem_append_right _ z)) fun z=>by
  obtain ⟨hb,e⟩:=zRh z
  obtain ⟨f0,f1,f2,_⟩:=hf p.1 hb
  obtain ⟨o,e',d⟩:=ho p.1 hb
  rw [e] at e'; cases e'
  exact ⟨e,f0,f1,f2,d⟩
theorem Inv.unpinned {pins pl:List (Addr × Obj)} {σ:St} {H:Hp} {s:Shared} (I:Inv X (pins ++ pl) σ H s):Inv X pins σ H s:=I.pins_of fun p hp=>I.pin p (List.mem_append_right _ (List.mem_append_left _ hp))
theorem zCz {iter:Expr} {body:List Stmt} {wi:TI} {g:TG} {tb:TS} {pos:Pos} (hp:PassesOwn (model X.prog X.w) X.A X.env X.xe) (hc:X.calm = true) (hi:PI X tg iter wi) (hg:PG X tg g) (hb:PSs X body tb)
  (hs:∀ x,foldedSetIterable iter X.env x = pure x:=by intro _; rfl):PS X (.For tg iter body [] pos) (tFor wi g tb):=by
 intro pins s σ H D I h
 refine wpAny_For (thn (hi pins s σ H _ I h) fun v s1 h1=>thn h1 fun itv s2 h2=>?_) hs
 obtain ⟨it,fp,tn,J,H2,e,I2,T,st2,f2,W,⟨m0,w0⟩,turn⟩:=h2
 subst e
 have stat:∀ {H':Hp},(∀ b∈fp,H' b = none)→∀ b∈fp,FpOk X pins H' b:=fun hn b hb=>⟨hn b hb,(f2 b hb).2⟩
 refine codeAny_forLoop_any (fun n s'=>∃ i σ' H',Inv X pins σ' H' s'∧tn i s'.heap∧(∀ b∈fp,H' b = none)∧W i n σ' H') ?_ m0 ⟨0,σ,H2,I2,st2,fun b hb=>(f2 b hb).1,w0⟩
 rintro n s3 ⟨i,σ3,H3,I3,st3,fr3,w3⟩
 rcases turn i n σ3 H3 w3 with ⟨stop,qn⟩ | ⟨go,N,hN,step⟩
 ·refine wpAny_passesOwn hp (thn (T.done X rfl rfl rfl hc i pins s3 σ3 H3 X.xe I3 (stat fr3) st3 stop) fun r s4 ⟨hr,I4⟩=>?_)
  subst hr
  exact wpAny_execs_nil ⟨σ3,H3,I4,qn⟩
 ·refine wpAny_passesOwn hp (thn (T.item X rfl rfl rfl hc i pins s3 σ3 H3 X.xe I3 (stat fr3) st3 go) fun r s4 ⟨u,hr,h4⟩=>?_)
  subst hr
  refine wpAny_passesOwn hp (thn h4 fun _ s5 ⟨x,H5,I5,r5,y5,st5,fr5⟩=>?_)
  have I5':=I5.pinned (stat fr5) (T.obj _ _ st5)
  refine wpAny_passesOwn hp (thn (hg _ s5 σ3 H5 x u _ I5' r5 (step x H5 y5)) fun _ s6 ⟨σ6,H6,I6,q6⟩=>?_)
  refine wpAny_passesOwn hp (thn (hb _ s6 σ6 H6 _ I6 q6) fun f s7 q7=>?_)
  have again:∀ {σ7:St} {H7:Hp},Inv X (pins ++ zLv fp s5.heap) σ7 H7 s7→N σ7 H7→∃ m,m < n∧∃ i σ' H',Inv X pins σ' H' s7∧tn i s7.heap∧(∀ b∈fp,H' b = none)∧W i m σ' H':=fun {σ7 H7} I7 n7=>by
   obtain ⟨m',hm,w7⟩:=hN σ7 H7 n7
   refine ⟨m',hm,i + 1,σ7,H7,I7.unpinned,T.keep _ _ _ st5 fun b hb o e=>(I7.pin (b,o) (List.mem_append_right _ (List.mem_append_right _ (zEj hb e)))).1,fun b hb=>?_,w7⟩
   obtain ⟨o,e,d⟩:=T.obj _ _ st5 b hb
   exact (I7.pin (b,o) (List.mem_append_right _ (List.mem_append_right _ (zEj hb e)))).2.1
  cases f with
  | next=>obtain ⟨σ7,H7,I7,n7⟩:=q7; exact again I7 n7
  | cont=>obtain ⟨σ7,H7,I7,n7⟩:=q7; exact again I7 n7
  | brk=>obtain ⟨σ7,H7,I7,q7⟩:=q7; exact ⟨σ7,H7,I7.unpinned,q7⟩
  | ret v=>obtain ⟨x7,σ7,H7,I7,r7,q7⟩:=q7; exact ⟨x7,σ7,H7,I7.unpinned,r7,q7⟩
end

theorem zCt {K:PySem.W.Frag} {a:Addr} {xs:List V} {g:TG} {tb:TS} {D:Ends} {σ:St} {H:Hp} (Pv:Nat→St→Hp→Prop) (h0:Pv 0 σ H) (hl:∀ i σ H,i≤xs.length→Pv i σ H→SqL K H a xs)
  (hs:∀ i x σ H,xs[i]? = some x→Pv i σ H→g x σ H fun σ2 H2=>tb { D with nx:=Pv (i + 1),ct:=Pv (i + 1),bk:=D.nx } σ2 H2) (hd:∀ σ H,Pv xs.length σ H→D.nx σ H) :
  ∃ W:Nat→Nat→St→Hp→Prop,(∃ m,W 0 m σ H)∧∀ i m σ H,W i m σ H →
   ((Itl K a).stop i H∧D.nx σ H)∨((Itl K a).go i H∧∃ N:St→Hp→Prop,(∀ σ' H',N σ' H'→∃ m',m' < m∧W (i + 1) m' σ' H')∧∀ x H',(Itl K a).yld i H x H'→g x σ H' fun σ2 H2=>tb { D with nx:=N,ct:=N,bk:=D.nx } σ2 H2):=by
 refine ⟨fun i m σ H=>m = xs.length - i∧i≤xs.length∧Pv i σ H,⟨xs.length,by simp,Nat.zero_le _,h0⟩,?_⟩
 rintro i m σ H ⟨rfl,hi,p⟩
 have q:=hl i σ H hi p
 by_cases hlt:i < xs.length
 ·refine .inr ⟨⟨xs,xs[i],q,by simp [hlt]⟩,Pv (i + 1),fun σ' H' p'=>⟨xs.length - (i + 1),by omega,rfl,hlt,p'⟩,fun x H' y=>?_⟩
  obtain ⟨e,y⟩:=y
  subst e
  exact hs i x σ _ (y xs q) p
 ·have e:i = xs.length:=by omega
  subst e
  exact .inl ⟨⟨xs,q,Nat.le_refl _⟩,hd σ H p⟩
theorem zVp {K:PySem.W.Frag} {a:Addr} {xs:List V} {g:TG} {tb:TS} {D:Ends} {σ:St} {H:Hp} (Pv:Nat→St→Hp→Prop) (h0:Pv 0 σ H) (hl:∀ i σ H,i≤xs.length→Pv i σ H→SqT K H a xs)
  (hs:∀ i x σ H,xs[i]? = some x→Pv i σ H→g x σ H fun σ2 H2=>tb { D with nx:=Pv (i + 1),ct:=Pv (i + 1),bk:=D.nx } σ2 H2) (hd:∀ σ H,Pv xs.length σ H→D.nx σ H) :
  ∃ W:Nat→Nat→St→Hp→Prop,(∃ m,W 0 m σ H)∧∀ i m σ H,W i m σ H →
   ((Itt K a).stop i H∧D.nx σ H)∨((Itt K a).go i H∧∃ N:St→Hp→Prop,(∀ σ' H',N σ' H'→∃ m',m' < m∧W (i + 1) m' σ' H')∧∀ x H',(Itt K a).yld i H x H'→g x σ H' fun σ2 H2=>tb { D with nx:=N,ct:=N,bk:=D.nx } σ2 H2):=by
 refine ⟨fun i m σ H=>m = xs.length - i∧i≤xs.length∧Pv i σ H,⟨xs.length,by simp,Nat.zero_le _,h0⟩,?_⟩
 rintro i m σ H ⟨rfl,hi,p⟩
 have q:=hl i σ H hi p
 by_cases hlt:i < xs.length
 ·refine .inr ⟨⟨xs,xs[i],q,by simp [hlt]⟩,Pv (i + 1),fun σ' H' p'=>⟨xs.length - (i + 1),by omega,rfl,hlt,p'⟩,fun x H' y=>?_⟩
  obtain ⟨e,y⟩:=y
  subst e
  exact hs i x σ _ (y xs q) p
 ·have e:i = xs.length:=by omega
  subst e
  exact .inl ⟨⟨xs,q,Nat.le_refl _⟩,hd σ H p⟩
theorem zEq {lo:Int} {n:Nat} {g:TG} {tb:TS} {D:Ends} {σ:St} {H:Hp} (Pv:Nat→St→Hp→Prop) (h0:Pv 0 σ H)
  (hs:∀ i σ H,i < n→Pv i σ H→g (.int (lo + i)) σ H fun σ2 H2=>tb { D with nx:=Pv (i + 1),ct:=Pv (i + 1),bk:=D.nx } σ2 H2) (hd:∀ σ H,Pv n σ H→D.nx σ H) :
  ∃ W:Nat→Nat→St→Hp→Prop,(∃ m,W 0 m σ H)∧∀ i m σ H,W i m σ H →
   ((Itr lo n).stop i H∧D.nx σ H)∨((Itr lo n).go i H∧∃ N:St→Hp→Prop,(∀ σ' H',N σ' H'→∃ m',m' < m∧W (i + 1) m' σ' H')∧∀ x H',(Itr lo n).yld i H x H'→g x σ H' fun σ2 H2=>tb { D with nx:=N,ct:=N,bk:=D.nx } σ2 H2):=by
 refine ⟨fun i m σ H=>m = n - i∧i≤n∧Pv i σ H,⟨n,by simp,Nat.zero_le _,h0⟩,?_⟩
 rintro i m σ H ⟨rfl,hi,p⟩
 by_cases hlt:i < n
 ·refine .inr ⟨hlt,Pv (i + 1),fun σ' H' p'=>⟨n - (i + 1),by omega,rfl,hlt,p'⟩,fun x H' y=>?_⟩
  obtain ⟨e,y⟩:=y
  subst e y
  exact hs i σ _ hlt p
 ·have e:i = n:=by omega
  subst e
  exact .inl ⟨Nat.le_refl _,hd σ H p⟩
theorem zG4 {c:TT} {tb:TS} {D:Ends} {σ:St} {H:Hp} (Pv:St→Hp→Prop) (μ:St→Hp→Nat) (h0:Pv σ H)
  (hs:∀ σ H,Pv σ H→c σ H fun b H1=>if b = true then tb { D with nx:=fun σ' H'=>Pv σ' H'∧μ σ' H' < μ σ H,ct:=fun σ' H'=>Pv σ' H'∧μ σ' H' < μ σ H,bk:=D.nx } σ H1 else D.nx σ H1)
  (mono:∀ σ H Q Q',(∀ b H1,Q b H1→Q' b H1)→c σ H Q→c σ H Q'):zUy c tb D σ H:=by
 refine ⟨fun m σ H=>m = μ σ H∧Pv σ H,⟨_,rfl,h0⟩,?_⟩
 rintro m σ H ⟨rfl,p⟩
 refine mono σ H _ _ (fun b H1 q=>?_) (hs σ H p)
 cases b with
 | true=>exact ⟨_,fun σ' H' ⟨p',l⟩=>⟨_,l,rfl,p'⟩,q⟩
 | false=>exact q
end L2

namespace L2
open PySem PySem.Spec PyProof.Rows

abbrev R2:=V→V→Hp→VK→Prop
def OpR (X:Cx) (f:Value→Value→Sem Value) (r:R2):Prop :=
 ∀ (pins:List (Addr × Obj)) (s:Shared) (σ:St) (H:Hp) (x y:V) (v u:Value) (Q:VK),Inv X pins σ H s→RelV x v→RelV y u→r x y H Q →
  wpAny (model X.prog X.w) X.A (f v u) (EP X pins σ Q) X.xe s
def UnR (X:Cx) (f:Value→Sem Value) (r:V→Hp→VK→Prop):Prop :=
 ∀ (pins:List (Addr × Obj)) (s:Shared) (σ:St) (H:Hp) (x:V) (v:Value) (Q:VK),Inv X pins σ H s→RelV x v→r x H Q →
  wpAny (model X.prog X.w) X.A (f v) (EP X pins σ Q) X.xe s
def zHg (X:Cx) (f:Value) (r:List V→Hp→VK→Prop):Prop :=
 ∀ (pins:List (Addr × Obj)) (s:Shared) (σ:St) (H:Hp) (xs:List V) (us:List Value) (Q:VK),Inv X pins σ H s→Vals xs us→r xs H Q →
  wpAny (model X.prog X.w) X.A (call f us) (EP X pins σ Q) X.xe s
def TruR (X:Cx) (r:V→Hp→(Bool→Hp→Prop)→Prop):Prop :=
 ∀ (pins:List (Addr × Obj)) (s:Shared) (σ:St) (H:Hp) (x:V) (v:Value) (Q:Bool→Hp→Prop),Inv X pins σ H s→RelV x v→r x H Q →
  wpAny (model X.prog X.w) X.A (truthy v) (TP X pins σ Q) X.xe s

def tOp (r:R2) (ta tb:TE):TE:=fun σ H Q=>ta σ H fun x H1=>tb σ H1 fun y H2=>r x y H2 Q
def tUn (r:V→Hp→VK→Prop) (ta:TE):TE:=fun σ H Q=>ta σ H fun x H1=>r x H1 Q
inductive RI (C:Int→Int→Prop) (g:Int→Int→V) (x y:V) (H:Hp) (Q:VK):Prop where
 | mk (i j:Int) (ex:x = .int i) (ey:y = .int j) (c:C i j) (q:Q (g i j) H)
def rI (C:Int→Int→Prop) (g:Int→Int→V):R2:=fun x y H Q=>RI C g x y H Q
inductive RI0 (g:Int→Int→V) (x y:V) (H:Hp) (Q:VK):Prop where
 | mk (i j:Int) (ex:x = .int i) (ey:y = .int j) (q:Q (g i j) H)
def rI0 (g:Int→Int→V):R2:=fun x y H Q=>RI0 g x y H Q
inductive RU (g:Int→V) (x:V) (H:Hp) (Q:VK):Prop where
 | mk (i:Int) (ex:x = .int i) (q:Q (g i) H)
def rU (g:Int→V):V→Hp→VK→Prop:=fun x H Q=>RU g x H Q

section
variable {X:Cx} {a b c:Expr} {ta tb tc:TE} {pos:Pos}

theorem binT (ha:PE X a ta) (hb:PE X b tb) {pins:List (Addr × Obj)} {s:Shared} {σ:St} {H:Hp} {R:V→V→Hp→Prop} (I:Inv X pins σ H s)
  (h:ta σ H fun x H1=>tb σ H1 fun y H2=>R x y H2) {Q:Value→Shared→Prop} {f:Value→Value→Sem Value}
  (hf:∀ v u s2 x y H2,Inv X pins σ H2 s2→RelV x v→RelV y u→R x y H2→wpAny (model X.prog X.w) X.A (f v u) Q X.xe s2) :
  wpAny (model X.prog X.w) X.A (eval a X.env) (fun v s₁=>wpAny (model X.prog X.w) X.A (eval b X.env) (fun u s₂=>wpAny (model X.prog X.w) X.A (f v u) Q X.xe s₂) X.xe s₁) X.xe s:=by
 refine thn (ha pins s σ H _ I h) fun v s1 ⟨x,H1,I1,r1,q1⟩=>?_
 refine thn (hb pins s1 σ H1 _ I1 q1) fun u s2 ⟨y,H2,I2,r2,q2⟩=>?_
 exact hf v u s2 x y H2 I2 r1 r2 q2

theorem zAl {op:Operator} {r:R2} (ho:OpR X (binaryOp op) r) (ha:PE X a ta) (hb:PE X b tb):PE X (.BinOp a op b pos) (tOp r ta tb):=by
 intro pins s σ H Q I h
 exact wpAny_BinOp (binT ha hb I h fun v u s2 x y H2 I2 rx ry q=>ho pins s2 σ H2 x y v u Q I2 rx ry q)
theorem zB6 {op:UnaryOp} {r:V→Hp→VK→Prop} (ho:UnR X (unaryOp op) r) (ha:PE X a ta):PE X (.UnaryOp op a pos) (tUn r ta):=by
 intro pins s σ H Q I h
 exact UnaryOp_ (thn (ha pins s σ H _ I h) fun v s1 ⟨x,H1,I1,r1,q1⟩=>ho pins s1 σ H1 x v Q I1 r1 q1)
theorem opI {f:Value→Value→Sem Value} {C:Int→Int→Prop} {g:Int→Int→Int}
  (rule:∀ (i j:Int) (t u:Tok) (s:Shared) (Q:Value→Shared→Prop) (E:Value→Shared→Prop),C i j→Q (.int (g i j) s.toks) { s with toks:=s.toks + 1 }→wpAny (model X.prog X.w) X.A (f (.int i t) (.int j u)) Q E s) :
  OpR X f (rI C fun i j=>.int (g i j)):=by
 intro pins s σ H x y v u Q I rx ry h
 obtain ⟨i,j,rfl,rfl,hc,q⟩:=h
 obtain ⟨t,rfl⟩:=rx
 obtain ⟨t',rfl⟩:=ry
 exact rule i j t t' s _ _ hc ⟨.int (g i j),H,I.tok _,⟨_,rfl⟩,q⟩
theorem opI0 {f:Value→Value→Sem Value} {g:Int→Int→Int}
  (rule:∀ (i j:Int) (t u:Tok) (s:Shared) (Q:Value→Shared→Prop) (E:Value→Shared→Prop),Q (.int (g i j) s.toks) { s with toks:=s.toks + 1 }→wpAny (model X.prog X.w) X.A (f (.int i t) (.int j u)) Q E s) :
  OpR X f (rI0 fun i j=>.int (g i j)):=by
 intro pins s σ H x y v u Q I rx ry h
 obtain ⟨i,j,rfl,rfl,q⟩:=h
 obtain ⟨t,rfl⟩:=rx
 obtain ⟨t',rfl⟩:=ry
 exact rule i j t t' s _ _ ⟨.int (g i j),H,I.tok _,⟨_,rfl⟩,q⟩
theorem opB0 {f:Value→Value→Sem Value} {g:Int→Int→Bool}
  (rule:∀ (i j:Int) (t u:Tok) (s:Shared) (Q:Value→Shared→Prop) (E:Value→Shared→Prop),Q (.bool (g i j)) s→wpAny (model X.prog X.w) X.A (f (.int i t) (.int j u)) Q E s) :
  OpR X f (rI0 fun i j=>.bl (g i j)):=by
 intro pins s σ H x y v u Q I rx ry h
 obtain ⟨i,j,rfl,rfl,q⟩:=h
 obtain ⟨t,rfl⟩:=rx
 obtain ⟨t',rfl⟩:=ry
 exact rule i j t t' s _ _ ⟨.bl (g i j),H,I,rfl,q⟩

def CPow (i j:Int):Prop:=0≤j∧j≤1000000∧i.natAbs < 2 ^ 64
def CMul (i j:Int):Prop:=(-(2 ^ 64) < i∧i < 2 ^ 64)∨(-(2 ^ 64) < j∧j < 2 ^ 64)
theorem CMul.ok {i j:Int} (h:CMul i j):IntMulOk i j:=by
 rcases h with ⟨h1,h2⟩ | ⟨h1,h2⟩
 ·exact .of_left (intBits_le_64 h1 h2)
 ·exact .of_right (intBits_le_64 h1 h2)
theorem zBd:OpR X (binaryOp .Add) (rI0 fun i j=>.int (i + j)):=opI0 fun _ _ _ _ _ _ _ q=>add_int q
theorem zA6:OpR X (binaryOp .Sub) (rI0 fun i j=>.int (i - j)):=opI0 fun _ _ _ _ _ _ _ q=>sub_int q
theorem zA2:OpR X (binaryOp .Mult) (rI CMul fun i j=>.int (i * j)):=opI fun _ _ _ _ _ _ _ hc q=>mul_int q hc.ok
theorem zA7:OpR X (binaryOp .Mod) (rI (fun _ j=>0 < j) fun i j=>.int (i % j)):=opI fun i j _ _ _ _ _ hc q=>by
 have h1:(0:Int) < j:=hc
 exact mod_int' (by omega) (by rw [Int.fmod_eq_emod_of_nonneg i (by omega)]; exact q)
theorem zVc:OpR X (binaryOp .Pow) (rI CPow fun i j=>.int (i ^ j.toNat)):=opI fun _ _ _ _ _ _ _ hc q=>pow_int_small hc.1 hc.2.1 hc.2.2 q
theorem unI {f:Value→Sem Value} {g:Int→Int}
  (rule:∀ (i:Int) (t:Tok) (s:Shared) (Q:Value→Shared→Prop) (E:Value→Shared→Prop),Q (.int (g i) s.toks) { s with toks:=s.toks + 1 }→wpAny (model X.prog X.w) X.A (f (.int i t)) Q E s) :
  UnR X f (rU fun i=>.int (g i)):=by
 intro pins s σ H x v Q I rx h
 obtain ⟨i,rfl,q⟩:=h
 obtain ⟨t,rfl⟩:=rx
 exact rule i t s _ _ ⟨.int (g i),H,I.tok _,⟨_,rfl⟩,q⟩
theorem zBc:UnR X (unaryOp .USub) (rU fun i=>.int (-i)):=unI fun _ _ _ _ _ q=>neg_int q
end

def scal:V→V→Bool
 | .non,.non=>true | .non,.int _=>true | .int _,.non=>true | .non,.bl _=>true | .bl _,.non=>true | .non,.str _=>true | .str _,.non=>true
 | .int _,.int _=>true | .bl _,.bl _=>true | .str _,.str _=>true | .byt _,.byt _=>true
 | .int _,.str _=>true | .str _,.int _=>true | .bl _,.str _=>true | .str _,.bl _=>true
 | _,_=>false
def rEq:R2:=fun x y H Q=>scal x y = true∧Q (.bl (decide (x = y))) H
def rNe:R2:=fun x y H Q=>scal x y = true∧Q (.bl (!decide (x = y))) H

theorem zR4 {i j:Int} : decide (V.int i = V.int j) = (i == j):=by
 rw [Bool.eq_iff_iff]
 simp
theorem zU9 {i j:Bool} : decide (V.bl i = V.bl j) = (i == j):=by
 rw [Bool.eq_iff_iff]
 simp
theorem zRz {i j:Str} : decide (V.str i = V.str j) = (i == j):=by
 rw [Bool.eq_iff_iff]
 simp
theorem zSb {i j:Array UInt8} : decide (V.byt i = V.byt j) = (i.toList == j.toList):=by
 rw [Bool.eq_iff_iff]
 cases i
 cases j
 simp

section
variable {X:Cx} {a b c:Expr} {ta tb tc:TE} {pos:Pos}
theorem zBt {pins:List (Addr × Obj)} {σ:St} {H:Hp} {s:Shared} {Q:VK} {k k':Bool} (I:Inv X pins σ H s) (q:Q (.bl k) H) (e:k = k'):EP X pins σ Q (.bool k') s:=by
 subst e
 exact ⟨.bl k,H,I,rfl,q⟩
theorem zCi:OpR X (compareOp .Eq) rEq:=by
 intro pins s σ H x y v u Q I rx ry h
 obtain ⟨hs,q⟩:=h
 cases x with
 | non =>
  cases rx
  cases y with
  | non=>cases ry; exact PySem.EqNone.eq_none_none (zBt I q (by simp))
  | bl j=>cases ry; exact PySem.EqNone.eq_none_bool (zBt I q (by simp))
  | int j=>obtain ⟨t',rfl⟩:=ry; exact PySem.EqNone.eq_none_int (zBt I q (by simp))
  | str j=>obtain ⟨t',rfl⟩:=ry; exact PySem.EqNone.eq_none_str (zBt I q (by simp))
  | _=>exact absurd (show false = true from hs) Bool.false_ne_true
 | bl i =>
  cases rx
  cases y with
  | non=>cases ry; exact PySem.EqNone.eq_bool_none (zBt I q (by simp))
  | bl j=>cases ry; exact eq_bool (zBt I q zU9)
  | str j=>obtain ⟨t',rfl⟩:=ry; exact PySem.EqMixed.eq_bool_str (zBt I q (by simp))
  | _=>exact absurd (show false = true from hs) Bool.false_ne_true
 | int i =>
  obtain ⟨t,rfl⟩:=rx
  cases y with
  | non=>cases ry; exact PySem.EqNone.eq_int_none (zBt I q (by simp))
  | int j=>obtain ⟨t',rfl⟩:=ry; exact eq_int (zBt I q zR4)
  | str j=>obtain ⟨t',rfl⟩:=ry; exact PySem.EqMixed.eq_int_str (zBt I q (by simp))
  | _=>exact absurd (show false = true from hs) Bool.false_ne_true
 | str i =>
  obtain ⟨t,rfl⟩:=rx
  cases y with
  | non=>cases ry; exact PySem.EqNone.eq_str_none (zBt I q (by simp))
  | bl j=>cases ry; exact PySem.EqMixed.eq_str_bool (zBt I q (by simp))
  | int j=>obtain ⟨t',rfl⟩:=ry; exact PySem.EqMixed.eq_str_int (zBt I q (by simp))
  | str j=>obtain ⟨t',rfl⟩:=ry; exact eq_str (zBt I q zRz)
  | _=>exact absurd (show false = true from hs) Bool.false_ne_true
 | byt i =>
  obtain ⟨t,rfl⟩:=rx
  cases y with
  | byt j=>obtain ⟨t',rfl⟩:=ry; exact PySem.W.eq_bytes (zBt I q zSb)
  | _=>exact absurd (show false = true from hs) Bool.false_ne_true
 | _=>cases y <;> exact absurd (show false = true from hs) Bool.false_ne_true
theorem zPx:OpR X (compareOp .NotEq) rNe:=by
 intro pins s σ H x y v u Q I rx ry h
 obtain ⟨hs,q⟩:=h
 cases x with
 | non =>
  cases rx
  cases y with
  | non=>cases ry; exact PySem.EqNone.ne_none_none (zBt I q (by simp))
  | bl j=>cases ry; exact PySem.EqNone.ne_none_bool (zBt I q (by simp))
  | int j=>obtain ⟨t',rfl⟩:=ry; exact PySem.EqNone.ne_none_int (zBt I q (by simp))
  | str j=>obtain ⟨t',rfl⟩:=ry; exact PySem.EqNone.ne_none_str (zBt I q (by simp))
  | _=>exact absurd (show false = true from hs) Bool.false_ne_true
 | bl i =>
  cases rx
  cases y with
  | non=>cases ry; exact PySem.EqNone.ne_bool_none (zBt I q (by simp))
  | bl j=>cases ry; exact ne_bool (zBt I q (congrArg not zU9))
  | str j=>obtain ⟨t',rfl⟩:=ry; exact PySem.EqMixed.ne_bool_str (zBt I q (by simp))
  | _=>exact absurd (show false = true from hs) Bool.false_ne_true
 | int i =>
  obtain ⟨t,rfl⟩:=rx
  cases y with
  | non=>cases ry; exact PySem.EqNone.ne_int_none (zBt I q (by simp))
  | int j=>obtain ⟨t',rfl⟩:=ry; exact ne_int (zBt I q (congrArg not zR4))
  | str j=>obtain ⟨t',rfl⟩:=ry; exact PySem.EqMixed.ne_int_str (zBt I q (by simp))
  | _=>exact absurd (show false = true from hs) Bool.false_ne_true
 | str i =>
  obtain ⟨t,rfl⟩:=rx
  cases y with
  | non=>cases ry; exact PySem.EqNone.ne_str_none (zBt I q (by simp))
  | bl j=>cases ry; exact PySem.EqMixed.ne_str_bool (zBt I q (by simp))
  | int j=>obtain ⟨t',rfl⟩:=ry; exact PySem.EqMixed.ne_str_int (zBt I q (by simp))
  | str j=>obtain ⟨t',rfl⟩:=ry; exact ne_str (zBt I q (congrArg not zRz))
  | _=>exact absurd (show false = true from hs) Bool.false_ne_true
 | byt i =>
  obtain ⟨t,rfl⟩:=rx
  cases y with
  | byt j=>obtain ⟨t',rfl⟩:=ry; exact PySem.W.ne_bytes (zBt I q (congrArg not zSb))
  | _=>exact absurd (show false = true from hs) Bool.false_ne_true
 | _=>cases y <;> exact absurd (show false = true from hs) Bool.false_ne_true

theorem zF4:OpR X (compareOp .Lt) (rI0 fun i j=>.bl (decide (i < j))):=opB0 fun _ _ _ _ _ _ _ q=>lt_int q
theorem zT2:OpR X (compareOp .LtE) (rI0 fun i j=>.bl (decide (i≤j))):=opB0 fun _ _ _ _ _ _ _ q=>le_int q
theorem zI6:OpR X (compareOp .Gt) (rI0 fun i j=>.bl (decide (j < i))):=opB0 fun _ _ _ _ _ _ _ q=>gt_int q
theorem zLl:OpR X (compareOp .Is) (fun x y H Q=>y = .non∧Q (.bl (decide (x = .non))) H):=by
 intro pins s σ H x y v u Q I rx ry h
 obtain ⟨rfl,q⟩:=h
 cases ry
 refine is_none_gen (zBt I q ?_)
 cases x <;> first
  | (cases rx; rfl)
  | (obtain ⟨t,rfl⟩:=rx; rfl)
theorem zGv:OpR X (compareOp .IsNot) (fun x y H Q=>y = .non∧Q (.bl (!decide (x = .non))) H):=by
 intro pins s σ H x y v u Q I rx ry h
 obtain ⟨rfl,q⟩:=h
 cases ry
 refine isnot_none_gen (zBt I q ?_)
 cases x <;> first
  | (cases rx; rfl)
  | (obtain ⟨t,rfl⟩:=rx; rfl)

theorem zAz (b:Expr) {op:CmpOp} (h:op≠.In:=by decide) (h2:op≠.NotIn:=by decide):behindInMarks op b = false:=by
 have e1:(op == CmpOp.In) = false:=by cases op <;> first | rfl | exact absurd rfl h
 have e2:(op == CmpOp.NotIn) = false:=by cases op <;> first | rfl | exact absurd rfl h2
 cases b <;> simp [behindInMarks,e1,e2]
theorem zDo {op:CmpOp} {r:R2} (ho:OpR X (compareOp op) r) (ha:PE X a ta) (hb:PE X b tb) (hm:behindInMarks op b = false):PE X (.Compare a [op] [b] pos) (tOp r ta tb):=by
 intro pins s σ H Q I h
 exact wpAny_Compare1 (binT ha hb I h fun v u s2 x y H2 I2 rx ry q=>ho pins s2 σ H2 x y v u Q I2 rx ry q) hm
def zSp (t:TE):TT:=fun σ H Q=>t σ H fun x H'=>∃ k,x = .bl k∧Q k H'
theorem zAu {op:CmpOp} {r:R2} (ho:OpR X (compareOp op) r) (ha:PE X a ta) (hb:PE X b tb) (hm:behindInMarks op b = false):PT X (.Compare a [op] [b] pos) (zSp (tOp r ta tb)):=by
 intro pins s σ H Q I h
 refine wpAny_isTrue_Compare1 (thn (ha pins s σ H _ I h) fun v s1 ⟨x,H1,I1,r1,q1⟩=>thn (hb pins s1 σ H1 _ I1 q1) fun u s2 ⟨y,H2,I2,r2,q2⟩ =>
  thn (ho pins s2 σ H2 x y v u _ I2 r1 r2 q2) fun c s3 ⟨z,H3,I3,r3,k,e,q3⟩=>?_) hm
 subst e
 cases r3
 exact wpAny_truthy_bool ⟨H3,I3,q3⟩
def tChain (r r':R2) (ta tb tc:TE):TE:=fun σ H Q=>ta σ H fun x H1=>tb σ H1 fun y H2=>r x y H2 fun z H3=>∃ k,z = .bl k ∧
 (if k = true then tc σ H3 fun w' H4=>r' y w' H4 Q else Q (.bl false) H3)
theorem zMh {op op':CmpOp} {r r':R2} (ho:OpR X (compareOp op) r) (ho':OpR X (compareOp op') r') (ha:PE X a ta) (hb:PE X b tb) (hc:PE X c tc)
  (hm:lastMarks [op,op'] [b,c] = false:=by with_unfolding_all rfl):PT X (.Compare a [op,op'] [b,c] pos) (zSp (tChain r r' ta tb tc)):=by
 intro pins s σ H Q I h
 refine isTrue_chain (thn (ha pins s σ H _ I h) fun v s1 ⟨x,H1,I1,r1,q1⟩=>test_link (thn (hb pins s1 σ H1 _ I1 q1) fun u s2 ⟨y,H2,I2,r2,q2⟩ =>
  thn (ho pins s2 σ H2 x y v u _ I2 r1 r2 q2) fun d s3 ⟨z,H3,I3,r3,k,e,q3⟩=>?_)) hm
 subst e
 cases r3
 refine wpAny_truthy_bool ?_
 cases k with
 | false =>
  obtain ⟨k',e',q'⟩:=q3
  cases e'
  exact ite_ff ⟨H3,I3,q'⟩
 | true =>
  refine ite_tt (test_last (thn (hc pins s3 σ H3 _ I3 q3) fun w' s4 ⟨z',H4,I4,r4,q4⟩=>thn (ho' pins s4 σ H4 y z' u w' _ I4 r2 r4 q4) fun d' s5 ⟨z2,H5,I5,r5,k2,e2,q5⟩=>?_))
  subst e2
  cases r5
  exact wpAny_truthy_bool ⟨H5,I5,q5⟩

def TruV (K:PySem.W.Frag) (x:V) (H:Hp) (k:Bool):Prop :=
 match x with
 | .non=>k = false
 | .bl b=>k = b
 | .int i=>k = (i != 0)
 | .str y=>y.length≤sizeLine∧k = ((y.length:Int) != 0)
 | .byt y=>y.size≤sizeLine∧k = ((y.size:Int) != 0)
 | .ref p=>(∃ xs,SqL K H p xs∧k = !xs.isEmpty)∨(∃ xs,SqT K H p xs∧k = !xs.isEmpty)∨∃ kvs,H p = some (.dK kvs)∧k = !kvs.isEmpty
 | _=>False
theorem zP1 {κ:Type} {kvs:List (κ × V)} {vs:List (κ × Value)} (r:KV kvs vs):(!vs.isEmpty) = !kvs.isEmpty:=by
 cases r <;> rfl
theorem zLh {xs:List V} {its:List Value} (r:Vals xs its):(!its.toArray.isEmpty) = !xs.isEmpty:=by
 cases r <;> simp
theorem zMy:(sizeLine:Nat) < 2 ^ 63:=by rw [sizeLine_eq]; decide
theorem tru_ok:TruR X (fun x H Q=>∃ k,TruV X.K x H k∧Q k H):=by
 intro pins s σ H x v Q I rx h
 obtain ⟨k,e,q⟩:=h
 have hl:=zMy
 have hs:sizeLine = 16777216:=sizeLine_eq
 cases x with
 | non =>
  cases rx
  have e':k = false:=e
  subst e'
  exact truthy_none ⟨H,I,q⟩
 | bl b =>
  cases rx
  have e':k = b:=e
  subst e'
  exact wpAny_truthy_bool ⟨H,I,q⟩
 | int i =>
  obtain ⟨t,rfl⟩:=rx
  have e':k = (i != 0):=e
  subst e'
  exact PySem.P.truthy_int ⟨H,I,q⟩
 | str y =>
  obtain ⟨t,rfl⟩:=rx
  obtain ⟨hy,e'⟩:y.length≤sizeLine∧k = ((y.length:Int) != 0):=e
  subst e'
  exact PySem.P.truthy_str (by omega) ⟨H,I.tok _,q⟩
 | byt y =>
  obtain ⟨t,rfl⟩:=rx
  obtain ⟨hy,e'⟩:y.size≤sizeLine∧k = ((y.size:Int) != 0):=e
  subst e'
  exact PySem.W.truthy_bytes (by omega) ⟨H,I.tok _,q⟩
 | ref p =>
  cases rx
  have e':(∃ xs,SqL X.K H p xs∧k = !xs.isEmpty)∨(∃ xs,SqT X.K H p xs∧k = !xs.isEmpty)∨∃ kvs,H p = some (.dK kvs)∧k = !kvs.isEmpty:=e
  rcases e' with ⟨xs,hx,e'⟩ | ⟨xs,hx,e'⟩ | ⟨kvs,hx,e'⟩
  ·subst e'
   obtain ⟨its,r,pl,hz⟩:=I.list hx
   have hlen:=r.length
   exact wpAny_truthy_list pl.isList (by simp only [List.size_toArray]; omega) ⟨H,I.tok _,by rw [zLh r]; exact q⟩
  ·subst e'
   obtain ⟨its,r,pl,hz⟩:=I.tuple hx
   have hlen:=r.length
   exact truthy_tuple pl (by simp only [List.size_toArray]; omega) ⟨H,I.tok _,by rw [zLh r]; exact q⟩
  ·subst e'
   obtain ⟨hz,hS,vs,r,m⟩:kvs.length≤sizeLine∧(p == sysModules) = false∧∃ vs,KV kvs vs∧s.heap.DictOf (zDf X.prog X.w) p vs:=I.hok p _ hx
   have hlen:kvs.length = vs.length:=Paired.length r
   exact wpAny_truthy_dict hS m (by omega) ⟨H,I.tok _,by rw [zP1 r]; exact q⟩
 | _=>exact (show False from e).elim
theorem zQ4 {x:V} {us:List Value} (r:Vals [x] us):∃ u,us = [u]∧RelV x u:=by
 cases r with
 | cons r1 r2=>cases r2; exact ⟨_,rfl,r1⟩
theorem zUb {x y:V} {us:List Value} (r:Vals [x,y] us):∃ u w',us = [u,w']∧RelV x u∧RelV y w':=by
 cases r with
 | cons r1 r2 =>
  cases r2 with
  | cons r3 r4=>cases r4; exact ⟨_,_,rfl,r1,r3⟩
theorem zC5:zHg X (.builtin "abs") (fun xs H Q=>∃ i,xs = [.int i]∧Q (.int (if i < 0 then -i else i)) H):=by
 intro pins s σ H xs us Q I r h
 obtain ⟨i,rfl,q⟩:=h
 obtain ⟨u,rfl,t,rfl⟩:=zQ4 r
 exact call_abs_int fun u tk=>⟨.int (if i < 0 then -i else i),H,I.tok _,⟨_,rfl⟩,q⟩
theorem zTb (hc:X.calm = true):zHg X (.builtin "max") (fun xs H Q=>∃ i j,xs = [.int i,.int j]∧Q (.int (if j > i then j else i)) H):=by
 intro pins s σ H xs us Q I r h
 obtain ⟨i,j,rfl,q⟩:=h
 obtain ⟨u,w',rfl,⟨t,rfl⟩,⟨t',rfl⟩⟩:=zUb r
 refine max_two_ints (I.ok.hd hc) fun h' tk k=>⟨_,H,I.kept k,?_,q⟩
 by_cases hj:j > i
 ·rw [if_pos hj,if_pos hj]; exact ⟨_,rfl⟩
 ·rw [if_neg hj,if_neg hj]; exact ⟨_,rfl⟩
theorem zSc (hc:X.calm = true):zHg X (.builtin "min") (fun xs H Q=>∃ i j,xs = [.int i,.int j]∧Q (.int (if j < i then j else i)) H):=by
 intro pins s σ H xs us Q I r h
 obtain ⟨i,j,rfl,q⟩:=h
 obtain ⟨u,w',rfl,⟨t,rfl⟩,⟨t',rfl⟩⟩:=zUb r
 refine min_two_ints (I.ok.hd hc) fun h' tk k=>⟨_,H,I.kept k,?_,q⟩
 by_cases hj:j < i
 ·rw [if_pos hj,if_pos hj]; exact ⟨_,rfl⟩
 ·rw [if_neg hj,if_neg hj]; exact ⟨_,rfl⟩
end
end L2

namespace L2
open PySem PySem.Spec PyProof.Rows

structure ObjM (h:Heap) (x dx C:Addr) (mA:Str→Option Value):Prop where
 obj:h.get? x = some (PySem.W.instObj C dx)
 ns:h.Ns1 dx mA
 ne:dx≠x

theorem zS9 {h:Heap} {dx:Addr} {mA:Str→Option Value} (n:h.Ns1 dx mA):∃ od,h.get? dx = some od∧∀ name,PySem.W.lookIn name od = some (mA name):=by
 obtain ⟨o,es,ep,ho,hd,hk,_,hm⟩:=n
 refine ⟨o,ho,fun name=>?_⟩
 have e:=hm name
 unfold nsFind findBy at e
 rw [← Array.find?_toList] at e
 unfold PySem.W.lookIn
 rw [hd]
 dsimp only
 split
 ·rename_i y q
  rw [q] at e
  exact congrArg some e
 ·rename_i q
  rw [q] at e
  have a:es.toList.any (·.refKey) = false:=by
   rw [List.any_eq_false]
   intro y hy
   obtain ⟨z,t,hkey⟩:=hk y (Array.mem_toList_iff.mp hy)
   simp [DictEntry.refKey,hkey]
  have a':¬ es.toList.any (·.refKey) = true:=by rw [a]; exact Bool.false_ne_true
  rw [if_neg a']
  exact congrArg some e

theorem ObjM.look {h:Heap} {x dx C:Addr} {mA:Str→Option Value} (I:ObjM h x dx C mA):∃ od,PySem.W.InstAt h x (PySem.W.instObj C dx) C (some od)∧∀ name,PySem.W.lookIn name od = some (mA name) :=
 let ⟨od,ho,hl⟩:=zS9 I.ns
 ⟨od,⟨I.obj,rfl,rfl,ho⟩,hl⟩

section
variable {prog:Program} {w:World} {A:Around} {E:Value→Shared→Prop} {s:Shared} {K:PySem.W.Frag} {x dx C f:Addr} {mA:Str→Option Value} {name:Str} {v:Value}

end

section
variable {P:Program} {w:World} {H H':Hp} {h h':Heap} {a C dx:Addr} {fs fs':List (Str × V)}
theorem zVw (hok:HOk P w H h) (e:H a = some (.ins C dx fs)):∃ mA,ObjM h a dx C mA∧(∀ f,RelO (fs.lookup f) (mA f))∧PySem.Within mA (fs.map (·.1))∧fs.length≤1000∧H dx = some (.own a):=by
 obtain ⟨d,z,ne,ob,mA,n,r,q⟩:=(show zDp P w H h a (.ins C dx fs) from hok a _ e)
 exact ⟨mA,⟨ob,n,ne⟩,r,q,z,d⟩
end

structure Cls (K:PySem.W.Frag) (C:Addr):Prop where
 pg:PySem.W.plainGet K C Str.empty = true
 hd:PySem.W.hasDictIn K C = true
 po:PySem.W.plainOver K C = true
 sa:PySem.W.findIn K (.ref C) "__setattr__" = some (some (.builtin "object.__setattr__"))
theorem Cls.get {K:PySem.W.Frag} {C:Addr} (c:Cls K C) (f:Str):PySem.W.plainGet K C f = true:=c.pg
structure Con (K:PySem.W.Frag) (C:Addr) (f:Str) (v:V) (u:Value):Prop where
 at_:PySem.W.findIn K (.ref C) f = some (some u)
 rel:RelV v u
 get:PySem.W.specialIn K u "__get__" = some none
 cp:PySem.W.copiedNames.contains f = false
structure Meth (K:PySem.W.Frag) (C:Addr) (m:Str) (f:Addr):Prop where
 at_:PySem.W.findIn K (.ref C) m = some (some (.ref f))
 fn:PySem.W.isFn K (.ref f) = true
 kp:PySem.W.keepIn K (.ref f) = true

section
variable {X:Cx} {pins:List (Addr × Obj)} {σ:St} {H:Hp} {s:Shared} {a C dx:Addr} {fs:List (Str × V)} {f:Str} {v:V} {A:Around} {E:Value→Shared→Prop}

end

section
variable {X:Cx} {o e value:Expr} {f:Str} {pos pos' tpos:Pos} {ta tv:TE}
end

section
variable {X:Cx} {pins:List (Addr × Obj)} {σ:St} {H:Hp} {s:Shared} {A:Around} {E:Value→Shared→Prop} {Q:Value→Shared→Prop} {c:Value} {b:Bool}
inductive TyOf (K:PySem.W.Frag) (H:Hp):V→Value→Prop where
 | non:TyOf K H .non (.type "NoneType")
 | bl (x:Bool):TyOf K H (.bl x) (.type "bool")
 | int (i:Int):TyOf K H (.int i) (.type "int")
 | str (x:Str):TyOf K H (.str x) (.type "str")
 | flt (x:UInt64):TyOf K H (.flt x) (.type "float")
 | lst {a:Addr} {xs:List V} (e:H a = some (.lst xs)):TyOf K H (.ref a) (.type "list")
 | frz {a:Addr} {o:Obj} {xs:List V} (e:H a = some (.frz o (.lst xs))):TyOf K H (.ref a) (.type "list")
 | tup {a:Addr} {xs:List V} (e:H a = some (.tup xs)):TyOf K H (.ref a) (.type "tuple")
 | dK {a:Addr} {kvs:List (Key × V)} (e:H a = some (.dK kvs)):TyOf K H (.ref a) (.type "dict")
 | dT {a:Addr} {kvs:List (List Key × V)} (e:H a = some (.dT kvs)):TyOf K H (.ref a) (.type "dict")
 | ins {a C dx:Addr} {fs:List (Str × V)} (e:H a = some (.ins C dx fs)) (cl:Cls K C) (ha:PySem.W.findIn K (.ref C) "__class__" = some (some (.builtin "object.__class__")))
   (hn:PySem.W.specialIn K (.builtin "object.__class__") "__get__" = some (some (.builtin "getset_descriptor.__get__"))) (htk:PySem.W.takesIn K (.builtin "object.__class__") = some true)
   (hm:PySem.W.mroIn K C (.type "object") = some true):TyOf K H (.ref a) (.ref C)
theorem zS4 {x:V} {u t:Value} (I:Inv X pins σ H s) (rx:RelV x u) (ty:TyOf X.K H x t) (e:PySem.W.kitOne X.K t c = some b) (h:∀ tk,Q (.bool b) { s with toks:=tk }) :
  wpAny (model X.prog X.w) A (call (.builtin "isinstance") [u,c]) Q E s:=by
 cases ty with
 | non=>cases (show u = Value.none from rx); exact PySem.W.kia_one PySem.W.kitx_none I.kIn True.intro e (fun z=>nomatch z) h
 | bl y=>cases (show u = Value.bool y from rx); exact PySem.W.kia_one PySem.W.kitx_bool I.kIn True.intro e (fun z=>nomatch z) h
 | int i=>obtain ⟨t,q⟩:=(show ∃ t,u = Value.int i t from rx); cases q; exact PySem.W.kia_one PySem.W.kitx_int I.kIn True.intro e (fun z=>nomatch z) h
 | str y=>obtain ⟨t,q⟩:=(show ∃ t,u = Value.str y t from rx); cases q; exact PySem.W.kia_one PySem.W.kitx_str I.kIn True.intro e (fun z=>nomatch z) h
 | flt y=>obtain ⟨t,q⟩:=(show ∃ t,u = Value.float y t from rx); cases q; exact PySem.W.kia_one PySem.W.kitx_float I.kIn True.intro e (fun z=>nomatch z) h
 | @lst a xs ea =>
  cases (show u = Value.ref a from rx)
  obtain ⟨_,_,n,_,h1⟩:=(show zDp X.prog X.w H s.heap a (.lst xs) from I.hok a _ ea)
  exact PySem.W.kia_one PySem.W.kitx_list I.kIn ⟨_,h1,rfl⟩ e (fun z=>nomatch z) h
 | @frz a ob xs ea =>
  cases (show u = Value.ref a from rx)
  obtain ⟨_,_,_,n,_,h1⟩:=(show zDp X.prog X.w H s.heap a (.frz ob (.lst xs)) from I.hok a _ ea)
  exact PySem.W.kia_one PySem.W.kitx_list I.kIn ⟨_,h1,rfl⟩ e (fun z=>nomatch z) h
 | @tup a xs ea =>
  cases (show u = Value.ref a from rx)
  obtain ⟨_,_,_,p⟩:=(show zDp X.prog X.w H s.heap a (.tup xs) from I.hok a _ ea)
  obtain ⟨o,h1,h2,_⟩:=p
  exact PySem.W.kia_one PySem.W.kitx_tuple I.kIn ⟨o,h1,h2⟩ e (fun z=>nomatch z) h
 | @dK a kvs ea =>
  cases (show u = Value.ref a from rx)
  obtain ⟨_,_,vs,_,p⟩:=(show zDp X.prog X.w H s.heap a (.dK kvs) from I.hok a _ ea)
  obtain ⟨o,es,ep,h1,h2,_⟩:=p
  exact PySem.W.kia_one PySem.W.kitx_dict I.kIn ⟨o,h1,h2.1⟩ e (fun z=>nomatch z) h
 | @dT a kvs ea =>
  cases (show u = Value.ref a from rx)
  obtain ⟨_,_,xs,_,o,es,ep,h1,h2,_⟩:=(show zDp X.prog X.w H s.heap a (.dT kvs) from I.hok a _ ea)
  exact PySem.W.kia_one PySem.W.kitx_dict I.kIn ⟨o,h1,h2.1⟩ e (fun z=>nomatch z) h
 | @ins a C dx fs ea cl ha hn htk hm =>
  cases (show u = Value.ref a from rx)
  obtain ⟨mA,O,_⟩:=zVw I.hok ea
  obtain ⟨od,J,_⟩:=O.look
  exact PySem.W.kia_one (PySem.W.kitx_own (cl.get _) cl.hd ha hn htk hm) I.kIn J e (fun z=>nomatch z) h
end
end L2

namespace L2
open PySem PySem.Spec PyProof.Rows

structure Room (k:Nat) (A:Around):Prop where
 hd:A.handled = none
 dp:A.depth + 3 * k + 5 < recursionLimit
 un:A.units + 16 * k + 200 < cLine
theorem Room.mono {j k:Nat} {A:Around} (r:Room k A) (h:j≤k):Room j A:=⟨r.hd,by have:=r.dp; omega,by have:=r.un; omega⟩
theorem Room.deeper {k:Nat} {A:Around} (r:Room (k + 1) A) (env:Env):Room k (A.deeper env) :=
 ⟨r.hd,by have:=r.dp; show A.depth + 1 + 3 * k + 5 < _; omega,by have:=r.un; show A.units + 3 + 16 * k + 200 < _; omega⟩
theorem Room.depth {k:Nat} {A:Around} (r:Room k A):A.depth < recursionLimit:=by have:=r.dp; omega
theorem Room.units {k:Nat} {A:Around} (r:Room k A):A.units + 64 < cLine:=by have:=r.un; omega
theorem Room.units0 {k:Nat} {A:Around} (r:Room k A):A.units < cLine:=by have:=r.un; omega

def tNil:TA:=fun _ H Q=>Q [] H
def zF3 (ta:TE) (tr:TA):TA:=fun σ H Q=>ta σ H fun x H1=>tr σ H1 fun xs H2=>Q (x :: xs) H2
section
variable {X:Cx} {e:Expr} {es:List Expr} {te:TE} {t:TA} {pos:Pos}
theorem zAd:PA X [] tNil:=fun _ _ _ _ H Q I h=>Calls.spliced_nil ⟨[],H,I,.nil,h⟩
theorem zAa (ha:PE X e te) (hr:PA X es t) (hs:starEach (e :: es) X.env = (false,eval e X.env) :: starEach es X.env:=by rfl):PA X (e :: es) (zF3 te t):=by
 intro pos pins s σ H Q I h
 rw [hs]
 show wpAny _ _ (spliced ((false,eval e X.env) :: backTo pos (starEach es X.env))) _ _ s
 refine Calls.spliced_cons (thn (ha pins s σ H _ I h) fun u s1 ⟨x,H1,I1,r1,q1⟩=>?_)
 exact thn (hr pos pins s1 σ H1 _ I1 q1) fun us s2 ⟨xs,H2,I2,r2,q2⟩=>⟨x :: xs,H2,I2,.cons r1 r2,q2⟩

def tTup (t:TA):TE:=fun σ H Q=>t σ H fun xs H1=>xs.length≤sizeLine∧∀ p,H1 p = none→Q (.ref p) (upd H1 p (.tup xs))
def tLst (t:TA):TE:=fun σ H Q=>t σ H fun xs H1=>xs.length≤sizeLine∧∀ p,H1 p = none→Q (.ref p) (upd H1 p (.lst xs))
theorem zA0 {x1} (h:PA X es t):PE X (.Tuple es x1 pos) (tTup t):=by
 intro pins s σ H Q I hq
 refine wpAny_Tuple_spliced (thn (h pos pins s σ H _ I hq) fun us s1 ⟨xs,H1,I1,r,z,q⟩=>⟨by rw [← r.length]; exact z,?_⟩)
 have hf:H1 s1.heap.objs.size = none:=I1.hok.fresh (Nat.le_refl _)
 refine ⟨.ref s1.heap.objs.size,upd H1 s1.heap.objs.size (.tup xs),I1.laid (t':=s1.toks) (fun b u e=>Heap.get?_push_of_some _ e) (Nat.le_refl _) ?_,rfl,q _ hf⟩
 exact ⟨z,us,r,⟨_,Heap.get?_push_size _ rfl,rfl,_,rfl⟩⟩
theorem zBo (h:PA X es t):PE X (.List es pos) (tLst t):=by
 intro pins s σ H Q I hq
 refine wpAny_List_spliced (thn (h pos pins s σ H _ I hq) fun us s1 ⟨xs,H1,I1,r,z,q⟩=>⟨by rw [← r.length]; exact z,?_⟩)
 have hf:H1 s1.heap.objs.size = none:=I1.hok.fresh (Nat.le_refl _)
 refine ⟨.ref s1.heap.objs.size,upd H1 s1.heap.objs.size (.lst xs),I1.laid (t':=s1.toks) (fun b u e=>Heap.get?_push_of_some _ e) (Nat.le_refl _) ?_,rfl,q _ hf⟩
 exact ⟨z,us,0,r,Heap.get?_push_size _ rfl⟩
end

abbrev Sp:=List V→Hp→VK→XK→Prop
abbrev CXT:=List Env→Hp→Shared→XK→Value→Shared→Prop

structure Env0 (P:Program) (w:World) (K:PySem.W.Frag) (mg:Str→Option Value) (base:Heap) (A:Around) (outer:List Env) (s:Shared) (H:Hp):Prop where
 frames:A.frames = some outer
 mod:Mod K mg base
 bs:∀ b o,base.get? b = some o→s.heap.get? b = some o∧H b = none
 bsz:base.objs.size≤s.heap.objs.size
 funs:s.heap.FunFrames base outer
 frf:∀ b∈frs outer,H b = none
 hok:HOk P w H s.heap
 bare:AllBare s.gens
def CE (outer:List Env) (P:Program) (w:World) (H:Hp) (s:Shared) (Q:VK) (u:Value) (s':Shared):Prop :=
 ∃ v H',s'.os = s.os∧AllBare s'.gens∧Un (frs outer) [] H H' s.heap s'.heap∧HOk P w H' s'.heap∧RelV v u∧Q v H'
def CR (CX:CXT) (outer:List Env) (P:Program) (w:World) (H:Hp) (s:Shared) (Q:VK) (E:XK) (r:Result) (s':Shared):Prop :=
 match r with
 | .ok (.ret u)=>CE outer P w H s Q u s'
 | .ok _=>False
 | .error e=>CX outer H s E e s'
structure FnOk (P:Program) (w:World) (K:PySem.W.Frag) (mg:Str→Option Value) (base:Heap) (CX:CXT) (k:Nat) (f:Addr) (fd:FuncData) (ps:List Str) (sp:Sp):Prop where
 len:∀ vs H Q E,sp vs H Q E→vs.length = ps.length
 run:∀ (A:Around) (outer:List Env) (s:Shared) (H:Hp) (args:Args) (us:List Value) (vs:List V) (Q:VK) (E:XK),Room k A→Env0 P w K mg base A outer s H→BindsTo s fd args (ps.zip us)→Vals vs us→sp vs H Q E →
  codeAny (model P w) A (.call (.ref f) args) (CR CX outer P w H s Q E) s
section
variable {X:Cx} {pins:List (Addr × Obj)} {σ:St} {H:Hp} {s s':Shared}
theorem Inv.env0 (I:Inv X pins σ H s):Env0 X.prog X.w X.K X.mg X.base X.A X.stack s H :=
 ⟨I.ok.frames,I.ok.mod,I.bs,Nat.le_trans I.ok.bsz I.sz,I.stack,I.stkFree,I.hok,I.bare⟩
theorem Inv.after {Q:VK} {u:Value} (I:Inv X pins σ H s) (h:CE X.stack X.prog X.w H s Q u s'):EP X pins σ Q u s':=by
 obtain ⟨v,H',os,bare,un,hok,r,q⟩:=h
 obtain ⟨hh,g,d,t,os'⟩:=s'
 obtain rfl:os' = s.os:=os
 exact ⟨v,H',I.call (h':=hh) (g':=g) (d':=d) (t':=t) (ch:=[]) un hok bare (fun b z=>absurd z (by simp)),r,q⟩
end

def tCall (sp:Sp) (dvs:List V) (E:XK) (t:TA):TE:=fun σ H Q=>t σ H fun vs H1=>sp (vs ++ dvs) H1 Q E
def zPr (K:PySem.W.Frag) (fd:FuncData) (ps:List Str) (ds:List Value):Prop :=
 ∀ (s:Shared) (us:List Value),K.In s.heap→(us ++ ds).length = ps.length→BindsTo s fd ⟨us,[]⟩ (ps.zip (us ++ ds))
theorem zPr.all {K:PySem.W.Frag} {fd:FuncData} {ps:List Str} (h:∀ us:List Value,us.length = ps.length→bindArgs fd ⟨us,[]⟩ = pure (ps.zip us)):zPr K fd ps []:=fun s us _ hl=>by
 rw [List.append_nil] at hl ⊢
 exact .of_eq (h us hl)

def zRq (CX:CXT) (X:Cx) (E:XK):Prop:=∀ (pins:List (Addr × Obj)) (σ:St) (H:Hp) (s:Shared) (e:Value) (s':Shared),Inv X pins σ H s→CX X.stack H s E e s'→X.xe e s'

section
variable {X:Cx} {CX:CXT} {k:Nat} {f C:Addr} {fd:FuncData} {ps:List Str} {sp:Sp} {dvs:List V} {ds:List Value} {E:XK} {x m:Str} {p pos apos:Pos} {e o:Expr} {es:List Expr} {ta:TE} {t:TA}

theorem run_fn {pins:List (Addr × Obj)} {σ:St} {H:Hp} {s:Shared} {Q:VK} {us:List Value} {vs:List V} (F:FnOk X.prog X.w X.K X.mg X.base CX k f fd ps sp) (hr:Room k X.A) (hb:zPr X.K fd ps ds) (hd:Vals dvs ds) (hx:zRq CX X E)
  (I:Inv X pins σ H s) (r:Vals vs us) (h:sp (vs ++ dvs) H Q E):wpAny (model X.prog X.w) X.A (call (.ref f) us) (EP X pins σ Q) X.xe s:=by
 have r2:Vals (vs ++ dvs) (us ++ ds):=r.append hd
 have hl:(us ++ ds).length = ps.length:=by rw [← r2.length]; exact F.len _ _ _ _ h
 refine wpAny_call (codeAny_mono (F.run X.A X.stack s H ⟨us,[]⟩ (us ++ ds) (vs ++ dvs) Q E hr I.env0 (hb s us I.kIn hl) r2 h) fun r s' hq=>?_)
 cases r with
 | error e=>exact hx pins σ H s e s' I hq
 | ok fl =>
  cases fl with
  | ret u=>exact I.after hq
  | next=>exact False.elim hq
  | brk=>exact False.elim hq
  | cont=>exact False.elim hq

theorem zV6 (F:FnOk X.prog X.w X.K X.mg X.base CX k f fd ps sp) (hr:Room k X.A) (hg:Gl X x) (hm:X.mg x = some (.ref f)) (hk:PySem.W.keepIn X.K (.ref f) = true) (hb:zPr X.K fd ps ds) (hd:Vals dvs ds) (hx:zRq CX X E)
  (ha:PA X (e :: es) t) (hdb:(x == ("__debug__" : Str)) = false:=by decide) (he:starEach (e :: es) X.env = (false,eval e X.env) :: starEach es X.env:=by rfl) (hpl:(backTo pos (starEach es X.env)).any (·.1) = false:=by rfl) :
  PE X (.Call (.Name x p) (e :: es) [] pos) (tCall sp dvs E t):=by
 intro pins s σ H Q I h
 refine wpAny_Call_Name_kw (zWf I hg hm ?_ hdb)
 refine PySem.W.callWith_K (h₀:=X.base) I.ok.mod.kin hk (thn (ha pos pins s σ H _ I h) fun us s1 ⟨vs,H1,I1,r,q⟩=>⟨I1.kIn,?_⟩) he hpl
 exact run_fn F hr hb hd hx I1 r q
structure Mk (K:PySem.W.Frag) (C f:Addr):Prop where
 makes:PySem.W.makesIn K C = true
 init:PySem.W.findIn K (.ref C) "__init__" = some (some (.ref f))
 fn:PySem.W.isFn K (.ref f) = true
 kp:PySem.W.keepIn K (.ref C) = true

end

section
variable {X:Cx} {CX:CXT} {k:Nat} {f C:Addr} {fd:FuncData} {ps ks:List Str} {sp:Sp} {E:XK} {x m:Str} {p pos apos kpos:Pos} {e o:Expr} {es:List Expr} {kws:List Keyword} {te ta:TE} {t tk:TA} {nm:Option Str}
structure KBinds (K:PySem.W.Frag) (fd:FuncData) (ps ks:List Str) (g:List Value→List Value→List Value) (gV:List V→List V→List V):Prop where
 to:∀ (s:Shared) (us ws:List Value),K.In s.heap→(g us ws).length = ps.length→BindsTo s fd ⟨us,ks.zip ws⟩ (ps.zip (g us ws))
 rel:∀ {vs:List V} {us:List Value} {zs:List V} {ws:List Value},Vals vs us→Vals zs ws→Vals (gV vs zs) (g us ws)
variable {g:List Value→List Value→List Value} {gV:List V→List V→List V}
end

structure zAy (N P:List Str) (sc:Scope):Prop where
 kind:sc.kind = .function
 co:sc.isCoroutine = false
 gen:sc.isGenerator = false
 nd:N.Nodup
 pre:N.take P.length = P
 par:∀ x∈P,sc.names.lookup x = some .local∨sc.names.lookup x = some .cell
 nofree:∀ y∈sc.names,y.2≠.free

theorem zNz {kindOf:Str→Option NameKind} {x:Str} : ∀ {binds:List (Str × Value)} {m:Str→Option Value},(∀ v,(x,v) ∉ binds)→bindL kindOf binds m x = m x
 | [],_,_=>rfl
 | (n,v) :: r,m,h=>by
  unfold bindL
  rw [zNz fun w hw=>h w (List.mem_cons_of_mem _ hw)]
  split
  ·have:x≠n:=by rintro rfl; exact h v List.mem_cons_self
   simp [this]
  ·rfl
theorem zNc {kindOf:Str→Option NameKind} {x:Str} : ∀ {binds:List (Str × Value)} {m:Str→Option Value},(∀ v,(x,v) ∉ binds)→bindC kindOf binds m x = m x
 | [],_,_=>rfl
 | (n,v) :: r,m,h=>by
  unfold bindC
  rw [zNc fun w hw=>h w (List.mem_cons_of_mem _ hw)]
  split
  ·rfl
  ·have:x≠n:=by rintro rfl; exact h v List.mem_cons_self
   simp [this]
theorem zNl {kindOf:Str→Option NameKind} {x:Str} {v:Value} : ∀ {P:List Str} {vs:List Value} {i:Nat} {m:Str→Option Value},P.Nodup→P[i]? = some x→vs[i]? = some v→kindOf x = some .local →
  bindL kindOf (P.zip vs) m x = some v
 | [],_,_,_,_,h,_,_=>by simp at h
 | _ :: _,[],_,_,_,_,h,_=>by simp at h
 | p :: P,w :: vs,0,m,nd,h1,h2,hk=>by
  simp at h1 h2; subst h1; subst h2
  show bindL kindOf ((p,w) :: P.zip vs) m p = _
  unfold bindL
  rw [zNz fun v hv=>(List.nodup_cons.mp nd).1 (List.of_mem_zip hv).1,if_pos hk]
  simp
 | p :: P,w :: vs,i + 1,m,nd,h1,h2,hk=>by
  show bindL kindOf ((p,w) :: P.zip vs) m x = _
  unfold bindL
  exact zNl (i:=i) (List.nodup_cons.mp nd).2 (by simpa using h1) (by simpa using h2) hk
theorem zMn {kindOf:Str→Option NameKind} {x:Str} {v:Value} : ∀ {P:List Str} {vs:List Value} {i:Nat} {m:Str→Option Value},P.Nodup→P[i]? = some x→vs[i]? = some v→kindOf x≠some .local →
  bindC kindOf (P.zip vs) m x = some v
 | [],_,_,_,_,h,_,_=>by simp at h
 | _ :: _,[],_,_,_,_,h,_=>by simp at h
 | p :: P,w :: vs,0,m,nd,h1,h2,hk=>by
  simp at h1 h2; subst h1; subst h2
  show bindC kindOf ((p,w) :: P.zip vs) m p = _
  unfold bindC
  rw [zNc fun v hv=>(List.nodup_cons.mp nd).1 (List.of_mem_zip hv).1,if_neg hk]
  simp
 | p :: P,w :: vs,i + 1,m,nd,h1,h2,hk=>by
  show bindC kindOf ((p,w) :: P.zip vs) m x = _
  unfold bindC
  exact zMn (i:=i) (List.nodup_cons.mp nd).2 (by simpa using h1) (by simpa using h2) hk

def start (N:List Str) (vs:List V):St:=vs.map some ++ List.replicate (N.length - vs.length) none

def cxOf (CX:CXT) (P:Program) (w:World) (K:PySem.W.Frag) (mg:Str→Option Value) (base:Heap) (N:List Str) (qual:Str) (scope:Scope) (f:Addr) (cd:Value) (A:Around) (outer:List Env) (s:Shared) (H:Hp) (E:XK):Cx where
 prog:=P
 w:=w
 K:=K
 mg:=mg
 base:=base
 A:=A.deeper (envOfC qual scope s.heap.objs.size f cd)
 N:=N
 s₀:=s
 H₀:=H
 env:=envOfC qual scope s.heap.objs.size f cd
 outer:=outer
 stack:=envOfC qual scope s.heap.objs.size f cd :: outer
 ex:=[]
 calm:=true
 fn:=fun _=>true
 pn:=[]
 xe:=fun e s'=>wpAny (model P w) (A.deeper (envOfC qual scope s.heap.objs.size f cd)) (leaving (envOfC qual scope s.heap.objs.size f cd) e) (fun _ s''=>CX outer H s E e s'') (fun e' s''=>CX outer H s E e' s'') s'

theorem zPh {sc:Scope} {n:Nat} {x:Str} (h:sc.names.lookup x = some .cell):∃ c,(cellsFrom n sc.names []).lookup x = some c:=by
 have q:=PySem.W.cellsFrom_some sc.names n [] (.inl h)
 exact Option.isSome_iff_exists.mp q

theorem zQz {CX:CXT} {P:Program} {w:World} {K:PySem.W.Frag} {mg:Str→Option Value} {base:Heap} {N ps:List Str} {qual:Str} {scope:Scope} {f:Addr} {cd:Value} {A:Around} {outer:List Env} {s s1:Shared} {H:Hp} {E:XK} {us:List Value} {vs:List V}
  (S:zAy N ps scope) (hd:A.handled = none) (e0:Env0 P w K mg base A outer s H) (hl:vs.length = ps.length) (r:Vals vs us)
  (x:InCallC s s.heap.objs.size (bindL (envOfC qual scope s.heap.objs.size f cd).kindOf (ps.zip us) fun _=>none) (cellsFrom (s.heap.objs.size + 1) scope.names []) (bindC (envOfC qual scope s.heap.objs.size f cd).kindOf (ps.zip us) fun _=>none) s1) :
  Inv (cxOf CX P w K mg base N qual scope f cd A outer s H E) [] (start N vs) H s1:=by
 have hpl:ps.length≤N.length:=by have:=congrArg List.length S.pre; rw [List.length_take] at this; omega
 obtain ⟨h1,tk,rfl,hk⟩:=x.done
 have noA:∀ b:Addr,b ∉ (cxOf CX P w K mg base N qual scope f cd A outer s H E).ex:=fun b z=>absurd (show b∈([]:List Addr) from z) (by simp)
 refine ⟨⟨e0.mod,S.kind,rfl,rfl,Nat.le_refl _,fun y z c h1 h2=>?_,fun y hy=>?_,fun y c _ h=>?_,fun _=>hd,Around.frames_deeper e0.frames,.inr ⟨rfl,rfl⟩,fun b z=>absurd z (noA b),e0.bs,e0.bsz,fun b _ _=>noA b,fun b z=>absurd z (noA b),e0.funs,e0.frf⟩,
  rfl,e0.bare,Un.kept hk,⟨_,x.toInCall.ns,fun i y v h1 h2 h3=>?_⟩,fun y c h=>⟨_,x.cell y c h⟩,e0.hok.fresh (Nat.le_refl _),fun y c h=>?_,fun p hp=>absurd (show p∈([]:List (Addr × Obj)) from hp) (by simp),e0.hok.kept hk,?_⟩
 ·exact name_of_addr x.apart (PySem.mem_of_lookup h1) (PySem.mem_of_lookup h2)
 ·have hy:scope.names.lookup y = some .cell∨scope.names.lookup y = some .free:=hy
  rcases hy with hy | hy
  ·exact zPh hy
  ·exact absurd rfl (S.nofree _ (PySem.mem_of_lookup hy))
 ·exact Nat.le_of_lt (x.above y c (PySem.mem_of_lookup h))
 ·have hi:i < vs.length:=by
   unfold start at h2
   by_cases hi:i < vs.length
   ·exact hi
   ·rw [List.getElem?_append_right (by simpa using hi)] at h2
    rw [List.getElem?_replicate] at h2
    split at h2 <;> cases h2
  have ha:vs[i]? = some v:=by
   unfold start at h2
   rw [List.getElem?_append_left (by simpa using hi),List.getElem?_map] at h2
   cases e:vs[i]? with
   | none=>rw [e] at h2; cases h2
   | some a=>rw [e] at h2; cases h2; rfl
  obtain ⟨u,hu,rv⟩:=r.get ha
  have hp:ps[i]? = some y:=by
   rw [← S.pre,List.getElem?_take_of_lt (by omega)]; exact h1
  have ndP:ps.Nodup:=by rw [← S.pre]; exact S.nd.sublist (List.take_sublist _ _)
  refine ⟨u,rv,?_⟩
  rcases S.par y (List.mem_of_getElem? hp) with k | k
  ·exact .inl ⟨k,zNl ndP hp hu k⟩
  ·obtain ⟨c,e⟩:=zPh (n:=s.heap.objs.size + 1) k
   refine .inr ⟨.inl k,c,e,?_⟩
   have q:=x.cell y c e
   rw [zMn ndP hp hu (by show scope.names.lookup y≠_; rw [k]; decide)] at q
   exact q
 ·exact e0.hok.fresh (Nat.le_of_lt (x.above y c (PySem.mem_of_lookup h)))
 ·unfold start
  show _ = N.length
  rw [List.length_append,List.length_map,List.length_replicate]
  omega

theorem fn_of {CX:CXT} {P:Program} {w:World} {K:PySem.W.Frag} {mg:Str→Option Value} {base:Heap} {k:Nat} {f:Addr} {name qual:Str} {params:Arguments} {body:List Stmt} {scope:Scope} {dV kV doc pm cdv ct oc:Value} {an od:Option Addr}
  {osl:Array (Option Value)} {N ps:List Str} {sp:Sp} (lk:K.lookup f = some ⟨oc,od,.func (PySem.W.fnOf name qual params body scope dV kV doc pm an cdv ct),osl⟩) (hcd:PySem.W.codeIn K cdv qual = true) (S:zAy N ps scope)
  (len:∀ vs H Q E,sp vs H Q E→vs.length = ps.length)
  (hbody:∀ (A:Around) (outer:List Env) (s:Shared) (H:Hp) (vs:List V) (Q:VK) (E:XK),Room k (A.deeper (envOfC qual scope s.heap.objs.size f cdv))→sp vs H Q E →
   ∃ t,PSs (cxOf CX P w K mg base N qual scope f cdv A outer s H E) body t∧t { nx:=fun _ H'=>Q .non H',rt:=Q } (start N vs) H) :
  FnOk P w K mg base CX (k + 1) f (PySem.W.fnOf name qual params body scope dV kV doc pm an cdv ct) ps sp:=by
 refine ⟨len,fun A outer s H args us vs Q E hr e0 hb r hsp=>?_⟩
 have hl:=len _ _ _ _ hsp
 have KX:K.In s.heap:=e0.mod.kin.keeps fun b o e=>(e0.bs b o e).1
 have lim:s.heap.NoLimit:=e0.mod.nolimit.keeps fun b o e=>(e0.bs b o e).1
 have hkind:∀ y∈ps.zip us,scope.names.lookup y.1 = some .local∨(scope.names.lookup y.1 = some .cell∧((cellsFrom (s.heap.objs.size + 1) scope.names []).lookup y.1).isSome = true):=fun ⟨n,v⟩ hy=>by
  rcases S.par n (List.of_mem_zip hy).1 with q | q
  ·exact .inl q
  ·exact .inr ⟨q,PySem.W.cellsFrom_some _ _ _ (.inl q)⟩
 refine codeAny_call_function hr.depth (KX _ _ lk) rfl S.co S.gen rfl (PySem.W.codeRec_of KX hcd) (hb _ _ _ _ ?_)
 refine wpAny_newFunctionEnv_cells S.kind hkind fun env he s1 x=>?_
 subst he
 refine ⟨lim.keeps x.toInCall.keep,codeAny_func ?_⟩
 obtain ⟨t,ht,hq⟩:=hbody A outer s H vs Q E (hr.deeper _) hsp
 have I:Inv (cxOf CX P w K mg base N qual scope f cdv A outer s H E) [] (start N vs) H s1:=zQz S hr.hd e0 hl r x
 refine wpAny_mono (ht [] s1 (start N vs) H _ I hq) (fun fl s' hs=>?_) fun e s' hs=>hs
 have fin:∀ {σ':St} {H':Hp} {v:V} {u:Value},Inv (cxOf CX P w K mg base N qual scope f cdv A outer s H E) [] σ' H' s'→RelV v u→Q v H'→CE outer P w H s Q u s' :=
  fun {σ' H' v u} J rv q=>⟨v,H',J.os,J.bare,J.base,J.hok,rv,q⟩
 cases fl with
 | ret u =>
  obtain ⟨v,σ',H',J,rv,q⟩:=hs
  exact fin J rv q
 | next =>
  obtain ⟨σ',H',J,q⟩:=hs
  exact fin (v:=V.non) (u:=Value.none) J rfl q
 | brk =>
  obtain ⟨_,_,_,q⟩:=hs
  exact False.elim q
 | cont =>
  obtain ⟨_,_,_,q⟩:=hs
  exact False.elim q
end L2

namespace L2
open PySem PySem.Spec PyProof.Rows
section
variable {X:Cx} {x:Str} {p pos:Pos} {e:Expr} {es:List Expr} {t:TA} {id T:String} {r:List V→Hp→VK→Prop}

def tCB (r:List V→Hp→VK→Prop) (t:TA):TE:=fun σ H Q=>t σ H fun vs H1=>r vs H1 Q
theorem zAv (hc:zHg X (.builtin id) r) (hg:Gl X x) (hm:X.mg x = none) (hv:bootBuiltins x = some (.builtin id)) (ha:PA X (e :: es) t) (hn:x ≠ "__name__" := by decide) (hdb:(x == ("__debug__" : Str)) = false:=by decide)
  (he:starEach (e :: es) X.env = (false,eval e X.env) :: starEach es X.env:=by rfl) (hpl:(backTo pos (starEach es X.env)).any (·.1) = false:=by rfl):PE X (.Call (.Name x p) (e :: es) [] pos) (tCB r t):=by
 intro pins s σ H Q I h
 refine wpAny_Call_Name_kw (zLq I hg hm hv ?_ hn hdb)
 exact PyProof.Rows.callWith_builtin1 (thn (ha pos pins s σ H _ I h) fun us s1 ⟨vs,H1,I1,r1,q1⟩=>hc pins s1 σ H1 vs us Q I1 r1 q1) he hpl
theorem zGo (hc:zHg X (.type T) r) (hg:Gl X x) (hm:X.mg x = none) (hv:bootBuiltins x = some (.type T)) (ha:PA X (e :: es) t) (hn:x ≠ "__name__" := by decide) (hdb:(x == ("__debug__" : Str)) = false:=by decide)
  (he:starEach (e :: es) X.env = (false,eval e X.env) :: starEach es X.env:=by rfl) (hpl:(backTo pos (starEach es X.env)).any (·.1) = false:=by rfl):PE X (.Call (.Name x p) (e :: es) [] pos) (tCB r t):=by
 intro pins s σ H Q I h
 refine wpAny_Call_Name_kw (zLq I hg hm hv ?_ hn hdb)
 exact PyProof.Rows.callWith_type1 (thn (ha pos pins s σ H _ I h) fun us s1 ⟨vs,H1,I1,r1,q1⟩=>hc pins s1 σ H1 vs us Q I1 r1 q1) he hpl
end
end L2

namespace HT
open PySem PyProof.Rows

def lexLt:List Int→List Int→Bool
 | [],[]=>false
 | [],_ :: _=>true
 | _ :: _,[]=>false
 | x :: xs,y :: ys=>if x = y then lexLt xs ys else decide (x < y)
theorem lexLt_cons (x y:Int) (xs ys:List Int):lexLt (x :: xs) (y :: ys) = if x = y then lexLt xs ys else decide (x < y):=rfl
section
open PySem.SeqAt
open PySem.AutoSeq1 (wpAny_loadPart')
open PySem.MeetsSeq PySem.MeetsSeq2 PySem.MeetsSeq3

end

section
variable {prog:Program} {w:World} {A:Around} {E:Value→Shared→Prop} {s:Shared}

def sIx (n d:Nat):Option Int→Nat
 | none=>d
 | some v=>if v < 0 then (v + (n:Int)).toNat else min v.toNat n
theorem sIx_nat (n d k:Nat):sIx n d (some (k:Int)) = min k n:=by
 show (if (k:Int) < 0 then ((k:Int) + (n:Int)).toNat else min (k:Int).toNat n) = min k n
 rw [if_neg (by omega),Int.toNat_natCast]
theorem sIx_le (n d:Nat) (hd:d≤n) (o:Option Int):sIx n d o≤n:=by
 cases o with
 | none=>exact hd
 | some v =>
  show (if v < 0 then (v + (n:Int)).toNat else min v.toNat n)≤n
  by_cases hv:v < 0
  ·rw [if_pos hv]; omega
  ·rw [if_neg hv]; exact Nat.min_le_right _ _
theorem zQy (v:Int) (n d:Nat):(if v < 0 then max (v + (n:Int)) 0 else min v (n:Int)) = ((sIx n d (some v):Nat):Int):=by
 show (if v < 0 then max (v + (n:Int)) 0 else min v (n:Int)) = (((if v < 0 then (v + (n:Int)).toNat else min v.toNat n):Nat):Int)
 by_cases hv:v < 0
 ·simp only [if_pos hv]; omega
 ·simp only [if_neg hv]; omega
theorem zQn (lo hi:Option Int) (n:Nat):Builtin.Slice.sliceAdjust lo hi 1 (n:Int) = (((sIx n 0 lo:Nat):Int),((sIx n n hi:Nat):Int)):=by
 have h1:¬ ((1:Int) < 0):=by omega
 unfold Builtin.Slice.sliceAdjust
 simp only [h1,if_false]
 refine Prod.ext ?_ ?_
 ·cases lo with
  | none=>rfl
  | some v=>exact zQy v n 0
 ·cases hi with
  | none=>rfl
  | some v=>exact zQy v n n
theorem zPs (i j:Nat):Builtin.Slice.slicePlaces (i:Int) (j:Int) 1 = j - i:=by
 unfold Builtin.Slice.slicePlaces
 have h1:(1:Int) > 0:=by omega
 simp only [h1,if_true,Int.ediv_one]
 split <;> omega
theorem zLu {v:Value} {o:Option Int} {Q:Option Int→Shared→Prop} (p:IsPart v o) (h:Q o s):wpAny (model prog w) A (Builtin.Slice.slicePartIndex v) Q E s:=by
 cases p with
 | none=>exact slicePart_none h
 | int i t=>exact slicePart_int h
theorem zI3 {sl:Addr} {vl vu:Value} {lo hi:Option Int} {n:Nat} {Q:Int × Int × Nat→Shared→Prop} (hs:s.heap.IsSliceOf sl vl vu .none) (pl:IsPart vl lo) (pu:IsPart vu hi)
  (h:Q (((sIx n 0 lo:Nat):Int),1,sIx n n hi - sIx n 0 lo) s):wpAny (model prog w) A (Builtin.Slice.sliceApplied (.ref sl) (pure (n:Int))) Q E s:=by
 obtain ⟨os,hos,hcs,hds⟩:=id hs
 unfold Builtin.Slice.sliceApplied Builtin.Slice.sliceFields
 refine wpAny_bind (wpAny_bind (wpAny_field hos hds (x:=vl) rfl (wpAny_bind (wpAny_field hos hds (x:=vu) rfl (wpAny_bind (wpAny_field hos hds (x:=.none) rfl (wpAny_pure ?_)))))))
 refine wpAny_bind (slicePart_none ?_)
 show wpAny _ _ (if ((1:Int) == 0) = true then _ else _) _ _ s
 rw [if_neg (by decide)]
 refine wpAny_bind (zLu pl (wpAny_bind (zLu pu (wpAny_bind (wpAny_pure ?_)))))
 show wpAny _ _ (match Builtin.Slice.sliceAdjust lo hi 1 (n:Int) with | (lo,hi)=>pure (lo,(1:Int),Builtin.Slice.slicePlaces lo hi 1)) _ _ s
 rw [zQn lo hi n]
 show wpAny _ _ (pure (((sIx n 0 lo:Nat):Int),(1:Int),Builtin.Slice.slicePlaces ((sIx n 0 lo:Nat):Int) ((sIx n n hi:Nat):Int) 1)) _ _ s
 rw [zPs]
 exact wpAny_pure h
theorem zTv (xs:Array Value) (i k:Nat):((List.range k).filterMap fun (m:Nat)=>xs[((i:Int) + (m:Int) * 1).toNat]?).toArray = ((xs.toList.drop i).take k).toArray:=by
 have e:(fun (m:Nat)=>xs[((i:Int) + (m:Int) * 1).toNat]?) = fun m=>xs[i + m]?:=by
  funext m
  have:((i:Int) + (m:Int) * 1).toNat = i + m:=by omega
  rw [this]
 rw [e]
 have:=pick_run xs i k
 rw [List.filterMap_map] at this
 have e2:((fun x=>xs[x]?) ∘ fun x=>i + x) = fun m=>xs[i + m]?:=rfl
 rw [e2] at this
 rw [this]

theorem getItem_tuple_cut {t sl:Addr} {items:Array Value} {vl vu:Value} {lo hi:Option Int} {Q:Value→Shared→Prop} (ht:IsTup s.heap t items) (hs:s.heap.IsSliceOf sl vl vu .none) (pl:IsPart vl lo) (pu:IsPart vu hi)
  (hw:¬ (sIx items.size 0 lo = 0∧sIx items.size items.size hi = items.size))
  (h:Q (.ref s.heap.objs.size) { s with heap:=s.heap.push { cls:=.type "tuple", data:=.seq ((items.toList.drop (sIx items.size 0 lo)).take (sIx items.size items.size hi - sIx items.size 0 lo)).toArray } })
  (hsz:items.size≤sizeLine):wpAny (model prog w) A (getItem (.ref t) (.ref sl)) Q E s:=by
 have htake:sizeOk (.seq ((items.toList.drop (sIx items.size 0 lo)).take (sIx items.size items.size hi - sIx items.size 0 lo)).toArray):=by
  show ((items.toList.drop (sIx items.size 0 lo)).take (sIx items.size items.size hi - sIx items.size 0 lo)).toArray.size≤sizeLine
  rw [List.size_toArray,List.length_take,List.length_drop,Array.length_toList]
  omega
 have hj:sIx items.size items.size hi≤items.size:=sIx_le _ _ (Nat.le_refl _) hi
 obtain ⟨os,hos,hcs,hds⟩:=id hs
 have hTs:s.TypeIs (.ref sl) "slice" := ⟨os,hos,hcs⟩
 unfold getItem
 try with_reducible refine wpAny_holding ?_
 first | refine wpAny_bind (wpAny_pure ?_) | skip
 refine wpAny_bind (wpAny_sequenceKey ht.typeIs (by decide) ?_)
 refine wpAny_bind (wpAny_callSpecial?_slot (name:=Str.ofString "__getitem__") ht.typeIs PyProof.Rows.slot_tuple_getitem
  (wpAny_call_entry PyProof.Rows.slot_tuple_getitem ht.typeIs entry_tuple_getitem ?_ (args_tuple_getitem _ _)))
 show wpAny _ _ (Builtin.Tuple.tupleItemsOf (.ref t) >>= _) _ _ s
 refine wpAny_bind (tupleItemsOf_ ht ?_)
 refine wpAny_bind (wpAny_typeOf hTs ?_)
 rw [if_pos (by decide)]
 refine wpAny_bind (zI3 hs pl pu ?_)
 have hno:¬ ((((sIx items.size 0 lo:Nat):Int) == 0 && (1:Int) == 1 && (sIx items.size items.size hi - sIx items.size 0 lo) == items.size) = true):=by
  intro q
  rw [Bool.and_eq_true,Bool.and_eq_true] at q
  have q1:((sIx items.size 0 lo:Nat):Int) = 0:=eq_of_beq q.1.1
  have q2:sIx items.size items.size hi - sIx items.size 0 lo = items.size:=eq_of_beq q.2
  exact hw ⟨by omega,by omega⟩
 show wpAny _ _ (if (((sIx items.size 0 lo:Nat):Int) == 0 && (1:Int) == 1 && (sIx items.size items.size hi - sIx items.size 0 lo) == items.size) = true then _ else _) _ _ s
 rw [if_neg hno,zTv]
 first
  | exact wpAny_bind (m:=Builtin.Tuple.tupleExact _) (wpAny_newObj_type (wpAny_pure ⟨_,rfl,wpAny_pure h⟩) htake)
  | exact wpAny_bind (m:=Builtin.Tuple.tupleExact _) (wpAny_newObj_type (wpAny_bind (wpAny_pure (wpAny_pure ⟨_,rfl,wpAny_pure h⟩))) htake)
  | exact wpAny_bind (wpAny_bind (m:=Builtin.Tuple.tupleExact _) (wpAny_newObj_type (wpAny_pure (wpAny_pure ⟨_,rfl,wpAny_pure h⟩)) htake))
  | exact wpAny_bind (wpAny_bind (m:=Builtin.Tuple.tupleExact _) (wpAny_newObj_type (wpAny_pure ⟨_,rfl,wpAny_pure h⟩) htake))
end
end HT

namespace L2
open PySem PySem.Spec PyProof.Rows

abbrev TO:=St→Hp→(Option Int→Hp→Prop)→Prop
def PO (X:Cx) (e:Option Expr) (t:TO):Prop :=
 ∀ (pins:List (Addr × Obj)) (s:Shared) (σ:St) (H:Hp) (Q:Option Int→Hp→Prop),Inv X pins σ H s→t σ H Q →
  wpAny (model X.prog X.w) X.A (evalPart e X.env) (fun u s'=>∃ o H',Inv X pins σ H' s'∧IsPart u o∧Q o H') X.xe s
def zVu:TO:=fun _ H Q=>Q none H
def tPart (t:TE):TO:=fun σ H Q=>t σ H fun x H1=>∃ i,x = .int i∧Q (some i) H1

theorem zP0 {ns:List Int} : ∀ {us:List Value},Vals (ns.map V.int) us→IntsAre us ns:=by
 induction ns with
 | nil=>intro us r; rw [List.map_nil] at r; cases r; exact .nil
 | cons n ns ih =>
  intro us r
  rw [List.map_cons] at r
  cases r with
  | cons r1 r2 =>
   obtain ⟨t,e⟩:=r1
   subst e
   exact .cons n t (ih r2)

section
variable {X:Cx} {e:Expr} {te:TE} {lo hi:Option Expr} {tl th:TO} {pos p2:Pos}

theorem zCn:PO X none zVu:=by
 intro pins s σ H Q I h
 rw [evalPart_none]
 exact wpAny_pure ⟨none,H,I,.none,h⟩
theorem zCo (h:PE X e te):PO X (some e) (tPart te):=by
 intro pins s σ H Q I hw
 rw [evalPart_some]
 refine thn (h pins s σ H _ I hw) fun u s1 ⟨x,H1,I1,r1,q1⟩=>?_
 obtain ⟨i,rfl,q⟩:=q1
 obtain ⟨t,rfl⟩:=r1
 exact ⟨some i,H1,I1,.int i t,q⟩

def SlR (X:Cx) (r:V→Option Int→Option Int→Hp→VK→Prop):Prop :=
 ∀ (pins:List (Addr × Obj)) (s:Shared) (σ:St) (H:Hp) (x:V) (v vl vu:Value) (lo hi:Option Int) (sl:Addr) (Q:VK),Inv X pins σ H s→RelV x v→s.heap.IsSliceOf sl vl vu .none→IsPart vl lo→IsPart vu hi→r x lo hi H Q →
  ∃ T id,typeLookup (.type T) "__getitem__" = pure (some (.builtin id))∧s.TypeIs v T∧wpAny (model X.prog X.w) X.A (getItem v (.ref sl)) (EP X pins σ Q) X.xe s
def tSl (r:V→Option Int→Option Int→Hp→VK→Prop) (te:TE) (tl th:TO):TE:=fun σ H Q=>te σ H fun x H1=>tl σ H1 fun l H2=>th σ H2 fun u H3=>r x l u H3 Q
theorem zBy {r:V→Option Int→Option Int→Hp→VK→Prop} (hr:SlR X r) (he:PE X e te) (hl:PO X lo tl) (hu:PO X hi th):PE X (.Subscript e (.Slice lo hi none p2) pos) (tSl r te tl th):=by
 intro pins s σ H Q I h
 refine Subscript_ (thn (he pins s σ H _ I h) fun v s1 ⟨x,H1,I1,r1,q1⟩=>?_)
 refine wpAny_Slice (thn (hl pins s1 σ H1 _ I1 q1) fun vl s2 ⟨l,H2,I2,pl,q2⟩=>thn (hu pins s2 σ H2 _ I2 q2) fun vu s3 ⟨u,H3,I3,pu,q3⟩=>?_)
 rw [evalPart_none]
 refine wpAny_pure ?_
 have I4:Inv X pins σ H3 { s3 with heap:=s3.heap.push { cls:=.type "slice", data:=.fields #[vl,vu,.none] } }:=I3.kept (t':=s3.toks) fun b ob q=>Heap.get?_push_of_some _ q
 obtain ⟨T,id,hT,ht,hg⟩:=hr pins { s3 with heap:=s3.heap.push { cls:=.type "slice", data:=.fields #[vl,vu,.none] } } σ H3 x v vl vu l u s3.heap.objs.size Q I4 r1 (Heap.IsSliceOf.new ..) pl pu q3
 show wpAny (model X.prog X.w) X.A (subscriptTail e (.Slice lo hi none p2) v (.ref s3.heap.objs.size)) (EP X pins σ Q) X.xe { s3 with heap:=s3.heap.push { cls:=.type "slice", data:=.fields #[vl,vu,.none] } }
 exact tail_any (ops:=[.ref s3.heap.objs.size,v]) ht hT hg (by with_unfolding_all rfl)

def cutV (xs:List V) (lo hi:Option Int):List V:=(xs.drop (HT.sIx xs.length 0 lo)).take (HT.sIx xs.length xs.length hi - HT.sIx xs.length 0 lo)
theorem zJ3 (xs:List V) (lo hi:Option Int):(cutV xs lo hi).length≤xs.length:=by
 unfold cutV
 rw [List.length_take,List.length_drop]
 omega
def rSlT (K:PySem.W.Frag):V→Option Int→Option Int→Hp→VK→Prop:=fun x lo hi H Q=>∃ a xs,x = .ref a∧SqT K H a xs ∧
 ¬ (HT.sIx xs.length 0 lo = 0∧HT.sIx xs.length xs.length hi = xs.length)∧∀ p,H p = none→Q (.ref p) (upd H p (.tup (cutV xs lo hi)))
theorem sl_tup:SlR X (rSlT X.K):=by
 intro pins s σ H x v vl vu lo hi sl Q I rx hs pl pu h
 obtain ⟨a,xs,rfl,hx,hw,q⟩:=h
 cases rx
 obtain ⟨its,r,ht,hz⟩:=I.tuple hx
 have hlen:its.toArray.size = xs.length:=by rw [List.size_toArray]; exact r.length.symm
 refine ⟨"tuple", _,PyProof.Rows.slot_tuple_getitem.lookup,ht.typeIs,?_⟩
 refine HT.getItem_tuple_cut ht hs pl pu (by rw [hlen]; exact hw) ?_ (by rw [hlen]; exact hz)
 rw [hlen]
 refine ⟨.ref s.heap.objs.size,_,I.laid (t':=s.toks) (o:=.tup (cutV xs lo hi)) (fun b ob q=>Heap.get?_push_of_some _ q) (Nat.le_refl _) ?_,rfl,q _ (I.hok.fresh (Nat.le_refl _))⟩
 exact ⟨Nat.le_trans (zJ3 xs lo hi) hz,_,(r.drop (HT.sIx xs.length 0 lo)).take (HT.sIx xs.length xs.length hi - HT.sIx xs.length 0 lo),IsTup.new _ _⟩

end
end L2

namespace L2
open PySem PySem.Spec PyProof.Rows

def ixN (n:Nat) (i:Int):Option Nat:=if 0≤i then (if i < n then some i.toNat else none) else if -(n:Int)≤i then some (i + n).toNat else none
def atI {α:Type} (xs:List α) (i:Int):Option α:=(ixN xs.length i).bind fun j=>xs[j]?
theorem zSi {n:Nat} {i:Int} {j:Nat} (h:ixN n i = some j):seqIndex? i n = some j∧j < n∧-(n:Int)≤i∧i < n:=by
 unfold ixN at h
 by_cases h0:0≤i
 ·rw [if_pos h0] at h
  by_cases h1:i < n
  ·rw [if_pos h1] at h
   have e:i.toNat = j:=Option.some.inj h
   exact ⟨by rw [seqIndex_of h0 h1,e],by omega,by omega,h1⟩
  ·rw [if_neg h1] at h; cases h
 ·rw [if_neg h0] at h
  by_cases h1 : -(n:Int)≤i
  ·rw [if_pos h1] at h
   have e:(i + n).toNat = j:=Option.some.inj h
   exact ⟨by rw [seqIndex_neg (by omega) h1,e],by omega,h1,by omega⟩
  ·rw [if_neg h1] at h; cases h
theorem zSu {α:Type} {xs:List α} {i:Int} {v:α} (h:atI xs i = some v):∃ j,seqIndex? i xs.length = some j∧xs[j]? = some v∧j < xs.length∧-(xs.length:Int)≤i∧i < xs.length:=by
 unfold atI at h
 cases e:ixN xs.length i with
 | none=>rw [e] at h; cases h
 | some j =>
  rw [e] at h
  obtain ⟨h1,h2,h3,h4⟩:=zSi e
  exact ⟨j,h1,h,h2,h3,h4⟩
theorem zKy {α:Type} {xs:List α} {j:Nat} {v:α} (h:xs[j]? = some v):atI xs (j:Int) = some v:=by
 have hj:j < xs.length:=(List.getElem?_eq_some_iff.mp h).1
 have e:ixN xs.length (j:Int) = some j:=by
  unfold ixN
  rw [if_pos (by omega),if_pos (by omega)]; simp
 unfold atI; rw [e]; exact h
def zWh (b:Expr):Prop:=∀ o i,subscripted b false o i = operate [o,i] (getItem o i)
def IxR (X:Cx) (r:R2):Prop :=
 ∀ (value slice:Expr) (pins:List (Addr × Obj)) (s:Shared) (σ:St) (H:Hp) (x y:V) (v u:Value) (Q:VK),Inv X pins σ H s→RelV x v→RelV y u→r x y H Q →
  subscripted slice false v u = operate [v,u] (getItem v u)→wpAny (model X.prog X.w) X.A (subscriptTail value slice v u) (EP X pins σ Q) X.xe s
def MtR (X:Cx) (id:String) (r:V→List V→Hp→VK→Prop):Prop :=
 ∀ (pins:List (Addr × Obj)) (s:Shared) (σ:St) (H:Hp) (x:V) (xs:List V) (v:Value) (us:List Value) (Q:VK),Inv X pins σ H s→RelV x v→Vals xs us→r x xs H Q →
  wpAny (model X.prog X.w) X.A (call (.builtin id) (v :: us)) (EP X pins σ Q) X.xe s
section
variable {X:Cx} {a b:Expr} {ta tb:TE} {pos:Pos}
theorem zAn {r:R2} (hr:IxR X r) (ha:PE X a ta) (hb:PE X b tb) (hs:zWh b):PE X (.Subscript a b pos) (tOp r ta tb):=by
 intro pins s σ H Q I h
 exact Subscript_ (binT ha hb I h fun v u s2 x y H2 I2 rx ry q=>hr a b pins s2 σ H2 x y v u Q I2 rx ry q (hs _ _))

def rIxL (K:PySem.W.Frag):R2:=fun x y H Q=>∃ p xs i v,x = .ref p∧y = .int i∧SqL K H p xs∧atI xs i = some v∧Q v H
def rIxT (K:PySem.W.Frag):R2:=fun x y H Q=>∃ p xs i v,x = .ref p∧y = .int i∧SqT K H p xs∧atI xs i = some v∧Q v H
theorem zWd:IxR X (rIxL X.K):=by
 intro value slice pins s σ H x y v u Q I rx ry h hs
 obtain ⟨p,xs,i,z,rfl,rfl,hq,he,q⟩:=h
 cases rx
 obtain ⟨t,rfl⟩:=ry
 obtain ⟨its,r,pl,hz⟩:=I.list hq
 obtain ⟨j,h1,h2,h3,h4,h5⟩:=zSu he
 obtain ⟨w,ew,rw'⟩:=r.get h2
 have hl:=r.length
 have hn:=zMy
 have fin:EP X pins σ Q w s:=⟨z,H,I,rw',q⟩
 by_cases h0:0≤i
 ·have hj:i.toNat = j:=by
   rw [seqIndex_of h0 h5] at h1
   exact Option.some.inj h1
  exact item_listR pl.isList h0 (by omega) (by rw [hj]; simpa using ew) fin hs
 ·have hj:(i + (its.toArray.size:Int)).toNat = j:=by
   rw [seqIndex_neg (by omega) h4] at h1
   rw [List.size_toArray,← hl]
   exact Option.some.inj h1
  exact subscriptTail_builtinR (x:=w) pl.isList.typeIs slot_list_getitem.lookup
   (wpAny_getItem_list_neg (Q:=fun r s'=>r = w∧EP X pins σ Q r s') pl.isList (by omega) (by rw [List.size_toArray] <;> omega) (by omega) (by rw [hj]; simpa using ew) ⟨rfl,fin⟩) hs
theorem ix_tup:IxR X (rIxT X.K):=by
 intro value slice pins s σ H x y v u Q I rx ry h hs
 obtain ⟨p,xs,i,z,rfl,rfl,hq,he,q⟩:=h
 cases rx
 obtain ⟨t,rfl⟩:=ry
 obtain ⟨its,r,pl,hz⟩:=I.tuple hq
 obtain ⟨j,h1,h2,h3,h4,h5⟩:=zSu he
 obtain ⟨w,ew,rw'⟩:=r.get h2
 have hl:=r.length
 have hn:=zMy
 have fin:EP X pins σ Q w s:=⟨z,H,I,rw',q⟩
 exact subscriptTail_builtinR (x:=w) pl.typeIs slot_tuple_getitem.lookup
  (getItem_tuple (j:=j) (Q:=fun r s'=>r = w∧EP X pins σ Q r s') pl (by omega) (by omega) (by rw [List.size_toArray,← hl]; exact h1) (by simpa using ew) ⟨rfl,fin⟩) hs
theorem zP5 (its:List Value) (n j:Nat) (u:Value):Obj.mapSeq (·.setIfInBounds j u) { cls:=.type "list", data:=.seq its.toArray n } = { cls:=.type "list", data:=.seq (its.set j u).toArray n }:=by
 simp [Obj.mapSeq]
theorem Inv.lst {pins:List (Addr × Obj)} {σ:St} {H:Hp} {s:Shared} {p:Addr} {xs:List V} (I:Inv X pins σ H s) (h:H p = some (.lst xs)) :
  ∃ (its:List Value) (n:Nat),Vals xs its∧s.heap.get? p = some { cls:=.type "list", data:=.seq its.toArray n }∧xs.length≤sizeLine:=by
 obtain ⟨z,its,n,r,e⟩:=I.hok p _ h
 exact ⟨its,n,r,e,z⟩
theorem Inv.lstUpd {pins:List (Addr × Obj)} {σ:St} {H:Hp} {s:Shared} {p:Addr} {xs ys:List V} {its its':List Value} {n n':Nat} {f:Obj→Obj} (I:Inv X pins σ H s) (h:H p = some (.lst xs))
  (ho:s.heap.get? p = some { cls:=.type "list", data:=.seq its.toArray n }) (hf:f { cls:=.type "list", data:=.seq its.toArray n } = { cls:=.type "list", data:=.seq its'.toArray n' }) (r:Vals ys its') (hz:ys.length≤sizeLine) (t:Nat) :
  Inv X pins σ (upd H p (.lst ys)) { s with heap:=s.heap.update p f,toks:=t }:=by
 have e:(s.heap.update p f).get? p = some { cls:=.type "list", data:=.seq its'.toArray n' }:=by
  rw [Heap.get?_update_self f ho (by rw [hf] <;> rfl),hf]
 refine I.write (x:=p) (e:=p) (by rw [h]; trivial) (.inl rfl) (fun b u hb q=>(Heap.get?_update_other _ _ (Ne.symm hb)).trans q) ⟨_,e⟩ ?_
 exact ⟨hz,its',n',r,e⟩
def rSetL:V→V→V→Hp→(Hp→Prop)→Prop:=fun o i v H Q=>∃ p xs k j,o = .ref p∧i = .int k∧H p = some (.lst xs)∧ixN xs.length k = some j∧Q (upd H p (.lst (xs.set j v)))
theorem zUk:PSet X rSetL:=by
 intro pins s σ H o i v ov iv u Q I ro ri rv h
 obtain ⟨p,xs,k,j,rfl,rfl,hp,hj,q⟩:=h
 cases ro
 obtain ⟨t,rfl⟩:=ri
 obtain ⟨its,n,r,ho,hz⟩:=I.lst hp
 obtain ⟨h1,h2,h3,h4⟩:=zSi hj
 have hl:=r.length
 have hn:=zMy
 have I':Inv X pins σ (upd H p (.lst (xs.set j v))) { s with heap:=s.heap.update p (Obj.mapSeq (·.setIfInBounds j u)) } :=
  I.lstUpd hp ho (zP5 its n j u) (r.set rv j) (by rw [List.length_set]; exact hz) s.toks
 by_cases h0:0≤k
 ·have hk:k.toNat = j:=by
   rw [seqIndex_of h0 h4] at h1
   exact Option.some.inj h1
  exact PySem.W.ki_setAt ho h0 (by omega) (by rw [List.size_toArray,← hl]; exact h4) (by rw [hk]; exact ⟨_,I',q⟩)
 ·have hk:(k + (its.toArray.size:Int)).toNat = j:=by
   rw [seqIndex_neg (by omega) h3] at h1
   rw [List.size_toArray,← hl]
   exact Option.some.inj h1
  exact PySem.W.ki_setBack ho (by omega) (by rw [List.size_toArray,← hl]; exact h3) (by omega) (by rw [hk]; exact ⟨_,I',q⟩)

theorem zNh (lo hi:Option Int) (n:Nat):(sliceBounds lo hi none n).1 = ((HT.sIx n 0 lo:Nat):Int)∧(sliceBounds lo hi none n).2.1 = ((HT.sIx n n hi:Nat):Int)∧(sliceBounds lo hi none n).2.2 = 1:=by
 refine ⟨?_,?_,rfl⟩
 ·cases lo with
  | none=>simp [sliceBounds,HT.sIx]
  | some i =>
   simp only [sliceBounds,HT.sIx,Option.getD_none,show (1:Int) > 0 by decide,if_true]
   by_cases h:i < 0
   ·simp only [h,if_true] <;> omega
   ·simp only [h,if_false] <;> omega
 ·cases hi with
  | none=>simp [sliceBounds,HT.sIx]
  | some i =>
   simp only [sliceBounds,HT.sIx,Option.getD_none,show (1:Int) > 0 by decide,if_true]
   by_cases h:i < 0
   ·simp only [h,if_true] <;> omega
   ·simp only [h,if_false] <;> omega
theorem zL3 (its:List Value) (lo hi:Option Int):slicePick its.toArray lo hi none = ((its.drop (HT.sIx its.length 0 lo)).take (HT.sIx its.length its.length hi - HT.sIx its.length 0 lo)).toArray:=by
 obtain ⟨h1,h2,h3⟩:=zNh lo hi its.toArray.size
 unfold slicePick
 rw [h1,h2,h3]
 simp only [sliceRange_one,pick_run,List.size_toArray] <;> rfl
def rSlL (K:PySem.W.Frag):V→Option Int→Option Int→Hp→VK→Prop:=fun x lo hi H Q=>∃ a xs,x = .ref a∧SqL K H a xs∧∀ p,H p = none→Q (.ref p) (upd H p (.lst (cutV xs lo hi)))
theorem zCy:SlR X (rSlL X.K):=by
 intro pins s σ H x v vl vu lo hi sl Q I rx hs pl pu h
 obtain ⟨a,xs,rfl,hx,q⟩:=h
 cases rx
 obtain ⟨its,r,ht,hz⟩:=I.list hx
 have hlen:=r.length
 refine ⟨"list", _,slot_list_getitem.lookup,ht.isList.typeIs,?_⟩
 refine wpAny_getItem_list_slice ht.isList hs pl pu .none (by simp) ?_ (by rw [List.size_toArray] <;> omega)
 rw [zL3,← hlen]
 refine ⟨.ref s.heap.objs.size,_,I.laid (t':=s.toks) (o:=.lst (cutV xs lo hi)) (fun b ob q=>Heap.get?_push_of_some _ q) (Nat.le_refl _) ?_,rfl,q _ (I.hok.fresh (Nat.le_refl _))⟩
 exact ⟨Nat.le_trans (zJ3 xs lo hi) hz,_,0,(r.drop (HT.sIx xs.length 0 lo)).take (HT.sIx xs.length xs.length hi - HT.sIx xs.length 0 lo),Heap.get?_push_size _ rfl⟩

theorem zA1:zHg X (.builtin "len") (fun xs H Q=>∃ p ys,xs = [.ref p]∧(SqL X.K H p ys∨SqT X.K H p ys)∧Q (.int ys.length) H):=by
 intro pins s σ H xs us Q I r h
 obtain ⟨p,ys,rfl,hq,q⟩:=h
 obtain ⟨u,rfl,rx⟩:=zQ4 r
 cases rx
 have hn:=zMy
 rcases hq with hq | hq
 ·obtain ⟨its,r',pl,hz⟩:=I.list hq
  have hlen:=r'.length
  exact Calls.call_len_list pl.isList (by simp only [List.size_toArray] <;> omega) ⟨.int ys.length,H,I.tok _,⟨s.toks + 1,by rw [List.size_toArray,hlen]⟩,q⟩
 ·obtain ⟨its,r',pl,hz⟩:=I.tuple hq
  have hlen:=r'.length
  exact len_tuple pl (by simp only [List.size_toArray] <;> omega) ⟨.int ys.length,H,I.tok _,⟨s.toks + 1,by rw [List.size_toArray,hlen]⟩,q⟩
theorem zIz:zHg X (.type "list") (fun xs H Q=>∃ p ys,xs = [.ref p]∧(SqL X.K H p ys∨SqT X.K H p ys)∧∀ l,H l = none→Q (.ref l) (upd H l (.lst ys))):=by
 intro pins s σ H xs us Q I r h
 obtain ⟨p,ys,rfl,hq,q⟩:=h
 obtain ⟨u,rfl,rx⟩:=zQ4 r
 cases rx
 have fin:∀ (its:List Value),Vals ys its→ys.length≤sizeLine→∀ (h':Heap) (c':Nat),(∀ b o',s.heap.get? b = some o'→h'.get? b = some o') →
   h'.get? s.heap.objs.size = some { cls:=.type "list", dict:=none,data:=.seq its.toArray c',slots:=#[] }→EP X pins σ Q (.ref s.heap.objs.size) { s with heap:=h' }:=fun its r' hz h' c' kp e =>
  ⟨.ref s.heap.objs.size,_,I.laid (t':=s.toks) kp (Nat.le_refl _) (show zDp X.prog X.w _ h' _ (.lst ys) from ⟨hz,its,c',r',e⟩),rfl,q _ (I.hok.fresh (Nat.le_refl _))⟩
 rcases hq with hq | hq
 ·obtain ⟨its,r',pl,hz⟩:=I.list hq
  have hlen:=r'.length
  obtain ⟨o,ho,hc,n,hd⟩:=pl.isList
  exact call_list_seq p (.inl rfl) ho hc hd (fun h' c' kp e=>fin its r' hz h' c' kp e) (by simp only [List.size_toArray] <;> omega)
 ·obtain ⟨its,r',pl,hz⟩:=I.tuple hq
  have hlen:=r'.length
  obtain ⟨o,ho,hc,n,hd⟩:=pl
  exact call_list_seq p (.inr rfl) ho hc hd (fun h' c' kp e=>fin its r' hz h' c' kp e) (by simp only [List.size_toArray] <;> omega)
theorem zL6:zHg X (.type "tuple") (fun xs H Q=>∃ p ys,xs = [.ref p]∧((SqL X.K H p ys∧∀ l,H l = none→Q (.ref l) (upd H l (.tup ys)))∨(SqT X.K H p ys∧Q (.ref p) H))):=by
 intro pins s σ H xs us Q I r h
 obtain ⟨p,ys,rfl,h⟩:=h
 obtain ⟨u,rfl,rx⟩:=zQ4 r
 cases rx
 rcases h with ⟨hq,q⟩ | ⟨hq,q⟩
 ·obtain ⟨its,r',pl,hz⟩:=I.list hq
  have hlen:=r'.length
  refine call_tuple_list pl.isList (fun h' kp=>?_) (by simp only [List.size_toArray] <;> omega)
  have I1:Inv X pins σ H { s with heap:=h' }:=I.kept (t':=s.toks) kp
  have I2:Inv X pins σ (upd H h'.objs.size (.tup ys)) { s with heap:=h'.push { cls:=.type "tuple", data:=.seq its.toArray } } :=
   I1.laid (t':=s.toks) (fun b o e=>Heap.get?_push_of_some _ e) (Nat.le_refl _) (show zDp X.prog X.w _ _ _ (.tup ys) from ⟨hz,its,r',IsTup.new _ _⟩)
  exact ⟨.ref h'.objs.size,_,I2,rfl,q _ (I1.hok.fresh (Nat.le_refl _))⟩
 ·obtain ⟨its,r',pl,hz⟩:=I.tuple hq
  exact call_tuple_same pl ⟨.ref p,H,I,rfl,q⟩

def tyV (K:PySem.W.Frag) (T:String) (x:V) (H:Hp):Prop:=match x with
 | .str _=>T = "str"
 | .int _=>T = "int"
 | .ref p=>(T = "list" ∧ ∃ xs,SqL K H p xs)∨(T = "tuple" ∧ ∃ o,K.lookup p = some o∧o.cls = .type "tuple" ∧ o.dict = none) ∨
   (T = "dict" ∧ ((∃ kvs,H p = some (.dK kvs))∨∃ kvs,H p = some (.dT kvs)))∨(T = "set" ∧ ∃ S n,H p = some (.set S n))
 | _=>False
theorem tyV_is {pins:List (Addr × Obj)} {σ:St} {H:Hp} {s:Shared} {T:String} {x:V} {v:Value} (I:Inv X pins σ H s) (r:RelV x v) (ty:tyV X.K T x H) :
  s.TypeIs v T∧∀ a,v = .ref a→∃ ob,s.heap.get? a = some ob∧ob.dict = none:=by
 cases x with
 | str z =>
  obtain ⟨t,rfl⟩:=r
  cases (show T = "str" from ty)
  exact ⟨typeIs_str s z t,fun _ e=>nomatch e⟩
 | int i =>
  obtain ⟨t,rfl⟩:=r
  cases (show T = "int" from ty)
  exact ⟨typeIs_int s i t,fun _ e=>nomatch e⟩
 | ref p =>
  cases r
  rcases ty with ⟨rfl,xs,hq⟩ | ⟨rfl,o,hk,hc,hd⟩ | ⟨rfl,hk⟩ | ⟨rfl,S,n,hk⟩
  ·obtain ⟨its,_,pl,_⟩:=I.list hq
   refine ⟨pl.isList.typeIs,fun a e=>?_⟩
   cases e
   obtain ⟨o,n,e,c,hd,_⟩:=pl
   exact ⟨o,e,hd⟩
  ·refine ⟨⟨o,I.kIn p o hk,hc⟩,fun a e=>?_⟩
   cases e
   exact ⟨o,I.kIn _ o hk,hd⟩
  ·have z:∃ o,s.heap.get? p = some o∧o.ExactDict:=by
    rcases hk with ⟨kvs,hk⟩ | ⟨kvs,hk⟩
    ·obtain ⟨_,_,_,_,o,_,_,e,ex,_⟩:=I.hok p _ hk
     exact ⟨o,e,ex⟩
    ·obtain ⟨_,_,_,_,o,_,_,e,ex,_⟩:=I.hok p _ hk
     exact ⟨o,e,ex⟩
   obtain ⟨o,e,ex⟩:=z
   refine ⟨⟨o,e,ex.1⟩,fun a e2=>?_⟩
   cases e2
   exact ⟨o,e,ex.2.1⟩
  ·obtain ⟨o,_,_,_,e,ex,_⟩:=I.hok p _ hk
   refine ⟨⟨o,e,ex.1⟩,fun a e2=>?_⟩
   cases e2
   exact ⟨o,e,ex.2.1⟩
 | _=>exact False.elim ty
def tBM (K:PySem.W.Frag) (T:String) (r:V→List V→Hp→VK→Prop) (to:TE) (t:TA):TE:=fun σ H Q=>to σ H fun x H1=>tyV K T x H1∧t σ H1 fun xs H2=>r x xs H2 Q
variable {o e:Expr} {es:List Expr} {to:TE} {t:TA} {name:Str} {apos cpos:Pos} {T id:String} {r:V→List V→Hp→VK→Prop}
theorem zLy (pa:PlainAttrs T) (slot:Slot T name id) (hty:typeOf (.builtin id) = pure (.type "method_descriptor")) (hm:MtR X id r) (ho:PE X o to) (ha:PA X (e :: es) t)
  (hbase:attributeBase o name X.env (eval o X.env) = eval o X.env:=by rfl)
  (hfew:((backTo cpos (starEach (e :: es) X.env)).all (fun x=>!x.1) && (backToKw cpos (keywordEach [] X.env)).all (fun x=>x.1.isSome)
   && decide ((e :: es).length + ([]:List Keyword).length + (if ([]:List Keyword).isEmpty then 0 else 1) < 30)) = true:=by rfl)
  (hline:(apos.endLine == cpos.line) = true:=by rfl) (hs:starEach (e :: es) X.env = (false,eval e X.env) :: starEach es X.env:=by rfl) (hplain:(backTo cpos (starEach es X.env)).any (·.1) = false:=by rfl) :
  PE X (.Call (.Attribute o name apos) (e :: es) [] cpos) (tBM X.K T r to t):=by
 intro pins s σ H Q I h
 refine wpAny_Call_method_late hbase hfew hline rfl (thn (ho pins s σ H _ I h) fun v s1 ⟨x,H1,I1,r1,ty,q1⟩=>?_)
 obtain ⟨h1,h2⟩:=tyV_is I1 r1 ty
 refine ⟨T,id,pa,slot,hty,h1,h2,?_⟩
 have hA:=ha cpos pins s1 σ H1 _ I1 q1
 rw [hs] at hA ⊢
 refine Calls.callWith_builtin (by show (false || (backTo cpos (starEach es X.env)).any (·.1)) = false; rw [hplain] <;> rfl) (Calls.evalArgs_plain ?_)
 exact thn hA fun us s2 ⟨vs,H2,I2,r2,q2⟩=>hm pins s2 σ H2 x vs v us Q I2 r1 r2 q2
end
end L2

namespace L2
open PySem PySem.Spec PyProof.Rows

def MtM (X:Cx) (id:String) (r:V→List V→Hp→VK→Prop):Prop :=
 ∀ (pins:List (Addr × Obj)) (s:Shared) (σ:St) (H:Hp) (x:V) (xs:List V) (v:Value) (us:List Value) (Q:VK),Inv X pins σ H s→RelV x v→Vals xs us→r x xs H Q →
  wpAny (model X.prog X.w) X.A (call (.builtin id) (v :: us)) (EP X pins σ Q) X.xe s

theorem Vals.one:∀ {x:V} {us:List Value},Vals [x] us→∃ u,us = [u]∧RelV x u
 | _,_,.cons r .nil=>⟨_,rfl,r⟩
theorem Vals.two:∀ {x y:V} {us:List Value},Vals [x,y] us→∃ u v,us = [u,v]∧RelV x u∧RelV y v
 | _,_,_,.cons r (.cons q .nil)=>⟨_,_,rfl,r,q⟩
theorem Vals.zero:∀ {us:List Value},Vals [] us→us = []
 | _,.nil=>rfl
section
variable {X:Cx} {pins:List (Addr × Obj)} {σ:St} {H:Hp} {s:Shared} {l b:Addr} {xs ys zs:List V}

theorem Inv.lset {its its':List Value} {n:Nat} {f:Array Value→Array Value} {t':Nat} (I:Inv X pins σ H s) (hH:H l = some (.lst xs))
  (e:s.heap.get? l = some { cls:=.type "list", data:=.seq its.toArray n }) (hf:f its.toArray = its'.toArray) (hv:Vals ys its') (hz:ys.length≤sizeLine) :
  Inv X pins σ (upd H l (.lst ys)) { s with heap:=s.heap.update l (Obj.mapSeq f),toks:=t' }:=by
 have q:=PySem.IsL.update e f
 rw [hf] at q
 refine I.write (x:=l) (e:=l) (by rw [hH]; exact trivial) (.inl rfl) (fun b' u hb hu=>(Heap.get?_update_other s.heap (Obj.mapSeq f) (Ne.symm hb)).trans hu) ⟨_,q⟩ ?_
 exact ⟨hz,its',_,hv,q⟩
theorem Inv.lnew {its:List Value} {t':Nat} (I:Inv X pins σ H s) (hv:Vals ys its) (hz:ys.length≤sizeLine) :
  Inv X pins σ (upd H s.heap.objs.size (.lst ys)) { s with heap:=s.heap.push { cls:=.type "list", data:=.seq its.toArray },toks:=t' } :=
 I.laid (fun _ _ q=>Heap.get?_push_of_some _ q) (Nat.le_refl _) ⟨hz,its,0,hv,Heap.get?_push_size _ rfl⟩
theorem Inv.fresh (I:Inv X pins σ H s):H s.heap.objs.size = none:=I.hok.fresh (Nat.le_refl _)
theorem Inv.lstM (I:Inv X pins σ H s) (hH:H l = some (.lst xs)):xs.length≤sizeLine∧∃ (its:List Value) (n:Nat),Vals xs its∧xs.length = its.length∧s.heap.get? l = some { cls:=.type "list", data:=.seq its.toArray n }:=by
 obtain ⟨z,its,n,r,e⟩:=I.hok l _ hH
 exact ⟨z,its,n,r,r.length,e⟩

theorem zTr {n:Nat} (h:n≤sizeLine):Builtin.List.listTooLong n = false:=by
 unfold Builtin.List.listTooLong
 exact decide_eq_false (by omega)
end

section
variable {X:Cx}

def zVs:V→List V→Hp→VK→Prop:=fun x vs H Q=>∃ l xs y,x = .ref l∧vs = [y]∧H l = some (.lst xs)∧xs.length < sizeLine∧Q .non (upd H l (.lst (xs ++ [y])))
theorem zCw:MtM X "list.append" zVs:=by
 intro pins s σ H x vs v us Q I rx rv h
 obtain ⟨l,xs,y,rfl,rfl,hH,hz,q⟩:=h
 cases rx
 obtain ⟨u,rfl,ru⟩:=rv.one
 obtain ⟨z,its,n,r,hl,e⟩:=I.lstM hH
 refine call_meets F.slot_list_append ⟨_,e,rfl⟩ F.entry_list_append (F.args_list_append_2 _ _) (PySem.list_append l its.toArray n u (by rw [List.size_toArray]; omega)) ⟨e,?_⟩
 refine ⟨.non,_,I.lset (its':=its ++ [u]) hH e (by simp) (r.append (.cons ru .nil)) ?_,rfl,q⟩
 rw [List.length_append,List.length_singleton]
 omega

def zVk:V→List V→Hp→VK→Prop:=fun x vs H Q=>∃ l b xs zs,x = .ref l∧vs = [.ref b]∧H l = some (.lst xs)∧H b = some (.lst zs)∧xs.length + zs.length≤sizeLine∧Q .non (upd H l (.lst (xs ++ zs)))
theorem mt_extend:MtM X "list.extend" zVk:=by
 intro pins s σ H x vs v us Q I rx rv h
 obtain ⟨l,b,xs,zs,rfl,rfl,hH,hB,hz,q⟩:=h
 cases rx
 obtain ⟨u,rfl,ru⟩:=rv.one
 cases ru
 obtain ⟨z,its,n,r,hl,e⟩:=I.lstM hH
 obtain ⟨z2,its2,n2,r2,hl2,e2⟩:=I.lstM hB
 have hsz:its.toArray.size + its2.toArray.size≤sizeLine:=by rw [List.size_toArray,List.size_toArray]; omega
 have hlong:¬ (!its.toArray.isEmpty && Builtin.List.listTooLong (its.toArray.size + its2.toArray.size)) = true:=by
  rw [zTr hsz,Bool.and_false]
  exact Bool.false_ne_true
 refine call_meets F.slot_list_extend ⟨_,e,rfl⟩ F.entry_list_extend (F.args_list_extend_2 _ _)
  (AutoSeq1.list_extend_list_list_0 l its.toArray n b its2.toArray n2 hlong (by rw [List.size_toArray]; omega) (by omega)) ⟨e,e2,?_⟩
 refine ⟨.non,_,I.lset (its':=its ++ its2) hH e (by simp) (r.append r2) ?_,rfl,q⟩
 rw [List.length_append]
 omega

def rCat:R2:=fun x y H Q=>∃ l b xs zs,x = .ref l∧y = .ref b∧H l = some (.lst xs)∧H b = some (.lst zs)∧xs.length + zs.length≤sizeLine∧∀ p,H p = none→Q (.ref p) (upd H p (.lst (xs ++ zs)))
theorem zEv:OpR X (binaryOp .Add) rCat:=by
 intro pins s σ H x y v u Q I rx ry h
 obtain ⟨l,b,xs,zs,rfl,rfl,hH,hB,hz,q⟩:=h
 cases rx
 cases ry
 obtain ⟨z,its,n,r,hl,e⟩:=I.lstM hH
 obtain ⟨z2,its2,n2,r2,hl2,e2⟩:=I.lstM hB
 refine PySem.P.add_list e e2 ?_ (by rw [List.size_toArray,List.size_toArray]; omega)
 have ea:its.toArray ++ its2.toArray = (its ++ its2).toArray:=by simp
 rw [ea]
 exact ⟨.ref _,_,I.lnew (t':=s.toks) (r.append r2) (by rw [List.length_append]; omega),rfl,q _ I.fresh⟩
end

section
variable {prog:Program} {w:World} {A:Around} {E:Value→Shared→Prop} {s:Shared}
set_option maxRecDepth 100000 in
end

section
variable {X:Cx}
end
end L2

namespace Att
open PySem PySem.W PySem.Calls PyProof.Rows

theorem zKz {P:Params} {h:Heap} : ∀ (ns:List Int) (vs:List Value),WellAll P h vs (ns.map WData.int)→IntsAre vs ns:=by
 intro ns
 induction ns with
 | nil =>
  intro vs w
  rw [List.map_nil] at w
  cases w
  exact .nil
 | cons n ns ih =>
  intro vs w
  rw [List.map_cons] at w
  cases w with
  | cons a b =>
   cases a
   exact .cons _ _ (ih _ b)

theorem zSz {l:OpenLaw} {n:Nat} (hn:l.most = some n) {P:Params} {h:Heap} {args:List WData} {vals:List Value}
  (hpre:l.row.toRowW.claim.pre args = true) (hwl:WellAll P h vals args) :
  ∃ a vs ns,vals = [Value.ref a]∧args = [WData.list (ns.map WData.int)]∧h.get? a = some { cls:=.type "list", data:=.seq vs.toArray }∧IntsAre vs ns∧ns.length≤n:=by
 have hsh:WShape.hasAll [] args [.list .int] = true:=(pre_splitW hpre).1
 have hc:l.pre.holds [] { args:=args } = true:=(pre_splitW hpre).2
 obtain ⟨d,r,rfl,h1,h2⟩:=hasAllW_cons hsh
 obtain rfl:=hasAllW_nil h2
 obtain ⟨xs,rfl,h3⟩:=hasW_list h1
 obtain ⟨ns,rfl⟩:=items_int h3
 have hlen:ns.length≤n:=by
  unfold OpenLaw.pre at hc
  have h4:(WTm.not (.lt (.lit (.int (n:Int))) (.len (.arg 0)))).holds [] { args:=[.list (ns.map .int)] } = true:=by
   have h4:=(holds_andW hc).1
   rw [hn] at h4
   exact h4
  have h5:=condW_of h4 (w_not (w_lt w_lit (w_len_list (w_arg rfl))))
  rw [List.length_map] at h5
  refine Nat.le_of_not_lt fun q=>?_
  have q':(n:Int) < ((ns.length:Nat):Int):=by omega
  first
   | (rw [decide_eq_true q'] at h5; exact absurd h5 (by decide))
   | (simp at h5; omega)
 cases hwl with
 | cons w1 w2 =>
  cases w2
  cases w1 with
  | list ho hall=>exact ⟨_,_,ns,rfl,rfl,ho,zKz ns _ hall,hlen⟩

theorem zS6 (l:OpenLaw) (args:List WData):l.row.toRowW.claim.post args (.bool true) args = true :=
 postW_of (r:=l.row.toRowW) (X:=(true == true))
  (show WShape.has [] (.bool true) .bool = true by first | rfl | decide | simp [WShape.has,WShape.arms,WShape.armsAll])
  (show (WTm.eq .res (.lit (.bool true))).value [] { args:=args,res:=some (.bool true),after:=args } = some (.bool (true == true)) from w_eq_bool (w_res rfl) w_lit) rfl

theorem attach_call {l:OpenLaw} {n:Nat} {q:Program} {loose:List Str} {XP:(Str→Option Value)→Heap→Prop} {YP:World→Heap→Prop} {d:DefRec}
  (hn:l.most = some n) (hdf:d.params.defaults = [])
  (call:∀ (w:World) (s₀ s₁:Shared) (mg mb:Str→Option Value) (fa:Addr) (o:Obj) (pm cd doc:Value) (a:Addr) (vs:List Value) (ns:List Int),
   Ground q loose [] XP w s₀ mg mb s₁.heap→YP w s₁.heap →
   s₁.heap.get? fa = some o→o.data = .func (docDef d.name d.params d.body d.scope pm cd doc)→s₁.heap.CodeRec cd d.name→mg d.name = some (.ref fa) →
   s₁.heap.get? a = some { cls:=.type "list", data:=.seq vs.toArray }→IntsAre vs ns→ns.length≤n→s₁.gens = #[] →
   codeAny (model l.prog w) callerA (.call (.ref fa) ⟨[.ref a],[]⟩) (fun r s'=>r = .ok (.ret (.bool true))∧OldK s₁.heap s'.heap∧s'.os = s₁.os∧AllBare s'.gens) s₁) :
  WalkO q loose XP YP l.row.toRowW d [] (fun f vs=>PySem.call f vs):=by
 intro w s₀ s₁ mg mb G Y fa o pm cd doc dV kV ho hd hcd hD hmg hg args vals as hpre hlay hrd hwl hlo
 obtain rfl:dV = .none:=Dflts.none hD hdf
 obtain rfl:kV = .none:=Dflts.noKw hD
 obtain ⟨a,vs,ns,rfl,rfl,hobj,hints,hlen⟩:=zSz hn hpre hwl
 refine enter_call (codeAny_mono (call w s₀ s₁ mg mb fa o pm cd doc a vs ns G Y ho (fd_plain hd) hcd hmg hobj hints hlen hg) fun r s' hq=>?_)
 obtain ⟨rfl,h2,h3,h4⟩:=hq
 exact ⟨.inl ⟨.bool true,.bool true,[],rfl,fun _=>rfl,.bool true,zS6 l _,fun _=>⟨List.Pairwise.nil,fun _ hm=>(nomatch hm)⟩⟩,h2,h3,h4⟩

section
variable {prog:Program} {w:World} {A:Around} {E:Value→Shared→Prop} {s:Shared} {K:Frag}

end
end Att

namespace L2
open PySem PySem.Spec PyProof.Rows

theorem zJz:∀ {vs:List Value} {ns:List Int},IntsAre vs ns→Vals (ns.map V.int) vs
 | _,_,.nil=>.nil
 | _,_,.cons n t h=>.cons ⟨t,rfl⟩ (zJz h)

def Only (H:Hp):Prop:=∀ b,H b = none∨∃ o xs,H b = some (.frz o (.lst xs))

theorem zUu {P:Program} {w:World} {K:PySem.W.Frag} {mg mb:Str→Option Value} {CX:CXT} {k:Nat} {fa a:Addr} {fd:FuncData} {x:Str} {sp:Sp} {s₁:Shared} {vs:List Value} {ns:List Int}
  (KX:K.In s₁.heap) (hns:s₁.heap.Ns mainGlobals mg) (hb:s₁.heap.Ns builtinsNs mb) (hbb:∀ x:Str,x ≠ "__name__" → mb x = bootBuiltins x) (hlim:s₁.heap.NoLimit) (hg:s₁.gens = #[])
  (ha:s₁.heap.get? a = some { cls:=.type "list", data:=.seq vs.toArray }) (hi:IntsAre vs ns) (hl:ns.length≤sizeLine) (hr:Room k callerA)
  (F:∀ base:Heap,K.In base→base.Ns mainGlobals mg→FnOk P w K mg base CX k fa fd [x] sp) (hbind:∀ (s:Shared) (u:Value),BindsTo s fd ⟨[u],[]⟩ [(x,u)])
  (hsp:∀ H:Hp,Only H→SqL K H a (ns.map V.int)→sp [.ref a] H (fun v _=>v = .bl true) fun _ _ _=>False)
  (hCX:∀ H e s',CX [] H s₁ (fun _ _ _=>False) e s'→False) :
  codeAny (model P w) callerA (.call (.ref fa) ⟨[.ref a],[]⟩) (fun r s'=>r = .ok (.ret (.bool true))∧OldK s₁.heap s'.heap∧s'.os = s₁.os∧AllBare s'.gens) s₁:=by
 have rv:=zJz hi
 have lenV:=hi.length
 have core:∀ H:Hp,Only H→SqL K H a (ns.map V.int)→HOk P w H s₁.heap→(∀ b,H b≠none→b = a)→(H a≠none→K.lookup a = none) →
   codeAny (model P w) callerA (.call (.ref fa) ⟨[.ref a],[]⟩) (fun r s'=>r = .ok (.ret (.bool true))∧OldK s₁.heap s'.heap∧s'.os = s₁.os∧AllBare s'.gens) s₁:=by
  intro H hO hS hok hA hK
  have base_of:∀ {b:Addr} {o:Obj},s₁.heap.get? b = some o→H b = none→(hidT s₁.heap H).get? b = some o:=fun e n=>zUh e n
  have noA:∀ {b:Addr} {o:Obj} {es:Array DictEntry} {ep:Nat},s₁.heap.get? b = some o→o.data = .dict es ep→H b = none:=fun {b o es ep} e d=>by
   cases q:H b with
   | none=>rfl
   | some u =>
    have e':b = a:=hA b (by rw [q]; simp)
    subst e'
    rw [ha] at e; cases e
    have d':Data.seq vs.toArray _ = Data.dict es ep:=d
    cases d'
  have nsK:∀ {b:Addr} {m:Str→Option Value},s₁.heap.Ns b m→(hidT s₁.heap H).Ns b m:=fun {b m} ⟨o,es,ep,e,d,r⟩=>⟨o,es,ep,base_of e (noA e d),d,r⟩
  have hKb:K.In (hidT s₁.heap H):=fun b o e=>base_of (KX b o e) (by
   cases q:H b with
   | none=>rfl
   | some u =>
    have e':b = a:=hA b (by rw [q]; simp)
    subst e'
    rw [hK (by rw [q]; simp)] at e; cases e)
  have hM:Mod K mg (hidT s₁.heap H):=⟨hKb,nsK hns,⟨mb,nsK hb,hbb⟩,let ⟨mc,h1,h2⟩:=hlim; ⟨mc,nsK h1,h2⟩⟩
  have e0:Env0 P w K mg (hidT s₁.heap H) callerA [] s₁ H:=⟨rfl,hM,fun b o e=>zV3 e,Nat.le_of_eq (zQv _ _),trivial,fun b hb=>absurd (show b∈([]:List Addr) from hb) (by simp),hok,.of_eq hg⟩
  refine codeAny_mono ((F _ hKb (nsK hns)).run callerA [] s₁ H ⟨[.ref a],[]⟩ [.ref a] [.ref a] _ _ hr e0 (hbind s₁ (.ref a)) (.cons rfl .nil) (hsp H hO hS)) fun r s' h=>?_
  cases r with
  | error e=>exact (hCX H e s' h).elim
  | ok fl =>
   cases fl with
   | next=>exact False.elim h
   | brk=>exact False.elim h
   | cont=>exact False.elim h
   | ret u =>
    obtain ⟨v,H',os,bare,un,hok',r',q⟩:=h
    have q':v = .bl true:=q
    subst q'
    obtain rfl:u = Value.bool true:=r'
    refine ⟨rfl,OldK.of_keep fun b o e=>?_,os,bare⟩
    cases q:H b with
    | none=>exact un.keep b o e q (by intro z; exact absurd (show b∈([]:List Addr) from z) (by simp)) (by simp)
    | some u =>
     rcases hO b with z | ⟨ob,xs,z⟩
     ·rw [q] at z; cases z
     ·have z2:=un.frzs b ob _ z
      obtain ⟨e1,_⟩:=hok b _ z
      obtain ⟨e2,_⟩:=hok' b _ z2
      rw [e] at e1; cases e1
      exact e2
 cases hk:K.lookup a with
 | some o =>
  have e:=KX a o hk
  rw [ha] at e
  cases e
  refine core (fun _=>none) (fun _=>.inl rfl) (.inr ⟨_,vs.toArray,_,hk,rfl,rfl,rfl,by rw [List.size_toArray,lenV]; exact hl,by simpa using rv⟩) (fun b u z=>by have z':(none:Option HO) = some u:=z; cases z') (fun b z=>absurd rfl z) fun z=>absurd rfl z
 | none =>
  refine core (fun b=>if b = a then some (.frz { cls:=.type "list", data:=.seq vs.toArray } (.lst (ns.map V.int))) else none) (fun b=>?_) (.inl (.inr ⟨{ cls:=.type "list", data:=.seq vs.toArray },if_pos rfl⟩)) (fun b u z=>?_) (fun b z=>?_) fun _=>hk
  ·by_cases hb:b = a
   ·exact .inr ⟨_,_,if_pos hb⟩
   ·exact .inl (if_neg hb)
  ·by_cases hb:b = a
   ·have z':=(if_pos hb).symm.trans z
    cases z'
    subst hb
    exact ⟨ha,by rw [List.length_map]; exact hl,vs,_,rv,ha⟩
   ·have z':=(if_neg hb).symm.trans z
    cases z'
  ·by_cases hb:b = a
   ·exact hb
   ·exact absurd (if_neg hb) z
end L2

namespace L2
open PySem PySem.Spec PyProof.Rows

theorem walk_of {l:PySem.W.OpenLaw} {n k:Nat} {q:Program} {loose:List Str} {XP:(Str→Option Value)→Heap→Prop} {YP:World→Heap→Prop} {d:DefRec} {K:Params→PySem.W.Frag} {CX:World→CXT} {sp:World→Sp} {x:Str}
  (hn:l.most = some n) (hn2:n≤sizeLine) (hdf:d.params.defaults = []) (hr:Room k callerA)
  (hY:∀ (w:World) (h:Heap),YP w h→(K w.params).In h)
  (F:∀ (w:World) (mg:Str→Option Value) (fa:Addr) (h:Heap),(K w.params).In h→h.Ns mainGlobals mg→mg d.name = some (.ref fa) →
   ∃ fd:FuncData,(∀ (s:Shared) (u:Value),BindsTo s fd ⟨[u],[]⟩ [(x,u)]) ∧
    ∀ base:Heap,(K w.params).In base→base.Ns mainGlobals mg→FnOk l.prog w (K w.params) mg base (CX w) k fa fd [x] (sp w))
  (hsp:∀ (w:World) (H:Hp) (a:Addr) (ns:List Int),ns.length≤n→Only H→SqL (K w.params) H a (ns.map V.int)→sp w [.ref a] H (fun v _=>v = .bl true) fun _ _ _=>False)
  (hCX:∀ (w:World) (H:Hp) (s:Shared) (e:Value) (s':Shared),CX w [] H s (fun _ _ _=>False) e s'→False) :
  PySem.W.WalkO q loose XP YP l.row.toRowW d [] (fun f vs=>PySem.call f vs):=by
 refine Att.attach_call hn hdf fun w s₀ s₁ mg mb fa o pm cd doc a vs ns G Y ho hd hcd hmg hobj hints hlen hg=>?_
 have KX:=hY w _ Y
 obtain ⟨fd,hb,hF⟩:=F w mg fa _ KX G.T.g hmg
 exact zUu KX G.T.g G.T.b G.T.builtins G.T.nolimit hg hobj hints (Nat.le_trans hlen hn2) hr hF hb (fun H hO hS=>hsp w H a ns hlen hO hS) fun H e s'=>hCX w H s₁ e s'
end L2

namespace L2
open PySem PySem.Spec PyProof.Rows


abbrev CX0:CXT:=fun _ _ _ _ _ _=>False
abbrev E0:XK:=fun _ _ _=>False
theorem pass0 {X:Cx} : zRq CX0 X E0:=fun _ _ _ _ _ _ _ h=>h.elim

structure Fun (K:PySem.W.Frag) (x qual:Str) (st:Stmt) (f:Addr) (fd:FuncData):Prop where
 ex:∃ (oc:Value) (od:Option Addr) (kV doc pm:Value) (an:Option Addr) (cdv ct:Value) (osl:Array (Option Value)),
  fd = PySem.W.fnOf x qual (zE6 st) (zEo st) (zAp st) .none kV doc pm an cdv ct∧K.lookup f = some ⟨oc,od,.func fd,osl⟩∧PySem.W.codeIn K cdv qual = true
 kp:PySem.W.keepIn K (.ref f) = true
section
variable {P:Program} {w:World} {K:PySem.W.Frag} {mg:Str→Option Value} {base:Heap}
theorem Fun.ok {x qual:Str} {st:Stmt} {f:Addr} {fd:FuncData} {N ps:List Str} {k:Nat} {sp:Sp} (F:Fun K x qual st f fd) (S:zAy N ps (zAp st)) (len:∀ vs H Q E,sp vs H Q E→vs.length = ps.length)
  (hbody:∀ (cdv:Value) (A:Around) (outer:List Env) (s:Shared) (H:Hp) (vs:List V) (Q:VK) (E:XK),Room k (A.deeper (envOfC qual (zAp st) s.heap.objs.size f cdv))→sp vs H Q E →
   ∃ t,PSs (cxOf CX0 P w K mg base N qual (zAp st) f cdv A outer s H E).nox (zEo st) t∧t { nx:=fun _ H'=>Q .non H',rt:=Q } (start N vs) H):FnOk P w K mg base CX0 (k + 1) f fd ps sp:=by
 obtain ⟨oc,od,kV,doc,pm,an,cdv,ct,osl,rfl,lk,hcd⟩:=F.ex
 refine fn_of lk hcd S len fun A outer s H vs Q E hr hsp=>?_
 obtain ⟨t,h,q⟩:=hbody cdv A outer s H vs Q E hr hsp
 exact ⟨t,h.nox,q⟩
theorem Fun.binds {x qual:Str} {st:Stmt} {f:Addr} {fd:FuncData} {ps:List Str} (F:Fun K x qual st f fd)
  (h:∀ (kV doc pm:Value) (an:Option Addr) (cdv ct:Value) (us:List Value),us.length = ps.length→bindArgs (PySem.W.fnOf x qual (zE6 st) (zEo st) (zAp st) .none kV doc pm an cdv ct) ⟨us,[]⟩ = pure (ps.zip us)):zPr K fd ps []:=by
 obtain ⟨oc,od,kV,doc,pm,an,cdv,ct,osl,rfl,lk,hcd⟩:=F.ex
 exact .all (h kV doc pm an cdv ct)
theorem fun_mk {x qual:Str} {st:Stmt} {f:Addr} {oc:Value} {od an:Option Addr} {osl:Array (Option Value)} {kV doc pm cdv ct:Value} (l:K.lookup f = some ⟨oc,od,.func (PySem.W.fnOf x qual (zE6 st) (zEo st) (zAp st) .none kV doc pm an cdv ct),osl⟩)
  (c:PySem.W.codeIn K cdv qual = true) (k:PySem.W.keepIn K (.ref f) = true):Fun K x qual st f (PySem.W.fnOf x qual (zE6 st) (zEo st) (zAp st) .none kV doc pm an cdv ct):=⟨⟨oc,od,kV,doc,pm,an,cdv,ct,osl,rfl,l,c⟩,k⟩
end
theorem zA3 {n:Nat} (h:n≤1000):n < sizeLine:=Nat.lt_of_le_of_lt h (by decide)

section
variable {X:Cx}
theorem pv (i:Nat) {x:Str} {pos:Pos} (hN:X.N[i]? = some x:=by rfl) (hv:Vis X.env.scope x:=by first | exact Or.inl rfl | exact Or.inr (Or.inl rfl) | exact Or.inr (Or.inr rfl)) (hd:(x == ("__debug__" : Str)) = false:=by decide)
  (hcd:(x == ("__classdict__" : Str)) = false:=by decide):PE X (.Name x pos) (tVar i):=pe_var hN hv hd hcd
end

theorem iteF {A B:Prop} (h:B):if false = true then A else B:=by
 rw [if_neg Bool.false_ne_true]
 exact h
theorem iteT {A B:Prop} (h:A):if true = true then A else B:=by
 rw [if_pos rfl]
 exact h
def Same (H H':Hp):Prop:=∀ b o,H b = some o→H' b = some o
theorem Same.refl (H:Hp):Same H H:=fun _ _ h=>h
theorem Same.trans {H H1 H2:Hp} (a:Same H H1) (b:Same H1 H2):Same H H2:=fun c o h=>b c o (a c o h)
theorem Same.free {H H':Hp} (e:Same H H') {l:Addr} (h:H' l = Option.none):H l = Option.none:=by
 cases q:H l with
 | none=>rfl
 | some o =>
  rw [e l o q] at h
  cases h
theorem Same.seq {K:PySem.W.Frag} {H H':Hp} {a:Addr} {xs:List V} (e:Same H H') (h:SqL K H a xs):SqL K H' a xs:=by
 rcases h with (h | ⟨o,h⟩) | h
 ·exact .inl (.inl (e _ _ h))
 ·exact .inl (.inr ⟨o,e _ _ h⟩)
 ·exact .inr h

end L2

namespace Sea
def gcdL (ns:List Int):Nat:=ns.foldl (fun g n=>Nat.gcd g n.natAbs) 0
theorem zM1 (ns:List Int) (n:Int):gcdL (ns ++ [n]) = Nat.gcd (gcdL ns) n.natAbs:=by
 unfold gcdL
 rw [List.foldl_append]
 rfl
theorem zPm:∀ (ns:List Int) (g:Nat),ns.foldl (fun g n=>Nat.gcd g n.natAbs) g ∣ g∧∀ n∈ns,ns.foldl (fun g n=>Nat.gcd g n.natAbs) g ∣ n.natAbs
 | [],g=>⟨Nat.dvd_refl g,fun _ h=>nomatch h⟩
 | x :: r,g=>by
  obtain ⟨h1,h2⟩:=zPm r (Nat.gcd g x.natAbs)
  refine ⟨Nat.dvd_trans h1 (Nat.gcd_dvd_left _ _),fun n hn=>?_⟩
  rcases List.mem_cons.mp hn with e | e
  ·rw [e]
   exact Nat.dvd_trans h1 (Nat.gcd_dvd_right _ _)
  ·exact h2 n e
theorem zGy {ns:List Int} {n:Int} (h:n∈ns):gcdL ns ∣ n.natAbs:=(zPm ns 0).2 n h
theorem zCa {ns:List Int} {n:Int} (h:n∈ns):(gcdL ns:Int) ∣ n:=Int.ofNat_dvd_left.mpr (zGy h)
theorem zPj {d:Nat} : ∀ (ns:List Int) (g:Nat),d ∣ g→(∀ n∈ns,d ∣ n.natAbs)→d ∣ ns.foldl (fun g n=>Nat.gcd g n.natAbs) g
 | [],_,h,_=>h
 | x :: r,g,h,hr=>zPj r _ (Nat.dvd_gcd h (hr x List.mem_cons_self)) fun n hn=>hr n (List.mem_cons_of_mem _ hn)
theorem zT3 {d:Nat} {ns:List Int} (h:∀ n∈ns,d ∣ n.natAbs):d ∣ gcdL ns:=zPj ns 0 (Nat.dvd_zero d) h
theorem zBz {ns:List Int} {n:Int} (h:n∈ns) (h0:n≠0):0 < gcdL ns:=by
 rcases Nat.eq_zero_or_pos (gcdL ns) with e | e
 ·have q:=zGy h
  rw [e,Nat.zero_dvd] at q
  omega
 ·exact e
theorem zFp {ns:List Int} {n:Int} (h:n∈ns) (h0:n≠0):(gcdL ns:Int)≤n.natAbs:=by
 have q:=Nat.le_of_dvd (by omega) (zGy h)
 omega
def lowL (ns:List Int):List Int:=ns.map fun n=>n / (gcdL ns:Int)
theorem zBb {ns:List Int} {n:Int} (h:n∈ns):n / (gcdL ns:Int) * (gcdL ns:Int) = n:=Int.ediv_mul_cancel (zCa h)
theorem zK0 {ns:List Int} (h:0 < gcdL ns):gcdL (lowL ns) = 1:=by
 have key:gcdL ns * gcdL (lowL ns) ∣ gcdL ns:=by
  refine zT3 fun n hn=>?_
  have h1:gcdL (lowL ns) ∣ (n / (gcdL ns:Int)).natAbs:=zGy (List.mem_map.mpr ⟨n,hn,rfl⟩)
  obtain ⟨c,hc⟩:=h1
  have h2:=congrArg Int.natAbs (zBb hn)
  rw [Int.natAbs_mul,Int.natAbs_natCast,hc] at h2
  rw [← h2]
  exact ⟨c,by rw [Nat.mul_comm,Nat.mul_assoc]⟩
 obtain ⟨c,hc⟩:=key
 have h3:gcdL ns * (gcdL (lowL ns) * c) = gcdL ns * 1:=by
  rw [← Nat.mul_assoc,← hc,Nat.mul_one]
 have h4:=Nat.eq_of_mul_eq_mul_left h h3
 exact Nat.dvd_one.mp ⟨c,h4.symm⟩
theorem zPi (x y:Int):gcdL [x,y] = Nat.gcd x.natAbs y.natAbs:=by
 show Nat.gcd (Nat.gcd 0 x.natAbs) y.natAbs = _
 rw [Nat.gcd_zero_left]
theorem zLr (x y z:Int):gcdL [x,y,z] = Nat.gcd (Nat.gcd x.natAbs y.natAbs) z.natAbs:=by
 show Nat.gcd (Nat.gcd (Nat.gcd 0 x.natAbs) y.natAbs) z.natAbs = _
 rw [Nat.gcd_zero_left]
theorem zO4 (ns:List Int):gcdL (ns.map fun n=>-n) = gcdL ns:=by
 have key:∀ (l:List Int) (g:Nat),(l.map fun n=>-n).foldl (fun g n=>Nat.gcd g n.natAbs) g = l.foldl (fun g n=>Nat.gcd g n.natAbs) g:=by
  intro l
  induction l with
  | nil=>intro g; rfl
  | cons x r ih =>
   intro g
   show (r.map fun n=>-n).foldl _ (Nat.gcd g (-x).natAbs) = r.foldl _ (Nat.gcd g x.natAbs)
   rw [ih,Int.natAbs_neg]
 exact key ns 0
theorem zMj {a b:Int} (ha:0≤a) (hb:0 < b):Nat.gcd b.toNat (a % b).toNat = Nat.gcd a.toNat b.toNat:=by
 obtain ⟨m,rfl⟩:=Int.eq_ofNat_of_zero_le ha
 obtain ⟨n,rfl⟩:=Int.eq_ofNat_of_zero_le (Int.le_of_lt hb)
 have e:((m:Int) % (n:Int)).toNat = m % n:=by
  rw [← Int.natCast_emod]
  rfl
 show Nat.gcd n ((m:Int) % (n:Int)).toNat = Nat.gcd m n
 rw [e,Nat.gcd_comm m n,Nat.gcd_rec n m,Nat.gcd_comm]
theorem zPk (i:Int):(if i < 0 then -i else i) = (i.natAbs:Int):=by
 split <;> omega
end Sea
namespace Sea
structure zIr (t b x y:Int):Prop where
 pos:1≤y
 low:Nat.gcd x.natAbs y.natAbs = 1
 eq:x * b = y * t
 xle:x.natAbs≤t.natAbs
 yle:y.natAbs≤b.natAbs
theorem zB2 (n:Int) {g:Int} (hg:0 < g) (h:g ∣ n):(n / g).natAbs≤n.natAbs:=by
 obtain ⟨c,hc⟩:=h
 subst hc
 rw [Int.mul_ediv_cancel_left c (by omega),Int.natAbs_mul]
 exact Nat.le_mul_of_pos_left _ (by omega)
theorem zQs (t:Int) {b:Int} (hb:b≠0):∃ x y:Int,(lowL (if b < 0 then [t,b].map (fun n=>-n) else [t,b])) = [x,y]∧zIr t b x y:=by
 have key:∀ (t b:Int),0 < b→∃ x y:Int,lowL [t,b] = [x,y]∧zIr t b x y:=fun t b hb=>by
  have gp:0 < gcdL [t,b]:=zBz (n:=b) (by simp) (by omega)
  have e1:=zBb (ns:=[t,b]) (n:=t) (by simp)
  have e2:=zBb (ns:=[t,b]) (n:=b) (by simp)
  have gI:(0:Int) < (gcdL [t,b]:Int):=by omega
  refine ⟨t / (gcdL [t,b]:Int),b / (gcdL [t,b]:Int),rfl,?_,?_,?_,zB2 t gI (zCa (by simp)),zB2 b gI (zCa (by simp))⟩
  ·exact Int.ediv_pos_of_pos_of_dvd hb (Int.le_of_lt gI) (zCa (by simp))
  ·have h3:=zK0 gp
   rw [← zPi]
   exact h3
  ·generalize (gcdL [t,b]:Int) = g at e1 e2
   calc t / g * b = t / g * (b / g * g):=by rw [e2]
    _ = b / g * (t / g * g):=by rw [← Int.mul_assoc,← Int.mul_assoc,Int.mul_comm (t / g)]
    _ = b / g * t:=by rw [e1]
 by_cases h:b < 0
 ·rw [if_pos h]
  obtain ⟨x,y,e,p⟩:=key (-t) (-b) (by omega)
  refine ⟨x,y,e,p.pos,p.low,?_,by have:=p.xle; omega,by have:=p.yle; omega⟩
  have q:=p.eq
  rw [Int.mul_neg,Int.mul_neg] at q
  omega
 ·rw [if_neg h]
  exact key t b (by omega)
end Sea
namespace Sea
theorem zAj (a b:Int) {m n:Nat} (ha:a.natAbs≤m) (hb:b.natAbs≤n):(a * b).natAbs≤m * n:=by
 rw [Int.natAbs_mul]
 exact Nat.mul_le_mul ha hb
theorem zU3 {b:Int} (h:b.natAbs≤10 ^ 40):b.natAbs < 10 ^ 500:=Nat.lt_of_le_of_lt h (by decide +kernel)
end Sea
namespace Sea
theorem zKt {X Y:Int} (h:X≠0∨Y≠0):∃ x y:Int,lowL [X,Y] = [x,y]∧0 < gcdL [X,Y]∧(gcdL [X,Y]≤X.natAbs∨gcdL [X,Y]≤Y.natAbs)∧Nat.gcd x.natAbs y.natAbs = 1∧x * Y - y * X = 0∧0 < x * X + y * Y∧x.natAbs≤X.natAbs∧y.natAbs≤Y.natAbs:=by
 have gp:0 < gcdL [X,Y]:=by
  rcases h with h | h
  ·exact zBz (n:=X) (by simp) h
  ·exact zBz (n:=Y) (by simp) h
 have gI:(0:Int) < (gcdL [X,Y]:Int):=by omega
 have e1:=zBb (ns:=[X,Y]) (n:=X) (by simp)
 have e2:=zBb (ns:=[X,Y]) (n:=Y) (by simp)
 refine ⟨X / (gcdL [X,Y]:Int),Y / (gcdL [X,Y]:Int),rfl,gp,?_,?_,?_,?_,zB2 X gI (zCa (by simp)),zB2 Y gI (zCa (by simp))⟩
 ·rcases h with h | h
  ·exact .inl (Nat.le_of_dvd (by omega) (zGy (by simp)))
  ·exact .inr (Nat.le_of_dvd (by omega) (zGy (by simp)))
 ·rw [← zPi]
  exact zK0 gp
 ·generalize (gcdL [X,Y]:Int) = g at e1 e2
  generalize X / g = x at e1
  generalize Y / g = y at e2
  rw [← e1,← e2,← Int.mul_assoc,← Int.mul_assoc,Int.mul_comm x y]
  omega
 ·generalize (gcdL [X,Y]:Int) = g at e1 e2 gI
  have f1:0≤X / g * X:=by
   have:X / g * X = X / g * (X / g) * g:=by rw [Int.mul_assoc,e1]
   rw [this]
   exact Int.mul_nonneg (by rw [← Int.natAbs_mul_self]; exact Int.natCast_nonneg _) (Int.le_of_lt gI)
  have f2:0≤Y / g * Y:=by
   have:Y / g * Y = Y / g * (Y / g) * g:=by rw [Int.mul_assoc,e2]
   rw [this]
   exact Int.mul_nonneg (by rw [← Int.natAbs_mul_self]; exact Int.natCast_nonneg _) (Int.le_of_lt gI)
  rcases h with h | h
  ·have:X / g * X≠0:=Int.mul_ne_zero (fun z=>h (by rw [← e1,z,Int.zero_mul])) h
   omega
  ·have:Y / g * Y≠0:=Int.mul_ne_zero (fun z=>h (by rw [← e2,z,Int.zero_mul])) h
   omega
end Sea
namespace Sea
end Sea
namespace Sea
def upL (X Y W:Int):List Int:=if W < 0 then [-X,-Y,-W] else [X,Y,W]
theorem zVq {X Y W:Int} (h:W≠0):upL (-X) (-Y) (-W) = upL X Y W:=by
 unfold upL
 by_cases c:W < 0
 ·rw [if_pos c,if_neg (by omega)]
 ·rw [if_neg c,if_pos (by omega),Int.neg_neg,Int.neg_neg,Int.neg_neg]
structure zPf (X Y W x y w:Int):Prop where
 pos:1≤w
 low:Nat.gcd (Nat.gcd x.natAbs y.natAbs) w.natAbs = 1
 ex:x * W = X * w
 ey:y * W = Y * w
 xle:x.natAbs≤X.natAbs
 yle:y.natAbs≤Y.natAbs
 wle:w.natAbs≤W.natAbs
theorem zPd {X Y W:Int} (h:0 < W):∃ x y w:Int,lowL [X,Y,W] = [x,y,w]∧zPf X Y W x y w:=by
 have gp:0 < gcdL [X,Y,W]:=zBz (n:=W) (by simp) (by omega)
 have gI:(0:Int) < (gcdL [X,Y,W]:Int):=by omega
 have e1:=zBb (ns:=[X,Y,W]) (n:=X) (by simp)
 have e2:=zBb (ns:=[X,Y,W]) (n:=Y) (by simp)
 have e3:=zBb (ns:=[X,Y,W]) (n:=W) (by simp)
 have lo:=zK0 gp
 refine ⟨X / (gcdL [X,Y,W]:Int),Y / (gcdL [X,Y,W]:Int),W / (gcdL [X,Y,W]:Int),rfl,Int.ediv_pos_of_pos_of_dvd h (Int.le_of_lt gI) (zCa (by simp)),?_,?_,?_,zB2 X gI (zCa (by simp)),zB2 Y gI (zCa (by simp)),zB2 W gI (zCa (by simp))⟩
 ·rw [← zLr]
  exact lo
 ·generalize (gcdL [X,Y,W]:Int) = g at e1 e3
  generalize X / g = x at e1
  generalize W / g = w at e3
  rw [← e1,← e3,Int.mul_assoc,Int.mul_comm g w]
 ·generalize (gcdL [X,Y,W]:Int) = g at e2 e3
  generalize Y / g = y at e2
  generalize W / g = w at e3
  rw [← e2,← e3,Int.mul_assoc,Int.mul_comm g w]
theorem zH3 {X Y W:Int} (h:W≠0):∃ x y w:Int,lowL (upL X Y W) = [x,y,w]∧zPf X Y W x y w:=by
 unfold upL
 by_cases c:W < 0
 ·rw [if_pos c]
  obtain ⟨x,y,w,e,p⟩:=zPd (X:=-X) (Y:=-Y) (W:=-W) (by omega)
  refine ⟨x,y,w,e,p.pos,p.low,?_,?_,by have:=p.xle; omega,by have:=p.yle; omega,by have:=p.wle; omega⟩
  ·have q:=p.ex
   rw [Int.mul_neg,Int.neg_mul] at q
   omega
  ·have q:=p.ey
   rw [Int.mul_neg,Int.neg_mul] at q
   omega
 ·rw [if_neg c]
  exact zPd (by omega)
theorem zMd {A B C X Y W x y w:Int} (h:W≠0) (p:zPf X Y W x y w) (e:A * X + B * Y = C * W):A * x + B * y = C * w:=by
 refine Int.eq_of_mul_eq_mul_right h ?_
 have e1:(A * x + B * y) * W = A * (x * W) + B * (y * W):=by rw [Int.add_mul,Int.mul_assoc,Int.mul_assoc]
 have e2:A * (X * w) + B * (Y * w) = (A * X + B * Y) * w:=by rw [Int.add_mul,Int.mul_assoc,Int.mul_assoc]
 rw [e1,p.ex,p.ey,e2,e,Int.mul_assoc,Int.mul_comm W w,← Int.mul_assoc]
theorem zSs (A1 B1 C1 A2 B2 C2:Int):A1 * (C1 * B2 - B1 * C2) + B1 * (A1 * C2 - C1 * A2) = C1 * (A1 * B2 - B1 * A2):=by
 simp only [Int.mul_sub,Int.mul_comm,Int.mul_left_comm]
 omega
theorem zTc (A1 B1 C1 A2 B2 C2:Int):A2 * (C1 * B2 - B1 * C2) + B2 * (A1 * C2 - C1 * A2) = C2 * (A1 * B2 - B1 * A2):=by
 simp only [Int.mul_sub,Int.mul_comm,Int.mul_left_comm]
 omega
end Sea
namespace Sea
theorem gcd3 (D0 D1 D2:Int):(Nat.gcd ((Nat.gcd D0.natAbs D1.natAbs:Nat):Int).natAbs D2.natAbs:Nat) = gcdL [D0,D1,D2]:=by
 rw [zLr,Int.natAbs_natCast]
end Sea

namespace Sea
theorem zKf {a b:Int} (h:a≠0∨b≠0):1≤a * a + b * b:=by
 have s1:0≤a * a:=by rw [← Int.natAbs_mul_self]; exact Int.natCast_nonneg _
 have s2:0≤b * b:=by rw [← Int.natAbs_mul_self]; exact Int.natCast_nonneg _
 rcases h with h | h
 ·have:a * a≠0:=Int.mul_ne_zero h h
  omega
 ·have:b * b≠0:=Int.mul_ne_zero h h
  omega
end Sea
namespace Sea
end Sea

namespace Sea
end Sea

namespace L2
open PySem PySem.Spec PyProof.Rows

structure CC where
 C:Addr
 s:Shared
 H:Hp
 fp:List Addr

def zH0 (env:Env):List (Str × NameKind)→List (Str × Addr)→List (Str × Addr)
 | [],cs=>cs
 | (n,k) :: r,cs=>zH0 env r (if (k == NameKind.free) = true then (n,(env.cells.lookup n).getD 0) :: cs else cs)
theorem zR7 {scope:Scope} {env:Env} (h:∀ x∈scope.names,x.2 = .free→∃ c,env.cells.lookup x.1 = some c):closureFor scope env = pure (zH0 env scope.names []):=by
 simp only [closureFor]
 have key:∀ (names:List (Str × NameKind)) (cs:List (Str × Addr)),(∀ x∈names,x.2 = .free→∃ c,env.cells.lookup x.1 = some c) →
  (forIn names cs (fun (x:Str × NameKind) (r:List (Str × Addr))=>match x with | (name,kind)=>if (kind == NameKind.free) = true then (do let a ← cellOf env name; pure (ForInStep.yield ((name,a) :: r))) else pure (ForInStep.yield r)):Sem (List (Str × Addr))) = pure (zH0 env names cs):=by
  intro names
  induction names with
  | nil=>intro cs _; rfl
  | cons x r ih =>
   intro cs hx
   obtain ⟨n,k⟩:=x
   rw [List.forIn_cons]
   have hr:=ih (if (k == NameKind.free) = true then (n,(env.cells.lookup n).getD 0) :: cs else cs) fun y hy=>hx y (List.mem_cons_of_mem _ hy)
   by_cases hk:(k == NameKind.free) = true
   ·obtain ⟨c,hc⟩:=hx (n,k) List.mem_cons_self (by simpa using hk)
    have e:cellOf env n = pure c:=by unfold cellOf; rw [hc]
    rw [if_pos hk] at hr
    have hc':env.cells.lookup n = some c:=hc
    rw [hc'] at hr
    show (((if (k == NameKind.free) = true then (do let a ← cellOf env n; pure (ForInStep.yield ((n,a) :: cs))) else pure (ForInStep.yield cs)):Sem _) >>= _) = _
    rw [if_pos hk,e]
    refine Eq.trans ?_ (hr.trans ?_)
    ·rfl
    ·rw [zH0,if_pos hk,hc']
   ·rw [if_neg hk] at hr
    show (((if (k == NameKind.free) = true then (do let a ← cellOf env n; pure (ForInStep.yield ((n,a) :: cs))) else pure (ForInStep.yield cs)):Sem _) >>= _) = _
    rw [if_neg hk]
    refine Eq.trans ?_ (hr.trans ?_)
    ·rfl
    ·rw [zH0,if_neg hk]
 exact congrArg (fun (z:Sem (List (Str × Addr)))=>z >>= fun cs=>pure cs) (key scope.names [] h)
theorem zFw {env:Env} : ∀ (names:List (Str × NameKind)) (cs:List (Str × Addr)),(∀ x∈names,x.2 = .free→∃ c,env.cells.lookup x.1 = some c) →
  (∀ x c,cs.lookup x = some c→env.cells.lookup x = some c)→∀ x c,(zH0 env names cs).lookup x = some c→env.cells.lookup x = some c
 | [],_,_,hc=>hc
 | (n,k) :: r,cs,h,hc=>by
  refine zFw r _ (fun y hy=>h y (List.mem_cons_of_mem _ hy)) fun x c=>?_
  by_cases hk:(k == NameKind.free) = true
  ·rw [if_pos hk]
   obtain ⟨d,hd⟩:=h (n,k) List.mem_cons_self (by simpa using hk)
   have hd':env.cells.lookup n = some d:=hd
   intro e
   rw [List.lookup_cons] at e
   cases hx:x == n with
   | true =>
    rw [hx,hd'] at e
    have ex:x = n:=by simpa using hx
    rw [ex,hd']
    exact e
   | false =>
    rw [hx] at e
    exact hc x c e
  ·rw [if_neg hk]
   exact hc x c
theorem zJ8 {env:Env} : ∀ (names:List (Str × NameKind)) (cs:List (Str × Addr)) (x:Str),((x,NameKind.free)∈names∨∃ c,cs.lookup x = some c)→∃ c,(zH0 env names cs).lookup x = some c
 | [],_,_,h=>h.elim (fun z=>nomatch z) id
 | (n,k) :: r,cs,x,h=>by
  refine zJ8 r _ x ?_
  by_cases hk:(k == NameKind.free) = true
  ·rw [if_pos hk]
   cases hx:x == n with
   | true=>exact .inr ⟨_,by rw [List.lookup_cons,hx]⟩
   | false =>
    rcases h with h | ⟨c,h⟩
    ·rcases List.mem_cons.mp h with e | e
     ·injection e with e1 _
      subst e1
      simp at hx
     ·exact .inl e
    ·exact .inr ⟨c,by rw [List.lookup_cons,hx]; exact h⟩
  ·rw [if_neg hk]
   rcases h with h | h
   ·rcases List.mem_cons.mp h with e | e
    ·injection e with _ e2
     subst e2
     exact absurd rfl hk
    ·exact .inl e
   ·exact .inr h
theorem zIt {env:Env} : ∀ {names:List (Str × NameKind)} {x:Str},names.lookup x = some .free →
  (names.map fun (n,k)=>if (k == NameKind.free && env.scope.kind == .function && env.kindOf n == some .cell) then (n,NameKind.cell) else (n,k)).lookup x = some .cell ∨
  (names.map fun (n,k)=>if (k == NameKind.free && env.scope.kind == .function && env.kindOf n == some .cell) then (n,NameKind.cell) else (n,k)).lookup x = some .free
 | [],_,h=>by simp at h
 | (n,k) :: r,x,h=>by
  have ih:=@zIt env r x
  show List.lookup x ((if (k == NameKind.free && env.scope.kind == .function && env.kindOf n == some .cell) = true then (n,NameKind.cell) else (n,k)) :: _) = _∨List.lookup x ((if (k == NameKind.free && env.scope.kind == .function && env.kindOf n == some .cell) = true then (n,NameKind.cell) else (n,k)) :: _) = _
  by_cases hc:(k == NameKind.free && env.scope.kind == .function && env.kindOf n == some .cell) = true
  ·rw [if_pos hc]
   cases hx:x == n with
   | true=>exact .inl (by rw [List.lookup_cons,hx])
   | false =>
    rw [List.lookup_cons,hx] at h
    rw [List.lookup_cons,hx]
    exact ih h
  ·rw [if_neg hc]
   cases hx:x == n with
   | true =>
    rw [List.lookup_cons,hx] at h
    exact .inr (by rw [List.lookup_cons,hx]; exact h)
   | false =>
    rw [List.lookup_cons,hx] at h
    rw [List.lookup_cons,hx]
    exact ih h
theorem zGf {env:Env} : ∀ {names:List (Str × NameKind)} {x:Str} {j:NameKind},(∀ y∈names,y.2≠.cell)→(j = .cell∨j = .free) →
  (names.map fun (n,k)=>if (k == NameKind.free && env.scope.kind == .function && env.kindOf n == some .cell) then (n,NameKind.cell) else (n,k)).lookup x = some j→(x,NameKind.free)∈names
 | [],_,_,_,_,h=>by simp at h
 | (n,k) :: r,x,j,hn,hj,h=>by
  have ih:=@zGf env r x j (fun y hy=>hn y (List.mem_cons_of_mem _ hy)) hj
  have hk0:k≠.cell:=hn (n,k) List.mem_cons_self
  replace h:List.lookup x ((if (k == NameKind.free && env.scope.kind == .function && env.kindOf n == some .cell) = true then (n,NameKind.cell) else (n,k)) :: (r.map fun (n,k)=>if (k == NameKind.free && env.scope.kind == .function && env.kindOf n == some .cell) then (n,NameKind.cell) else (n,k))) = some j:=h
  by_cases hc:(k == NameKind.free && env.scope.kind == .function && env.kindOf n == some .cell) = true
  ·rw [if_pos hc] at h
   have hf:k = .free:=by
    simp only [Bool.and_eq_true] at hc
    simpa using hc.1.1
   cases hx:x == n with
   | true =>
    have ex:x = n:=by simpa using hx
    subst ex
    rw [← hf]
    exact List.mem_cons_self
   | false =>
    rw [List.lookup_cons,hx] at h
    exact List.mem_cons_of_mem _ (ih h)
  ·rw [if_neg hc] at h
   cases hx:x == n with
   | true =>
    rw [List.lookup_cons,hx] at h
    have ex:x = n:=by simpa using hx
    have ek:k = j:=Option.some.inj h
    subst ex
    rcases hj with hj | hj
    ·exact absurd (ek.trans hj) hk0
    ·rw [← hj,← ek]
     exact List.mem_cons_self
   | false =>
    rw [List.lookup_cons,hx] at h
    exact List.mem_cons_of_mem _ (ih h)

def zC6 (X:Cx) (N:List Str) (scope:Scope) (c:CC):Cx where
 prog:=X.prog
 w:=X.w
 K:=X.K
 mg:=X.mg
 base:=X.base
 A:=X.A
 N:=N
 s₀:=c.s
 H₀:=c.H
 env:=compEnvC scope (zH0 X.env scope.names []) c.C X.env
 outer:=X.stack
 stack:=X.stack
 ex:=c.fp
 fn:=fun _=>false
 calm:=X.calm
 pn:=[]
 xe:=fun _ _=>False

def zMu (X:Cx) (scope:Scope):List (Str × Nat)→Prop
 | []=>True
 | p :: r=>(X.N[p.2]? = some p.1∧scope.names.lookup p.1 = some .free∧(X.env.kindOf p.1 = some .cell∨X.env.kindOf p.1 = some .free))∧zMu X scope r
theorem zMu.mem {X:Cx} {scope:Scope} : ∀ {caps:List (Str × Nat)},zMu X scope caps→∀ p∈caps,X.N[p.2]? = some p.1∧scope.names.lookup p.1 = some .free∧(X.env.kindOf p.1 = some .cell∨X.env.kindOf p.1 = some .free)
 | [],_,_,h=>nomatch h
 | q :: r,h,p,hp=>by
  rcases List.mem_cons.mp hp with e | e
  ·rw [e]; exact h.1
  ·exact zMu.mem h.2 p e
structure zFh (X:Cx) (caps:List (Str × Nat)) (scope:Scope):Prop where
 kind:scope.kind = .function
 nocell:∀ y∈scope.names,y.2≠.cell
 loc:∀ y∈scope.names,y.2 = .local→scope.names.lookup y.1 = some .local
 clos:(scope.names.all fun x=>!(x.2 == .free) || (X.env.cells.lookup x.1).isSome) = true
 cap:zMu X scope caps
theorem zFh.cells {X:Cx} {caps:List (Str × Nat)} {scope:Scope} (S:zFh X caps scope):∀ x∈scope.names,x.2 = .free→∃ c,X.env.cells.lookup x.1 = some c:=fun x hx hf=>by
 have h:=List.all_eq_true.mp S.clos x hx
 rw [hf] at h
 simp only [Bool.or_eq_true] at h
 rcases h with h | h
 ·exact absurd h (by decide)
 ·exact Option.isSome_iff_exists.mp h

def zPt (caps:List (Str × Nat)) (nt:Nat) (σ:St):St:=List.replicate nt none ++ caps.map fun p=>(σ[p.2]?).join

def PIfs (Y:Cx) (ifs:List Expr) (t:TT):Prop :=
 ∀ (pins:List (Addr × Obj)) (s:Shared) (σ:St) (H:Hp) (Q:Bool→Hp→Prop),Inv Y pins σ H s→t σ H Q →
  wpAny (model Y.prog Y.w) Y.A (forIn ifs true fun c r=>if r = true then do let ok ← isTrue c Y.env (eval c Y.env); pure (ForInStep.yield ok) else pure (ForInStep.yield r)) (TP Y pins σ Q) Y.xe s
def tYes:TT:=fun _ H Q=>Q true H
theorem zBl {Y:Cx} : PIfs Y [] tYes:=fun _ _ _ H _ I h=>wpAny_tests_nil ⟨H,I,h⟩
theorem zPc {Y:Cx} {c:Expr} {t:TT} (h:PT Y c t):PIfs Y [c] t:=fun pins s σ H Q I q=>wpAny_tests_one (h pins s σ H Q I q)

def zKv (J:It) (D:Addr) (g:TG) (tt:TT) (te:TE) (σ0:St) (H1:Hp) (Q:VK):Prop :=
 ∃ W:Nat→Nat→St→List V→Hp→Prop,(∃ m,W 0 m σ0 [] (upd H1 D (.lst [])))∧∀ i m σ ys H,W i m σ ys H→H D = some (.lst ys) ∧
  ((J.stop i H∧Q (.ref D) H)∨(J.go i H∧∃ N:St→List V→Hp→Prop,(∀ σ' zs H',N σ' zs H'→∃ m',m' < m∧W (i + 1) m' σ' zs H')∧∀ x H',J.yld i H x H'→g x σ H' fun σ2 H2=>tt σ2 H2 fun b H3 =>
   if b = true then te σ2 H3 fun y H4=>H4 D = some (.lst ys)∧ys.length < sizeLine∧N σ2 (ys ++ [y]) (upd H4 D (.lst (ys ++ [y]))) else N σ2 ys H3))
def zWe (nt:Nat) (caps:List (Str × Nat)) (wi:TI) (g:CC→TG) (tt:CC→TT) (te:CC→TE):TE:=fun σ H Q =>
 wi σ H fun J H1=>∀ (c:CC) (D:Addr),H1 D = none→zKv J D (g c) (tt c) (te c) (zPt caps nt σ) H1 Q

theorem thnF {α:Type} {t:Sem α} {Q Q':α→Shared→Prop} {M:Model} {A:Around} {E:Value→Shared→Prop} {s:Shared} (h:wpAny M A t Q (fun _ _=>False) s) (hQ:∀ a s,Q a s→Q' a s):wpAny M A t Q' E s:=wpAny_mono h hQ fun _ _ x=>x.elim
theorem Un.same {fs ex:List Addr} {H H':Hp} {h h1 h2:Heap} {C:Addr} (u:Un fs ex H H' h h1) (sb:Heap.SameBut C h1 h2) (hC:h.get? C = none):Un fs ex H H' h h2:=by
 have ne:∀ b o,h.get? b = some o→b≠C:=fun b o e z=>by rw [z,hC] at e; cases e
 refine ⟨fun b o e n hb hx=>(sb.2 b (ne b o e)).trans (u.keep b o e n hb hx),fun b o e n hb hx=>?_,u.free,fun b o e hx=>?_,u.tups,u.frzs,u.tbls⟩
 ·obtain ⟨sl,q⟩:=u.slot b o e n hb hx
  exact ⟨sl,(sb.2 b (ne b o e)).trans q⟩
 ·obtain ⟨o',q⟩:=u.there b o e hx
  exact ⟨o',(sb.2 b (ne b o e)).trans q⟩
theorem HOk.same {P:Program} {w:World} {H:Hp} {h h':Heap} {C:Addr} (k:HOk P w H h) (sb:Heap.SameBut C h h') (hC:H C = none):HOk P w H h':=fun b o e=>by
 refine (k b o e).stay (fun c v hc q=>(sb.2 c ?_).trans q) (fun _ q=>q) fun _ _ q=>q
 rintro rfl
 rcases hc with z | z
 ·rw [z,e] at hC; cases hC
 ·rw [hC] at z; cases z

section
variable {X:Cx} {T:List Str} {caps:List (Str × Nat)} {scope:Scope} {elt target iter:Expr} {ifs:List Expr} {pos:Pos} {wi:TI} {g:CC→TG} {tt:CC→TT} {te:CC→TE}

theorem zLp {pins:List (Addr × Obj)} {σ:St} {H2:Hp} {s2:Shared} {fp:List Addr} {C D:Addr} {h1:Heap} {tk:Nat} {m:Str→Option Value} (S:zFh X caps scope) (I2:Inv X pins σ H2 s2) (f2:∀ b∈fp,FpOk X pins H2 b)
  (hfp:∀ b∈fp,b < s2.heap.objs.size) (hD:s2.heap.objs.size≤D) (hC:s2.heap.objs.size≤C) (hDC:C≠D) (old:∀ b o,s2.heap.get? b = some o→h1.get? b = some o)
  (acc:∃ n,h1.get? D = some { cls:=.type "list", data:=.seq ([]:List Value).toArray n }) (hn:h1.Ns C m) :
  Inv (zC6 X (T ++ caps.map (·.1)) scope ⟨C,s2,H2,fp⟩) [] (zPt caps T.length σ) (upd H2 D (.lst [])) { s2 with heap:=h1,toks:=tk }:=by
 have cs:=zFw (env:=X.env) scope.names [] S.cells (fun _ _ z=>by cases z)
 have cellOld:∀ x c,X.env.cells.lookup x = some c→c < s2.heap.objs.size:=fun x c e=>by
  obtain ⟨v,q⟩:=I2.cell x c e
  exact q.lt
 have stkNo:∀ b∈fp,b ∉ frs X.stack:=fun b hb z=>by
  rcases List.mem_cons.mp (I2.stkSub b z) with e | e
  ·exact (f2 b hb).2.1 e
  ·exact (f2 b hb).2.2.1 e
 have fr:H2 D = none:=I2.hok.fresh hD
 refine ⟨⟨I2.ok.mod,S.kind,I2.ok.glob,I2.ok.blt,hC,fun x y c e1 e2=>I2.ok.inj x y c (cs x c e1) (cs y c e2),fun x hx=>?_,fun _ _ z=>absurd (show false = true from z) Bool.false_ne_true,I2.ok.hd,I2.ok.frames,.inl rfl,fun b hb=>⟨?_,fun x c e=>(f2 b hb).2.2.2.2.1 x c (cs x c e)⟩,
  fun b o e=>I2.bs b o e,Nat.le_trans I2.ok.bsz I2.sz,fun b o e hb=>?_,stkNo,I2.stack,I2.stkFree⟩,rfl,I2.bare,?_,⟨m,hn,fun i x v e1 e2 e3=>?_⟩,fun x c e=>?_,?_,fun x c e=>?_,fun p hp=>absurd (show p∈([]:List (Addr × Obj)) from hp) (by simp),?_,?_⟩
 ·have hx':(x,NameKind.free)∈scope.names:=by
   rcases hx with z | z
   ·exact zGf S.nocell (.inl rfl) z
   ·exact zGf S.nocell (.inr rfl) z
  exact zJ8 scope.names [] x (.inl hx')
 ·exact Nat.ne_of_lt (Nat.lt_of_lt_of_le (hfp b hb) hC)
 ·rcases (f2 b hb).2.2.2.1 with z | z
  ·exact I2.ok.noex b o e z
  ·exact absurd (Nat.lt_of_lt_of_le (Heap.lt_size (show X.base.get? b = some o from e)) (Nat.le_trans I2.ok.bsz z)) (Nat.lt_irrefl _)
 ·exact Un.laid old hD fr
 ·have hlt:¬ i < T.length:=fun hi=>by
   unfold zPt at e2
   rw [List.getElem?_append_left (by simpa using hi),List.getElem?_replicate,if_pos hi] at e2
   cases e2
  have hge:T.length≤i:=Nat.le_of_not_lt hlt
  have e1':(T ++ caps.map (·.1))[i]? = some x:=e1
  rw [List.getElem?_append_right hge,List.getElem?_map] at e1'
  unfold zPt at e2
  rw [List.getElem?_append_right (by simpa using hge),List.length_replicate,List.getElem?_map] at e2
  cases hp:caps[i - T.length]? with
  | none=>rw [hp] at e1'; cases e1'
  | some p =>
   rw [hp] at e1' e2
   have ex:p.1 = x:=Option.some.inj e1'
   have ev:(σ[p.2]?).join = some v:=Option.some.inj e2
   obtain ⟨hN,hf,hk⟩:=S.cap.mem p (List.mem_of_getElem? hp)
   have ev':σ[p.2]? = some (some v):=by
    cases hq:σ[p.2]? with
    | none=>rw [hq] at ev; cases ev
    | some o =>
     rw [hq] at ev
     exact congrArg some ev
   obtain ⟨m2,_,hl2⟩:=I2.loc
   obtain ⟨u,ru,l⟩:=hl2 p.2 p.1 v hN ev' (hk.elim (fun z=>.inr (.inl z)) fun z=>.inr (.inr z))
   refine ⟨u,ru,.inr ⟨?_,?_⟩⟩
   ·rw [← ex]
    exact zIt (env:=X.env) hf
   ·rcases l with ⟨kl,_⟩ | ⟨_,c,ec,hcell⟩
    ·rcases hk with z | z <;> (rw [kl] at z; cases z)
    ·obtain ⟨d,hd⟩:=zJ8 (env:=X.env) scope.names [] p.1 (.inl (PySem.mem_of_lookup hf))
     have hd':=cs p.1 d hd
     rw [ec] at hd'
     cases hd'
     obtain ⟨o,ho,hod⟩:=hcell
     exact ⟨c,by rw [← ex]; exact hd,o,old c o ho,hod⟩
 ·obtain ⟨v,o,ho,hd⟩:=I2.cell x c (cs x c e)
  exact ⟨v,o,old c o ho,hd⟩
 ·show upd H2 D (.lst []) C = none
  rw [zA5 hDC]
  exact I2.hok.fresh hC
 ·show upd H2 D (.lst []) c = none
  rw [zA5 (Nat.ne_of_lt (Nat.lt_of_lt_of_le (cellOld x c (cs x c e)) hD))]
  exact I2.freeC x c (cs x c e)
 ·obtain ⟨n,e⟩:=acc
  exact I2.hok.laid old hD ⟨Nat.zero_le _,[],n,.nil,e⟩
 ·show (zPt caps T.length σ).length = (T ++ caps.map (·.1)).length
  unfold zPt
  rw [List.length_append,List.length_append,List.length_map,List.length_map,List.length_replicate]

theorem zC0 (S:zFh X caps scope) (hc:X.calm = true) (hi:PI X target iter wi) (hg:∀ c,PG (zC6 X (T ++ caps.map (·.1)) scope c) target (g c)) (ht:∀ c,PIfs (zC6 X (T ++ caps.map (·.1)) scope c) ifs (tt c)) (he:∀ c,PE (zC6 X (T ++ caps.map (·.1)) scope c) elt (te c))
  (hs:∀ x,foldedSetIterable iter X.env x = pure x:=by intro _; rfl):PE X (.ListComp elt [⟨target,iter,ifs,0⟩] scope pos) (zWe T.length caps wi g tt te):=by
 intro pins s σ H Q I h
 rw [eval_ListComp]
 refine wpAny_comprehension_free (use:=none) rfl hs (zR7 S.cells) S.kind S.loc (thn (hi pins s σ H _ I h) fun v s1 h1=>thn h1 fun itv s2 h2=>?_)
 obtain ⟨it,fp,tn,J,H2,e,I2,TT,st2,f2,q2⟩:=h2
 subst e
 refine wpAny_newObj_type (wpAny_newFunctionEnv S.nocell (by intro y hy; simp at hy) (fun h1 hn hsb=>?_) S.kind)
 dsimp only at hn hsb ⊢
 generalize hg2:s2.heap.push { cls:=.type "list", dict:=none,data:=.seq ([]:List Value).toArray } = G at hn hsb ⊢
 have hCv:G.objs.size = s2.heap.objs.size + 1:=by rw [← hg2,Heap.size_push]
 have hDC:G.objs.size≠s2.heap.objs.size:=by rw [hCv]; exact Nat.succ_ne_self _
 have hCle:s2.heap.objs.size≤G.objs.size:=by rw [hCv]; exact Nat.le_succ _
 have old:∀ b o,s2.heap.get? b = some o→h1.get? b = some o:=fun b o e=>hsb.extBut b o (Nat.ne_of_lt (Nat.lt_of_lt_of_le (Heap.lt_size e) hCle)) (Heap.get?_push_of_some _ (hg2 ▸ Heap.get?_push_of_some _ e))
 have hacc:∃ n,h1.get? s2.heap.objs.size = some { cls:=.type "list", data:=.seq ([]:List Value).toArray n }:=⟨_,hsb.extBut _ _ (Ne.symm hDC) (Heap.get?_push_of_some _ (hg2 ▸ Heap.get?_push_size _ rfl))⟩
 have hfp:∀ b∈fp,b < s2.heap.objs.size:=fun b hb=>by
  obtain ⟨o,e,_⟩:=TT.obj _ _ st2 b hb
  exact Heap.lt_size e
 have cs:=zFw (env:=X.env) scope.names [] S.cells (fun _ _ z=>by cases z)
 have I0:=zLp (T:=T) (tk:=s2.toks + ([]:List (Str × Value)).length) S I2 f2 hfp (Nat.le_refl _) hCle hDC old hacc hn
 have st0:tn 0 h1:=TT.keep _ _ _ st2 fun b _ o e=>old b o e
 obtain ⟨W,⟨m0,w0⟩,turn⟩:=q2 ⟨G.objs.size,s2,H2,fp⟩ s2.heap.objs.size (I2.hok.fresh (Nat.le_refl _))
 have fr0:∀ b∈fp,upd H2 s2.heap.objs.size (.lst []) b = none:=fun b hb=>by
  rw [zA5 (Nat.ne_of_lt (hfp b hb))]
  exact (f2 b hb).1
 have stat:∀ {H':Hp},(∀ b∈fp,H' b = none)→∀ b∈fp,FpOk (zC6 X (T ++ caps.map (·.1)) scope ⟨G.objs.size,s2,H2,fp⟩) [] H' b:=fun {H'} hn' b hb =>
  ⟨hn' b hb,Nat.ne_of_lt (Nat.lt_of_lt_of_le (hfp b hb) hCle),I0.ok.exfs b hb,.inl hb,fun x c e=>(f2 b hb).2.2.2.2.1 x c (cs x c e),fun p hp=>absurd (show p∈([]:List (Addr × Obj)) from hp) (by simp)⟩
 have loop:codeAny (model X.prog X.w) X.A (.compLoop (.ListComp elt [⟨target,iter,ifs,0⟩] scope pos) 0 (.ref it) (.ref s2.heap.objs.size) (compEnvC scope (zH0 X.env scope.names []) G.objs.size X.env))
   (compPost (model X.prog X.w) X.A X.xe none (EP X pins σ Q) (.ref s2.heap.objs.size) G.objs.size) { s2 with heap:=h1,toks:=s2.toks + ([]:List (Str × Value)).length }:=by
  refine codeAny_loop rfl (fun n s'=>∃ i σ' ys H',Inv (zC6 X (T ++ caps.map (·.1)) scope ⟨G.objs.size,s2,H2,fp⟩) [] σ' H' s'∧tn i s'.heap∧(∀ b∈fp,H' b = none)∧W i n σ' ys H') (fun n s3 hI=>?_) m0 ⟨0,_,[],_,I0,st0,fr0,w0⟩
  obtain ⟨i,σ3,ys,H3,I3,st3,fr3,w3⟩:=hI
  show wpAny _ X.A ((compTurn (.ListComp elt [⟨target,iter,ifs,0⟩] scope pos) 0 (.ref it) (.ref s2.heap.objs.size) (compEnvC scope (zH0 X.env scope.names []) G.objs.size X.env)).onRaise (fun x=>do noteFrame x (compEnvC scope (zH0 X.env scope.names []) G.objs.size X.env); theTreesLotGoes x)) _ _ s3
  refine wpAny_noted ?_
  rw [compTurn_list]
  refine wpAny_bind (wpAny_standAt (wpAny_bind ?_))
  obtain ⟨hD3,turn3⟩:=turn i n σ3 ys H3 w3
  rcases turn3 with ⟨stop,qn⟩ | ⟨go,N,hN,step⟩
  ·refine thnF (TT.done (zC6 X (T ++ caps.map (·.1)) scope ⟨G.objs.size,s2,H2,fp⟩) rfl rfl rfl hc i [] s3 σ3 H3 _ I3 (stat fr3) st3 stop) fun r s4 ⟨hr,I4⟩=>?_
   subst hr
   refine wpAny_pure ?_
   show ∃ m,s4.heap.Ns G.objs.size m∧∀ h',Heap.SameBut G.objs.size s4.heap h'→EP X pins σ Q (.ref s2.heap.objs.size) { s4 with heap:=h' }
   obtain ⟨m4,hn4,_⟩:=I4.loc
   refine ⟨m4,hn4,fun h' sb=>⟨.ref s2.heap.objs.size,H3,?_,rfl,qn⟩⟩
   refine I2.call' (s':={ s4 with heap:=h' }) (ch:=fp) I4.os (Un.same I4.base sb (Heap.get?_none_of_le hCle)) (HOk.same I4.hok sb I4.free) I4.bare fun b hb=>?_
   obtain ⟨_,f1,_,f3,f4,f5⟩:=f2 b hb
   exact ⟨f3,f1,f4,f5⟩
  ·refine thnF (TT.item (zC6 X (T ++ caps.map (·.1)) scope ⟨G.objs.size,s2,H2,fp⟩) rfl rfl rfl hc i [] s3 σ3 H3 _ I3 (stat fr3) st3 go) fun r s4 ⟨u,hr,h4⟩=>?_
   subst hr
   refine wpAny_bind (thnF h4 fun _ s5 ⟨x,H5,I5,r5,y5,st5,fr5⟩=>?_)
   have I5':=I5.pinned (stat fr5) (TT.obj _ _ st5)
   refine wpAny_bind (thnF (hg _ _ s5 σ3 H5 x u _ I5' r5 (step x H5 y5)) fun _ s6 ⟨σ6,H6,I6,q6⟩=>?_)
   have again:∀ {s7:Shared} {σ7:St} {zs:List V} {H7:Hp},Inv (zC6 X (T ++ caps.map (·.1)) scope ⟨G.objs.size,s2,H2,fp⟩) ([] ++ zLv fp s5.heap) σ7 H7 s7→N σ7 zs H7 →
     ∃ m,m < n∧∃ i σ' ys H',Inv (zC6 X (T ++ caps.map (·.1)) scope ⟨G.objs.size,s2,H2,fp⟩) [] σ' H' s7∧tn i s7.heap∧(∀ b∈fp,H' b = none)∧W i m σ' ys H':=fun {s7 σ7 zs H7} I7 n7=>by
    obtain ⟨m',hm,w7⟩:=hN σ7 zs H7 n7
    refine ⟨m',hm,i + 1,σ7,zs,H7,I7.unpinned,TT.keep _ _ _ st5 fun b hb o e=>(I7.pin (b,o) (List.mem_append_right _ (List.mem_append_right _ (zEj hb e)))).1,fun b hb=>?_,w7⟩
    obtain ⟨o,e,d⟩:=TT.obj _ _ st5 b hb
    exact (I7.pin (b,o) (List.mem_append_right _ (List.mem_append_right _ (zEj hb e)))).2.1
   refine wpAny_bind (thnF (ht _ _ s6 σ6 H6 _ I6 q6) fun ok s7 ⟨H7,I7,q7⟩=>?_)
   cases ok with
   | false=>exact wpAny_pure ⟨rfl,again I7 q7⟩
   | true =>
    refine wpAny_bind (wpAny_bind (thnF (he _ _ s7 σ6 H7 _ I7 q7) fun y s8 ⟨yv,H8,I8,r8,hD8,hl8,q8⟩=>?_))
    refine wpAny_bind (thnF (zCw _ s8 σ6 H8 (.ref s2.heap.objs.size) [yv] (.ref s2.heap.objs.size) [y] (fun _ H9=>N σ6 (ys ++ [yv]) H9) I8 rfl (.cons r8 .nil) ⟨_,ys,yv,rfl,rfl,hD8,hl8,q8⟩) fun _ s9 ⟨_,H9,I9,_,q9⟩=>?_)
    exact wpAny_pure (wpAny_pure ⟨rfl,again I9 q9⟩)
 exact codeAny_compStart_list loop (TT.self _ 0 _ _ _ st0 loop)
end
end L2

namespace L2
open PySem PySem.Spec PyProof.Rows

theorem zB9:bootBuiltins "len" = some (.builtin "len"):=by decide +kernel
theorem zFd:bootBuiltins "abs" = some (.builtin "abs"):=by decide +kernel
theorem zNb:bootBuiltins "all" = some (.builtin "all"):=by decide +kernel
theorem bt_max:bootBuiltins "max" = some (.builtin "max"):=by decide +kernel
theorem bt_min:bootBuiltins "min" = some (.builtin "min"):=by decide +kernel
theorem zBr:bootBuiltins "isinstance" = some (.builtin "isinstance"):=by decide +kernel
theorem bt_int:bootBuiltins "int" = some (.type "int"):=by decide +kernel
theorem zVv:bootBuiltins "bool" = some (.type "bool"):=by decide +kernel
theorem zGn:bootBuiltins "list" = some (.type "list"):=by decide +kernel
theorem zJj:bootBuiltins "tuple" = some (.type "tuple"):=by decide +kernel
theorem bt_zip:bootBuiltins "zip" = some (.type "zip"):=by decide +kernel

def Has (P:Program) (w:World) (K:PySem.W.Frag) (mg:Str→Option Value) (base:Heap) (x:Str) (n:Nat) (ps:List Str) (sp:Sp):Prop :=
 ∃ (f:Addr) (fd:FuncData),FnOk P w K mg base CX0 n f fd ps sp∧zPr K fd ps []∧PySem.W.keepIn K (.ref f) = true∧mg x = some (.ref f)
section
variable {X:Cx} {x:Str} {p pos:Pos} {e:Expr} {es:List Expr} {t:TA} {n:Nat} {ps:List Str} {sp:Sp}
theorem zAh (h:Has X.prog X.w X.K X.mg X.base x n ps sp) (hr:Room n X.A) (hg:Gl X x) (ha:PA X (e :: es) t) (hdb:(x == ("__debug__" : Str)) = false:=by decide)
  (he:starEach (e :: es) X.env = (false,eval e X.env) :: starEach es X.env:=by rfl) (hpl:(backTo pos (starEach es X.env)).any (·.1) = false:=by rfl):PE X (.Call (.Name x p) (e :: es) [] pos) (tCall sp [] E0 t):=by
 obtain ⟨f,fd,F,b,k,m⟩:=h
 exact zV6 F hr hg m k b .nil pass0 ha hdb he hpl
end

section
variable {X:Cx}
def zEs (i j:Int):Prop:=0 < j∧j.natAbs < 2 ^ 4096
theorem zCu:OpR X (binaryOp .FloorDiv) (rI zEs fun i j=>.int (i / j)):=opI fun i j _ _ _ _ _ hc q=>by
 have h1:(0:Int) < j:=hc.1
 have h3:j.natAbs.log2 < 9000:=Nat.lt_trans ((Nat.log2_lt (by omega)).mpr hc.2) (by decide)
 exact floordiv_int (by omega) (by rw [Int.fdiv_eq_ediv_of_nonneg i (by omega)]; exact q) (.inl (PyProof.noPylong_of_log2 h3))
theorem zEs.of {i j:Int} (h:0 < j) (h2:j < 10 ^ 600):zEs i j:=by
 refine ⟨h,?_⟩
 have e:(10:Nat) ^ 600 < 2 ^ 4096:=by decide +kernel
 omega
def zVz (i j:Int):Prop:=i.natAbs < 2 ^ 4096∧j.natAbs < 2 ^ 4096
theorem zLn {i:Int} (h:i.natAbs < 2 ^ 4096):Builtin.Int.intBits i≤2 ^ 20:=by
 unfold Builtin.Int.intBits
 split
 ·exact Nat.zero_le _
 ·have q:i.natAbs.log2 < 4096:=by
   rcases Nat.eq_zero_or_pos i.natAbs with h0 | hp
   ·rw [h0]; decide
   ·exact (Nat.log2_lt (Nat.ne_of_gt hp)).mpr h
  have e:(2:Nat) ^ 20 = 1048576:=by decide
  omega
theorem zGs:OpR X (binaryOp .Mult) (rI zVz fun i j=>.int (i * j)):=opI fun _ _ _ _ _ _ _ hc q=>mul_int q (IntMulOk.of_bits (zLn hc.1) (zLn hc.2))

theorem zCg:zHg X (.builtin "isinstance") (fun xs H Q=>∃ x T t b,xs = [x,.ty T]∧TyOf X.K H x t∧PySem.W.kitOne X.K t (.type T) = some b∧Q (.bl b) H):=by
 intro pins s σ H xs us Q I r h
 obtain ⟨x,T,t,b,rfl,ty,e,q⟩:=h
 obtain ⟨u,v,rfl,ru,rv⟩:=Vals.two r
 cases rv
 exact zS4 I ru ty e fun tk=>⟨.bl b,H,I.tok tk,rfl,q⟩

def Sq (K:PySem.W.Frag) (H:Hp) (p:Addr) (xs:List V):Prop:=SqL K H p xs∨SqT K H p xs
inductive RIx (K:PySem.W.Frag) (x y:V) (H:Hp) (Q:VK):Prop where
 | mk (p:Addr) (xs:List V) (i:Int) (v:V) (ex:x = .ref p) (ey:y = .int i) (sq:Sq K H p xs) (at':atI xs i = some v) (q:Q v H)
def rIxA (K:PySem.W.Frag):R2:=fun x y H Q=>RIx K x y H Q
theorem zAg:IxR X (rIxA X.K):=by
 intro value slice pins s σ H x y v u Q I rx ry q hs
 obtain ⟨p,xs,i,z,e1,e2,hq,ha,q⟩:=q
 rcases hq with hq | hq
 ·exact zWd value slice pins s σ H x y v u Q I rx ry ⟨p,xs,i,z,e1,e2,hq,ha,q⟩ hs
 ·exact ix_tup value slice pins s σ H x y v u Q I rx ry ⟨p,xs,i,z,e1,e2,hq,ha,q⟩ hs
def iSeq (K:PySem.W.Frag) (tl:TE):TI:=fun σ H R=>tl σ H fun x H1=>∃ a,x = .ref a∧(((∃ xs,SqL K H1 a xs)∧R (Itl K a) H1)∨((∃ xs,SqT K H1 a xs)∧R (Itt K a) H1))
theorem zCc {tg l:Expr} {tl:TE} (hl:PE X l tl):PI X tg l (iSeq X.K tl):=by
 intro pins s σ H R I h
 refine thn (hl pins s σ H _ I h) fun v s1 ⟨x,H1,I1,r1,q1⟩=>?_
 obtain ⟨a,e,q⟩:=q1
 subst e
 cases r1
 have own:∀ b,b∈[s1.heap.objs.size]→FpOk X pins H1 b:=fun b hb=>by
  rw [List.mem_singleton] at hb
  subst hb
  exact I1.fpOk (Nat.le_refl _) (I1.hok.fresh (Nat.le_refl _))
 rcases q with ⟨⟨xs,hq⟩,q⟩ | ⟨⟨xs,hq⟩,q⟩
 ·obtain ⟨its,rv,p,hz⟩:=I1.list hq
  exact wpAny_pyIter_list p.isList ⟨s1.heap.objs.size,[s1.heap.objs.size],_,_,H1,rfl,I1.kept (t':=s1.toks) fun b o e=>Heap.get?_push_of_some _ e,zNo a _,⟨_,Heap.get?_push_size _ rfl,rfl,rfl⟩,own,q⟩
 ·obtain ⟨its,rv,p,hz⟩:=I1.tuple hq
  exact wpAny_pyIter_tuple (show s1.heap.IsTuple a its.toArray from p) ⟨s1.heap.objs.size,[s1.heap.objs.size],_,_,H1,rfl,I1.kept (t':=s1.toks) fun b o e=>Heap.get?_push_of_some _ e,zPv a _,⟨_,Heap.get?_push_size _ rfl,rfl,rfl⟩,own,q⟩
end

section
variable {K:PySem.W.Frag} {a D:Addr} {xs:List V} {g:TG} {tt:TT} {te:TE} {σ0:St} {H1:Hp} {Q:VK}
theorem zKu (Pv:Nat→St→List V→Hp→Prop) (h0:Pv 0 σ0 [] (upd H1 D (.lst []))) (hl:∀ i σ ys H,i≤xs.length→Pv i σ ys H→SqL K H a xs∧H D = some (.lst ys))
  (hs:∀ i x σ ys H,xs[i]? = some x→Pv i σ ys H→g x σ H fun σ2 H2=>tt σ2 H2 fun b H3 =>
   if b = true then te σ2 H3 fun y H4=>H4 D = some (.lst ys)∧ys.length < sizeLine∧Pv (i + 1) σ2 (ys ++ [y]) (upd H4 D (.lst (ys ++ [y]))) else Pv (i + 1) σ2 ys H3)
  (hd:∀ σ ys H,Pv xs.length σ ys H→Q (.ref D) H):zKv (Itl K a) D g tt te σ0 H1 Q:=by
 refine ⟨fun i m σ ys H=>m = xs.length - i∧i≤xs.length∧Pv i σ ys H,⟨xs.length,by simp,Nat.zero_le _,h0⟩,?_⟩
 rintro i m σ ys H ⟨rfl,hi,p⟩
 obtain ⟨q,qd⟩:=hl i σ ys H hi p
 refine ⟨qd,?_⟩
 by_cases hlt:i < xs.length
 ·refine .inr ⟨⟨xs,xs[i],q,by simp [hlt]⟩,Pv (i + 1),fun σ' zs H' z=>⟨xs.length - (i + 1),by omega,rfl,hlt,z⟩,fun x H' y=>?_⟩
  obtain ⟨e,y⟩:=y
  subst e
  exact hs i x σ ys _ (y xs q) p
 ·have e:i = xs.length:=by omega
  subst e
  exact .inl ⟨⟨xs,q,Nat.le_refl _⟩,hd σ ys H p⟩
theorem zUo (Pv:Nat→St→List V→Hp→Prop) (h0:Pv 0 σ0 [] (upd H1 D (.lst []))) (hl:∀ i σ ys H,i≤xs.length→Pv i σ ys H→SqT K H a xs∧H D = some (.lst ys))
  (hs:∀ i x σ ys H,xs[i]? = some x→Pv i σ ys H→g x σ H fun σ2 H2=>tt σ2 H2 fun b H3 =>
   if b = true then te σ2 H3 fun y H4=>H4 D = some (.lst ys)∧ys.length < sizeLine∧Pv (i + 1) σ2 (ys ++ [y]) (upd H4 D (.lst (ys ++ [y]))) else Pv (i + 1) σ2 ys H3)
  (hd:∀ σ ys H,Pv xs.length σ ys H→Q (.ref D) H):zKv (Itt K a) D g tt te σ0 H1 Q:=by
 refine ⟨fun i m σ ys H=>m = xs.length - i∧i≤xs.length∧Pv i σ ys H,⟨xs.length,by simp,Nat.zero_le _,h0⟩,?_⟩
 rintro i m σ ys H ⟨rfl,hi,p⟩
 obtain ⟨q,qd⟩:=hl i σ ys H hi p
 refine ⟨qd,?_⟩
 by_cases hlt:i < xs.length
 ·refine .inr ⟨⟨xs,xs[i],q,by simp [hlt]⟩,Pv (i + 1),fun σ' zs H' z=>⟨xs.length - (i + 1),by omega,rfl,hlt,z⟩,fun x H' y=>?_⟩
  obtain ⟨e,y⟩:=y
  subst e
  exact hs i x σ ys _ (y xs q) p
 ·have e:i = xs.length:=by omega
  subst e
  exact .inl ⟨⟨xs,q,Nat.le_refl _⟩,hd σ ys H p⟩
theorem zP7 {lo:Int} {n:Nat} (Pv:Nat→St→List V→Hp→Prop) (h0:Pv 0 σ0 [] (upd H1 D (.lst []))) (hl:∀ i σ ys H,i≤n→Pv i σ ys H→H D = some (.lst ys))
  (hs:∀ i σ ys H,i < n→Pv i σ ys H→g (.int (lo + i)) σ H fun σ2 H2=>tt σ2 H2 fun b H3 =>
   if b = true then te σ2 H3 fun y H4=>H4 D = some (.lst ys)∧ys.length < sizeLine∧Pv (i + 1) σ2 (ys ++ [y]) (upd H4 D (.lst (ys ++ [y]))) else Pv (i + 1) σ2 ys H3)
  (hd:∀ σ ys H,Pv n σ ys H→Q (.ref D) H):zKv (Itr lo n) D g tt te σ0 H1 Q:=by
 refine ⟨fun i m σ ys H=>m = n - i∧i≤n∧Pv i σ ys H,⟨n,by simp,Nat.zero_le _,h0⟩,?_⟩
 rintro i m σ ys H ⟨rfl,hi,p⟩
 have qd:=hl i σ ys H hi p
 refine ⟨qd,?_⟩
 by_cases hlt:i < n
 ·refine .inr ⟨hlt,Pv (i + 1),fun σ' zs H' z=>⟨n - (i + 1),by omega,rfl,hlt,z⟩,fun x H' y=>?_⟩
  obtain ⟨e,y⟩:=y
  subst e y
  exact hs i σ ys _ hlt p
 ·have e:i = n:=by omega
  subst e
  exact .inl ⟨Nat.le_refl _,hd σ ys H p⟩
end
section
variable {K:PySem.W.Frag} {a D:Addr} {xs:List V} {g:TG} {te:TE} {σ0:St} {H1:Hp} {Q:VK}
theorem zBj (Pv:Nat→St→List V→Hp→Prop) (h0:Pv 0 σ0 [] (upd H1 D (.lst []))) (hl:∀ i σ ys H,i≤xs.length→Pv i σ ys H→SqL K H a xs∧H D = some (.lst ys))
  (hs:∀ i x σ ys H,xs[i]? = some x→Pv i σ ys H→g x σ H fun σ2 H2=>te σ2 H2 fun y H4=>H4 D = some (.lst ys)∧ys.length < sizeLine∧Pv (i + 1) σ2 (ys ++ [y]) (upd H4 D (.lst (ys ++ [y]))))
  (hd:∀ σ ys H,Pv xs.length σ ys H→Q (.ref D) H):zKv (Itl K a) D g tYes te σ0 H1 Q:=zKu Pv h0 hl (fun i x σ ys H e p=>hs i x σ ys H e p) hd
theorem zK2 (Pv:Nat→St→List V→Hp→Prop) (h0:Pv 0 σ0 [] (upd H1 D (.lst []))) (hl:∀ i σ ys H,i≤xs.length→Pv i σ ys H→SqT K H a xs∧H D = some (.lst ys))
  (hs:∀ i x σ ys H,xs[i]? = some x→Pv i σ ys H→g x σ H fun σ2 H2=>te σ2 H2 fun y H4=>H4 D = some (.lst ys)∧ys.length < sizeLine∧Pv (i + 1) σ2 (ys ++ [y]) (upd H4 D (.lst (ys ++ [y]))))
  (hd:∀ σ ys H,Pv xs.length σ ys H→Q (.ref D) H):zKv (Itt K a) D g tYes te σ0 H1 Q:=zUo Pv h0 hl (fun i x σ ys H e p=>hs i x σ ys H e p) hd
theorem zHl {lo:Int} {n:Nat} (Pv:Nat→St→List V→Hp→Prop) (h0:Pv 0 σ0 [] (upd H1 D (.lst []))) (hl:∀ i σ ys H,i≤n→Pv i σ ys H→H D = some (.lst ys))
  (hs:∀ i σ ys H,i < n→Pv i σ ys H→g (.int (lo + i)) σ H fun σ2 H2=>te σ2 H2 fun y H4=>H4 D = some (.lst ys)∧ys.length < sizeLine∧Pv (i + 1) σ2 (ys ++ [y]) (upd H4 D (.lst (ys ++ [y]))))
  (hd:∀ σ ys H,Pv n σ ys H→Q (.ref D) H):zKv (Itr lo n) D g tYes te σ0 H1 Q:=zP7 Pv h0 hl (fun i σ ys H e p=>hs i σ ys H e p) hd
end
end L2

namespace L2
open PySem PySem.Spec PyProof.Rows
theorem zQ7:∀ bs:List Bool,(List.range bs.length).all (fun i=>(bs[i]?).getD true) = bs.all id:=by
 intro bs
 rw [Bool.eq_iff_iff,List.all_eq_true,List.all_eq_true]
 constructor
 ·intro h b hb
  obtain ⟨i,hi,e⟩:=List.getElem_of_mem hb
  have q:=h i (List.mem_range.mpr hi)
  rw [List.getElem?_eq_getElem hi,e] at q
  exact q
 ·intro h i hi
  have hi':=List.mem_range.mp hi
  rw [List.getElem?_eq_getElem hi']
  exact h _ (List.getElem_mem hi')
theorem zT5 {bs:List Bool} {its:List Value} (r:Vals (bs.map V.bl) its) {i:Nat} {v:Value} (h:its[i]? = some v):v = .bool ((bs[i]?).getD true):=by
 have hl:=r.length
 rw [List.length_map] at hl
 have hi:i < its.length:=(List.getElem?_eq_some_iff.mp h).1
 have hb:i < bs.length:=by omega
 obtain ⟨u,hu,ru⟩:=r.get (i:=i) (x:=.bl bs[i]) (by rw [List.getElem?_map,List.getElem?_eq_getElem hb]; rfl)
 rw [hu] at h
 cases h
 rw [List.getElem?_eq_getElem hb]
 exact ru
section
variable {X:Cx}
theorem zGc (hc:X.calm = true):zHg X (.builtin "all") (fun xs H Q=>∃ (p:Addr) (bs:List Bool),xs = [.ref p]∧SqL X.K H p (bs.map V.bl)∧Q (.bl (bs.all id)) H):=by
 intro pins s σ H xs us Q I r h
 obtain ⟨p,bs,rfl,hq,q⟩:=h
 obtain ⟨u,rfl,ru⟩:=Vals.one r
 cases ru
 obtain ⟨its,rv,pl,hz⟩:=I.list hq
 have plt:p < s.heap.objs.size:=by
  obtain ⟨_,e,_⟩:=pl.isList
  exact Heap.lt_size e
 refine call_all_walk (wpAny_pyIter_list pl.isList ?_)
 refine ⟨s.heap.objs.size,_,_,_,_,_,fun i=>(bs[i]?).getD true,rfl,Walks.list (A:=X.A.in1) (show X.A.in1.handled = none from I.ok.hd hc) _ p (Nat.ne_of_lt plt) its.toArray,⟨⟨_,Heap.get?_push_size _ rfl,rfl,rfl⟩,Heap.IsList.push pl.isList _⟩,fun i v s Q E hP hQ=>?_,fun h' tk k=>?_⟩
 ·have e:=zT5 rv (by simpa using hP)
  subst e
  exact wpAny_truthy_bool hQ
 ·have e:(List.range its.toArray.size).all (fun i=>(bs[i]?).getD true) = bs.all id:=by
   have hl:=rv.length
   rw [List.length_map] at hl
   rw [List.size_toArray,← hl]
   exact zQ7 bs
  rw [e]
  exact ⟨.bl (bs.all id),H,I.kept (t':=tk) fun b o z=>k b o (fun w=>by rw [List.mem_singleton] at w; exact Nat.lt_irrefl _ (w ▸ Heap.lt_size z)) (Heap.get?_push_of_some _ z),rfl,q⟩
end
end L2

namespace L2
open PySem PySem.Spec PyProof.Rows

def SI (b:Bool) (h:Heap) (i l:Addr) (k:Nat):Prop:=match b with | true=>h.IsListIter i l k | false=>h.IsTupleIter i l k
def SS (b:Bool) (h:Heap) (l:Addr) (its:Array Value):Prop:=match b with | true=>h.IsList l its | false=>h.IsTuple l its
def zM0 (b:Bool):String:=match b with | true => "list_iterator" | false => "tuple_iterator"
theorem SI.obj {b:Bool} {h:Heap} {i l:Addr} {k:Nat} (x:SI b h i l k):∃ o,h.get? i = some o∧o.cls = .type (zM0 b)∧o.data = .fields #[.ref l,.int k 0]:=by
 cases b <;> exact x
theorem SI.of {b:Bool} {h:Heap} {i l:Addr} {k:Nat} (x:∃ o,h.get? i = some o∧o.cls = .type (zM0 b)∧o.data = .fields #[.ref l,.int k 0]):SI b h i l k:=by
 cases b <;> exact x
theorem SI.at {b:Bool} {h h':Heap} {i l:Addr} {k:Nat} (x:SI b h i l k) (e:∀ o,h.get? i = some o→h'.get? i = some o):SI b h' i l k:=by
 obtain ⟨o,ho,r⟩:=x.obj
 exact SI.of ⟨o,e o ho,r⟩
theorem SS.at {b:Bool} {h h':Heap} {l:Addr} {its:Array Value} (x:SS b h l its) (e:∀ o,h.get? l = some o→h'.get? l = some o):SS b h' l its:=by
 cases b <;> (obtain ⟨o,ho,r⟩:=x; exact ⟨o,e o ho,r⟩)
theorem SS.obj {b:Bool} {h:Heap} {l:Addr} {its:Array Value} (x:SS b h l its):∃ o,h.get? l = some o∧o.cls = .type (match b with | true => "list" | false => "tuple"):=by
 cases b <;> (obtain ⟨o,ho,hc,_⟩:=x; exact ⟨o,ho,hc⟩)
section
variable {prog:Program} {w:World} {A:Around} {E:Value→Shared→Prop} {s:Shared}
theorem zUt {i l:Addr} {k:Nat} {its:Array Value} {y:Value} {Q:Value→Shared→Prop} (zi:s.heap.IsTupleIter i l k) (zl:s.heap.IsTuple l its) (zy:its[k]? = some y)
  (zq:∀ h',h'.IsTupleIter i l (k + 1)→Heap.SameBut i s.heap h'→Q y { s with heap:=h' }):wpAny (model prog w) A (Builtin.SmallTypes.nextOf (.ref i)) Q E s:=by
 obtain ⟨ob,zo,zc,zd⟩:=id zi
 obtain ⟨ot,zot,_,nt,zdt⟩:=zl
 unfold Builtin.SmallTypes.nextOf
 refine wpAny_bind (wpAny_callSpecial?_slot (name:=Str.ofString "__next__") zi.typeIs F.slot_tuple_iterator_next (wpAny_call_entry F.slot_tuple_iterator_next zi.typeIs F.entry_tuple_iterator_next ?_ (F.args_tuple_iterator_next_1 _)))
 show wpAny _ _ (field (.ref i) 0 >>= _) _ _ s
 refine wpAny_bind (wpAny_field zo zd (x:=.ref l) rfl ?_)
 show wpAny _ _ (if (Value.ref l == Value.none) = true then _ else _) _ _ s; rw [if_neg (show ¬ ((Value.ref l == Value.none) = true) from Bool.false_ne_true)]
 show wpAny _ _ (field (.ref i) 1 >>= _) _ _ s
 refine wpAny_bind (wpAny_field zo zd (x:=.int k 0) rfl ?_)
 show wpAny _ _ (seqItems? (.ref l) >>= _) _ _ s; refine wpAny_bind (wpAny_seqItems zot zdt ?_)
 simp only [Int.toNat_natCast,zy]
 refine wpAny_bind (wpAny_setField zo zd (by simp) (wpAny_pure ⟨y,rfl,wpAny_pure (zq _ ?_ (Heap.SameBut.update ..))⟩))
 exact ⟨_,Heap.get?_update_self _ zo (Obj.isFreed_of_fields (Obj.data_mapFields zd _)),(Obj.cls_mapFields ..).trans zc,by rw [Obj.data_mapFields zd]; simp [rawInt]⟩
theorem zV2 {i l:Addr} {k:Nat} {its:Array Value} {Q:Value→Shared→Prop} (hh:A.handled = none) (zi:s.heap.IsTupleIter i l k) (zl:s.heap.IsTuple l its) (zy:its[k]? = none)
  (zE:∀ h' e,Heap.ExtBut i s.heap h'→(∃ o,h'.get? e = some o∧o.cls = .type "StopIteration")→E (.ref e) { s with heap:=h' }):wpAny (model prog w) A (Builtin.SmallTypes.nextOf (.ref i)) Q E s:=by
 obtain ⟨ob,zo,zc,zd⟩:=id zi
 obtain ⟨ot,zot,_,nt,zdt⟩:=zl
 unfold Builtin.SmallTypes.nextOf
 refine wpAny_bind (wpAny_callSpecial?_slot (name:=Str.ofString "__next__") zi.typeIs F.slot_tuple_iterator_next (wpAny_call_entry F.slot_tuple_iterator_next zi.typeIs F.entry_tuple_iterator_next ?_ (F.args_tuple_iterator_next_1 _)))
 show wpAny _ _ (field (.ref i) 0 >>= _) _ _ s
 refine wpAny_bind (wpAny_field zo zd (x:=.ref l) rfl ?_)
 show wpAny _ _ (if (Value.ref l == Value.none) = true then _ else _) _ _ s; rw [if_neg (show ¬ ((Value.ref l == Value.none) = true) from Bool.false_ne_true)]
 show wpAny _ _ (field (.ref i) 1 >>= _) _ _ s
 refine wpAny_bind (wpAny_field zo zd (x:=.int k 0) rfl ?_)
 show wpAny _ _ (seqItems? (.ref l) >>= _) _ _ s; refine wpAny_bind (wpAny_seqItems zot zdt ?_)
 simp only [Int.toNat_natCast,zy]
 refine wpAny_bind (wpAny_rule (wpAny_bind (wpAny_setField zo zd (by simp) ?_)))
 show wpAny _ _ (newExc (.type "StopIteration") [] >>= _) _ _ _; refine wpAny_bind ?_; simp only [newExc,newTuple]
 refine wpAny_bind (wpAny_newObj_type ?_ (by size_fits)); refine wpAny_bind (m:=firstArgMember _ _) (wpAny_of_eq (a:=Value.none) (by first | rfl | (simp only [firstArgMember]; rfl)) ?_)
 refine wpAny_newObj_type ?_ (by size_fits); simp only [raiseNew]; refine wpAny_bind (wpAny_handled ?_)
 first | rw [show A.in1.handled = none from hh] | rw [hh]
 refine wpAny_bind (wpAny_pure (wpAny_throw ?_)); exact zE _ _ (((Heap.SameBut.update ..).extBut.push _).push _) ⟨_,Heap.get?_push_size _ rfl,rfl⟩
theorem zOg {b:Bool} {i l:Addr} {k:Nat} {its:Array Value} {y:Value} {Q:Value→Shared→Prop} (zi:SI b s.heap i l k) (zl:SS b s.heap l its) (zy:its[k]? = some y)
  (zq:∀ h',SI b h' i l (k + 1)→Heap.SameBut i s.heap h'→Q y { s with heap:=h' }):wpAny (model prog w) A (Builtin.SmallTypes.nextOf (.ref i)) Q E s:=by
 cases b
 ·exact zUt zi zl zy zq
 ·exact wpAny_nextOf_list_item zi zl zy zq
theorem zVa {b:Bool} {i l:Addr} {k:Nat} {its:Array Value} {Q:Value→Shared→Prop} (hh:A.handled = none) (zi:SI b s.heap i l k) (zl:SS b s.heap l its) (zy:its[k]? = none)
  (zE:∀ h' e,Heap.ExtBut i s.heap h'→(∃ o,h'.get? e = some o∧o.cls = .type "StopIteration")→E (.ref e) { s with heap:=h' }):wpAny (model prog w) A (Builtin.SmallTypes.nextOf (.ref i)) Q E s:=by
 cases b
 ·exact zV2 hh zi zl zy zE
 ·exact wpAny_nextOf_list_end hh zi zl zy zE
theorem zU6 {b:Bool} {l:Addr} {its:Array Value} {Q:Value→Shared→Prop} (zl:SS b s.heap l its) (h:Q (.ref s.heap.objs.size) { s with heap:=s.heap.push { cls:=.type (zM0 b),data:=.fields #[.ref l,.int 0 0] } }) :
  wpAny (model prog w) A (pyIter (.ref l)) Q E s:=by
 cases b
 ·exact wpAny_pyIter_tuple zl h
 ·exact wpAny_pyIter_list zl h

theorem zSt {b1 b2:Bool} {z TI TO i1 i2 l1 l2:Addr} {k:Nat} {xs ys:Array Value} {x y a b:Value} {Q:Value→Shared→Prop} (D:ZipApart z TI TO i1 i2 l1 l2)
  (hz:IsZip s.heap z TI TO .none) (hI:IsPair s.heap TI (.ref i1) (.ref i2)) (hO:IsPair s.heap TO a b) (h1:SI b1 s.heap i1 l1 k) (h2:SI b2 s.heap i2 l2 k) (g1:SS b1 s.heap l1 xs) (g2:SS b2 s.heap l2 ys)
  (hx:xs[k]? = some x) (hy:ys[k]? = some y)
  (hQ:∀ h',IsZip h' z TI TO (rawInt s.heap.objs.size)→IsPair h' TO x y→SI b1 h' i1 l1 (k + 1)→SI b2 h' i2 l2 (k + 1)→IsPair h' s.heap.objs.size x y →
   (∀ c o,c≠z→c≠TO→c≠i1→c≠i2→s.heap.get? c = some o→h'.get? c = some o)→Q (.ref s.heap.objs.size) { s with heap:=h' }) :
  wpAny (model prog w) A (Builtin.«zip.__next__» ⟨[.ref z],[]⟩) (fun fin s'=>∃ v,fin = .done (.ret v)∧Q v s') E s:=by
 show wpAny _ _ (field (.ref z) 2 >>= _) _ _ _; refine wpAny_bind (wpAny_field hz rfl (x:=.bool false) rfl ?_)
 show wpAny _ _ (field (.ref z) 3 >>= _) _ _ _; refine wpAny_bind (wpAny_field hz rfl (x:=.ref TI) rfl ?_)
 refine wpAny_bind (wpAny_seqItems hI rfl ?_)
 show wpAny _ _ (Builtin.SmallTypes.ownedTupleIsFree (.ref z) >>= _) _ _ _; refine wpAny_bind ?_; unfold Builtin.SmallTypes.ownedTupleIsFree
 refine wpAny_bind (wpAny_field hz rfl (x:=.none) rfl (wpAny_pure ?_)); simp only [if_true]
 refine wpAny_bind (wpAny_rule ?_); refine wpAny_bind (wpAny_field hz rfl (x:=.ref TO) rfl ?_)
 refine wpAny_bind (wpAny_setField_rec hz (by simp) fun k1 z1 s1=>?_); replace z1:IsZip k1 z TI TO .ellipsis:=z1
 refine wpAny_bind ?_; simp only [List.zipIdx_cons,List.zipIdx_nil,List.forIn_cons,List.forIn_nil]
 refine wpAny_bind (wpAny_bind (wpAny_onRaise ?_)); show wpAny _ _ (Builtin.SmallTypes.nextOf (.ref i1) >>= _) _ _ _
 refine wpAny_bind (zOg (h1.at fun o e=>s1.extBut _ o D.i1z e) (g1.at fun o e=>s1.extBut _ o D.l1z e) hx fun k2 q2 s2=>wpAny_pure ?_)
 have o2:IsPair k2 TO a b:=s2.extBut _ _ D.TOi1 (s1.extBut _ _ D.TOz hO)
 refine wpAny_bind (wpAny_seqItems o2 rfl ?_)
 refine wpAny_bind (wpAny_updateSeq_pair o2 fun k3 o3 s3=>?_); replace o3:IsPair k3 TO x b:=o3
 refine wpAny_bind (wpAny_letGo (wpAny_pure ?_)); refine wpAny_bind (wpAny_bind (wpAny_onRaise ?_)); show wpAny _ _ (Builtin.SmallTypes.nextOf (.ref i2) >>= _) _ _ _
 refine wpAny_bind (zOg (h2.at fun o e=>s3.extBut _ o D.TOi2.symm (s2.extBut _ o D.i12.symm (s1.extBut _ o D.i2z e))) (g2.at fun o e=>s3.extBut _ o D.l2TO (s2.extBut _ o D.l2i1 (s1.extBut _ o D.l2z e))) hy fun k4 q4 s4=>wpAny_pure ?_)
 have o4:IsPair k4 TO x b:=s4.extBut _ _ D.TOi2 o3
 refine wpAny_bind (wpAny_seqItems o4 rfl ?_)
 refine wpAny_bind (wpAny_updateSeq_pair o4 fun k5 o5 s5=>?_); replace o5:IsPair k5 TO x y:=o5
 refine wpAny_bind (wpAny_letGo (wpAny_pure (wpAny_pure ?_)))
 refine wpAny_bind (wpAny_seqItems o5 rfl ?_); refine wpAny_bind (wpAny_newTuple ?_)
 have hsz:k5.objs.size = s.heap.objs.size:=by rw [s5.1,s4.1,s3.1,s2.1,s1.1]
 have z5:IsZip k5 z TI TO .ellipsis:=s5.extBut _ _ D.TOz.symm (s4.extBut _ _ D.i2z.symm (s3.extBut _ _ D.TOz.symm (s2.extBut _ _ D.i1z.symm z1)))
 have kp:∀ c o,c≠z→c≠TO→c≠i1→c≠i2→s.heap.get? c = some o→k5.get? c = some o:=fun c o c1 c2 c3 c4 e=>s5.extBut _ _ c2 (s4.extBut _ _ c4 (s3.extBut _ _ c2 (s2.extBut _ _ c3 (s1.extBut _ _ c1 e))))
 have a5:SI b1 k5 i1 l1 (k + 1):=q2.at fun o e=>s5.extBut _ o D.TOi1.symm (s4.extBut _ o D.i12 (s3.extBut _ o D.TOi1.symm e))
 have b5:SI b2 k5 i2 l2 (k + 1):=q4.at fun o e=>s5.extBut _ o D.TOi2.symm e
 have zlt:z < k5.objs.size:=Heap.lt_size z5
 show wpAny _ _ (Builtin.SmallTypes.ownedTupleHandOut (.ref z) (.ref k5.objs.size) >>= _) _ _ _; refine wpAny_bind ?_; unfold Builtin.SmallTypes.ownedTupleHandOut
 have z6:IsZip (k5.push { cls:=.type "tuple", data:=.seq #[x,y] }) z TI TO .ellipsis:=Heap.get?_push_of_some _ z5
 refine wpAny_bind (wpAny_setField_rec z6 (by simp) fun k7 z7 s7=>?_); replace z7:IsZip k7 z TI TO (rawInt k5.objs.size):=z7
 refine wpAny_setField_rec z7 (by simp) fun k8 z8 s8=>?_; replace z8:IsZip k8 z TI TO (rawInt k5.objs.size):=z8
 have up:∀ c o,c≠z→k5.get? c = some o→k8.get? c = some o:=fun c o c1 e=>s8.extBut _ _ c1 (s7.extBut _ _ c1 (Heap.get?_push_of_some _ e))
 have t8:IsPair k8 k5.objs.size x y:=s8.extBut _ _ (Nat.ne_of_gt zlt) (s7.extBut _ _ (Nat.ne_of_gt zlt) (Heap.get?_push_size _ rfl))
 rw [hsz] at z8 t8
 refine wpAny_pure ⟨_,rfl,?_⟩; show Q (.ref k5.objs.size) _
 rw [hsz]
 exact hQ k8 z8 (up _ _ D.TOz o5) (a5.at fun o e=>up _ o D.i1z e) (b5.at fun o e=>up _ o D.i2z e) t8 fun c o c1 c2 c3 c4 e=>up c o c1 (kp c o c1 c2 c3 c4 e)
theorem zTy {b1 b2:Bool} {z TI TO i1 i2 l1 l2:Addr} {k:Nat} {xs ys:Array Value} {a b:Value} {Q:Fin→Shared→Prop} (hh:A.handled = none) (D:ZipApart z TI TO i1 i2 l1 l2)
  (hz:IsZip s.heap z TI TO .none) (hI:IsPair s.heap TI (.ref i1) (.ref i2)) (hO:IsPair s.heap TO a b) (h1:SI b1 s.heap i1 l1 k) (h2:SI b2 s.heap i2 l2 k) (g1:SS b1 s.heap l1 xs) (g2:SS b2 s.heap l2 ys)
  (hend:xs[k]? = none∨ys[k]? = none)
  (hE:∀ h' e,(∀ c o,c≠z→c≠TO→c≠i1→c≠i2→s.heap.get? c = some o→h'.get? c = some o)→(∃ o,h'.get? e = some o∧o.cls = .type "StopIteration")→E (.ref e) { s with heap:=h' }) :
  wpAny (model prog w) A (Builtin.«zip.__next__» ⟨[.ref z],[]⟩) Q E s:=by
 show wpAny _ _ (field (.ref z) 2 >>= _) _ _ _; refine wpAny_bind (wpAny_field hz rfl (x:=.bool false) rfl ?_)
 show wpAny _ _ (field (.ref z) 3 >>= _) _ _ _; refine wpAny_bind (wpAny_field hz rfl (x:=.ref TI) rfl ?_)
 refine wpAny_bind (wpAny_seqItems hI rfl ?_)
 show wpAny _ _ (Builtin.SmallTypes.ownedTupleIsFree (.ref z) >>= _) _ _ _; refine wpAny_bind ?_; unfold Builtin.SmallTypes.ownedTupleIsFree
 refine wpAny_bind (wpAny_field hz rfl (x:=.none) rfl (wpAny_pure ?_)); simp only [if_true]
 refine wpAny_bind (wpAny_rule ?_); refine wpAny_bind (wpAny_field hz rfl (x:=.ref TO) rfl ?_)
 refine wpAny_bind (wpAny_setField_rec hz (by simp) fun k1 z1 s1=>?_); replace z1:IsZip k1 z TI TO .ellipsis:=z1
 refine wpAny_bind ?_; simp only [List.zipIdx_cons,List.zipIdx_nil,List.forIn_cons,List.forIn_nil]
 refine wpAny_bind (wpAny_bind (wpAny_onRaise ?_)); show wpAny _ _ (Builtin.SmallTypes.nextOf (.ref i1) >>= _) _ _ _
 cases hx:xs[k]? with
 | none =>
  refine wpAny_bind (zVa hh (h1.at fun o e=>s1.extBut _ o D.i1z e) (g1.at fun o e=>s1.extBut _ o D.l1z e) hx fun k2 e s2 he=>?_)
  obtain ⟨oe,hoe,hce⟩:=he
  have z2:IsZip k2 z TI TO .ellipsis:=s2 _ _ D.i1z.symm z1
  have nez:e≠z:=fun x=>by subst x; rw [z2] at hoe; cases hoe; simp at hce
  refine wpAny_setField_rec z2 (by simp) fun k3 _ s3=>hE k3 e (fun c o c1 _ c3 _ x=>s3.extBut _ _ c1 (s2 _ _ c3 (s1.extBut _ _ c1 x))) ⟨oe,s3.extBut _ _ nez hoe,hce⟩
 | some x =>
  have hy:ys[k]? = none:=by
   rcases hend with h | h
   ·rw [hx] at h; cases h
   ·exact h
  refine wpAny_bind (zOg (h1.at fun o e=>s1.extBut _ o D.i1z e) (g1.at fun o e=>s1.extBut _ o D.l1z e) hx fun k2 q2 s2=>wpAny_pure ?_)
  have o2:IsPair k2 TO a b:=s2.extBut _ _ D.TOi1 (s1.extBut _ _ D.TOz hO)
  refine wpAny_bind (wpAny_seqItems o2 rfl ?_); refine wpAny_bind (wpAny_updateSeq_pair o2 fun k3 o3 s3=>?_)
  refine wpAny_bind (wpAny_letGo (wpAny_pure ?_)); refine wpAny_bind (wpAny_bind (wpAny_onRaise ?_)); show wpAny _ _ (Builtin.SmallTypes.nextOf (.ref i2) >>= _) _ _ _
  refine wpAny_bind (zVa hh (h2.at fun o e=>s3.extBut _ o D.TOi2.symm (s2.extBut _ o D.i12.symm (s1.extBut _ o D.i2z e))) (g2.at fun o e=>s3.extBut _ o D.l2TO (s2.extBut _ o D.l2i1 (s1.extBut _ o D.l2z e))) hy fun k4 e s4 he=>?_)
  obtain ⟨oe,hoe,hce⟩:=he
  have z4:IsZip k4 z TI TO .ellipsis:=s4 _ _ D.i2z.symm (s3.extBut _ _ D.TOz.symm (s2.extBut _ _ D.i1z.symm z1))
  have nez:e≠z:=fun x=>by subst x; rw [z4] at hoe; cases hoe; simp at hce
  refine wpAny_setField_rec z4 (by simp) fun k5 _ s5=>hE k5 e (fun c o c1 c2 c3 c4 x=>s5.extBut _ _ c1 (s4 _ _ c4 (s3.extBut _ _ c2 (s2.extBut _ _ c3 (s1.extBut _ _ c1 x))))) ⟨oe,s5.extBut _ _ nez hoe,hce⟩
def zV7 (b1 b2:Bool) (l1 l2:Addr) (h:Heap):Heap :=
 ((((h.push { cls:=.type (zM0 b1),data:=.fields #[.ref l1,.int 0 0] }).push { cls:=.type (zM0 b2),data:=.fields #[.ref l2,.int 0 0] }).push { cls:=.type "tuple", data:=.seq #[.ref h.objs.size,.ref (h.objs.size + 1)] }).push { cls:=.type "tuple", data:=.seq #[.none,.none] }).push { cls:=.type "zip", data:=.fields #[.none,.bool false,.bool false,.ref (h.objs.size + 2),.ref (h.objs.size + 3)] }
theorem zUd (b1 b2:Bool) (l1 l2:Addr) (xs ys:Array Value) :
  Meets (Builtin.«zip.__new__» ⟨[.type "zip", .ref l1,.ref l2],[]⟩) (fun _ R s=>SS b1 s.heap l1 xs∧SS b2 s.heap l2 ys ∧
   R (.ok (.ret (.ref (s.heap.objs.size + 4)))) { s with heap:=zV7 b1 b2 l1 l2 s.heap }) :=
 .of_wp fun prog w A R s h=>by
  obtain ⟨hp,g,d,tk,os⟩:=s
  obtain ⟨hl1,hl2,h⟩:=h
  have hsub:=sub_zip
  have hL1:SS b1 (Shared.heap ⟨hp,g,d,tk,os⟩) l1 xs:=hl1
  have hL2:SS b2 (Shared.heap ⟨hp.push { cls:=.type (zM0 b1),data:=.fields #[.ref l1,.int 0 0] },g,d,tk,os⟩) l2 ys:=SS.at hl2 fun o e=>Heap.get?_push_of_some _ e
  wp_walk using zU6 hL1,zU6 hL2
  refine ⟨_,rfl,?_⟩
  simp only [zV7,Heap.size_push] at h ⊢
  exact h
theorem zR6 {b1 b2:Bool} {l1 l2:Addr} {xs ys:Array Value} {Q:Value→Shared→Prop} (hl1:SS b1 s.heap l1 xs) (hl2:SS b2 s.heap l2 ys)
  (h:∀ h',IsZip h' (s.heap.objs.size + 4) (s.heap.objs.size + 2) (s.heap.objs.size + 3) .none→IsPair h' (s.heap.objs.size + 2) (.ref s.heap.objs.size) (.ref (s.heap.objs.size + 1))→IsPair h' (s.heap.objs.size + 3) .none .none →
   SI b1 h' s.heap.objs.size l1 0→SI b2 h' (s.heap.objs.size + 1) l2 0→(∀ c o,s.heap.get? c = some o→h'.get? c = some o)→Q (.ref (s.heap.objs.size + 4)) { s with heap:=h' }) :
  wpAny (model prog w) A (call (.type "zip") [.ref l1,.ref l2]) Q E s:=by
 refine callType_new F.called_zip (by decide) (F.typeCall_zip_2 _ _) (F.newCall_zip_2 _ _) (fun obj=>F.args_object_init_3 obj _ _) F.entry_zip_new (zUd b1 b2 l1 l2 xs ys) ⟨hl1,hl2,?_⟩
 unfold zV7
 generalize e1:s.heap.push { cls:=.type (zM0 b1),data:=.fields #[.ref l1,.int 0 0] } = k1
 have n1:k1.objs.size = s.heap.objs.size + 1:=by rw [← e1,Heap.size_push]
 generalize e2:k1.push { cls:=.type (zM0 b2),data:=.fields #[.ref l2,.int 0 0] } = k2
 have n2:k2.objs.size = s.heap.objs.size + 2:=by rw [← e2,Heap.size_push,n1]
 generalize e3:k2.push { cls:=.type "tuple", data:=.seq #[.ref s.heap.objs.size,.ref (s.heap.objs.size + 1)] } = k3
 have n3:k3.objs.size = s.heap.objs.size + 3:=by rw [← e3,Heap.size_push,n2]
 generalize e4:k3.push { cls:=.type "tuple", data:=.seq #[.none,.none] } = k4
 have n4:k4.objs.size = s.heap.objs.size + 4:=by rw [← e4,Heap.size_push,n3]
 generalize e5:k4.push { cls:=.type "zip", data:=.fields #[.none,.bool false,.bool false,.ref (s.heap.objs.size + 2),.ref (s.heap.objs.size + 3)] } = k5
 have u5:∀ c o,k4.get? c = some o→k5.get? c = some o:=fun c o q=>e5 ▸ Heap.get?_push_of_some _ q
 have u4:∀ c o,k3.get? c = some o→k5.get? c = some o:=fun c o q=>u5 c o (e4 ▸ Heap.get?_push_of_some _ q)
 have u3:∀ c o,k2.get? c = some o→k5.get? c = some o:=fun c o q=>u4 c o (e3 ▸ Heap.get?_push_of_some _ q)
 have u2:∀ c o,k1.get? c = some o→k5.get? c = some o:=fun c o q=>u3 c o (e2 ▸ Heap.get?_push_of_some _ q)
 have u1:∀ c o,s.heap.get? c = some o→k5.get? c = some o:=fun c o q=>u2 c o (e1 ▸ Heap.get?_push_of_some _ q)
 have g5:IsZip k5 (s.heap.objs.size + 4) (s.heap.objs.size + 2) (s.heap.objs.size + 3) .none:=by
  rw [← n4,← e5]
  exact Heap.get?_push_size _ rfl
 have g4:IsPair k5 (s.heap.objs.size + 3) .none .none:=by
  rw [← n3]
  exact u5 _ _ (by rw [← e4]; exact Heap.get?_push_size _ rfl)
 have g3:IsPair k5 (s.heap.objs.size + 2) (.ref s.heap.objs.size) (.ref (s.heap.objs.size + 1)):=by
  have q:=u4 k2.objs.size _ (by rw [← e3]; exact Heap.get?_push_size _ rfl)
  rw [n2] at q
  exact q
 have g2:SI b2 k5 (s.heap.objs.size + 1) l2 0:=by
  rw [← n1]
  exact SI.of ⟨_,u3 _ _ (by rw [← e2]; exact Heap.get?_push_size _ rfl),rfl,rfl⟩
 have g1:SI b1 k5 s.heap.objs.size l1 0:=SI.of ⟨_,u2 _ _ (by rw [← e1]; exact Heap.get?_push_size _ rfl),rfl,rfl⟩
 exact ⟨⟨_,g5,rfl⟩,h k5 g5 g3 g4 g1 g2 u1⟩
end
end L2

namespace L2
open PySem PySem.Spec PyProof.Rows
def SqB (b:Bool) (K:PySem.W.Frag) (H:Hp) (l:Addr) (xs:List V):Prop:=match b with | true=>SqL K H l xs | false=>SqT K H l xs
theorem Inv.sqB {X:Cx} {pins:List (Addr × Obj)} {σ:St} {H:Hp} {s:Shared} {b:Bool} {l:Addr} {xs:List V} (I:Inv X pins σ H s) (h:SqB b X.K H l xs):∃ its:List Value,Vals xs its∧SS b s.heap l its.toArray∧xs.length≤sizeLine:=by
 cases b with
 | true =>
  obtain ⟨its,r,p,z⟩:=I.list h
  exact ⟨its,r,p.isList,z⟩
 | false =>
  obtain ⟨its,r,p,z⟩:=I.tuple h
  exact ⟨its,r,p,z⟩
theorem Inv.sqB_inj {X:Cx} {pins:List (Addr × Obj)} {σ:St} {H:Hp} {s:Shared} {b:Bool} {l:Addr} {xs ys:List V} (I:Inv X pins σ H s) (h:SqB b X.K H l xs) (h':SqB b X.K H l ys):xs = ys:=by
 cases b with
 | true=>exact I.list_inj h h'
 | false=>exact I.tuple_inj h h'
def Itz (K:PySem.W.Frag) (b1 b2:Bool) (l1 l2:Addr):It :=
 ⟨fun k H=>∃ xs ys x y,SqB b1 K H l1 xs∧SqB b2 K H l2 ys∧xs[k]? = some x∧ys[k]? = some y,
   fun k H v H'=>∃ T x y,v = .ref T∧H T = none∧H' = upd H T (.tup [x,y])∧(∀ xs,SqB b1 K H l1 xs→xs[k]? = some x)∧(∀ ys,SqB b2 K H l2 ys→ys[k]? = some y),
   fun k H=>∃ xs ys,SqB b1 K H l1 xs∧SqB b2 K H l2 ys∧(xs.length≤k∨ys.length≤k)⟩
theorem zTq {P:Program} {w:World} {K:PySem.W.Frag} {elts:List Expr} {kt:Nat} {pt:Pos} {b1 b2:Bool} {z TI TO i1 i2 l1 l2:Addr} (D:ZipApart z TI TO i1 i2 l1 l2) :
  Turn P w K (.Tuple elts kt pt) (Itz K b1 b2 l1 l2) [z,TI,TO,i1,i2] z (fun k h=>IsZip h z TI TO .none∧IsPair h TI (.ref i1) (.ref i2)∧(∃ a b,IsPair h TO a b)∧SI b1 h i1 l1 k∧SI b2 h i2 l2 k) where
 mem:=by simp
 obj:=fun k h st b hb=>by
  obtain ⟨hz,hI,⟨a',b',hO⟩,h1,h2⟩:=st
  obtain ⟨o1,g1,_,d1⟩:=h1.obj
  obtain ⟨o2,g2,_,d2⟩:=h2.obj
  simp only [List.mem_cons,List.not_mem_nil,or_false] at hb
  rcases hb with rfl | rfl | rfl | rfl | rfl
  ·exact ⟨_,hz,fun v e=>by cases e⟩
  ·exact ⟨_,hI,fun v e=>by cases e⟩
  ·exact ⟨_,hO,fun v e=>by cases e⟩
  ·exact ⟨_,g1,fun v e=>by rw [d1] at e; cases e⟩
  ·exact ⟨_,g2,fun v e=>by rw [d2] at e; cases e⟩
 keep:=fun k h h' st kp=>by
  obtain ⟨hz,hI,⟨a',b',hO⟩,h1,h2⟩:=st
  exact ⟨kp z (by simp) _ hz,kp TI (by simp) _ hI,⟨a',b',kp TO (by simp) _ hO⟩,h1.at fun o e=>kp i1 (by simp) o e,h2.at fun o e=>kp i2 (by simp) o e⟩
 item:=by
  intro X hP hw hK hc k pins s σ H E I hf st hg
  subst hP hw hK
  obtain ⟨hz,hI,⟨a',b',hO⟩,h1,h2⟩:=st
  obtain ⟨xs,ys,x,y,q1,q2,hx,hy⟩:=hg
  obtain ⟨its1,r1,p1,_⟩:=I.sqB q1
  obtain ⟨its2,r2,p2,_⟩:=I.sqB q2
  obtain ⟨u1,e1,v1⟩:=r1.get hx
  obtain ⟨u2,e2,v2⟩:=r2.get hy
  have hT:s.TypeIs (.ref z) "zip" := ⟨_,hz,rfl⟩
  have fresh:H s.heap.objs.size = none:=I.hok.fresh (Nat.le_refl _)
  unfold pyNext
  refine wpAny_bind (wpAny_attempt (wpAny_callSpecial?_slot (name:=Str.ofString "__next__") hT F.slot_zip_next (wpAny_call_entry F.slot_zip_next hT F.entry_zip_next (zSt D hz hI hO h1 h2 p1 p2 (by simpa using e1) (by simpa using e2) fun h' z1 o1 j1 j2 t1 kp=>wpAny_pure ?_) (F.args_zip_next_1 _))))
  refine ⟨_,rfl,wpAny_letOwnedTupleGo_zip z1 fun h2' z2 sb=>?_⟩
  have kp2:∀ c o,c ∉ [z,TO,i1,i2]→s.heap.get? c = some o→h2'.get? c = some o:=fun c o hc e=>by
   simp only [List.mem_cons,List.not_mem_nil,or_false,not_or] at hc
   exact sb.extBut c o hc.1 (kp c o hc.1 hc.2.1 hc.2.2.1 hc.2.2.2 e)
  have nH:∀ c∈[z,TO,i1,i2],c∈[z,TI,TO,i1,i2]:=fun c hc=>by
   simp only [List.mem_cons,List.not_mem_nil,or_false] at hc ⊢
   rcases hc with e | e | e | e <;> simp [e]
  have neT:∀ b o,s.heap.get? b = some o→b≠s.heap.objs.size:=fun b o e=>Nat.ne_of_lt (Heap.lt_size e)
  have neH:∀ b o,H b = some o→b ∉ [z,TO,i1,i2]:=fun b o e hb=>by
   rw [(hf b (nH b hb)).1] at e
   cases e
  have upn:∀ b o,H b = some o→upd H s.heap.objs.size (.tup [x,y]) b = some o:=fun b o e=>by
   rw [zA5 (zCk e fresh)]
   exact e
  refine ⟨.ref s.heap.objs.size,upd H s.heap.objs.size (.tup [x,y]),?_,rfl,⟨_,x,y,rfl,fresh,rfl,fun zs hz'=>by rw [I.sqB_inj hz' q1]; exact hx,fun zs hz'=>by rw [I.sqB_inj hz' q2]; exact hy⟩,?_,fun b hb=>?_⟩
  ·refine Inv.step (s:=s) (h':=h2') (g':=s.gens) (d':=s.drawn) (t':=s.toks) (ch:=[z,TO,i1,i2]) I (fun b hb=>?_) (fun b o _ _ hc e _=>kp2 b o hc e) (fun b o _ _ hc e _=>⟨o.slots,kp2 b o hc e⟩) (fun b o _ e n=>?_) (fun b o hc e=>⟨o,kp2 b o hc e⟩)
    (fun b zs e=>upn b _ e) (fun b o zs e=>upn b _ e) (fun b ps e=>⟨#[],by rw [upn b _ e]; simp⟩) (fun m hm=>?_) (fun b o e=>?_) I.bare
   ·obtain ⟨_,f1,_,f3,f4,f5⟩:=hf b (nH b hb)
    exact ⟨f3,f1,f4,f5⟩
   ·rw [zA5 (neT b o e)]
    exact n
   ·obtain ⟨o,es,ep,ho,r⟩:=hm
    refine ⟨o,es,ep,kp2 _ o (fun hb=>?_) ho,r⟩
    exact (hf _ (nH _ hb)).2.1 rfl
   ·by_cases hb:b = s.heap.objs.size
    ·subst hb
     rw [zAc] at e
     cases e
     exact ⟨by show 2≤sizeLine; decide,[u1,u2],.cons v1 (.cons v2 .nil),_,sb.extBut _ _ (Nat.ne_of_gt (Heap.lt_size hz)) t1,rfl,_,rfl⟩
    ·rw [zA5 hb] at e
     refine (I.hok b o e).stay (fun c u hc q=>kp2 c u ?_ q) (fun c q=>upn c _ q) fun c zs q=>upn c _ q
     rcases hc with hc | hc
     ·rw [hc]; exact neH b o e
     ·exact neH c _ hc
  ·exact ⟨z2,sb.extBut _ _ D.TIz (kp _ _ D.TIz D.TITO D.TIi1 D.TIi2 hI),⟨_,_,sb.extBut _ _ D.TOz o1⟩,j1.at fun o e=>sb.extBut _ o D.i1z e,j2.at fun o e=>sb.extBut _ o D.i2z e⟩
  ·obtain ⟨o,e,_⟩:∃ o,s.heap.get? b = some o∧True:=by
    obtain ⟨o1,g1,_⟩:=h1.obj
    obtain ⟨o2,g2,_⟩:=h2.obj
    simp only [List.mem_cons,List.not_mem_nil,or_false] at hb
    rcases hb with rfl | rfl | rfl | rfl | rfl
    ·exact ⟨_,hz,trivial⟩
    ·exact ⟨_,hI,trivial⟩
    ·exact ⟨_,hO,trivial⟩
    ·exact ⟨_,g1,trivial⟩
    ·exact ⟨_,g2,trivial⟩
   rw [zA5 (neT b o e)]
   exact (hf b hb).1
 done:=by
  intro X hP hw hK hc k pins s σ H E I hf st hg
  subst hP hw hK
  obtain ⟨hz,hI,⟨a',b',hO⟩,h1,h2⟩:=st
  obtain ⟨xs,ys,q1,q2,hend⟩:=hg
  obtain ⟨its1,r1,p1,_⟩:=I.sqB q1
  obtain ⟨its2,r2,p2,_⟩:=I.sqB q2
  have hT:s.TypeIs (.ref z) "zip" := ⟨_,hz,rfl⟩
  have hend':its1.toArray[k]? = none∨its2.toArray[k]? = none:=by
   have l1':=r1.length
   have l2':=r2.length
   rcases hend with h | h
   ·exact .inl (Array.getElem?_eq_none (by rw [List.size_toArray]; omega))
   ·exact .inr (Array.getElem?_eq_none (by rw [List.size_toArray]; omega))
  have nH:∀ c∈[z,TO,i1,i2],c∈[z,TI,TO,i1,i2]:=fun c hc=>by
   simp only [List.mem_cons,List.not_mem_nil,or_false] at hc ⊢
   rcases hc with e | e | e | e <;> simp [e]
  have neH:∀ b o,H b = some o→b ∉ [z,TO,i1,i2]:=fun b o e hb=>by
   rw [(hf b (nH b hb)).1] at e
   cases e
  unfold pyNext
  refine wpAny_bind (wpAny_attempt (wpAny_callSpecial?_slot (name:=Str.ofString "__next__") hT F.slot_zip_next (wpAny_call_entry F.slot_zip_next hT F.entry_zip_next (zTy (I.ok.hd hc) D hz hI hO h1 h2 p1 p2 hend' fun h' e kp he=>?_) (F.args_zip_next_1 _))))
  obtain ⟨oe,hoe,hce⟩:=he
  refine wpAny_bind (wpAny_isInstance (T := "StopIteration") (b:=true) ⟨oe,hoe,hce⟩ isSubtype_stop (wpAny_pure ⟨rfl,?_⟩))
  have kp2:∀ c o,c ∉ [z,TO,i1,i2]→s.heap.get? c = some o→h'.get? c = some o:=fun c o hc e=>by
   simp only [List.mem_cons,List.not_mem_nil,or_false,not_or] at hc
   exact kp c o hc.1 hc.2.1 hc.2.2.1 hc.2.2.2 e
  refine I.step (g':=s.gens) (d':=s.drawn) (t':=s.toks) (ch:=[z,TO,i1,i2]) (fun b hb=>?_) (fun b o _ _ hc e _=>kp2 b o hc e) (fun b o _ _ hc e _=>⟨o.slots,kp2 b o hc e⟩) (fun b o _ e n=>n) (fun b o hc e=>⟨o,kp2 b o hc e⟩)
   (fun b zs e=>e) (fun b o zs e=>e) (fun b ps e=>⟨#[],by rw [e]; simp⟩) (fun m hm=>?_) (fun b o e=>?_) I.bare
  ·obtain ⟨_,f1,_,f3,f4,f5⟩:=hf b (nH b hb)
   exact ⟨f3,f1,f4,f5⟩
  ·obtain ⟨o,es,ep,ho,r⟩:=hm
   refine ⟨o,es,ep,kp2 _ o (fun hb=>?_) ho,r⟩
   exact (hf _ (nH _ hb)).2.1 rfl
  ·refine (I.hok b o e).stay (fun c u hc q=>kp2 c u ?_ q) (fun c q=>q) fun c zs q=>q
   rcases hc with hc | hc
   ·rw [hc]; exact neH b o e
   ·exact neH c _ hc
 self:=fun _ _ _ _ _ st h=>wpAny_pyIter_zip st.1 h
section
variable {X:Cx}
def iZip (K:PySem.W.Frag) (ta:TA):TI:=fun σ H R=>ta σ H fun vs H1=>∃ (b1 b2:Bool) (l1 l2:Addr) (xs ys:List V),vs = [.ref l1,.ref l2]∧SqB b1 K H1 l1 xs∧SqB b2 K H1 l2 ys∧R (Itz K b1 b2 l1 l2) H1
theorem zU7 {elts:List Expr} {kt:Nat} {pt:Pos} {a b:Expr} {ta:TA} {p pos:Pos} (hg:Gl X "zip") (hm:X.mg "zip" = none) (ha:PA X [a,b] ta) (hs:starEach [a,b] X.env = [(false,eval a X.env),(false,eval b X.env)]:=by rfl) (hs2:starEach [b] X.env = [(false,eval b X.env)]:=by rfl) :
  PI X (.Tuple elts kt pt) (.Call (.Name "zip" p) [a,b] [] pos) (iZip X.K ta):=by
 intro pins s σ H R I h
 refine Call_ (zLq I hg hm bt_zip (PyProof.Rows.callWith_type1 (thn (ha pos pins s σ H _ I h) fun us s1 ⟨vs,H1,I1,r1,q1⟩=>?_) (by rw [hs,hs2]) (by rw [hs2]; rfl)))
 obtain ⟨b1,b2,l1,l2,xs,ys,e,g1,g2,q⟩:=q1
 subst e
 obtain ⟨u1,u2,rfl,v1,v2⟩:=Vals.two r1
 cases v1
 cases v2
 obtain ⟨its1,_,p1,_⟩:=I1.sqB g1
 obtain ⟨its2,_,p2,_⟩:=I1.sqB g2
 have a1:l1 < s1.heap.objs.size:=by
  obtain ⟨o,e,_⟩:=p1.obj
  exact Heap.lt_size e
 have a2:l2 < s1.heap.objs.size:=by
  obtain ⟨o,e,_⟩:=p2.obj
  exact Heap.lt_size e
 refine zR6 p1 p2 fun h' hz hI hO j1 j2 kp=>?_
 refine wpAny_pyIter_zip hz ?_
 refine ⟨_,_,_,_,H1,rfl,I1.kept (t':=s1.toks) kp,zTq (zipApart_new a1 a2),⟨hz,hI,⟨_,_,hO⟩,j1,j2⟩,fun b hb=>?_,q⟩
 have hge:s1.heap.objs.size≤b:=by
  simp only [List.mem_cons,List.not_mem_nil,or_false] at hb
  rcases hb with rfl | rfl | rfl | rfl | rfl <;> omega
 exact I1.fpOk hge (I1.hok.fresh hge)
end
section
variable {K:PySem.W.Frag} {b1 b2:Bool} {l1 l2 D:Addr} {xs ys:List V} {g:TG} {tt:TT} {te:TE} {σ0:St} {H1:Hp} {Q:VK}
theorem zT4 (Pv:Nat→St→List V→Hp→Prop) (h0:Pv 0 σ0 [] (upd H1 D (.lst []))) (hl:∀ i σ zs H,Pv i σ zs H→SqB b1 K H l1 xs∧SqB b2 K H l2 ys∧H D = some (.lst zs))
  (hs:∀ i x y T σ zs H,xs[i]? = some x→ys[i]? = some y→H T = none→Pv i σ zs H→g (.ref T) σ (upd H T (.tup [x,y])) fun σ2 H2=>tt σ2 H2 fun b H3 =>
   if b = true then te σ2 H3 fun z H4=>H4 D = some (.lst zs)∧zs.length < sizeLine∧Pv (i + 1) σ2 (zs ++ [z]) (upd H4 D (.lst (zs ++ [z]))) else Pv (i + 1) σ2 zs H3)
  (hd:∀ σ zs H,Pv (min xs.length ys.length) σ zs H→Q (.ref D) H):zKv (Itz K b1 b2 l1 l2) D g tt te σ0 H1 Q:=by
 refine ⟨fun i m σ zs H=>m = min xs.length ys.length - i∧i≤min xs.length ys.length∧Pv i σ zs H,⟨_,rfl,Nat.zero_le _,h0⟩,?_⟩
 rintro i m σ zs H ⟨rfl,hi,p⟩
 obtain ⟨q1,q2,qd⟩:=hl i σ zs H p
 refine ⟨qd,?_⟩
 by_cases hlt:i < min xs.length ys.length
 ·have c1:i < xs.length:=by omega
  have c2:i < ys.length:=by omega
  refine .inr ⟨⟨xs,ys,xs[i],ys[i],q1,q2,by simp [c1],by simp [c2]⟩,Pv (i + 1),fun σ' zs' H' z=>⟨min xs.length ys.length - (i + 1),by omega,rfl,hlt,z⟩,fun v H' y=>?_⟩
  obtain ⟨T,x,y,rfl,hT,rfl,y1,y2⟩:=y
  exact hs i x y T σ zs H (y1 xs q1) (y2 ys q2) hT p
 ·have e:i = min xs.length ys.length:=by omega
  subst e
  exact .inl ⟨⟨xs,ys,q1,q2,by omega⟩,hd σ zs H p⟩
theorem zR1 (Pv:Nat→St→List V→Hp→Prop) (h0:Pv 0 σ0 [] (upd H1 D (.lst []))) (hl:∀ i σ zs H,Pv i σ zs H→SqB b1 K H l1 xs∧SqB b2 K H l2 ys∧H D = some (.lst zs))
  (hs:∀ i x y T σ zs H,xs[i]? = some x→ys[i]? = some y→H T = none→Pv i σ zs H→g (.ref T) σ (upd H T (.tup [x,y])) fun σ2 H2=>te σ2 H2 fun z H4=>H4 D = some (.lst zs)∧zs.length < sizeLine∧Pv (i + 1) σ2 (zs ++ [z]) (upd H4 D (.lst (zs ++ [z]))))
  (hd:∀ σ zs H,Pv (min xs.length ys.length) σ zs H→Q (.ref D) H):zKv (Itz K b1 b2 l1 l2) D g tYes te σ0 H1 Q:=zT4 Pv h0 hl (fun i x y T σ zs H e1 e2 e3 p=>hs i x y T σ zs H e1 e2 e3 p) hd
theorem zV0 {tb:TS} {E:Ends} {σ:St} {H:Hp} (Pv:Nat→St→Hp→Prop) (h0:Pv 0 σ H) (hl:∀ i σ H,Pv i σ H→SqB b1 K H l1 xs∧SqB b2 K H l2 ys)
  (hs:∀ i x y T σ H,xs[i]? = some x→ys[i]? = some y→H T = none→Pv i σ H→g (.ref T) σ (upd H T (.tup [x,y])) fun σ2 H2=>tb { E with nx:=Pv (i + 1),ct:=Pv (i + 1),bk:=E.nx } σ2 H2) (hd:∀ σ H,Pv (min xs.length ys.length) σ H→E.nx σ H) :
  ∃ W:Nat→Nat→St→Hp→Prop,(∃ m,W 0 m σ H)∧∀ i m σ H,W i m σ H →
   ((Itz K b1 b2 l1 l2).stop i H∧E.nx σ H)∨((Itz K b1 b2 l1 l2).go i H∧∃ N:St→Hp→Prop,(∀ σ' H',N σ' H'→∃ m',m' < m∧W (i + 1) m' σ' H')∧∀ x H',(Itz K b1 b2 l1 l2).yld i H x H'→g x σ H' fun σ2 H2=>tb { E with nx:=N,ct:=N,bk:=E.nx } σ2 H2):=by
 refine ⟨fun i m σ H=>m = min xs.length ys.length - i∧i≤min xs.length ys.length∧Pv i σ H,⟨_,rfl,Nat.zero_le _,h0⟩,?_⟩
 rintro i m σ H ⟨rfl,hi,p⟩
 obtain ⟨q1,q2⟩:=hl i σ H p
 by_cases hlt:i < min xs.length ys.length
 ·have c1:i < xs.length:=by omega
  have c2:i < ys.length:=by omega
  refine .inr ⟨⟨xs,ys,xs[i],ys[i],q1,q2,by simp [c1],by simp [c2]⟩,Pv (i + 1),fun σ' H' z=>⟨min xs.length ys.length - (i + 1),by omega,rfl,hlt,z⟩,fun v H' y=>?_⟩
  obtain ⟨T,x,y,rfl,hT,rfl,y1,y2⟩:=y
  exact hs i x y T σ H (y1 xs q1) (y2 ys q2) hT p
 ·have e:i = min xs.length ys.length:=by omega
  subst e
  exact .inl ⟨⟨xs,ys,q1,q2,by omega⟩,hd σ H p⟩
end
end L2

namespace L2
open PySem PySem.Spec PyProof.Rows
theorem ifD {p A B:Prop} [Decidable p] (h1:p→A) (h2:¬ p→B):if decide p = true then A else B:=by
 by_cases h:p
 ·rw [if_pos (decide_eq_true h)]; exact h1 h
 ·rw [if_neg (by rw [decide_eq_false h]; exact Bool.false_ne_true)]; exact h2 h
theorem ifN {p A B:Prop} [Decidable p] (h1:¬ p→A) (h2:p→B):if (!decide p) = true then A else B:=by
 by_cases h:p
 ·rw [if_neg (by rw [decide_eq_true h]; exact Bool.false_ne_true)]; exact h2 h
 ·rw [if_pos (by rw [decide_eq_false h]; rfl)]; exact h1 h
theorem ifE {x y:Int} {A B:Prop} (h1:x = y→A) (h2:x≠y→B):if decide (V.int x = V.int y) = true then A else B :=
 ifD (fun h=>h1 (V.int.inj h)) fun h=>h2 fun e=>h (congrArg V.int e)
theorem ifNe {x y:Int} {A B:Prop} (h1:x≠y→A) (h2:x = y→B):if (!decide (V.int x = V.int y)) = true then A else B :=
 ifN (fun h=>h1 fun e=>h (congrArg V.int e)) fun h=>h2 (V.int.inj h)
theorem decI {x y:Int} (h:x = y):decide (V.int x = V.int y) = true:=decide_eq_true (congrArg V.int h)
theorem zAe {H:Hp} {p:Addr} (h:H p = none) (o:HO):Same H (upd H p o):=fun b u q=>by rw [zA5 (zCk q h)]; exact q
theorem Sq.same {K:PySem.W.Frag} {H H':Hp} {a:Addr} {xs:List V} (h:Sq K H a xs) (e:Same H H'):Sq K H' a xs:=by
 rcases h with h | h
 ·exact .inl (e.seq h)
 ·refine .inr ?_
  rcases h with h | h
  ·rcases h with h | ⟨o,h⟩
   ·exact .inl (.inl (e _ _ h))
   ·exact .inl (.inr ⟨o,e _ _ h⟩)
  ·exact .inr h
theorem zC2 {ns:List Int} {i:Nat} {x:V} (h:(ns.map V.int)[i]? = some x):∃ n,ns[i]? = some n∧x = .int n:=by
 rw [List.getElem?_map] at h
 cases e:ns[i]? with
 | none=>rw [e] at h; cases h
 | some n=>rw [e] at h; exact ⟨n,rfl,(Option.some.inj h).symm⟩
theorem zB1 {α:Type} {l:List α} {i:Nat} {x:α} (h:l[i]? = some x):l.take (i + 1) = l.take i ++ [x]:=by
 rw [List.take_succ,h]; rfl
theorem small {n:Nat} (h:n≤1000):n≤sizeLine:=Nat.le_of_lt (zA3 h)
end L2
namespace L2
open PySem PySem.Spec PyProof.Rows
theorem SqT.same {K:PySem.W.Frag} {H H':Hp} {a:Addr} {xs:List V} (h:SqT K H a xs) (e:Same H H'):SqT K H' a xs:=by
 rcases h with h | h
 ·rcases h with h | ⟨o,h⟩
  ·exact .inl (.inl (e _ _ h))
  ·exact .inl (.inr ⟨o,e _ _ h⟩)
 ·exact .inr h
theorem zOn (K:PySem.W.Frag):PySem.W.kitOne K (.type "int") (.type "int") = some true:=rfl
theorem zMs (K:PySem.W.Frag):PySem.W.kitOne K (.type "int") (.type "bool") = some false:=rfl
theorem zB8 (K:PySem.W.Frag):PySem.W.kitOne K (.type "tuple") (.type "tuple") = some true:=rfl
end L2
namespace L2
open PySem PySem.Spec PyProof.Rows
def zTm (t:TT):Prop:=∀ (σ:St) (H:Hp) (Q Q':Bool→Hp→Prop),(∀ b H1,Q b H1→Q' b H1)→t σ H Q→t σ H Q'
def zMl (t:TE):Prop:=∀ (σ:St) (H:Hp) (Q Q':VK),(∀ b H1,Q b H1→Q' b H1)→t σ H Q→t σ H Q'
def zTk (t:TA):Prop:=∀ (σ:St) (H:Hp) (Q Q':List V→Hp→Prop),(∀ b H1,Q b H1→Q' b H1)→t σ H Q→t σ H Q'
def MonoR (r:R2):Prop:=∀ (x y:V) (H:Hp) (Q Q':VK),(∀ b H1,Q b H1→Q' b H1)→r x y H Q→r x y H Q'
def MonoC (r:List V→Hp→VK→Prop):Prop:=∀ (xs:List V) (H:Hp) (Q Q':VK),(∀ b H1,Q b H1→Q' b H1)→r xs H Q→r xs H Q'
theorem zIy {i:Nat} : zMl (tVar i):=fun _ _ _ _ hq ⟨v,e,z⟩=>⟨v,e,hq _ _ z⟩
theorem mo_c {v:V} : zMl (tC v):=fun _ _ _ _ hq z=>hq _ _ z
theorem zQx {r:R2} {ta tb:TE} (hr:MonoR r) (ha:zMl ta) (hb:zMl tb):zMl (tOp r ta tb):=fun σ _ _ _ hq z=>ha σ _ _ _ (fun _ _ z=>hb σ _ _ _ (fun _ _ z=>hr _ _ _ _ _ hq z) z) z
theorem zS2 {g:Int→Int→V} : MonoR (rI0 g):=fun _ _ _ _ _ hq ⟨i,j,e1,e2,z⟩=>⟨i,j,e1,e2,hq _ _ z⟩
theorem zKh {t:TE} (h:zMl t):zTm (zSp t):=fun σ _ _ _ hq z=>h σ _ _ _ (fun _ _ ⟨k,e,z⟩=>⟨k,e,hq _ _ z⟩) z
theorem zVb {t u:TT} (h:zTm t) (h':zTm u):zTm (tAnd t u):=fun σ _ _ _ hq z=>h σ _ _ _ (fun b _ z=>by
 cases b with
 | true=>exact h' σ _ _ _ hq z
 | false=>exact hq _ _ z) z
theorem zR2:zTk tNil:=fun _ _ _ _ hq z=>hq _ _ z
theorem zN8 {te:TE} {ta:TA} (h:zMl te) (h':zTk ta):zTk (zF3 te ta):=fun σ _ _ _ hq z=>h σ _ _ _ (fun _ _ z=>h' σ _ _ _ (fun _ _ z=>hq _ _ z) z) z
theorem zVg {r:List V→Hp→VK→Prop} {t:TA} (hr:MonoC r) (h:zTk t):zMl (tCB r t):=fun σ _ _ _ hq z=>h σ _ _ _ (fun _ _ z=>hr _ _ _ _ hq z) z
theorem zRu {K:PySem.W.Frag} : MonoC (fun xs H Q=>∃ p ys,xs = [.ref p]∧(SqL K H p ys∨SqT K H p ys)∧Q (.int ys.length) H):=fun _ _ _ _ hq ⟨p,ys,e,s,z⟩=>⟨p,ys,e,s,hq _ _ z⟩
theorem zKl (ns:List Int) (lo hi:Option Int):cutV (ns.map V.int) lo hi = ((ns.drop (HT.sIx ns.length 0 lo)).take (HT.sIx ns.length ns.length hi - HT.sIx ns.length 0 lo)).map V.int:=by
 unfold cutV
 rw [List.length_map,List.map_take,List.map_drop]
end L2
namespace L2
open PySem PySem.Spec PyProof.Rows
end L2

namespace L2
open PySem PySem.Spec PyProof.Rows
theorem zU8 {A:Around} {s:Shared} {xs ys:List Int} {us ws:List Value} (r1:Vals (xs.map V.int) us) (r2:Vals (ys.map V.int) ws):∀ j (h1:j < us.toArray.size) (h2:j < ws.toArray.size),
  SeqAt.EqAt A s us.toArray[j] ws.toArray[j] (decide (xs[j]? = ys[j]?)):=fun j h1 h2=>by
 have l1:=r1.length
 have l2:=r2.length
 rw [List.length_map] at l1 l2
 have g1:j < us.length:=by simpa using h1
 have g2:j < ws.length:=by simpa using h2
 have k1:j < xs.length:=by omega
 have k2:j < ys.length:=by omega
 obtain ⟨u,hu,t,ru⟩:=r1.get (i:=j) (x:=.int xs[j]) (by rw [List.getElem?_map,List.getElem?_eq_getElem k1]; rfl)
 obtain ⟨w,hw,t',rw'⟩:=r2.get (i:=j) (x:=.int ys[j]) (by rw [List.getElem?_map,List.getElem?_eq_getElem k2]; rfl)
 have e1:us.toArray[j] = .int xs[j] t:=by
  have z:=List.getElem?_eq_getElem g1
  rw [hu] at z
  rw [List.getElem_toArray,← Option.some.inj z,ru]
 have e2:ws.toArray[j] = .int ys[j] t':=by
  have z:=List.getElem?_eq_getElem g2
  rw [hw] at z
  rw [List.getElem_toArray,← Option.some.inj z,rw']
 rw [e1,e2]
 have e3:decide (xs[j]? = ys[j]?) = (xs[j] == ys[j]):=by
  rw [List.getElem?_eq_getElem k1,List.getElem?_eq_getElem k2]
  by_cases h:xs[j] = ys[j]
  ·rw [h]; simp
  ·rw [decide_eq_false (fun z=>h (Option.some.inj z))]
   exact (beq_eq_false_iff_ne.mpr h).symm
 rw [e3]
 exact SeqAt.EqAt.int_int _ _ _ _
theorem zTd {xs ys:List Int} : ((List.range (min xs.length ys.length)).all (fun j=>decide (xs[j]? = ys[j]?)) && xs.length == ys.length) = decide (xs = ys):=by
 by_cases h:xs = ys
 ·subst h
  rw [decide_eq_true rfl,Bool.and_eq_true]
  exact ⟨List.all_eq_true.mpr fun j _=>decide_eq_true rfl,by simp⟩
 ·rw [decide_eq_false h,Bool.and_eq_false_iff]
  by_cases hl:xs.length = ys.length
  ·left
   rw [Bool.eq_false_iff]
   intro z
   apply h
   rw [List.all_eq_true] at z
   refine List.ext_getElem? fun j=>?_
   by_cases hj:j < xs.length
   ·exact of_decide_eq_true (z j (List.mem_range.mpr (by omega)))
   ·rw [List.getElem?_eq_none (by omega),List.getElem?_eq_none (by omega)]
  ·right
   exact beq_eq_false_iff_ne.mpr hl
section
variable {X:Cx}
def rEqT (K:PySem.W.Frag) (neg:Bool):R2:=fun x y H Q=>∃ (a b:Addr) (xs ys:List Int),x = .ref a∧y = .ref b∧SqT K H a (xs.map V.int)∧SqT K H b (ys.map V.int)∧Q (.bl (if neg then !decide (xs = ys) else decide (xs = ys))) H
theorem zUz (hu:X.A.units < cLine):OpR X (compareOp .Eq) (rEqT X.K false):=by
 intro pins s σ H x y v u Q I rx ry h
 obtain ⟨a,b,xs,ys,rfl,rfl,h1,h2,q⟩:=h
 cases rx
 cases ry
 obtain ⟨us,r1,p1,_⟩:=I.tuple h1
 obtain ⟨ws,r2,p2,_⟩:=I.tuple h2
 refine SeqAt.eq_tupleAt (e:=fun j=>decide (xs[j]? = ys[j]?)) (show s.heap.IsTuple a us.toArray from p1) (show s.heap.IsTuple b ws.toArray from p2) hu (zU8 r1 r2) ?_
 have l1:=r1.length
 have l2:=r2.length
 rw [List.length_map] at l1 l2
 rw [List.size_toArray,List.size_toArray,← l1,← l2,zTd]
 exact ⟨.bl (decide (xs = ys)),H,I,rfl,q⟩
theorem op_neT (hu:X.A.units < cLine):OpR X (compareOp .NotEq) (rEqT X.K true):=by
 intro pins s σ H x y v u Q I rx ry h
 obtain ⟨a,b,xs,ys,rfl,rfl,h1,h2,q⟩:=h
 cases rx
 cases ry
 obtain ⟨us,r1,p1,_⟩:=I.tuple h1
 obtain ⟨ws,r2,p2,_⟩:=I.tuple h2
 refine SeqAt.RcNeAt.tuples (e:=fun j=>decide (xs[j]? = ys[j]?)) (show s.heap.IsTuple a us.toArray from p1) (show s.heap.IsTuple b ws.toArray from p2) hu (zU8 r1 r2) X.prog X.w _ _ ?_
 have l1:=r1.length
 have l2:=r2.length
 rw [List.length_map] at l1 l2
 rw [List.size_toArray,List.size_toArray,← l1,← l2,zTd]
 exact ⟨.bl (!decide (xs = ys)),H,I,rfl,q⟩
end
end L2
namespace L2
open PySem
theorem zCb {rows:List Int} {P:Int→Prop} (bd:∀ x∈rows,P x) {k:Int} (k0:0≤k) (k1:k < rows.length):∃ v:Int,atI (rows.map V.int) k = some (.int v)∧P v:=by
 have hk:k.toNat < rows.length:=by omega
 refine ⟨rows[k.toNat],?_,bd _ (List.getElem_mem hk)⟩
 have q:atI (rows.map V.int) ((k.toNat:Nat):Int) = some (.int rows[k.toNat]):=zKy (by rw [List.getElem?_map,List.getElem?_eq_getElem hk] <;> rfl)
 rw [show ((k.toNat:Nat):Int) = k from by omega] at q
 exact q
end L2
namespace L2
end L2

namespace L2
open PySem PySem.Spec PyProof.Rows
section
variable {X:Cx} {T:List Str} {caps:List (Str × Nat)} {scope:Scope} {elt target iter:Expr} {ifs:List Expr} {pos cpos:Pos} {wi:TI} {g:CC→TG} {tt:CC→TT} {te:CC→TE}
theorem zTo (S:zFh X caps scope) (hc:X.calm = true) (hi:PI X target iter wi) (hg:∀ c,PG (zC6 X (T ++ caps.map (·.1)) scope c) target (g c)) (ht:∀ c,PIfs (zC6 X (T ++ caps.map (·.1)) scope c) ifs (tt c)) (he:∀ c,PE (zC6 X (T ++ caps.map (·.1)) scope c) elt (te c))
  {use:Option (Value→Sem Unit)} {Qv:Value→Shared→Prop} {pins:List (Addr × Obj)} {s:Shared} {σ:St} {H:Hp} {Q:VK} (I:Inv X pins σ H s) (h:zWe T.length caps wi g tt te σ H Q)
  (hfin:∀ (D C:Addr) (s4:Shared) (H3:Hp),Inv X pins σ H3 s4→Q (.ref D) H3→∀ m,s4.heap.Ns C m→H3 C = none→C≠X.env.locals→X.s₀.heap.objs.size≤C→(∀ x c,X.env.cells.lookup x = some c→c≠C)→(∀ p∈X.pn ++ pins,p.1≠C)→compPost (model X.prog X.w) X.A X.xe use Qv (.ref D) C (.ok .next) s4)
  (hs:∀ x,foldedSetIterable iter X.env x = pure x:=by intro _; rfl) :
  wpAny (model X.prog X.w) X.A (comprehension (.ListComp elt [⟨target,iter,ifs,0⟩] scope pos) scope X.env cpos (newList []) false (eval iter X.env) use) Qv X.xe s:=by
 refine wpAny_comprehension_free (use:=use) rfl hs (zR7 S.cells) S.kind S.loc (thn (hi pins s σ H _ I h) fun v s1 h1=>thn h1 fun itv s2 h2=>?_)
 obtain ⟨it,fp,tn,J,H2,e,I2,TT,st2,f2,q2⟩:=h2
 subst e
 refine wpAny_newObj_type (wpAny_newFunctionEnv S.nocell (by intro y hy; simp at hy) (fun h1 hn hsb=>?_) S.kind)
 dsimp only at hn hsb ⊢
 generalize hg2:s2.heap.push { cls:=.type "list", dict:=none,data:=.seq ([]:List Value).toArray } = G at hn hsb ⊢
 have hCv:G.objs.size = s2.heap.objs.size + 1:=by rw [← hg2,Heap.size_push]
 have hDC:G.objs.size≠s2.heap.objs.size:=by rw [hCv]; exact Nat.succ_ne_self _
 have hCle:s2.heap.objs.size≤G.objs.size:=by rw [hCv]; exact Nat.le_succ _
 have old:∀ b o,s2.heap.get? b = some o→h1.get? b = some o:=fun b o e=>hsb.extBut b o (Nat.ne_of_lt (Nat.lt_of_lt_of_le (Heap.lt_size e) hCle)) (Heap.get?_push_of_some _ (hg2 ▸ Heap.get?_push_of_some _ e))
 have hacc:∃ n,h1.get? s2.heap.objs.size = some { cls:=.type "list", data:=.seq ([]:List Value).toArray n }:=⟨_,hsb.extBut _ _ (Ne.symm hDC) (Heap.get?_push_of_some _ (hg2 ▸ Heap.get?_push_size _ rfl))⟩
 have hfp:∀ b∈fp,b < s2.heap.objs.size:=fun b hb=>by
  obtain ⟨o,e,_⟩:=TT.obj _ _ st2 b hb
  exact Heap.lt_size e
 have cs:=zFw (env:=X.env) scope.names [] S.cells (fun _ _ z=>by cases z)
 have I0:=zLp (T:=T) (tk:=s2.toks + ([]:List (Str × Value)).length) S I2 f2 hfp (Nat.le_refl _) hCle hDC old hacc hn
 have st0:tn 0 h1:=TT.keep _ _ _ st2 fun b _ o e=>old b o e
 obtain ⟨W,⟨m0,w0⟩,turn⟩:=q2 ⟨G.objs.size,s2,H2,fp⟩ s2.heap.objs.size (I2.hok.fresh (Nat.le_refl _))
 have fr0:∀ b∈fp,upd H2 s2.heap.objs.size (.lst []) b = none:=fun b hb=>by
  rw [zA5 (Nat.ne_of_lt (hfp b hb))]
  exact (f2 b hb).1
 have stat:∀ {H':Hp},(∀ b∈fp,H' b = none)→∀ b∈fp,FpOk (zC6 X (T ++ caps.map (·.1)) scope ⟨G.objs.size,s2,H2,fp⟩) [] H' b:=fun {H'} hn' b hb =>
  ⟨hn' b hb,Nat.ne_of_lt (Nat.lt_of_lt_of_le (hfp b hb) hCle),I0.ok.exfs b hb,.inl hb,fun x c e=>(f2 b hb).2.2.2.2.1 x c (cs x c e),fun p hp=>absurd (show p∈([]:List (Addr × Obj)) from hp) (by simp)⟩
 have loop:codeAny (model X.prog X.w) X.A (.compLoop (.ListComp elt [⟨target,iter,ifs,0⟩] scope pos) 0 (.ref it) (.ref s2.heap.objs.size) (compEnvC scope (zH0 X.env scope.names []) G.objs.size X.env))
   (compPost (model X.prog X.w) X.A X.xe use Qv (.ref s2.heap.objs.size) G.objs.size) { s2 with heap:=h1,toks:=s2.toks + ([]:List (Str × Value)).length }:=by
  refine codeAny_loop rfl (fun n s'=>∃ i σ' ys H',Inv (zC6 X (T ++ caps.map (·.1)) scope ⟨G.objs.size,s2,H2,fp⟩) [] σ' H' s'∧tn i s'.heap∧(∀ b∈fp,H' b = none)∧W i n σ' ys H') (fun n s3 hI=>?_) m0 ⟨0,_,[],_,I0,st0,fr0,w0⟩
  obtain ⟨i,σ3,ys,H3,I3,st3,fr3,w3⟩:=hI
  show wpAny _ X.A ((compTurn (.ListComp elt [⟨target,iter,ifs,0⟩] scope pos) 0 (.ref it) (.ref s2.heap.objs.size) (compEnvC scope (zH0 X.env scope.names []) G.objs.size X.env)).onRaise (fun x=>do noteFrame x (compEnvC scope (zH0 X.env scope.names []) G.objs.size X.env); theTreesLotGoes x)) _ _ s3
  refine wpAny_noted ?_
  rw [compTurn_list]
  refine wpAny_bind (wpAny_standAt (wpAny_bind ?_))
  obtain ⟨hD3,turn3⟩:=turn i n σ3 ys H3 w3
  rcases turn3 with ⟨stop,qn⟩ | ⟨go,N,hN,step⟩
  ·refine thnF (TT.done (zC6 X (T ++ caps.map (·.1)) scope ⟨G.objs.size,s2,H2,fp⟩) rfl rfl rfl hc i [] s3 σ3 H3 _ I3 (stat fr3) st3 stop) fun r s4 ⟨hr,I4⟩=>?_
   subst hr
   refine wpAny_pure ?_
   obtain ⟨m4,hn4,_⟩:=I4.loc
   have J4:Inv X pins σ H3 s4:=by
    refine I2.call' (s':=s4) (ch:=fp) I4.os I4.base I4.hok I4.bare fun b hb=>?_
    obtain ⟨_,f1,_,f3,f4,f5⟩:=f2 b hb
    exact ⟨f3,f1,f4,f5⟩
   refine hfin _ G.objs.size s4 H3 J4 qn m4 hn4 I4.free (Nat.ne_of_gt (Nat.lt_of_lt_of_le I2.lt hCle)) (Nat.le_trans I2.sz hCle) (fun x c e z=>?_) (fun p hp z=>?_)
   ·obtain ⟨v,qq⟩:=I2.cell x c e
    exact absurd (Nat.lt_of_lt_of_le qq.lt (by rw [z]; exact hCle)) (Nat.lt_irrefl _)
   ·exact absurd (Nat.lt_of_lt_of_le (Heap.lt_size (I2.pin p hp).1) (by rw [z]; exact hCle)) (Nat.lt_irrefl _)
  ·refine thnF (TT.item (zC6 X (T ++ caps.map (·.1)) scope ⟨G.objs.size,s2,H2,fp⟩) rfl rfl rfl hc i [] s3 σ3 H3 _ I3 (stat fr3) st3 go) fun r s4 ⟨u,hr,h4⟩=>?_
   subst hr
   refine wpAny_bind (thnF h4 fun _ s5 ⟨x,H5,I5,r5,y5,st5,fr5⟩=>?_)
   have I5':=I5.pinned (stat fr5) (TT.obj _ _ st5)
   refine wpAny_bind (thnF (hg _ _ s5 σ3 H5 x u _ I5' r5 (step x H5 y5)) fun _ s6 ⟨σ6,H6,I6,q6⟩=>?_)
   have again:∀ {s7:Shared} {σ7:St} {zs:List V} {H7:Hp},Inv (zC6 X (T ++ caps.map (·.1)) scope ⟨G.objs.size,s2,H2,fp⟩) ([] ++ zLv fp s5.heap) σ7 H7 s7→N σ7 zs H7 →
     ∃ m,m < n∧∃ i σ' ys H',Inv (zC6 X (T ++ caps.map (·.1)) scope ⟨G.objs.size,s2,H2,fp⟩) [] σ' H' s7∧tn i s7.heap∧(∀ b∈fp,H' b = none)∧W i m σ' ys H':=fun {s7 σ7 zs H7} I7 n7=>by
    obtain ⟨m',hm,w7⟩:=hN σ7 zs H7 n7
    refine ⟨m',hm,i + 1,σ7,zs,H7,I7.unpinned,TT.keep _ _ _ st5 fun b hb o e=>(I7.pin (b,o) (List.mem_append_right _ (List.mem_append_right _ (zEj hb e)))).1,fun b hb=>?_,w7⟩
    obtain ⟨o,e,d⟩:=TT.obj _ _ st5 b hb
    exact (I7.pin (b,o) (List.mem_append_right _ (List.mem_append_right _ (zEj hb e)))).2.1
   refine wpAny_bind (thnF (ht _ _ s6 σ6 H6 _ I6 q6) fun ok s7 ⟨H7,I7,q7⟩=>?_)
   cases ok with
   | false=>exact wpAny_pure ⟨rfl,again I7 q7⟩
   | true =>
    refine wpAny_bind (wpAny_bind (thnF (he _ _ s7 σ6 H7 _ I7 q7) fun y s8 ⟨yv,H8,I8,r8,hD8,hl8,q8⟩=>?_))
    refine wpAny_bind (thnF (zCw _ s8 σ6 H8 (.ref s2.heap.objs.size) [yv] (.ref s2.heap.objs.size) [y] (fun _ H9=>N σ6 (ys ++ [yv]) H9) I8 rfl (.cons r8 .nil) ⟨_,ys,yv,rfl,rfl,hD8,hl8,q8⟩) fun _ s9 ⟨_,H9,I9,_,q9⟩=>?_)
    exact wpAny_pure (wpAny_pure ⟨rfl,again I9 q9⟩)
 exact codeAny_compStart_list loop (TT.self _ 0 _ _ _ st0 loop)
theorem zE7 {i:Nat} {y:Str} {py spos:Pos} (hN:X.N.Nodup) (hy:X.N[i]? = some y) (hloc:X.env.scope.names.lookup y = some .local) (S:zFh X caps scope) (hc:X.calm = true) (hi:PI X target iter wi) (hg:∀ c,PG (zC6 X (T ++ caps.map (·.1)) scope c) target (g c)) (ht:∀ c,PIfs (zC6 X (T ++ caps.map (·.1)) scope c) ifs (tt c)) (he:∀ c,PE (zC6 X (T ++ caps.map (·.1)) scope c) elt (te c))
  (hsw:swapsWith (.ListComp elt [⟨target,iter,ifs,0⟩] scope pos) (some (.Name y py)) spos.line X.env = pure true:=by rfl) (hs:∀ x,foldedSetIterable iter X.env x = pure x:=by intro _; rfl) :
  PS X (.Assign [.Name y py] (.ListComp elt [⟨target,iter,ifs,0⟩] scope pos) spos) (tAsg (zWe T.length caps wi g tt te) (zUc i)):=by
 intro pins s σ H D I h
 rw [exec_Assign_Name_used _ _ _ _ hsw]
 refine wpAny_bind (wpAny_standAt (wpAny_bind ?_))
 show wpAny _ X.A (do let _ ← comprehension (.ListComp elt [⟨target,iter,ifs,0⟩] scope pos) scope X.env _ (newList []) false (eval iter X.env) (some (assign (.Name y py) X.env))) _ _ s
 refine wpAny_bind (wpAny_mono (zTo (Qv:=fun _ s'=>SP X pins D .next s') S hc hi hg ht he I h (fun D' C s4 H3 J4 q4 m4 hn4 hC hL hS hcell hpin=>?_) hs) (fun _ s' hq=>wpAny_pure (wpAny_pure hq)) fun _ _ e=>e)
 show wpAny (model X.prog X.w) X.A (assign (.Name y py) X.env (.ref D')) (fun _ s''=>∃ m,s''.heap.Ns C m∧∀ h',Heap.SameBut C s''.heap h'→SP X pins D .next { s'' with heap:=h' }) X.xe s4
 refine wpAny_assign_Name (zNe J4 hN hy (.inl hloc) (v:=.ref D') rfl (fun s5 J5 hb=>?_) (.inr hloc))
 obtain ⟨a,sb,ha⟩:=hb
 have hCa:C≠a:=by
  rcases ha with z | z
  ·rw [z]; exact hL
  ·exact fun e=>hcell y a z e.symm
 refine ⟨m4,hn4.sameBut sb hCa,fun h' sb'=>⟨_,H3,?_,q4⟩⟩
 exact J5.turned (t':=s5.toks) (fun b o hb e=>(sb'.2 b hb).trans e) hC hL (.inr hS) hcell hpin
end
end L2

namespace L2
open PySem PySem.Spec PyProof.Rows
theorem zN2:bootBuiltins "enumerate" = some (.type "enumerate"):=by decide +kernel
def Ite (K:PySem.W.Frag) (l:Addr):It :=
 ⟨fun k H=>∃ xs x,SqL K H l xs∧xs[k]? = some x,
   fun k H v H'=>∃ T x,v = .ref T∧H T = none∧H' = upd H T (.tup [.int k,x])∧∀ xs,SqL K H l xs→xs[k]? = some x,
   fun k H=>∃ xs,SqL K H l xs∧xs.length≤k⟩
theorem zSj {P:Program} {w:World} {K:PySem.W.Frag} {elts:List Expr} {kt:Nat} {pt:Pos} {e it l:Addr} (hne:e≠it) :
  Turn P w K (.Tuple elts kt pt) (Ite K l) [e,it] e (fun k h=>(∃ old,IsEnum h e it k old)∧h.IsListIter it l k) where
 mem:=by simp
 obj:=fun k h st b hb=>by
  obtain ⟨⟨old,he⟩,h1⟩:=st
  obtain ⟨o1,g1,_,d1⟩:=h1
  simp only [List.mem_cons,List.not_mem_nil,or_false] at hb
  rcases hb with rfl | rfl
  ·exact ⟨_,he,fun v z=>by cases z⟩
  ·exact ⟨_,g1,fun v z=>by rw [d1] at z; cases z⟩
 keep:=fun k h h' st kp=>by
  obtain ⟨⟨old,he⟩,h1⟩:=st
  exact ⟨⟨old,kp e (by simp) _ he⟩,h1.at fun o z=>kp it (by simp) o z⟩
 item:=by
  intro X hP hw hK hc k pins s σ H E I hf st hg
  subst hP hw hK
  obtain ⟨⟨old,he⟩,h1⟩:=st
  obtain ⟨xs,x,q1,hx⟩:=hg
  obtain ⟨its,r1,p1,_⟩:=I.list q1
  obtain ⟨u1,e1,v1⟩:=r1.get hx
  have fresh:H s.heap.objs.size = none:=I.hok.fresh (Nat.le_refl _)
  refine wpAny_pyNext_enum_item he h1 p1.isList (by simpa using e1) hne fun h' z1 j1 t1 _ kp=>?_
  refine ⟨_,rfl,wpAny_letOwnedTupleGo_enum z1 fun h2' z2 sb=>?_⟩
  have kp2:∀ c o,c ∉ [e,it]→s.heap.get? c = some o→h2'.get? c = some o:=fun c o hc q=>by
   simp only [List.mem_cons,List.not_mem_nil,or_false,not_or] at hc
   exact sb.extBut c o hc.1 (kp c o hc.1 hc.2 q)
  have neT:∀ b o,s.heap.get? b = some o→b≠s.heap.objs.size:=fun b o q=>Nat.ne_of_lt (Heap.lt_size q)
  have neH:∀ b o,H b = some o→b ∉ [e,it]:=fun b o q hb=>by
   rw [(hf b hb).1] at q
   cases q
  have upn:∀ b o,H b = some o→upd H s.heap.objs.size (.tup [.int k,x]) b = some o:=fun b o q=>by
   rw [zA5 (zCk q fresh)]
   exact q
  refine ⟨.ref s.heap.objs.size,upd H s.heap.objs.size (.tup [.int k,x]),?_,rfl,⟨_,x,rfl,fresh,rfl,fun zs hz'=>by rw [I.list_inj hz' q1]; exact hx⟩,?_,fun b hb=>?_⟩
  ·refine Inv.step (s:=s) (h':=h2') (g':=s.gens) (d':=s.drawn) (t':=s.toks + 1) (ch:=[e,it]) I (fun b hb=>?_) (fun b o _ _ hc q _=>kp2 b o hc q) (fun b o _ _ hc q _=>⟨o.slots,kp2 b o hc q⟩) (fun b o _ q n=>?_) (fun b o hc q=>⟨o,kp2 b o hc q⟩)
    (fun b zs q=>upn b _ q) (fun b o zs q=>upn b _ q) (fun b ps q=>⟨#[],by rw [upn b _ q]; simp⟩) (fun m hm=>?_) (fun b o q=>?_) I.bare
   ·obtain ⟨_,f1,_,f3,f4,f5⟩:=hf b hb
    exact ⟨f3,f1,f4,f5⟩
   ·rw [zA5 (neT b o q)]
    exact n
   ·obtain ⟨o,es,ep,ho,r⟩:=hm
    refine ⟨o,es,ep,kp2 _ o (fun hb=>?_) ho,r⟩
    exact (hf _ hb).2.1 rfl
   ·by_cases hb:b = s.heap.objs.size
    ·subst hb
     rw [zAc] at q
     cases q
     exact ⟨by show 2≤sizeLine; decide,[_,u1],.cons ⟨_,rfl⟩ (.cons v1 .nil),_,sb.extBut _ _ (Nat.ne_of_gt (Heap.lt_size he)) t1,rfl,_,rfl⟩
    ·rw [zA5 hb] at q
     refine (I.hok b o q).stay (fun c u hc z=>kp2 c u ?_ z) (fun c z=>upn c _ z) fun c zs z=>upn c _ z
     rcases hc with hc | hc
     ·rw [hc]; exact neH b o q
     ·exact neH c _ hc
  ·exact ⟨⟨_,z2⟩,j1.at fun o z=>sb.extBut _ o (Ne.symm hne) z⟩
  ·obtain ⟨o,q,_⟩:∃ o,s.heap.get? b = some o∧True:=by
    obtain ⟨o1,g1,_⟩:=h1
    simp only [List.mem_cons,List.not_mem_nil,or_false] at hb
    rcases hb with rfl | rfl
    ·exact ⟨_,he,trivial⟩
    ·exact ⟨_,g1,trivial⟩
   rw [zA5 (neT b o q)]
   exact (hf b hb).1
 done:=by
  intro X hP hw hK hc k pins s σ H E I hf st hg
  subst hP hw hK
  obtain ⟨⟨old,he⟩,h1⟩:=st
  obtain ⟨xs,q1,hend⟩:=hg
  obtain ⟨its,r1,p1,_⟩:=I.list q1
  have l1':=r1.length
  refine wpAny_pyNext_enum_end (I.ok.hd hc) he h1 p1.isList (Array.getElem?_eq_none (by rw [List.size_toArray]; omega)) fun h' eb=>⟨rfl,?_⟩
  obtain ⟨f0,f1,f2,f3,f4,f5⟩:=hf it (by simp)
  exact I.turned (t':=s.toks) (fun b o hb q=>eb b o hb q) f0 f1 f3 f4 f5
 self:=fun _ _ _ _ _ st h=>by
  obtain ⟨⟨old,he⟩,_⟩:=st
  exact wpAny_pyIter_enum he h
section
variable {X:Cx}
def iEnum (K:PySem.W.Frag) (ta:TA):TI:=fun σ H R=>ta σ H fun vs H1=>∃ (l:Addr) (xs:List V),vs = [.ref l]∧H1 l = some (.lst xs)∧R (Ite K l) H1
theorem zSr {elts:List Expr} {kt:Nat} {pt:Pos} {a:Expr} {ta:TA} {p pos:Pos} (hg:Gl X "enumerate") (hm:X.mg "enumerate" = none) (ha:PA X [a] ta) (hs:starEach [a] X.env = [(false,eval a X.env)]:=by rfl) :
  PI X (.Tuple elts kt pt) (.Call (.Name "enumerate" p) [a] [] pos) (iEnum X.K ta):=by
 intro pins s σ H R I h
 refine Call_ (zLq I hg hm zN2 (PyProof.Rows.callWith_type1 (thn (ha pos pins s σ H _ I h) fun us s1 ⟨vs,H1,I1,r1,q1⟩=>?_) hs rfl))
 obtain ⟨l,xs,e,hl,q⟩:=q1
 subst e
 obtain ⟨u1,rfl,v1⟩:=Vals.one r1
 cases v1
 obtain ⟨_,its,n,_,_,eo⟩:=I1.lstM hl
 refine call_enumerate_1 eo fun h' he hi _ kp=>?_
 refine wpAny_pyIter_enum he ?_
 refine ⟨_,_,_,_,H1,rfl,I1.kept (t':=s1.toks) kp,zSj (Nat.succ_ne_self _),⟨⟨_,he⟩,hi⟩,fun b hb=>?_,q⟩
 have hge:s1.heap.objs.size≤b:=by
  simp only [List.mem_cons,List.not_mem_nil,or_false] at hb
  rcases hb with rfl | rfl <;> omega
 exact I1.fpOk hge (I1.hok.fresh hge)
end
section
variable {K:PySem.W.Frag} {l D:Addr} {xs:List V} {g:TG} {tt:TT} {te:TE} {σ0:St} {H1:Hp} {Q:VK}
theorem zSq (Pv:Nat→St→List V→Hp→Prop) (h0:Pv 0 σ0 [] (upd H1 D (.lst []))) (hl:∀ i σ zs H,Pv i σ zs H→SqL K H l xs∧H D = some (.lst zs))
  (hs:∀ i x T σ zs H,xs[i]? = some x→H T = none→Pv i σ zs H→g (.ref T) σ (upd H T (.tup [.int i,x])) fun σ2 H2=>tt σ2 H2 fun b H3 =>
   if b = true then te σ2 H3 fun z H4=>H4 D = some (.lst zs)∧zs.length < sizeLine∧Pv (i + 1) σ2 (zs ++ [z]) (upd H4 D (.lst (zs ++ [z]))) else Pv (i + 1) σ2 zs H3)
  (hd:∀ σ zs H,Pv xs.length σ zs H→Q (.ref D) H):zKv (Ite K l) D g tt te σ0 H1 Q:=by
 refine ⟨fun i m σ zs H=>m = xs.length - i∧i≤xs.length∧Pv i σ zs H,⟨_,rfl,Nat.zero_le _,h0⟩,?_⟩
 rintro i m σ zs H ⟨rfl,hi,p⟩
 obtain ⟨q1,qd⟩:=hl i σ zs H p
 refine ⟨qd,?_⟩
 by_cases hlt:i < xs.length
 ·refine .inr ⟨⟨xs,xs[i],q1,by simp [hlt]⟩,Pv (i + 1),fun σ' zs' H' z=>⟨xs.length - (i + 1),by omega,rfl,hlt,z⟩,fun v H' y=>?_⟩
  obtain ⟨T,x,rfl,hT,rfl,y1⟩:=y
  exact hs i x T σ zs H (y1 xs q1) hT p
 ·have e:i = xs.length:=by omega
  subst e
  exact .inl ⟨⟨xs,q1,Nat.le_refl _⟩,hd σ zs H p⟩
theorem zTs {tb:TS} {E:Ends} {σ:St} {H:Hp} (Pv:Nat→St→Hp→Prop) (h0:Pv 0 σ H) (hl:∀ i σ H,Pv i σ H→SqL K H l xs)
  (hs:∀ i x T σ H,xs[i]? = some x→H T = none→Pv i σ H→g (.ref T) σ (upd H T (.tup [.int i,x])) fun σ2 H2=>tb { E with nx:=Pv (i + 1),ct:=Pv (i + 1),bk:=E.nx } σ2 H2) (hd:∀ σ H,Pv xs.length σ H→E.nx σ H) :
  ∃ W:Nat→Nat→St→Hp→Prop,(∃ m,W 0 m σ H)∧∀ i m σ H,W i m σ H →
   ((Ite K l).stop i H∧E.nx σ H)∨((Ite K l).go i H∧∃ N:St→Hp→Prop,(∀ σ' H',N σ' H'→∃ m',m' < m∧W (i + 1) m' σ' H')∧∀ x H',(Ite K l).yld i H x H'→g x σ H' fun σ2 H2=>tb { E with nx:=N,ct:=N,bk:=E.nx } σ2 H2):=by
 refine ⟨fun i m σ H=>m = xs.length - i∧i≤xs.length∧Pv i σ H,⟨_,rfl,Nat.zero_le _,h0⟩,?_⟩
 rintro i m σ H ⟨rfl,hi,p⟩
 have q1:=hl i σ H p
 by_cases hlt:i < xs.length
 ·refine .inr ⟨⟨xs,xs[i],q1,by simp [hlt]⟩,Pv (i + 1),fun σ' H' z=>⟨xs.length - (i + 1),by omega,rfl,hlt,z⟩,fun v H' y=>?_⟩
  obtain ⟨T,x,rfl,hT,rfl,y1⟩:=y
  exact hs i x T σ H (y1 xs q1) hT p
 ·have e:i = xs.length:=by omega
  subst e
  exact .inl ⟨⟨xs,q1,Nat.le_refl _⟩,hd σ H p⟩
end
end L2

namespace L2
open PySem PySem.Spec PyProof.Rows
section
variable {X:Cx} {e:Expr} {te:TE} {lo hi:Option Expr} {st:Expr} {tl th ts:TO} {pos p2:Pos}
end
theorem zJw:∀ {rs:List Addr} {us:List Value},Vals (rs.map V.ref) us→us = rs.map Value.ref
 | [],_,r=>by cases r; rfl
 | a :: rs,_,r=>by
  cases r with
  | cons r1 r2 =>
   cases r1
   rw [zJw r2]
   rfl
section
variable {X:Cx}
theorem zIs (n:Nat):(List.range n).all (fun _=>true) = true:=List.all_eq_true.mpr fun _ _=>rfl
end
theorem Same.putNew {H H4:Hp} {D:Addr} {o:HO} (s:Same H H4) (h:H D = none):Same H (upd H4 D o):=fun b u q=>by
 rw [zA5 (zCk q h)]
 exact s _ _ q
abbrev Pr:=Addr × Int × Int
abbrev zAo (ps:List Pr):List V:=(ps.map (·.1)).map V.ref
def PrOk (H:Hp) (M:Nat) (ps:List Pr):Prop:=∀ t∈ps,H t.1 = some (.tup [.int t.2.1,.int t.2.2])∧t.2.1.natAbs≤M∧t.2.2.natAbs≤M
theorem PrOk.same {H H':Hp} {M:Nat} {ps:List Pr} (h:PrOk H M ps) (s:Same H H'):PrOk H' M ps:=fun t ht=>⟨s _ _ (h t ht).1,(h t ht).2⟩
theorem PrOk.app {H:Hp} {M:Nat} {ps qs:List Pr} (h:PrOk H M ps) (g:PrOk H M qs):PrOk H M (ps ++ qs):=fun t ht=>(List.mem_append.mp ht).elim (h t) (g t)
theorem PrOk.sub {H:Hp} {M:Nat} {ps qs:List Pr} (h:PrOk H M ps) (g:∀ t∈qs,t∈ps):PrOk H M qs:=fun t ht=>h t (g t ht)
theorem zAt (ps:List Pr):(zAo ps).length = ps.length:=by simp [zAo]
theorem zEf (ps qs:List Pr):zAo (ps ++ qs) = zAo ps ++ zAo qs:=by simp [zAo]
theorem zF5 {ps:List Pr} {i:Nat} {k:Int} (e:k = i) (h:i < ps.length):∃ t,t∈ps∧ps[i]? = some t∧atI (zAo ps) k = some (.ref t.1):=by
 refine ⟨ps[i],List.getElem_mem h,List.getElem?_eq_getElem h,?_⟩
 rw [e]
 exact zKy (by rw [List.getElem?_map,List.getElem?_map,List.getElem?_eq_getElem h] <;> rfl)
theorem zOi {ps:List Pr} {i:Nat} {k:Int} (e:k = (i:Int) - ps.length) (h:i < ps.length):∃ t,t∈ps∧ps[i]? = some t∧atI (zAo ps) k = some (.ref t.1):=by
 refine ⟨ps[i],List.getElem_mem h,List.getElem?_eq_getElem h,?_⟩
 unfold atI ixN
 rw [zAt,if_neg (by omega),if_pos (by omega),show (k + (ps.length:Int)).toNat = i by omega]
 show (zAo ps)[i]? = _
 rw [List.getElem?_map,List.getElem?_map,List.getElem?_eq_getElem h]
 rfl
theorem zH1 (ps:List Pr) (n:Nat):cutV (zAo ps) none (some (n:Int)) = zAo (ps.take n):=by
 unfold cutV
 rw [show HT.sIx (zAo ps).length 0 none = 0 from rfl,HT.sIx_nat (zAo ps).length (zAo ps).length n,List.drop_zero,Nat.sub_zero]
 rw [zAt]
 simp only [zAo,← List.map_take]
 congr 2
 rw [List.take_eq_take_iff]
 omega
end L2
namespace L2
open PySem PySem.Spec PyProof.Rows
theorem zLm:∀ {xs ys:List Int},xs.map V.int = ys.map V.int→xs = ys
 | [],[],_=>rfl
 | [],_ :: _,h=>nomatch h
 | _ :: _,[],h=>nomatch h
 | x :: xs,y :: ys,h=>by
  rw [List.map_cons,List.map_cons] at h
  injection h with h1 h2
  rw [V.int.inj h1,zLm h2]
section
variable {X:Cx}
end
end L2

namespace L2
open PySem
def crs (p q r:Int × Int):Int:=(q.1 - p.1) * (r.2 - p.2) - (q.2 - p.2) * (r.1 - p.1)
theorem wrap {a n:Nat} (h:a < 2 * n):a % n = if a < n then a else a - n:=by
 by_cases h':a < n
 ·rw [if_pos h',Nat.mod_eq_of_lt h']
 ·rw [if_neg h',Nat.mod_eq_sub_mod (by omega),Nat.mod_eq_of_lt (by omega)]
end L2
namespace L2
open PySem
def zI1:Int × Int→List (Int × Int)→List (Int × Int)
 | _,[]=>[]
 | h,d :: ds=>h :: zI1 (h.1 + d.1,h.2 + d.2) ds
def endP:Int × Int→List (Int × Int)→Int × Int
 | h,[]=>h
 | h,d :: ds=>endP (h.1 + d.1,h.2 + d.2) ds
theorem zLi:∀ (ds:List (Int × Int)) (h d:Int × Int),zI1 h (ds ++ [d]) = zI1 h ds ++ [endP h ds]
 | [],_,_=>rfl
 | e :: ds,h,d=>by
  show h :: zI1 _ (ds ++ [d]) = h :: (zI1 _ ds ++ [endP _ ds])
  rw [zLi ds]
theorem zNg:∀ (ds:List (Int × Int)) (h d:Int × Int),endP h (ds ++ [d]) = ((endP h ds).1 + d.1,(endP h ds).2 + d.2)
 | [],_,_=>rfl
 | e :: ds,h,d=>by
  show endP _ (ds ++ [d]) = _
  rw [zNg ds]
  rfl
theorem zIp:∀ (ds:List (Int × Int)) (h:Int × Int),(zI1 h ds).length = ds.length
 | [],_=>rfl
 | e :: ds,h=>by
  show (zI1 _ ds).length + 1 = ds.length + 1
  rw [zIp ds]
def zKx (x y p q:Int):Nat→List (Int × Int)
 | 0=>[(x,y),(p - x,q - y),(-p,-q)]
 | 1=>[(x,y),(p,q),(-x,-y),(-p,-q)]
 | 2=>[(2 * x,2 * y),(p,q),(p - x,q - y),(-x,-y),(-2 * p,-2 * q)]
 | 3=>[(x,y),(x + p,y + q),(p,q),(-x,-y),(-x - p,-y - q),(-p,-q)]
 | 4=>[(x,y),(2 * x + p,2 * y + q),(x + 2 * p,y + 2 * q),(p,q),(-x,-y),(-2 * x - p,-2 * y - q),(-x - 3 * p,-y - 3 * q)]
 | _=>[(x,y),(2 * x + p,2 * y + q),(x + 2 * p,y + 2 * q),(p,q),(-x,-y),(-2 * x - p,-2 * y - q),(-x - 2 * p,-y - 2 * q),(-p,-q)]
def tabB:Nat→List (Int × Int)
 | 0=>[(0,0),(1,0),(0,1)]
 | 1=>[(0,0),(1,0),(1,1),(0,1)]
 | 2=>[(0,0),(2,0),(2,1),(1,2),(0,2)]
 | 3=>[(0,0),(1,0),(2,1),(2,2),(1,2),(0,1)]
 | 4=>[(0,0),(1,0),(3,1),(4,3),(4,4),(3,4),(1,3)]
 | _=>[(0,0),(1,0),(3,1),(4,3),(4,4),(3,4),(1,3),(0,1)]
def ptsB (c:Nat) (hx hy x y p q:Int):List (Int × Int):=(tabB c).map fun ab=>(hx + ab.1 * x + ab.2 * p,hy + ab.1 * y + ab.2 * q)
theorem six {c:Nat} (h:c < 6):c = 0∨c = 1∨c = 2∨c = 3∨c = 4∨c = 5:=by omega
theorem zO9 {c:Nat} (hc:c < 6) (hx hy x y p q:Int):zI1 (hx,hy) (zKx x y p q c) = ptsB c hx hy x y p q:=by
 rcases six hc with rfl | rfl | rfl | rfl | rfl | rfl <;>
  simp only [zKx,ptsB,tabB,zI1,List.map_cons,List.map_nil,List.cons.injEq,Prod.mk.injEq,and_true,true_and] <;> omega
theorem zHk {c:Nat} (hc:c < 6):3≤(tabB c).length∧(tabB c).length≤8:=by
 rcases six hc with rfl | rfl | rfl | rfl | rfl | rfl <;> exact ⟨by decide,by decide⟩
def zI8 (vs:List (Int × Int)):Prop:=∃ (c k:Nat) (hx hy x y p q:Int),c < 6∧k < (tabB c).length∧0 < x * q - y * p∧vs = (ptsB c hx hy x y p q).drop k ++ (ptsB c hx hy x y p q).take k
theorem zI8.len {vs:List (Int × Int)} (h:zI8 vs):3≤vs.length∧vs.length≤8:=by
 obtain ⟨c,k,hx,hy,x,y,p,q,hc,hk,_,rfl⟩:=h
 have:=zHk hc
 rw [List.length_append,List.length_drop,List.length_take]
 unfold ptsB
 rw [List.length_map]
 omega
end L2

namespace Sea
open PySem L2
theorem zV8 (a b c d x y p q:Int):(a * x + b * p) * (c * y + d * q) - (a * y + b * q) * (c * x + d * p) = (a * d - b * c) * (x * q - y * p):=by
 simp only [Int.mul_sub,Int.sub_mul,Int.mul_add,Int.add_mul,Int.mul_comm,Int.mul_left_comm]
 omega
theorem zWj (hx a b a' b' x p:Int):(hx + a * x + b * p) - (hx + a' * x + b' * p) = (a - a') * x + (b - b') * p:=by
 rw [Int.sub_mul,Int.sub_mul]
 omega
def detB (u v w:Int × Int):Int:=(v.1 - u.1) * (w.2 - u.2) - (v.2 - u.2) * (w.1 - u.1)
theorem zUa (hx hy x y p q:Int) (u v w:Int × Int):crs (hx + u.1 * x + u.2 * p,hy + u.1 * y + u.2 * q) (hx + v.1 * x + v.2 * p,hy + v.1 * y + v.2 * q) (hx + w.1 * x + w.2 * p,hy + w.1 * y + w.2 * q) = detB u v w * (x * q - y * p):=by
 unfold crs detB
 simp only [zWj]
 exact zV8 _ _ _ _ _ _ _ _
def atP (vs:List (Int × Int)) (i:Nat):Int × Int:=(vs[i]?).getD (0,0)
theorem zUs:∀ c < 6,∀ i < (tabB c).length,∀ k < (tabB c).length,k≠i→k≠(i + 1) % (tabB c).length→0 < detB (atP (tabB c) i) (atP (tabB c) ((i + 1) % (tabB c).length)) (atP (tabB c) k):=by decide +kernel
theorem zOv {c:Nat} {hx hy x y p q:Int} {i:Nat} (h:i < (tabB c).length):atP (ptsB c hx hy x y p q) i = (hx + (atP (tabB c) i).1 * x + (atP (tabB c) i).2 * p,hy + (atP (tabB c) i).1 * y + (atP (tabB c) i).2 * q):=by
 unfold atP ptsB
 rw [List.getElem?_map,List.getElem?_eq_getElem h]
 rfl
theorem zRf {vs:List (Int × Int)} {k j:Nat} (hk:k < vs.length) (hj:j < vs.length):atP (vs.drop k ++ vs.take k) j = atP vs ((j + k) % vs.length):=by
 unfold atP
 congr 1
 rw [wrap (by omega)]
 by_cases h:j < vs.length - k
 ·rw [List.getElem?_append_left (by rw [List.length_drop]; exact h),List.getElem?_drop,if_pos (by omega),Nat.add_comm]
 ·rw [List.getElem?_append_right (by rw [List.length_drop]; omega),List.length_drop,List.getElem?_take,if_pos (by omega),if_neg (by omega)]
  congr 1
  omega
theorem zNs {vs:List (Int × Int)} (h:zI8 vs) {i k:Nat} (hi:i < vs.length) (hk:k < vs.length) (h1:k≠i) (h2:k≠(i + 1) % vs.length):0 < crs (atP vs i) (atP vs ((i + 1) % vs.length)) (atP vs k):=by
 obtain ⟨c,r,hx,hy,x,y,p,q,hc,hr,tp,rfl⟩:=h
 have hn:(ptsB c hx hy x y p q).length = (tabB c).length:=List.length_map _
 have e:((ptsB c hx hy x y p q).drop r ++ (ptsB c hx hy x y p q).take r).length = (tabB c).length:=by
  rw [List.length_append,List.length_drop,List.length_take,hn]
  omega
 have n3:=zHk hc
 rw [e] at hi hk h2 ⊢
 have hm:(i + 1) % (tabB c).length < (tabB c).length:=Nat.mod_lt _ (by omega)
 rw [zRf (by omega) (by omega),zRf (by omega) (by omega),zRf (by omega) (by omega),hn]
 have hi':(i + r) % (tabB c).length < (tabB c).length:=Nat.mod_lt _ (by omega)
 have hk':(k + r) % (tabB c).length < (tabB c).length:=Nat.mod_lt _ (by omega)
 have hm':((i + 1) % (tabB c).length + r) % (tabB c).length < (tabB c).length:=Nat.mod_lt _ (by omega)
 rw [zOv hi',zOv hm',zOv hk',zUa]
 have em:((i + 1) % (tabB c).length + r) % (tabB c).length = ((i + r) % (tabB c).length + 1) % (tabB c).length:=by
  rw [Nat.mod_add_mod,Nat.mod_add_mod]
  congr 1
  omega
 have inj:∀ a b:Nat,a < (tabB c).length→b < (tabB c).length→(a + r) % (tabB c).length = (b + r) % (tabB c).length→a = b:=fun a b ha hb z=>by
  rw [wrap (by omega),wrap (by omega)] at z
  split at z <;> split at z <;> omega
 refine Int.mul_pos ?_ tp
 rw [em]
 refine zUs c hc _ hi' _ hk' (fun z=>h1 (inj _ _ hk hi z)) fun z=>h2 (inj _ _ hk hm ?_)
 rw [z,em]
def zBk (u v:Int × Int):List Int:=[v.2 - u.2,-(v.1 - u.1),u.1 * (v.2 - u.2) - u.2 * (v.1 - u.1)]
theorem zT7 (u v r:Int × Int):(v.2 - u.2) * r.1 + -(v.1 - u.1) * r.2 - (u.1 * (v.2 - u.2) - u.2 * (v.1 - u.1)) = -(crs u v r):=by
 unfold crs
 rw [Int.neg_mul]
 simp only [Int.mul_sub,Int.sub_mul,Int.mul_comm]
 omega
theorem zU1 {D0 D1 D2 x y:Int} (gp:0 < gcdL [D0,D1,D2]):(D0 / (gcdL [D0,D1,D2]:Int) * x + D1 / (gcdL [D0,D1,D2]:Int) * y - D2 / (gcdL [D0,D1,D2]:Int)) * (gcdL [D0,D1,D2]:Int) = D0 * x + D1 * y - D2:=by
 have e0:=zBb (ns:=[D0,D1,D2]) (n:=D0) (by simp)
 have e1:=zBb (ns:=[D0,D1,D2]) (n:=D1) (by simp)
 have e2:=zBb (ns:=[D0,D1,D2]) (n:=D2) (by simp)
 generalize (gcdL [D0,D1,D2]:Int) = g at e0 e1 e2
 rw [Int.sub_mul,Int.add_mul,Int.mul_right_comm,e0,Int.mul_right_comm,e1,e2]
theorem low_on {D0 D1 D2 x y:Int} (gp:0 < gcdL [D0,D1,D2]) (h:D0 * x + D1 * y - D2 = 0):D0 / (gcdL [D0,D1,D2]:Int) * x + D1 / (gcdL [D0,D1,D2]:Int) * y = D2 / (gcdL [D0,D1,D2]:Int):=by
 have e:=zU1 (x:=x) (y:=y) gp
 rw [h] at e
 rcases Int.mul_eq_zero.mp e with z | z
 ·omega
 ·omega
theorem low_in {D0 D1 D2 x y:Int} (gp:0 < gcdL [D0,D1,D2]) (h:D0 * x + D1 * y - D2 < 0):D0 / (gcdL [D0,D1,D2]:Int) * x + D1 / (gcdL [D0,D1,D2]:Int) * y < D2 / (gcdL [D0,D1,D2]:Int):=by
 have e:=zU1 (x:=x) (y:=y) gp
 rw [← e] at h
 by_cases z:D0 / (gcdL [D0,D1,D2]:Int) * x + D1 / (gcdL [D0,D1,D2]:Int) * y < D2 / (gcdL [D0,D1,D2]:Int)
 ·exact z
 ·have z2:=Int.mul_nonneg (show 0≤D0 / (gcdL [D0,D1,D2]:Int) * x + D1 / (gcdL [D0,D1,D2]:Int) * y - D2 / (gcdL [D0,D1,D2]:Int) by omega) (show (0:Int)≤(gcdL [D0,D1,D2]:Int) by omega)
  omega
end Sea

namespace PySem.W
open PySem PySem.Calls PyProof.Rows
def zD3 {α:Type} (n:Nat) (lt:Nat→Nat→Bool):KasT α→(α→Prop)→Prop
 | .ret a,Q=>Q a
 | .ask i j k,Q=>i < n∧j < n∧zD3 n lt (k (lt i j)) Q
theorem zD3.bind {α β:Type} {n:Nat} {lt:Nat→Nat→Bool} {f:α→KasT β} {Q:β→Prop} : ∀ {t:KasT α},zD3 n lt t (fun a=>zD3 n lt (f a) Q)→zD3 n lt (t.bind f) Q
 | .ret _,h=>h
 | .ask _ _ _,h=>⟨h.1,h.2.1,zD3.bind h.2.2⟩
theorem zD3.wp {α:Type} {n:Nat} {lt:Nat→Nat→Bool} {cmp:Nat→Nat→(Bool→Shared→Prop)→Shared→Prop} {P:α→Prop} {Q:α→Shared→Prop} {s:Shared}
  (hc:∀ i j (C:Bool→Shared→Prop),i < n→j < n→C (lt i j) s→cmp i j C s) (hq:∀ a,P a→Q a s):∀ {t:KasT α},zD3 n lt t P→t.kasWp cmp Q s
 | .ret a,h=>hq a h
 | .ask i j _,h=>hc i j _ h.1 h.2.1 (zD3.wp hc hq h.2.2)
section
variable {O:KeyOrd} (key:Nat→O.α)
def KP (p:Array Nat) (i:Nat):O.α:=key (p.getD i 0)
def SoT (p:Array Nat) (k:Nat):Prop:=∀ i j,i≤j→j < k→O.kle (KP key p i) (KP key p j)
def NiT (p:Array Nat) (k:Nat):Prop:=∀ i j,i≤j→j < k→O.kle (KP key p j) (KP key p i)
structure PIn (n:Nat) (p:Array Nat):Prop where
 perm:p.Perm (List.toArray (List.range n))
variable {key} {n:Nat}
theorem PIn.size {p:Array Nat} (h:PIn n p):p.size = n:=by rw [h.perm.size_eq]; simp
theorem PIn.lt {p:Array Nat} (h:PIn n p) {i:Nat} (hi:i < n):p.getD i 0 < n:=by
 have hs:=h.size
 have e:p.getD i 0 = p[i]'(by omega):=by simp [Array.getD,show i < p.size by omega]
 rw [e]
 have hm:p[i]'(by omega)∈p.toList:=by simp
 have:=(Array.perm_iff_toList_perm.mp h.perm).mem_iff.mp hm
 simpa using this
theorem PIn.rev {p:Array Nat} (h:PIn n p) (i j:Nat):PIn n (kas_rev p i j):=⟨(mirror_perm _ _ _ _).trans h.perm⟩
theorem PIn.bub {p:Array Nat} (h:PIn n p) (i j:Nat):PIn n (bubble p i j):=⟨(bubble_perm _ _ _).trans h.perm⟩
theorem zHw {p q:Array Nat} {i j:Nat} (h:p[i]? = q[j]?):KP key p i = KP key q j:=by
 unfold KP; rw [Array.getD_eq_getD_getElem?,Array.getD_eq_getD_getElem?,h]
theorem zU4 {p:Array Nat} {src d:Nat} (hs:src < p.size) (hd:d≤src) (k:Nat) :
  KP key (bubble p src d) k = if k = src - d then KP key p src else if src - d < k∧k≤src then KP key p (k - 1) else KP key p k:=by
 have e:=getElem?_bubble hs d hd k
 split
 ·rename_i h; rw [if_pos h] at e; exact zHw e
 ·rename_i h
  rw [if_neg h] at e
  split
  ·rename_i h2; rw [if_pos h2] at e; exact zHw e
  ·rename_i h2; rw [if_neg h2] at e; exact zHw e
theorem zQ8 {p:Array Nat} {i j:Nat} (hj:j≤p.size) (k:Nat):KP key (kas_rev p i j) k = if i≤k∧k < j then KP key p (i + j - 1 - k) else KP key p k:=by
 have e:=getElem?_mirror_all (i:=i) hj k
 split
 ·rename_i h; rw [if_pos h] at e; exact zHw e
 ·rename_i h; rw [if_neg h] at e; exact zHw e
theorem zGi {p:Array Nat} {i j:Nat} (hj:j≤p.size) (he:∀ k,i≤k→k < j→KP key p k = KP key p (j - 1)) (k:Nat):KP key (kas_rev p i j) k = KP key p k:=by
 rw [zQ8 hj]
 split
 ·rw [he _ (by omega) (by omega),he k (by omega) (by omega)]
 ·rfl
abbrev ltK (key:Nat→O.α) (i j:Nat):Bool:=O.blt (key i) (key j)

theorem zWi {p:Array Nat} : SoT key p 1:=by
 intro i j hij hj
 have e:i = j:=by omega
 subst e
 exact KeyOrd.kle_refl _
theorem zOe {p:Array Nat} (hp:PIn n p) {Q:Nat→Prop} : ∀ (f a:Nat),1≤a→a + f≤n→SoT key p a →
  (∀ m,a≤m→m≤a + f→SoT key p m→(m = a + f∨O.klt (KP key p m) (KP key p (m - 1)))→Q m)→zD3 n (ltK key) (kas_asc p f a) Q
 | 0,a,_,_,hs,q=>q a (Nat.le_refl _) (by omega) hs (.inl rfl)
 | f + 1,a,h1,hn,hs,q=>by
  refine ⟨hp.lt (by omega),hp.lt (by omega),?_⟩
  dsimp only
  by_cases hl:ltK key (p.getD a 0) (p.getD (a - 1) 0) = true
  ·rw [if_pos hl]
   exact q a (Nat.le_refl _) (by omega) hs (.inr hl)
  ·rw [if_neg hl]
   refine zOe hp f (a + 1) (by omega) (by omega) (fun i j hij hj=>?_) fun m m1 m2 hm ho=>q m (by omega) (by omega) hm (ho.imp (by omega) id)
   by_cases hja:j < a
   ·exact hs i j hij hja
   ·have hj':j = a:=by omega
    subst hj'
    by_cases hi:i = j
    ·subst hi; exact KeyOrd.kle_refl _
    ·exact KeyOrd.kle_trans (hs i (j - 1) (by omega) (by omega)) (KeyOrd.kle_of_not_klt hl)

theorem zN1 {p:Array Nat} (hp:PIn n p) {m:Nat} {Q:Nat × Array Nat→Prop} (h1:1≤m) (hm:m≤n) (hs:NiT key p m)
  (q:∀ k p',PIn n p'→1≤k→k≤n→SoT key p' k→Q (k,p')):zD3 n (ltK key) (kas_tail3 m n p) Q:=by
 have hz:m≤p.size:=by rw [hp.size]; exact hm
 refine zD3.bind (zOe (hp.rev 0 m) (n - m) m h1 (by omega) (fun i j hij hj=>?_) fun k k1 k2 hk _=>q k _ (hp.rev 0 m) (by omega) (by omega) hk)
 rw [zQ8 hz,zQ8 hz,if_pos (by omega),if_pos (by omega)]
 exact hs _ _ (by omega) (by omega)

theorem zJf {Q:Array Nat × Nat × Nat→Prop} : ∀ (f:Nat) (p:Array Nat) (a e:Nat),PIn n p→1≤a→a + f = n→NiT key p a→e + 1≤a→(∀ i,a - (e + 1)≤i→i < a→KP key p i = KP key p (a - 1)) →
  (∀ p' m e',PIn n p'→1≤m→m≤n→NiT key p' m→e' + 1≤m→(∀ i,m - (e' + 1)≤i→i < m→KP key p' i = KP key p' (m - 1))→Q (p',m,e'))→zD3 n (ltK key) (kas_desc f p a e) Q
 | 0,p,a,e,hp,h1,hf,hs,he,heq,q=>q p a e hp h1 (by omega) hs he heq
 | f + 1,p,a,e,hp,h1,hf,hs,he,heq,q=>by
  have hz:a≤p.size:=by rw [hp.size]; omega
  refine ⟨hp.lt (by omega),hp.lt (by omega),?_⟩
  dsimp only
  by_cases hl:ltK key (p.getD a 0) (p.getD (a - 1) 0) = true
  ·rw [if_pos hl]
   have step:∀ p',(∀ k,KP key p' k = KP key p k)→NiT key p' (a + 1):=by
    intro p' hk i j hij hj
    rw [hk,hk]
    by_cases hja:j < a
    ·exact hs i j hij hja
    ·have hj':j = a:=by omega
     subst hj'
     by_cases hi:i = j
     ·subst hi; exact KeyOrd.kle_refl _
     ·exact KeyOrd.kle_trans (KeyOrd.kle_of_klt hl) (hs i (j - 1) (by omega) (by omega))
   split
   ·exact zJf f _ (a + 1) 0 (hp.rev _ _) (by omega) (by omega) (step _ (zGi hz heq)) (by omega) (fun i i1 i2=>by congr 1; omega) q
   ·exact zJf f p (a + 1) 0 hp (by omega) (by omega) (step _ fun _=>rfl) (by omega) (fun i i1 i2=>by congr 1; omega) q
  ·rw [if_neg hl]
   refine ⟨hp.lt (by omega),hp.lt (by omega),?_⟩
   dsimp only
   by_cases hg:ltK key (p.getD (a - 1) 0) (p.getD a 0) = true
   ·rw [if_pos hg]
    exact q p a e hp h1 (by omega) hs he heq
   ·rw [if_neg hg]
    have ee:KP key p a = KP key p (a - 1):=KeyOrd.kle_antisymm (KeyOrd.kle_of_not_klt hg) (KeyOrd.kle_of_not_klt hl)
    refine zJf f p (a + 1) (e + 1) hp (by omega) (by omega) (fun i j hij hj=>?_) (by omega) (fun i i1 i2=>?_) q
    ·by_cases hja:j < a
     ·exact hs i j hij hja
     ·have hj':j = a:=by omega
      subst hj'
      by_cases hi:i = j
      ·subst hi; exact KeyOrd.kle_refl _
      ·rw [ee]; exact hs i (j - 1) (by omega) (by omega)
    ·rw [show a + 1 - 1 = a by omega]
     by_cases hi:i = a
     ·rw [hi]
     ·rw [ee]; exact heq i (by omega) (by omega)

theorem zIn {p:Array Nat} (hp:PIn n p) {m:Nat} {Q:Nat × Array Nat→Prop} (hm:m + 1≤n) (hs:NiT key p (m + 1))
  (q:∀ k p',PIn n p'→1≤k→k≤n→SoT key p' k→Q (k,p')):zD3 n (ltK key) (kas_descPart m n p) Q:=by
 refine zD3.bind (zJf (n - (m + 1)) p (m + 1) 0 hp (by omega) (by omega) hs (by omega) (fun i i1 i2=>by congr 1; omega) fun p' k e hp' k1 k2 hs' he heq=>?_)
 have hz:k≤p'.size:=by rw [hp'.size]; exact k2
 dsimp only
 split
 ·refine zN1 (hp'.rev _ _) k1 k2 (fun i j hij hj=>?_) q
  rw [zGi hz heq,zGi hz heq]
  exact hs' i j hij hj
 ·exact zN1 hp' k1 k2 hs' q

theorem zS1 {p:Array Nat} (hp:PIn n p) {Q:Nat × Array Nat→Prop} (hn:1≤n)
  (q:∀ k p',PIn n p'→1≤k→k≤n→SoT key p' k→Q (k,p')):zD3 n (ltK key) (kas_count n p) Q:=by
 refine zD3.bind (zOe hp (n - 1) 1 (Nat.le_refl _) (by omega) zWi fun m m1 m2 hm ho=>?_)
 have hz:m≤p.size:=by rw [hp.size]; omega
 by_cases hmn:m = n
 ·rw [if_pos (by simpa using hmn)]
  exact q m p hp m1 (by omega) hm
 ·rw [if_neg (by simpa using hmn)]
  have hlt:O.klt (KP key p m) (KP key p (m - 1)):=ho.resolve_left (by omega)
  split
  ·refine ⟨hp.lt (by omega),hp.lt (by omega),?_⟩
   dsimp only
   by_cases hr:ltK key (p.getD 0 0) (p.getD (m - 1) 0) = true
   ·rw [if_pos hr]
    exact q m p hp m1 (by omega) hm
   ·rw [if_neg hr]
    have hall:∀ k,0≤k→k < m→KP key p k = KP key p (m - 1):=by
     intro k _ hk
     have a1:=hm 0 k (by omega) hk
     have a2:=hm k (m - 1) (by omega) (by omega)
     exact KeyOrd.kle_antisymm a2 (KeyOrd.kle_trans (KeyOrd.kle_of_not_klt hr) a1)
    refine zIn (hp.rev _ _) (by omega) (fun i j hij hj=>?_) q
    rw [zGi hz hall,zGi hz hall]
    by_cases hjm:j < m
    ·rw [hall i (by omega) (by omega),hall j (by omega) hjm]; exact KeyOrd.kle_refl _
    ·have hj':j = m:=by omega
     subst hj'
     by_cases hi:i = j
     ·subst hi; exact KeyOrd.kle_refl _
     ·rw [hall i (by omega) (by omega)]; exact KeyOrd.kle_of_klt hlt
  ·have hm1:m = 1:=by omega
   subst hm1
   refine zIn hp (by omega) (fun i j hij hj=>?_) q
   by_cases hi:i = j
   ·subst hi; exact KeyOrd.kle_refl _
   ·have hi0:i = 0:=by omega
    have hj1:j = 1:=by omega
    subst hi0; subst hj1
    exact KeyOrd.kle_of_klt hlt

theorem zKw {p:Array Nat} (hp:PIn n p) {k:Nat} (hk:k < n) (hs:SoT key p k) {Q:Nat→Prop}
  (q:∀ l,l≤k→(∀ i,i < l→O.kle (KP key p i) (KP key p k))→(∀ i,l≤i→i < k→O.klt (KP key p k) (KP key p i))→Q l):∀ (f l r:Nat),l≤r→r≤k→r - l≤f →
   (∀ i,i < l→O.kle (KP key p i) (KP key p k))→(∀ i,r≤i→i < k→O.klt (KP key p k) (KP key p i))→zD3 n (ltK key) (kas_place p k f l r) Q
 | 0,l,r,h1,h2,h3,lo,hi=>q l (by omega) lo (by rw [show l = r by omega]; exact hi)
 | f + 1,l,r,h1,h2,h3,lo,hi=>by
  show zD3 n (ltK key) (if l ≥ r then _ else _) Q
  by_cases hlr:l ≥ r
  ·rw [if_pos hlr]
   exact q l (by omega) lo (by rw [show l = r by omega]; exact hi)
  ·rw [if_neg hlr]
   refine ⟨hp.lt hk,hp.lt (by omega),?_⟩
   dsimp only
   by_cases hl:ltK key (p.getD k 0) (p.getD ((l + r) / 2) 0) = true
   ·rw [if_pos hl]
    exact zKw hp hk hs q f l ((l + r) / 2) (by omega) (by omega) (by omega) lo fun i i1 i2=>KeyOrd.klt_of_klt_of_kle hl (hs _ _ i1 i2)
   ·rw [if_neg hl]
    exact zKw hp hk hs q f ((l + r) / 2 + 1) r (by omega) h2 (by omega) (fun i i1=>KeyOrd.kle_trans (hs i ((l + r) / 2) (by omega) (by omega)) (KeyOrd.kle_of_not_klt hl)) hi

theorem zR5 {Q:Array Nat→Prop} (q:∀ p',PIn n p'→SoT key p' n→Q p'):∀ (f:Nat) (p:Array Nat) (k:Nat),PIn n p→k + f = n→SoT key p k→zD3 n (ltK key) (kas_bin f p k) Q
 | 0,p,k,hp,h,hs=>q p hp (by rw [← h]; exact hs)
 | f + 1,p,k,hp,h,hs=>by
  have hks:k < p.size:=by rw [hp.size]; omega
  refine zD3.bind (zKw hp (by omega) hs (fun l hl lo hi=>?_) k 0 k (by omega) (by omega) (by omega) (fun i hi=>absurd hi (by omega)) (fun i h1 h2=>absurd h2 (by omega)))
  refine zR5 q f _ (k + 1) (hp.bub _ _) (by omega) fun i j hij hj=>?_
  rw [zU4 hks (by omega),zU4 hks (by omega),show k - (k - l) = l by omega]
  repeat' split
  all_goals first
   | (exfalso; omega)
   | exact KeyOrd.kle_refl _
   | exact lo _ (by omega)
   | exact KeyOrd.kle_of_klt (hi _ (by omega) (by omega))
   | exact hs _ _ (by omega) (by omega)

theorem zTx {Q:Array Nat→Prop} (hn:2≤n) (q:∀ p',PIn n p'→SoT key p' n→Q p'):zD3 n (ltK key) (kas_sort n) Q:=by
 refine zD3.bind (zS1 ⟨Array.Perm.refl _⟩ (by omega) fun k p hp k1 k2 hs=>?_)
 dsimp only
 split
 ·rw [show max k 1 = k by omega]
  exact zR5 q (n - k) p k hp (by omega) hs
 ·exact q p hp (by rw [show n = k by omega]; exact hs)
end
end PySem.W

namespace PySem.W
open PySem PySem.Calls PyProof.Rows
section
variable {prog:Program} {w:World} {A:Around} {E:Value→Shared→Prop} {s:Shared}
def zE4 (h:Heap) (a:Addr) (vs:List Value):Heap:=((h.update a (Obj.mapSeq fun _=>#[])).push (seqObj "tuple" vs.toArray 0)).push (seqObj "list" #[] 0)
theorem zOd {h:Heap} {a b:Addr} {vs:List Value} (hb:b≠a) {o:Obj} (e:h.get? b = some o):(zE4 h a vs).get? b = some o:=by
 unfold zE4
 refine Heap.get?_push_of_some _ (Heap.get?_push_of_some _ ?_)
 rw [Heap.get?_update_ne _ _ _ _ hb]
 exact e
theorem zQt {a:Addr} {vs:List Value} {n:Nat} {κ:SortKind} {G:List Value→Prop} {P:PySem.Fin→Shared→Prop} (ho:s.heap.get? a = some (seqObj "list" vs.toArray n)) (h64:vs.length < 64)
  (hk:2≤vs.length→∀ Q:SortKind→Shared→Prop,Q κ { s with heap:=zE4 s.heap a vs }→wpAny (model prog w) A (keyKind' vs.toArray) Q E { s with heap:=zE4 s.heap a vs })
  (ask:2≤vs.length→(kas_sort vs.length).kasWp (kas_ask prog w A κ vs) (fun p s'=>s' = { s with heap:=zE4 s.heap a vs }∧G (p.toList.map fun i=>vs.getD i Value.none)) { s with heap:=zE4 s.heap a vs })
  (few:vs.length < 2→G vs)
  (h:∀ out:List Value,out.length = vs.length→G out→P (.done (.ret .none)) { s with heap:=sortedHeap s.heap a vs out.toArray }) :
  wpAny (model prog w) A (Builtin.«list.sort» ⟨[.ref a],[]⟩) P E s:=by
 have ha:a < s.heap.objs.size:=Heap.lt_size ho
 obtain ⟨e1,ho1⟩:∃ e1,(s.heap.update a (Obj.mapSeq fun _=>(#[]:Array Value))).get? a = some (seqObj "list" #[] e1):=⟨_,get?_update_seq ho fun _=>#[]⟩
 have ho3:(zE4 s.heap a vs).get? a = some (seqObj "list" #[] e1):=Heap.get?_push_of_some _ (Heap.get?_push_of_some _ ho1)
 rw [list_sort_plain]
 refine wpAny_bind (listItems_at ho rfl ?_)
 refine wpAny_bind (listUpdate_at ho rfl ?_ (by rw [List.size_toArray,sizeLine_eq]; omega) (Nat.zero_le _))
 refine wpAny_bind (seqEpoch_at ho1 rfl ?_)
 refine wpAny_bind (wpAny_newTuple ?_ (by show vs.length≤_; rw [sizeLine_eq]; omega))
 refine wpAny_bind (wpAny_newList ?_ (Nat.zero_le _))
 refine wpAny_holding ?_
 show wpAny (model prog w) A _ P E { s with heap:=zE4 s.heap a vs }
 dsimp only
 by_cases h2:vs.toArray.size < 2
 ·rw [if_pos h2,if_pos h2]
  rw [List.size_toArray] at h2
  refine wpAny_bind (wpAny_pure ?_)
  rw [StateT.run_pure]
  refine wpAny_bind (wpAny_pure ?_)
  dsimp only
  refine wpAny_bind (seqEpoch_at ho3 rfl ?_)
  have hout:(vs.toArray.zip vs.toArray).map (·.2) = vs.toArray:=by
   apply Array.toList_inj.mp
   rw [Array.toList_map,Array.toList_zip]
   exact List.map_snd_zip (Nat.le_refl _)
  refine wpAny_bind (listUpdate_at ho3 rfl ?_ (Nat.zero_le _) (by
   refine Nat.le_trans (Nat.le_of_eq ((congrArg Array.size hout).trans List.size_toArray)) ?_
   rw [sizeLine_eq]; omega))
  simp only [bne_self_eq_false,Bool.false_eq_true,if_false]
  refine wpAny_pure ?_
  have hq:=h vs rfl (few h2)
  rw [← hout] at hq
  exact hq
 ·rw [if_neg h2,if_neg h2]
  rw [List.size_toArray] at h2
  have h2':2≤vs.length:=by omega
  refine wpAny_bind (hk h2' _ ?_)
  refine wpAny_bind (wpAny_mono (kat_run (E:=E) (Q:=fun st' s'=>s' = { s with heap:=zE4 s.heap a vs }∧∃ p:Array Nat,p.size = vs.length∧arrOf st' = p.map (kas_item (vs.toArray.zip vs.toArray))∧failedOf st' = none∧G (p.toList.map fun i=>vs.getD i Value.none))
   rfl h2' h64 (fun p' st' s' a1 a2 a3 a4=>⟨a4.1,p',a1,a2,a3,a4.2⟩) (ask h2')) ?_ fun _ _ e=>e)
  rintro ⟨⟨⟩,st'⟩ s' ⟨rfl,p,hp,har,hf,hg⟩
  dsimp only
  have hout:=kat_snds rfl har
  have hsz:(p.toList.map fun i=>vs.getD i Value.none).length = vs.length:=by rw [List.length_map,Array.length_toList,hp]
  rw [hout]
  refine wpAny_bind (seqEpoch_at ho3 rfl ?_)
  refine wpAny_bind (listUpdate_at ho3 rfl ?_ (Nat.zero_le _) (by rw [List.size_toArray,hsz,sizeLine_eq]; omega))
  rw [hf]
  simp only [bne_self_eq_false,Bool.false_eq_true,if_false]
  exact wpAny_pure (h _ hsz hg)
def zHn (h:Heap) (vs:List Value):Heap:=((h.push (seqObj "list" #[] 0)).update h.objs.size (Obj.mapSeq (· ++ vs.toArray))).push (seqObj "list" vs.toArray 0)
theorem zOh {h:Heap} {b:Addr} {vs:List Value} {o:Obj} (e:h.get? b = some o):(zHn h vs).get? b = some o:=by
 have hlt:b < h.objs.size:=Heap.lt_size e
 unfold zHn
 refine Heap.get?_push_of_some _ ?_
 rw [Heap.get?_update_ne _ _ _ _ (Nat.ne_of_lt hlt),Heap.get?_push_ne _ _ _ (Nat.ne_of_lt hlt)]
 exact e
theorem zSm {l:Addr} {vs:List Value} {κ:SortKind} {G:List Value→Prop} {Q:Value→Shared→Prop} (hl:s.heap.IsList l vs.toArray) (h64:vs.length < 64)
  (hk:2≤vs.length→∀ s':Shared,(∀ b o,s.heap.get? b = some o→s'.heap.get? b = some o)→∀ (E':Value→Shared→Prop) (Q:SortKind→Shared→Prop),Q κ s'→wpAny (model prog w) A.in1.in1 (keyKind' vs.toArray) Q E' s')
  (ask:2≤vs.length→∀ s':Shared,(∀ b o,s.heap.get? b = some o→s'.heap.get? b = some o)→(kas_sort vs.length).kasWp (kas_ask prog w A.in1.in1 κ vs) (fun p s''=>s'' = s'∧G (p.toList.map fun i=>vs.getD i Value.none)) s')
  (few:vs.length < 2→G vs)
  (h:∀ out:List Value,out.length = vs.length→G out→Q (.ref (s.heap.objs.size + 1)) { s with heap:=sortedAll s.heap vs out.toArray }) :
  wpAny (model prog w) A (call (.builtin "sorted") [.ref l]) Q E s:=by
 refine Calls.call_function_entry kind_sorted plain_sorted entry_sorted (args_sorted1 _) ?_
 unfold Builtin.«sorted»
 refine wpAny_bind (m:=checkCount "sorted" 1 1 _) (wpAny_pure ?_)
 refine wpAny_bind (collect_list hl ?_ (by rw [sizeLine_eq]; omega))
 refine wpAny_bind (wpAny_newList ?_ (by rw [sizeLine_eq]; omega))
 have hsz:((s.heap.push (seqObj "list" #[] 0)).update s.heap.objs.size (Obj.mapSeq (· ++ vs.toArray))).objs.size = s.heap.objs.size + 1:=by
  rw [Heap.size_update,size_push']
 have hoL:(zHn s.heap vs).get? (s.heap.objs.size + 1) = some (seqObj "list" vs.toArray 0):=by
  unfold zHn
  rw [← hsz]; exact Heap.get?_push_size _ rfl
 have keep:∀ b o,s.heap.get? b = some o→(zE4 (zHn s.heap vs) (s.heap.objs.size + 1) vs).get? b = some o:=fun b o e=>by
  have hlt:b < s.heap.objs.size:=Heap.lt_size e
  exact zOd (Nat.ne_of_lt (Nat.lt_succ_of_lt hlt)) (zOh e)
 show wpAny _ _ _ _ _ { s with heap:=zHn s.heap vs }
 rw [hsz]
 refine wpAny_bind (wpAny_holding (wpAny_call_entry slot_list_sort ⟨_,hoL,rfl⟩ entry_list_sort ?body (args_list_sort _)))
 case body =>
  exact zQt (s:={ s with heap:=zHn s.heap vs }) hoL h64 (fun h2 Q' hq=>hk h2 _ keep _ Q' hq) (fun h2=>ask h2 _ keep) few fun out hz hg=>⟨_,rfl,wpAny_pure ⟨_,rfl,h out hz hg⟩⟩
end
end PySem.W

namespace L2
open PySem PySem.Spec PyProof.Rows PySem.W
theorem zNi:∀ a:List Int,HT.lexLt a a = false
 | []=>rfl
 | x :: xs=>by rw [HT.lexLt_cons,if_pos rfl]; exact zNi xs
theorem zO1:∀ a b c:List Int,HT.lexLt a b = true→HT.lexLt b c = true→HT.lexLt a c = true
 | [],[],_,h,_=>nomatch h
 | [],_ :: _,[],_,h=>nomatch h
 | [],_ :: _,_ :: _,_,_=>rfl
 | _ :: _,[],_,h,_=>nomatch h
 | _ :: _,_ :: _,[],_,h=>nomatch h
 | x :: xs,y :: ys,z :: zs,h1,h2=>by
  rw [HT.lexLt_cons] at h1 h2 ⊢
  by_cases e1:x = y
  ·rw [if_pos e1] at h1
   by_cases e2:y = z
   ·rw [if_pos e2] at h2
    rw [if_pos (e1.trans e2)]
    exact zO1 xs ys zs h1 h2
   ·rw [if_neg e2] at h2
    rw [if_neg (by omega),e1]
    exact h2
  ·rw [if_neg e1] at h1
   have g1:=of_decide_eq_true h1
   by_cases e2:y = z
   ·rw [if_neg (by omega),← e2]
    exact h1
   ·rw [if_neg e2] at h2
    have g2:=of_decide_eq_true h2
    rw [if_neg (by omega)]
    exact decide_eq_true (by omega)
theorem zO6:∀ a b c:List Int,HT.lexLt a c = true→HT.lexLt a b = true∨HT.lexLt b c = true
 | [],_,[],h=>nomatch h
 | [],[],_ :: _,_=>.inr rfl
 | [],_ :: _,_ :: _,_=>.inl rfl
 | _ :: _,_,[],h=>nomatch h
 | _ :: _,[],_ :: _,_=>.inr rfl
 | x :: xs,y :: ys,z :: zs,h=>by
  rw [HT.lexLt_cons] at h ⊢
  rw [HT.lexLt_cons]
  by_cases e1:x = y
  ·by_cases e2:y = z
   ·rw [if_pos (e1.trans e2)] at h
    rw [if_pos e1,if_pos e2]
    exact zO6 xs ys zs h
   ·rw [if_neg (by omega)] at h
    right
    rw [if_neg e2,← e1]
    exact h
  ·by_cases e2:y = z
   ·rw [if_neg (by omega)] at h
    left
    rw [if_neg e1,e2]
    exact h
   ·rw [if_neg e1,if_neg e2]
    by_cases g:x < y
    ·exact .inl (decide_eq_true g)
    ·right
     by_cases e3:x = z
     ·exact decide_eq_true (by omega)
     ·rw [if_neg e3] at h
      have:=of_decide_eq_true h
      exact decide_eq_true (by omega)
theorem zMz:∀ a b:List Int,HT.lexLt a b = false→HT.lexLt b a = false→a = b
 | [],[],_,_=>rfl
 | [],_ :: _,h,_=>nomatch h
 | _ :: _,[],_,h=>nomatch h
 | x :: xs,y :: ys,h1,h2=>by
  rw [HT.lexLt_cons] at h1 h2
  by_cases e:x = y
  ·rw [if_pos e] at h1
   rw [if_pos e.symm] at h2
   rw [e,zMz xs ys h1 h2]
  ·rw [if_neg e] at h1
   rw [if_neg (fun z=>e z.symm)] at h2
   have g1:=of_decide_eq_false h1
   have g2:=of_decide_eq_false h2
   omega
def ordL:KeyOrd where
 α:=List Int
 blt:=HT.lexLt
 irrefl:=zNi
 trans:=zO1
 negTrans:=zO6
 total:=zMz
def TupN (h:Heap) (v:Value) (ns:List Int):Prop:=∃ (a:Addr) (o:Obj) (n:Nat) (its:List Value),v = .ref a∧h.get? a = some o∧o.cls = .type "tuple" ∧ o.data = .seq its.toArray n∧Vals (ns.map V.int) its
theorem TupN.keep {h h':Heap} {v:Value} {t:List Int} (e:TupN h v t) (k:∀ b o,h.get? b = some o→h'.get? b = some o):TupN h' v t:=by
 obtain ⟨a,o,n,its,e1,e2,e3⟩:=e
 exact ⟨a,o,n,its,e1,k _ _ e2,e3⟩
section
variable {prog:Program} {w:World} {A:Around} {E:Value→Shared→Prop} {s:Shared}
theorem zOx {C:Bool→Shared→Prop} : ∀ {ns ms:List Int} {us ws:List Value} (_:Vals (ns.map V.int) us) (_:Vals (ms.map V.int) ws) (_:ns.length = ms.length) (i:Nat) (_:C (HT.lexLt ns ms) s),KatLex prog w A true false C (us.zip ws) i s
 | [],[],_,_,r1,r2,_,i,h=>by
  cases r1
  cases r2
  exact kat_nil h
 | [],_ :: _,_,_,_,_,hl,_,_=>nomatch hl
 | _ :: _,[],_,_,_,_,hl,_,_=>nomatch hl
 | x :: xs,y :: ys,_,_,r1,r2,hl,i,h=>by
  cases r1 with
  | cons p1 q1 =>
   cases r2 with
   | cons p2 q2 =>
    obtain ⟨t,rfl⟩:=p1
    obtain ⟨t',rfl⟩:=p2
    rw [List.zip_cons_cons]
    refine kat_cons (wpAny_eqBool_int ?_)
    rw [HT.lexLt_cons] at h
    by_cases e:x = y
    ·rw [if_pos e] at h
     rw [show (x == y) = true from by simpa using e]
     exact kat_yes (zOx q1 q2 (by simpa using hl) (i + 1) h)
    ·rw [if_neg e] at h
     rw [show (x == y) = false from by simpa using e]
     refine kat_no ?_
     cases i with
     | zero=>exact oneLt_int h
     | succ i=>exact kat_one _ _ (wpAny_lt_int h)
theorem zV4 {u v:Value} {a b:List Int} {C:Bool→Shared→Prop} (hu:TupN s.heap u a) (hv:TupN s.heap v b) (hl:a.length = b.length) (h:C (HT.lexLt a b) s):wpAny (model prog w) A (keyLt' (tuples' true) u v) C E s:=by
 obtain ⟨p,o,n,us,rfl,ho,_,hd,r1⟩:=hu
 obtain ⟨q,o',n',ws,rfl,ho',_,hd',r2⟩:=hv
 refine kat_lt ho hd ho' hd' ?_
 have l1:=r1.length
 have l2:=r2.length
 rw [List.length_map] at l1 l2
 rw [show decide (us.toArray.size < ws.toArray.size) = false from decide_eq_false (by rw [List.size_toArray,List.size_toArray]; omega)]
 exact zOx r1 r2 hl 0 h
theorem zSa {h:Heap} : ∀ (vs:List Value),(∀ v∈vs,∃ x xs,TupN h v (x :: xs))→∃ fs:List Value,KatTups h vs fs∧fs.length = vs.length∧∀ v∈fs,∃ i t,v = Value.int i t
 | [],_=>⟨[],.nil,rfl,fun _ hv=>absurd hv (List.not_mem_nil)⟩
 | v :: vs,hv=>by
  obtain ⟨fs,a1,a2,a3⟩:=zSa vs fun u hu=>hv u (.tail _ hu)
  obtain ⟨x,xs,p,o,n,its,rfl,ho,hc,hd,r⟩:=hv v (.head _)
  cases r with
  | cons p1 q1 =>
   obtain ⟨t,rfl⟩:=p1
   refine ⟨.int x t :: fs,KatTups.cons ho hc hd rfl a1,by rw [List.length_cons,List.length_cons,a2],fun u hu=>?_⟩
   rcases List.mem_cons.mp hu with rfl | hu
   ·exact ⟨_,_,rfl⟩
   ·exact a3 u hu
theorem zN4 {l:Addr} {vs:List Value} {ks:List (List Int)} {m:Nat} {Q:Value→Shared→Prop} (hl:s.heap.IsList l vs.toArray) (h64:vs.length < 64) (hT:∀ i,i < vs.length→TupN s.heap (vs.getD i Value.none) (ks.getD i [])∧(ks.getD i []).length = m + 1)
  (h:∀ is:List Nat,is.Perm (List.range vs.length)→(is.map fun i=>ks.getD i []).Pairwise (fun a b=>HT.lexLt b a = false) →
   Q (.ref (s.heap.objs.size + 1)) { s with heap:=sortedAll s.heap vs (is.map fun i=>vs.getD i Value.none).toArray }) :
  wpAny (model prog w) A (call (.builtin "sorted") [.ref l]) Q E s:=by
 refine zSm (κ:=tuples' true) (G:=fun out=>∃ is:List Nat,is.Perm (List.range vs.length)∧(is.map fun i=>ks.getD i []).Pairwise (fun a b=>HT.lexLt b a = false)∧out = is.map fun i=>vs.getD i Value.none)
  hl h64 (fun h2 s' kp E' Q' hq=>?_) (fun h2 s' kp=>?_) (fun h2=>?_) fun out hz ⟨is,p1,p2,e⟩=>by rw [e]; exact h is p1 p2
 ·obtain ⟨fs,a1,a2,a3⟩:=zSa (h:=s'.heap) vs fun v hv=>by
   obtain ⟨i,hi,rfl⟩:=List.getElem_of_mem hv
   obtain ⟨e,en⟩:=hT i hi
   have e':=e.keep kp
   rw [show vs.getD i Value.none = vs[i] by simp [hi]] at e'
   cases ek:ks.getD i [] with
   | nil=>rw [ek] at en; cases en
   | cons x xs=>rw [ek] at e'; exact ⟨x,xs,e'⟩
  refine kat_kind (T:=Value.type "int") a1 (by omega) (fun v hv=>?_) rfl (by first | exact hq | (rw [show (Value.type "int" != Value.type "tuple") = true from by first | decide | simp]; exact hq))
  obtain ⟨i,t,rfl⟩:=a3 v hv
  exact .now
 ·refine zD3.wp (n:=vs.length) (lt:=ltK (O:=ordL) fun i=>ks.getD i []) (fun i j C hi hj hc=>?_) (fun p hp=>⟨rfl,hp⟩) (zTx (O:=ordL) (key:=fun i=>ks.getD i []) h2 fun p hp hs=>?_)
  ·exact zV4 ((hT i hi).1.keep kp) ((hT j hj).1.keep kp) (by rw [(hT i hi).2,(hT j hj).2]) hc
  ·refine ⟨p.toList,by simpa using Array.perm_iff_toList_perm.mp hp.perm,?_,rfl⟩
   rw [List.pairwise_map,List.pairwise_iff_getElem]
   intro i j hi hj hij
   have hi':i < p.size:=by simpa using hi
   have hj':j < p.size:=by simpa using hj
   have q:=hs i j (Nat.le_of_lt hij) (by rw [← hp.size]; exact hj')
   unfold KP at q
   rw [show p.getD i 0 = p.toList[i] by simp [Array.getD,hi'],show p.getD j 0 = p.toList[j] by simp [Array.getD,hj']] at q
   exact q
 ·refine ⟨List.range vs.length,.refl _,?_,?_⟩
  ·rw [List.pairwise_map,List.pairwise_iff_getElem]
   intro i j hi hj hij
   rw [List.length_range] at hj
   omega
  ·refine List.ext_getElem (by simp) fun i h1 h3=>?_
   rw [List.getElem_map,List.getElem_range]
   simp [h1]
end
theorem zK6 {α β:Type} (f:α→β) (d:α) (e:β) (xs:List α):((List.range xs.length).map fun i=>f (xs.getD i d)) = xs.map f:=by
 refine List.ext_getElem (by simp) fun i h1 h2=>?_
 have hi:i < xs.length:=by simpa using h1
 rw [List.getElem_map,List.getElem_range,List.getElem_map]
 simp [hi]
theorem zGl:∀ rs:List Addr,Vals (rs.map V.ref) (rs.map Value.ref)
 | []=>.nil
 | _ :: rs=>.cons rfl (zGl rs)
section
variable {X:Cx}
theorem zJy:bootBuiltins "sorted" = some (.builtin "sorted"):=by decide +kernel
theorem zNt:zHg X (.builtin "sorted") (fun xs H Q=>∃ (l:Addr) (ts:List (Addr × List Int)) (m:Nat),xs = [.ref l]∧SqL X.K H l ((ts.map (·.1)).map V.ref)∧ts.length < 64∧(∀ t∈ts,H t.1 = some (.tup (t.2.map V.int))∧t.2.length = m + 1) ∧
  ∀ (p:Addr) (us:List (Addr × List Int)),H p = none→us.Perm ts→us.Pairwise (fun a b=>HT.lexLt b.2 a.2 = false)→Q (.ref p) (upd H p (.lst ((us.map (·.1)).map V.ref)))):=by
 intro pins s σ H xs us Q I r h
 obtain ⟨l,ts,m,rfl,hq,h64,hts,q⟩:=h
 obtain ⟨u,rfl,ru⟩:=Vals.one r
 cases ru
 obtain ⟨its,rv,pl,hz⟩:=I.list hq
 have ei:=zJw rv
 subst ei
 have hn:((ts.map (·.1)).map Value.ref).length = ts.length:=by rw [List.length_map,List.length_map]
 refine zN4 (ks:=ts.map (·.2)) (m:=m) pl.isList (by rw [hn]; exact h64) (fun i hi=>?_) fun is hp hs=>?_
 ·rw [hn] at hi
  have ht:=hts ts[i] (List.getElem_mem hi)
  have e1:((ts.map (·.1)).map Value.ref).getD i Value.none = Value.ref ts[i].1:=by simp [hi]
  have e2:(ts.map (·.2)).getD i [] = ts[i].2:=by simp [hi]
  rw [e1,e2]
  refine ⟨?_,ht.2⟩
  obtain ⟨its,r1,⟨o,e,c,n,d⟩,_⟩:=I.tuple (SqT.of ht.1)
  exact ⟨_,o,n,its,rfl,e,c,d,r1⟩
 ·rw [hn] at hp
  have lt:∀ i∈is,i < ts.length:=fun i hi=>List.mem_range.mp (hp.mem_iff.mp hi)
  let d:Addr × List Int:=(0,[])
  have pm:(is.map fun i=>ts.getD i d).Perm ts:=by
   have z:=hp.map fun i=>ts.getD i d
   have e:=zK6 (fun t:Addr × List Int=>t) d d ts
   rw [show (List.range ts.length).map (fun i=>ts.getD i d) = ts from by simpa using e] at z
   exact z
  have e1:(is.map fun i=>((ts.map (·.1)).map Value.ref).getD i Value.none) = ((is.map fun i=>ts.getD i d).map (·.1)).map Value.ref:=by
   simp only [List.map_map]
   refine List.map_congr_left fun i hi=>?_
   have:=lt i hi
   simp [this]
  have e2:(is.map fun i=>(ts.map (·.2)).getD i []) = (is.map fun i=>ts.getD i d).map (·.2):=by
   rw [List.map_map]
   refine List.map_congr_left fun i hi=>?_
   have:=lt i hi
   simp [this]
  rw [e2,List.pairwise_map] at hs
  rw [e1]
  obtain ⟨e,at'⟩:=sortedAll_at s.heap ((ts.map (·.1)).map Value.ref) (((is.map fun i=>ts.getD i d).map (·.1)).map Value.ref).toArray
  have fr:H (s.heap.objs.size + 1) = none:=I.hok.fresh (Nat.le_succ _)
  refine ⟨.ref (s.heap.objs.size + 1),_,I.laid (t':=s.toks) (a:=s.heap.objs.size + 1) (o:=.lst (((is.map fun i=>ts.getD i d).map (·.1)).map V.ref)) (fun b ob q=>sortedAll_old q) (Nat.le_succ _) ?_,rfl,q _ _ fr pm hs⟩
  refine ⟨?_,_,e,zGl _,at'⟩
  rw [List.length_map,List.length_map,pm.length_eq]
  exact Nat.le_trans (Nat.le_of_lt h64) (by rw [sizeLine_eq]; decide)
end
end L2
namespace L2
open PySem PySem.Spec PyProof.Rows
section
variable {X:Cx}
end
end L2

namespace Sea
open PySem L2
end Sea

namespace L2
open PySem PySem.Spec PyProof.Rows
section
variable {κ:Type} [DecidableEq κ]
def valV (kvs:List (κ × V)) (k:κ):Option V:=(kvs.find? fun kv=>decide (kv.1 = k)).map (·.2)
def putK (kvs:List (κ × V)) (k:κ) (v:V):List (κ × V) :=
 if (kvs.any fun kv=>decide (kv.1 = k)) = true then kvs.map (fun kv=>if kv.1 = k then (kv.1,v) else kv) else kvs ++ [(k,v)]
theorem zO2 {p:κ × V} {r:List (κ × V)} {k:κ} (e:p.1 = k):valV (p :: r) k = some p.2:=by simp [valV,List.find?_cons,e]
theorem zO3 {p:κ × V} {r:List (κ × V)} {k:κ} (e:¬ p.1 = k):valV (p :: r) k = valV r k:=by simp [valV,List.find?_cons,e]
theorem zPb (k:κ):∀ kvs:List (κ × V),(kvs.any fun kv=>decide (kv.1 = k)) = (valV kvs k).isSome
 | []=>rfl
 | p :: r=>by
  rw [List.any_cons]
  by_cases e:p.1 = k
  ·simp only [zO2 e,decide_eq_true e,Bool.true_or,Option.isSome_some]
  ·rw [zO3 e,decide_eq_false e,Bool.false_or]; exact zPb k r
theorem zJ6 (kvs:List (κ × V)) (k:κ) (v:V):(putK kvs k v).length≤kvs.length + 1:=by
 unfold putK
 split
 ·rw [List.length_map]; omega
 ·rw [List.length_append,List.length_cons,List.length_nil]; omega
theorem RelO.isSome_eq {o:Option V} {u:Option Value} (r:RelO o u):o.isSome = u.isSome:=by
 cases o with
 | none=>cases u with
  | none=>rfl
  | some _=>exact (show False from r).elim
 | some _=>cases u with
  | none=>exact (show False from r).elim
  | some _=>rfl
theorem KV.any {kvs:List (κ × V)} {vs:List (κ × Value)} (r:KV kvs vs) (k:κ):(kvs.any fun kv=>decide (kv.1 = k)) = vs.any fun kv=>decide (kv.1 = k):=by
 unfold KV at r
 induction r with
 | nil=>rfl
 | cons h t ih=>rw [List.any_cons,List.any_cons,ih,h.1]
theorem KV.repl {kvs:List (κ × V)} {vs:List (κ × Value)} (r:KV kvs vs) (k:κ) {y:V} {u:Value} (ry:RelV y u) :
  KV (kvs.map fun kv=>if kv.1 = k then (kv.1,y) else kv) (vs.map fun kv=>if kv.1 = k then (kv.1,u) else kv):=by
 unfold KV at r ⊢
 induction r with
 | nil=>exact .nil
 | @cons p q ps qs h t ih =>
  rw [List.map_cons,List.map_cons]
  refine .cons ?_ ih
  obtain ⟨h1,h2⟩:=h
  by_cases e:p.1 = k
  ·rw [if_pos e,if_pos (h1.symm.trans e)]; exact ⟨h1,ry⟩
  ·rw [if_neg e,if_neg (fun z=>e (h1.trans z))]; exact ⟨h1,h2⟩
theorem KV.put {kvs:List (κ × V)} {vs:List (κ × Value)} (r:KV kvs vs) (k:κ) {y:V} {u:Value} (ry:RelV y u):KV (putK kvs k y) (stored vs k u):=by
 unfold putK stored
 rw [r.any k]
 by_cases e:(vs.any fun kv=>decide (kv.1 = k)) = true
 ·rw [if_pos e,if_pos e]; exact r.repl k ry
 ·rw [if_neg e,if_neg e]; exact Paired.snoc r ⟨rfl,ry⟩
theorem KV.length {kvs:List (κ × V)} {vs:List (κ × Value)} (r:KV kvs vs):kvs.length = vs.length:=Paired.length r
end


theorem kV_is {P:Program} {w:World} {k:Key} {u:Value} (r:RelV (kV k) u):(zDf P w).is k u = true:=by
 cases k with
 | inl i=>obtain ⟨t,e⟩:=(show ∃ t,u = Value.int i t from r); subst e; exact zOt P w i t
 | inr x=>obtain ⟨t,e⟩:=(show ∃ t,u = Value.str x t from r); subst e; exact zN5 P w x t
theorem zM9 {P:Program} {w:World} : ∀ {ks:List Key} {us:List Value},Vals (ks.map kV) us→ItemsAre (zDf P w) ks us
 | [],_,r=>by rw [List.map_nil] at r; cases r; exact .nil
 | k :: ks,_,r=>by
  rw [List.map_cons] at r
  cases r with
  | cons h t=>exact .cons (kV_is h) (zM9 t)

abbrev KT (H:Hp):List (List Key × V)→List (List Key × Addr × Value)→Prop:=Paired fun p q=>p.1 = q.1∧H q.2.1 = some (.tup (p.1.map kV))∧RelV p.2 q.2.2
theorem KT.val {H:Hp} {kvs:List (List Key × V)} {xs:List (List Key × Addr × Value)} (r:KT H kvs xs) (k:List Key):RelO (valV kvs k) ((atKey xs k).map (·.2)):=by
 induction r with
 | nil=>exact True.intro
 | @cons p q ps qs h t ih =>
  obtain ⟨h1,_,h2⟩:=h
  by_cases e:p.1 = k
  ·have e':q.1 = k:=h1.symm.trans e
   have b:atKey (q :: qs) k = some q.2:=by simp [atKey,List.find?_cons,e']
   rw [zO2 e,b]; exact h2
  ·have e':¬ q.1 = k:=fun z=>e (h1.trans z)
   have b:atKey (q :: qs) k = atKey qs k:=by simp [atKey,List.find?_cons,e']
   rw [zO3 e,b]; exact ih
theorem KT.repl {H:Hp} {kvs:List (List Key × V)} {xs:List (List Key × Addr × Value)} (r:KT H kvs xs) (k:List Key) {y:V} {u:Value} (ry:RelV y u) :
  KT H (kvs.map fun kv=>if kv.1 = k then (kv.1,y) else kv) (xs.map (putAt k u)):=by
 induction r with
 | nil=>exact .nil
 | @cons p q ps qs h t ih =>
  rw [List.map_cons,List.map_cons]
  refine .cons ?_ ih
  obtain ⟨h1,h2,h3⟩:=h
  unfold putAt
  by_cases e:p.1 = k
  ·rw [if_pos e,if_pos (h1.symm.trans e)]; exact ⟨h1,h2,ry⟩
  ·rw [if_neg e,if_neg (fun z=>e (h1.trans z))]; exact ⟨h1,h2,h3⟩
theorem KT.put {H:Hp} {kvs:List (List Key × V)} {xs:List (List Key × Addr × Value)} (r:KT H kvs xs) (k:List Key) {b:Addr} {y:V} {u:Value} (hb:H b = some (.tup (k.map kV))) (ry:RelV y u) :
  KT H (putK kvs k y) (storedH xs k b u):=by
 have e:(kvs.any fun kv=>decide (kv.1 = k)) = (atKey xs k).isSome:=by
  rw [zPb,(r.val k).isSome_eq,Option.isSome_map]
 unfold putK storedH
 rw [e]
 by_cases q:(atKey xs k).isSome = true
 ·rw [if_pos q,if_pos q]; exact r.repl k ry
 ·rw [if_neg q,if_neg q]; exact Paired.snoc r ⟨rfl,hb,ry⟩
theorem KT.keeps {H H':Hp} {kvs:List (List Key × V)} {xs:List (List Key × Addr × Value)} (r:KT H kvs xs) (ht:∀ b ys,H b = some (.tup ys)→H' b = some (.tup ys)):KT H' kvs xs :=
 Paired.mapP r fun _ _ z=>⟨z.1,ht _ _ z.2.1,z.2.2⟩

section
variable {P:Program} {w:World} {H:Hp} {h:Heap} {a:Addr}
theorem rd_of {u:HO} (ok:HOk P w H h) (e:Rd H a u):zDp P w H h a u:=e.ok ok
theorem dk_rd {kvs:List (Key × V)} (ok:HOk P w H h) (e:Rd H a (.dK kvs)):kvs.length≤sizeLine∧(a == sysModules) = false∧∃ vs,KV kvs vs∧h.DictOf (zDf P w) a vs :=
 show zDp P w H h a (.dK kvs) from rd_of ok e
theorem dk_of {kvs:List (Key × V)} (ok:HOk P w H h) (e:H a = some (.dK kvs)):kvs.length≤sizeLine∧(a == sysModules) = false∧∃ vs,KV kvs vs∧h.DictOf (zDf P w) a vs:=dk_rd ok (.inl e)
theorem zU2 {ks:List Key} (ok:HOk P w H h) (e:H a = some (.tup (ks.map kV))):(tupleKind (zDf P w)).is h ks a:=by
 obtain ⟨_,its,r,o,h1,h2,n,h3⟩:=(show zDp P w H h a (.tup (ks.map kV)) from ok a _ e)
 exact ⟨o,its.toArray,n,h1,h2,h3,by simpa using zM9 r⟩
theorem dt_rd {kvs:List (List Key × V)} (ok:HOk P w H h) (e:Rd H a (.dT kvs)):kvs.length≤sizeLine∧(a == sysModules) = false ∧
  ∃ xs,KT H kvs xs∧h.DictOfH (tupleKind (zDf P w)) a xs:=by
 obtain ⟨z,y,xs,r,o,es,ep,h1,h2,h3,h4,h5⟩:=(show zDp P w H h a (.dT kvs) from rd_of ok e)
 refine ⟨z,y,xs,r,o,es,ep,h1,h2,h3,h4,fun x hx=>?_,h5⟩
 have all:∀ {l:List (List Key × V)} {m:List (List Key × Addr × Value)},KT H l m→∀ x∈m,(tupleKind (zDf P w)).is h x.1 x.2.1:=by
  intro l m q
  induction q with
  | nil=>intro x hx; exact nomatch hx
  | @cons p q ps qs hq t ih =>
   intro x hx
   rcases List.mem_cons.mp hx with e | hx
   ·subst e
    exact zU2 ok (by rw [← hq.1]; exact hq.2.1)
   ·exact ih x hx
 exact all r x hx
theorem dt_of {kvs:List (List Key × V)} (ok:HOk P w H h) (e:H a = some (.dT kvs)):kvs.length≤sizeLine∧(a == sysModules) = false ∧
  ∃ xs,KT H kvs xs∧h.DictOfH (tupleKind (zDf P w)) a xs:=dt_rd ok (.inl e)
end

def DPut (H:Hp) (a:Addr) (y v:V) (H':Hp):Prop :=
 (∃ kvs k,H a = some (.dK kvs)∧y = kV k∧kvs.length < sizeLine∧H' = upd H a (.dK (putK kvs k v))) ∨
 ∃ kvs k b,H a = some (.dT kvs)∧y = .ref b∧H b = some (.tup (k.map kV))∧kvs.length < sizeLine∧H' = upd H a (.dT (putK kvs k v))
theorem DPut.t {H:Hp} {a b:Addr} {kvs:List (List Key × V)} {k:List Key} {v:V} (e:H a = some (.dT kvs)) (eb:H b = some (.tup (k.map kV))) (hl:kvs.length < sizeLine) :
  DPut H a (.ref b) v (upd H a (.dT (putK kvs k v))):=.inr ⟨kvs,k,b,e,rfl,eb,hl,rfl⟩


section
variable {X:Cx} {pins:List (Addr × Obj)} {σ:St} {H:Hp} {s:Shared} {a:Addr} {y v:V} {u r:Value} {o:Option V} {A:Around} {E:Value→Shared→Prop}

theorem Inv.big (I:Inv X pins σ H s):sysModules < s.heap.objs.size:=by
 have h:mainGlobals < s.heap.objs.size:=(I.mod.glob.keeps I.bk).lt
 exact Nat.lt_trans (by decide) h

theorem zR9 {h':Heap} {t':Nat} {ob:HO} (I:Inv X pins σ H s) (mu:Mut (H a)) (hs:Heap.SameBut a s.heap h') (he:∃ q,h'.get? a = some q) (new:zDp X.prog X.w (upd H a ob) h' a ob) :
  Inv X pins σ (upd H a ob) { s with heap:=h',toks:=t' } :=
 I.write (x:=a) (e:=a) mu (.inl rfl) (fun b q hb z=>(hs.2 b hb).trans z) he new
theorem dk_new {P:Program} {w:World} {H':Hp} {h':Heap} {kvs:List (Key × V)} {vs:List (Key × Value)} (z:kvs.length≤sizeLine) (hd:(a == sysModules) = false) (rel:KV kvs vs) (dd:h'.DictOf (zDf P w) a vs) :
  zDp P w H' h' a (.dK kvs):=⟨z,hd,vs,rel,dd⟩
theorem zSo {H':Hp} {Q:Unit→Shared→Prop} (hu:A.units + 1 < cLine) (I:Inv X pins σ H s) (g:DPut H a y v H') (ry:RelV y u) (rv:RelV v r) (h:∀ s',Inv X pins σ H' s'→Q () s') :
  wpAny (model X.prog X.w) A (setItem (.ref a) u r) Q E s:=by
 rcases g with ⟨kvs,k,e,ey,l,eH⟩ | ⟨kvs,k,b,e,ey,eb,l,eH⟩
 ·subst ey eH
  obtain ⟨z,hd,vs,rel,dd⟩:=dk_of I.hok e
  have hz:vs.length≤sizeLine:=by rw [← rel.length]; exact z
  have hl:(putK kvs k v).length≤sizeLine:=by have:=zJ6 kvs k v; omega
  refine wpAny_setItem_pairs (hsz:=hz) (kV_is ry) dd fun h' dd' hs=>h _ ?_
  have he:∃ q,h'.get? a = some q:=let ⟨q,_,_,hq,_⟩:=dd'; ⟨q,hq⟩
  exact zR9 I (by rw [e]; exact True.intro) hs he (dk_new hl hd (rel.put k rv) dd')
 ·subst ey eH
  cases (show u = Value.ref b from ry)
  obtain ⟨z,hd,xs,rel,dd⟩:=dt_of I.hok e
  have hz:xs.length≤sizeLine:=by rw [← Paired.length rel]; exact z
  have hl:(putK kvs k v).length≤sizeLine:=by have:=zJ6 kvs k v; omega
  refine wpAny_setItem_heap (hsz:=hz) (tupleKind_room_in1 hu) (zU2 I.hok eb) dd fun h' dd' hs=>h _ ?_
  obtain ⟨q,es,ep,hq,h2,h3,h4,_,h5⟩:=dd'
  refine zR9 I (by rw [e]; exact True.intro) hs ⟨q,hq⟩ ⟨hl,hd,_,(rel.put k eb rv).keeps fun c ys ec=>?_,q,es,ep,hq,h2,h3,h4,h5⟩
  rw [zA5 (zIb ec e (fun z=>nomatch z))]
  exact ec
end

section
variable {X:Cx} {pins:List (Addr × Obj)} {σ:St} {H:Hp} {s:Shared} {a:Addr} {kvs:List (Key × V)} {k:Key} {u:Value} {A:Around} {E:Value→Shared→Prop}
end


def sDPut (td ty tv:TE):TS:=fun D σ H=>tv σ H fun v H1=>td σ H1 fun x H2=>ty σ H2 fun y H3=>∃ a H4,x = .ref a∧DPut H3 a y v H4∧D.nx σ H4
section
variable {X:Cx} {o i e value:Expr} {pos pos' tpos:Pos} {td ty tv:TE}
theorem zQ3 (hu:X.A.units + 1 < cLine) (ho:PE X o td) (hi:PE X i ty) (hv:PE X value tv) (hs:swapsWith value (some (.Subscript o i pos')) pos.line X.env = pure false) :
  PS X (.Assign [.Subscript o i pos'] value pos) (sDPut td ty tv):=by
 intro pins s σ H D I h
 refine wpAny_Assign_Subscript (thn (hv pins s σ H _ I h) fun r s1 ⟨v,H1,I1,rv,q1⟩=>thn (ho pins s1 σ H1 _ I1 q1) fun u s2 ⟨x,H2,I2,rx,q2⟩=>thn (hi pins s2 σ H2 _ I2 q2) fun iv s3 ⟨y,H3,I3,ry,a,H4,ex,g,q3⟩=>?_) hs
 subst ex
 obtain rfl:u = Value.ref a:=rx
 exact zSo hu I3 g ry rv fun s4 I4=>⟨σ,H4,I4,q3⟩
end


theorem zT0 {P:Program} {w:World} {H:Hp} (h:Heap) (hb:sysModules < h.objs.size):zDp P w H (h.push { cls:=.type "dict", data:=.dict #[] }) h.objs.size (.dT []) :=
 ⟨Nat.zero_le _,beq_eq_false_iff_ne.mpr (Ne.symm (Nat.ne_of_lt hb)),[],.nil,_,#[],0,Heap.get?_push_size _ rfl,⟨rfl,rfl,rfl⟩,rfl,rfl,List.nodup_nil⟩
def tDNewT:TE:=fun _ H Q=>∀ p,H p = none→Q (.ref p) (upd H p (.dT []))
section
variable {X:Cx} {pos:Pos}
theorem zO8:PE X (.Dict [] [] pos) tDNewT:=fun pins s σ H Q I h =>
 wpAny_Dict_empty ⟨.ref s.heap.objs.size,_,I.laid (a:=s.heap.objs.size) (o:=.dT []) (t':=s.toks) (fun _ _ q=>Heap.get?_push_of_some _ q) (Nat.le_refl _) (zT0 s.heap I.big),rfl,h _ (I.hok.fresh (Nat.le_refl _))⟩
end

end L2

namespace L2
open PySem PySem.Spec PyProof.Rows
def RawD (h:Heap) (a:Addr) (rows:Array DictEntry) (age:Nat):Prop:=∃ ob,h.get? a = some ob∧ob.ExactDict∧ob.data = .dict rows age
theorem RawD.at {h h':Heap} {a:Addr} {rows:Array DictEntry} {age:Nat} (x:RawD h a rows age) (e:∀ ob,h.get? a = some ob→h'.get? a = some ob):RawD h' a rows age:=let ⟨ob,g,r⟩:=x; ⟨ob,e _ g,r⟩
theorem RawD.typeIs {z:Shared} {a:Addr} {rows:Array DictEntry} {age:Nat} (x:RawD z.heap a rows age):z.TypeIs (.ref a) "dict" := let ⟨ob,g,c,_⟩:=x; ⟨ob,g,c.1⟩
section
variable {prog:Program} {w:World} {A:Around} {E:Value→Shared→Prop} {z:Shared} {it a:Addr} {rows:Array DictEntry} {age k:Nat}
theorem zT1 {R:Value→Shared→Prop} (hs:(a == sysModules) = false) (x:RawD z.heap a rows age) (hR:R (.ref z.heap.objs.size) { z with heap:=z.heap.push { cls:=.type "dict_keyiterator", data:=.fields #[.ref a,.int 0 0,.int rows.size 0,.int age 0] } }) :
  wpAny (model prog w) A (pyIter (.ref a)) R E z:=by
 have ty:=x.typeIs
 obtain ⟨ob,g,_,dat⟩:=x
 refine wpAny_pyIter_slot ty F.slot_dict_iter (wpAny_call_entry F.slot_dict_iter ty F.entry_dict_iter ?walk (F.args_dict_iter_1 _))
 case walk =>
  unfold Builtin.«dict.__iter__» Builtin.Dict.dictSlotNone
  refine wpAny_bind (wpAny_bind (wpAny_notOrdered_dict ty (show wpAny _ _ (pure (Value.ref a)) _ _ z from wpAny_pure ?_)))
  show wpAny _ _ (Builtin.Dict.showsAll a >>= _) _ _ z
  unfold Builtin.Dict.showsAll
  rw [if_neg (by rw [hs]; decide)]
  refine wpAny_bind (wpAny_pure (wpAny_bind (wpAny_dictEntries g dat (wpAny_bind (wpAny_dictEpoch g dat ?_)))))
  refine wpAny_bind (wpAny_newObj_type (wpAny_pure ⟨_,rfl, "dict_keyiterator", _,⟨_,Heap.get?_push_size _ rfl,rfl⟩,F.slot_dict_keyiterator_next.lookup,?_⟩))
  simpa [rawInt] using hR
theorem zUl {R:Option Value→Shared→Prop} (ki:z.heap.IsKeyIter it a k rows.size age) (x:RawD z.heap a rows age) (hk:k < rows.size)
  (hR:∀ h',h'.IsKeyIter it a (k + 1) rows.size age→Heap.SameBut it z.heap h'→R (some rows[k].key) { z with heap:=h' }):wpAny (model prog w) A (pyNext (.ref it)) R E z:=by
 have ty:=ki.typeIs
 obtain ⟨oi,gi,ci,di⟩:=id ki
 obtain ⟨ob,g,_,dat⟩:=x
 unfold pyNext
 refine wpAny_bind (wpAny_attempt (wpAny_callSpecial?_slot (name:=Str.ofString "__next__") ty F.slot_dict_keyiterator_next (wpAny_call_entry F.slot_dict_keyiterator_next ty F.entry_dict_keyiterator_next ?walk (F.args_dict_keyiterator_next_1 _))))
 case walk =>
  refine wpAny_bind (wpAny_pure (wpAny_bind (wpAny_bind ?_)))
  first | refine wpAny_bind (wpAny_typeNameOfWhole_keyiter ty (wpAny_pure (wpAny_bind (wpAny_fieldsOf gi di ?_)))) | refine wpAny_bind (wpAny_typeNameOf_keyiter ty (wpAny_pure (wpAny_bind (wpAny_fieldsOf gi di ?_))))
  simp only [show Builtin.Dict_items.ownsTuple "dict_keyiterator" = false by decide,Bool.false_eq_true,if_false]
  show wpAny _ _ (if (Value.ref a == Value.none) = true then _ else _) _ _ z
  rw [if_neg (show ¬ ((Value.ref a == Value.none) = true) from Bool.false_ne_true)]
  refine wpAny_bind (wpAny_pure (wpAny_bind (wpAny_dictEntries g dat ?_)))
  rw [if_neg (by simp)]
  refine wpAny_bind (wpAny_pure (wpAny_bind (wpAny_dictEpoch g dat ?_)))
  rw [if_neg (by simp)]
  refine wpAny_pure ?_
  simp only [show ¬ ((k:Int) < 0) from by omega,if_false,Int.toNat_natCast,Array.getElem?_eq_getElem hk]
  refine wpAny_bind ?_
  first | refine wpAny_bind (wpAny_typeNameOfWhole_keyiter ty (wpAny_pure (wpAny_bind (wpAny_isOneOf_keyiter ty ?_)))) | refine wpAny_bind (wpAny_typeNameOf_keyiter ty (wpAny_pure (wpAny_bind (wpAny_isOneOf_keyiter ty ?_))))
  show wpAny _ _ (setField (.ref it) 1 (rawInt ((k:Int) + 1)) >>= _) _ _ z
  refine wpAny_bind (wpAny_setField gi di (by simp) ?_)
  have ki':(z.heap.update it (Obj.mapFields (·.setIfInBounds 1 (rawInt ((k:Int) + 1))))).IsKeyIter it a (k + 1) rows.size age :=
   ⟨_,Heap.get?_update_self _ gi (Obj.isFreed_of_fields (Obj.data_mapFields di _)),(Obj.cls_mapFields ..).trans ci,by rw [Obj.data_mapFields di]; simp [rawInt]⟩
  refine wpAny_bind (wpAny_holding (wpAny_bind (wpAny_isOneOf_keyiter (s:={ z with heap:=z.heap.update it (Obj.mapFields (·.setIfInBounds 1 (rawInt ((k:Int) + 1)))) }) ki'.typeIs ?_)))
  show wpAny _ _ (pure rows[k].key) _ _ _
  exact wpAny_pure (wpAny_pure ⟨_,rfl,wpAny_pure (hR _ ki' (Heap.SameBut.update ..))⟩)
theorem zVl {R:Option Value→Shared→Prop} (hh:A.handled = none) (ki:z.heap.IsKeyIter it a k rows.size age) (x:RawD z.heap a rows age) (hk:rows.size≤k)
  (hR:∀ h',Heap.ExtBut it z.heap h'→R none { z with heap:=h' }):wpAny (model prog w) A (pyNext (.ref it)) R E z:=by
 have ty:=ki.typeIs
 obtain ⟨oi,gi,ci,di⟩:=id ki
 obtain ⟨ob,g,_,dat⟩:=x
 unfold pyNext
 refine wpAny_bind (wpAny_attempt (wpAny_callSpecial?_slot (name:=Str.ofString "__next__") ty F.slot_dict_keyiterator_next (wpAny_call_entry F.slot_dict_keyiterator_next ty F.entry_dict_keyiterator_next ?walk (F.args_dict_keyiterator_next_1 _))))
 case walk =>
  refine wpAny_bind (wpAny_pure (wpAny_bind (wpAny_bind ?_)))
  first | refine wpAny_bind (wpAny_typeNameOfWhole_keyiter ty (wpAny_pure (wpAny_bind (wpAny_fieldsOf gi di ?_)))) | refine wpAny_bind (wpAny_typeNameOf_keyiter ty (wpAny_pure (wpAny_bind (wpAny_fieldsOf gi di ?_))))
  simp only [show Builtin.Dict_items.ownsTuple "dict_keyiterator" = false by decide,Bool.false_eq_true,if_false]
  show wpAny _ _ (if (Value.ref a == Value.none) = true then _ else _) _ _ z
  rw [if_neg (show ¬ ((Value.ref a == Value.none) = true) from Bool.false_ne_true)]
  refine wpAny_bind (wpAny_pure (wpAny_bind (wpAny_dictEntries g dat ?_)))
  rw [if_neg (by simp)]
  refine wpAny_bind (wpAny_pure (wpAny_bind (wpAny_dictEpoch g dat ?_)))
  rw [if_neg (by simp)]
  refine wpAny_pure ?_
  simp only [show ¬ ((k:Int) < 0) from by omega,if_false,Int.toNat_natCast,Array.getElem?_eq_none hk]
  refine wpAny_bind ?_
  first | refine wpAny_bind (wpAny_typeNameOfWhole_keyiter ty (wpAny_pure ?_)) | refine wpAny_bind (wpAny_typeNameOf_keyiter ty (wpAny_pure ?_))
  show wpAny _ _ (setField (.ref it) 0 .none >>= _) _ _ z
  refine wpAny_bind (wpAny_setField gi di (by simp) (show wpAny _ _ (newExc (.type "StopIteration") [] >>= _) _ _ _ from wpAny_bind ?_))
  simp only [newExc,newTuple]
  refine wpAny_bind (wpAny_newObj_type (wpAny_bind (m:=firstArgMember _ _) (wpAny_of_eq (a:=Value.none) (by first | rfl | (simp only [firstArgMember]; rfl)) (wpAny_newObj_type ?_ (by size_fits)))) (by size_fits))
  simp only [raiseNew]
  refine wpAny_bind (wpAny_handled ?_)
  rw [show A.in1.handled = none from hh]
  refine wpAny_bind (wpAny_pure (wpAny_throw ?_))
  refine wpAny_bind (wpAny_isInstance (T := "StopIteration") (b:=true) ⟨_,Heap.get?_push_size _ rfl,rfl⟩ isSubtype_stop ?_)
  exact wpAny_pure (hR _ (((Heap.SameBut.update ..).extBut.push _).push _))
theorem zRx (hh:A.handled = none) (hne:a≠it):Walks prog w A it [it,a] [it] rows.size (fun i v=>∃ h:i < rows.size,v = rows[i].key) (fun i h=>h.IsKeyIter it a i rows.size age∧RawD h a rows age) where
 sub:=fun b hb=>by simp at hb; simp [hb]
 frame:=fun _ _ _ st hk=>⟨st.1.at fun o e=>hk it (by simp) o e,st.2.at fun o e=>hk a (by simp) o e⟩
 item:=fun i s Q E hi st hQ=>zUl st.1 st.2 hi fun h' ki' hs' =>
  hQ _ h' s.toks ⟨hi,rfl⟩ ⟨ki',st.2.at fun o e=>hs'.extBut a o hne e⟩ fun b o hb e=>hs'.extBut b o (fun h=>hb (by simp [h])) e
 done:=fun s Q E st hQ=>zVl hh st.1 st.2 (Nat.le_refl _) fun h' he'=>hQ h' s.toks fun b o hb e=>he' b o (fun h=>hb (by simp [h])) e
 self:=fun _ _ _ _ st hQ=>wpAny_pyIter_keyiter st.1 hQ
theorem zV1 (hs:(a == sysModules) = false):PySem.W.KdlSrc prog w "dict" a a rows.size (fun i v=>∃ h:i < rows.size,v = rows[i].key) (fun h=>RawD h a rows age) where
 type:=fun _ x=>x.typeIs
 there:=fun _ x=>let ⟨_,g,_⟩:=x; ⟨Heap.lt_size g,Heap.lt_size g⟩
 keep:=fun _ _ x hk=>x.at fun o e=>hk a (.inl rfl) o e
 notList:=by decide
 notTuple:=by decide
 hint:=fun _ _ _ _ x hq=>PySem.W.kdl_hint_dict x.typeIs hq
 iter:=fun _ s hh x=>⟨_,_,(fun _ _ hq=>zT1 hs x hq),zRx hh (let ⟨_,g,_⟩:=x; Nat.ne_of_lt (Heap.lt_size g)),⟨⟨_,Heap.get?_push_size _ rfl,rfl,rfl⟩,x.at fun o e=>Heap.get?_push_of_some _ e⟩⟩
end
section
variable {X:Cx}
theorem zIu (hc:X.calm = true):zHg X (.type "list") (fun xs H Q=>∃ (d:Addr) (kvs:List (List Key × V)),xs = [.ref d]∧H d = some (.dT kvs) ∧
  ∀ (p:Addr) (ts:List (Addr × List Key)),H p = none→ts.map (·.2) = kvs.map (·.1)→(∀ t∈ts,H t.1 = some (.tup (t.2.map kV)))→Q (.ref p) (upd H p (.lst ((ts.map (·.1)).map V.ref)))):=by
 intro pins s σ H xs us Q I r h
 obtain ⟨d,kvs,rfl,hd,q⟩:=h
 obtain ⟨u,rfl,ru⟩:=Vals.one r
 cases ru
 obtain ⟨hz,hsm,ys,rel,ob,es,age,g,ex,dat,hes,hjunk⟩:=dt_of I.hok hd
 have hsz:es.size = ys.length:=size_of_entries hes
 have hlen:kvs.length = ys.length:=Paired.length rel
 refine PySem.W.kdl_call (zV1 (rows:=es) (age:=age) hsm) (show X.A.handled = none from I.ok.hd hc) ⟨ob,g,ex,dat⟩ (by rw [hsz,← hlen]; exact hz) fun h' tk acc c keep at' its=>?_
 have eqs:acc.toList = ((ys.map fun y=>(y.2.1,y.1)).map (·.1)).map Value.ref:=by
  refine List.ext_getElem? fun j=>?_
  by_cases hj:j < ys.length
  ·have ja:j < acc.size:=by rw [its.1,hsz]; exact hj
   obtain ⟨hj',e⟩:=its.2 j acc[j] (by simp [ja])
   have ek:=entry_at hes j
   rw [Array.getElem?_eq_getElem hj',List.getElem?_eq_getElem hj,Option.map_some] at ek
   have ev:es[j].key = Value.ref ys[j].2.1:=by rw [Option.some.inj ek]; rfl
   rw [Array.getElem?_toList,Array.getElem?_eq_getElem ja,e,ev,List.getElem?_map,List.getElem?_map,List.getElem?_map,List.getElem?_eq_getElem hj]
   rfl
  ·rw [List.getElem?_eq_none (by rw [Array.length_toList,its.1,hsz]; omega),List.getElem?_eq_none (by simp; omega)]
 have props:(ys.map fun y=>(y.2.1,y.1)).map (·.2) = kvs.map (·.1)∧∀ t∈ys.map (fun y=>(y.2.1,y.1)),H t.1 = some (.tup (t.2.map kV)):=by
  clear hes hsz hlen q eqs hd hz hjunk
  induction rel with
  | nil=>exact ⟨rfl,fun t ht=>nomatch ht⟩
  | @cons p y ps zs hp t ih =>
   refine ⟨by rw [List.map_cons,List.map_cons,List.map_cons,ih.1,hp.1],fun t' ht'=>?_⟩
   rcases List.mem_cons.mp ht' with e | ht'
   ·subst e
    show H y.2.1 = some (.tup (y.1.map kV))
    rw [← hp.1]
    exact hp.2.1
   ·exact ih.2 t' ht'
 have fr:H s.heap.objs.size = none:=I.hok.fresh (Nat.le_refl _)
 refine ⟨.ref s.heap.objs.size,_,I.laid (t':=tk) (a:=s.heap.objs.size) (o:=.lst (((ys.map fun y=>(y.2.1,y.1)).map (·.1)).map V.ref)) keep (Nat.le_refl _) ?_,rfl,q _ _ fr props.1 props.2⟩
 refine ⟨by rw [List.length_map,List.length_map,List.length_map,← hlen]; exact hz,_,c,zGl _,?_⟩
 rw [← eqs,Array.toArray_toList]
 exact at'
end
end L2

namespace Sea
open PySem L2
abbrev Sd:=Addr × Int × Int × Int
abbrev zAm (ss:List Sd):List V:=(ss.map (·.1)).map V.ref
def SdOk (H:Hp) (ss:List Sd):Prop:=∀ t∈ss,H t.1 = some (.tup [.int t.2.1,.int t.2.2.1,.int t.2.2.2])∧(t.2.1≠0∨t.2.2.1≠0)∧t.2.1.natAbs≤10 ^ 9∧t.2.2.1.natAbs≤10 ^ 9∧t.2.2.2.natAbs≤10 ^ 13
theorem SdOk.same {H H':Hp} {ss:List Sd} (h:SdOk H ss) (s:Same H H'):SdOk H' ss:=fun t ht=>⟨s _ _ (h t ht).1,(h t ht).2⟩
theorem zAk (ss:List Sd):(zAm ss).length = ss.length:=by simp [zAm]
theorem zBu {ss:List Sd} {i:Nat} {v:V} (h:(zAm ss)[i]? = some v):∃ t,ss[i]? = some t∧v = .ref t.1∧i < ss.length:=by
 rw [List.getElem?_map,List.getElem?_map] at h
 cases e:ss[i]? with
 | none=>rw [e] at h; cases h
 | some t=>rw [e] at h; exact ⟨t,rfl,(Option.some.inj h).symm,(List.getElem?_eq_some_iff.mp e).1⟩
theorem zBg {ss:List Sd} {i:Nat} {k:Int} (e:k = i) (h:i < ss.length):∃ t,t∈ss∧ss[i]? = some t∧atI (zAm ss) k = some (.ref t.1):=by
 refine ⟨ss[i],List.getElem_mem h,List.getElem?_eq_getElem h,?_⟩
 rw [e]
 exact zKy (by rw [List.getElem?_map,List.getElem?_map,List.getElem?_eq_getElem h] <;> rfl)
def wayB (ss:List Sd) (x y:Int):Bool:=ss.all fun t=>decide (t.2.1 * x + t.2.2.1 * y≤0)
def WK (ss:List Sd) (n:Nat) (k:List Int):Prop:=∃ j t,j < n∧ss[j]? = some t∧((k = lowL [-t.2.2.1,t.2.1]∧wayB ss (-t.2.2.1) t.2.1 = true)∨(k = lowL [t.2.2.1,-t.2.1]∧wayB ss t.2.2.1 (-t.2.1) = true))
theorem zWc (ss:List Sd) (k:List Int):¬ WK ss 0 k:=fun ⟨_,_,h,_⟩=>absurd h (Nat.not_lt_zero _)
theorem zVn {ss:List Sd} {n:Nat} {t:Sd} (h:ss[n]? = some t) (k:List Int):WK ss (n + 1) k↔WK ss n k∨(k = lowL [-t.2.2.1,t.2.1]∧wayB ss (-t.2.2.1) t.2.1 = true)∨(k = lowL [t.2.2.1,-t.2.1]∧wayB ss t.2.2.1 (-t.2.1) = true):=by
 constructor
 ·rintro ⟨j,u,hj,hu,r⟩
  by_cases e:j = n
  ·subst e
   rw [h] at hu
   cases hu
   exact .inr r
  ·exact .inl ⟨j,u,by omega,hu,r⟩
 ·rintro (⟨j,u,hj,hu,r⟩ | r)
  ·exact ⟨j,u,by omega,hu,r⟩
  ·exact ⟨n,t,by omega,h,r⟩
theorem zUr {ss:List Sd} {x y g:Int} (hg:0 < g):wayB ss (x * g) (y * g) = wayB ss x y:=by
 unfold wayB
 congr 1
 funext t
 refine decide_eq_decide.mpr ?_
 have e:t.2.1 * (x * g) + t.2.2.1 * (y * g) = (t.2.1 * x + t.2.2.1 * y) * g:=by rw [Int.add_mul,Int.mul_assoc,Int.mul_assoc]
 rw [e]
 constructor
 ·intro h
  by_cases c:t.2.1 * x + t.2.2.1 * y≤0
  ·exact c
  ·have:=Int.mul_pos (show 0 < t.2.1 * x + t.2.2.1 * y by omega) hg
   omega
 ·intro h
  have:=Int.mul_nonneg (show 0≤-(t.2.1 * x + t.2.2.1 * y) by omega) (Int.le_of_lt hg)
  rw [Int.neg_mul] at this
  omega
theorem gcd2 {x y:Int} (n:x≠0∨y≠0) (m0:x.natAbs≤10 ^ 9) (m1:y.natAbs≤10 ^ 9):0 < gcdL [x,y]∧(gcdL [x,y]:Int) < 10 ^ 600:=by
 have gp:0 < gcdL [x,y]:=by
  rcases n with n | n
  ·exact zBz (n:=x) (by simp) n
  ·exact zBz (n:=y) (by simp) n
 have z:(gcdL [x,y]:Int)≤10 ^ 9:=by
  rcases n with n | n
  ·have:=zFp (ns:=[x,y]) (n:=x) (by simp) n
   omega
  ·have:=zFp (ns:=[x,y]) (n:=y) (by simp) n
   omega
 exact ⟨gp,Int.lt_of_le_of_lt z (by decide +kernel)⟩
theorem zOo {ss:List Sd} {x y:Int} (gp:0 < gcdL [x,y]):wayB ss (x / (gcdL [x,y]:Int)) (y / (gcdL [x,y]:Int)) = wayB ss x y:=by
 have gI:(0:Int) < (gcdL [x,y]:Int):=by omega
 have e1:=zBb (ns:=[x,y]) (n:=x) (by simp)
 have e2:=zBb (ns:=[x,y]) (n:=y) (by simp)
 have z:=zUr (ss:=ss) (x:=x / (gcdL [x,y]:Int)) (y:=y / (gcdL [x,y]:Int)) gI
 rw [e1,e2] at z
 exact z.symm
def keyI (ns:List Int):List Key:=ns.map Sum.inl
theorem zKg (ns:List Int):(keyI ns).map kV = ns.map V.int:=by
 unfold keyI
 rw [List.map_map]
 rfl
theorem zUi {a b:List Int} (h:keyI a = keyI b):a = b:=by
 have z:=congrArg (List.map kV) h
 rw [zKg,zKg] at z
 exact zLm z
structure TabK (kvs:List (List Key × V)) (ks:List (List Int)):Prop where
 keys:kvs.map (·.1) = ks.map keyI
 nodup:ks.Nodup
theorem TabK.nil:TabK [] []:=⟨rfl,List.nodup_nil⟩
theorem TabK.put {kvs:List (List Key × V)} {ks:List (List Int)} (h:TabK kvs ks) (k:List Int) (v:V):∃ ks',TabK (putK kvs (keyI k) v) ks'∧(∀ x,x∈ks'↔x∈ks∨x = k)∧ks'.length≤ks.length + 1:=by
 have hm:∀ kv∈kvs,∃ x∈ks,kv.1 = keyI x:=fun kv hkv=>by
  have z:kv.1∈ks.map keyI:=by rw [← h.keys]; exact List.mem_map_of_mem hkv
  obtain ⟨x,hx,e⟩:=List.mem_map.mp z
  exact ⟨x,hx,e.symm⟩
 unfold putK
 by_cases c:(kvs.any fun kv=>decide (kv.1 = keyI k)) = true
 ·rw [if_pos c]
  obtain ⟨kv,hkv,e⟩:=List.any_eq_true.mp c
  obtain ⟨x,hx,ex⟩:=hm kv hkv
  have exk:x = k:=zUi (ex.symm.trans (of_decide_eq_true e))
  refine ⟨ks,⟨?_,h.nodup⟩,fun y=>⟨.inl,fun z=>z.elim id fun z=>by rw [z,← exk]; exact hx⟩,Nat.le_succ _⟩
  rw [List.map_map,← h.keys]
  refine List.map_congr_left fun a _=>?_
  show (if a.1 = keyI k then (a.1,v) else a).1 = a.1
  split <;> rfl
 ·rw [if_neg c]
  have nk:k ∉ ks:=fun hk=>c (by
   have z:keyI k∈kvs.map (·.1):=by rw [h.keys]; exact List.mem_map_of_mem hk
   obtain ⟨kv,hkv,e⟩:=List.mem_map.mp z
   exact List.any_eq_true.mpr ⟨kv,hkv,decide_eq_true e⟩)
  refine ⟨ks ++ [k],⟨by rw [List.map_append,List.map_append,h.keys]; rfl,?_⟩,fun y=>by rw [List.mem_append,List.mem_singleton],by rw [List.length_append]; exact Nat.le_refl _⟩
  rw [List.nodup_append]
  refine ⟨h.nodup,by simp,fun a ha b hb=>?_⟩
  rw [List.mem_singleton] at hb
  intro e
  exact nk (hb ▸ e ▸ ha)
theorem TabK.len {kvs:List (List Key × V)} {ks:List (List Int)} (h:TabK kvs ks):kvs.length = ks.length:=by
 have z:=congrArg List.length h.keys
 rwa [List.length_map,List.length_map] at z
theorem TabK.refs {H:Hp} {kvs:List (List Key × V)} {ks:List (List Int)} {ts:List (Addr × List Key)} (h:TabK kvs ks) (e:ts.map (·.2) = kvs.map (·.1)) (ht:∀ t∈ts,H t.1 = some (.tup (t.2.map kV))) :
  ∃ us:List (Addr × List Int),us.map (·.1) = ts.map (·.1)∧us.map (·.2) = ks∧∀ u∈us,H u.1 = some (.tup (u.2.map V.int)):=by
 rw [h.keys] at e
 clear h
 induction ts generalizing ks with
 | nil =>
  cases ks with
  | nil=>exact ⟨[],rfl,rfl,fun u hu=>nomatch hu⟩
  | cons k ks=>exact absurd e (by simp)
 | cons t ts ih =>
  cases ks with
  | nil=>exact absurd e (by simp)
  | cons k ks =>
   rw [List.map_cons,List.map_cons] at e
   injection e with e1 e2
   obtain ⟨us,h1,h2,h3⟩:=ih e2 fun t' ht'=>ht t' (List.mem_cons_of_mem _ ht')
   refine ⟨(t.1,k) :: us,by rw [List.map_cons,List.map_cons,h1],by rw [List.map_cons,h2],fun u hu=>?_⟩
   rcases List.mem_cons.mp hu with rfl | hu
   ·have z:=ht t (List.mem_cons_self ..)
    rw [e1,zKg] at z
    exact z
   ·exact h3 u hu
structure WaysAt (H:Hp) (l:Addr) (ss:List Sd) (us:List (Addr × List Int)):Prop where
 at':H l = some (.lst ((us.map (·.1)).map V.ref))
 all:∀ u∈us,H u.1 = some (.tup (u.2.map V.int))
 rises:(us.map (·.2)).Pairwise (fun a b=>HT.lexLt b a = false)
 nodup:(us.map (·.2)).Nodup
 mem:∀ k,k∈us.map (·.2)↔WK ss ss.length k
 few:us.length≤80
structure SdSt (H0:Hp) (D:Addr) (ss:List Sd) (H:Hp):Prop where
 same:Same H0 H
 new:H0 D = none
 at':H D = some (.lst (zAm ss))
 all:SdOk H ss
theorem SdSt.app {H0 H H2:Hp} {D p:Addr} {ss:List Sd} {a b c:Int} (P:SdSt H0 D ss H) (s:Same H H2) (hp:H p = none) (ep:H2 p = some (.tup [.int a,.int b,.int c])) (n:a≠0∨b≠0) (ma:a.natAbs≤10 ^ 9) (mb:b.natAbs≤10 ^ 9) (mc:c.natAbs≤10 ^ 13) :
  SdSt H0 D (ss ++ [(p,a,b,c)]) (upd H2 D (.lst (zAm ss ++ [.ref p]))):=by
 have npD:p≠D:=fun e=>by rw [e,P.at'] at hp; cases hp
 refine ⟨(P.same.trans s).putNew P.new,P.new,by rw [zAc]; simp [zAm],fun t ht=>?_⟩
 rcases List.mem_append.mp ht with h | h
 ·obtain ⟨h1,h2⟩:=P.all t h
  refine ⟨?_,h2⟩
  rw [zA5 (zIb h1 P.at' (by intro z; cases z))]
  exact s _ _ h1
 ·rw [List.mem_singleton] at h
  subst h
  refine ⟨?_,n,ma,mb,mc⟩
  show upd H2 D _ p = _
  rw [zA5 npD]
  exact ep
theorem cutS {ok:Addr→List Sd→Hp→Prop} {G:Prop} {R:Addr→List Sd→Hp→Prop} (h1:(∀ D ss H,ok D ss H→R D ss H)→G) (h2:∀ D ss H,ok D ss H→R D ss H):G:=h1 h2
end Sea

namespace Sea
open PySem L2
theorem cm_l {i j:Int} (h:i.natAbs≤10 ^ 18):CMul i j:=.inl ⟨by omega,by omega⟩
theorem cm_r {i j:Int} (h:j.natAbs≤10 ^ 18):CMul i j:=.inr ⟨by omega,by omega⟩
abbrev P3:=Int × Int × Int
def sv (t p:P3):Int:=t.1 * p.1 + t.2.1 * p.2.1 - t.2.2 * p.2.2
def tn (e s:P3):Int:=e.1 * s.2.1 - e.2.1 * s.1
def dl (e p q:P3):Int:=e.1 * (p.2.1 * q.2.2 - q.2.1 * p.2.2) - e.2.1 * (p.1 * q.2.2 - q.1 * p.2.2)
theorem zVd (a b u v X Y:Int):(a * a + b * b) * (u * X + v * Y) = (a * Y - b * X) * (a * v - b * u) + (a * X + b * Y) * (a * u + b * v):=by
 simp only [Int.mul_sub,Int.sub_mul,Int.mul_add,Int.add_mul,Int.mul_comm,Int.mul_left_comm]
 omega
theorem zL8 (s p q:P3):sv s p * q.2.2 - sv s q * p.2.2 = s.1 * (p.1 * q.2.2 - q.1 * p.2.2) + s.2.1 * (p.2.1 * q.2.2 - q.2.1 * p.2.2):=by
 unfold sv
 simp only [Int.mul_sub,Int.sub_mul,Int.add_mul,Int.mul_add,Int.mul_comm,Int.mul_left_comm]
 omega
theorem zQ6 {e p q:P3} (hp:sv e p = 0) (hq:sv e q = 0) (s:P3):(e.1 * e.1 + e.2.1 * e.2.1) * (sv s p * q.2.2 - sv s q * p.2.2) = dl e p q * tn e s:=by
 have z:=zL8 e p q
 rw [hp,hq,Int.zero_mul,Int.zero_mul,Int.sub_self] at z
 rw [zL8 s p q,zVd,← z,Int.zero_mul,Int.add_zero]
 rfl
theorem zOu {x y h:Int} (hh:h * h = 1):(x * h) * (y * h) = x * y:=by
 have e:(x * h) * (y * h) = x * y * (h * h):=by simp only [Int.mul_comm,Int.mul_left_comm]
 rw [e,hh,Int.mul_one]
theorem zP2 {e p q:P3} {h:Int} (hh:h * h = 1) (hN:0 < e.1 * e.1 + e.2.1 * e.2.1) (hp:sv e p = 0) (hq:sv e q = 0) (pw:0 < p.2.2) (qw:0 < q.2.2) (s:P3) (hs:(dl e p q * h) * (tn e s * h)≤0) (hv:sv s q≤0):sv s p≤0:=by
 have k:=zQ6 hp hq s
 rw [← zOu (x:=dl e p q) (y:=tn e s) hh] at k
 rw [← k] at hs
 have h1:sv s p * q.2.2 - sv s q * p.2.2≤0:=by
  by_cases c:sv s p * q.2.2 - sv s q * p.2.2≤0
  ·exact c
  ·have:=Int.mul_pos hN (show 0 < sv s p * q.2.2 - sv s q * p.2.2 by omega)
   omega
 have h2:sv s q * p.2.2≤0:=by
  have:=Int.mul_nonneg (show 0≤-sv s q by omega) (Int.le_of_lt pw)
  rw [Int.neg_mul] at this
  omega
 by_cases c:sv s p≤0
 ·exact c
 ·have:=Int.mul_pos (show 0 < sv s p by omega) qw
  omega
theorem dl_ge {e p q s:P3} {h:Int} (hh:h * h = 1) (hN:0 < e.1 * e.1 + e.2.1 * e.2.1) (hp:sv e p = 0) (hq:sv e q = 0) (pw:0 < p.2.2) (h0:sv s p = 0) (hv:sv s q≤0) (ht:0 < tn e s * h):0≤dl e p q * h:=by
 have k:=zQ6 hp hq s
 rw [h0,Int.zero_mul,← zOu (x:=dl e p q) (y:=tn e s) hh] at k
 have h2:0≤-sv s q * p.2.2:=Int.mul_nonneg (by omega) (Int.le_of_lt pw)
 rw [Int.neg_mul] at h2
 have h3:=Int.mul_nonneg (Int.le_of_lt hN) (show 0≤0 - sv s q * p.2.2 by omega)
 rw [k] at h3
 by_cases c:0≤dl e p q * h
 ·exact c
 ·have:=Int.mul_pos (show 0 < -(dl e p q * h) by omega) ht
  rw [Int.neg_mul] at this
  omega
theorem dl_le {e p q s:P3} {h:Int} (hh:h * h = 1) (hN:0 < e.1 * e.1 + e.2.1 * e.2.1) (hp:sv e p = 0) (hq:sv e q = 0) (pw:0 < p.2.2) (h0:sv s p = 0) (hv:0 < sv s q) (ht:0 < tn e s * h):dl e p q * h≤0:=by
 have k:=zQ6 hp hq s
 rw [h0,Int.zero_mul,← zOu (x:=dl e p q) (y:=tn e s) hh] at k
 have h2:=Int.mul_pos hv pw
 have h3:=Int.mul_nonneg (Int.le_of_lt hN) (show 0≤sv s q * p.2.2 by omega)
 have h4:(e.1 * e.1 + e.2.1 * e.2.1) * (0 - sv s q * p.2.2) = -((e.1 * e.1 + e.2.1 * e.2.1) * (sv s q * p.2.2)):=by rw [Int.zero_sub,Int.mul_neg]
 rw [h4] at k
 by_cases c:dl e p q * h≤0
 ·exact c
 ·have:=Int.mul_pos (show 0 < dl e p q * h by omega) ht
  omega
def pt3 (l:List Int):P3:=match l with
 | [x,y,w]=>(x,y,w)
 | _=>(0,0,1)
def crL (e s:P3):List Int:=lowL (upL (e.2.2 * s.2.1 - e.2.1 * s.2.2) (e.1 * s.2.2 - e.2.2 * s.1) (e.1 * s.2.1 - e.2.1 * s.1))
def ftL (t:P3):List Int:=lowL (upL (t.1 * t.2.2) (t.2.1 * t.2.2) (t.1 * t.1 + t.2.1 * t.2.1))
structure zUw (l:List Int) (p:P3):Prop where
 list:l = [p.1,p.2.1,p.2.2]
 pos:0 < p.2.2
 low:Nat.gcd (Nat.gcd p.1.natAbs p.2.1.natAbs) p.2.2.natAbs = 1
theorem zFa {e s:P3} (h:tn e s≠0):zUw (crL e s) (pt3 (crL e s))∧sv e (pt3 (crL e s)) = 0∧sv s (pt3 (crL e s)) = 0:=by
 obtain ⟨x,y,w,el,sp⟩:=zH3 (X:=e.2.2 * s.2.1 - e.2.1 * s.2.2) (Y:=e.1 * s.2.2 - e.2.2 * s.1) (W:=e.1 * s.2.1 - e.2.1 * s.1) h
 have e1:crL e s = [x,y,w]:=el
 rw [e1]
 refine ⟨⟨rfl,by have:=sp.pos; show 0 < w; omega,sp.low⟩,?_,?_⟩
 ·have z:=zMd (A:=e.1) (B:=e.2.1) (C:=e.2.2) h sp (zSs e.1 e.2.1 e.2.2 s.1 s.2.1 s.2.2)
  show e.1 * x + e.2.1 * y - e.2.2 * w = 0
  omega
 ·have z:=zMd (A:=s.1) (B:=s.2.1) (C:=s.2.2) h sp (zTc e.1 e.2.1 e.2.2 s.1 s.2.1 s.2.2)
  show s.1 * x + s.2.1 * y - s.2.2 * w = 0
  omega
theorem zEy {t:P3} (h:t.1≠0∨t.2.1≠0):0 < t.1 * t.1 + t.2.1 * t.2.1:=zKf h
theorem zR0 {t:P3} (h:t.1≠0∨t.2.1≠0):zUw (ftL t) (pt3 (ftL t))∧sv t (pt3 (ftL t)) = 0:=by
 have hw:=zEy h
 obtain ⟨x,y,w,el,sp⟩:=zH3 (X:=t.1 * t.2.2) (Y:=t.2.1 * t.2.2) (W:=t.1 * t.1 + t.2.1 * t.2.1) (by omega)
 have e1:ftL t = [x,y,w]:=el
 rw [e1]
 refine ⟨⟨rfl,by have:=sp.pos; show 0 < w; omega,sp.low⟩,?_⟩
 have z:=zMd (A:=t.1) (B:=t.2.1) (C:=t.2.2) (show t.1 * t.1 + t.2.1 * t.2.1≠0 by omega) sp (by simp only [Int.mul_add,Int.mul_comm,Int.mul_left_comm])
 show t.1 * x + t.2.1 * y - t.2.2 * w = 0
 omega
def inW (ss:List Sd) (p:P3):Prop:=∀ t∈ss,sv t.2 p≤0
def zI4 (ss:List Sd) (e:P3) (h:Int):Option Nat→Prop
 | none=>∀ t∈ss,tn e t.2 * h≤0
 | some j=>∃ t,ss[j]? = some t∧0 < tn e t.2 * h∧∀ u∈ss,0 < tn e u.2 * h→sv u.2 (pt3 (crL e t.2))≤0
theorem zCd {x h:Int} (h0:0 < x * h):x≠0:=fun z=>by rw [z,Int.zero_mul] at h0; exact absurd h0 (by decide)
theorem zMv {ss:List Sd} {e z:P3} {h:Int} {j:Nat} {t:Sd} (hh:h * h = 1) (hN:0 < e.1 * e.1 + e.2.1 * e.2.1) (hz:sv e z = 0) (zw:0 < z.2.2) (wz:inW ss z) (gt:ss[j]? = some t) (h0:0 < tn e t.2 * h) (ha:∀ u∈ss,0 < tn e u.2 * h→sv u.2 (pt3 (crL e t.2))≤0):inW ss (pt3 (crL e t.2)):=fun u hu=>by
 obtain ⟨sp,c1,c2⟩:=zFa (zCd h0)
 by_cases hp:0 < tn e u.2 * h
 ·exact ha u hu hp
 ·have d0:=dl_ge hh hN c1 hz sp.pos c2 (wz t (List.mem_of_getElem? gt)) h0
  refine zP2 hh hN c1 hz sp.pos zw u.2 ?_ (wz u hu)
  have:=Int.mul_nonneg d0 (show 0≤-(tn e u.2 * h) by omega)
  rw [Int.mul_neg] at this
  omega
theorem zNx {ss:List Sd} {e z p:P3} (hN:0 < e.1 * e.1 + e.2.1 * e.2.1) (hz:sv e z = 0) (zw:0 < z.2.2) (wz:inW ss z) (hp:sv e p = 0) (pw:0 < p.2.2) (n1:zI4 ss e 1 none) (n2:zI4 ss e (-1) none):inW ss p:=fun u hu=>by
 have e1:=n1 u hu
 have e2:=n2 u hu
 rw [Int.mul_one] at e1
 have e0:tn e u.2 = 0:=by
  rw [Int.mul_neg,Int.mul_one] at e2
  omega
 refine zP2 (h:=1) (by decide) hN hp hz pw zw u.2 ?_ (wz u hu)
 rw [e0,Int.zero_mul,Int.mul_zero]
 exact Int.le_refl _
theorem zSh (t p z:P3) (b a:Int):sv t (b * p.1 + a * z.1,b * p.2.1 + a * z.2.1,b * p.2.2 + a * z.2.2) = b * sv t p + a * sv t z:=by
 unfold sv
 simp only [Int.mul_sub,Int.mul_add,Int.mul_comm,Int.mul_left_comm]
 omega
theorem zSw {ss:List Sd} {e p z:P3} (wp:inW ss p) (wz:inW ss z) (pw:0 < p.2.2) (zw:0 < z.2.2) (hp:0 < sv e p) (hz:sv e z≤0):∃ m:P3,sv e m = 0∧0 < m.2.2∧inW ss m:=by
 refine ⟨(-sv e z * p.1 + sv e p * z.1,-sv e z * p.2.1 + sv e p * z.2.1,-sv e z * p.2.2 + sv e p * z.2.2),?_,?_,fun t ht=>?_⟩
 ·rw [zSh,Int.neg_mul,Int.mul_comm (sv e p)]
  omega
 ·have h1:=Int.mul_nonneg (show 0≤-sv e z by omega) (Int.le_of_lt pw)
  have h2:=Int.mul_pos hp zw
  show 0 < -sv e z * p.2.2 + sv e p * z.2.2
  omega
 ·rw [zSh]
  have h1:=Int.mul_nonneg (show 0≤-sv e z by omega) (show 0≤-sv t.2 p by have:=wp t ht; omega)
  have h2:=Int.mul_nonneg (Int.le_of_lt hp) (show 0≤-sv t.2 z by have:=wz t ht; omega)
  rw [Int.mul_neg] at h1 h2
  omega
end Sea

namespace L2
open PySem PySem.Spec PyProof.Rows
section
variable {X:Cx} {pos:Pos}
def tPar3 (i j k:Nat) (ta:TA):TS:=fun D σ H=>ta σ H fun vs H1=>∃ u v w,vs = [u,v,w]∧D.nx (((σ.set i (some u)).set j (some v)).set k (some w)) H1
theorem zWb {i j k:Nat} {x y z:Str} {a b c:Expr} {ta:TA} {px py pz pt:Pos} {kt k2 pt2} (hc:X.calm = true) (hN:X.N.Nodup) (hi:X.N[i]? = some x) (hj:X.N[j]? = some y) (hk:X.N[k]? = some z) (hij:i≠j) (hik:i≠k) (hjk:j≠k)
  (hx:X.env.scope.names.lookup x = some .local) (hy:X.env.scope.names.lookup y = some .local) (hz:X.env.scope.names.lookup z = some .local) (ha:PA X [a,b,c] ta)
  (hw:swappedStores [.Tuple [.Name x px,.Name y py,.Name z pz] kt pt] (.Tuple [a,b,c] k2 pt2) X.env = pure (some [x,y,z]))
  (hs:swapsWithSole [.Tuple [.Name x px,.Name y py,.Name z pz] kt pt] (.Tuple [a,b,c] k2 pt2) pos.line X.env = pure false:=by rfl) :
  PS X (.Assign [.Tuple [.Name x px,.Name y py,.Name z pz] kt pt] (.Tuple [a,b,c] k2 pt2) pos) (tPar3 i j k ta):=by
 intro pins s σ H D I h
 rw [exec_Assign_arm]
 refine wpAny_bind (wpAny_standAt ?_)
 rw [hs]
 refine wpAny_bind (wpAny_pure ?_)
 rw [if_neg (by decide)]
 refine wpAny_bind (Tuple_ (thn (ha _ pins s σ H _ I h) fun us s1 ⟨vs,H1,I1,r1,q1⟩=>?_))
 obtain ⟨u,v,t,e1,q1⟩:=q1
 subst e1
 obtain ⟨u1,u2,u3,rfl,ru,rv,rt⟩:∃ u1 u2 u3,us = [u1,u2,u3]∧RelV u u1∧RelV v u2∧RelV t u3:=by
  cases r1 with
  | cons p q =>
   cases q with
   | cons p' q' =>
    cases q' with
    | cons p'' q'' =>
     cases q''
     exact ⟨_,_,_,rfl,p,p',p''⟩
 refine wpAny_newObj_type ?_ (by show 3≤sizeLine; decide)
 have I2:Inv X pins σ H1 { s1 with heap:=s1.heap.push { cls:=.type "tuple", data:=.seq [u1,u2,u3].toArray } }:=I1.kept (t':=s1.toks) fun b o e=>Heap.get?_push_of_some _ e
 rw [hw]
 refine wpAny_bind (wpAny_pure ?_)
 show wpAny (model X.prog X.w) X.A (do rule "assign.swapped-stores"; let items ← unpackItems (.ref s1.heap.objs.size) 3 none; assignInOrder [fun v=>bindName X.env z v,fun v=>bindName X.env y v,fun v=>bindName X.env x v] items.reverse; pure Flow.next) _ _ _
 refine wpAny_bind (wpAny_rule (wpAny_bind (unpackItems_tuple (items:=#[u1,u2,u3]) (I.ok.hd hc) (IsTup.new s1.heap _) fun h' hx'=>?_)))
 have I3:=I2.kept (h':=h') (t':=s1.toks) fun b o e=>hx' b o (Nat.ne_of_lt (Heap.lt_size e)) e
 show wpAny _ _ (assignInOrder [fun v=>bindName X.env z v,fun v=>bindName X.env y v,fun v=>bindName X.env x v] [u3,u2,u1] >>= fun _=>pure Flow.next) _ _ _
 refine wpAny_bind (assignInOrder_cons (wpAny_bindName (zFm I3 hN hk (.inl hz) rt (fun s2 I4=>?_) (.inr hz))))
 refine assignInOrder_cons (wpAny_bindName (zFm I4 hN hj (.inl hy) rv (fun s3 I5=>?_) (.inr hy)))
 refine assignInOrder_cons (wpAny_bindName (zFm I5 hN hi (.inl hx) ru (fun s4 I6=>assignInOrder_nil (wpAny_pure ?_)) (.inr hx)))
 rw [List.set_comm (some t) (some v) (Ne.symm hjk),List.set_comm (some t) (some u) (Ne.symm hik),List.set_comm (some v) (some u) (Ne.symm hij)] at I6
 exact ⟨_,H1,I6,q1⟩
end
end L2
namespace Sea
open PySem L2
theorem zSv (ss:List Sd) (n:Nat):cutV (zAm ss) (some (n:Int)) none = zAm (ss.drop n):=by
 unfold cutV
 rw [HT.sIx_nat (zAm ss).length 0 n,show HT.sIx (zAm ss).length (zAm ss).length none = (zAm ss).length from rfl,List.take_of_length_le (by rw [List.length_drop] <;> omega)]
 rw [zAk]
 simp only [zAm,← List.map_drop]
 congr 2
 by_cases h:n≤ss.length
 ·rw [Nat.min_eq_left h]
 ·rw [Nat.min_eq_right (by omega),List.drop_length,List.drop_eq_nil_of_le (by omega)]
theorem zEh (ss:List Sd):zAm ss = ss.map fun t=>V.ref t.1:=by simp [zAm]
theorem zVm {e s:P3} (h:tn e s≠0):crL e s = crL s e:=by
 unfold crL
 have e1:s.2.2 * e.2.1 - s.2.1 * e.2.2 = -(e.2.2 * s.2.1 - e.2.1 * s.2.2):=by rw [Int.mul_comm s.2.2,Int.mul_comm s.2.1]; omega
 have e2:s.1 * e.2.2 - s.2.2 * e.1 = -(e.1 * s.2.2 - e.2.2 * s.1):=by rw [Int.mul_comm s.1,Int.mul_comm s.2.2]; omega
 have e3:s.1 * e.2.1 - s.2.1 * e.1 = -(e.1 * s.2.1 - e.2.1 * s.1):=by rw [Int.mul_comm s.1,Int.mul_comm s.2.1]; omega
 rw [e1,e2,e3,zVq (show e.1 * s.2.1 - e.2.1 * s.1≠0 from h)]
end Sea

namespace Sea
open PySem L2
theorem zV5 (e p q:P3):dl e p q = -dl e q p:=by
 unfold dl
 simp only [Int.mul_sub]
 omega
def Cor (ss:List Sd) (P:P3):Prop:=∃ t∈ss,∃ u∈ss,tn t.2 u.2≠0∧P = pt3 (crL t.2 u.2)∧inW ss P
def zM6 (ss:List Sd) (e:P3) (h:Int) (qs:List P3):Prop:=zI4 ss e h none∨∃ (j:Nat) (t:Sd),ss[j]? = some t∧0 < tn e t.2 * h∧(∀ u∈ss,0 < tn e u.2 * h→sv u.2 (pt3 (crL e t.2))≤0)∧pt3 (crL e t.2)∈qs
theorem zM6.app {ss:List Sd} {e:P3} {h:Int} {qs rs:List P3} (f:zM6 ss e h qs):zM6 ss e h (qs ++ rs):=by
 rcases f with f | ⟨j,t,g,p,a,m⟩
 ·exact .inl f
 ·exact .inr ⟨j,t,g,p,a,List.mem_append_left _ m⟩
theorem zUe {e s:P3} (h:tn e s≠0) (b1:e.1.natAbs≤10 ^ 9) (b2:e.2.1.natAbs≤10 ^ 9) (b3:e.2.2.natAbs≤10 ^ 13) (c1:s.1.natAbs≤10 ^ 9) (c2:s.2.1.natAbs≤10 ^ 9) (c3:s.2.2.natAbs≤10 ^ 13) :
  (pt3 (crL e s)).1.natAbs≤10 ^ 40∧(pt3 (crL e s)).2.1.natAbs≤10 ^ 40∧(pt3 (crL e s)).2.2.natAbs≤10 ^ 40:=by
 obtain ⟨x,y,w,el,sp⟩:=zH3 (X:=e.2.2 * s.2.1 - e.2.1 * s.2.2) (Y:=e.1 * s.2.2 - e.2.2 * s.1) (W:=e.1 * s.2.1 - e.2.1 * s.1) h
 have e1:crL e s = [x,y,w]:=el
 rw [e1]
 have z1:=zAj e.2.2 s.2.1 b3 c2
 have z2:=zAj e.2.1 s.2.2 b2 c3
 have z3:=zAj e.1 s.2.2 b1 c3
 have z4:=zAj e.2.2 s.1 b3 c1
 have z5:=zAj e.1 s.2.1 b1 c2
 have z6:=zAj e.2.1 s.1 b2 c1
 have x1:=sp.xle
 have x2:=sp.yle
 have x3:=sp.wle
 refine ⟨?_,?_,?_⟩
 ·show x.natAbs≤10 ^ 40
  omega
 ·show y.natAbs≤10 ^ 40
  omega
 ·show w.natAbs≤10 ^ 40
  omega
end Sea

namespace Sea
open PySem L2
def absI (x:Int):Int:=if x < 0 then -x else x
def zBx (a b:Int):Int:=absI a + absI b
theorem zE9 {a b:Int} (h:a≠0∨b≠0):0 < zBx a b:=by
 unfold zBx absI
 split <;> split <;> omega
theorem par {e1 e2 s1 s2:Int} (h:e1 * s2 = e2 * s1) (hs:e2 * s2≤0):absI e2 * s1 + absI s2 * e1 = 0:=by
 unfold absI
 rw [Int.mul_comm e1 s2] at h
 by_cases c:e2 < 0
 ·rw [if_pos c]
  by_cases d:s2 < 0
  ·have:=Int.mul_pos_of_neg_of_neg c d
   omega
  ·rw [if_neg d,Int.neg_mul]
   omega
 ·rw [if_neg c]
  by_cases d:s2 < 0
  ·rw [if_pos d,Int.neg_mul]
   omega
  ·rw [if_neg d]
   have z:e2 * s2 = 0:=by
    have:=Int.mul_nonneg (show 0≤e2 by omega) (show 0≤s2 by omega)
    omega
   rcases Int.mul_eq_zero.mp z with z | z
   ·rw [z,Int.zero_mul] at h
    rw [z,Int.zero_mul,h]
    rfl
   ·rw [z,Int.zero_mul] at h
    rw [z,Int.zero_mul,← h]
    rfl
theorem zLw {x y:Int} (h:x + y < 0) (hp:0≤x * y):x≤0∧y≤0:=by
 by_cases cx:x≤0
 ·by_cases cy:y≤0
  ·exact ⟨cx,cy⟩
  ·by_cases c0:x = 0
   ·omega
   ·have:=Int.mul_neg_of_neg_of_pos (show x < 0 by omega) (show 0 < y by omega)
    omega
 ·by_cases cy:y < 0
  ·have:=Int.mul_neg_of_pos_of_neg (show 0 < x by omega) cy
   omega
  ·omega
theorem sq_nn (x:Int):0≤x * x:=by
 by_cases h:0≤x
 ·exact Int.mul_nonneg h h
 ·exact Int.le_of_lt (Int.mul_pos_of_neg_of_neg (by omega) (by omega))
theorem zUq {e s f P:P3} (ht:tn e s = 0) (hN:0 < e.1 * e.1 + e.2.1 * e.2.1) (he:e.1≠0∨e.2.1≠0) (fw:0 < f.2.2) (pw:0 < P.2.2) (h1:sv e f = 0) (h2:0 < sv s f) (h3:sv s P≤0) (h4:0 < sv e P) :
  zBx e.1 e.2.1 * s.1 + zBx s.1 s.2.1 * e.1 = 0∧zBx e.1 e.2.1 * s.2.1 + zBx s.1 s.2.1 * e.2.1 = 0∧zBx e.1 e.2.1 * s.2.2 + zBx s.1 s.2.1 * e.2.2 < 0:=by
 have d1:=zL8 e P f
 have d2:=zL8 s P f
 rw [h1,Int.zero_mul] at d1
 have p1:=Int.mul_pos h4 fw
 have p2:=Int.mul_pos h2 pw
 have p3:sv s P * f.2.2≤0:=by
  have:=Int.mul_nonneg (show 0≤-sv s P by omega) (Int.le_of_lt fw)
  rw [Int.neg_mul] at this
  omega
 have k:=zVd e.1 e.2.1 s.1 s.2.1 (P.1 * f.2.2 - f.1 * P.2.2) (P.2.1 * f.2.2 - f.2.1 * P.2.2)
 rw [← d1,← d2,show e.1 * s.2.1 - e.2.1 * s.1 = 0 from ht,Int.mul_zero,Int.zero_add] at k
 have n1:(e.1 * e.1 + e.2.1 * e.2.1) * (sv s P * f.2.2 - sv s f * P.2.2) < 0:=Int.mul_neg_of_pos_of_neg hN (by omega)
 rw [k] at n1
 have dot:e.1 * s.1 + e.2.1 * s.2.1 < 0:=by
  by_cases c:e.1 * s.1 + e.2.1 * s.2.1 < 0
  ·exact c
  ·have:=Int.mul_nonneg (show 0≤sv e P * f.2.2 - 0 by omega) (show 0≤e.1 * s.1 + e.2.1 * s.2.1 by omega)
   omega
 have cr:e.1 * s.2.1 = e.2.1 * s.1:=by unfold tn at ht; omega
 have pr:0≤(e.1 * s.1) * (e.2.1 * s.2.1):=by
  have e0:(e.1 * s.1) * (e.2.1 * s.2.1) = (e.1 * s.2.1) * (e.2.1 * s.1):=by simp only [Int.mul_comm,Int.mul_left_comm]
  rw [e0,← cr]
  exact sq_nn _
 obtain ⟨o1,o2⟩:=zLw dot pr
 have a1:=par (e1:=e.1) (e2:=e.1) (s1:=s.1) (s2:=s.1) rfl o1
 have a2:=par (e1:=e.1) (e2:=e.2.1) (s1:=s.1) (s2:=s.2.1) cr o2
 have a3:=par (e1:=e.2.1) (e2:=e.1) (s1:=s.2.1) (s2:=s.1) cr.symm o1
 have a4:=par (e1:=e.2.1) (e2:=e.2.1) (s1:=s.2.1) (s2:=s.2.1) rfl o2
 have z1:zBx e.1 e.2.1 * s.1 + zBx s.1 s.2.1 * e.1 = 0:=by
  unfold zBx
  rw [Int.add_mul,Int.add_mul]
  omega
 have z2:zBx e.1 e.2.1 * s.2.1 + zBx s.1 s.2.1 * e.2.1 = 0:=by
  unfold zBx
  rw [Int.add_mul,Int.add_mul]
  omega
 refine ⟨z1,z2,?_⟩
 have up:=zE9 he
 generalize zBx e.1 e.2.1 = u at z1 z2 up ⊢
 generalize zBx s.1 s.2.1 = v at z1 z2 ⊢
 have q:(u * s.2.2 + v * e.2.2) * f.2.2 = (u * s.1 + v * e.1) * f.1 + (u * s.2.1 + v * e.2.1) * f.2.1 - u * sv s f - v * sv e f:=by
  unfold sv
  simp only [Int.mul_sub,Int.mul_add,Int.add_mul,Int.mul_comm,Int.mul_left_comm]
  omega
 rw [z1,z2,h1,Int.zero_mul,Int.zero_mul,Int.mul_zero] at q
 have q2:=Int.mul_pos up h2
 by_cases c:u * s.2.2 + v * e.2.2 < 0
 ·exact c
 ·have:=Int.mul_nonneg (show 0≤u * s.2.2 + v * e.2.2 by omega) (Int.le_of_lt fw)
  omega
structure zTu (ss:List Sd) (j:Nat) (e:Sd) (P:P3):Prop where
 at':ss[j]? = some e
 pos:0 < P.2.2
 ahead:inW (ss.take j) P
 out:0 < sv e.2 P
 no:∀ z:P3,sv e.2 z = 0→0 < z.2.2→¬ inW (ss.take j) z
theorem zTu.none {ss:List Sd} {j:Nat} {e:Sd} {P:P3} (S:zTu ss j e P) (z:P3) (zw:0 < z.2.2):¬ inW ss z:=fun wz=>by
 obtain ⟨m,m1,m2,m3⟩:=zSw S.ahead (fun u hu=>wz u (List.mem_of_mem_take hu)) S.pos zw S.out (wz e (List.mem_of_getElem? S.at'))
 exact S.no m m1 m2 m3
theorem zMo {e p f s:P3} (hN:0 < e.1 * e.1 + e.2.1 * e.2.1) (hp:sv e p = 0) (hf:sv e f = 0) (pw:0 < p.2.2) (fw:0 < f.2.2) (ht:tn e s = 0) (hs:sv s f≤0):sv s p≤0:=by
 refine zP2 (h:=1) (by decide) hN hp hf pw fw s ?_ hs
 rw [ht,Int.zero_mul,Int.mul_zero]
 exact Int.le_refl _
theorem zJn {x h:Int} : x * -h = -(x * h):=Int.mul_neg _ _
theorem zOw {ss:List Sd} {e f:P3} {h:Int} (hh:h * h = 1) (hN:0 < e.1 * e.1 + e.2.1 * e.2.1) (hf:sv e f = 0) (fw:0 < f.2.2) (no:∀ z:P3,sv e z = 0→0 < z.2.2→¬ inW ss z) (bes:∀ t∈ss,tn e t.2 = 0→sv t.2 f≤0) {r:Option Nat} (n:zI4 ss e h none) (o:zI4 ss e (-h) r):False:=by
 cases r with
 | none =>
  refine no f hf fw fun t ht=>bes t ht ?_
  have a:=n t ht
  have b:=o t ht
  rw [zJn] at b
  have z:tn e t.2 * h = 0:=by omega
  rcases Int.mul_eq_zero.mp z with z | z
  ·exact z
  ·rw [z] at hh
   exact absurd hh (by decide)
 | some j =>
  obtain ⟨t,gt,hp,ha⟩:=o
  obtain ⟨sp,c1,c2⟩:=zFa (zCd hp)
  refine no _ c1 sp.pos fun u hu=>?_
  by_cases c:0 < tn e u.2 * -h
  ·exact ha u hu c
  ·have a:=n u hu
   rw [zJn] at c
   have z:tn e u.2 * h = 0:=by omega
   rcases Int.mul_eq_zero.mp z with z | z
   ·exact zMo hN c1 hf sp.pos fw z (bes u hu z)
   ·rw [z] at hh
    exact absurd hh (by decide)
theorem three {ss:List Sd} {e f P:P3} {a b:Sd} {h:Int} (hh:h * h = 1) (hN:0 < e.1 * e.1 + e.2.1 * e.2.1) (hf:sv e f = 0) (fw:0 < f.2.2) (no:∀ z:P3,sv e z = 0→0 < z.2.2→¬ inW ss z) (bes:∀ t∈ss,tn e t.2 = 0→sv t.2 f≤0)
  (ma:a∈ss) (mb:b∈ss) (ha:0 < tn e a.2 * h) (hb:0 < tn e b.2 * -h) (ta:∀ u∈ss,0 < tn e u.2 * h→sv u.2 (pt3 (crL e a.2))≤0) (tb:∀ u∈ss,0 < tn e u.2 * -h→sv u.2 (pt3 (crL e b.2))≤0)
  (pw:0 < P.2.2) (wP:inW ss P) (oP:0 < sv e P) :
  0 < tn b.2 e * h∧0 < tn e a.2 * h∧0 < tn a.2 b.2 * h∧(tn b.2 e * a.2.2.2 + tn e a.2 * b.2.2.2 + tn a.2 b.2 * e.2.2) * h < 0:=by
 obtain ⟨sa,a1,a2⟩:=zFa (zCd ha)
 obtain ⟨sb,b1,b2⟩:=zFa (zCd hb)
 have hh' : -h * -h = 1:=by rw [Int.neg_mul_neg]; exact hh
 have outb:0 < sv b.2 (pt3 (crL e a.2)):=by
  by_cases c:0 < sv b.2 (pt3 (crL e a.2))
  ·exact c
  ·refine absurd ?_ (no _ a1 sa.pos)
   have d:=dl_ge hh' hN b1 a1 sb.pos b2 (show sv b.2 (pt3 (crL e a.2))≤0 by omega) hb
   intro u hu
   by_cases c1:0 < tn e u.2 * h
   ·exact ta u hu c1
   ·by_cases c2:0 < tn e u.2 * -h
    ·refine zP2 hh' hN a1 b1 sa.pos sb.pos u.2 ?_ (tb u hu c2)
     rw [zV5,Int.neg_mul] 
     have:=Int.mul_nonneg d (Int.le_of_lt c2)
     rw [Int.neg_mul]
     omega
    ·rw [zJn] at c2
     have z:tn e u.2 * h = 0:=by omega
     rcases Int.mul_eq_zero.mp z with z | z
     ·exact zMo hN a1 hf sa.pos fw z (bes u hu z)
     ·rw [z] at hh
      exact absurd hh (by decide)
 have A:0 < tn b.2 e * h:=by
  rw [zJn] at hb
  have z:tn b.2 e = -tn e b.2:=by unfold tn; rw [Int.mul_comm b.2.1,Int.mul_comm b.2.2.1]; omega
  rw [z,Int.neg_mul]
  omega
 have S:∀ z:P3,tn b.2 e * sv a.2 z + tn e a.2 * sv b.2 z + tn a.2 b.2 * sv e z = -((tn b.2 e * a.2.2.2 + tn e a.2 * b.2.2.2 + tn a.2 b.2 * e.2.2) * z.2.2):=fun z=>by
  unfold tn sv
  simp only [Int.mul_sub,Int.sub_mul,Int.mul_add,Int.add_mul,Int.mul_comm,Int.mul_left_comm]
  omega
 have k1:=S (pt3 (crL e a.2))
 rw [a1,a2,Int.mul_zero,Int.mul_zero,Int.zero_add,Int.add_zero] at k1
 have k2:=S P
 generalize tn b.2 e * a.2.2.2 + tn e a.2 * b.2.2.2 + tn a.2 b.2 * e.2.2 = M at k1 k2 ⊢
 have m1:M * h < 0:=by
  have p:=Int.mul_pos ha outb
  have e1:tn e a.2 * h * sv b.2 (pt3 (crL e a.2)) = -(M * h * (pt3 (crL e a.2)).2.2):=by
   rw [Int.mul_right_comm,k1,Int.neg_mul,Int.mul_right_comm]
  rw [e1] at p
  by_cases c:M * h < 0
  ·exact c
  ·have:=Int.mul_nonneg (show 0≤M * h by omega) (Int.le_of_lt sa.pos)
   omega
 refine ⟨A,ha,?_,m1⟩
 have e2:tn b.2 e * h * sv a.2 P + tn e a.2 * h * sv b.2 P + tn a.2 b.2 * h * sv e P = -(M * h * P.2.2):=by
  have z:(tn b.2 e * sv a.2 P + tn e a.2 * sv b.2 P + tn a.2 b.2 * sv e P) * h = -(M * P.2.2) * h:=by rw [k2]
  rw [Int.neg_mul,Int.mul_right_comm M] at z
  rw [← z,Int.add_mul,Int.add_mul,Int.mul_right_comm,Int.mul_right_comm (tn e a.2),Int.mul_right_comm (tn a.2 b.2)]
 have x1:=Int.mul_nonneg (Int.le_of_lt A) (show 0≤-sv a.2 P by have:=wP a ma; omega)
 have x2:=Int.mul_nonneg (Int.le_of_lt ha) (show 0≤-sv b.2 P by have:=wP b mb; omega)
 have x3:=Int.mul_pos (show 0 < -(M * h) by omega) pw
 rw [Int.mul_neg] at x1 x2
 rw [Int.neg_mul] at x3
 by_cases c:0 < tn a.2 b.2 * h
 ·exact c
 ·have:=Int.mul_nonneg (show 0≤-(tn a.2 b.2 * h) by omega) (Int.le_of_lt oP)
  rw [Int.neg_mul] at this
  omega
theorem zCj {x h:Int} (hh:h = 1∨h = -1) (hx:0 < x * h):absI x = x * h:=by
 unfold absI
 rcases hh with rfl | rfl
 ·rw [if_neg (by omega)]
  omega
 ·rw [if_pos (by omega)]
  omega
theorem zQh (a b e:P3):tn b e * a.1 + tn e a * b.1 + tn a b * e.1 = 0∧tn b e * a.2.1 + tn e a * b.2.1 + tn a b * e.2.1 = 0:=by
 unfold tn
 constructor
 ·simp only [Int.sub_mul,Int.mul_sub,Int.mul_comm,Int.mul_left_comm]
  omega
 ·simp only [Int.sub_mul,Int.mul_sub,Int.mul_comm,Int.mul_left_comm]
  omega
def zG7 (ss:List Sd) (cs:List (Int × Int)):Prop :=
 (∃ (i j:Nat) (u v:Int) (s t:Sd),cs = [((i:Int),u),((j:Int),v)]∧i < j∧ss[i]? = some s∧ss[j]? = some t∧0 < u∧0 < v∧u≤10 ^ 19∧v≤10 ^ 19 ∧
  u * s.2.1 + v * t.2.1 = 0∧u * s.2.2.1 + v * t.2.2.1 = 0∧u * s.2.2.2 + v * t.2.2.2 < 0) ∨
 ∃ (i j k:Nat) (u v x:Int) (s t r:Sd),cs = [((i:Int),u),((j:Int),v),((k:Int),x)]∧i < j∧j < k∧ss[i]? = some s∧ss[j]? = some t∧ss[k]? = some r∧0 < u∧0 < v∧0 < x∧u≤10 ^ 19∧v≤10 ^ 19∧x≤10 ^ 19 ∧
  u * s.2.1 + v * t.2.1 + x * r.2.1 = 0∧u * s.2.2.1 + v * t.2.2.1 + x * r.2.2.1 = 0∧u * s.2.2.2 + v * t.2.2.2 + x * r.2.2.2 < 0
theorem z_of {x g:Int} (hg:0 < g) (h:x * g = 0):x = 0:=by
 rcases Int.mul_eq_zero.mp h with z | z
 ·exact z
 ·omega
theorem n_of {x g:Int} (hg:0 < g) (h:x * g < 0):x < 0:=by
 by_cases c:x < 0
 ·exact c
 ·have:=Int.mul_nonneg (show 0≤x by omega) (Int.le_of_lt hg)
  omega
theorem zU5 {ws:List Int} {n:Int} (h:n∈ws) (h0:0 < n) (hb:n≤10 ^ 30):0 < gcdL ws∧(gcdL ws:Int) < 10 ^ 600:=by
 refine ⟨zBz h (by omega),?_⟩
 have h1:=zFp h (show n≠0 by omega)
 exact Int.lt_of_le_of_lt (show (gcdL ws:Int)≤10 ^ 30 by omega) (by decide +kernel)
theorem zJ2 {ws:List Int} {n:Int} (h:n∈ws) (h0:0 < n):0 < n / (gcdL ws:Int)∧n / (gcdL ws:Int)≤n:=by
 have gp:=zBz h (show n≠0 by omega)
 have e:=zBb h
 have p:0 < n / (gcdL ws:Int):=by
  by_cases c:0 < n / (gcdL ws:Int)
  ·exact c
  ·have:=Int.mul_nonneg (show 0≤-(n / (gcdL ws:Int)) by omega) (show (0:Int)≤(gcdL ws:Int) by omega)
   rw [Int.neg_mul] at this
   omega
 refine ⟨p,?_⟩
 have:=Int.mul_le_mul_of_nonneg_left (show (1:Int)≤(gcdL ws:Int) by omega) (Int.le_of_lt p)
 omega
theorem zRr {ss:List Sd} {i j:Nat} {s t:Sd} {U V:Int} (hij:i < j) (gs:ss[i]? = some s) (gt:ss[j]? = some t) (hU:0 < U) (hV:0 < V) (bU:U≤10 ^ 19) (bV:V≤10 ^ 19)
  (z1:U * s.2.1 + V * t.2.1 = 0) (z2:U * s.2.2.1 + V * t.2.2.1 = 0) (z3:U * s.2.2.2 + V * t.2.2.2 < 0):zG7 ss ([(i:Int),(j:Int)].zip (lowL [U,V])):=by
 have mU:U∈[U,V]:=by simp
 have mV:V∈[U,V]:=by simp
 have gp:(0:Int) < (gcdL [U,V]:Int):=by have:=zBz mU (show U≠0 by omega); omega
 have pU:=zJ2 mU hU
 have pV:=zJ2 mV hV
 have eU:=zBb mU
 have eV:=zBb mV
 have sum:∀ a b:Int,(U / (gcdL [U,V]:Int) * a + V / (gcdL [U,V]:Int) * b) * (gcdL [U,V]:Int) = U * a + V * b:=fun a b=>by
  rw [Int.add_mul,Int.mul_right_comm,eU,Int.mul_right_comm,eV]
 refine .inl ⟨i,j,U / (gcdL [U,V]:Int),V / (gcdL [U,V]:Int),s,t,rfl,hij,gs,gt,pU.1,pV.1,Int.le_trans pU.2 bU,Int.le_trans pV.2 bV,?_,?_,?_⟩
 ·exact z_of gp (by rw [sum]; exact z1)
 ·exact z_of gp (by rw [sum]; exact z2)
 ·exact n_of gp (by rw [sum]; exact z3)
theorem zOp {ss:List Sd} {i j k:Nat} {s t r:Sd} {U V X:Int} (hij:i < j) (hjk:j < k) (gs:ss[i]? = some s) (gt:ss[j]? = some t) (gr:ss[k]? = some r) (hU:0 < U) (hV:0 < V) (hX:0 < X) (bU:U≤10 ^ 19) (bV:V≤10 ^ 19) (bX:X≤10 ^ 19)
  (z1:U * s.2.1 + V * t.2.1 + X * r.2.1 = 0) (z2:U * s.2.2.1 + V * t.2.2.1 + X * r.2.2.1 = 0) (z3:U * s.2.2.2 + V * t.2.2.2 + X * r.2.2.2 < 0):zG7 ss ([(i:Int),(j:Int),(k:Int)].zip (lowL [U,V,X])):=by
 have mU:U∈[U,V,X]:=by simp
 have mV:V∈[U,V,X]:=by simp
 have mX:X∈[U,V,X]:=by simp
 have gp:(0:Int) < (gcdL [U,V,X]:Int):=by have:=zBz mU (show U≠0 by omega); omega
 have pU:=zJ2 mU hU
 have pV:=zJ2 mV hV
 have pX:=zJ2 mX hX
 have eU:=zBb mU
 have eV:=zBb mV
 have eX:=zBb mX
 have sum:∀ a b c:Int,(U / (gcdL [U,V,X]:Int) * a + V / (gcdL [U,V,X]:Int) * b + X / (gcdL [U,V,X]:Int) * c) * (gcdL [U,V,X]:Int) = U * a + V * b + X * c:=fun a b c=>by
  rw [Int.add_mul,Int.add_mul,Int.mul_right_comm,eU,Int.mul_right_comm,eV,Int.mul_right_comm,eX]
 refine .inr ⟨i,j,k,U / (gcdL [U,V,X]:Int),V / (gcdL [U,V,X]:Int),X / (gcdL [U,V,X]:Int),s,t,r,rfl,hij,hjk,gs,gt,gr,pU.1,pV.1,pX.1,Int.le_trans pU.2 bU,Int.le_trans pV.2 bV,Int.le_trans pX.2 bX,?_,?_,?_⟩
 ·exact z_of gp (by rw [sum]; exact z1)
 ·exact z_of gp (by rw [sum]; exact z2)
 ·exact n_of gp (by rw [sum]; exact z3)
theorem sum2 {u v:Int} {s t z:P3} (h1:u * s.1 + v * t.1 = 0) (h2:u * s.2.1 + v * t.2.1 = 0):u * sv s z + v * sv t z = -((u * s.2.2 + v * t.2.2) * z.2.2):=by
 have e:u * sv s z + v * sv t z = (u * s.1 + v * t.1) * z.1 + (u * s.2.1 + v * t.2.1) * z.2.1 - (u * s.2.2 + v * t.2.2) * z.2.2:=by
  unfold sv
  simp only [Int.mul_sub,Int.mul_add,Int.add_mul,Int.mul_comm,Int.mul_left_comm]
  omega
 rw [e,h1,h2,Int.zero_mul,Int.zero_mul]
 omega
theorem sum3 {u v x:Int} {s t r z:P3} (h1:u * s.1 + v * t.1 + x * r.1 = 0) (h2:u * s.2.1 + v * t.2.1 + x * r.2.1 = 0):u * sv s z + v * sv t z + x * sv r z = -((u * s.2.2 + v * t.2.2 + x * r.2.2) * z.2.2):=by
 have e:u * sv s z + v * sv t z + x * sv r z = (u * s.1 + v * t.1 + x * r.1) * z.1 + (u * s.2.1 + v * t.2.1 + x * r.2.1) * z.2.1 - (u * s.2.2 + v * t.2.2 + x * r.2.2) * z.2.2:=by
  unfold sv
  simp only [Int.mul_sub,Int.mul_add,Int.add_mul,Int.mul_comm,Int.mul_left_comm]
  omega
 rw [e,h1,h2,Int.zero_mul,Int.zero_mul]
 omega
theorem zN0 {u x:Int} (hu:0 < u) (hx:x≤0):u * x≤0:=by
 have:=Int.mul_nonneg (Int.le_of_lt hu) (show 0≤-x by omega)
 rw [Int.mul_neg] at this
 omega
theorem zG7.no {ss:List Sd} {cs:List (Int × Int)} (h:zG7 ss cs) (z:P3) (zw:0 < z.2.2):¬ inW ss z:=fun wz=>by
 rcases h with ⟨i,j,u,v,s,t,_,_,gs,gt,hu,hv,_,_,z1,z2,z3⟩ | ⟨i,j,k,u,v,x,s,t,r,_,_,_,gs,gt,gr,hu,hv,hx,_,_,_,z1,z2,z3⟩
 ·have e:=sum2 (z:=z) (s:=s.2) (t:=t.2) z1 z2
  have a1:=zN0 hu (wz s (List.mem_of_getElem? gs))
  have a2:=zN0 hv (wz t (List.mem_of_getElem? gt))
  have a3:=Int.mul_neg_of_neg_of_pos z3 zw
  omega
 ·have e:=sum3 (z:=z) (s:=s.2) (t:=t.2) (r:=r.2) z1 z2
  have a1:=zN0 hu (wz s (List.mem_of_getElem? gs))
  have a2:=zN0 hv (wz t (List.mem_of_getElem? gt))
  have a4:=zN0 hx (wz r (List.mem_of_getElem? gr))
  have a3:=Int.mul_neg_of_neg_of_pos z3 zw
  omega
def goB (ss:List Sd):List (Int × Int)→Int→P3→Bool
 | [],_,T=>decide ([T.1,T.2.1] = [0,0]) && decide (T.2.2 < 0)
 | c :: cs,last,T=>if last < c.1∧c.1 < ss.length∧1≤c.2 then
   match ss[c.1.toNat]? with
   | some t=>goB ss cs c.1 (T.1 + c.2 * t.2.1,T.2.1 + c.2 * t.2.2.1,T.2.2 + c.2 * t.2.2.2)
   | none=>false
  else false
def zF7 (ss:List Sd) (cs:List (Int × Int)):Bool:=decide (2≤cs.length) && (decide (cs.length≤3) && goB ss cs (-1) (0,0,0))
theorem zFs {ss:List Sd} {n w last:Int} {t:Sd} {T:P3} {cs:List (Int × Int)} (h1:last < n) (h2:n < ss.length) (h3:1≤w) (g:ss[n.toNat]? = some t):goB ss ((n,w) :: cs) last T = goB ss cs n (T.1 + w * t.2.1,T.2.1 + w * t.2.2.1,T.2.2 + w * t.2.2.2):=by
 rw [goB,if_pos ⟨h1,h2,h3⟩]
 show (match ss[n.toNat]? with | some t=>goB ss cs n (T.1 + w * t.2.1,T.2.1 + w * t.2.2.1,T.2.2 + w * t.2.2.2) | none=>false) = _
 rw [g]
theorem zVf {ss:List Sd} {n w last:Int} {T:P3} {cs:List (Int × Int)} (h:¬ (last < n∧n < ss.length∧1≤w)):goB ss ((n,w) :: cs) last T = false:=by
 rw [goB,if_neg h]
theorem zG7.b {ss:List Sd} {cs:List (Int × Int)} (h:zG7 ss cs):zF7 ss cs = true:=by
 rcases h with ⟨i,j,u,v,s,t,rfl,hij,gs,gt,hu,hv,_,_,z1,z2,z3⟩ | ⟨i,j,k,u,v,x,s,t,r,rfl,hij,hjk,gs,gt,gr,hu,hv,hx,_,_,_,z1,z2,z3⟩
 ·have hi:=(List.getElem?_eq_some_iff.mp gs).1
  have hj:=(List.getElem?_eq_some_iff.mp gt).1
  unfold zF7
  rw [zFs (t:=s) (by omega) (by omega) (by omega) (by rw [Int.toNat_natCast]; exact gs),zFs (t:=t) (by omega) (by omega) (by omega) (by rw [Int.toNat_natCast]; exact gt),goB]
  show (decide (2≤2) && (decide (2≤3) && (decide ([0 + u * s.2.1 + v * t.2.1,0 + u * s.2.2.1 + v * t.2.2.1] = [0,0]) && decide (0 + u * s.2.2.2 + v * t.2.2.2 < 0)))) = true
  rw [Int.zero_add,Int.zero_add,Int.zero_add,z1,z2,decide_eq_true z3]
  rfl
 ·have hi:=(List.getElem?_eq_some_iff.mp gs).1
  have hj:=(List.getElem?_eq_some_iff.mp gt).1
  have hk:=(List.getElem?_eq_some_iff.mp gr).1
  unfold zF7
  rw [zFs (t:=s) (by omega) (by omega) (by omega) (by rw [Int.toNat_natCast]; exact gs),zFs (t:=t) (by omega) (by omega) (by omega) (by rw [Int.toNat_natCast]; exact gt),zFs (t:=r) (by omega) (by omega) (by omega) (by rw [Int.toNat_natCast]; exact gr),goB]
  show (decide (2≤3) && (decide (3≤3) && (decide ([0 + u * s.2.1 + v * t.2.1 + x * r.2.1,0 + u * s.2.2.1 + v * t.2.2.1 + x * r.2.2.1] = [0,0]) && decide (0 + u * s.2.2.2 + v * t.2.2.2 + x * r.2.2.2 < 0)))) = true
  rw [Int.zero_add,Int.zero_add,Int.zero_add,z1,z2,decide_eq_true z3]
  rfl
theorem zG7.range {ss:List Sd} {cs:List (Int × Int)} (h:zG7 ss cs):(cs.length = 2∨cs.length = 3)∧∀ c∈cs,0≤c.1∧c.1 < ss.length:=by
 rcases h with ⟨i,j,u,v,s,t,rfl,_,gs,gt,_⟩ | ⟨i,j,k,u,v,x,s,t,r,rfl,_,_,gs,gt,gr,_⟩
 ·have h1:=(List.getElem?_eq_some_iff.mp gs).1
  have h2:=(List.getElem?_eq_some_iff.mp gt).1
  refine ⟨.inl rfl,fun c hc=>?_⟩
  simp only [List.mem_cons,List.not_mem_nil,or_false] at hc
  rcases hc with rfl | rfl
  ·exact ⟨by show (0:Int)≤(i:Int); omega,by show (i:Int) < _; omega⟩
  ·exact ⟨by show (0:Int)≤(j:Int); omega,by show (j:Int) < _; omega⟩
 ·have h1:=(List.getElem?_eq_some_iff.mp gs).1
  have h2:=(List.getElem?_eq_some_iff.mp gt).1
  have h3:=(List.getElem?_eq_some_iff.mp gr).1
  refine ⟨.inr rfl,fun c hc=>?_⟩
  simp only [List.mem_cons,List.not_mem_nil,or_false] at hc
  rcases hc with rfl | rfl | rfl
  ·exact ⟨by show (0:Int)≤(i:Int); omega,by show (i:Int) < _; omega⟩
  ·exact ⟨by show (0:Int)≤(j:Int); omega,by show (j:Int) < _; omega⟩
  ·exact ⟨by show (0:Int)≤(k:Int); omega,by show (k:Int) < _; omega⟩
def Cand (ss:List Sd) (P:P3):Prop:=P = (0,0,1)∨(∃ t∈ss,P = pt3 (ftL t.2))∨∃ t∈ss,∃ u∈ss,tn t.2 u.2≠0∧P = pt3 (crL t.2 u.2)
theorem zFe {e:P3} {h:Int} (hh:h * h = 1) (hN:0 < e.1 * e.1 + e.2.1 * e.2.1):∀ ss:List Sd,(∀ t∈ss,tn e t.2 * h≤0)∨∃ t∈ss,0 < tn e t.2 * h∧∀ u∈ss,0 < tn e u.2 * h→sv u.2 (pt3 (crL e t.2))≤0
 | []=>.inl fun _ h=>nomatch h
 | s :: ss=>by
  by_cases hs:0 < tn e s.2 * h
  ·obtain ⟨sp1,r1,r2⟩:=zFa (zCd hs)
   rcases zFe hh hN ss with n | ⟨t,mt,ht,a⟩
   ·refine .inr ⟨s,List.mem_cons_self ..,hs,fun u hu hp=>?_⟩
    rcases List.mem_cons.mp hu with rfl | hu
    ·exact Int.le_of_eq r2
    ·have:=n u hu
     omega
   ·obtain ⟨sp0,q1,q2⟩:=zFa (zCd ht)
    by_cases hin:sv s.2 (pt3 (crL e t.2))≤0
    ·refine .inr ⟨t,List.mem_cons_of_mem _ mt,ht,fun u hu hp=>?_⟩
     rcases List.mem_cons.mp hu with rfl | hu
     ·exact hin
     ·exact a u hu hp
    ·have d1:=dl_le hh hN r1 q1 sp1.pos r2 (show 0 < sv s.2 (pt3 (crL e t.2)) by omega) hs
     refine .inr ⟨s,List.mem_cons_self ..,hs,fun u hu hp=>?_⟩
     rcases List.mem_cons.mp hu with rfl | hu
     ·exact Int.le_of_eq r2
     ·refine zP2 hh hN r1 q1 sp1.pos sp0.pos u.2 ?_ (a u hu hp)
      have:=Int.mul_nonneg (show 0≤-(dl e (pt3 (crL e s.2)) (pt3 (crL e t.2)) * h) by omega) (Int.le_of_lt hp)
      rw [Int.neg_mul] at this
      omega
  ·rcases zFe hh hN ss with n | ⟨t,mt,ht,a⟩
   ·refine .inl fun u hu=>?_
    rcases List.mem_cons.mp hu with rfl | hu
    ·omega
    ·exact n u hu
   ·refine .inr ⟨t,List.mem_cons_of_mem _ mt,ht,fun u hu hp=>?_⟩
    rcases List.mem_cons.mp hu with rfl | hu
    ·exact absurd hp hs
    ·exact a u hu hp
theorem zNw {ss:List Sd} {e:P3} (he:e.1≠0∨e.2.1≠0) {m:P3} (hm:sv e m = 0) (mw:0 < m.2.2) (wm:inW ss m):∃ P:P3,0 < P.2.2∧inW ss P∧sv e P = 0∧(P = pt3 (ftL e)∨∃ t∈ss,tn e t.2≠0∧P = pt3 (crL e t.2)):=by
 have hN:=zEy he
 obtain ⟨sf,f1⟩:=zR0 he
 have one:∀ h:Int,h * h = 1→(∀ t∈ss,tn e t.2 * h≤0)∨∃ P:P3,0 < P.2.2∧inW ss P∧sv e P = 0∧(P = pt3 (ftL e)∨∃ t∈ss,tn e t.2≠0∧P = pt3 (crL e t.2)):=fun h hh=>by
  rcases zFe hh hN ss with n | ⟨t,mt,ht,a⟩
  ·exact .inl n
  ·obtain ⟨sp,c1,c2⟩:=zFa (zCd ht)
   obtain ⟨j,gj⟩:=List.getElem?_of_mem mt
   exact .inr ⟨pt3 (crL e t.2),sp.pos,zMv hh hN hm mw wm gj ht a,c1,.inr ⟨t,mt,zCd ht,rfl⟩⟩
 rcases one 1 (by decide) with n1 | r
 ·rcases one (-1) (by decide) with n2 | r
  ·exact ⟨pt3 (ftL e),sf.pos,zNx hN hm mw wm f1 sf.pos n1 n2,f1,.inl rfl⟩
  ·exact r
 ·exact r
theorem Cand.cons {ss:List Sd} {P:P3} (s:Sd) (h:Cand ss P):Cand (s :: ss) P:=by
 rcases h with h | ⟨t,ht,h⟩ | ⟨t,ht,u,hu,h⟩
 ·exact .inl h
 ·exact .inr (.inl ⟨t,List.mem_cons_of_mem _ ht,h⟩)
 ·exact .inr (.inr ⟨t,List.mem_cons_of_mem _ ht,u,List.mem_cons_of_mem _ hu,h⟩)
theorem zRv:∀ {ss:List Sd},(∀ t∈ss,t.2.1≠0∨t.2.2.1≠0)→∀ z:P3,0 < z.2.2→inW ss z→∃ P:P3,Cand ss P∧0 < P.2.2∧inW ss P
 | [],_,_,_,_=>⟨(0,0,1),.inl rfl,by decide,fun _ h=>nomatch h⟩
 | s :: ss,hn,z,zw,wz=>by
  obtain ⟨P,cP,pw,wP⟩:=zRv (fun t ht=>hn t (List.mem_cons_of_mem _ ht)) z zw fun t ht=>wz t (List.mem_cons_of_mem _ ht)
  by_cases hin:sv s.2 P≤0
  ·refine ⟨P,cP.cons s,pw,fun t ht=>?_⟩
   rcases List.mem_cons.mp ht with rfl | ht
   ·exact hin
   ·exact wP t ht
  ·obtain ⟨m,m1,m2,m3⟩:=zSw wP (fun t ht=>wz t (List.mem_cons_of_mem _ ht)) pw zw (show 0 < sv s.2 P by omega) (wz s (List.mem_cons_self ..))
   obtain ⟨R,rw',wR,oR,cR⟩:=zNw (hn s (List.mem_cons_self ..)) m1 m2 m3
   refine ⟨R,?_,rw',fun t ht=>?_⟩
   ·rcases cR with h | ⟨t,ht,h1,h2⟩
    ·exact .inr (.inl ⟨s,List.mem_cons_self ..,h⟩)
    ·exact .inr (.inr ⟨s,List.mem_cons_self ..,t,List.mem_cons_of_mem _ ht,h1,h2⟩)
   ·rcases List.mem_cons.mp ht with rfl | ht
    ·exact Int.le_of_eq oR
    ·exact wR t ht
end Sea

namespace L2
open PySem PySem.Spec PyProof.Rows PySem.W
section
variable {X:Cx}
theorem zMx:zHg X (.builtin "sorted") (fun xs H Q=>∃ (l:Addr) (ns:List Int),xs = [.ref l]∧SqL X.K H l (ns.map V.int)∧ns.length < 64 ∧
  ∀ (p:Addr) (ms:List Int),H p = none→ms.Perm ns→ms.Pairwise (·≤·)→Q (.ref p) (upd H p (.lst (ms.map V.int)))):=by
 intro pins s σ H xs us Q I r h
 obtain ⟨l,ns,rfl,hq,h64,q⟩:=h
 obtain ⟨u,rfl,ru⟩:=Vals.one r
 cases ru
 obtain ⟨its,rv,pl,hz⟩:=I.list hq
 have hn:=rv.length
 rw [List.length_map] at hn
 refine sorted_ints (ns:=ns) pl.isList (zP0 rv) (by omega) fun out ms a1 a2 a3=>?_
 obtain ⟨e,at'⟩:=sortedAll_at s.heap its out
 have fr:H (s.heap.objs.size + 1) = none:=I.hok.fresh (Nat.le_succ _)
 refine ⟨.ref (s.heap.objs.size + 1),_,I.laid (t':=s.toks) (a:=s.heap.objs.size + 1) (o:=.lst (ms.map V.int)) (fun b ob q=>sortedAll_old q) (Nat.le_succ _) ?_,rfl,q _ ms fr a2 a3⟩
 refine ⟨?_,out.toList,e,zJz a1,by simpa using at'⟩
 rw [List.length_map,a2.length_eq]
 exact Nat.le_trans (Nat.le_of_lt h64) (by rw [sizeLine_eq]; decide)
end
theorem zR3 {ns:List Int} {i:Nat} {k:Int} (e:k = i) (h:i < ns.length):∃ n,ns[i]? = some n∧atI (ns.map V.int) k = some (.int n):=by
 refine ⟨ns[i],List.getElem?_eq_getElem h,?_⟩
 rw [e]
 exact zKy (by rw [List.getElem?_map,List.getElem?_eq_getElem h] <;> rfl)
theorem zQr {a b:Int} {ms:List Int} (h:ms.Perm [a,b]) (s:ms.Pairwise (·≤·)):(ms = [a,b]∧a≤b)∨(ms = [b,a]∧b≤a):=by
 match ms,h,s,h.length_eq with
 | [c,d],h,s,_ =>
  have le:c≤d:=by simpa using s
  have mc:c∈[a,b]:=h.mem_iff.mp (List.mem_cons_self ..)
  rw [List.mem_cons,List.mem_singleton] at mc
  rcases mc with rfl | rfl
  ·have z:=List.perm_cons c |>.mp h
   have e:=List.perm_singleton.mp z
   cases e
   exact .inl ⟨rfl,le⟩
  ·have z:=List.perm_cons c |>.mp (h.trans (List.Perm.swap c a []))
   have e:=List.perm_singleton.mp z
   cases e
   exact .inr ⟨rfl,le⟩
theorem zD6 (K:PySem.W.Frag):PySem.W.kitOne K (.type "list") (.type "list") = some true:=rfl
def PrAt (H:Hp) (cs:List Pr):Prop:=∀ t∈cs,H t.1 = some (.tup [.int t.2.1,.int t.2.2])
theorem PrAt.same {H H':Hp} {cs:List Pr} (h:PrAt H cs) (s:Same H H'):PrAt H' cs:=fun t ht=>s _ _ (h t ht)
end L2

namespace Sea
open PySem L2
theorem flat {a b x y u v:Int} (hn:a≠0∨b≠0) (h1:a * x + b * y = 0) (h2:a * u + b * v = 0):x * v - y * u = 0:=by
 have e1:a * (x * v - y * u) = (a * x + b * y) * v - (a * u + b * v) * y:=by
  simp only [Int.mul_sub,Int.add_mul,Int.mul_add,Int.mul_comm,Int.mul_left_comm]
  omega
 have e2:b * (x * v - y * u) = (a * u + b * v) * x - (a * x + b * y) * u:=by
  simp only [Int.mul_sub,Int.add_mul,Int.mul_add,Int.mul_comm,Int.mul_left_comm]
  omega
 rw [h1,h2,Int.zero_mul,Int.zero_mul,Int.sub_self] at e1 e2
 rcases hn with h | h
 ·exact (Int.mul_eq_zero.mp e1).resolve_left h
 ·exact (Int.mul_eq_zero.mp e2).resolve_left h
theorem zUj {x y u v:Int} (h1:Nat.gcd x.natAbs y.natAbs = 1) (h2:Nat.gcd u.natAbs v.natAbs = 1) (h:x * v - y * u = 0) (hp:0 < x * u + y * v):x = u∧y = v:=by
 have e:x.natAbs * v.natAbs = y.natAbs * u.natAbs:=by
  rw [← Int.natAbs_mul,← Int.natAbs_mul]
  congr 1
  omega
 have d1:x.natAbs ∣ u.natAbs:=Nat.Coprime.dvd_of_dvd_mul_left (m:=y.natAbs) h1 (by rw [← e]; exact Nat.dvd_mul_right _ _)
 have d2:u.natAbs ∣ x.natAbs:=Nat.Coprime.dvd_of_dvd_mul_right (n:=v.natAbs) h2 (by rw [e]; exact Nat.dvd_mul_left _ _)
 have h1':Nat.gcd y.natAbs x.natAbs = 1:=by rw [Nat.gcd_comm]; exact h1
 have h2':Nat.gcd v.natAbs u.natAbs = 1:=by rw [Nat.gcd_comm]; exact h2
 have d3:y.natAbs ∣ v.natAbs:=Nat.Coprime.dvd_of_dvd_mul_left (m:=x.natAbs) h1' (by rw [e]; exact Nat.dvd_mul_right _ _)
 have d4:v.natAbs ∣ y.natAbs:=Nat.Coprime.dvd_of_dvd_mul_right (n:=u.natAbs) h2' (by rw [← e]; exact Nat.dvd_mul_left _ _)
 have ex:=Nat.dvd_antisymm d1 d2
 have ey:=Nat.dvd_antisymm d3 d4
 have sx:x = u∨x = -u:=by omega
 have sy:y = v∨y = -v:=by omega
 have q1:0≤u * u:=by
  by_cases c:0≤u
  ·exact Int.mul_nonneg c c
  ·exact Int.le_of_lt (Int.mul_pos_of_neg_of_neg (by omega) (by omega))
 have q2:0≤v * v:=by
  by_cases c:0≤v
  ·exact Int.mul_nonneg c c
  ·exact Int.le_of_lt (Int.mul_pos_of_neg_of_neg (by omega) (by omega))
 rcases sx with rfl | rfl
 ·rcases sy with rfl | rfl
  ·exact ⟨rfl,rfl⟩
  ·rw [Int.neg_mul,Int.mul_comm v] at h
   have z:x * v = 0:=by omega
   rcases Int.mul_eq_zero.mp z with z | z
   ·rw [z,Int.zero_mul,Int.neg_mul] at hp
    omega
   ·rw [z]
    exact ⟨rfl,rfl⟩
 ·rcases sy with rfl | rfl
  ·rw [Int.neg_mul,Int.mul_comm y] at h
   have z:u * y = 0:=by omega
   rcases Int.mul_eq_zero.mp z with z | z
   ·rw [z]
    exact ⟨rfl,rfl⟩
   ·rw [z,Int.zero_mul,Int.neg_mul] at hp
    omega
  ·rw [Int.neg_mul,Int.neg_mul] at hp
   omega
structure zDa (ss:List Sd) (x y:Int):Prop where
 low:Nat.gcd x.natAbs y.natAbs = 1
 way:∀ t∈ss,t.2.1 * x + t.2.2.1 * y≤0
 edge:∃ t∈ss,(t.2.1≠0∨t.2.2.1≠0)∧t.2.1 * x + t.2.2.1 * y = 0
theorem zKm {a b p q:Int} (h:a * p + b * q = 0) (hp:p≤0) (hq:q≤0) (hab:0 < a * b):p = 0∧q = 0:=by
 have ha:a≠0:=fun z=>by rw [z,Int.zero_mul] at hab; omega
 have hb:b≠0:=fun z=>by rw [z,Int.mul_zero] at hab; omega
 by_cases c:0 < a
 ·have cb:0 < b:=by
   by_cases d:0 < b
   ·exact d
   ·have:=Int.mul_neg_of_pos_of_neg c (show b < 0 by omega)
    omega
  have z1:=Int.mul_nonneg (Int.le_of_lt c) (show 0≤-p by omega)
  have z2:=Int.mul_nonneg (Int.le_of_lt cb) (show 0≤-q by omega)
  rw [Int.mul_neg] at z1 z2
  exact ⟨(Int.mul_eq_zero.mp (show a * p = 0 by omega)).resolve_left ha,(Int.mul_eq_zero.mp (show b * q = 0 by omega)).resolve_left hb⟩
 ·have cb:b < 0:=by
   by_cases d:b < 0
   ·exact d
   ·have:=Int.mul_neg_of_neg_of_pos (show a < 0 by omega) (show 0 < b by omega)
    omega
  have z1:=Int.mul_nonneg (show 0≤-a by omega) (show 0≤-p by omega)
  have z2:=Int.mul_nonneg (show 0≤-b by omega) (show 0≤-q by omega)
  rw [Int.neg_mul_neg] at z1 z2
  exact ⟨(Int.mul_eq_zero.mp (show a * p = 0 by omega)).resolve_left ha,(Int.mul_eq_zero.mp (show b * q = 0 by omega)).resolve_left hb⟩
theorem rel3 (a b x1 y1 x2 y2 x3 y3:Int):(x2 * y3 - y2 * x3) * (a * x1 + b * y1) + (x3 * y1 - y3 * x1) * (a * x2 + b * y2) + (x1 * y2 - y1 * x2) * (a * x3 + b * y3) = 0:=by
 simp only [Int.mul_sub,Int.sub_mul,Int.add_mul,Int.mul_add,Int.mul_comm,Int.mul_left_comm]
 omega
theorem zO7 {x y:Int} (h:Nat.gcd x.natAbs y.natAbs = 1):x≠0∨y≠0:=by
 by_cases c:x = 0
 ·right
  intro z
  rw [c,z] at h
  exact absurd h (by decide)
 ·exact .inl c
theorem zDa.contra {ss:List Sd} {x1 y1 x2 y2 x3 y3:Int} (w1:zDa ss x1 y1) (w2:zDa ss x2 y2) (w3:zDa ss x3 y3) (h:x1 * y2 - y1 * x2 = 0) (hn:x1 * x2 + y1 * y2 < 0):x1 * y3 - y1 * x3 = 0:=by
 obtain ⟨t,mt,nt,et⟩:=w3.edge
 have p1:=w1.way t mt
 have p2:=w2.way t mt
 have hN:=zKf (zO7 w1.low)
 have e:(x1 * x1 + y1 * y1) * (t.2.1 * x2 + t.2.2.1 * y2) = (x1 * x2 + y1 * y2) * (t.2.1 * x1 + t.2.2.1 * y1) + (x1 * y2 - y1 * x2) * (t.2.2.1 * x1 - t.2.1 * y1):=by
  simp only [Int.mul_sub,Int.sub_mul,Int.add_mul,Int.mul_add,Int.mul_comm,Int.mul_left_comm]
  omega
 rw [h,Int.zero_mul,Int.add_zero] at e
 have z1:=Int.mul_nonneg (show 0≤x1 * x1 + y1 * y1 by omega) (show 0≤-(t.2.1 * x2 + t.2.2.1 * y2) by omega)
 have z2:=Int.mul_nonneg (show 0≤-(x1 * x2 + y1 * y2) by omega) (show 0≤-(t.2.1 * x1 + t.2.2.1 * y1) by omega)
 rw [Int.mul_neg] at z1
 rw [Int.neg_mul_neg] at z2
 have z:t.2.1 * x1 + t.2.2.1 * y1 = 0:=(Int.mul_eq_zero.mp (show (x1 * x2 + y1 * y2) * (t.2.1 * x1 + t.2.2.1 * y1) = 0 by omega)).resolve_left (by omega)
 exact flat nt z et
theorem dot_ne {x y u v:Int} (h:x * v - y * u = 0) (n1:x≠0∨y≠0) (n2:u≠0∨v≠0):x * u + y * v≠0:=fun z=>by
 have e:(x * x + y * y) * (u * u + v * v) = (x * u + y * v) * (x * u + y * v) + (x * v - y * u) * (x * v - y * u):=by
  simp only [Int.mul_sub,Int.sub_mul,Int.add_mul,Int.mul_add,Int.mul_comm,Int.mul_left_comm]
  omega
 rw [h,z,Int.zero_mul,Int.add_zero] at e
 have q1:=zKf n1
 have q2:=zKf n2
 have:=Int.mul_pos (show 0 < x * x + y * y by omega) (show 0 < u * u + v * v by omega)
 omega
theorem zDa.same {ss:List Sd} {x1 y1 x2 y2:Int} (w1:zDa ss x1 y1) (w2:zDa ss x2 y2) (d:¬ (x1 = x2∧y1 = y2)) (h:x1 * y2 - y1 * x2 = 0):x1 * x2 + y1 * y2 < 0:=by
 have:=dot_ne h (zO7 w1.low) (zO7 w2.low)
 by_cases c:0 < x1 * x2 + y1 * y2
 ·exact absurd (zUj w1.low w2.low h c) d
 ·omega
theorem zP4 {ss:List Sd} {x1 y1 x2 y2 x3 y3:Int} (w1:zDa ss x1 y1) (w2:zDa ss x2 y2) (w3:zDa ss x3 y3) (d12:¬ (x1 = x2∧y1 = y2)) (d13:¬ (x1 = x3∧y1 = y3)) (d23:¬ (x2 = x3∧y2 = y3)):False:=by
 have par:∀ {x1 y1 x2 y2 x3 y3:Int},zDa ss x1 y1→zDa ss x2 y2→zDa ss x3 y3→¬ (x1 = x2∧y1 = y2)→¬ (x1 = x3∧y1 = y3)→¬ (x2 = x3∧y2 = y3)→x1 * y2 - y1 * x2≠0:=fun {x1 y1 x2 y2 x3 y3} w1 w2 w3 d12 d13 d23 h=>by
  have n12:=w1.same w2 d12 h
  have h13:=w1.contra w2 w3 h n12
  have n13:=w1.same w3 d13 h13
  have hN:=zKf (zO7 w1.low)
  have e:(x1 * x1 + y1 * y1) * (x2 * x3 + y2 * y3) = (x1 * x2 + y1 * y2) * (x1 * x3 + y1 * y3) + (x1 * y2 - y1 * x2) * (x1 * y3 - y1 * x3):=by
   simp only [Int.mul_sub,Int.sub_mul,Int.add_mul,Int.mul_add,Int.mul_comm,Int.mul_left_comm]
   omega
  have e2:(x1 * x1 + y1 * y1) * (x2 * y3 - y2 * x3) = (x1 * x2 + y1 * y2) * (x1 * y3 - y1 * x3) - (x1 * y2 - y1 * x2) * (x1 * x3 + y1 * y3):=by
   simp only [Int.mul_sub,Int.sub_mul,Int.add_mul,Int.mul_add,Int.mul_comm,Int.mul_left_comm]
   omega
  rw [h,h13,Int.zero_mul,Int.add_zero] at e
  rw [h,h13,Int.zero_mul,Int.mul_zero,Int.sub_self] at e2
  have z:=(Int.mul_eq_zero.mp e2).resolve_left (by omega)
  have n23:=w2.same w3 d23 z
  have p:=Int.mul_pos_of_neg_of_neg n12 n13
  have q:=Int.mul_neg_of_pos_of_neg (show 0 < x1 * x1 + y1 * y1 by omega) n23
  omega
 have sw:∀ x y u v:Int,x * v - y * u = -(u * y - v * x):=fun x y u v=>by rw [Int.mul_comm u,Int.mul_comm v]; omega
 have a0:x2 * y3 - y2 * x3≠0:=par w2 w3 w1 d23 (fun z=>d12 ⟨z.1.symm,z.2.symm⟩) (fun z=>d13 ⟨z.1.symm,z.2.symm⟩)
 have b0:x3 * y1 - y3 * x1≠0:=par w3 w1 w2 (fun z=>d13 ⟨z.1.symm,z.2.symm⟩) (fun z=>d23 ⟨z.1.symm,z.2.symm⟩) d12
 have c0:x1 * y2 - y1 * x2≠0:=par w1 w2 w3 d12 d13 d23
 obtain ⟨t1,m1,n1,e1⟩:=w1.edge
 obtain ⟨t2,m2,n2,e2⟩:=w2.edge
 obtain ⟨t3,m3,n3,e3⟩:=w3.edge
 have r1:=rel3 t1.2.1 t1.2.2.1 x1 y1 x2 y2 x3 y3
 have r2:=rel3 t2.2.1 t2.2.2.1 x1 y1 x2 y2 x3 y3
 have r3:=rel3 t3.2.1 t3.2.2.1 x1 y1 x2 y2 x3 y3
 rw [e1,Int.mul_zero,Int.zero_add] at r1
 rw [e2,Int.mul_zero,Int.add_zero] at r2
 rw [e3,Int.mul_zero,Int.add_zero] at r3
 have k1:¬ 0 < (x3 * y1 - y3 * x1) * (x1 * y2 - y1 * x2):=fun p=>by
  have z:=zKm r1 (w2.way t1 m1) (w3.way t1 m1) p
  exact c0 (flat n1 e1 z.1)
 have k2:¬ 0 < (x2 * y3 - y2 * x3) * (x1 * y2 - y1 * x2):=fun p=>by
  have z:=zKm r2 (w1.way t2 m2) (w3.way t2 m2) p
  exact c0 (flat n2 z.1 e2)
 have k3:¬ 0 < (x2 * y3 - y2 * x3) * (x3 * y1 - y3 * x1):=fun p=>by
  have z:=zKm r3 (w1.way t3 m3) (w2.way t3 m3) p
  exact c0 (flat n3 z.1 z.2)
 generalize x2 * y3 - y2 * x3 = a at *
 generalize x3 * y1 - y3 * x1 = b at *
 generalize x1 * y2 - y1 * x2 = c at *
 have sg:∀ {p q:Int},p≠0→q≠0→¬ 0 < p * q→(0 < p∧q < 0)∨(p < 0∧0 < q):=fun {p q} hp hq h=>by
  by_cases cp:0 < p
  ·by_cases cq:0 < q
   ·exact absurd (Int.mul_pos cp cq) h
   ·exact .inl ⟨cp,by omega⟩
  ·by_cases cq:0 < q
   ·exact .inr ⟨by omega,cq⟩
   ·exact absurd (Int.mul_pos_of_neg_of_neg (by omega) (by omega)) h
 have s1:=sg b0 c0 k1
 have s2:=sg a0 c0 k2
 have s3:=sg a0 b0 k3
 omega
theorem WK.dir {ss:List Sd} {n:Nat} {k:List Int} (hn:∀ t∈ss,t.2.1≠0∨t.2.2.1≠0) (h:WK ss n k):∃ x y:Int,k = [x,y]∧zDa ss x y:=by
 obtain ⟨j,t,_,gt,h⟩:=h
 have mt:=List.mem_of_getElem? gt
 have nt:=hn t mt
 have one:∀ X Y:Int,(X≠0∨Y≠0)→t.2.1 * X + t.2.2.1 * Y = 0→k = lowL [X,Y]→wayB ss X Y = true→∃ x y:Int,k = [x,y]∧zDa ss x y:=fun X Y nXY e ek hw=>by
  obtain ⟨x,y,exy,gp,_,low,_⟩:=zKt nXY
  have ex:x = X / (gcdL [X,Y]:Int)∧y = Y / (gcdL [X,Y]:Int):=by
   have z:[X / (gcdL [X,Y]:Int),Y / (gcdL [X,Y]:Int)] = [x,y]:=exy
   cases z
   exact ⟨rfl,rfl⟩
  refine ⟨x,y,ek.trans exy,low,fun u hu=>?_,t,mt,nt,?_⟩
  ·have z:=zOo (ss:=ss) gp
   rw [hw,← ex.1,← ex.2] at z
   exact of_decide_eq_true (List.all_eq_true.mp z u hu)
  ·have g0:(0:Int) < (gcdL [X,Y]:Int):=by omega
   have eX:=zBb (ns:=[X,Y]) (n:=X) (by simp)
   have eY:=zBb (ns:=[X,Y]) (n:=Y) (by simp)
   rw [← ex.1] at eX
   rw [← ex.2] at eY
   have z:(t.2.1 * x + t.2.2.1 * y) * (gcdL [X,Y]:Int) = 0:=by
    rw [Int.add_mul,Int.mul_assoc,Int.mul_assoc,eX,eY]
    exact e
   rcases Int.mul_eq_zero.mp z with z | z
   ·exact z
   ·omega
 rcases h with ⟨e,hw⟩ | ⟨e,hw⟩
 ·exact one _ _ (by omega) (by rw [Int.mul_neg,Int.mul_comm t.2.2.1]; omega) e hw
 ·exact one _ _ (by omega) (by rw [Int.mul_neg,Int.mul_comm t.2.2.1]; omega) e hw
theorem zT9 {ss:List Sd} {n:Nat} {ks:List (List Int)} (hn:∀ t∈ss,t.2.1≠0∨t.2.2.1≠0) (nd:ks.Nodup) (h:∀ k∈ks,WK ss n k):ks.length≤2:=by
 match ks,nd,h with
 | [],_,_=>exact Nat.zero_le _
 | [_],_,_=>exact (by decide:1≤2)
 | [_,_],_,_=>exact Nat.le_refl 2
 | a :: b :: c :: r,nd,h =>
  obtain ⟨x1,y1,rfl,w1⟩:=(h a (by simp)).dir hn
  obtain ⟨x2,y2,rfl,w2⟩:=(h b (by simp)).dir hn
  obtain ⟨x3,y3,rfl,w3⟩:=(h c (by simp)).dir hn
  simp only [List.nodup_cons,List.mem_cons,not_or] at nd
  exact (zP4 w1 w2 w3 (fun z=>nd.1.1 (by rw [z.1,z.2])) (fun z=>nd.1.2.1 (by rw [z.1,z.2])) (fun z=>nd.2.1.1 (by rw [z.1,z.2]))).elim
end Sea

namespace Sea
open PySem L2
def dt (s g:P3):Int:=s.1 * g.1 + s.2.1 * g.2.1
theorem zHp (s t:P3):tn s t = -tn t s:=by
 unfold tn
 rw [Int.mul_comm s.1,Int.mul_comm s.2.1]
 omega
theorem zOb (s:P3):tn s s = 0:=by
 unfold tn
 rw [Int.mul_comm]
 omega
theorem zRd (t e g:P3):tn t e * (g.1 * g.1 + g.2.1 * g.2.1) = tn t g * dt e g + tn g e * dt t g:=by
 unfold tn dt
 simp only [Int.mul_sub,Int.sub_mul,Int.mul_add,Int.add_mul,Int.mul_comm,Int.mul_left_comm]
 omega
theorem pluck (t u e g:P3):tn t u * tn e g = tn t e * tn u g + tn t g * tn e u:=by
 unfold tn
 simp only [Int.mul_sub,Int.sub_mul,Int.mul_comm,Int.mul_left_comm]
 omega
theorem zDb {x y:Int} (h:0 < x * y) (hy:0 < y):0 < x:=by
 by_cases c:0 < x
 ·exact c
 ·have:=Int.mul_nonneg (show 0≤-x by omega) (Int.le_of_lt hy)
  rw [Int.neg_mul] at this
  omega
theorem zMf {α:Type} {p q:α→Bool} : ∀ {l:List α},(∀ a∈l,p a = true→q a = true)→(∃ a∈l,q a = true∧p a = false)→l.countP p < l.countP q
 | [],_,⟨_,h,_⟩=>nomatch h
 | x :: l,h,⟨a,ha,q1,p1⟩=>by
  have le:l.countP p≤l.countP q:=List.countP_mono_left fun b hb=>h b (List.mem_cons_of_mem _ hb)
  rw [List.countP_cons,List.countP_cons]
  rcases List.mem_cons.mp ha with rfl | ha
  ·rw [q1,p1]
   simp
   omega
  ·have z:=zMf (fun b hb=>h b (List.mem_cons_of_mem _ hb)) ⟨a,ha,q1,p1⟩
   by_cases hx:p x = true
   ·rw [hx,h x (List.mem_cons_self ..) hx]
    omega
   ·have hx':p x = false:=by simpa using hx
    rw [hx',if_neg (by decide)]
    omega
structure zN3 (ss:List Sd) (g:P3):Prop where
 nz:∀ t∈ss,t.2.1≠0∨t.2.2.1≠0
 gz:g.1≠0∨g.2.1≠0
 ways:∀ t∈ss,∀ h:Int,(h = 1∨h = -1)→(∀ s∈ss,tn t.2 s.2 * h≤0)→tn t.2 g * h≤0
 lead:¬ ∀ s∈ss,dt s.2 g≤0
 one:∀ t∈ss,tn t.2 g = 0→0 < dt t.2 g→∀ P:P3,0 < P.2.2→sv t.2 P = 0→¬ inW ss P
theorem zN3.right {ss:List Sd} {g:P3} (B:zN3 ss g) (two:∀ t∈ss,0 < tn t.2 g→∃ e∈ss,0 < tn t.2 e.2∧(∀ u∈ss,0 < tn t.2 u.2→sv u.2 (pt3 (crL t.2 e.2))≤0)∧¬ (0 < tn g e.2∧inW ss (pt3 (crL t.2 e.2)))) :
  ∀ (n:Nat) (t:Sd),t∈ss→0 < tn t.2 g→ss.countP (fun u=>decide (0 < tn u.2 g) && decide (0 < tn t.2 u.2)) < n→∀ P:P3,0 < P.2.2→sv t.2 P = 0→inW ss P→False
 | 0,_,_,_,h,_,_,_,_=>absurd h (Nat.not_lt_zero _)
 | n + 1,t,mt,ht,hc,P,pw,oP,wP=>by
  have hN:=zEy (B.nz t mt)
  obtain ⟨e,me,he,ha,hno⟩:=two t mt ht
  obtain ⟨j,gj⟩:=List.getElem?_of_mem me
  have w1:=zMv (h:=1) (by decide) hN oP pw wP gj (by omega) (fun u hu hp=>ha u hu (by omega))
  obtain ⟨sp,c1,c2⟩:=zFa (show tn t.2 e.2≠0 by omega)
  have hge:¬ 0 < tn g e.2:=fun z=>hno ⟨z,w1⟩
  have an:=zHp g e.2
  by_cases h0:tn g e.2 = 0
  ·have k:=zRd t.2 e.2 g
   rw [h0,Int.zero_mul,Int.add_zero] at k
   have p:=Int.mul_pos he (zEy B.gz)
   rw [k,Int.mul_comm] at p
   exact B.one e me (by omega) (zDb p ht) _ sp.pos c2 w1
  ·have heg:0 < tn e.2 g:=by omega
   refine zN3.right B two n e me heg (Nat.lt_of_lt_of_le (zMf (q:=fun u=>decide (0 < tn u.2 g) && decide (0 < tn t.2 u.2)) (fun u hu hp=>?_) ⟨e,me,?_,?_⟩) (Nat.le_of_lt_succ hc)) _ sp.pos c2 w1
   ·rw [Bool.and_eq_true,decide_eq_true_iff,decide_eq_true_iff] at hp ⊢
    refine ⟨hp.1,?_⟩
    have k:=pluck t.2 u.2 e.2 g
    have p1:=Int.mul_pos he hp.1
    have p2:=Int.mul_pos ht hp.2
    exact zDb (y:=tn e.2 g) (by omega) heg
   ·rw [decide_eq_true heg,decide_eq_true he]
    rfl
   ·rw [decide_eq_false (p:=0 < tn e.2 e.2) (by rw [zOb]; decide),Bool.and_false]
theorem zN3.left {ss:List Sd} {g:P3} (B:zN3 ss g) (rt:∀ t∈ss,0 < tn t.2 g→∀ P:P3,0 < P.2.2→sv t.2 P = 0→inW ss P→False) :
  ∀ (n:Nat) (t:Sd),t∈ss→0 < tn g t.2→ss.countP (fun u=>decide (0 < tn g u.2) && decide (0 < tn u.2 t.2)) < n→∀ P:P3,0 < P.2.2→sv t.2 P = 0→inW ss P→False
 | 0,_,_,_,h,_,_,_,_=>absurd h (Nat.not_lt_zero _)
 | n + 1,t,mt,ht,hc,P,pw,oP,wP=>by
  have hN:=zEy (B.nz t mt)
  have at':=zHp t.2 g
  rcases zFe (h:=-1) (by decide) hN ss with no | ⟨e,me,he,ha⟩
  ·have:=B.ways t mt (-1) (.inr rfl) no
   omega
  ·obtain ⟨j,gj⟩:=List.getElem?_of_mem me
   have w1:=zMv (h:=-1) (by decide) hN oP pw wP gj he ha
   obtain ⟨sp,c1,c2⟩:=zFa (zCd he)
   have a1:=zHp t.2 e.2
   have a2:=zHp g e.2
   have het:0 < tn e.2 t.2:=by omega
   by_cases h1:0 < tn e.2 g
   ·exact rt e me h1 _ sp.pos c2 w1
   ·by_cases h0:tn e.2 g = 0
    ·have k:=zRd e.2 t.2 g
     rw [h0,Int.zero_mul,Int.zero_add] at k
     have p:=Int.mul_pos het (zEy B.gz)
     rw [k,Int.mul_comm] at p
     exact B.one e me h0 (zDb p ht) _ sp.pos c2 w1
    ·have hge:0 < tn g e.2:=by omega
     refine zN3.left B rt n e me hge (Nat.lt_of_lt_of_le (zMf (q:=fun u=>decide (0 < tn g u.2) && decide (0 < tn u.2 t.2)) (fun u hu hp=>?_) ⟨e,me,?_,?_⟩) (Nat.le_of_lt_succ hc)) _ sp.pos c2 w1
     ·rw [Bool.and_eq_true,decide_eq_true_iff,decide_eq_true_iff] at hp ⊢
      refine ⟨hp.1,?_⟩
      have k:=pluck u.2 t.2 e.2 g
      have p1:=Int.mul_pos hp.2 ht
      have p2:=Int.mul_pos hp.1 het
      have e1:tn u.2 t.2 * tn g e.2 = tn u.2 e.2 * tn g t.2 + tn g u.2 * tn e.2 t.2:=by
       have b1:=zHp e.2 g
       have b2:=zHp u.2 g
       rw [b1,at',b2,Int.mul_neg,Int.mul_neg,Int.neg_mul] at k
       omega
      exact zDb (y:=tn g e.2) (by omega) hge
     ·rw [decide_eq_true hge,decide_eq_true het]
      rfl
     ·rw [decide_eq_false (p:=0 < tn e.2 e.2) (by rw [zOb]; decide),Bool.and_false]
theorem no_far {ss:List Sd} {g:P3} (B:zN3 ss g) (two:∀ t∈ss,0 < tn t.2 g→∃ e∈ss,0 < tn t.2 e.2∧(∀ u∈ss,0 < tn t.2 u.2→sv u.2 (pt3 (crL t.2 e.2))≤0)∧¬ (0 < tn g e.2∧inW ss (pt3 (crL t.2 e.2))))
  {z:P3} (zw:0 < z.2.2) (wz:inW ss z):False:=by
 have rt:∀ t∈ss,0 < tn t.2 g→∀ P:P3,0 < P.2.2→sv t.2 P = 0→inW ss P→False:=fun t mt ht=>B.right two _ t mt ht (Nat.lt_succ_self _)
 have lf:∀ t∈ss,0 < tn g t.2→∀ P:P3,0 < P.2.2→sv t.2 P = 0→inW ss P→False:=fun t mt ht=>B.left rt _ t mt ht (Nat.lt_succ_self _)
 let e0:P3:=(g.2.1 * z.2.2,-(g.1 * z.2.2),g.2.1 * z.1 - g.1 * z.2.1)
 have o0:sv e0 z = 0:=by
  show g.2.1 * z.2.2 * z.1 + -(g.1 * z.2.2) * z.2.1 - (g.2.1 * z.1 - g.1 * z.2.1) * z.2.2 = 0
  simp only [Int.sub_mul,Int.mul_sub,Int.neg_mul,Int.mul_neg,Int.mul_comm,Int.mul_left_comm]
  omega
 have t0:∀ t:P3,tn e0 t = dt t g * z.2.2:=fun t=>by
  show g.2.1 * z.2.2 * t.2.1 - -(g.1 * z.2.2) * t.1 = (t.1 * g.1 + t.2.1 * g.2.1) * z.2.2
  simp only [Int.add_mul,Int.mul_add,Int.neg_mul,Int.mul_neg,Int.mul_comm,Int.mul_left_comm]
  omega
 have n0:e0.1≠0∨e0.2.1≠0:=by
  rcases B.gz with h | h
  ·right
   show -(g.1 * z.2.2)≠0
   have:=Int.mul_ne_zero h (show z.2.2≠0 by omega)
   omega
  ·left
   exact Int.mul_ne_zero h (by omega)
 have hN:=zEy n0
 rcases zFe (h:=1) (by decide) hN ss with no | ⟨t,mt,ht,ha⟩
 ·refine B.lead fun s hs=>?_
  have:=no s hs
  rw [t0,Int.mul_one] at this
  by_cases c:dt s.2 g≤0
  ·exact c
  ·have:=Int.mul_pos (show 0 < dt s.2 g by omega) zw
   omega
 ·obtain ⟨j,gj⟩:=List.getElem?_of_mem mt
  have w1:=zMv (h:=1) (by decide) hN o0 zw wz gj ht ha
  obtain ⟨sp,c1,c2⟩:=zFa (zCd ht)
  have hd:0 < dt t.2 g:=by
   rw [t0,Int.mul_one] at ht
   exact zDb ht zw
  have an:=zHp g t.2
  by_cases h1:0 < tn t.2 g
  ·exact rt t mt h1 _ sp.pos c2 w1
  ·by_cases h0:tn t.2 g = 0
   ·exact B.one t mt h0 hd _ sp.pos c2 w1
   ·exact lf t mt (by omega) _ sp.pos c2 w1
end Sea

namespace L2
open PySem PySem.Spec PyProof.Rows PySem.W
def TupF (h:Heap) (v:Value) (x:Int):Prop:=∃ (a:Addr) (o:Obj) (n:Nat) (t:Tok) (rest:List Value),v = .ref a∧h.get? a = some o∧o.cls = .type "tuple" ∧ o.data = .seq (Value.int x t :: rest).toArray n
theorem TupF.keep {h h':Heap} {v:Value} {x:Int} (e:TupF h v x) (k:∀ b o,h.get? b = some o→h'.get? b = some o):TupF h' v x:=by
 obtain ⟨a,o,n,t,r,e1,e2,e3⟩:=e
 exact ⟨a,o,n,t,r,e1,k _ _ e2,e3⟩
theorem zTg:kas_sort 2 = .ask 1 0 fun c=>if c = true then .ret #[1,0] else .ret #[0,1]:=by
 have e:kas_sort 2 = .ask 1 0 fun c=>match c with | true=>.ret #[1,0] | false=>.ret #[0,1]:=by
  unfold kas_sort
  show KasT.ask 1 0 _ = _
  congr 1
  funext c
  cases c <;> rfl
 rw [e]
 congr 1
 funext c
 cases c <;> rfl
section
variable {prog:Program} {w:World} {A:Around} {E:Value→Shared→Prop} {s:Shared}
theorem zR8 {u v:Value} {x y:Int} {C:Bool→Shared→Prop} (hu:TupF s.heap u x) (hv:TupF s.heap v y) (hn:x≠y) (h:C (decide (x < y)) s):wpAny (model prog w) A (keyLt' (tuples' true) u v) C E s:=by
 obtain ⟨p,o,n,t,us,rfl,ho,_,hd⟩:=hu
 obtain ⟨q,o',n',t',ws,rfl,ho',_,hd'⟩:=hv
 refine kat_lt ho hd ho' hd' ?_
 show KatLex prog w A true _ C ((Value.int x t,Value.int y t') :: us.zip ws) 0 s
 refine kat_cons (wpAny_eqBool_int ?_)
 rw [show (x == y) = false from by simpa using hn]
 exact kat_no (oneLt_int h)
theorem zQj {l:Addr} {u v:Value} {x y:Int} {Q:Value→Shared→Prop} (hl:s.heap.IsList l [u,v].toArray) (hu:TupF s.heap u x) (hv:TupF s.heap v y) (hn:x≠y)
  (h:Q (.ref (s.heap.objs.size + 1)) { s with heap:=sortedAll s.heap [u,v] (if y < x then [v,u] else [u,v]).toArray }) :
  wpAny (model prog w) A (call (.builtin "sorted") [.ref l]) Q E s:=by
 refine zSm (κ:=tuples' true) (G:=fun out=>out = if y < x then [v,u] else [u,v]) hl (by show 2 < 64; decide) (fun h2 s' kp E' Q' hq=>?_) (fun h2 s' kp=>?_) (fun h2=>absurd (show 2 < 2 from h2) (by decide)) fun out hz e=>by rw [e]; exact h
 ·have hu':=hu.keep kp
  have hv':=hv.keep kp
  obtain ⟨p,o,n,t,us,e1,ho,hc,hd⟩:=hu'
  obtain ⟨q,o',n',t',ws,e2,ho',hc',hd'⟩:=hv'
  have a1:KatTups s'.heap [u,v] [.int x t,.int y t']:=by
   rw [e1,e2]
   exact KatTups.cons ho hc hd rfl (KatTups.cons ho' hc' hd' rfl .nil)
  refine kat_kind (T:=Value.type "int") a1 (by show 0 < 2; decide) (fun z hz=>?_) rfl (by first | exact hq | (rw [show (Value.type "int" != Value.type "tuple") = true from by first | decide | simp]; exact hq))
  rcases List.mem_cons.mp hz with rfl | hz
  ·exact .now
  ·rw [List.mem_singleton] at hz
   rw [hz]
   exact .now
 ·rw [show [u,v].length = 2 from rfl,zTg]
  show kas_ask prog w A.in1.in1 (tuples' true) [u,v] 1 0 _ s'
  refine zR8 (hv.keep kp) (hu.keep kp) (fun z=>hn z.symm) ?_
  by_cases c:y < x
  ·rw [decide_eq_true c,if_pos c]
   exact ⟨rfl,rfl⟩
  ·rw [decide_eq_false c,if_neg c]
   exact ⟨rfl,rfl⟩
end
section
variable {X:Cx}
theorem zMw:zHg X (.builtin "sorted") (fun xs H Q=>∃ (l a b:Addr) (x y:Int) (us ws:List V),xs = [.ref l]∧SqL X.K H l [.ref a,.ref b]∧H a = some (.tup (.int x :: us))∧H b = some (.tup (.int y :: ws))∧x≠y ∧
  ∀ p:Addr,H p = none→Q (.ref p) (upd H p (.lst (if y < x then [.ref b,.ref a] else [.ref a,.ref b])))):=by
 intro pins s σ H xs us Q I r h
 obtain ⟨l,a,b,x,y,us',ws',rfl,hq,ha,hb,hn,q⟩:=h
 obtain ⟨u,rfl,ru⟩:=Vals.one r
 cases ru
 obtain ⟨its,rv,pl,hz⟩:=I.list hq
 have ei:=zJw (rs:=[a,b]) rv
 subst ei
 have tf:∀ {a:Addr} {x:Int} {us:List V},H a = some (.tup (.int x :: us))→TupF s.heap (.ref a) x:=fun {a x us} ha=>by
  obtain ⟨its,r1,⟨o,e,c,n,d⟩,_⟩:=I.tuple (SqT.of ha)
  cases r1 with
  | cons p1 q1 =>
   obtain ⟨t,rfl⟩:=p1
   exact ⟨_,o,n,t,_,rfl,e,c,d⟩
 refine zQj (u:=.ref a) (v:=.ref b) pl.isList (tf ha) (tf hb) hn ?_
 have fr:H (s.heap.objs.size + 1) = none:=I.hok.fresh (Nat.le_succ _)
 by_cases c:y < x
 ·rw [if_pos c]
  have q':=q _ fr
  rw [if_pos c] at q'
  obtain ⟨e,at'⟩:=sortedAll_at s.heap [.ref a,.ref b] [Value.ref b,Value.ref a].toArray
  exact ⟨.ref (s.heap.objs.size + 1),_,I.laid (t':=s.toks) (a:=s.heap.objs.size + 1) (o:=.lst [.ref b,.ref a]) (fun b ob q=>sortedAll_old q) (Nat.le_succ _) ⟨(by show 2≤sizeLine; rw [sizeLine_eq]; decide),_,e,zGl [b,a],at'⟩,rfl,q'⟩
 ·rw [if_neg c]
  have q':=q _ fr
  rw [if_neg c] at q'
  obtain ⟨e,at'⟩:=sortedAll_at s.heap [.ref a,.ref b] [Value.ref a,Value.ref b].toArray
  exact ⟨.ref (s.heap.objs.size + 1),_,I.laid (t':=s.toks) (a:=s.heap.objs.size + 1) (o:=.lst [.ref a,.ref b]) (fun b ob q=>sortedAll_old q) (Nat.le_succ _) ⟨(by show 2≤sizeLine; rw [sizeLine_eq]; decide),_,e,zGl [a,b],at'⟩,rfl,q'⟩
def tOrT (K:PySem.W.Frag) (ta tb:TE):TE:=fun σ H Q=>ta σ H fun x H1=>∃ k,TruV K x H1 k∧if k = true then Q x H1 else tb σ H1 Q
theorem pe_orT {a b:Expr} {rest:List Expr} {pos:Pos} {ta tb:TE} (ha:PE X a ta) (hb:PE X (.BoolOp .Or (b :: rest) pos) tb):PE X (.BoolOp .Or (a :: b :: rest) pos) (tOrT X.K ta tb):=by
 intro pins s σ H Q I h
 refine BoolOp_or (thn (ha pins s σ H _ I h) fun v s1 ⟨x,H1,I1,r1,q1⟩=>?_)
 obtain ⟨k,tk,q1⟩:=q1
 refine thn (tru_ok pins s1 σ H1 x v (fun c H2=>H2 = H1∧c = k) I1 r1 ⟨k,tk,rfl,rfl⟩) fun c s2 ⟨H2,I2,e,ec⟩=>?_
 subst e ec
 cases c with
 | false=>exact hb pins s2 σ H2 Q I2 q1
 | true=>exact ⟨x,H2,I2,r1,q1⟩
end
theorem ifSf {a b:Str} {A B:Prop} (h:a≠b) (hB:B):if decide (V.str a = V.str b) = true then A else B:=by
 rw [decide_eq_false (fun z=>h (by injection z))]
 exact hB
theorem ifSt {a:Str} {A B:Prop} (hA:A):if decide (V.str a = V.str a) = true then A else B:=by
 rw [decide_eq_true rfl]
 exact hA
end L2

namespace Sea
open PySem L2
def Far (ss:List Sd) (g P:P3) (ws:List (Int × Int × Int)):Prop :=
 (∃ (i:Nat) (p q:Int) (s:Sd),ws = [((i:Int),p,q)]∧ss[i]? = some s∧0 < p∧0 < q∧p≤10 ^ 19∧q≤10 ^ 19∧Nat.gcd p.natAbs q.natAbs = 1∧p * s.2.1 = q * g.1∧p * s.2.2.1 = q * g.2.1∧sv s.2 P = 0) ∨
 ∃ (i j:Nat) (p q p' q':Int) (s t:Sd),ws = [((i:Int),p,q),((j:Int),p',q')]∧i < j∧ss[i]? = some s∧ss[j]? = some t∧(0 < p∧0 < q∧p≤10 ^ 19∧q≤10 ^ 19∧Nat.gcd p.natAbs q.natAbs = 1)∧(0 < p'∧0 < q'∧p'≤10 ^ 19∧q'≤10 ^ 19∧Nat.gcd p'.natAbs q'.natAbs = 1) ∧
  p * s.2.1 * q' + p' * t.2.1 * q = q * q' * g.1∧p * s.2.2.1 * q' + p' * t.2.2.1 * q = q * q' * g.2.1∧sv s.2 P = 0∧sv t.2 P = 0
theorem zUg (x:Int):absI (-x) = absI x:=by
 unfold absI
 split <;> split <;> omega
theorem zTh {s g:P3} (ht:tn s g = 0) (hd:0 < dt s g):zBx g.1 g.2.1 * s.1 = zBx s.1 s.2.1 * g.1∧zBx g.1 g.2.1 * s.2.1 = zBx s.1 s.2.1 * g.2.1:=by
 have cr:g.1 * s.2.1 = g.2.1 * s.1:=by
  unfold tn at ht
  rw [Int.mul_comm g.1,Int.mul_comm g.2.1]
  rw [Int.mul_comm s.1,Int.mul_comm s.2.1] at ht
  rw [Int.mul_comm s.2.1 g.1,Int.mul_comm s.1 g.2.1]
  omega
 have pr:0≤(g.1 * -s.1) * (g.2.1 * -s.2.1):=by
  have e0:(g.1 * -s.1) * (g.2.1 * -s.2.1) = (g.1 * s.2.1) * (g.2.1 * s.1):=by
   simp only [Int.mul_neg,Int.neg_mul,Int.neg_neg,Int.mul_comm,Int.mul_left_comm]
  rw [e0,← cr]
  exact sq_nn _
 obtain ⟨o1,o2⟩:=zLw (show g.1 * -s.1 + g.2.1 * -s.2.1 < 0 by
  unfold dt at hd
  rw [Int.mul_neg,Int.mul_neg,Int.mul_comm g.1,Int.mul_comm g.2.1]
  omega) pr
 have cn:g.1 * -s.2.1 = g.2.1 * -s.1:=by rw [Int.mul_neg,Int.mul_neg,cr]
 have a1:=par (e1:=g.1) (e2:=g.1) (s1:=-s.1) (s2:=-s.1) rfl o1
 have a2:=par (e1:=g.1) (e2:=g.2.1) (s1:=-s.1) (s2:=-s.2.1) cn o2
 have a3:=par (e1:=g.2.1) (e2:=g.1) (s1:=-s.2.1) (s2:=-s.1) cn.symm o1
 have a4:=par (e1:=g.2.1) (e2:=g.2.1) (s1:=-s.2.1) (s2:=-s.2.1) rfl o2
 rw [zUg,Int.mul_neg] at a1 a2 a3 a4
 unfold zBx
 constructor
 ·rw [Int.add_mul,Int.add_mul]
  omega
 ·rw [Int.add_mul,Int.add_mul]
  omega
theorem zS3 {x y k:Int} (hk:k≠0) (h:x * k = y * k):x = y:=Int.eq_of_mul_eq_mul_right hk h
theorem zL7 {t b x y:Int} (pt:zIr t b x y) (ht:0 < t) (hb:0 < b):0 < x∧0 < y:=by
 have hy:=pt.pos
 refine ⟨?_,by omega⟩
 have e:=pt.eq
 have p:=Int.mul_pos (show 0 < y by omega) ht
 rw [← e] at p
 exact zDb p hb
theorem zVy {ss:List Sd} {g P:P3} {i:Nat} {s:Sd} {x y:Int} (gs:ss[i]? = some s) (ns:s.2.1≠0∨s.2.2.1≠0) (ng:g.1≠0∨g.2.1≠0) (ht:tn s.2 g = 0) (hd:0 < dt s.2 g) (pt:zIr (zBx g.1 g.2.1) (zBx s.2.1 s.2.2.1) x y) (b1:zBx g.1 g.2.1≤10 ^ 19) (b2:zBx s.2.1 s.2.2.1≤10 ^ 19) (on:sv s.2 P = 0):Far ss g P [((i:Int),x,y)]:=by
 obtain ⟨e1,e2⟩:=zTh ht hd
 have pS:=zE9 ns
 have pG:=zE9 ng
 obtain ⟨px,py⟩:=zL7 pt pG pS
 have xl:=pt.xle
 have yl:=pt.yle
 have e:=pt.eq
 refine .inl ⟨i,x,y,s,rfl,gs,px,py,by omega,by omega,pt.low,?_,?_,on⟩
 ·refine zS3 (k:=zBx s.2.1 s.2.2.1) (by omega) ?_
  rw [Int.mul_right_comm,e,Int.mul_assoc,show zBx g.1 g.2.1 * s.2.1 = zBx s.2.1 s.2.2.1 * g.1 from e1,Int.mul_assoc,Int.mul_comm g.1]
 ·refine zS3 (k:=zBx s.2.1 s.2.2.1) (by omega) ?_
  rw [Int.mul_right_comm,e,Int.mul_assoc,show zBx g.1 g.2.1 * s.2.2.1 = zBx s.2.1 s.2.2.1 * g.2.1 from e2,Int.mul_assoc,Int.mul_comm g.2.1]
theorem zTf (s t g:P3):tn g t * s.1 + tn s g * t.1 = tn s t * g.1∧tn g t * s.2.1 + tn s g * t.2.1 = tn s t * g.2.1:=by
 unfold tn
 constructor
 ·simp only [Int.sub_mul,Int.mul_sub,Int.mul_comm,Int.mul_left_comm]
  omega
 ·simp only [Int.sub_mul,Int.mul_sub,Int.mul_comm,Int.mul_left_comm]
  omega
theorem zQu {p q p' q' A B W a b c:Int} (hW:W≠0) (h1:p * W = q * A) (h2:p' * W = q' * B) (h:A * a + B * b = W * c):p * a * q' + p' * b * q = q * q' * c:=by
 refine zS3 hW ?_
 have e:(p * a * q' + p' * b * q) * W = p * W * (a * q') + p' * W * (b * q):=by
  simp only [Int.add_mul,Int.mul_add,Int.mul_comm,Int.mul_left_comm]
 rw [e,h1,h2]
 have e2:q * A * (a * q') + q' * B * (b * q) = q * q' * (A * a + B * b):=by
  simp only [Int.mul_add,Int.add_mul,Int.mul_comm,Int.mul_left_comm]
 rw [e2,h]
 simp only [Int.mul_comm,Int.mul_left_comm]
theorem zVx {ss:List Sd} {g P:P3} {i j:Nat} {s t:Sd} {p q p' q':Int} (gs:ss[i]? = some s) (gt:ss[j]? = some t) (hW:0 < tn s.2 t.2) (hA:0 < tn g t.2) (hB:0 < tn s.2 g) (p1:zIr (tn g t.2) (tn s.2 t.2) p q) (p2:zIr (tn s.2 g) (tn s.2 t.2) p' q')
  (bA:tn g t.2≤10 ^ 19) (bB:tn s.2 g≤10 ^ 19) (bW:tn s.2 t.2≤10 ^ 19) (o1:sv s.2 P = 0) (o2:sv t.2 P = 0) (hij:i≠j):Far ss g P (if j < i then [((j:Int),p',q'),((i:Int),p,q)] else [((i:Int),p,q),((j:Int),p',q')]):=by
 obtain ⟨c1,c2⟩:=zTf s.2 t.2 g
 obtain ⟨a1,a2⟩:=zL7 p1 hA hW
 obtain ⟨a3,a4⟩:=zL7 p2 hB hW
 have x1:=p1.xle
 have x2:=p1.yle
 have x3:=p2.xle
 have x4:=p2.yle
 have k1:=zQu (show tn s.2 t.2≠0 by omega) p1.eq p2.eq c1
 have k2:=zQu (show tn s.2 t.2≠0 by omega) p1.eq p2.eq c2
 have w1:0 < p∧0 < q∧p≤10 ^ 19∧q≤10 ^ 19∧Nat.gcd p.natAbs q.natAbs = 1:=⟨a1,a2,by omega,by omega,p1.low⟩
 have w2:0 < p'∧0 < q'∧p'≤10 ^ 19∧q'≤10 ^ 19∧Nat.gcd p'.natAbs q'.natAbs = 1:=⟨a3,a4,by omega,by omega,p2.low⟩
 by_cases c:j < i
 ·rw [if_pos c]
  refine .inr ⟨j,i,p',q',p,q,t,s,rfl,c,gt,gs,w2,w1,?_,?_,o2,o1⟩
  ·rw [Int.mul_comm q' q]
   have z:p * s.2.1 * q' + p' * t.2.1 * q = q * q' * g.1:=k1
   omega
  ·rw [Int.mul_comm q' q]
   have z:p * s.2.2.1 * q' + p' * t.2.2.1 * q = q * q' * g.2.1:=k2
   omega
 ·rw [if_neg c]
  exact .inr ⟨i,j,p,q,p',q',s,t,rfl,by omega,gs,gt,w1,w2,k1,k2,o1,o2⟩
def sumW (o:Int × Int) (p q n:Int):Int × Int:=(o.1 * q + n * p * o.2,o.2 * q)
def zCm (ss:List Sd) (g:P3):List (Int × Int × Int)→Int→Int × Int→Int × Int→Int × Int→Option (Int × Int)
 | [],_,A,B,C=>if A.1 = g.1 * A.2∧B.1 = g.2.1 * B.2 then some C else none
 | u :: ws,last,A,B,C=>if last < u.1∧u.1 < ss.length∧1≤u.2.1∧1≤u.2.2 then
   match ss[u.1.toNat]? with
   | some t=>zCm ss g ws u.1 (sumW A u.2.1 u.2.2 t.2.1) (sumW B u.2.1 u.2.2 t.2.2.1) (sumW C u.2.1 u.2.2 t.2.2.2)
   | none=>none
  else none
def zFc (ss:List Sd) (g:P3) (ws:List (Int × Int × Int)):Option (Int × Int):=if ws.length≤2 then zCm ss g ws (-1) (0,1) (0,1) (0,1) else none
theorem zDx {ss:List Sd} {g:P3} {n p q last:Int} {t:Sd} {A B C:Int × Int} {ws:List (Int × Int × Int)} (h1:last < n) (h2:n < ss.length) (h3:1≤p) (h4:1≤q) (gt:ss[n.toNat]? = some t) :
  zCm ss g ((n,p,q) :: ws) last A B C = zCm ss g ws n (sumW A p q t.2.1) (sumW B p q t.2.2.1) (sumW C p q t.2.2.2):=by
 rw [zCm,if_pos ⟨h1,h2,h3,h4⟩]
 show (match ss[n.toNat]? with | some t=>zCm ss g ws n (sumW A p q t.2.1) (sumW B p q t.2.2.1) (sumW C p q t.2.2.2) | none=>none) = _
 rw [gt]
theorem zPz {ss:List Sd} {g:P3} {n p q last:Int} {A B C:Int × Int} {ws:List (Int × Int × Int)} (h:¬ (last < n∧n < ss.length∧1≤p∧1≤q)):zCm ss g ((n,p,q) :: ws) last A B C = none:=by
 rw [zCm,if_neg h]
theorem zQ9 {a b c x y w:Int} (h:a * x + b * y - c * w = 0):a * x + b * y = c * w:=by omega
theorem Far.bound {ss:List Sd} {g P:P3} {ws:List (Int × Int × Int)} (h:Far ss g P ws) (sm:∀ t∈ss,t.2.2.2.natAbs≤10 ^ 13):∃ x y:Int,zFc ss g ws = some (x,y)∧(g.1 * P.1 + g.2.1 * P.2.1) * y = x * P.2.2∧x.natAbs≤10 ^ 60∧y.natAbs≤10 ^ 60:=by
 rcases h with ⟨i,p,q,s,rfl,gs,hp,hq,bp,bq,_,e1,e2,on⟩ | ⟨i,j,p,q,p',q',s,t,rfl,hij,gs,gt,⟨hp,hq,bp,bq,_⟩,⟨hp',hq',bp',bq',_⟩,e1,e2,o1,o2⟩
 ·have hi:=(List.getElem?_eq_some_iff.mp gs).1
  refine ⟨0 * q + s.2.2.2 * p * 1,1 * q,?_,?_,?_,?_⟩
  ·unfold zFc
   rw [if_pos (by show 1≤2; decide),zDx (t:=s) (by omega) (by omega) (by omega) (by omega) (by rw [Int.toNat_natCast]; exact gs),zCm]
   show (if 0 * q + s.2.1 * p * 1 = g.1 * (1 * q)∧0 * q + s.2.2.1 * p * 1 = g.2.1 * (1 * q) then some (0 * q + s.2.2.2 * p * 1,1 * q) else none) = _
   rw [if_pos]
   constructor
   ·rw [Int.zero_mul,Int.zero_add,Int.mul_one,Int.one_mul,Int.mul_comm s.2.1,Int.mul_comm g.1]
    exact e1
   ·rw [Int.zero_mul,Int.zero_add,Int.mul_one,Int.one_mul,Int.mul_comm s.2.2.1,Int.mul_comm g.2.1]
    exact e2
  ·have o:=zQ9 (show s.2.1 * P.1 + s.2.2.1 * P.2.1 - s.2.2.2 * P.2.2 = 0 from on)
   have z:(g.1 * P.1 + g.2.1 * P.2.1) * (1 * q) = (q * g.1) * P.1 + (q * g.2.1) * P.2.1:=by
    simp only [Int.one_mul,Int.mul_one,Int.add_mul,Int.mul_add,Int.mul_comm,Int.mul_left_comm]
   rw [z,← e1,← e2]
   have z2:p * s.2.1 * P.1 + p * s.2.2.1 * P.2.1 = p * (s.2.1 * P.1 + s.2.2.1 * P.2.1):=by
    simp only [Int.mul_add,Int.mul_comm,Int.mul_left_comm]
   rw [z2,o,Int.zero_mul,Int.zero_add,Int.mul_one]
   simp only [Int.mul_comm,Int.mul_left_comm]
  ·have z:=zAj s.2.2.2 p (sm s (List.mem_of_getElem? gs)) (show p.natAbs≤10 ^ 19 by omega)
   omega
  ·omega
 ·have hi:=(List.getElem?_eq_some_iff.mp gs).1
  have hj:=(List.getElem?_eq_some_iff.mp gt).1
  refine ⟨(0 * q + s.2.2.2 * p * 1) * q' + t.2.2.2 * p' * (1 * q),1 * q * q',?_,?_,?_,?_⟩
  ·unfold zFc
   rw [if_pos (by show 2≤2; decide),zDx (t:=s) (by omega) (by omega) (by omega) (by omega) (by rw [Int.toNat_natCast]; exact gs),zDx (t:=t) (by omega) (by omega) (by omega) (by omega) (by rw [Int.toNat_natCast]; exact gt),zCm]
   show (if (0 * q + s.2.1 * p * 1) * q' + t.2.1 * p' * (1 * q) = g.1 * (1 * q * q')∧(0 * q + s.2.2.1 * p * 1) * q' + t.2.2.1 * p' * (1 * q) = g.2.1 * (1 * q * q') then some ((0 * q + s.2.2.2 * p * 1) * q' + t.2.2.2 * p' * (1 * q),1 * q * q') else none) = _
   rw [if_pos]
   constructor
   ·rw [Int.zero_mul,Int.zero_add,Int.mul_one,Int.one_mul,Int.mul_comm s.2.1,Int.mul_comm t.2.1,Int.mul_comm g.1]
    exact e1
   ·rw [Int.zero_mul,Int.zero_add,Int.mul_one,Int.one_mul,Int.mul_comm s.2.2.1,Int.mul_comm t.2.2.1,Int.mul_comm g.2.1]
    exact e2
  ·have oa:=zQ9 (show s.2.1 * P.1 + s.2.2.1 * P.2.1 - s.2.2.2 * P.2.2 = 0 from o1)
   have ob:=zQ9 (show t.2.1 * P.1 + t.2.2.1 * P.2.1 - t.2.2.2 * P.2.2 = 0 from o2)
   have z:(g.1 * P.1 + g.2.1 * P.2.1) * (1 * q * q') = (q * q' * g.1) * P.1 + (q * q' * g.2.1) * P.2.1:=by
    simp only [Int.one_mul,Int.mul_one,Int.add_mul,Int.mul_add,Int.mul_comm,Int.mul_left_comm]
   rw [z,← e1,← e2]
   have z2:(p * s.2.1 * q' + p' * t.2.1 * q) * P.1 + (p * s.2.2.1 * q' + p' * t.2.2.1 * q) * P.2.1 = p * q' * (s.2.1 * P.1 + s.2.2.1 * P.2.1) + p' * q * (t.2.1 * P.1 + t.2.2.1 * P.2.1):=by
    simp only [Int.mul_add,Int.add_mul,Int.mul_comm,Int.mul_left_comm]
    omega
   rw [z2,oa,ob,Int.zero_mul,Int.zero_add,Int.mul_one,Int.one_mul]
   simp only [Int.add_mul,Int.mul_add,Int.mul_comm,Int.mul_left_comm]
  ·have z1:=zAj s.2.2.2 p (sm s (List.mem_of_getElem? gs)) (show p.natAbs≤10 ^ 19 by omega)
   have z2:=zAj (s.2.2.2 * p) q' z1 (show q'.natAbs≤10 ^ 19 by omega)
   have z3:=zAj t.2.2.2 p' (sm t (List.mem_of_getElem? gt)) (show p'.natAbs≤10 ^ 19 by omega)
   have z4:=zAj (t.2.2.2 * p') q z3 (show q.natAbs≤10 ^ 19 by omega)
   rw [Int.zero_mul,Int.zero_add,Int.mul_one,Int.one_mul]
   omega
  ·have z:=zAj q q' (show q.natAbs≤10 ^ 19 by omega) (show q'.natAbs≤10 ^ 19 by omega)
   rw [Int.one_mul]
   omega
theorem Far.low {ss:List Sd} {g P:P3} {ws:List (Int × Int × Int)} (h:Far ss g P ws):ws.length≤2∧∀ u∈ws,Nat.gcd u.2.1.natAbs u.2.2.natAbs = 1∧u.1.natAbs≤ss.length∧u.2.1.natAbs≤10 ^ 19∧u.2.2.natAbs≤10 ^ 19:=by
 rcases h with ⟨i,p,q,s,rfl,gs,hp,hq,bp,bq,lo,_⟩ | ⟨i,j,p,q,p',q',s,t,rfl,hij,gs,gt,⟨hp,hq,bp,bq,lo⟩,⟨hp',hq',bp',bq',lo'⟩,_⟩
 ·have hi:=(List.getElem?_eq_some_iff.mp gs).1
  refine ⟨(by show 1≤2; decide),fun u hu=>?_⟩
  rw [List.mem_singleton] at hu
  subst hu
  exact ⟨lo,(by show (i:Int).natAbs≤_; omega),(by show p.natAbs≤_; omega),(by show q.natAbs≤_; omega)⟩
 ·have hi:=(List.getElem?_eq_some_iff.mp gs).1
  have hj:=(List.getElem?_eq_some_iff.mp gt).1
  refine ⟨(by show 2≤2; decide),fun u hu=>?_⟩
  rcases List.mem_cons.mp hu with rfl | hu
  ·exact ⟨lo,(by show (i:Int).natAbs≤_; omega),(by show p.natAbs≤_; omega),(by show q.natAbs≤_; omega)⟩
  ·rw [List.mem_singleton] at hu
   subst hu
   exact ⟨lo',(by show (j:Int).natAbs≤_; omega),(by show p'.natAbs≤_; omega),(by show q'.natAbs≤_; omega)⟩
theorem zTp {t:P3} (h:t.1≠0∨t.2.1≠0) (b1:t.1.natAbs≤10 ^ 9) (b2:t.2.1.natAbs≤10 ^ 9) (b3:t.2.2.natAbs≤10 ^ 13):(pt3 (ftL t)).1.natAbs≤10 ^ 40∧(pt3 (ftL t)).2.1.natAbs≤10 ^ 40∧(pt3 (ftL t)).2.2.natAbs≤10 ^ 40:=by
 have hw:=zEy h
 obtain ⟨x,y,w,el,sp⟩:=zH3 (X:=t.1 * t.2.2) (Y:=t.2.1 * t.2.2) (W:=t.1 * t.1 + t.2.1 * t.2.1) (by omega)
 have e1:ftL t = [x,y,w]:=el
 rw [e1]
 have z1:=zAj t.1 t.2.2 b1 b3
 have z2:=zAj t.2.1 t.2.2 b2 b3
 have z3:=zAj t.1 t.1 b1 b1
 have z4:=zAj t.2.1 t.2.1 b2 b2
 have x1:=sp.xle
 have x2:=sp.yle
 have x3:=sp.wle
 refine ⟨?_,?_,?_⟩
 ·show x.natAbs≤10 ^ 40
  omega
 ·show y.natAbs≤10 ^ 40
  omega
 ·show w.natAbs≤10 ^ 40
  omega
theorem Cand.small {ss:List Sd} {P:P3} (c:Cand ss P) (sm:∀ t∈ss,(t.2.1≠0∨t.2.2.1≠0)∧t.2.1.natAbs≤10 ^ 9∧t.2.2.1.natAbs≤10 ^ 9∧t.2.2.2.natAbs≤10 ^ 13):P.1.natAbs≤10 ^ 40∧P.2.1.natAbs≤10 ^ 40∧P.2.2.natAbs≤10 ^ 40:=by
 rcases c with rfl | ⟨t,mt,rfl⟩ | ⟨t,mt,u,mu,h,rfl⟩
 ·exact ⟨by decide,by decide,by decide⟩
 ·obtain ⟨n,b1,b2,b3⟩:=sm t mt
  exact zTp n b1 b2 b3
 ·obtain ⟨_,b1,b2,b3⟩:=sm t mt
  obtain ⟨_,d1,d2,d3⟩:=sm u mu
  exact zUe h b1 b2 b3 d1 d2 d3
def Sz (o:Int × Int):Prop:=o.1.natAbs≤10 ^ 100∧o.2.natAbs≤10 ^ 100
def Sz40 (p q:Int):Prop:=p.natAbs≤10 ^ 40∧q.natAbs≤10 ^ 40
def Sz13 (n:Int):Prop:=n.natAbs≤10 ^ 13
theorem Sz40.up {p q:Int} (h:Sz40 p q):p.natAbs≤10 ^ 100∧q.natAbs≤10 ^ 100:=⟨Nat.le_trans h.1 (by decide),Nat.le_trans h.2 (by decide)⟩
theorem Sz13.up {n:Int} (h:Sz13 n):n.natAbs≤10 ^ 100:=Nat.le_trans (show n.natAbs≤10 ^ 13 from h) (by decide)
theorem zIl {o:Int × Int} {p q n:Int} (h:o = (0,1)) (hb:Sz40 p q) (hn:Sz13 n):Sz (sumW o p q n):=by
 subst h
 have z:=zAj n p hn hb.1
 have hq:=hb.2
 show (0 * q + n * p * 1).natAbs≤10 ^ 100∧(1 * q).natAbs≤10 ^ 100
 rw [Int.zero_mul,Int.zero_add,Int.mul_one,Int.one_mul]
 exact ⟨Nat.le_trans z (by decide),Nat.le_trans hq (by decide)⟩
end Sea

namespace Sea
open PySem L2
structure FarNums (x y m:Int) (P:P3):Prop where
 a1:(-x * P.2.2).natAbs≤10 ^ 60
 a2:(-y * P.2.2).natAbs≤10 ^ 60
 top:(x * P.1 + y * P.2.1).natAbs≤10 ^ 60
 t0:(-(x * P.1 + y * P.2.1)).natAbs≤10 ^ 60
 t1:(-(x * P.1 + y * P.2.1) - 1).natAbs≤10 ^ 60
 u1:(-x * P.2.2 * m).natAbs≤10 ^ 60
 u2:(-y * P.2.2 * m).natAbs≤10 ^ 60
 u3:(-(x * P.1 + y * P.2.1) * m - 1).natAbs≤10 ^ 60
 nw : -x * P.2.2≠0∨-y * P.2.2≠0
 nm : -x * P.2.2 * m≠0∨-y * P.2.2 * m≠0
 wd:P.2.2.natAbs≤10 ^ 60
end Sea

namespace L2
open PySem PySem.Spec PyProof.Rows
section
variable {prog:Program} {w:World} {A:Around} {E:Value→Shared→Prop}
end
section
variable {X:Cx} {pos:Pos}
end
end L2

namespace Sea
open PySem L2
def awB (N:Nat):List (Int × Int)→Int→Bool
 | [],_=>true
 | c :: cs,least=>if least≤c.1∧c.1 < N∧1≤c.2 then awB N cs (c.1 + 1) else false
def zBi (ss:List Sd) (f:Sd→Int) (n:Int):Int:=match ss[n.toNat]? with
 | some t=>f t
 | none=>0
def sumF (ss:List Sd) (f:Sd→Int):List (Int × Int)→Int→Int
 | [],T=>T
 | c :: cs,T=>sumF ss f cs (T + c.2 * zBi ss f c.1)
def fAt (k:Int) (t:Sd):Int:=if k = 0 then t.2.1 else if k = 1 then t.2.2.1 else t.2.2.2
theorem zNp {ss:List Sd} : ∀ (cs:List (Int × Int)) (last:Int) (T:P3),-1≤last→goB ss cs last T = (awB ss.length cs (last + 1) && (decide ([sumF ss (fAt 0) cs T.1,sumF ss (fAt 1) cs T.2.1] = [0,0]) && decide (sumF ss (fAt 2) cs T.2.2 < 0)))
 | [],_,_,_=>rfl
 | (n,v) :: cs,last,T,hl=>by
  by_cases h:last < n∧n < ss.length∧1≤v
  ·obtain ⟨h1,h2,h3⟩:=h
   have hn:n.toNat < ss.length:=by omega
   have g:ss[n.toNat]? = some ss[n.toNat]:=List.getElem?_eq_getElem hn
   rw [zFs h1 h2 h3 g,zNp cs n _ (by omega)]
   have e:awB ss.length ((n,v) :: cs) (last + 1) = awB ss.length cs (n + 1):=by
    rw [awB,if_pos ⟨show last + 1≤n by omega,h2,h3⟩]
   have s:∀ f:Sd→Int,zBi ss f n = f ss[n.toNat]:=fun f=>by
    unfold zBi
    rw [g]
   rw [e,sumF,sumF,sumF,s,s,s]
   rfl
  ·rw [zVf h,awB,if_neg (fun z=>h ⟨by have:last + 1≤n:=z.1; omega,z.2⟩)]
   rfl
theorem zM5 {N:Nat} : ∀ {cs:List (Int × Int)} {least:Int},0≤least→awB N cs least = true→∀ c∈cs,0≤c.1∧c.1 < N
 | [],_,_,_,_,h=>nomatch h
 | a :: cs,least,hl,h,c,hc=>by
  rw [awB] at h
  split at h
  ·rename_i hh
   rcases List.mem_cons.mp hc with e | e
   ·rw [e]
    exact ⟨by have:=hh.1; omega,hh.2.1⟩
   ·exact zM5 (least:=a.1 + 1) (by have:=hh.1; omega) h c e
  ·cases h
theorem zT8 {t b x y:Int} (hb:b = 1) (p:zIr t b x y):x = t∧y = 1:=by
 subst hb
 have h1:=p.pos
 have h2:=p.yle
 have hy:y = 1:=by
  have:(1:Int).natAbs = 1:=rfl
  omega
 have h3:=p.eq
 rw [hy] at h3
 exact ⟨by omega,hy⟩
abbrev Wo:=Addr × Addr × Int × Int
def zK1 (ws:List Wo):List V:=ws.map fun t=>V.ref t.1
def WoAt (H:Hp) (ws:List Wo):Prop:=∀ t∈ws,H t.1 = some (.tup [.int t.2.2.1,.ref t.2.1])∧H t.2.1 = some (.tup [.int t.2.2.2,.int 1])
theorem WoAt.same {H H':Hp} {ws:List Wo} (h:WoAt H ws) (s:Same H H'):WoAt H' ws:=fun t ht=>⟨s _ _ (h t ht).1,s _ _ (h t ht).2⟩
theorem zL2 (ws:List Wo):(zK1 ws).length = ws.length:=List.length_map ..
theorem zFg {ps:List Pr} {i:Nat} {v:V} (h:(zAo ps)[i]? = some v):∃ t,ps[i]? = some t∧v = .ref t.1∧i < ps.length:=by
 unfold zAo at h
 rw [List.getElem?_map,List.getElem?_map] at h
 cases e:ps[i]? with
 | none=>rw [e] at h; cases h
 | some t =>
  rw [e] at h
  cases h
  exact ⟨t,rfl,rfl,(List.getElem?_eq_some_iff.mp e).1⟩
structure PrSt (H0:Hp) (D:Addr) (cs:List Pr) (H:Hp):Prop where
 same:Same H0 H
 new:H0 D = none
 at':H D = some (.lst (zAo cs))
 all:PrAt H cs
def zCr (n:Nat) (cs:List Pr):List Pr:=cs.filter fun c=>decide (c.2.1 < (n:Int))
theorem zS8 (ss:List Sd) (f:Sd→Int):∀ (cs:List (Int × Int)) (T:Int),sumF ss f cs T = T + (cs.map fun c=>c.2 * zBi ss f c.1).sum
 | [],T=>by simp [sumF]
 | c :: cs,T=>by
  rw [sumF,zS8 ss f cs,List.map_cons,List.sum_cons]
  omega
theorem zUn {H H2:Hp} {W p1 p2:Addr} {ws:List Wo} {n v:Int} {o:HO} {xs:List V} (h:WoAt H ws) (s:Same H H2) (eW:H2 W = some (.lst xs)) (e2:H2 p2 = some (.tup [.int n,.ref p1])) (e1:H2 p1 = some (.tup [.int v,.int 1])):WoAt (upd H2 W o) (ws ++ [(p2,p1,n,v)]):=fun u hu=>by
 have keep:∀ (b:Addr) (ys:List V),H2 b = some (.tup ys)→upd H2 W o b = some (.tup ys):=fun b ys e=>by
  rw [zA5 (zIb e eW (by intro z; cases z))]
  exact e
 rcases List.mem_append.mp hu with h' | h'
 ·obtain ⟨z1,z2⟩:=(h.same s) u h'
  exact ⟨keep _ _ z1,keep _ _ z2⟩
 ·rw [List.mem_singleton] at h'
  subst h'
  exact ⟨keep _ _ e2,keep _ _ e1⟩
end Sea

namespace L2
open PySem PySem.Spec PyProof.Rows
theorem zVe:bootBuiltins "sum" = some (.builtin "sum"):=by decide +kernel
theorem zLt (ns:List Int):∀ n,n≤ns.length→preSum (fun i=>ns.getD i 0) n = (ns.take n).sum
 | 0,_=>by simp [preSum]
 | n + 1,h=>by
  have hn:n < ns.length:=h
  rw [preSum,zLt ns n (Nat.le_of_lt hn),List.take_succ,List.getElem?_eq_getElem hn,List.sum_append]
  simp [List.getD,List.getElem?_eq_getElem hn]
theorem zKi:∀ {ns:List Int} {us:List Value},Vals (ns.map V.int) us→∀ (i:Nat) (v:Value),us[i]? = some v→∃ t,v = .int (ns.getD i 0) t
 | [],us,r,i,v,h=>by
  have e:=Vals.zero r
  subst e
  simp at h
 | n :: ns,us,r,i,v,h=>by
  cases r with
  | cons r1 r2 =>
   match i,h with
   | 0,h =>
    obtain ⟨t,rfl⟩:=r1
    exact ⟨t,(Option.some.inj h).symm⟩
   | i + 1,h=>exact zKi r2 i v h
section
variable {X:Cx}
theorem zNm (hc:X.calm = true):zHg X (.builtin "sum") (fun xs H Q=>∃ (p:Addr) (ns:List Int),xs = [.ref p]∧SqL X.K H p (ns.map V.int)∧Q (.int ns.sum) H):=by
 intro pins s σ H xs us Q I r h
 obtain ⟨p,ns,rfl,hq,q⟩:=h
 obtain ⟨u,rfl,r1⟩:=zQ4 r
 cases r1
 obtain ⟨its,rv,pl,hz⟩:=I.list hq
 have hL:s.heap.IsList p its.toArray:=pl.isList
 have hlt:p < s.heap.objs.size:=by obtain ⟨o,ho,_⟩:=hL; exact Heap.lt_size ho
 have nn:its.length = ns.length:=by
  have z:=rv.length
  rw [List.length_map] at z
  exact z.symm
 refine call_sum_walkG (wpAny_pyIter_list hL ?_)
 refine ⟨_,[_,p],[_],_,_,_,fun i=>ns.getD i 0,rfl,Walks.list (A:=X.A.in1) (I.ok.hd hc) _ p (Nat.ne_of_lt hlt) its.toArray,
  ⟨⟨_,Heap.get?_push_size _ rfl,rfl,rfl⟩,hL.push _⟩,fun c hc=>?_,fun i v hv=>zKi rv i v (by simpa using hv),fun h' tk t' hk=>?_⟩
 ·have sz:(s.heap.push { cls:=.type "list_iterator", data:=.fields #[.ref p,.int 0 0] }).objs.size = s.heap.objs.size + 1:=Heap.size_push ..
  show c < (s.heap.push { cls:=.type "list_iterator", data:=.fields #[.ref p,.int 0 0] }).objs.size
  rw [sz]
  simp only [List.mem_cons,List.not_mem_nil,or_false] at hc
  rcases hc with e | e
  ·rw [e]; exact Nat.lt_succ_self _
  ·rw [e]; exact Nat.lt_succ_of_lt hlt
 ·refine ⟨.int ns.sum,H,I.kept (t':=tk) fun c o e=>hk c o (fun hm=>?_) (Heap.get?_push_of_some _ e),⟨t',?_⟩,q⟩
  ·have e1:=List.mem_singleton.mp hm
   have z:=Heap.lt_size e
   rw [e1] at z
   exact Nat.lt_irrefl _ z
  ·have e:its.toArray.size = ns.length:=by simp [nn]
   rw [e,zLt ns ns.length (Nat.le_refl _),List.take_length]
end
end L2

namespace L2
open PySem PySem.Spec PyProof.Rows
section
variable {X:Cx} {pos:Pos}
def rNeLL (K:PySem.W.Frag):R2:=fun x y H Q=>∃ (a b l1 l2 m1 m2:Addr) (rs ts:List Addr),x = .ref a∧y = .ref b∧SqL K H a [.ref l1,.ref l2]∧SqL K H b [.ref m1,.ref m2] ∧
 SqL K H l1 (rs.map V.ref)∧SqL K H m1 (rs.map V.ref)∧SqL K H l2 (ts.map V.ref)∧SqL K H m2 (ts.map V.ref)∧l1≠m1∧l2≠m2∧Q (.bl false) H
theorem zVo (hu:X.A.units + 64 < cLine):OpR X (compareOp .NotEq) (rNeLL X.K):=by
 intro pins s σ H x y v u Q I rx ry h
 obtain ⟨a,b,l1,l2,m1,m2,rs,ts,rfl,rfl,h1,h2,e1,f1,e2,f2,n1,n2,q⟩:=h
 cases rx
 cases ry
 obtain ⟨us,r1,k1,_⟩:=I.list h1
 obtain ⟨ws,r2,k2,_⟩:=I.list h2
 obtain ⟨u1,u2,rfl,g1,g2⟩:=zUb r1
 obtain ⟨w1,w2,rfl,g3,g4⟩:=zUb r2
 cases g1
 cases g2
 cases g3
 cases g4
 have one:∀ {l m:Addr} {rs:List Addr},SqL X.K H l (rs.map V.ref)→SqL X.K H m (rs.map V.ref)→l≠m→SeqAt.EqAt X.A.in1 s (.ref l) (.ref m) true:=fun {l m rs} e f n=>by
  obtain ⟨us,r1,k1,_⟩:=I.list e
  obtain ⟨ws,r2,k2,_⟩:=I.list f
  have e1:=zJw r1
  have e2:=zJw r2
  subst e1 e2
  have z:=SeqAt.RcAt.lists (A:=X.A.in1) (e:=fun _=>true) k1.isList k2.isList rfl (show X.A.units + 1 < cLine by omega) (fun j _ _=>SeqAt.EqAt.same _)
  rw [zIs] at z
  exact SeqAt.EqAt.of_refs n z
 refine SeqAt.RcNeAt.lists (e:=fun _=>true) k1.isList k2.isList rfl (show X.A.units < cLine by omega) (fun j g _=>?_) X.prog X.w _ _ ?_
 ·match j,g with
  | 0,_=>exact one e1 f1 n1
  | 1,_=>exact one e2 f2 n2
  | j + 2,g=>exact absurd g (by simp)
 ·rw [zIs]
  exact ⟨.bl false,H,I,rfl,q⟩
end
end L2

namespace Sea
open PySem L2
def sumP (F:Int × Int→Int):List (Int × Int)→Int
 | []=>0
 | c :: cs=>F c + sumP F cs
theorem zIv (ss:List Sd) (f:Sd→Int):∀ (cs:List (Int × Int)) (T:Int),sumF ss f cs T = T + sumP (fun c=>c.2 * zBi ss f c.1) cs
 | [],T=>by simp [sumF,sumP]
 | c :: cs,T=>by
  rw [sumF,zIv ss f cs,sumP]
  omega
theorem zKk (F:Int × Int→Int) (p:Int × Int→Bool):∀ cs:List (Int × Int),sumP F cs = sumP F (cs.filter p) + sumP F (cs.filter fun c=>!p c)
 | []=>rfl
 | c :: cs=>by
  rw [sumP,zKk F p cs,List.filter_cons,List.filter_cons]
  cases p c with
  | true =>
   rw [if_pos rfl,if_neg (by decide),sumP]
   omega
  | false =>
   rw [if_neg (by decide),if_pos (by decide),sumP]
   omega
theorem zMa {F:Int × Int→Int} : ∀ {cs:List (Int × Int)},(∀ c∈cs,F c≤0)→sumP F cs≤0
 | [],_=>Int.le_refl _
 | c :: cs,h=>by
  have h1:=h c (List.mem_cons_self ..)
  have h2:=zMa fun c hc=>h c (List.mem_cons_of_mem _ hc)
  rw [sumP]
  omega
theorem zIk {F G:Int × Int→Int} : ∀ {cs:List (Int × Int)},(∀ c∈cs,F c = G c)→sumP F cs = sumP G cs
 | [],_=>rfl
 | c :: cs,h=>by
  rw [sumP,sumP,h c (List.mem_cons_self ..),zIk fun c hc=>h c (List.mem_cons_of_mem _ hc)]
theorem zOy (A B C:Int × Int→Int) (x y w:Int):∀ cs:List (Int × Int),sumP (fun c=>A c * x + B c * y - C c * w) cs = sumP A cs * x + sumP B cs * y - sumP C cs * w
 | []=>by simp [sumP]
 | c :: cs=>by
  rw [sumP,sumP,sumP,sumP,zOy A B C x y w cs,Int.add_mul,Int.add_mul,Int.add_mul]
  omega
theorem zPl {F:Int × Int→Int} {b:Nat} : ∀ {cs:List (Int × Int)},(∀ c∈cs,(F c).natAbs≤b)→(sumP F cs).natAbs≤cs.length * b
 | [],_=>Nat.zero_le _
 | c :: cs,h=>by
  have h1:=h c (List.mem_cons_self ..)
  have h2:=zPl fun c hc=>h c (List.mem_cons_of_mem _ hc)
  rw [sumP,List.length_cons,Nat.succ_mul]
  omega
abbrev svAt (ss:List Sd) (n:Int) (z:P3):Int:=zBi ss (fun t=>sv t.2 z) n
theorem zVh (ss:List Sd) (n:Int) (z:P3):svAt ss n z = zBi ss (fAt 0) n * z.1 + zBi ss (fAt 1) n * z.2.1 - zBi ss (fAt 2) n * z.2.2:=by
 unfold svAt zBi
 cases ss[n.toNat]? with
 | none=>simp
 | some t=>rfl
theorem zRt (ss:List Sd) (cs:List (Int × Int)) (z:P3):sumP (fun c=>c.2 * svAt ss c.1 z) cs = sumF ss (fAt 0) cs 0 * z.1 + sumF ss (fAt 1) cs 0 * z.2.1 - sumF ss (fAt 2) cs 0 * z.2.2:=by
 rw [zIv,zIv,zIv,Int.zero_add,Int.zero_add,Int.zero_add,← zOy]
 refine zIk fun c _=>?_
 rw [zVh,Int.mul_sub,Int.mul_add,Int.mul_assoc,Int.mul_assoc,Int.mul_assoc]
theorem zRa {ss:List Sd} {n:Int} {z:P3} (h:inW ss z):svAt ss n z≤0:=by
 unfold svAt zBi
 cases g:ss[n.toNat]? with
 | none=>exact Int.le_refl _
 | some t=>exact h t (List.mem_of_getElem? g)
theorem zS7 {N:Nat} : ∀ {cs:List (Int × Int)} {least:Int},awB N cs least = true→∀ c∈cs,1≤c.2
 | [],_,_,_,h=>nomatch h
 | a :: cs,least,h,c,hc=>by
  rw [awB] at h
  split at h
  ·rename_i hh
   rcases List.mem_cons.mp hc with e | e
   ·rw [e]
    exact hh.2.2
   ·exact zS7 (least:=a.1 + 1) h c e
  ·cases h
theorem zMr {N:Nat} : ∀ {cs:List (Int × Int)} {least:Int},awB N cs least = true→∀ c∈cs,least≤c.1
 | [],_,_,_,h=>nomatch h
 | a :: cs,least,h,c,hc=>by
  rw [awB] at h
  split at h
  ·rename_i hh
   rcases List.mem_cons.mp hc with e | e
   ·rw [e]
    exact hh.1
   ·have:=zMr (least:=a.1 + 1) h c e
    have:=hh.1
    omega
  ·cases h
def fstP (n:Nat) (cs:List (Int × Int)):List (Int × Int):=cs.filter fun c=>decide (c.1 < (n:Int))
theorem zPo (n:Nat) (cs:List Pr):(zCr n cs).map (·.2) = fstP n (cs.map (·.2)):=by
 unfold zCr fstP
 rw [List.filter_map]
 rfl
theorem zPa {ss es:List Sd} {n:Int} {z:P3} (h0:0≤n) (h:n < ss.length):svAt (ss ++ es) n z = svAt ss n z:=by
 unfold svAt zBi
 rw [List.getElem?_append_left (by omega)]
structure zVr (ss es:List Sd) (cs:List (Int × Int)):Prop where
 out:∀ v:P3,0 < v.2.2→inW es v→sumF ss (fAt 2) (fstP ss.length cs) 0 * v.2.2 < sumF ss (fAt 0) (fstP ss.length cs) 0 * v.1 + sumF ss (fAt 1) (fstP ss.length cs) 0 * v.2.1
 ins:∀ v:P3,inW ss v→sumF ss (fAt 0) (fstP ss.length cs) 0 * v.1 + sumF ss (fAt 1) (fstP ss.length cs) 0 * v.2.1≤sumF ss (fAt 2) (fstP ss.length cs) 0 * v.2.2
 few:(∃ z:P3,0 < z.2.2∧inW ss z)→(fstP ss.length cs).length≤2
theorem zVr.of {ss es:List Sd} {cs:List (Int × Int)} (h:zF7 (ss ++ es) cs = true):awB (ss ++ es).length cs 0 = true∧zVr ss es cs:=by
 unfold zF7 at h
 obtain ⟨_,h⟩:=Bool.and_eq_true_iff.mp h
 obtain ⟨h3,h⟩:=Bool.and_eq_true_iff.mp h
 have h3:=of_decide_eq_true h3
 rw [zNp cs (-1) _ (by decide)] at h
 obtain ⟨aw,h⟩:=Bool.and_eq_true_iff.mp h
 obtain ⟨z01,z2⟩:=Bool.and_eq_true_iff.mp h
 have z01:=of_decide_eq_true z01
 have z2:sumF (ss ++ es) (fAt 2) cs 0 < 0:=of_decide_eq_true z2
 have z0:sumF (ss ++ es) (fAt 0) cs 0 = 0:=by injection z01
 have z1:sumF (ss ++ es) (fAt 1) cs 0 = 0:=by
  injection z01 with _ z
  injection z
 have aw0:awB (ss ++ es).length cs 0 = true:=aw
 have rg:=zM5 (Int.le_refl 0) aw0
 have one:=zS7 aw0
 have all:∀ v:P3,0 < v.2.2→0 < sumP (fun c=>c.2 * svAt (ss ++ es) c.1 v) cs:=fun v vw=>by
  rw [zRt,z0,z1,Int.zero_mul,Int.zero_mul]
  have:=Int.mul_neg_of_neg_of_pos z2 vw
  omega
 have fs:∀ v:P3,sumP (fun c=>c.2 * svAt (ss ++ es) c.1 v) (fstP ss.length cs) = sumP (fun c=>c.2 * svAt ss c.1 v) (fstP ss.length cs):=fun v=>zIk fun c hc=>by
  obtain ⟨mc,lc⟩:=List.mem_filter.mp hc
  show c.2 * svAt (ss ++ es) c.1 v = c.2 * svAt ss c.1 v
  rw [zPa (rg c mc).1 (of_decide_eq_true lc)]
 have ins:∀ v:P3,inW ss v→sumP (fun c=>c.2 * svAt ss c.1 v) (fstP ss.length cs)≤0:=fun v wv=>zMa fun c hc=>Int.mul_nonpos_of_nonneg_of_nonpos (by have:=one c (List.mem_filter.mp hc).1; omega) (zRa wv)
 refine ⟨aw0,fun v vw wv=>?_,fun v wv=>?_,fun ⟨z,zw,wz⟩=>?_⟩
 ·have a:=all v vw
  rw [zKk _ (fun c=>decide (c.1 < (ss.length:Int)))] at a
  have f:=fs v
  unfold fstP at f
  rw [f] at a
  have r:sumP (fun c=>c.2 * svAt (ss ++ es) c.1 v) (cs.filter fun c=>!decide (c.1 < (ss.length:Int)))≤0:=zMa fun c hc=>by
   obtain ⟨mc,lc⟩:=List.mem_filter.mp hc
   have lc:¬ c.1 < (ss.length:Int):=by simpa using lc
   have k:=rg c mc
   rw [List.length_append] at k
   refine Int.mul_nonpos_of_nonneg_of_nonpos (by have:=one c mc; omega) ?_
   unfold svAt zBi
   rw [List.getElem?_append_right (by omega),List.getElem?_eq_getElem (show c.1.toNat - ss.length < es.length by omega)]
   exact wv _ (List.getElem_mem _)
  have e:=zRt ss (fstP ss.length cs) v
  unfold fstP at e ⊢
  omega
 ·have a:=ins v wv
  rw [zRt] at a
  omega
 ·by_cases c:(fstP ss.length cs).length≤2
  ·exact c
  ·have l1:(fstP ss.length cs).length≤cs.length:=List.length_filter_le ..
   have l2:(fstP ss.length cs).length = cs.length:=by omega
   have al:=List.length_filter_eq_length_iff.mp l2
   have a:=all z zw
   have b:sumP (fun c=>c.2 * svAt (ss ++ es) c.1 z) cs≤0:=zMa fun c hc=>by
    show c.2 * svAt (ss ++ es) c.1 z≤0
    rw [zPa (rg c hc).1 (of_decide_eq_true (al c hc))]
    exact Int.mul_nonpos_of_nonneg_of_nonpos (by have:=one c hc; omega) (zRa wz)
   omega
theorem zHz {ss:List Sd} {g:P3} {N:Nat} : ∀ (cs:List (Int × Int)) (last a b c:Int),-1≤last→awB N cs (last + 1) = true→a + sumP (fun u=>u.2 * zBi ss (fAt 0) u.1) (fstP ss.length cs) = g.1→b + sumP (fun u=>u.2 * zBi ss (fAt 1) u.1) (fstP ss.length cs) = g.2.1 →
  zCm ss g ((fstP ss.length cs).map fun u=>(u.1,u.2,1)) last (a,1) (b,1) (c,1) = some (c + sumP (fun u=>u.2 * zBi ss (fAt 2) u.1) (fstP ss.length cs),1)
 | [],last,a,b,c,_,_,ha,hb=>by
  have ha:a + 0 = g.1:=ha
  have hb:b + 0 = g.2.1:=hb
  show (if a = g.1 * 1∧b = g.2.1 * 1 then some (c,(1:Int)) else none) = some (c + 0,1)
  rw [if_pos ⟨by omega,by omega⟩,Int.add_zero]
 | (n,v) :: cs,last,a,b,c,hl,aw,ha,hb=>by
  rw [awB] at aw
  split at aw
  ·rename_i hh
   have h1:last + 1≤n:=hh.1
   have h3:1≤v:=hh.2.2
   by_cases lt:n < (ss.length:Int)
   ·have ef:fstP ss.length ((n,v) :: cs) = (n,v) :: fstP ss.length cs:=by
     unfold fstP
     rw [List.filter_cons,if_pos (decide_eq_true lt)]
    rw [ef] at ha hb ⊢
    have hn:n.toNat < ss.length:=by omega
    have gt:ss[n.toNat]? = some ss[n.toNat]:=List.getElem?_eq_getElem hn
    have sa:∀ f:Sd→Int,zBi ss f n = f ss[n.toNat]:=fun f=>by
     unfold zBi
     rw [gt]
    have ea:∀ (x:Int) (k:Int),sumW (x,1) v 1 k = (x + v * k,1):=fun x k=>by
     unfold sumW
     rw [Int.mul_one,Int.mul_one,Int.mul_one,Int.mul_comm k]
    rw [List.map_cons,zDx (t:=ss[n.toNat]) (by omega) lt h3 (by decide) gt,ea,ea,ea]
    have ha:a + (v * zBi ss (fAt 0) n + sumP (fun u=>u.2 * zBi ss (fAt 0) u.1) (fstP ss.length cs)) = g.1:=ha
    have hb:b + (v * zBi ss (fAt 1) n + sumP (fun u=>u.2 * zBi ss (fAt 1) u.1) (fstP ss.length cs)) = g.2.1:=hb
    have e2:sumP (fun u=>u.2 * zBi ss (fAt 2) u.1) ((n,v) :: fstP ss.length cs) = v * zBi ss (fAt 2) n + sumP (fun u=>u.2 * zBi ss (fAt 2) u.1) (fstP ss.length cs):=rfl
    rw [sa] at ha hb e2
    have e0:fAt 0 ss[n.toNat] = ss[n.toNat].2.1:=rfl
    have e1:fAt 1 ss[n.toNat] = ss[n.toNat].2.2.1:=rfl
    have e3:fAt 2 ss[n.toNat] = ss[n.toNat].2.2.2:=rfl
    rw [e0] at ha
    rw [e1] at hb
    rw [e2,e3,zHz cs n _ _ _ (by omega) aw (by omega) (by omega),Int.add_assoc]
   ·have ef:fstP ss.length ((n,v) :: cs) = fstP ss.length cs:=by
     unfold fstP
     rw [List.filter_cons,if_neg (by rw [decide_eq_false lt]; decide)]
    rw [ef] at ha hb ⊢
    have e:fstP ss.length cs = []:=by
     unfold fstP
     rw [List.filter_eq_nil_iff]
     intro u hu z
     have:=zMr aw u hu
     have:=of_decide_eq_true z
     have k:n + 1≤u.1:=by assumption
     omega
    rw [e] at ha hb ⊢
    have ha:a + 0 = g.1:=ha
    have hb:b + 0 = g.2.1:=hb
    show (if a = g.1 * 1∧b = g.2.1 * 1 then some (c,(1:Int)) else none) = some (c + 0,1)
    rw [if_pos ⟨by omega,by omega⟩,Int.add_zero]
  ·cases aw
theorem zJx {ss:List Sd} {g:P3} : ∀ {ws:List (Int × Int × Int)} {last:Int} {A B C:Int × Int} {x y:Int},0 < C.2→zCm ss g ws last A B C = some (x,y)→0 < y
 | [],_,A,B,C,x,y,hC,h=>by
  rw [zCm] at h
  split at h
  ·cases h
   exact hC
  ·cases h
 | u :: ws,last,A,B,C,x,y,hC,h=>by
  rw [zCm] at h
  split at h
  ·rename_i hh
   split at h
   ·exact zJx (Int.mul_pos hC (by have:=hh.2.2.2; omega)) h
   ·cases h
  ·cases h
theorem zQm {ss:List Sd} {g:P3} {ws:List (Int × Int × Int)} {x y:Int} (h:zFc ss g ws = some (x,y)):0 < y:=by
 unfold zFc at h
 split at h
 ·exact zJx (by decide) h
 ·cases h
theorem zVt {ss:List Sd} {g P:P3} {ws:List (Int × Int × Int)} {x y:Int} (hy:0 < y) (pw:0 < P.2.2) (e:(g.1 * P.1 + g.2.1 * P.2.1) * y = x * P.2.2) (h:sv g P≤0):x≤g.2.2 * y:=by
 have k:(g.1 * P.1 + g.2.1 * P.2.1) * y≤(g.2.2 * P.2.2) * y:=Int.mul_le_mul_of_nonneg_right (by unfold sv at h; omega) (Int.le_of_lt hy)
 rw [e] at k
 refine Int.le_of_mul_le_mul_right (a:=P.2.2) ?_ pw
 have z:g.2.2 * y * P.2.2 = g.2.2 * P.2.2 * y:=by rw [Int.mul_assoc,Int.mul_comm y,← Int.mul_assoc]
 rw [z]
 exact k
end Sea

namespace Sea
open PySem L2
theorem zJq {a b:Int} {m n:Nat} (h1:a.natAbs≤m) (h2:b.natAbs≤n):zBx a b≤((m + n:Nat):Int):=by
 unfold zBx absI
 split <;> split <;> omega
structure PIb (t:TE) (σ:St) (i:Int) (n:Nat):Prop where
 rd:∀ (H:Hp) (Q:VK),Q (.int i) H→t σ H Q
 le:i.natAbs≤n
section
variable {σ:St} {ta tb:TE} {i j:Int} {m n:Nat}
theorem PIb.var {k:Nat} (h:σ[k]? = some (some (.int i))) (hn:i.natAbs≤n):PIb (tVar k) σ i n:=⟨fun _ _ q=>⟨_,h,q⟩,hn⟩
theorem PIb.con (h:i.natAbs≤n):PIb (tC (.int i)) σ i n:=⟨fun _ _ q=>q,h⟩
theorem PIb.add (a:PIb ta σ i m) (b:PIb tb σ j n):PIb (tOp (rI0 fun i j=>.int (i + j)) ta tb) σ (i + j) (m + n) :=
 ⟨fun _ _ q=>a.rd _ _ (b.rd _ _ ⟨i,j,rfl,rfl,q⟩),Nat.le_trans (Int.natAbs_add_le ..) (Nat.add_le_add a.le b.le)⟩
theorem PIb.sub (a:PIb ta σ i m) (b:PIb tb σ j n):PIb (tOp (rI0 fun i j=>.int (i - j)) ta tb) σ (i - j) (m + n) :=
 ⟨fun _ _ q=>a.rd _ _ (b.rd _ _ ⟨i,j,rfl,rfl,q⟩),Nat.le_trans (Int.natAbs_sub_le ..) (Nat.add_le_add a.le b.le)⟩
theorem PIb.neg (a:PIb ta σ i m):PIb (tUn (rU fun i=>.int (-i)) ta) σ (-i) m:=⟨fun _ _ q=>a.rd _ _ ⟨i,rfl,q⟩,by rw [Int.natAbs_neg]; exact a.le⟩
theorem PIb.mul (a:PIb ta σ i m) (b:PIb tb σ j n) (h:m≤10 ^ 9):PIb (tOp (rI CMul fun i j=>.int (i * j)) ta tb) σ (i * j) (m * n) :=
 ⟨fun _ _ q=>a.rd _ _ (b.rd _ _ ⟨i,j,rfl,rfl,.inl ⟨by have:=a.le; omega,by have:=a.le; omega⟩,q⟩),zAj i j a.le b.le⟩
end
def PPs (M:Nat) (ta:TA) (σ:St) (vs:List (Int × Int)):Prop:=∀ (H:Hp) (Q:List V→Hp→Prop),(∀ (ps:List Pr) (H':Hp),Same H H'→PrOk H' M ps→ps.map (·.2) = vs→Q (zAo ps) H')→ta σ H Q
theorem PPs.nil {M:Nat} {σ:St} : PPs M tNil σ []:=fun H _ q=>q [] H (Same.refl _) (fun _ ht=>nomatch ht) rfl
theorem PPs.cons {M m n:Nat} {σ:St} {ta tb:TE} {tr:TA} {i j:Int} {vs:List (Int × Int)} (a:PIb ta σ i m) (b:PIb tb σ j n) (r:PPs M tr σ vs) (hm:m≤M:=by decide) (hn:n≤M:=by decide):PPs M (zF3 (tTup (zF3 ta (zF3 tb tNil))) tr) σ ((i,j) :: vs):=fun _ _ q =>
 a.rd _ _ (b.rd _ _ ⟨(by show 2≤sizeLine; decide),fun p hp=>r _ _ fun ps _ s pk e=>q ((p,i,j) :: ps) _ ((zAe hp _).trans s) (fun t ht=>by
  rcases List.mem_cons.mp ht with h | h
  ·rw [h]
   exact ⟨s _ _ zAc,Nat.le_trans a.le hm,Nat.le_trans b.le hn⟩
  ·exact pk t h) (by rw [List.map_cons,e])⟩)
theorem zH8 {M:Nat} {σ:St} {ta:TA} {vs:List (Int × Int)} (r:PPs M ta σ vs) {H:Hp} {Q:VK} (n:vs.length≤1000) (q:∀ (l:Addr) (ps:List Pr) (H':Hp),Same H H'→H l = none→H' l = some (.lst (zAo ps))→PrOk H' M ps→ps.map (·.2) = vs→Q (.ref l) H'):tLst ta σ H Q :=
 r _ _ fun ps _ s pk e=>⟨by
  rw [zAt,← List.length_map (f:=(·.2)),e]
  exact Nat.le_of_lt (zA3 n),fun l hl=>q l ps _ (s.trans (zAe hl _)) (s.free hl) zAc (pk.same (zAe hl _)) e⟩
theorem zG1 {M:Nat} {σ:St} {ta tr:TA} {vs:List (Int × Int)} (r:PPs M ta σ vs) {H:Hp} {K:List V→Hp→Prop} (n:vs.length≤1000) (q:∀ (l:Addr) (ps:List Pr) (H':Hp),Same H H'→H l = none→H' l = some (.lst (zAo ps))→PrOk H' M ps→ps.map (·.2) = vs→tr σ H' fun xs H2=>K (.ref l :: xs) H2):zF3 (tLst ta) tr σ H K :=
 zH8 (Q:=fun x H1=>tr σ H1 fun xs H2=>K (x :: xs) H2) r n q
abbrev zFz (xs:List (Addr × List Pr)):List V:=(xs.map (·.1)).map V.ref
structure zNv (G:Hp) (lo:Addr) (M:Nat) (xs:List (Addr × List Pr)):Prop where
 at':G lo = some (.lst (zFz xs))
 all:∀ u∈xs,u.1≠lo∧G u.1 = some (.lst (zAo u.2))∧PrOk G M u.2
theorem zNv.same {G G2:Hp} {lo:Addr} {M:Nat} {xs:List (Addr × List Pr)} (L:zNv G lo M xs) (s:Same G G2):zNv G2 lo M xs:=⟨s _ _ L.at',fun u hu=>⟨(L.all u hu).1,s _ _ (L.all u hu).2.1,(L.all u hu).2.2.same s⟩⟩
theorem zNv.app {G:Hp} {lo l:Addr} {M:Nat} {xs:List (Addr × List Pr)} {ps:List Pr} (L:zNv G lo M xs) (n:l≠lo) (e:G l = some (.lst (zAo ps))) (pk:PrOk G M ps):zNv (upd G lo (.lst (zFz xs ++ [.ref l]))) lo M (xs ++ [(l,ps)]):=by
 have pr:∀ {qs:List Pr} {o:HO},PrOk G M qs→PrOk (upd G lo o) M qs:=fun h t ht=>⟨by rw [zA5 (zIb (h t ht).1 L.at' (by intro z; cases z))]; exact (h t ht).1,(h t ht).2⟩
 refine ⟨by rw [zAc]; simp [zFz],fun u hu=>?_⟩
 rcases List.mem_append.mp hu with h | h
 ·obtain ⟨h1,h2,h3⟩:=L.all u h
  exact ⟨h1,by rw [zA5 h1]; exact h2,pr h3⟩
 ·rw [List.mem_singleton] at h
  subst h
  exact ⟨n,by show upd G lo _ l = _; rw [zA5 n]; exact e,pr pk⟩
theorem zUf {G:Hp} {lo:Addr} {M:Nat} {xs:List V} {qs:List Pr} (e:G lo = some (.lst xs)) (h:PrOk G M qs) (o:HO):PrOk (upd G lo o) M qs:=fun t ht=>⟨by rw [zA5 (zIb (h t ht).1 e (by intro z; cases z))]; exact (h t ht).1,(h t ht).2⟩
theorem zTw {M:Nat} {σ:St} {t0 t1 t2 t3:TA} {v0 v1 v2 v3:List (Int × Int)} (r0:PPs M t0 σ v0) (r1:PPs M t1 σ v1) (r2:PPs M t2 σ v2) (r3:PPs M t3 σ v3) {H:Hp} {Q:VK} (n0:v0.length≤1000) (n1:v1.length≤1000) (n2:v2.length≤1000) (n3:v3.length≤1000)
  (q:∀ (lo:Addr) (xs:List (Addr × List Pr)) (H':Hp),Same H H'→H lo = none→zNv H' lo M xs→xs.map (fun u=>u.2.map (·.2)) = [v0,v1,v2,v3]→Q (.ref lo) H'):tLst (zF3 (tLst t0) (zF3 (tLst t1) (zF3 (tLst t2) (zF3 (tLst t3) tNil)))) σ H Q:=by
 show (zF3 (tLst t0) (zF3 (tLst t1) (zF3 (tLst t2) (zF3 (tLst t3) tNil)))) σ H (fun xs H1=>xs.length≤sizeLine∧∀ p,H1 p = none→Q (.ref p) (upd H1 p (.lst xs)))
 refine zG1 r0 n0 fun l0 p0 G0 s0 h0 e0 k0 m0=>?_
 refine zG1 r1 n1 fun l1 p1 G1 s1 h1 e1 k1 m1=>?_
 refine zG1 r2 n2 fun l2 p2 G2 s2 h2 e2 k2 m2=>?_
 refine zG1 r3 n3 fun l3 p3 G3 s3 h3 e3 k3 m3=>?_
 refine ⟨(by show 4≤sizeLine; decide),fun lo hlo=>?_⟩
 have so:=zAe hlo (.lst [.ref l0,.ref l1,.ref l2,.ref l3])
 have ne:∀ {l:Addr} {o:HO},G3 l = some o→l≠lo:=fun e z=>by rw [z,hlo] at e; cases e
 have f0:=s3 _ _ (s2 _ _ (s1 _ _ e0))
 have f1:=s3 _ _ (s2 _ _ e1)
 have f2:=s3 _ _ e2
 refine q lo [(l0,p0),(l1,p1),(l2,p2),(l3,p3)] _ ((((s0.trans s1).trans s2).trans s3).trans so) ((((s0.trans s1).trans s2).trans s3).free hlo) ⟨zAc,fun u hu=>?_⟩ (by simp only [List.map_cons,List.map_nil,m0,m1,m2,m3])
 simp only [List.mem_cons,List.not_mem_nil,or_false] at hu
 rcases hu with rfl | rfl | rfl | rfl
 ·exact ⟨ne f0,so _ _ f0,(((k0.same s1).same s2).same s3).same so⟩
 ·exact ⟨ne f1,so _ _ f1,((k1.same s2).same s3).same so⟩
 ·exact ⟨ne f2,so _ _ f2,(k2.same s3).same so⟩
 ·exact ⟨ne e3,so _ _ e3,k3.same so⟩
theorem zTn {M:Nat} {σ:St} {t0 t1 t2 t3:TA} {v0 v1 v2 v3:List (Int × Int)} {H:Hp} {g:TG} {u:TS} {D:Ends} (r0:PPs M t0 σ v0) (r1:PPs M t1 σ v1) (r2:PPs M t2 σ v2) (r3:PPs M t3 σ v3) (n0:v0.length≤1000) (n1:v1.length≤1000) (n2:v2.length≤1000) (n3:v3.length≤1000)
  (q:∀ (lo:Addr) (xs:List (Addr × List Pr)) (H':Hp),Same H H'→H lo = none→zNv H' lo M xs→xs.map (fun u=>u.2.map (·.2)) = [v0,v1,v2,v3]→g (.ref lo) σ H' (u D)):tSeq (tAsg (tLst (zF3 (tLst t0) (zF3 (tLst t1) (zF3 (tLst t2) (zF3 (tLst t3) tNil))))) g) u D σ H :=
 zTw (Q:=fun x H1=>g x σ H1 (u D)) r0 r1 r2 r3 n0 n1 n2 n3 q
theorem zRc {M:Nat} {σ:St} {ta:TA} {vs:List (Int × Int)} {H:Hp} {g:TG} {u:TS} {D:Ends} (r:PPs M ta σ vs) (n:vs.length≤1000) (q:∀ (l:Addr) (ps:List Pr) (H':Hp),Same H H'→H l = none→H' l = some (.lst (zAo ps))→PrOk H' M ps→ps.map (·.2) = vs→g (.ref l) σ H' (u D)):tSeq (tAsg (tLst ta) g) u D σ H :=
 zH8 (Q:=fun x H1=>g x σ H1 (u D)) r n q
end Sea

-- LAW
namespace Sea
open PySem L2
structure Zs (mg:Str→Option Value):Prop where
 abs:mg "abs" = none
 all:mg "all" = none
 bool:mg "bool" = none
 enumerate:mg "enumerate" = none
 int:mg "int" = none
 isinstance:mg "isinstance" = none
 len:mg "len" = none
 list:mg "list" = none
 max:mg "max" = none
 min:mg "min" = none
 range:mg "range" = none
 sorted:mg "sorted" = none
 sum:mg "sum" = none
 tuple:mg "tuple" = none
 zip:mg "zip" = none
theorem zBe:zAy ["numbers", "shared", "number", "rest", "smaller"] ["numbers"] (zAp zC3):=⟨rfl,rfl,rfl,by decide +kernel,rfl,by decide +kernel,by decide +kernel⟩
theorem zKd:zAy ["numbers", "shared"] ["numbers"] (zAp zG3):=⟨rfl,rfl,rfl,by decide +kernel,rfl,by decide +kernel,by decide +kernel⟩
theorem zNd:zAy ["numbers"] ["numbers"] (zAp zFn):=⟨rfl,rfl,rfl,by decide +kernel,rfl,by decide +kernel,by decide +kernel⟩
theorem zS0:zAy ["top", "bottom"] ["top", "bottom"] (zAp zJb):=⟨rfl,rfl,rfl,by decide +kernel,rfl,by decide +kernel,by decide +kernel⟩
theorem zQ2:zAy ["x", "y", "w"] ["x", "y", "w"] (zAp zJs):=⟨rfl,rfl,rfl,by decide +kernel,rfl,by decide +kernel,by decide +kernel⟩
theorem zSn:zAy ["one", "other"] ["one", "other"] (zAp zJt):=⟨rfl,rfl,rfl,by decide +kernel,rfl,by decide +kernel,by decide +kernel⟩
theorem zPu:zAy ["one", "other"] ["one", "other"] (zAp zHu):=⟨rfl,rfl,rfl,by decide +kernel,rfl,by decide +kernel,by decide +kernel⟩
theorem zP8:zAy ["direction"] ["direction"] (zAp zHq):=⟨rfl,rfl,rfl,by decide +kernel,rfl,by decide +kernel,by decide +kernel⟩
theorem zKn:zAy ["side"] ["side"] (zAp zDv):=⟨rfl,rfl,rfl,by decide +kernel,rfl,by decide +kernel,by decide +kernel⟩
theorem zOk:zAy ["side", "spot"] ["side", "spot"] (zAp zG0):=⟨rfl,rfl,rfl,by decide +kernel,rfl,by decide +kernel,by decide +kernel⟩
theorem zP6:zAy ["side", "spot"] ["side", "spot"] (zAp zH6):=⟨rfl,rfl,rfl,by decide +kernel,rfl,by decide +kernel,by decide +kernel⟩
theorem zEb:zAy ["one", "other", "w", "x", "y"] ["one", "other"] (zAp zE1):=⟨rfl,rfl,rfl,by decide +kernel,rfl,by decide +kernel,by decide +kernel⟩
theorem zHy:zAy ["sides", "place", "side"] ["sides", "place"] (zAp zEu):=⟨rfl,rfl,rfl,by decide +kernel,rfl,by decide +kernel,by decide +kernel⟩
theorem zSe:zAy ["side"] ["side"] (zAp zJm):=⟨rfl,rfl,rfl,by decide +kernel,rfl,by decide +kernel,by decide +kernel⟩
theorem zCf:zAy ["sides", "edge", "hand", "found", "place", "number", "side"] ["sides", "edge", "hand"] (zAp zEz):=⟨rfl,rfl,rfl,by decide +kernel,rfl,by decide +kernel,by decide +kernel⟩
theorem zHd:zAy ["sides", "edge", "numbers"] ["sides", "edge"] (zAp zD0):=⟨rfl,rfl,rfl,by decide +kernel,rfl,by decide +kernel,by decide +kernel⟩
theorem zFj:zAy ["sides", "edge", "place"] ["sides", "edge"] (zAp zC9):=⟨rfl,rfl,rfl,by decide +kernel,rfl,by decide +kernel,by decide +kernel⟩
theorem zFv:zAy ["sides", "place", "number"] ["sides"] (zAp zG6):=⟨rfl,rfl,rfl,by decide +kernel,rfl,by decide +kernel,by decide +kernel⟩
theorem zLf:zAy ["sides"] ["sides"] (zAp zD1):=⟨rfl,rfl,rfl,by decide +kernel,rfl,by decide +kernel,by decide +kernel⟩
theorem zKr:zAy ["sides", "direction", "side"] ["sides", "direction"] (zAp zGx):=⟨rfl,rfl,rfl,by decide +kernel,rfl,by decide +kernel,by decide +kernel⟩
theorem zHx:zAy ["sides", "found", "side", "direction"] ["sides"] (zAp zJr):=⟨rfl,rfl,rfl,by decide +kernel,rfl,by decide +kernel,by decide +kernel⟩
theorem zSf:zAy ["direction"] ["direction"] (zAp zJv):=⟨rfl,rfl,rfl,by decide +kernel,rfl,by decide +kernel,by decide +kernel⟩
theorem zIq:zAy ["numbers", "weights", "least"] ["numbers", "weights"] (zAp zFr):=⟨rfl,rfl,rfl,by decide +kernel,rfl,by decide +kernel,by decide +kernel⟩
theorem zBh:zAy ["sides", "last", "edge", "numbers", "one", "other", "weights"] ["sides", "last"] (zAp zCp):=⟨rfl,rfl,rfl,by decide +kernel,rfl,by decide +kernel,by decide +kernel⟩
theorem zFf:zAy ["sides", "last", "edge", "number", "side"] ["sides"] (zAp zH9):=⟨rfl,rfl,rfl,by decide +kernel,rfl,by decide +kernel,by decide +kernel⟩
theorem zGd:zAy ["sides", "direction", "way"] ["sides", "direction"] (zAp zDq):=⟨rfl,rfl,rfl,by decide +kernel,rfl,by decide +kernel,by decide +kernel⟩
theorem zDj:zAy ["sides", "direction", "number", "side", "place"] ["sides", "direction"] (zAp zDu):=⟨rfl,rfl,rfl,by decide +kernel,rfl,by decide +kernel,by decide +kernel⟩
theorem zBv:zAy ["sides", "numbers", "direction", "one", "other", "whole", "shares"] ["sides", "numbers", "direction"] (zAp zCs):=⟨rfl,rfl,rfl,by decide +kernel,rfl,by decide +kernel,by decide +kernel⟩
theorem zC1:zAy ["sides", "direction", "number", "one", "end", "place"] ["sides", "direction"] (zAp zDr):=⟨rfl,rfl,rfl,by decide +kernel,rfl,by decide +kernel,by decide +kernel⟩
theorem zIf:zAy ["sides", "direction", "shown", "way"] ["sides", "direction"] (zAp zHv):=⟨rfl,rfl,rfl,by decide +kernel,rfl,by decide +kernel,by decide +kernel⟩
theorem zI9:zAy ["start", "end"] ["start", "end"] (zAp zDh):=⟨rfl,rfl,rfl,by decide +kernel,rfl,by decide +kernel,by decide +kernel⟩
theorem zFb:zAy ["start", "end", "way"] ["start", "end"] (zAp zC8):=⟨rfl,rfl,rfl,by decide +kernel,rfl,by decide +kernel,by decide +kernel⟩
theorem zF9:zAy ["corners", "following"] ["corners"] (zAp zDt):=⟨rfl,rfl,rfl,by decide +kernel,rfl,by decide +kernel,by decide +kernel⟩
theorem zCh:zAy ["sides", "shown", "shares", "east", "north"] ["sides", "shown"] (zAp zCq):=⟨rfl,rfl,rfl,by decide +kernel,rfl,by decide +kernel,by decide +kernel⟩
theorem zDy:zAy ["edge", "place", "way", "left", "steps"] ["edge", "place", "way"] (zAp zDg):=⟨rfl,rfl,rfl,by decide +kernel,rfl,by decide +kernel,by decide +kernel⟩
theorem zDm:zAy ["sides", "edge", "told"] ["sides", "edge"] (zAp zB0):=⟨rfl,rfl,rfl,by decide +kernel,rfl,by decide +kernel,by decide +kernel⟩
theorem zB3:zAy ["sides", "corners", "shown", "edges", "apart", "weights", "edge", "told"] ["sides", "corners"] (zAp zEc):=⟨rfl,rfl,rfl,by decide +kernel,rfl,by decide +kernel,by decide +kernel⟩
theorem zJd:zAy ["_law_one", "_law_other"] ["_law_one", "_law_other"] (zAp zL1):=⟨rfl,rfl,rfl,by decide +kernel,rfl,by decide +kernel,by decide +kernel⟩
theorem zI7:zAy ["_law_weights"] ["_law_weights"] (zAp zDi):=⟨rfl,rfl,rfl,by decide +kernel,rfl,by decide +kernel,by decide +kernel⟩
theorem zPw:zAy ["_law_number"] ["_law_number"] (zAp zIa):=⟨rfl,rfl,rfl,by decide +kernel,rfl,by decide +kernel,by decide +kernel⟩
theorem zC4:zAy ["_law_script", "_law_many_here", "_law_rows", "_law_mix", "_law_cell", "_law_rest"] ["_law_script", "_law_many_here"] (zAp zHs):=⟨rfl,rfl,rfl,by decide +kernel,rfl,by decide +kernel,by decide +kernel⟩
theorem zRk:zAy ["_law_one", "_law_two", "_law_few", "_law_most"] ["_law_one", "_law_two", "_law_few", "_law_most"] (zAp zJh):=⟨rfl,rfl,rfl,by decide +kernel,rfl,by decide +kernel,by decide +kernel⟩
theorem zPn:zAy ["_law_some", "_law_sides_here"] ["_law_some", "_law_sides_here"] (zAp zH2):=⟨rfl,rfl,rfl,by decide +kernel,rfl,by decide +kernel,by decide +kernel⟩
theorem zJl:zAy ["_law_one", "_law_two", "_law_wide", "_law_x", "_law_y"] ["_law_one", "_law_two", "_law_wide"] (zAp zL4):=⟨rfl,rfl,rfl,by decide +kernel,rfl,by decide +kernel,by decide +kernel⟩
theorem zFi:zAy ["_law_d", "_law_a", "_law_b", "_law_c"] ["_law_d"] (zAp zJk):=⟨rfl,rfl,rfl,by decide +kernel,rfl,by decide +kernel,by decide +kernel⟩
theorem zEg:zAy ["_law_some", "_law_many_here", "_law_rows", "_law_x", "_law_y"] ["_law_some", "_law_many_here"] (zAp zHr):=⟨rfl,rfl,rfl,by decide +kernel,rfl,by decide +kernel,by decide +kernel⟩
theorem zOm:zAy ["_law_one", "_law_other"] ["_law_one", "_law_other"] (zAp zG5):=⟨rfl,rfl,rfl,by decide +kernel,rfl,by decide +kernel,by decide +kernel⟩
theorem zCl:zAy ["_law_d", "_law_wide", "_law_one", "_law_other"] ["_law_d", "_law_wide"] (zAp zD7):=⟨rfl,rfl,rfl,by decide +kernel,rfl,by decide +kernel,by decide +kernel⟩
theorem zBn:zAy ["_law_d", "_law_wide", "_law_one", "_law_other", "_law_x", "_law_y", "_law_p", "_law_q", "_law_leads", "_law_turned_here", "_law_here", "_law_row", "_law_found", "_law_dx", "_law_dy", "_law_at"] ["_law_d", "_law_wide"] (zAp zJp):=⟨rfl,rfl,rfl,by decide +kernel,rfl,by decide +kernel,by decide +kernel⟩
theorem zBs:zAy ["_law_places", "_law_found", "_law_at", "_law_x", "_law_y", "_law_p", "_law_q", "_law_by"] ["_law_places"] (zAp zD2):=⟨rfl,rfl,rfl,by decide +kernel,rfl,by decide +kernel,by decide +kernel⟩
theorem zBw:zAy ["_law_some", "_law_many_here", "_law_sides_here", "_law_places", "_law_x", "_law_y", "_law_a", "_law_b"] ["_law_some"] (zAp zGz):=⟨rfl,rfl,rfl,by decide +kernel,rfl,by decide +kernel,by decide +kernel⟩
theorem zP3:zAy ["_law_found"] ["_law_found"] (zAp zIc):=⟨rfl,rfl,rfl,by decide +kernel,rfl,by decide +kernel,by decide +kernel⟩
theorem zNf:zAy ["_law_found", "_law_many_here"] ["_law_found", "_law_many_here"] (zAp zFt):=⟨rfl,rfl,rfl,by decide +kernel,rfl,by decide +kernel,by decide +kernel⟩
theorem zNu:zAy ["_law_found"] ["_law_found"] (zAp zFo):=⟨rfl,rfl,rfl,by decide +kernel,rfl,by decide +kernel,by decide +kernel⟩
theorem zLd:zAy ["_law_told"] ["_law_told"] (zAp zD8):=⟨rfl,rfl,rfl,by decide +kernel,rfl,by decide +kernel,by decide +kernel⟩
theorem zBq:zAy ["_law_sides_here", "_law_paper", "_law_last", "_law_total", "_law_pair", "_law_a", "_law_b", "_law_c"] ["_law_sides_here", "_law_paper"] (zAp zEx):=⟨rfl,rfl,rfl,by decide +kernel,rfl,by decide +kernel,by decide +kernel⟩
theorem zOf:zAy ["_law_one", "_law_weight", "_law_number"] ["_law_one", "_law_weight", "_law_number"] (zAp zG2):=⟨rfl,rfl,rfl,by decide +kernel,rfl,by decide +kernel,by decide +kernel⟩
theorem zEk:zAy ["_law_sides_here", "_law_direction", "_law_weights", "_law_last", "_law_total", "_law_pair"] ["_law_sides_here", "_law_direction", "_law_weights"] (zAp zHt):=⟨rfl,rfl,rfl,by decide +kernel,rfl,by decide +kernel,by decide +kernel⟩
theorem zJc:zAy ["_law_sides_here", "_law_place", "_law_x", "_law_y", "_law_w"] ["_law_sides_here", "_law_place"] (zAp zMi):=⟨rfl,rfl,rfl,by decide +kernel,rfl,by decide +kernel,by decide +kernel⟩
theorem zBa:zAy ["_law_sides_here", "_law_places", "_law_paper", "_law_rows", "_law_x", "_law_y", "_law_top", "_law_a", "_law_b", "_law_c", "_law_weights", "_law_one", "_law_other"] ["_law_sides_here", "_law_places", "_law_paper"] (zAp zEd):=⟨rfl,rfl,rfl,by decide +kernel,rfl,by decide +kernel,by decide +kernel⟩
theorem zGj:zAy ["_law_x", "_law_y", "_law_w", "_law_by"] ["_law_x", "_law_y", "_law_w"] (zAp zFq):=⟨rfl,rfl,rfl,by decide +kernel,rfl,by decide +kernel,by decide +kernel⟩
theorem zMt:zAy ["_law_one", "_law_other", "_law_by"] ["_law_one", "_law_other"] (zAp zJg):=⟨rfl,rfl,rfl,by decide +kernel,rfl,by decide +kernel,by decide +kernel⟩
theorem zB7:zAy ["_law_sides_here", "_law_found", "_law_at", "_law_one", "_law_other", "_law_place"] ["_law_sides_here"] (zAp zDs):=⟨rfl,rfl,rfl,by decide +kernel,rfl,by decide +kernel,by decide +kernel⟩
theorem zSk:zAy ["_law_sides_here"] ["_law_sides_here"] (zAp zJi):=⟨rfl,rfl,rfl,by decide +kernel,rfl,by decide +kernel,by decide +kernel⟩
theorem zG8:zAy ["_law_sides_here", "_law_place"] ["_law_sides_here"] (zAp zDz):=⟨rfl,rfl,rfl,by decide +kernel,rfl,by decide +kernel,by decide +kernel⟩
theorem zNn:zAy ["_law_told"] ["_law_told"] (zAp zFk):=⟨rfl,rfl,rfl,by decide +kernel,rfl,by decide +kernel,by decide +kernel⟩
theorem zKq:zAy ["_law_script", "_law_some", "_law_sides_here", "_law_places", "_law_handed", "_law_again", "_law_told"] ["_law_script"] (zAp zOr):=⟨rfl,rfl,rfl,by decide +kernel,rfl,by decide +kernel,by decide +kernel⟩
section
variable {P:Program} {w:World} {K:PySem.W.Frag} {mg:Str→Option Value} {base:Heap} {f:Addr} {fd:FuncData}
def zE0 (K:PySem.W.Frag):Sp:=fun vs H Q _=>∃ (a:Addr) (ns:List Int),vs = [.ref a]∧Sq K H a (ns.map V.int)∧Q (.int (gcdL ns)) H
theorem zH4 (F:Fun K "common_factor" "common_factor" zC3 f fd) (Z:Zs mg):FnOk P w K mg base CX0 1 f fd ["numbers"] (zE0 K):=by
 refine F.ok zBe (fun vs H Q E h=>?_) (fun cdv A outer s H vs Q E hr h=>?_)
 ·obtain ⟨a,ns,rfl,_⟩:=h
  rfl
 obtain ⟨a,ns,rfl,hS,q⟩:=h
 refine ⟨_,(zAf (zAw (i:=1) zBe.nd rfl (Or.inl rfl) zAb)
   (zAf (zCz PassesOwn.never rfl (zCc (pv 0)) (zAq (i:=2) zBe.nd rfl (Or.inl rfl)) (zAf (zAw (i:=3) zBe.nd rfl (Or.inl rfl) (zAv zC5 rfl Z.abs zFd (zAa (pv 2) zAd)))
   (zAi (zJe PassesOwn.never (zAu zPx (pv 3) zAb (zAz _)) (zAf (zAw (i:=4) zBe.nd rfl (Or.inl rfl) (zAl zA7 (pv 1) (pv 3)))
   (zAf (zAw (i:=1) zBe.nd rfl (Or.inl rfl) (pv 3))
   (zAi (zAw (i:=3) zBe.nd rfl (Or.inl rfl) (pv 4)))))))))
   (zAi (zAr (pv 1))))),?_⟩
 have mono:∀ (σ:St) (H:Hp) (Q Q':Bool→Hp→Prop),(∀ b H1,Q b H1→Q' b H1)→zSp (tOp rNe (tVar 3) (tC (.int 0))) σ H Q→zSp (tOp rNe (tVar 3) (tC (.int 0))) σ H Q':=fun σ H Q Q' hq z=>by
  obtain ⟨v,hv,hs,k,hk,z⟩:=z
  exact ⟨v,hv,hs,k,hk,hq _ _ z⟩
 rcases hS with hS | hS
 ·refine ⟨_,rfl,a,rfl,.inl ⟨⟨_,hS⟩,zCt (K:=K) (a:=a) (xs:=ns.map V.int) (fun i σ H'=>H' = H∧∃ (u v z:Option V),σ = [some (.ref a),some (.int (gcdL (ns.take i))),u,v,z]) ⟨rfl,none,none,none,rfl⟩ (fun i σ H' _ ⟨e,_⟩=>by rw [e]; exact hS) ?_ ?_⟩⟩
  ·rintro i x σ H' hi ⟨rfl,u,v,z,rfl⟩
   obtain ⟨n,hn,rfl⟩:=zC2 hi
   refine ⟨_,rfl,n,rfl,?_⟩
   refine zG4 (fun σ H1=>H1 = H'∧∃ (g r:Int) (y:Option V),σ = [some (.ref a),some (.int g),some (.int n),some (.int r),y]∧0≤g∧0≤r∧Nat.gcd g.toNat r.toNat = gcdL (ns.take (i + 1)))
    (fun σ _=>match σ with | [_,_,_,some (.int r),_]=>r.toNat | _=>0) ⟨rfl,_,_,_,rfl,Int.natCast_nonneg _,by split <;> omega,?_⟩ ?_ mono
   ·rw [zB1 hn,zM1,zPk]; rfl
   ·rintro σ H1 ⟨rfl,g,r,y,rfl,h1,h2,h3⟩
    refine ⟨_,rfl,rfl,_,rfl,?_⟩
    refine ifNe (fun hr0=>?_) (fun hr0=>?_)
    ·refine ⟨_,rfl,_,rfl,_,_,rfl,rfl,(by show (0:Int) < r; omega),_,rfl,_,rfl,⟨rfl,_,_,_,rfl,h2,Int.emod_nonneg g hr0,?_⟩,?_⟩
     ·rw [zMj h1 (by omega)]; exact h3
     ·have h4:=Int.emod_lt_of_pos g (show 0 < r by omega)
      show (g % r).toNat < r.toNat
      omega
    ·subst hr0
     have h5:g = ((gcdL (ns.take (i + 1)):Nat):Int):=by
      rw [← h3]
      show g = ((Nat.gcd g.toNat 0:Nat):Int)
      rw [Nat.gcd_zero_right]
      omega
     exact ⟨rfl,some (.int n),some (.int 0),y,by rw [h5]⟩
  ·rintro σ H' ⟨rfl,u,v,z,rfl⟩
   refine ⟨_,rfl,?_⟩
   rw [List.length_map,List.take_length]
   exact q
 ·refine ⟨_,rfl,a,rfl,.inr ⟨⟨_,hS⟩,zVp (K:=K) (a:=a) (xs:=ns.map V.int) (fun i σ H'=>H' = H∧∃ (u v z:Option V),σ = [some (.ref a),some (.int (gcdL (ns.take i))),u,v,z]) ⟨rfl,none,none,none,rfl⟩ (fun i σ H' _ ⟨e,_⟩=>by rw [e]; exact hS) ?_ ?_⟩⟩
  ·rintro i x σ H' hi ⟨rfl,u,v,z,rfl⟩
   obtain ⟨n,hn,rfl⟩:=zC2 hi
   refine ⟨_,rfl,n,rfl,?_⟩
   refine zG4 (fun σ H1=>H1 = H'∧∃ (g r:Int) (y:Option V),σ = [some (.ref a),some (.int g),some (.int n),some (.int r),y]∧0≤g∧0≤r∧Nat.gcd g.toNat r.toNat = gcdL (ns.take (i + 1)))
    (fun σ _=>match σ with | [_,_,_,some (.int r),_]=>r.toNat | _=>0) ⟨rfl,_,_,_,rfl,Int.natCast_nonneg _,by split <;> omega,?_⟩ ?_ mono
   ·rw [zB1 hn,zM1,zPk]; rfl
   ·rintro σ H1 ⟨rfl,g,r,y,rfl,h1,h2,h3⟩
    refine ⟨_,rfl,rfl,_,rfl,?_⟩
    refine ifNe (fun hr0=>?_) (fun hr0=>?_)
    ·refine ⟨_,rfl,_,rfl,_,_,rfl,rfl,(by show (0:Int) < r; omega),_,rfl,_,rfl,⟨rfl,_,_,_,rfl,h2,Int.emod_nonneg g hr0,?_⟩,?_⟩
     ·rw [zMj h1 (by omega)]; exact h3
     ·have h4:=Int.emod_lt_of_pos g (show 0 < r by omega)
      show (g % r).toNat < r.toNat
      omega
    ·subst hr0
     have h5:g = ((gcdL (ns.take (i + 1)):Nat):Int):=by
      rw [← h3]
      show g = ((Nat.gcd g.toNat 0:Nat):Int)
      rw [Nat.gcd_zero_right]
      omega
     exact ⟨rfl,some (.int n),some (.int 0),y,by rw [h5]⟩
  ·rintro σ H' ⟨rfl,u,v,z,rfl⟩
   refine ⟨_,rfl,?_⟩
   rw [List.length_map,List.take_length]
   exact q
def zCx (K:PySem.W.Frag):Sp:=fun vs H Q _=>∃ (a:Addr) (ns:List Int),vs = [.ref a]∧Sq K H a (ns.map V.int)∧ns.length≤1000∧0 < gcdL ns∧(gcdL ns:Int) < 10 ^ 600 ∧
 ∀ (p:Addr) (H':Hp),Same H H'→H p = none→H' p = some (.tup ((lowL ns).map V.int))→Q (.ref p) H'
theorem zN9 (F:Fun K "lowest" "lowest" zG3 f fd) (Z:Zs mg) (h_p_common_factor:Has P w K mg base "common_factor" 1 ["numbers"] (zE0 K)):FnOk P w K mg base CX0 2 f fd ["numbers"] (zCx K):=by
 refine F.ok zKd (fun vs H Q E h=>?_) (fun cdv A outer s H vs Q E hr h=>?_)
 ·obtain ⟨a,ns,rfl,_⟩:=h
  rfl
 obtain ⟨a,ns,rfl,hS,hl,hg,hg2,q⟩:=h
 refine ⟨_,(zAf (zAw (i:=1) zKd.nd rfl (Or.inr rfl) (zAh h_p_common_factor (hr.mono (by decide)) rfl (zAa (pv 0) zAd)))
   (zAi (zAr (zGo zL6 rfl Z.tuple zJj (zAa (zC0 (T:=["number"]) (caps:=[("shared", 1)]) ⟨rfl,by decide +kernel,by decide +kernel,rfl,⟨⟨rfl,rfl,Or.inl rfl⟩,True.intro⟩⟩ rfl (zCc (pv 0)) (fun _=>(zAq (i:=0) (show (["number", "shared"]:List Str).Nodup by decide +kernel) rfl (Or.inl rfl))) (fun _=>zBl) (fun _=>(zAl zCu (pv 0) (pv 1)))) zAd))))),?_⟩
 refine ⟨_,rfl,a,ns,rfl,hS,?_⟩
 have fin:∀ (D:Addr) (H':Hp),H D = none→Same H H'→H' D = some (.lst ((lowL ns).map V.int))→∀ l,H' l = none→Q (.ref l) (upd H' l (.tup ((lowL ns).map V.int))):=fun D H' hD hs e l hl =>
  q l _ (hs.trans (zAe hl _)) (hs.free hl) zAc
 have len:∀ i,((ns.take i).map fun n=>V.int (n / (gcdL ns:Int))).length < sizeLine:=fun i=>zA3 (by rw [List.length_map,List.length_take]; omega)
 rcases hS with hS | hS
 ·refine ⟨_,rfl,a,rfl,.inl ⟨⟨_,hS⟩,fun c D hD=>zBj (K:=K) (a:=a) (xs:=ns.map V.int) (fun i σ ys H'=>H' = upd H D (.lst ys)∧ys = (ns.take i).map (fun n=>V.int (n / (gcdL ns:Int)))∧∃ u,σ = [u,some (.int (gcdL ns))])
   ⟨rfl,rfl,none,rfl⟩ (fun i σ ys H' _ ⟨e,_⟩=>by rw [e]; exact ⟨(zAe hD _).seq hS,zAc⟩) ?_ ?_⟩⟩
  ·rintro i x σ ys H' hi ⟨rfl,rfl,u,rfl⟩
   obtain ⟨n,hn,rfl⟩:=zC2 hi
   refine ⟨_,rfl,_,rfl,_,_,rfl,rfl,zEs.of (by omega) hg2,zAc,len i,?_⟩
   refine ⟨zGq,?_,_,rfl⟩
   rw [zB1 hn,List.map_append]
   rfl
  ·rintro σ ys H' ⟨rfl,rfl,u,rfl⟩
   rw [List.length_map,List.take_length]
   have e:(ns.map fun n=>V.int (n / (gcdL ns:Int))) = (lowL ns).map V.int:=by unfold lowL; rw [List.map_map]; rfl
   rw [e]
   exact ⟨D,_,rfl,.inl ⟨SqL.of zAc,fin D _ hD (zAe hD _) zAc⟩⟩
 ·refine ⟨_,rfl,a,rfl,.inr ⟨⟨_,hS⟩,fun c D hD=>zK2 (K:=K) (a:=a) (xs:=ns.map V.int) (fun i σ ys H'=>H' = upd H D (.lst ys)∧ys = (ns.take i).map (fun n=>V.int (n / (gcdL ns:Int)))∧∃ u,σ = [u,some (.int (gcdL ns))])
   ⟨rfl,rfl,none,rfl⟩ (fun i σ ys H' _ ⟨e,_⟩=>by rw [e]; exact ⟨SqT.same hS (zAe hD _),zAc⟩) ?_ ?_⟩⟩
  ·rintro i x σ ys H' hi ⟨rfl,rfl,u,rfl⟩
   obtain ⟨n,hn,rfl⟩:=zC2 hi
   refine ⟨_,rfl,_,rfl,_,_,rfl,rfl,zEs.of (by omega) hg2,zAc,len i,?_⟩
   refine ⟨zGq,?_,_,rfl⟩
   rw [zB1 hn,List.map_append]
   rfl
  ·rintro σ ys H' ⟨rfl,rfl,u,rfl⟩
   rw [List.length_map,List.take_length]
   have e:(ns.map fun n=>V.int (n / (gcdL ns:Int))) = (lowL ns).map V.int:=by unfold lowL; rw [List.map_map]; rfl
   rw [e]
   exact ⟨D,_,rfl,.inl ⟨SqL.of zAc,fin D _ hD (zAe hD _) zAc⟩⟩
def zEt (K:PySem.W.Frag):Sp:=fun vs H Q _=>∃ (a:Addr) (ns:List Int) (l:Int),vs = [.ref a]∧Sq K H a (ns.map V.int)∧ns.length≤1000∧atI (ns.map V.int) (-1) = some (.int l)∧l∈ns∧l≠0∧l.natAbs < 10 ^ 500 ∧
 ∀ (p:Addr) (H':Hp),Same H H'→H p = none→H' p = some (.tup ((lowL (if l < 0 then ns.map (fun n=>-n) else ns)).map V.int))→Q (.ref p) H'
theorem zMp (F:Fun K "upright" "upright" zFn f fd) (Z:Zs mg) (h_p_lowest:Has P w K mg base "lowest" 2 ["numbers"] (zCx K)):FnOk P w K mg base CX0 3 f fd ["numbers"] (zEt K):=by
 refine F.ok zNd (fun vs H Q E h=>?_) (fun cdv A outer s H vs Q E hr h=>?_)
 ·obtain ⟨a,ns,l,rfl,_⟩:=h
  rfl
 obtain ⟨a,ns,l,rfl,hS,hl,hat,hm,h0,hb,q⟩:=h
 refine ⟨_,(zAf (zA8 (zAu zF4 (zAn zAg (pv 0) (zB6 zBc zAb) (fun _ _=>rfl)) zAb (zAz _)) (zAi (zAr (zAh h_p_lowest (hr.mono (by decide)) rfl (zAa (zC0 (T:=["number"]) (caps:=[]) ⟨rfl,by decide +kernel,by decide +kernel,rfl,True.intro⟩ rfl (zCc (pv 0)) (fun _=>(zAq (i:=0) (show (["number"]:List Str).Nodup by decide +kernel) rfl (Or.inl rfl))) (fun _=>zBl) (fun _=>(zB6 zBc (pv 0)))) zAd)))) zAx)
   (zAi (zAr (zAh h_p_lowest (hr.mono (by decide)) rfl (zAa (pv 0) zAd))))),?_⟩
 refine ⟨_,rfl,_,rfl,a,_,_,_,rfl,rfl,hS,hat,_,_,rfl,rfl,_,rfl,?_⟩
 have gp:0 < gcdL ns:=zBz hm h0
 have gb:(gcdL ns:Int) < 10 ^ 600:=by
  have h1:=zFp hm h0
  have h2:(10:Nat) ^ 500 < 10 ^ 600:=by decide +kernel
  have h3:((10:Int) ^ 600) = ((10 ^ 600:Nat):Int):=by rw [Int.natCast_pow]; rfl
  rw [h3]
  omega
 refine ifD (fun hneg=>?_) (fun hneg=>?_)
 ·have len:∀ i,((ns.take i).map fun n=>V.int (-n)).length < sizeLine:=fun i=>zA3 (by rw [List.length_map,List.length_take]; omega)
  have fin:∀ (D:Addr) (H':Hp),H D = none→Same H H'→H' D = some (.lst ((ns.map fun n=>-n).map V.int))→zCx K [.ref D] H' Q E0:=fun D H' hD hs e=>by
   refine ⟨D,ns.map fun n=>-n,rfl,.inl (SqL.of e),by rw [List.length_map]; exact hl,by rw [zO4]; exact gp,by rw [zO4]; exact gb,fun p H2 s2 hp e2=>?_⟩
   exact q p H2 (hs.trans s2) (hs.free hp) (by rw [if_pos hneg]; exact e2)
  rcases hS with hS | hS
  ·refine ⟨_,rfl,a,rfl,.inl ⟨⟨_,hS⟩,fun c D hD=>zBj (K:=K) (a:=a) (xs:=ns.map V.int) (fun i σ ys H'=>H' = upd H D (.lst ys)∧ys = (ns.take i).map (fun n=>V.int (-n))∧∃ u,σ = [u])
    ⟨rfl,rfl,none,rfl⟩ (fun i σ ys H' _ ⟨e,_⟩=>by rw [e]; exact ⟨(zAe hD _).seq hS,zAc⟩) ?_ ?_⟩⟩
   ·rintro i x σ ys H' hi ⟨rfl,rfl,u,rfl⟩
    obtain ⟨n,hn,rfl⟩:=zC2 hi
    refine ⟨_,rfl,_,rfl,zAc,len i,?_⟩
    refine ⟨zGq,?_,_,rfl⟩
    rw [zB1 hn,List.map_append]
    rfl
   ·rintro σ ys H' ⟨rfl,rfl,u,rfl⟩
    rw [List.length_map,List.take_length]
    have e:(ns.map fun n=>V.int (-n)) = (ns.map fun n=>-n).map V.int:=by rw [List.map_map]; rfl
    rw [e]
    exact fin D _ hD (zAe hD _) zAc
  ·refine ⟨_,rfl,a,rfl,.inr ⟨⟨_,hS⟩,fun c D hD=>zK2 (K:=K) (a:=a) (xs:=ns.map V.int) (fun i σ ys H'=>H' = upd H D (.lst ys)∧ys = (ns.take i).map (fun n=>V.int (-n))∧∃ u,σ = [u])
    ⟨rfl,rfl,none,rfl⟩ (fun i σ ys H' _ ⟨e,_⟩=>by rw [e]; exact ⟨SqT.same hS (zAe hD _),zAc⟩) ?_ ?_⟩⟩
   ·rintro i x σ ys H' hi ⟨rfl,rfl,u,rfl⟩
    obtain ⟨n,hn,rfl⟩:=zC2 hi
    refine ⟨_,rfl,_,rfl,zAc,len i,?_⟩
    refine ⟨zGq,?_,_,rfl⟩
    rw [zB1 hn,List.map_append]
    rfl
   ·rintro σ ys H' ⟨rfl,rfl,u,rfl⟩
    rw [List.length_map,List.take_length]
    have e:(ns.map fun n=>V.int (-n)) = (ns.map fun n=>-n).map V.int:=by rw [List.map_map]; rfl
    rw [e]
    exact fin D _ hD (zAe hD _) zAc
 ·refine ⟨_,rfl,a,ns,rfl,hS,hl,gp,gb,fun p H2 s2 hp e2=>?_⟩
  exact q p H2 s2 hp (by rw [if_neg hneg]; exact e2)
def zH7 (K:PySem.W.Frag):Sp:=fun vs H Q _=>∃ (t b:Int),vs = [.int t,.int b]∧b≠0∧b.natAbs < 10 ^ 500 ∧
 ∀ (p:Addr) (x y:Int) (H':Hp),Same H H'→H p = none→H' p = some (.tup [.int x,.int y])→zIr t b x y→Q (.ref p) H'
theorem zRl (F:Fun K "part" "part" zJb f fd) (Z:Zs mg) (h_p_upright:Has P w K mg base "upright" 3 ["numbers"] (zEt K)):FnOk P w K mg base CX0 4 f fd ["top", "bottom"] (zH7 K):=by
 refine F.ok zS0 (fun vs H Q E h=>?_) (fun cdv A outer s H vs Q E hr h=>?_)
 ·obtain ⟨t,b,rfl,_⟩:=h
  rfl
 obtain ⟨t,b,rfl,hb,hb2,q⟩:=h
 refine ⟨_,(zAi (zAr (zAh h_p_upright (hr.mono (by decide)) rfl (zAa (zA0 (zAa (pv 0) (zAa (pv 1) zAd))) zAd)))),?_⟩
 refine ⟨_,rfl,_,rfl,(by show 2≤sizeLine; decide),fun p hp=>⟨p,[t,b],b,rfl,.inr (SqT.of zAc),by show 2≤1000; decide,rfl,by simp,hb,hb2,fun r H2 s2 hr2 e2=>?_⟩⟩
 obtain ⟨x,y,exy,hxy⟩:=zQs t hb
 rw [exy] at e2
 exact q r x y H2 ((zAe hp _).trans s2) ((zAe hp _).free hr2) e2 hxy
def zIe (K:PySem.W.Frag):Sp:=fun vs H Q _=>∃ (X Y W:Int),vs = [.int X,.int Y,.int W]∧W≠0∧W.natAbs < 10 ^ 500∧∀ (p:Addr) (H':Hp),Same H H'→H p = none→H' p = some (.tup ((lowL (upL X Y W)).map V.int))→Q (.ref p) H'
theorem zQ5 (F:Fun K "spot" "spot" zJs f fd) (Z:Zs mg) (h_p_upright:Has P w K mg base "upright" 3 ["numbers"] (zEt K)):FnOk P w K mg base CX0 4 f fd ["x", "y", "w"] (zIe K):=by
 refine F.ok zQ2 (fun vs H Q E h=>?_) (fun cdv A outer s H vs Q E hr h=>?_)
 ·obtain ⟨X,Y,W,rfl,_⟩:=h
  rfl
 obtain ⟨X,Y,W,rfl,hw,hw2,q⟩:=h
 refine ⟨_,(zAi (zAr (zAh h_p_upright (hr.mono (by decide)) rfl (zAa (zA0 (zAa (pv 0) (zAa (pv 1) (zAa (pv 2) zAd)))) zAd)))),?_⟩
 refine ⟨_,rfl,_,rfl,_,rfl,(by show 3≤sizeLine; decide),fun p hp=>⟨p,[X,Y,W],W,rfl,.inr (SqT.of zAc),by show 3≤1000; decide,rfl,by simp,hw,hw2,fun r H2 s2 hr2 e2=>?_⟩⟩
 exact q r H2 ((zAe hp _).trans s2) ((zAe hp _).free hr2) e2
def spTurn (K:PySem.W.Frag):Sp:=fun vs H Q _=>∃ (a b:Addr) (us ws:List V) (x1 y1 x2 y2:Int),vs = [.ref a,.ref b]∧Sq K H a us∧Sq K H b ws∧atI us 0 = some (.int x1)∧atI us 1 = some (.int y1)∧atI ws 0 = some (.int x2)∧atI ws 1 = some (.int y2) ∧
 x1.natAbs≤10 ^ 18∧y1.natAbs≤10 ^ 18∧Q (.int (x1 * y2 - y1 * x2)) H
def zDe (K:PySem.W.Frag):Sp:=spTurn K
theorem zSl (F:Fun K "turn" "turn" zJt f fd) (Z:Zs mg)  : FnOk P w K mg base CX0 1 f fd ["one", "other"] (zDe K):=by
 refine F.ok zSn (fun vs H Q E h=>?_) (fun cdv A outer s H vs Q E hr h=>?_)
 ·obtain ⟨a,b,us,ws,x1,y1,x2,y2,rfl,_⟩:=h
  rfl
 obtain ⟨a,b,us,ws,x1,y1,x2,y2,rfl,ha,hb,u0,u1,w0,w1,m1,m2,q⟩:=h
 refine ⟨_,(zAi (zAr (zAl zA6 (zAl zA2 (zAn zAg (pv 0) zAb (fun _ _=>rfl)) (zAn zAg (pv 1) zAb (fun _ _=>rfl))) (zAl zA2 (zAn zAg (pv 0) zAb (fun _ _=>rfl)) (zAn zAg (pv 1) zAb (fun _ _=>rfl)))))),?_⟩
 exact ⟨_,rfl,a,_,_,.int x1,rfl,rfl,ha,u0,_,rfl,b,_,_,.int y2,rfl,rfl,hb,w1,_,_,rfl,rfl,cm_l (by omega),
  _,rfl,a,_,_,.int y1,rfl,rfl,ha,u1,_,rfl,b,_,_,.int x2,rfl,rfl,hb,w0,_,_,rfl,rfl,cm_l (by omega),_,_,rfl,rfl,q⟩
def zEe (K:PySem.W.Frag):Sp:=fun vs H Q _=>∃ (a b:Addr) (us ws:List V) (x1 y1 x2 y2:Int),vs = [.ref a,.ref b]∧Sq K H a us∧Sq K H b ws∧atI us 0 = some (.int x1)∧atI us 1 = some (.int y1)∧atI ws 0 = some (.int x2)∧atI ws 1 = some (.int y2) ∧
 x1.natAbs≤10 ^ 18∧y1.natAbs≤10 ^ 18∧Q (.int (x1 * x2 + y1 * y2)) H
theorem zQa (F:Fun K "along" "along" zHu f fd) (Z:Zs mg)  : FnOk P w K mg base CX0 1 f fd ["one", "other"] (zEe K):=by
 refine F.ok zPu (fun vs H Q E h=>?_) (fun cdv A outer s H vs Q E hr h=>?_)
 ·obtain ⟨a,b,us,ws,x1,y1,x2,y2,rfl,_⟩:=h
  rfl
 obtain ⟨a,b,us,ws,x1,y1,x2,y2,rfl,ha,hb,u0,u1,w0,w1,m1,m2,q⟩:=h
 refine ⟨_,(zAi (zAr (zAl zBd (zAl zA2 (zAn zAg (pv 0) zAb (fun _ _=>rfl)) (zAn zAg (pv 1) zAb (fun _ _=>rfl))) (zAl zA2 (zAn zAg (pv 0) zAb (fun _ _=>rfl)) (zAn zAg (pv 1) zAb (fun _ _=>rfl)))))),?_⟩
 exact ⟨_,rfl,a,_,_,.int x1,rfl,rfl,ha,u0,_,rfl,b,_,_,.int x2,rfl,rfl,hb,w0,_,_,rfl,rfl,cm_l (by omega),
  _,rfl,a,_,_,.int y1,rfl,rfl,ha,u1,_,rfl,b,_,_,.int y2,rfl,rfl,hb,w1,_,_,rfl,rfl,cm_l (by omega),_,_,rfl,rfl,q⟩
def zIm (K:PySem.W.Frag):Sp:=zCx K
theorem zPq (F:Fun K "plain" "plain" zHq f fd) (Z:Zs mg) (h_p_lowest:Has P w K mg base "lowest" 2 ["numbers"] (zCx K)):FnOk P w K mg base CX0 3 f fd ["direction"] (zIm K):=by
 refine F.ok zP8 (fun vs H Q E h=>?_) (fun cdv A outer s H vs Q E hr h=>?_)
 ·obtain ⟨a,ns,rfl,_⟩:=h
  rfl
 obtain ⟨a,ns,rfl,h⟩:=h
 exact ⟨_,(zAi (zAr (zAh h_p_lowest (hr.mono (by decide)) rfl (zAa (pv 0) zAd)))),⟨_,rfl,a,ns,rfl,h⟩⟩
def zGr (K:PySem.W.Frag):Sp:=zCx K
theorem zKe (F:Fun K "plain_side" "plain_side" zDv f fd) (Z:Zs mg) (h_p_lowest:Has P w K mg base "lowest" 2 ["numbers"] (zCx K)):FnOk P w K mg base CX0 3 f fd ["side"] (zGr K):=by
 refine F.ok zKn (fun vs H Q E h=>?_) (fun cdv A outer s H vs Q E hr h=>?_)
 ·obtain ⟨a,ns,rfl,_⟩:=h
  rfl
 obtain ⟨a,ns,rfl,h⟩:=h
 exact ⟨_,(zAi (zAr (zAh h_p_lowest (hr.mono (by decide)) rfl (zAa (pv 0) zAd)))),⟨_,rfl,a,ns,rfl,h⟩⟩
def zUv (K:PySem.W.Frag) (R:Int→Int→Int→Int→Int→Int→Hp→VK→Prop):Sp:=fun vs H Q _=>∃ (a b:Addr) (A B C x y z:Int),vs = [.ref a,.ref b]∧Sq K H a [.int A,.int B,.int C]∧Sq K H b [.int x,.int y,.int z]∧A.natAbs≤10 ^ 18∧B.natAbs≤10 ^ 18∧C.natAbs≤10 ^ 18∧R A B C x y z H Q
def zJ7 (K:PySem.W.Frag):Sp:=zUv K fun A B C x y z H Q=>Q (.int (A * x + B * y - C * z)) H
theorem zN7 (F:Fun K "beyond" "beyond" zG0 f fd) (Z:Zs mg)  : FnOk P w K mg base CX0 1 f fd ["side", "spot"] (zJ7 K):=by
 refine F.ok zOk (fun vs H Q E h=>?_) (fun cdv A outer s H vs Q E hr h=>?_)
 ·obtain ⟨a,b,A,B,C,x,y,z,rfl,_⟩:=h
  rfl
 obtain ⟨a,b,A',B,C,x,y,z,rfl,ha,hb,m1,m2,m3,q⟩:=h
 refine ⟨_,(zAi (zAr (zAl zA6 (zAl zBd (zAl zA2 (zAn zAg (pv 0) zAb (fun _ _=>rfl)) (zAn zAg (pv 1) zAb (fun _ _=>rfl))) (zAl zA2 (zAn zAg (pv 0) zAb (fun _ _=>rfl)) (zAn zAg (pv 1) zAb (fun _ _=>rfl)))) (zAl zA2 (zAn zAg (pv 0) zAb (fun _ _=>rfl)) (zAn zAg (pv 1) zAb (fun _ _=>rfl)))))),?_⟩
 exact ⟨_,rfl,a,_,_,.int A',rfl,rfl,ha,rfl,_,rfl,b,_,_,.int x,rfl,rfl,hb,rfl,_,_,rfl,rfl,cm_l (by omega),_,rfl,a,_,_,.int B,rfl,rfl,ha,rfl,_,rfl,b,_,_,.int y,rfl,rfl,hb,rfl,_,_,rfl,rfl,cm_l (by omega),_,_,rfl,rfl,_,rfl,a,_,_,.int C,rfl,rfl,ha,rfl,_,rfl,b,_,_,.int z,rfl,rfl,hb,rfl,_,_,rfl,rfl,cm_l (by omega),_,_,rfl,rfl,q⟩
def zEi (K:PySem.W.Frag):Sp:=zUv K fun A B C x y z H Q=>Q (.bl (decide (A * x + B * y - C * z≤0))) H
theorem zPy (F:Fun K "holds" "holds" zH6 f fd) (Z:Zs mg) (h_p_beyond:Has P w K mg base "beyond" 1 ["side", "spot"] (zJ7 K)):FnOk P w K mg base CX0 2 f fd ["side", "spot"] (zEi K):=by
 refine F.ok zP6 (fun vs H Q E h=>?_) (fun cdv A outer s H vs Q E hr h=>?_)
 ·obtain ⟨a,b,A,B,C,x,y,z,rfl,_⟩:=h
  rfl
 obtain ⟨a,b,A',B,C,x,y,z,rfl,ha,hb,m1,m2,m3,q⟩:=h
 refine ⟨_,(zAi (zAr (zDo zT2 (zAh h_p_beyond (hr.mono (by decide)) rfl (zAa (pv 0) (zAa (pv 1) zAd))) zAb (zAz _)))),?_⟩
 exact ⟨_,rfl,_,rfl,a,b,A',B,C,x,y,z,rfl,ha,hb,m1,m2,m3,_,_,rfl,rfl,q⟩
def zD4 (K:PySem.W.Frag):Sp:=fun vs H Q _=>∃ (a b:Addr) (A1 B1 C1 A2 B2 C2:Int),vs = [.ref a,.ref b]∧Sq K H a [.int A1,.int B1,.int C1]∧Sq K H b [.int A2,.int B2,.int C2] ∧
 A1.natAbs≤10 ^ 18∧B1.natAbs≤10 ^ 18∧C1.natAbs≤10 ^ 18∧A2.natAbs≤10 ^ 18∧B2.natAbs≤10 ^ 18 ∧
 (A1 * B2 - B1 * A2 = 0→Q .non H)∧(A1 * B2 - B1 * A2≠0→∀ (p:Addr) (H':Hp),Same H H'→H p = none→H' p = some (.tup ((lowL (upL (C1 * B2 - B1 * C2) (A1 * C2 - C1 * A2) (A1 * B2 - B1 * A2))).map V.int))→Q (.ref p) H')
theorem zMe (F:Fun K "crossing" "crossing" zE1 f fd) (Z:Zs mg) (h_p_upright:Has P w K mg base "upright" 3 ["numbers"] (zEt K)) (h_p_turn:Has P w K mg base "turn" 1 ["one", "other"] (zDe K)):FnOk P w K mg base CX0 4 f fd ["one", "other"] (zD4 K):=by
 refine F.ok zEb (fun vs H Q E h=>?_) (fun cdv A outer s H vs Q E hr h=>?_)
 ·obtain ⟨a,b,A1,B1,C1,A2,B2,C2,rfl,_⟩:=h
  rfl
 obtain ⟨a,b,A1,B1,C1,A2,B2,C2,rfl,ha,hb,m1,m2,m3,m4,m5,q0,q⟩:=h
 refine ⟨_,(zAf (zAw (i:=2) zEb.nd rfl (Or.inl rfl) (zAh h_p_turn (hr.mono (by decide)) rfl (zAa (pv 0) (zAa (pv 1) zAd))))
   (zAf (zA8 (zAu zCi (pv 2) zAb (zAz _)) (zAi (zAr zBm)) zAx)
   (zAf (zAw (i:=3) zEb.nd rfl (Or.inl rfl) (zAl zA6 (zAl zA2 (zAn zAg (pv 0) zAb (fun _ _=>rfl)) (zAn zAg (pv 1) zAb (fun _ _=>rfl))) (zAl zA2 (zAn zAg (pv 0) zAb (fun _ _=>rfl)) (zAn zAg (pv 1) zAb (fun _ _=>rfl)))))
   (zAf (zAw (i:=4) zEb.nd rfl (Or.inl rfl) (zAl zA6 (zAl zA2 (zAn zAg (pv 0) zAb (fun _ _=>rfl)) (zAn zAg (pv 1) zAb (fun _ _=>rfl))) (zAl zA2 (zAn zAg (pv 0) zAb (fun _ _=>rfl)) (zAn zAg (pv 1) zAb (fun _ _=>rfl)))))
   (zAi (zAr (zAh h_p_upright (hr.mono (by decide)) rfl (zAa (zA0 (zAa (pv 3) (zAa (pv 4) (zAa (pv 2) zAd)))) zAd)))))))),?_⟩
 refine ⟨_,rfl,_,rfl,a,b,_,_,A1,B1,A2,B2,rfl,ha,hb,rfl,rfl,rfl,rfl,m1,m2,?_⟩
 refine ⟨_,rfl,rfl,_,rfl,?_⟩
 refine ifE (fun hw=>q0 hw) (fun hw=>?_)
 have z1:=zAj A1 B2 m1 m5
 have z2:=zAj B1 A2 m2 m4
 have z0:(10:Nat) ^ 18 * 10 ^ 18 = 10 ^ 36:=by decide
 have z3:(10:Nat) ^ 36 + 10 ^ 36≤10 ^ 40:=by decide
 refine ⟨_,rfl,a,_,_,.int C1,rfl,rfl,ha,rfl,_,rfl,b,_,_,.int B2,rfl,rfl,hb,rfl,_,_,rfl,rfl,cm_l (by omega),_,rfl,a,_,_,.int B1,rfl,rfl,ha,rfl,_,rfl,b,_,_,.int C2,rfl,rfl,hb,rfl,_,_,rfl,rfl,cm_l (by omega),_,_,rfl,rfl,?_⟩
 refine ⟨_,rfl,a,_,_,.int A1,rfl,rfl,ha,rfl,_,rfl,b,_,_,.int C2,rfl,rfl,hb,rfl,_,_,rfl,rfl,cm_l (by omega),_,rfl,a,_,_,.int C1,rfl,rfl,ha,rfl,_,rfl,b,_,_,.int A2,rfl,rfl,hb,rfl,_,_,rfl,rfl,cm_l (by omega),_,_,rfl,rfl,?_⟩
 refine ⟨_,rfl,_,rfl,_,rfl,(by show 3≤sizeLine; decide),fun p hp=>⟨p,[C1 * B2 - B1 * C2,A1 * C2 - C1 * A2,A1 * B2 - B1 * A2],A1 * B2 - B1 * A2,rfl,.inr (SqT.of zAc),by show 3≤1000; decide,rfl,by simp,hw,zU3 (by omega),fun r H2 s2 hr2 e2=>?_⟩⟩
 exact q hw r H2 ((zAe hp _).trans s2) ((zAe hp _).free hr2) e2
def inWB (ss:List Sd) (p:P3):Bool:=ss.all fun t=>decide (sv t.2 p≤0)
theorem zD5 {ss:List Sd} {p:P3} : inWB ss p = true↔inW ss p:=by
 unfold inWB inW
 rw [List.all_eq_true]
 exact ⟨fun h t ht=>of_decide_eq_true (h t ht),fun h t ht=>decide_eq_true (h t ht)⟩
def zFu (K:PySem.W.Frag):Sp:=fun vs H Q _=>∃ (l p:Addr) (ss:List Sd) (P:P3),vs = [.ref l,.ref p]∧SqL K H l (zAm ss)∧SdOk H ss∧Sq K H p [.int P.1,.int P.2.1,.int P.2.2]∧Q (.bl (inWB ss P)) H
theorem zLz (F:Fun K "in_water" "in_water" zEu f fd) (Z:Zs mg) (h_p_holds:Has P w K mg base "holds" 2 ["side", "spot"] (zEi K)):FnOk P w K mg base CX0 3 f fd ["sides", "place"] (zFu K):=by
 refine F.ok zHy (fun vs H Q E h=>?_) (fun cdv A outer s H vs Q E hr h=>?_)
 ·obtain ⟨l,p,ss,P,rfl,_⟩:=h
  rfl
 obtain ⟨l,p,ss,P,rfl,hl,ok,hp,q⟩:=h
 refine ⟨_,(zAf (zCz PassesOwn.never rfl (zCc (pv 0)) (zAq (i:=2) zHy.nd rfl (Or.inl rfl)) (zAi (zA8 (zDd (zCv (zAh h_p_holds (hr.mono (by decide)) rfl (zAa (pv 2) (zAa (pv 1) zAd))))) (zAi (zAr zE3)) zAx)))
   (zAi (zAr zE3))),?_⟩
 refine ⟨_,rfl,l,rfl,.inl ⟨⟨_,hl⟩,zCt (K:=K) (a:=l) (xs:=zAm ss) (fun i σ H'=>H = H'∧(∀ j t,j < i→ss[j]? = some t→sv t.2 P≤0)∧∃ u2:Option V,σ = [some (.ref l),some (.ref p),u2])
  ⟨rfl,fun j t hj=>absurd hj (Nat.not_lt_zero _),none,rfl⟩ (fun i σ H' _ ⟨e,_⟩=>by rw [← e]; exact hl) ?_ ?_⟩⟩
 ·rintro i v σ H' hi ⟨rfl,hall,u2,rfl⟩
  obtain ⟨t,gt,rfl,hil⟩:=zBu hi
  obtain ⟨et,_,b1,b2,b3⟩:=ok t (List.mem_of_getElem? gt)
  refine ⟨_,rfl,_,rfl,t.1,p,t.2.1,t.2.2.1,t.2.2.2,P.1,P.2.1,P.2.2,rfl,.inr (SqT.of et),hp,by omega,by omega,by omega,_,rfl,?_⟩
  refine ifN (fun hpos=>?_) (fun hneg=>?_)
  ·have e:inWB ss P = false:=by
    unfold inWB
    rw [Bool.eq_false_iff]
    intro z
    exact hpos (of_decide_eq_true (List.all_eq_true.mp z t (List.mem_of_getElem? gt)))
   rw [e] at q
   exact q
  ·refine ⟨rfl,fun j t' hj ht'=>?_,_,rfl⟩
   by_cases e:j = i
   ·rw [e,gt] at ht'
    cases ht'
    exact hneg
   ·exact hall j t' (by omega) ht'
 ·rintro σ H' ⟨rfl,hall,u2,rfl⟩
  have e:inWB ss P = true:=zD5.mpr fun t ht=>by
   obtain ⟨j,hj,ej⟩:=List.getElem_of_mem ht
   exact hall j t (by rw [zAk]; exact hj) (by rw [List.getElem?_eq_getElem hj,ej])
  rw [e] at q
  exact q
def zJ4 (K:PySem.W.Frag):Sp:=fun vs H Q _=>∃ (a:Addr) (t:P3),vs = [.ref a]∧Sq K H a [.int t.1,.int t.2.1,.int t.2.2]∧(t.1≠0∨t.2.1≠0)∧t.1.natAbs≤10 ^ 9∧t.2.1.natAbs≤10 ^ 9 ∧
 ∀ (p:Addr) (H':Hp),Same H H'→H p = none→H' p = some (.tup ((ftL t).map V.int))→Q (.ref p) H'
theorem zRw (F:Fun K "foot" "foot" zJm f fd) (Z:Zs mg) (h_p_spot:Has P w K mg base "spot" 4 ["x", "y", "w"] (zIe K)) (h_p_along:Has P w K mg base "along" 1 ["one", "other"] (zEe K)):FnOk P w K mg base CX0 5 f fd ["side"] (zJ4 K):=by
 refine F.ok zSe (fun vs H Q E h=>?_) (fun cdv A outer s H vs Q E hr h=>?_)
 ·obtain ⟨a,t,rfl,_⟩:=h
  rfl
 obtain ⟨a,t,rfl,ha,hn,b1,b2,q⟩:=h
 refine ⟨_,(zAi (zAr (zAh h_p_spot (hr.mono (by decide)) rfl (zAa (zAl zA2 (zAn zAg (pv 0) zAb (fun _ _=>rfl)) (zAn zAg (pv 0) zAb (fun _ _=>rfl))) (zAa (zAl zA2 (zAn zAg (pv 0) zAb (fun _ _=>rfl)) (zAn zAg (pv 0) zAb (fun _ _=>rfl))) (zAa (zAh h_p_along (hr.mono (by decide)) rfl (zAa (pv 0) (zAa (pv 0) zAd))) zAd)))))),?_⟩
 have pos:=zEy hn
 have z1:=zAj t.1 t.1 b1 b1
 have z2:=zAj t.2.1 t.2.1 b2 b2
 refine ⟨_,rfl,a,_,_,.int t.1,rfl,rfl,ha,rfl,_,rfl,a,_,_,.int t.2.2,rfl,rfl,ha,rfl,_,_,rfl,rfl,cm_l (by omega),
  _,rfl,a,_,_,.int t.2.1,rfl,rfl,ha,rfl,_,rfl,a,_,_,.int t.2.2,rfl,rfl,ha,rfl,_,_,rfl,rfl,cm_l (by omega),
  _,rfl,_,rfl,a,a,_,_,t.1,t.2.1,t.1,t.2.1,rfl,ha,ha,rfl,rfl,rfl,rfl,by omega,by omega,
  t.1 * t.2.2,t.2.1 * t.2.2,t.1 * t.1 + t.2.1 * t.2.1,rfl,by omega,Nat.lt_of_le_of_lt (show (t.1 * t.1 + t.2.1 * t.2.1).natAbs≤10 ^ 40 by omega) (by decide +kernel),fun p H' s' hp ep=>q p H' s' hp ep⟩
def optV:Option Nat→V
 | none=>.non
 | some j=>.int j
theorem zD9 {ss:List Sd} {i:Nat} {t u:Sd} (gt:ss[i]? = some t) (hu:u∈ss.take (i + 1)):u∈ss.take i∨u = t:=by
 rw [zB1 gt] at hu
 rcases List.mem_append.mp hu with h | h
 ·exact .inl h
 ·exact .inr (List.mem_singleton.mp h)
theorem zOz {ss:List Sd} {i j:Nat} {t:Sd} (h:(ss.take i)[j]? = some t):(ss.take (i + 1))[j]? = some t:=by
 rw [List.getElem?_take] at h ⊢
 split at h
 ·rw [if_pos (by omega)]
  exact h
 ·cases h
def zNa (ss:List Sd) (e:P3) (h:Int) (H:Hp) (x y:V):Prop:=(x = .non∧y = .non∧zI4 ss e h none)∨∃ (j:Nat) (t:Sd) (p:Addr),x = .int j∧y = .ref p∧H p = some (.tup ((crL e t.2).map V.int))∧ss[j]? = some t∧0 < tn e t.2 * h∧∀ u∈ss,0 < tn e u.2 * h→sv u.2 (pt3 (crL e t.2))≤0
theorem zNa.skip {ss:List Sd} {e:P3} {h:Int} {H:Hp} {x y:V} {i:Nat} {t:Sd} (S:zNa (ss.take i) e h H x y) (gt:ss[i]? = some t) (hn:¬ 0 < tn e t.2 * h):zNa (ss.take (i + 1)) e h H x y:=by
 rcases S with ⟨e1,e2,S⟩ | ⟨j,u,p,e1,e2,ep,gu,hu,ha⟩
 ·refine .inl ⟨e1,e2,fun v hv=>?_⟩
  rcases zD9 gt hv with hv | rfl
  ·exact S v hv
  ·omega
 ·refine .inr ⟨j,u,p,e1,e2,ep,zOz gu,hu,fun v hv hp=>?_⟩
  rcases zD9 gt hv with hv | rfl
  ·exact ha v hv hp
  ·exact absurd hp hn
theorem zNa.keep {ss:List Sd} {e:P3} {h:Int} {H H':Hp} {x y:V} (S:zNa ss e h H x y) (s:Same H H'):zNa ss e h H' x y:=by
 rcases S with S | ⟨j,u,p,e1,e2,ep,r⟩
 ·exact .inl S
 ·exact .inr ⟨j,u,p,e1,e2,s _ _ ep,r⟩
def zEa (K:PySem.W.Frag):Sp:=fun vs H Q _=>∃ (l a:Addr) (ss:List Sd) (e:P3) (h:Int),vs = [.ref l,.ref a,.int h]∧SqL K H l (zAm ss)∧SdOk H ss∧ss.length≤1000∧Sq K H a [.int e.1,.int e.2.1,.int e.2.2]∧(e.1≠0∨e.2.1≠0)∧e.1.natAbs≤10 ^ 9∧e.2.1.natAbs≤10 ^ 9∧e.2.2.natAbs≤10 ^ 13∧(h = 1∨h = -1) ∧
 ∀ (r:Option Nat) (H':Hp),Same H H'→zI4 ss e h r→Q (optV r) H'
theorem zMb (F:Fun K "edge_end" "edge_end" zEz f fd) (Z:Zs mg) (h_p_turn:Has P w K mg base "turn" 1 ["one", "other"] (zDe K)) (h_p_holds:Has P w K mg base "holds" 2 ["side", "spot"] (zEi K)) (h_p_crossing:Has P w K mg base "crossing" 4 ["one", "other"] (zD4 K)):FnOk P w K mg base CX0 5 f fd ["sides", "edge", "hand"] (zEa K):=by
 refine F.ok zCf (fun vs H Q E h=>?_) (fun cdv A outer s H vs Q E hr h=>?_)
 ·obtain ⟨l,a,ss,e,h,rfl,_⟩:=h
  rfl
 obtain ⟨l,a,ss,e,hd,rfl,hl,ok,hlen,ha,hn,b1,b2,b3,h1,q⟩:=h
 have hh:hd * hd = 1:=by rcases h1 with rfl | rfl <;> rfl
 have hN:=zEy hn
 refine ⟨_,(zAf (zAw (i:=3) zCf.nd rfl (Or.inl rfl) zBm)
   (zAf (zAw (i:=4) zCf.nd rfl (Or.inl rfl) zBm)
   (zAf (zCz PassesOwn.never rfl (zC7 rfl Z.range (zAa (zAv zA1 rfl Z.len zB9 (zAa (pv 0) zAd)) zAd)) (zAq (i:=5) zCf.nd rfl (Or.inl rfl)) (zAf (zAw (i:=6) zCf.nd rfl (Or.inl rfl) (zAn zAg (pv 0) (pv 5) (fun _ _=>rfl)))
   (zAi (zA8 (PW.pt (zGb (zAu zI6 (zAl zA2 (zAh h_p_turn (hr.mono (by decide)) rfl (zAa (pv 1) (zAa (pv 6) zAd))) (pv 2)) zAb (zAz _)) (zEp (PW.pt (zGw (zAu zLl (pv 4) zBm (zAz _)) (zEl (zDd (zCv (zAh h_p_holds (hr.mono (by decide)) rfl (zAa (pv 6) (zAa (pv 4) zAd))))))))))) (zAf (zAw (i:=3) zCf.nd rfl (Or.inl rfl) (pv 5))
   (zAi (zAw (i:=4) zCf.nd rfl (Or.inl rfl) (zAh h_p_crossing (hr.mono (by decide)) rfl (zAa (pv 1) (zAa (pv 6) zAd)))))) zAx))))
   (zAi (zAr (pv 3)))))),?_⟩
 refine ⟨_,rfl,l,_,rfl,.inl hl,_,rfl,(by rw [zAk]; omega),(by rw [zAk]; omega),zEq (lo:=0) (n:=(((zAm ss).length:Nat):Int).toNat) (fun i σ H'=>Same H H'∧∃ (x y:V) (u5 u6:Option V),zNa (ss.take i) e hd H' x y∧σ = [some (.ref l),some (.ref a),some (.int hd),some x,some y,u5,u6])
  ⟨Same.refl _,.non,.non,none,none,.inl ⟨rfl,rfl,fun t ht=>nomatch ht⟩,rfl⟩ ?_ ?_⟩
 ·rintro i σ H' hi ⟨sH,x,y,u5,u6,S,rfl⟩
  have hil:i < ss.length:=by rw [Int.toNat_natCast,zAk] at hi; exact hi
  obtain ⟨t,mt,gt,at'⟩:=zBg (ss:=ss) (i:=i) (k:=0 + (i:Int)) (by omega) hil
  obtain ⟨et0,nt,c1,c2,c3⟩:=ok t mt
  have et:Sq K H' t.1 [.int t.2.1,.int t.2.2.1,.int t.2.2.2]:=.inr (SqT.of (sH _ _ et0))
  have hae:=ha.same sH
  have z1:=zAj e.1 t.2.2.1 b1 c2
  have z2:=zAj e.2.1 t.2.1 b2 c1
  refine ⟨_,rfl,_,rfl,l,_,_,_,rfl,rfl,.inl (sH.seq hl),at',?_⟩
  refine ⟨_,rfl,_,rfl,a,t.1,_,_,e.1,e.2.1,t.2.1,t.2.2.1,rfl,hae,et,rfl,rfl,rfl,rfl,by omega,by omega,_,rfl,_,_,rfl,rfl,.inl ⟨by omega,by omega⟩,_,_,rfl,rfl,_,rfl,?_⟩
  refine ifD (fun hpos=>?_) (fun hneg=>?_)
  ·have hpos':0 < tn e t.2 * hd:=hpos
   have put:∀ (H2:Hp) (p:Addr),Same H' H2→H2 p = some (.tup ((crL e t.2).map V.int))→(∀ u∈ss.take i,0 < tn e u.2 * hd→sv u.2 (pt3 (crL e t.2))≤0)→zNa (ss.take (i + 1)) e hd H2 (.int (0 + (i:Int))) (.ref p):=fun H2 p s2 ep hb=>by
    refine .inr ⟨i,t,p,by rw [Int.zero_add],rfl,ep,?_,hpos',fun u hu hp=>?_⟩
    ·rw [List.getElem?_take,if_pos (by omega)]
     exact gt
    ·rcases zD9 gt hu with hu | rfl
     ·exact hb u hu hp
     ·exact Int.le_of_eq (zFa (zCd hpos')).2.2
   rcases S with ⟨rfl,rfl,S⟩ | ⟨j,u,p,rfl,rfl,ep,gu,hu,hb⟩
   ·refine ⟨_,rfl,rfl,_,rfl,?_⟩
    refine iteT ?_
    refine ⟨_,rfl,_,rfl,_,rfl,a,t.1,e.1,e.2.1,e.2.2,t.2.1,t.2.2.1,t.2.2.2,rfl,hae,et,by omega,by omega,by omega,by omega,by omega,fun z=>absurd z (zCd hpos'),fun _ p2 H2 s2 hp2 ep2=>?_⟩
    exact ⟨sH.trans s2,_,_,_,_,put H2 p2 s2 ep2 fun v hv hp=>by have:=S v hv; omega,rfl⟩
   ·obtain ⟨sp0,q1,q2⟩:=zFa (zCd hu)
    refine ⟨_,rfl,rfl,_,rfl,?_⟩
    refine iteF ?_
    have ep3:Sq K H' p [.int (pt3 (crL e u.2)).1,.int (pt3 (crL e u.2)).2.1,.int (pt3 (crL e u.2)).2.2]:=.inr (SqT.of (by rw [ep]; rw [sp0.list]; rfl))
    refine ⟨_,rfl,_,rfl,t.1,p,t.2.1,t.2.2.1,t.2.2.2,_,_,_,rfl,et,ep3,by omega,by omega,by omega,_,rfl,?_⟩
    refine ifN (fun hout=>?_) (fun hin=>?_)
    ·have hout':0 < sv t.2 (pt3 (crL e u.2)):=by
      have:¬ sv t.2 (pt3 (crL e u.2))≤0:=hout
      omega
     refine ⟨_,rfl,_,rfl,_,rfl,a,t.1,e.1,e.2.1,e.2.2,t.2.1,t.2.2.1,t.2.2.2,rfl,hae,et,by omega,by omega,by omega,by omega,by omega,fun z=>absurd z (zCd hpos'),fun _ p2 H2 s2 hp2 ep2=>?_⟩
     obtain ⟨sp1,r1,r2⟩:=zFa (zCd hpos')
     have d1:=dl_le hh hN r1 q1 sp1.pos r2 hout' hpos'
     refine ⟨sH.trans s2,_,_,_,_,put H2 p2 s2 ep2 fun v hv hp=>?_,rfl⟩
     refine zP2 hh hN r1 q1 sp1.pos sp0.pos v.2 ?_ (hb v hv hp)
     have:=Int.mul_nonneg (show 0≤-(dl e (pt3 (crL e t.2)) (pt3 (crL e u.2)) * hd) by omega) (Int.le_of_lt hp)
     rw [Int.neg_mul] at this
     omega
    ·refine ⟨sH,_,_,_,_,.inr ⟨j,u,p,rfl,rfl,ep,zOz gu,hu,fun v hv hp=>?_⟩,rfl⟩
     rcases zD9 gt hv with hv | rfl
     ·exact hb v hv hp
     ·exact hin
  ·refine iteF ?_
   exact ⟨sH,x,y,_,_,S.skip gt hneg,rfl⟩
 ·rintro σ H' ⟨sH,x,y,u5,u6,S,rfl⟩
  rw [Int.toNat_natCast,zAk,List.take_length] at S
  rcases S with ⟨rfl,rfl,S⟩ | ⟨j,u,p,rfl,rfl,ep,gu,hu,hb⟩
  ·exact ⟨_,rfl,q none H' sH S⟩
  ·exact ⟨_,rfl,q (some j) H' sH ⟨u,gu,hu,hb⟩⟩
abbrev zB4 (qs:List (Addr × P3)):List V:=(qs.map (·.1)).map V.ref
def zLa (H:Hp) (qs:List (Addr × P3)):Prop:=∀ t∈qs,H t.1 = some (.tup [.int t.2.1,.int t.2.2.1,.int t.2.2.2])∧0 < t.2.2.2∧Nat.gcd (Nat.gcd t.2.1.natAbs t.2.2.1.natAbs) t.2.2.2.natAbs = 1
theorem zLa.same {H H':Hp} {qs:List (Addr × P3)} (h:zLa H qs) (s:Same H H'):zLa H' qs:=fun t ht=>⟨s _ _ (h t ht).1,(h t ht).2⟩
structure EndsOk (ss:List Sd) (e:P3) (qs:List (Addr × P3)):Prop where
 each:∀ q∈qs,∃ (h:Int) (j:Nat) (t:Sd),h * h = 1∧ss[j]? = some t∧0 < tn e t.2 * h∧(∀ u∈ss,0 < tn e u.2 * h→sv u.2 (pt3 (crL e t.2))≤0)∧q.2 = pt3 (crL e t.2)
 none:qs = []→zI4 ss e 1 none∧zI4 ss e (-1) none
 full:zM6 ss e 1 (qs.map (·.2))∧zM6 ss e (-1) (qs.map (·.2))
def zHc (K:PySem.W.Frag):Sp:=fun vs H Q _=>∃ (l a:Addr) (ss:List Sd) (e:P3),vs = [.ref l,.ref a]∧SqL K H l (zAm ss)∧SdOk H ss∧ss.length≤1000∧Sq K H a [.int e.1,.int e.2.1,.int e.2.2]∧(e.1≠0∨e.2.1≠0)∧e.1.natAbs≤10 ^ 9∧e.2.1.natAbs≤10 ^ 9∧e.2.2.natAbs≤10 ^ 13 ∧
 ∀ (D:Addr) (qs:List (Addr × P3)) (H':Hp),Same H H'→H D = none→H' D = some (.lst (zB4 qs))→zLa H' qs→qs.length≤2→EndsOk ss e qs→Q (.ref D) H'
theorem zK4 (F:Fun K "edge_ends" "edge_ends" zD0 f fd) (Z:Zs mg) (h_p_crossing:Has P w K mg base "crossing" 4 ["one", "other"] (zD4 K)) (h_p_edge_end:Has P w K mg base "edge_end" 5 ["sides", "edge", "hand"] (zEa K)):FnOk P w K mg base CX0 6 f fd ["sides", "edge"] (zHc K):=by
 refine F.ok zHd (fun vs H Q E h=>?_) (fun cdv A outer s H vs Q E hr h=>?_)
 ·obtain ⟨l,a,ss,e,rfl,_⟩:=h
  rfl
 obtain ⟨l,a,ss,e,rfl,hl,ok,hlen,ha,hn,b1,b2,b3,q⟩:=h
 refine ⟨_,(zAf (zAw (i:=2) zHd.nd rfl (Or.inl rfl) (zBo (zAa (zAh h_p_edge_end (hr.mono (by decide)) rfl (zAa (pv 0) (zAa (pv 1) (zAa (zB6 zBc zAb) zAd)))) (zAa (zAh h_p_edge_end (hr.mono (by decide)) rfl (zAa (pv 0) (zAa (pv 1) (zAa zAb zAd)))) zAd))))
   (zAi (zAr (zC0 (T:=["number"]) (caps:=[("edge", 1),("sides", 0)]) ⟨rfl,by decide +kernel,by decide +kernel,rfl,⟨⟨rfl,rfl,Or.inl rfl⟩,⟨rfl,rfl,Or.inl rfl⟩,True.intro⟩⟩ rfl (zCc (pv 2)) (fun _=>(zAq (i:=0) (show (["number", "edge", "sides"]:List Str).Nodup by decide +kernel) rfl (Or.inl rfl))) (fun _=>(zPc (zAu zGv (pv 0) zBm (zAz _)))) (fun _=>(zAh h_p_crossing (hr.mono (by decide)) rfl (zAa (pv 1) (zAa (zAn zAg (pv 2) (pv 0) (fun _ _=>rfl)) zAd)))))))),?_⟩
 refine ⟨_,rfl,_,rfl,_,rfl,l,a,ss,e,-1,rfl,hl,ok,hlen,ha,hn,b1,b2,b3,.inr rfl,fun r1 H1 s1 k1=>?_⟩
 refine ⟨_,rfl,_,rfl,l,a,ss,e,1,rfl,s1.seq hl,ok.same s1,hlen,ha.same s1,hn,b1,b2,b3,.inl rfl,fun r2 H2 s2 k2=>?_⟩
 refine ⟨(by show 2≤sizeLine; decide),fun nl hnl=>?_⟩
 have snl:Same H2 (upd H2 nl (.lst [optV r1,optV r2])):=zAe hnl _
 have enl:upd H2 nl (.lst [optV r1,optV r2]) nl = some (.lst [optV r1,optV r2]):=zAc
 generalize upd H2 nl (.lst [optV r1,optV r2]) = H3 at snl enl ⊢
 have s3:=(s1.trans s2).trans snl
 have one:∀ (i:Nat) (v:V),[optV r1,optV r2][i]? = some v→(v = .non∧((i = 0∧zI4 ss e (-1) none)∨(i = 1∧zI4 ss e 1 none)))∨∃ (j:Nat) (t:Sd) (h:Int),v = .int j∧((i = 0∧h = -1)∨(i = 1∧h = 1))∧h * h = 1∧ss[j]? = some t∧0 < tn e t.2 * h∧∀ u∈ss,0 < tn e u.2 * h→sv u.2 (pt3 (crL e t.2))≤0:=fun i v hv=>by
  match i,hv with
  | 0,hv =>
   cases hv
   cases r1 with
   | none=>exact .inl ⟨rfl,.inl ⟨rfl,k1⟩⟩
   | some j=>obtain ⟨t,g,p,r⟩:=k1; exact .inr ⟨j,t,-1,rfl,.inl ⟨rfl,rfl⟩,rfl,g,p,r⟩
  | 1,hv =>
   cases hv
   cases r2 with
   | none=>exact .inl ⟨rfl,.inr ⟨rfl,k2⟩⟩
   | some j=>obtain ⟨t,g,p,r⟩:=k2; exact .inr ⟨j,t,1,rfl,.inr ⟨rfl,rfl⟩,rfl,g,p,r⟩
 refine ⟨_,rfl,nl,rfl,.inl ⟨⟨_,SqL.of enl⟩,fun c D hD=>zKu (K:=K) (a:=nl) (xs:=[optV r1,optV r2]) (fun i σ ys H'=>Same H3 H'∧H' D = some (.lst ys)∧(∃ qs:List (Addr × P3),ys = zB4 qs∧qs.length≤i∧zLa H' qs∧(∀ q∈qs,∃ (h:Int) (j:Nat) (t:Sd),h * h = 1∧ss[j]? = some t∧0 < tn e t.2 * h∧(∀ u∈ss,0 < tn e u.2 * h→sv u.2 (pt3 (crL e t.2))≤0)∧q.2 = pt3 (crL e t.2)) ∧
   ((0 < i→zM6 ss e (-1) (qs.map (·.2)))∧(1 < i→zM6 ss e 1 (qs.map (·.2)))))∧∃ u0:Option V,σ = [u0,some (.ref a),some (.ref l)])
  ⟨zAe hD _,zAc,⟨[],rfl,Nat.le_refl _,(fun t ht=>nomatch ht),(fun t ht=>nomatch ht),⟨fun z=>absurd z (Nat.not_lt_zero _),fun z=>absurd z (Nat.not_lt_zero _)⟩⟩,none,rfl⟩ (fun i σ ys H' _ ⟨e1,e2,_⟩=>⟨SqL.of (e1 _ _ enl),e2⟩) ?_ ?_⟩⟩
 ·rintro i v σ ys H' hi ⟨sH,eD,⟨qs,rfl,hq,okq,each,non⟩,u0,rfl⟩
  have hi2:i < 2:=(List.getElem?_eq_some_iff.mp hi).1
  rcases one i v hi with ⟨rfl,hcase⟩ | ⟨j,t,h,rfl,hih,hh,gt,hp,hb⟩
  ·refine ⟨_,rfl,rfl,_,rfl,?_⟩
   refine iteF ?_
   refine ⟨sH,eD,⟨qs,rfl,by omega,okq,each,?_⟩,_,rfl⟩
   rcases hcase with ⟨rfl,k⟩ | ⟨rfl,k⟩
   ·exact ⟨fun _=>.inl k,fun z'=>absurd z' (by decide)⟩
   ·exact ⟨fun _=>non.1 (by decide),fun _=>.inl k⟩
  ·refine ⟨_,rfl,rfl,_,rfl,?_⟩
   refine iteT ?_
   have hj:j < ss.length:=(List.getElem?_eq_some_iff.mp gt).1
   obtain ⟨t',mt,gt',at'⟩:=zBg (ss:=ss) (i:=j) (k:=(j:Int)) rfl hj
   rw [gt] at gt'
   cases gt'
   obtain ⟨et0,_,c1,c2,c3⟩:=ok t mt
   have s3H:=s3.trans sH
   refine ⟨_,rfl,_,rfl,_,rfl,l,_,_,_,rfl,rfl,.inl (s3H.seq hl),at',a,t.1,e.1,e.2.1,e.2.2,t.2.1,t.2.2.1,t.2.2.2,rfl,ha.same s3H,.inr (SqT.of (s3H _ _ et0)),by omega,by omega,by omega,by omega,by omega,fun z=>absurd z (zCd hp),fun _ p H5 s5 hp5 ep5=>?_⟩
   obtain ⟨sp,_,_⟩:=zFa (zCd hp)
   have ep5':H5 p = some (.tup [.int (pt3 (crL e t.2)).1,.int (pt3 (crL e t.2)).2.1,.int (pt3 (crL e t.2)).2.2]):=by
    have z:H5 p = some (.tup ((crL e t.2).map V.int)):=ep5
    rw [z,sp.list]
    rfl
   have npD:p≠D:=fun z=>by rw [z,eD] at hp5; cases hp5
   refine ⟨s5 _ _ eD,zA3 (by simp only [List.length_map]; omega),(sH.trans s5).putNew hD,zAc,⟨qs ++ [(p,pt3 (crL e t.2))],by simp [zB4],by rw [List.length_append]; show qs.length + 1≤i + 1; omega,fun u hu=>?_,fun u hu=>?_,?_⟩,_,rfl⟩
   ·rcases List.mem_append.mp hu with hu | hu
    ·obtain ⟨g1,g2⟩:=okq u hu
     exact ⟨by rw [zA5 (zIb (s5 _ _ g1) (s5 _ _ eD) (by intro z; cases z))]; exact s5 _ _ g1,g2⟩
    ·rw [List.mem_singleton] at hu
     subst hu
     refine ⟨?_,sp.pos,sp.low⟩
     show upd H5 D _ p = _
     rw [zA5 npD]
     exact ep5'
   ·rcases List.mem_append.mp hu with hu | hu
    ·exact each u hu
    ·rw [List.mem_singleton] at hu
     subst hu
     exact ⟨h,j,t,hh,gt,hp,hb,rfl⟩
   ·have me:zM6 ss e h ((qs ++ [(p,pt3 (crL e t.2))]).map (·.2)):=.inr ⟨j,t,gt,hp,hb,by rw [List.map_append]; exact List.mem_append_right _ (List.mem_singleton.mpr rfl)⟩
    rcases hih with ⟨rfl,rfl⟩ | ⟨rfl,rfl⟩
    ·exact ⟨fun _=>me,fun z'=>absurd z' (by decide)⟩
    ·exact ⟨fun _=>by rw [List.map_append]; exact (non.1 (by decide)).app,fun _=>me⟩
 ·rintro σ ys H' ⟨sH,eD,⟨qs,rfl,hq,okq,each,non⟩,u0,rfl⟩
  have f1:=non.2 (by show 1 < 2; decide)
  have f2:=non.1 (by show 0 < 2; decide)
  refine q D qs H' (s3.trans sH) (s3.free hD) eD okq hq ⟨each,fun z=>?_,f1,f2⟩
  rw [z] at f1 f2
  refine ⟨?_,?_⟩
  ·rcases f1 with f | ⟨_,_,_,_,_,m⟩
   ·exact f
   ·exact nomatch m
  ·rcases f2 with f | ⟨_,_,_,_,_,m⟩
   ·exact f
   ·exact nomatch m
def SpAt (H:Hp) (p:Addr) (P:P3):Prop:=H p = some (.tup [.int P.1,.int P.2.1,.int P.2.2])∧0 < P.2.2∧Nat.gcd (Nat.gcd P.1.natAbs P.2.1.natAbs) P.2.2.natAbs = 1
theorem SpAt.same {H H':Hp} {p:Addr} {P:P3} (h:SpAt H p P) (s:Same H H'):SpAt H' p P:=⟨s _ _ h.1,h.2⟩
def zDn (K:PySem.W.Frag):Sp:=fun vs H Q _=>∃ (l a:Addr) (ss:List Sd) (e:P3),vs = [.ref l,.ref a]∧SqL K H l (zAm ss)∧SdOk H ss∧ss.length≤900∧Sq K H a [.int e.1,.int e.2.1,.int e.2.2]∧(e.1≠0∨e.2.1≠0)∧e.1.natAbs≤10 ^ 9∧e.2.1.natAbs≤10 ^ 9∧e.2.2.natAbs≤10 ^ 13 ∧
 (∀ H',Same H H'→(∀ z:P3,sv e z = 0→0 < z.2.2→¬ inW ss z)→Q .non H') ∧
 ∀ (p:Addr) (P:P3) (H':Hp),Same H H'→SpAt H' p P→inW ss P→sv e P = 0→(P = pt3 (ftL e)∨∃ t∈ss,tn e t.2≠0∧P = pt3 (crL e t.2))→Q (.ref p) H'
theorem zIj (F:Fun K "spot_on_edge" "spot_on_edge" zC9 f fd) (Z:Zs mg) (h_p_edge_ends:Has P w K mg base "edge_ends" 6 ["sides", "edge"] (zHc K)) (h_p_foot:Has P w K mg base "foot" 5 ["side"] (zJ4 K)) (h_p_in_water:Has P w K mg base "in_water" 3 ["sides", "place"] (zFu K)):FnOk P w K mg base CX0 7 f fd ["sides", "edge"] (zDn K):=by
 refine F.ok zFj (fun vs H Q E h=>?_) (fun cdv A outer s H vs Q E hr h=>?_)
 ·obtain ⟨l,a,ss,e,rfl,_⟩:=h
  rfl
 obtain ⟨l,a,ss,e,rfl,hl,ok,hlen,ha,hn,b1,b2,b3,qn,q⟩:=h
 have hN:=zEy hn
 refine ⟨_,(zAf (zCz PassesOwn.never rfl (zCc (zAl zEv (zAh h_p_edge_ends (hr.mono (by decide)) rfl (zAa (pv 0) (zAa (pv 1) zAd))) (zBo (zAa (zAh h_p_foot (hr.mono (by decide)) rfl (zAa (pv 1) zAd)) zAd)))) (zAq (i:=2) zFj.nd rfl (Or.inl rfl)) (zAi (zA8 (zCv (zAh h_p_in_water (hr.mono (by decide)) rfl (zAa (pv 0) (zAa (pv 2) zAd)))) (zAi (zAr (pv 2))) zAx)))
   (zAi (zAr zBm))),?_⟩
 refine ⟨_,rfl,_,rfl,l,a,ss,e,rfl,hl,ok,by omega,ha,hn,b1,b2,b3,fun D qs H1 s1 hD eD okq hq ends=>?_⟩
 refine ⟨_,rfl,a,e,rfl,ha.same s1,hn,b1,b2,fun fp H2 s2 hfp efp=>?_⟩
 obtain ⟨sf,f1⟩:=zR0 hn
 have efp':H2 fp = some (.tup [.int (pt3 (ftL e)).1,.int (pt3 (ftL e)).2.1,.int (pt3 (ftL e)).2.2]):=by
  rw [efp,sf.list]
  rfl
 refine ⟨(by show 1≤sizeLine; decide),fun fl hfl=>?_⟩
 have sfl:Same H2 (upd H2 fl (.lst [.ref fp])):=zAe hfl _
 have efl:upd H2 fl (.lst [.ref fp]) fl = some (.lst [.ref fp]):=zAc
 generalize upd H2 fl (.lst [.ref fp]) = H3 at sfl efl ⊢
 refine ⟨D,fl,_,_,rfl,rfl,sfl _ _ (s2 _ _ eD),efl,small (by simp only [List.length_map]; show qs.length + 1≤1000; omega),fun L hL=>?_⟩
 have sL:Same H3 (upd H3 L (.lst (zB4 qs ++ [.ref fp]))):=zAe hL _
 have eL:upd H3 L (.lst (zB4 qs ++ [.ref fp])) L = some (.lst (zB4 (qs ++ [(fp,pt3 (ftL e))]))):=by rw [zAc]; simp [zB4]
 generalize upd H3 L (.lst (zB4 qs ++ [.ref fp])) = H4 at sL eL ⊢
 have s24:=sfl.trans sL
 have s14:=s2.trans s24
 have s04:=s1.trans s14
 have okA:zLa H4 (qs ++ [(fp,pt3 (ftL e))]):=fun u hu=>by
  rcases List.mem_append.mp hu with hu | hu
  ·exact okq.same s14 u hu
  ·rw [List.mem_singleton] at hu
   subst hu
   exact ⟨s24 _ _ efp',sf.pos,sf.low⟩
 refine ⟨L,rfl,.inl ⟨⟨_,SqL.of eL⟩,zCt (K:=K) (a:=L) (xs:=zB4 (qs ++ [(fp,pt3 (ftL e))])) (fun i σ H'=>H4 = H'∧(∀ j u,j < i→(qs ++ [(fp,pt3 (ftL e))])[j]? = some u→¬ inW ss u.2)∧∃ u2:Option V,σ = [some (.ref l),some (.ref a),u2])
  ⟨rfl,fun j t hj=>absurd hj (Nat.not_lt_zero _),none,rfl⟩ (fun i σ H' _ ⟨e1,_⟩=>by rw [← e1]; exact SqL.of eL) ?_ ?_⟩⟩
 ·rintro i v σ H' hi ⟨rfl,hall,u2,rfl⟩
  rw [List.getElem?_map,List.getElem?_map] at hi
  cases gu:(qs ++ [(fp,pt3 (ftL e))])[i]? with
  | none=>rw [gu] at hi; cases hi
  | some u =>
   rw [gu] at hi
   cases hi
   obtain ⟨eu,pu,lu⟩:=okA u (List.mem_of_getElem? gu)
   refine ⟨_,rfl,_,rfl,l,u.1,ss,u.2,rfl,s04.seq hl,ok.same s04,.inr (SqT.of eu),_,rfl,?_⟩
   by_cases hw:inWB ss u.2 = true
   ·rw [hw]
    refine iteT ?_
    have on:sv e u.2 = 0∧(u.2 = pt3 (ftL e)∨∃ t∈ss,tn e t.2≠0∧u.2 = pt3 (crL e t.2)):=by
     rcases List.mem_append.mp (List.mem_of_getElem? gu) with hu | hu
     ·obtain ⟨h,j,t,_,gt,hp,_,eq⟩:=ends.each u hu
      rw [eq]
      exact ⟨(zFa (zCd hp)).2.1,.inr ⟨t,List.mem_of_getElem? gt,zCd hp,rfl⟩⟩
     ·rw [List.mem_singleton] at hu
      rw [hu]
      exact ⟨f1,.inl rfl⟩
    exact ⟨_,rfl,q u.1 u.2 _ s04 ⟨eu,pu,lu⟩ (zD5.mp hw) on.1 on.2⟩
   ·have hw':inWB ss u.2 = false:=by simpa using hw
    rw [hw']
    refine iteF ?_
    refine ⟨rfl,fun j t hj ht=>?_,_,rfl⟩
    by_cases ej:j = i
    ·rw [ej,gu] at ht
     cases ht
     exact fun z=>hw (zD5.mpr z)
    ·exact hall j t (by omega) ht
 ·rintro σ H' ⟨rfl,hall,u2,rfl⟩
  refine qn _ s04 fun z hz zw wz=>?_
  have nin:∀ u∈qs ++ [(fp,pt3 (ftL e))],¬ inW ss u.2:=fun u hu=>by
   obtain ⟨j,hj,ej⟩:=List.getElem_of_mem hu
   exact hall j u (by simp only [List.length_map]; exact hj) (by rw [List.getElem?_eq_getElem hj,ej])
  cases qs with
  | nil =>
   obtain ⟨n1,n2⟩:=ends.none rfl
   exact nin (fp,pt3 (ftL e)) (by simp) (zNx hN hz zw wz f1 sf.pos n1 n2)
  | cons u us =>
   obtain ⟨h,j,t,hh,gt,hp,hb,eq⟩:=ends.each u (List.mem_cons_self ..)
   refine nin u (by simp) ?_
   rw [eq]
   exact zMv hh hN hz zw wz gt hp hb
theorem zKa (ss:List Sd) (n:Nat):cutV (zAm ss) none (some (n:Int)) = zAm (ss.take n):=by
 unfold cutV
 rw [show HT.sIx (zAm ss).length 0 none = 0 from rfl,HT.sIx_nat (zAm ss).length (zAm ss).length n,List.drop_zero,Nat.sub_zero]
 rw [zAk]
 simp only [zAm,← List.map_take]
 congr 2
 rw [List.take_eq_take_iff]
 omega
def zHj (K:PySem.W.Frag):Sp:=fun vs H Q _=>∃ (l:Addr) (ss:List Sd),vs = [.ref l]∧SqL K H l (zAm ss)∧SdOk H ss∧ss.length≤900 ∧
 (∀ (t:Addr) (j:Nat) (e:Sd) (P:P3) (H':Hp),Same H H'→H' t = some (.tup [.non,.int j])→zTu ss j e P→Q (.ref t) H') ∧
 ∀ (t p:Addr) (P:P3) (H':Hp),Same H H'→H' t = some (.tup [.ref p,.non])→SpAt H' p P→inW ss P→Cand ss P→Q (.ref t) H'
theorem zOs (F:Fun K "sought" "sought" zG6 f fd) (Z:Zs mg) (h_p_holds:Has P w K mg base "holds" 2 ["side", "spot"] (zEi K)) (h_p_spot_on_edge:Has P w K mg base "spot_on_edge" 7 ["sides", "edge"] (zDn K)) (h_p_spot:Has P w K mg base "spot" 4 ["x", "y", "w"] (zIe K)):FnOk P w K mg base CX0 8 f fd ["sides"] (zHj K):=by
 refine F.ok zFv (fun vs H Q E h=>?_) (fun cdv A outer s H vs Q E hr h=>?_)
 ·obtain ⟨l,ss,rfl,_⟩:=h
  rfl
 obtain ⟨l,ss,rfl,hl,ok,hlen,qn,q⟩:=h
 refine ⟨_,(zAf (zAw (i:=1) zFv.nd rfl (Or.inl rfl) (zAh h_p_spot (hr.mono (by decide)) rfl (zAa zAb (zAa zAb (zAa zAb zAd)))))
   (zAf (zCz PassesOwn.never rfl (zC7 rfl Z.range (zAa (zAv zA1 rfl Z.len zB9 (zAa (pv 0) zAd)) zAd)) (zAq (i:=2) zFv.nd rfl (Or.inl rfl)) (zAi (zA8 (zDd (zCv (zAh h_p_holds (hr.mono (by decide)) rfl (zAa (zAn zAg (pv 0) (pv 2) (fun _ _=>rfl)) (zAa (pv 1) zAd))))) (zAf (zAw (i:=1) zFv.nd rfl (Or.inl rfl) (zAh h_p_spot_on_edge (hr.mono (by decide)) rfl (zAa (zBy zCy (pv 0) zCn (zCo (pv 2))) (zAa (zAn zAg (pv 0) (pv 2) (fun _ _=>rfl)) zAd))))
   (zAi (zA8 (zAu zLl (pv 1) zBm (zAz _)) (zAi (zAr (zA0 (zAa zBm (zAa (pv 2) zAd))))) zAx))) zAx)))
   (zAi (zAr (zA0 (zAa (pv 1) (zAa zBm zAd))))))),?_⟩
 refine ⟨0,0,1,rfl,by decide,by decide +kernel,fun p0 H1 s1 hp0 ep0=>?_⟩
 have ep0':SpAt H1 p0 (0,0,1):=⟨ep0,by decide,by decide⟩
 refine ⟨_,rfl,l,_,rfl,.inl (s1.seq hl),_,rfl,(by rw [zAk]; omega),(by rw [zAk]; omega),zEq (lo:=0) (n:=(((zAm ss).length:Nat):Int).toNat) (fun i σ H'=>Same H H'∧∃ (p:Addr) (P:P3) (u2:Option V),SpAt H' p P∧inW (ss.take i) P∧Cand ss P∧σ = [some (.ref l),some (.ref p),u2])
  ⟨s1,p0,(0,0,1),none,ep0',(fun t ht=>nomatch ht),.inl rfl,rfl⟩ ?_ ?_⟩
 ·rintro i σ H' hi ⟨sH,p,P,u2,ep,wp,cp,rfl⟩
  have hil:i < ss.length:=by rw [Int.toNat_natCast,zAk] at hi; exact hi
  obtain ⟨t,mt,gt,at'⟩:=zBg (ss:=ss) (i:=i) (k:=0 + (i:Int)) (by omega) hil
  obtain ⟨et0,nt,c1,c2,c3⟩:=ok t mt
  have et:Sq K H' t.1 [.int t.2.1,.int t.2.2.1,.int t.2.2.2]:=.inr (SqT.of (sH _ _ et0))
  refine ⟨_,rfl,_,rfl,l,_,_,_,rfl,rfl,.inl (sH.seq hl),at',_,rfl,t.1,p,t.2.1,t.2.2.1,t.2.2.2,P.1,P.2.1,P.2.2,rfl,et,.inr (SqT.of ep.1),by omega,by omega,by omega,_,rfl,?_⟩
  refine ifN (fun hout=>?_) (fun hin=>?_)
  ·have hout':0 < sv t.2 P:=by
    have:¬ sv t.2 P≤0:=hout
    omega
   refine ⟨_,rfl,_,rfl,_,rfl,l,_,rfl,sH.seq hl,fun c hc=>?_⟩
   rw [show (0:Int) + (i:Int) = ((i:Nat):Int) from Int.zero_add _,zKa]
   have sc:=zAe hc (.lst (zAm (ss.take i)))
   have ec:upd H' c (.lst (zAm (ss.take i))) c = some (.lst (zAm (ss.take i))):=zAc
   generalize upd H' c (.lst (zAm (ss.take i))) = H2 at sc ec ⊢
   have sH2:=sH.trans sc
   rw [show (0:Int) + (i:Int) = ((i:Nat):Int) from Int.zero_add _] at at'
   refine ⟨_,rfl,_,rfl,l,_,_,_,rfl,rfl,.inl (sH2.seq hl),at',c,t.1,ss.take i,t.2,rfl,SqL.of ec,(fun u hu=>ok.same sH2 u (List.mem_of_mem_take hu)),by rw [List.length_take]; omega,et.same sc,nt,c1,c2,c3,fun H3 s3 no=>?_,fun p3 P3' H3 s3 ep3 wp3 on3 cd3=>?_⟩
   ·refine ⟨_,rfl,rfl,_,rfl,?_⟩
    refine iteT ?_
    refine ⟨_,rfl,(by show 2≤sizeLine; decide),fun tt htt=>?_⟩
    exact qn tt i t P _ ((sH2.trans s3).trans (zAe htt _)) zAc ⟨gt,ep.2.1,wp,hout',no⟩
   ·refine ⟨_,rfl,rfl,_,rfl,?_⟩
    refine iteF ?_
    refine ⟨sH2.trans s3,p3,P3',_,ep3,fun u hu=>?_,?_,rfl⟩
    ·rw [zB1 gt] at hu
     rcases List.mem_append.mp hu with hu | hu
     ·exact wp3 u hu
     ·rw [List.mem_singleton] at hu
      rw [hu,on3]
      exact Int.le_refl _
    ·rcases cd3 with h | ⟨u,hu,ht,h⟩
     ·exact .inr (.inl ⟨t,mt,h⟩)
     ·exact .inr (.inr ⟨t,mt,u,List.mem_of_mem_take hu,ht,h⟩)
  ·refine ⟨sH,p,P,_,ep,fun u hu=>?_,cp,rfl⟩
   rw [zB1 gt] at hu
   rcases List.mem_append.mp hu with hu | hu
   ·exact wp u hu
   ·rw [List.mem_singleton] at hu
    rw [hu]
    exact hin
 ·rintro σ H' ⟨sH,p,P,u2,ep,wp,cp,rfl⟩
  rw [Int.toNat_natCast,zAk,List.take_length] at wp
  refine ⟨_,rfl,(by show 2≤sizeLine; decide),fun tt htt=>?_⟩
  have st:=zAe htt (.tup [.ref p,.non])
  exact q tt p P _ (sH.trans st) zAc (ep.same st) wp cp
def zE5 (K:PySem.W.Frag):Sp:=fun vs H Q _=>∃ (l:Addr) (ss:List Sd),vs = [.ref l]∧SqL K H l (zAm ss)∧SdOk H ss∧ss.length≤900 ∧
 (∀ H':Hp,Same H H'→(∀ z:P3,0 < z.2.2→¬ inW ss z)→Q .non H') ∧
 ∀ (p:Addr) (P:P3) (H':Hp),Same H H'→SpAt H' p P→inW ss P→Cand ss P→Q (.ref p) H'
theorem zK7 (F:Fun K "some_spot" "some_spot" zD1 f fd) (Z:Zs mg) (h_p_sought:Has P w K mg base "sought" 8 ["sides"] (zHj K)):FnOk P w K mg base CX0 9 f fd ["sides"] (zE5 K):=by
 refine F.ok zLf (fun vs H Q E h=>?_) (fun cdv A outer s H vs Q E hr h=>?_)
 ·obtain ⟨l,ss,rfl,_⟩:=h
  rfl
 obtain ⟨l,ss,rfl,hl,ok,hlen,qn,q⟩:=h
 refine ⟨_,(zAi (zAr (zAn zAg (zAh h_p_sought (hr.mono (by decide)) rfl (zAa (pv 0) zAd)) zAb (fun _ _=>rfl)))),?_⟩
 refine ⟨_,rfl,l,ss,rfl,hl,ok,hlen,fun t j e P H' sH et st=>?_,fun t p P H' sH et ep wp cp=>?_⟩
 ·exact ⟨t,_,_,.non,rfl,rfl,.inr (SqT.of et),rfl,qn H' sH st.none⟩
 ·exact ⟨t,_,_,.ref p,rfl,rfl,.inr (SqT.of et),rfl,q p P H' sH ep wp cp⟩
def zHo (K:PySem.W.Frag):Sp:=fun vs H Q _=>∃ (l d:Addr) (ss:List Sd) (x y:Int),vs = [.ref l,.ref d]∧SqL K H l (zAm ss)∧SdOk H ss∧Sq K H d [.int x,.int y]∧Q (.bl (wayB ss x y)) H
theorem zOl (F:Fun K "is_way" "is_way" zGx f fd) (Z:Zs mg) (h_p_along:Has P w K mg base "along" 1 ["one", "other"] (zEe K)):FnOk P w K mg base CX0 2 f fd ["sides", "direction"] (zHo K):=by
 refine F.ok zKr (fun vs H Q E h=>?_) (fun cdv A outer s H vs Q E hr h=>?_)
 ·obtain ⟨l,d,ss,x,y,rfl,_⟩:=h
  rfl
 obtain ⟨l,d,ss,x,y,rfl,hl,ok,hd,q⟩:=h
 refine ⟨_,(zAf (zCz PassesOwn.never rfl (zCc (pv 0)) (zAq (i:=2) zKr.nd rfl (Or.inl rfl)) (zAi (zA8 (zAu zI6 (zAh h_p_along (hr.mono (by decide)) rfl (zAa (pv 2) (zAa (pv 1) zAd))) zAb (zAz _)) (zAi (zAr zE3)) zAx)))
   (zAi (zAr zE3))),?_⟩
 refine ⟨_,rfl,l,rfl,.inl ⟨⟨_,hl⟩,zCt (K:=K) (a:=l) (xs:=zAm ss) (fun i σ H'=>H' = H∧(∀ j t,j < i→ss[j]? = some t→t.2.1 * x + t.2.2.1 * y≤0)∧∃ u2:Option V,σ = [some (.ref l),some (.ref d),u2])
  ⟨rfl,fun j t hj=>absurd hj (Nat.not_lt_zero _),none,rfl⟩ (fun i σ H' _ ⟨e,_⟩=>by rw [e]; exact hl) ?_ ?_⟩⟩
 ·rintro i v σ H' hi ⟨rfl,hall,u2,rfl⟩
  obtain ⟨t,gt,rfl,hil⟩:=zBu hi
  obtain ⟨et,_,b1,b2,_⟩:=ok t (List.mem_of_getElem? gt)
  refine ⟨_,rfl,_,rfl,t.1,d,_,_,t.2.1,t.2.2.1,x,y,rfl,.inr (SqT.of et),hd,rfl,rfl,rfl,rfl,by omega,by omega,_,_,rfl,rfl,_,rfl,?_⟩
  refine ifD (fun hpos=>?_) (fun hneg=>?_)
  ·have e:wayB ss x y = false:=by
    unfold wayB
    rw [Bool.eq_false_iff]
    intro z
    have z2:=of_decide_eq_true (List.all_eq_true.mp z t (List.mem_of_getElem? gt))
    omega
   rw [e] at q
   exact q
  ·refine ⟨rfl,fun j t' hj ht'=>?_,_,rfl⟩
   by_cases e:j = i
   ·rw [e,gt] at ht'
    cases ht'
    omega
   ·exact hall j t' (by omega) ht'
 ·rintro σ H' ⟨rfl,hall,u2,rfl⟩
  have e:wayB ss x y = true:=by
   unfold wayB
   rw [List.all_eq_true]
   intro t ht
   obtain ⟨j,hj,ej⟩:=List.getElem_of_mem ht
   exact decide_eq_true (hall j t (by rw [zAk]; exact hj) (by rw [List.getElem?_eq_getElem hj,ej]))
  rw [e] at q
  exact q
def zM7 (K:PySem.W.Frag):Sp:=fun vs H Q _=>∃ (l:Addr) (ss:List Sd),vs = [.ref l]∧SqL K H l (zAm ss)∧SdOk H ss∧ss.length≤400 ∧
 ∀ (p:Addr) (us:List (Addr × List Int)) (H':Hp),Same H H'→H p = none→WaysAt H' p ss us→Q (.ref p) H'
theorem zQ0 (F:Fun K "ways" "ways" zJr f fd) (Z:Zs mg) (h_p_is_way:Has P w K mg base "is_way" 2 ["sides", "direction"] (zHo K)) (h_p_plain:Has P w K mg base "plain" 3 ["direction"] (zIm K)):FnOk P w K mg base CX0 4 f fd ["sides"] (zM7 K):=by
 refine F.ok zHx (fun vs H Q E h=>?_) (fun cdv A outer s H vs Q E hr h=>?_)
 ·obtain ⟨l,ss,rfl,_⟩:=h
  rfl
 obtain ⟨l,ss,rfl,hl,ok,h31,q⟩:=h
 have nz:∀ t∈ss,t.2.1≠0∨t.2.2.1≠0:=fun t ht=>(ok t ht).2.1
 have hu1:=Nat.lt_of_le_of_lt (Nat.add_le_add_left (show 1≤64 by decide) _) hr.units
 refine ⟨_,(zAf (zAw (i:=1) zHx.nd rfl (Or.inl rfl) zO8)
   (zAf (zCz PassesOwn.never rfl (zCc (pv 0)) (zAq (i:=2) zHx.nd rfl (Or.inl rfl)) (zAi (zCz PassesOwn.never rfl (zMc (zBo (zAa (zA0 (zAa (zB6 zBc (zAn zAg (pv 2) zAb (fun _ _=>rfl))) (zAa (zAn zAg (pv 2) zAb (fun _ _=>rfl)) zAd))) (zAa (zA0 (zAa (zAn zAg (pv 2) zAb (fun _ _=>rfl)) (zAa (zB6 zBc (zAn zAg (pv 2) zAb (fun _ _=>rfl))) zAd))) zAd)))) (zAq (i:=3) zHx.nd rfl (Or.inl rfl)) (zAi (zA8 (zCv (zAh h_p_is_way (hr.mono (by decide)) rfl (zAa (pv 0) (zAa (pv 3) zAd)))) (zAi (zQ3 hu1 (pv 1) (zAh h_p_plain (hr.mono (by decide)) rfl (zAa (pv 3) zAd)) zE3 rfl)) zAx)))))
   (zAi (zAr (zAv zNt rfl Z.sorted zJy (zAa (zGo (zIu rfl) rfl Z.list zGn (zAa (pv 1) zAd)) zAd)))))),?_⟩
 refine fun d hd=>?_
 have two:∀ k,WK ss ss.length k→k.length = 1 + 1:=fun k ⟨_,t,_,_,h⟩=>by
  rcases h with ⟨e,_⟩ | ⟨e,_⟩ <;> rw [e] <;> rfl
 refine ⟨_,rfl,l,rfl,.inl ⟨⟨_,(zAe hd _).seq hl⟩,zCt (K:=K) (a:=l) (xs:=zAm ss) (fun i σ H'=>Same H H'∧(∃ kvs ks,H' d = some (.dT kvs)∧TabK kvs ks∧ks.length≤2 * i∧∀ k,k∈ks↔WK ss i k)∧∃ u2 u3:Option V,σ = [some (.ref l),some (.ref d),u2,u3])
  ⟨zAe hd _,⟨[],[],zAc,.nil,Nat.le_refl _,fun k=>⟨(fun z=>nomatch z),fun z=>absurd z (zWc ss k)⟩⟩,none,none,rfl⟩ (fun i σ H' _ ⟨e,_⟩=>e.seq hl) ?_ ?_⟩⟩
 ·rintro i v σ H' hi ⟨sH,⟨kvs,ks,eD,tk,hks,mem⟩,u2,u3,rfl⟩
  obtain ⟨t,gt,rfl,hil⟩:=zBu hi
  obtain ⟨et0,nt,b1,b2,_⟩:=ok t (List.mem_of_getElem? gt)
  have et:=sH _ _ et0
  have st:Sq K H' t.1 [.int t.2.1,.int t.2.2.1,.int t.2.2.2]:=.inr (SqT.of et)
  refine ⟨_,rfl,t.1,_,_,.int t.2.2.1,rfl,rfl,st,rfl,_,rfl,_,rfl,t.1,_,_,.int t.2.1,rfl,rfl,st,rfl,(by show 2≤sizeLine; decide),fun p1 hp1=>?_⟩
  have sp1:Same H' (upd H' p1 (.tup [.int (-t.2.2.1),.int t.2.1])):=zAe hp1 _
  have ep1:upd H' p1 (.tup [.int (-t.2.2.1),.int t.2.1]) p1 = some (.tup [.int (-t.2.2.1),.int t.2.1]):=zAc
  generalize upd H' p1 (.tup [.int (-t.2.2.1),.int t.2.1]) = G1 at sp1 ep1 ⊢
  have st1:=st.same sp1
  refine ⟨_,rfl,t.1,_,_,.int t.2.2.1,rfl,rfl,st1,rfl,_,rfl,t.1,_,_,.int t.2.1,rfl,rfl,st1,rfl,_,rfl,(by show 2≤sizeLine; decide),fun p2 hp2=>?_⟩
  have sp2:Same G1 (upd G1 p2 (.tup [.int t.2.2.1,.int (-t.2.1)])):=zAe hp2 _
  have ep2:upd G1 p2 (.tup [.int t.2.2.1,.int (-t.2.1)]) p2 = some (.tup [.int t.2.2.1,.int (-t.2.1)]):=zAc
  generalize upd G1 p2 (.tup [.int t.2.2.1,.int (-t.2.1)]) = G2 at sp2 ep2 ⊢
  refine ⟨(by show 2≤sizeLine; decide),fun pl hpl=>?_⟩
  have spl:Same G2 (upd G2 pl (.lst [.ref p1,.ref p2])):=zAe hpl _
  have epl:upd G2 pl (.lst [.ref p1,.ref p2]) pl = some (.lst [.ref p1,.ref p2]):=zAc
  have sAll:=(sp1.trans sp2).trans spl
  have ep1':=spl _ _ (sp2 _ _ ep1)
  have ep2':=spl _ _ ep2
  have eD':=sAll _ _ eD
  generalize upd G2 pl (.lst [.ref p1,.ref p2]) = G3 at spl epl sAll ep1' ep2' eD' ⊢
  have npl:pl≠d:=fun z=>by rw [z] at epl; rw [epl] at eD'; cases eD'
  refine ⟨pl,rfl,⟨_,SqL.of epl⟩,zCt (K:=K) (a:=pl) (xs:=[.ref p1,.ref p2]) (fun j σ H'=>Same H H'∧H' pl = some (.lst [.ref p1,.ref p2])∧H' p1 = some (.tup [.int (-t.2.2.1),.int t.2.1])∧H' p2 = some (.tup [.int t.2.2.1,.int (-t.2.1)]) ∧
    (∃ kvs ks,H' d = some (.dT kvs)∧TabK kvs ks∧ks.length≤2 * i + j∧∀ k,k∈ks↔WK ss i k∨(0 < j∧k = lowL [-t.2.2.1,t.2.1]∧wayB ss (-t.2.2.1) t.2.1 = true)∨(1 < j∧k = lowL [t.2.2.1,-t.2.1]∧wayB ss t.2.2.1 (-t.2.1) = true))∧∃ u3:Option V,σ = [some (.ref l),some (.ref d),some (.ref t.1),u3])
   ⟨sH.trans sAll,epl,ep1',ep2',⟨kvs,ks,eD',tk,by omega,fun k=>(mem k).trans ⟨.inl,fun z=>by
    rcases z with z | ⟨z,_⟩ | ⟨z,_⟩
    ·exact z
    ·exact absurd z (Nat.not_lt_zero _)
    ·exact absurd z (Nat.not_lt_zero _)⟩⟩,_,rfl⟩ (fun i σ H' _ ⟨_,e,_⟩=>SqL.of e) ?_ ?_⟩
  ·rintro j v σ H4 hj ⟨s4,e4l,e41,e42,⟨kvs,ks,eD4,tk,hks4,mem⟩,u3,rfl⟩
   have hj2:j < 2:=(List.getElem?_eq_some_iff.mp hj).1
   obtain ⟨pj,X,Y,rfl,epj,hXY,hn,bX,bY⟩:∃ (pj:Addr) (X Y:Int),v = .ref pj∧H4 pj = some (.tup [.int X,.int Y])∧((j = 0∧X = -t.2.2.1∧Y = t.2.1)∨(j = 1∧X = t.2.2.1∧Y = -t.2.1))∧(X≠0∨Y≠0)∧X.natAbs≤10 ^ 9∧Y.natAbs≤10 ^ 9:=by
    match j,hj with
    | 0,h=>cases h; exact ⟨p1,_,_,rfl,e41,.inl ⟨rfl,rfl,rfl⟩,by omega,by omega,by omega⟩
    | 1,h=>cases h; exact ⟨p2,_,_,rfl,e42,.inr ⟨rfl,rfl,rfl⟩,by omega,by omega,by omega⟩
   have step:∀ k,(k = lowL [X,Y]∧wayB ss X Y = true)∨(WK ss i k∨(0 < j∧k = lowL [-t.2.2.1,t.2.1]∧wayB ss (-t.2.2.1) t.2.1 = true)∨(1 < j∧k = lowL [t.2.2.1,-t.2.1]∧wayB ss t.2.2.1 (-t.2.1) = true)) ↔
     WK ss i k∨(0 < j + 1∧k = lowL [-t.2.2.1,t.2.1]∧wayB ss (-t.2.2.1) t.2.1 = true)∨(1 < j + 1∧k = lowL [t.2.2.1,-t.2.1]∧wayB ss t.2.2.1 (-t.2.1) = true):=fun k=>by
    rcases hXY with ⟨rfl,rfl,rfl⟩ | ⟨rfl,rfl,rfl⟩
    ·constructor
     ·rintro (h | h | h | h)
      ·exact .inr (.inl ⟨by decide,h⟩)
      ·exact .inl h
      ·exact absurd h.1 (by decide)
      ·exact absurd h.1 (by decide)
     ·rintro (h | h | h)
      ·exact .inr (.inl h)
      ·exact .inl h.2
      ·exact absurd h.1 (by decide)
    ·constructor
     ·rintro (h | h | h | h)
      ·exact .inr (.inr ⟨by decide,h⟩)
      ·exact .inl h
      ·exact .inr (.inl ⟨by decide,h.2⟩)
      ·exact absurd h.1 (by decide)
     ·rintro (h | h | h)
      ·exact .inr (.inl h)
      ·exact .inr (.inr (.inl ⟨by decide,h.2⟩))
      ·exact .inl h.2
   obtain ⟨gp,g6⟩:=gcd2 hn bX bY
   refine ⟨_,rfl,_,rfl,l,pj,ss,X,Y,rfl,s4.seq hl,ok.same s4,.inr (SqT.of epj),_,rfl,?_⟩
   by_cases hw:wayB ss X Y = true
   ·rw [hw]
    refine iteT ?_
    refine ⟨_,rfl,_,rfl,pj,[X,Y],rfl,.inr (SqT.of epj),by show 2≤1000; decide,gp,g6,fun pk G5 s5 hpk epk=>?_⟩
    have eD5:=s5 _ _ eD4
    obtain ⟨ks',tk',mem',len'⟩:=tk.put (lowL [X,Y]) (.bl true)
    have kl:=tk.len
    refine ⟨d,_,rfl,DPut.t eD5 (by rw [zKg]; exact epk) (by rw [kl]; exact Nat.lt_of_le_of_lt (Nat.le_trans hks4 (show 2 * i + j≤1000 by omega)) (by decide)),?_⟩
    have keepT:∀ (b:Addr) (xs:List V),G5 b = some (.tup xs)→upd G5 d (.dT (putK kvs (keyI (lowL [X,Y])) (.bl true))) b = some (.tup xs):=fun b xs e=>by
     rw [zA5 (zIb e eD5 (by intro z; cases z))]
     exact e
    refine ⟨(s4.trans s5).putNew hd,?_,keepT _ _ (s5 _ _ e41),keepT _ _ (s5 _ _ e42),⟨_,ks',zAc,tk',by omega,fun k=>?_⟩,_,rfl⟩
    ·rw [zA5 npl]
     exact s5 _ _ e4l
    ·rw [mem' k,← step k,← mem k]
     constructor
     ·rintro (h | h)
      ·exact .inr h
      ·exact .inl ⟨h,hw⟩
     ·rintro (h | h)
      ·exact .inr h.1
      ·exact .inl h
   ·have hw':wayB ss X Y = false:=by simpa using hw
    rw [hw']
    refine iteF ?_
    refine ⟨s4,e4l,e41,e42,⟨kvs,ks,eD4,tk,by omega,fun k=>?_⟩,_,rfl⟩
    rw [mem k,← step k]
    constructor
    ·exact .inr
    ·rintro (h | h)
     ·exact absurd h.2 hw
     ·exact h
  ·rintro σ H4 ⟨s4,_,_,_,⟨kvs,ks,eD4,tk,hks4,mem⟩,u3,rfl⟩
   refine ⟨s4,⟨kvs,ks,eD4,tk,by show ks.length≤2 * (i + 1); have:ks.length≤2 * i + 2:=hks4; omega,fun k=>?_⟩,_,_,rfl⟩
   rw [mem k,zVn gt]
   constructor
   ·rintro (h | h | h)
    ·exact .inl h
    ·exact .inr (.inl h.2)
    ·exact .inr (.inr h.2)
   ·rintro (h | h | h)
    ·exact .inl h
    ·exact .inr (.inl ⟨by show 0 < 2; decide,h⟩)
    ·exact .inr (.inr ⟨by show 1 < 2; decide,h⟩)
 ·rintro σ H' ⟨sH,⟨kvs,ks,eD,tk,hks,mem⟩,u2,u3,rfl⟩
  rw [zAk] at hks mem
  refine ⟨_,rfl,d,kvs,rfl,eD,fun p1 ts hp1 ets hts=>?_⟩
  have sp1:=zAe hp1 (.lst ((ts.map (·.1)).map V.ref))
  obtain ⟨us,u1,u2,u3⟩:=tk.refs ets hts
  have few2:=zT9 nz tk.nodup fun k hk=>(mem k).mp hk
  refine ⟨p1,us,1,rfl,by rw [u1]; exact SqL.of zAc,by have z:=congrArg List.length u2; rw [List.length_map] at z; omega,fun t ht=>⟨sp1 _ _ (u3 t ht),?_⟩,fun p2 us2 hp2 pm ri=>?_⟩
  ·have z:t.2∈ks:=by rw [← u2]; exact List.mem_map_of_mem ht
   exact two t.2 ((mem _).mp z)
  have sp2:=zAe hp2 (.lst ((us2.map (·.1)).map V.ref))
  have pm2:(us2.map (·.2)).Perm ks:=by rw [← u2]; exact pm.map _
  refine q p2 us2 _ (((sH).trans sp1).trans sp2) ((sH).free (sp1.free hp2)) ⟨zAc,fun u hu=>sp2 _ _ (sp1 _ _ (u3 u (pm.mem_iff.mp hu))),List.pairwise_map.mpr ri,pm2.nodup_iff.mpr tk.nodup,fun k=>(pm2.mem_iff).trans (mem k),by have z:=pm2.length_eq; rw [List.length_map] at z; omega⟩
def zJ9 (K:PySem.W.Frag):Sp:=fun vs H Q _=>∃ (a:Addr) (us:List V) (x y:Int),vs = [.ref a]∧Sq K H a us∧atI us 0 = some (.int x)∧atI us 1 = some (.int y)∧Q (.int (zBx x y)) H
theorem zRj (F:Fun K "span" "span" zJv f fd) (Z:Zs mg)  : FnOk P w K mg base CX0 1 f fd ["direction"] (zJ9 K):=by
 refine F.ok zSf (fun vs H Q E h=>?_) (fun cdv A outer s H vs Q E hr h=>?_)
 ·obtain ⟨a,us,x,y,rfl,_⟩:=h
  rfl
 obtain ⟨a,us,x,y,rfl,ha,h0,h1,q⟩:=h
 refine ⟨_,(zAi (zAr (zAl zBd (zAv zC5 rfl Z.abs zFd (zAa (zAn zAg (pv 0) zAb (fun _ _=>rfl)) zAd)) (zAv zC5 rfl Z.abs zFd (zAa (zAn zAg (pv 0) zAb (fun _ _=>rfl)) zAd))))),?_⟩
 exact ⟨_,rfl,a,_,_,.int x,rfl,rfl,ha,h0,_,rfl,_,rfl,a,_,_,.int y,rfl,rfl,ha,h1,_,rfl,_,_,rfl,rfl,q⟩
def zGu (K:PySem.W.Frag):Sp:=fun vs H Q _=>∃ (a b:Addr) (ns ws:List Int),vs = [.ref a,.ref b]∧SqL K H a (ns.map V.int)∧SqL K H b (ws.map V.int)∧ns.length = ws.length∧ws.length≤900∧0 < gcdL ws∧(gcdL ws:Int) < 10 ^ 600 ∧
 ∀ (D:Addr) (cs:List Pr) (H':Hp),Same H H'→H D = none→H' D = some (.lst (zAo cs))→PrAt H' cs→cs.map (·.2) = ns.zip (lowL ws)→Q (.ref D) H'
theorem zM8 (F:Fun K "weighed" "weighed" zFr f fd) (Z:Zs mg) (h_p_lowest:Has P w K mg base "lowest" 2 ["numbers"] (zCx K)):FnOk P w K mg base CX0 3 f fd ["numbers", "weights"] (zGu K):=by
 refine F.ok zIq (fun vs H Q E h=>?_) (fun cdv A outer s H vs Q E hr h=>?_)
 ·obtain ⟨a,b,ns,ws,rfl,_⟩:=h
  rfl
 obtain ⟨a,b,ns,ws,rfl,ha,hb,hn,hl,hg,hg2,q⟩:=h
 refine ⟨_,(zAf (zAw (i:=2) zIq.nd rfl (Or.inr rfl) (zAh h_p_lowest (hr.mono (by decide)) rfl (zAa (pv 1) zAd)))
   (zAi (zAr (zC0 (T:=["at"]) (caps:=[("least", 2),("numbers", 0)]) ⟨rfl,by decide +kernel,by decide +kernel,rfl,⟨⟨rfl,rfl,Or.inl rfl⟩,⟨rfl,rfl,Or.inl rfl⟩,True.intro⟩⟩ rfl (zC7 rfl Z.range (zAa (zAv zA1 rfl Z.len zB9 (zAa (pv 0) zAd)) zAd)) (fun _=>(zAq (i:=0) (show (["at", "least", "numbers"]:List Str).Nodup by decide +kernel) rfl (Or.inl rfl))) (fun _=>zBl) (fun _=>(zA0 (zAa (zAn zAg (pv 2) (pv 0) (fun _ _=>rfl)) (zAa (zAn zAg (pv 1) (pv 0) (fun _ _=>rfl)) zAd)))))))),?_⟩
 refine ⟨_,rfl,b,ws,rfl,.inl hb,by omega,hg,hg2,fun p H1 s1 hp ep=>?_⟩
 have hlow:(lowL ws).length = ws.length:=by unfold lowL; rw [List.length_map]
 have ha1:=s1.seq ha
 refine ⟨_,rfl,a,_,rfl,.inl ha1,_,rfl,(by rw [List.length_map]; omega),(by rw [List.length_map]; omega),fun cc D hD=>zHl (lo:=0) (n:=(((ns.map V.int).length:Nat):Int).toNat) (fun i σ ys G=>Same H1 G∧G D = some (.lst ys)∧(∃ cs:List Pr,ys = zAo cs∧PrAt G cs∧cs.map (·.2) = (ns.zip (lowL ws)).take i)∧∃ u0:Option V,σ = [u0,some (.ref p),some (.ref a)])
  ⟨zAe hD _,zAc,⟨[],rfl,(fun t ht=>nomatch ht),rfl⟩,none,rfl⟩ (fun i σ ys G _ ⟨_,e,_⟩=>e) ?_ ?_⟩
 ·rintro i σ ys G hi ⟨sG,eD,⟨cs,rfl,okc,mc⟩,u0,rfl⟩
  rw [Int.toNat_natCast,List.length_map] at hi
  have lc:cs.length≤i:=by
   have z:=congrArg List.length mc
   rw [List.length_map,List.length_take] at z
   omega
  obtain ⟨n,gn,an⟩:=zR3 (ns:=ns) (i:=i) (k:=0 + (i:Int)) (by omega) hi
  obtain ⟨m,gm,am⟩:=zR3 (ns:=lowL ws) (i:=i) (k:=0 + (i:Int)) (by omega) (by omega)
  refine ⟨_,rfl,_,rfl,a,_,_,_,rfl,rfl,.inl (sG.seq ha1),an,_,rfl,_,rfl,p,_,_,_,rfl,rfl,.inr (SqT.of (sG _ _ ep)),am,(by show 2≤sizeLine; decide),fun t ht=>?_⟩
  have st:=zAe ht (.tup [.int n,.int m])
  have ntD:t≠D:=fun z=>by rw [z,eD] at ht; cases ht
  refine ⟨st _ _ eD,zA3 (by rw [zAt]; omega),(sG.trans st).putNew hD,zAc,⟨cs ++ [(t,n,m)],by simp [zAo],fun u hu=>?_,?_⟩,_,rfl⟩
  ·rcases List.mem_append.mp hu with hu | hu
   ·rw [zA5 (zIb (st _ _ (okc u hu)) (st _ _ eD) (by intro z; cases z))]
    exact st _ _ (okc u hu)
   ·rw [List.mem_singleton] at hu
    subst hu
    show upd _ D _ t = _
    rw [zA5 ntD]
    exact zAc
  ·rw [List.map_append,mc,zB1 (x:=(n,m)) (by rw [List.getElem?_zip_eq_some]; exact ⟨gn,gm⟩)]
   rfl
 ·rintro σ ys G ⟨sG,eD,⟨cs,rfl,okc,mc⟩,u0,rfl⟩
  rw [Int.toNat_natCast,List.length_map,List.take_of_length_le (by rw [List.length_zip]; omega)] at mc
  exact q D cs G (s1.trans sG) (s1.free hD) eD okc mc
theorem zQw {a b c d:Int} (ha:a.natAbs≤10 ^ 9) (hb:b.natAbs≤10 ^ 9) (hc:c.natAbs≤10 ^ 9) (hd:d.natAbs≤10 ^ 9):absI (a * b - c * d)≤10 ^ 19:=by
 have z1:=zAj a b ha hb
 have z2:=zAj c d hc hd
 unfold absI
 split <;> omega
def zEr (K:PySem.W.Frag):Sp:=fun vs H Q _=>∃ (l:Addr) (ss:List Sd) (j:Nat) (e:Sd) (P:P3),vs = [.ref l,.int j]∧SqL K H l (zAm ss)∧SdOk H ss∧ss.length≤900∧zTu ss j e P∧(∀ t∈ss.take j,tn e.2 t.2 = 0→sv t.2 (pt3 (ftL e.2))≤0) ∧
 ∀ (D:Addr) (cs:List Pr) (H':Hp),Same H H'→H D = none→H' D = some (.lst (zAo cs))→PrAt H' cs→zG7 ss (cs.map (·.2))→Q (.ref D) H'
theorem zHh (F:Fun K "clash_of_three" "clash_of_three" zCp f fd) (Z:Zs mg) (h_p_weighed:Has P w K mg base "weighed" 3 ["numbers", "weights"] (zGu K)) (h_p_turn:Has P w K mg base "turn" 1 ["one", "other"] (zDe K)) (h_p_edge_end:Has P w K mg base "edge_end" 5 ["sides", "edge", "hand"] (zEa K)):FnOk P w K mg base CX0 6 f fd ["sides", "last"] (zEr K):=by
 refine F.ok zBh (fun vs H Q E h=>?_) (fun cdv A outer s H vs Q E hr h=>?_)
 ·obtain ⟨l,ss,j,e,P,rfl,_⟩:=h
  rfl
 obtain ⟨l,ss,j,e,P,rfl,hl,ok,hlen,st,bes,q⟩:=h
 have hj:j < ss.length:=(List.getElem?_eq_some_iff.mp st.at').1
 obtain ⟨e',me,ge,at'⟩:=zBg (ss:=ss) (i:=j) (k:=(j:Int)) rfl hj
 rw [st.at'] at ge
 cases ge
 obtain ⟨ee,ne,c1,c2,c3⟩:=ok e me
 have hN:=zEy ne
 obtain ⟨sf,f1⟩:=zR0 ne
 refine ⟨_,(zAf (zAw (i:=2) zBh.nd rfl (Or.inl rfl) (zAn zAg (pv 0) (pv 1) (fun _ _=>rfl)))
   (zAf (zAw (i:=3) zBh.nd rfl (Or.inl rfl) (zAv zMx rfl Z.sorted zJy (zAa (zBo (zAa (zAh h_p_edge_end (hr.mono (by decide)) rfl (zAa (zBy zCy (pv 0) zCn (zCo (pv 1))) (zAa (pv 2) (zAa (zB6 zBc zAb) zAd)))) (zAa (zAh h_p_edge_end (hr.mono (by decide)) rfl (zAa (zBy zCy (pv 0) zCn (zCo (pv 1))) (zAa (pv 2) (zAa zAb zAd)))) zAd))) zAd)))
   (zAf (zAw (i:=4) zBh.nd rfl (Or.inl rfl) (zAn zAg (pv 0) (zAn zAg (pv 3) zAb (fun _ _=>rfl)) (fun _ _=>rfl)))
   (zAf (zAw (i:=5) zBh.nd rfl (Or.inl rfl) (zAn zAg (pv 0) (zAn zAg (pv 3) zAb (fun _ _=>rfl)) (fun _ _=>rfl)))
   (zAf (zAw (i:=6) zBh.nd rfl (Or.inl rfl) (zBo (zAa (zAv zC5 rfl Z.abs zFd (zAa (zAh h_p_turn (hr.mono (by decide)) rfl (zAa (pv 5) (zAa (pv 2) zAd))) zAd)) (zAa (zAv zC5 rfl Z.abs zFd (zAa (zAh h_p_turn (hr.mono (by decide)) rfl (zAa (pv 2) (zAa (pv 4) zAd))) zAd)) (zAa (zAv zC5 rfl Z.abs zFd (zAa (zAh h_p_turn (hr.mono (by decide)) rfl (zAa (pv 4) (zAa (pv 5) zAd))) zAd)) zAd)))))
   (zAi (zAr (zAh h_p_weighed (hr.mono (by decide)) rfl (zAa (zAl zEv (pv 3) (zBo (zAa (pv 1) zAd))) (zAa (pv 6) zAd)))))))))),?_⟩
 refine ⟨_,rfl,_,rfl,l,_,_,_,rfl,rfl,.inl hl,at',?_⟩
 refine ⟨_,rfl,_,rfl,_,rfl,l,_,rfl,hl,fun c hc=>?_⟩
 rw [zKa]
 have sc:=zAe hc (.lst (zAm (ss.take j)))
 have ec:upd H c (.lst (zAm (ss.take j))) c = some (.lst (zAm (ss.take j))):=zAc
 generalize upd H c (.lst (zAm (ss.take j))) = H1 at sc ec ⊢
 refine ⟨_,rfl,_,rfl,c,e.1,ss.take j,e.2,-1,rfl,SqL.of ec,(fun u hu=>ok.same sc u (List.mem_of_mem_take hu)),by rw [List.length_take]; omega,.inr (SqT.of (sc _ _ ee)),ne,c1,c2,c3,.inr rfl,fun r1 H2 s2 k1=>?_⟩
 have sH2:=sc.trans s2
 refine ⟨_,rfl,_,rfl,_,rfl,l,_,rfl,sH2.seq hl,fun d hd=>?_⟩
 rw [zKa]
 have sd:=zAe hd (.lst (zAm (ss.take j)))
 have ed:upd H2 d (.lst (zAm (ss.take j))) d = some (.lst (zAm (ss.take j))):=zAc
 generalize upd H2 d (.lst (zAm (ss.take j))) = H3 at sd ed ⊢
 have sH3:=sH2.trans sd
 refine ⟨_,rfl,d,e.1,ss.take j,e.2,1,rfl,SqL.of ed,(fun u hu=>ok.same sH3 u (List.mem_of_mem_take hu)),by rw [List.length_take]; omega,.inr (SqT.of (sH3 _ _ ee)),ne,c1,c2,c3,.inl rfl,fun r2 H4 s4 k2=>?_⟩
 have sH4:=sH3.trans s4
 obtain ⟨i1,rfl⟩:∃ i1,r1 = some i1:=by
  cases r1 with
  | some i1=>exact ⟨i1,rfl⟩
  | none=>exact (zOw (h:=-1) (by decide) hN f1 sf.pos st.no bes k1 (show zI4 (ss.take j) e.2 (- -1) r2 from k2)).elim
 obtain ⟨i2,rfl⟩:∃ i2,r2 = some i2:=by
  cases r2 with
  | some i2=>exact ⟨i2,rfl⟩
  | none=>exact (zOw (h:=1) (by decide) hN f1 sf.pos st.no bes k2 k1).elim
 obtain ⟨a,ga,ha,ta⟩:=k1
 obtain ⟨b,gb,hb,tb⟩:=k2
 refine ⟨(by show 2≤sizeLine; decide),fun nl hnl=>?_⟩
 have snl:Same H4 (upd H4 nl (.lst [optV (some i1),optV (some i2)])):=zAe hnl _
 have enl:upd H4 nl (.lst [optV (some i1),optV (some i2)]) nl = some (.lst ([(i1:Int),(i2:Int)].map V.int)):=zAc
 generalize upd H4 nl (.lst [optV (some i1),optV (some i2)]) = H5 at snl enl ⊢
 have sH5:=sH4.trans snl
 refine ⟨nl,[(i1:Int),(i2:Int)],rfl,SqL.of enl,(by show 2 < 64; decide),fun sn ms hsn pm pw=>?_⟩
 have di:i1≠i2:=fun z=>by
  rw [z,gb] at ga
  cases ga
  omega
 obtain ⟨x,y,s1,t1,h,rfl,hxy,gx,gy,h1,hs1,ht1,as1,at1⟩:∃ (x y:Nat) (s1 t1:Sd) (h:Int),ms = [(x:Int),(y:Int)]∧x < y∧(ss.take j)[x]? = some s1∧(ss.take j)[y]? = some t1∧(h = 1∨h = -1)∧0 < tn e.2 s1.2 * h∧0 < tn e.2 t1.2 * -h ∧
   (∀ u∈ss.take j,0 < tn e.2 u.2 * h→sv u.2 (pt3 (crL e.2 s1.2))≤0)∧(∀ u∈ss.take j,0 < tn e.2 u.2 * -h→sv u.2 (pt3 (crL e.2 t1.2))≤0):=by
  rcases zQr pm pw with ⟨rfl,le⟩ | ⟨rfl,le⟩
  ·exact ⟨i1,i2,a,b,-1,rfl,by omega,ga,gb,.inr rfl,ha,hb,ta,tb⟩
  ·exact ⟨i2,i1,b,a,1,rfl,by omega,gb,ga,.inl rfl,hb,ha,tb,ta⟩
 have hh:h * h = 1:=by rcases h1 with rfl | rfl <;> rfl
 obtain ⟨A1,A2,A3,A4⟩:=three hh hN f1 sf.pos st.no bes (List.mem_of_getElem? gx) (List.mem_of_getElem? gy) hs1 ht1 as1 at1 st.pos st.ahead st.out
 have gx':ss[x]? = some s1∧x < j:=by
  rw [List.getElem?_take] at gx
  split at gx
  ·exact ⟨gx,by omega⟩
  ·cases gx
 have gy':ss[y]? = some t1∧y < j:=by
  rw [List.getElem?_take] at gy
  split at gy
  ·exact ⟨gy,by omega⟩
  ·cases gy
 obtain ⟨_,mx,gx2,atx⟩:=zBg (ss:=ss) (i:=x) (k:=(x:Int)) rfl (by omega)
 rw [gx'.1] at gx2
 cases gx2
 obtain ⟨_,my,gy2,aty⟩:=zBg (ss:=ss) (i:=y) (k:=(y:Int)) rfl (by omega)
 rw [gy'.1] at gy2
 cases gy2
 obtain ⟨es,ns,d1,d2,d3⟩:=ok s1 mx
 obtain ⟨et,nt,g1,g2,g3⟩:=ok t1 my
 have ssn:Same H5 (upd H5 sn (.lst ([(x:Int),(y:Int)].map V.int))):=zAe hsn _
 have esn:upd H5 sn (.lst ([(x:Int),(y:Int)].map V.int)) sn = some (.lst ([(x:Int),(y:Int)].map V.int)):=zAc
 generalize upd H5 sn (.lst ([(x:Int),(y:Int)].map V.int)) = H6 at ssn esn ⊢
 have sH6:=sH5.trans ssn
 have hl6:Sq K H6 l (zAm ss):=.inl (sH6.seq hl)
 have ee6:Sq K H6 e.1 [.int e.2.1,.int e.2.2.1,.int e.2.2.2]:=.inr (SqT.of (sH6 _ _ ee))
 have es6:Sq K H6 s1.1 [.int s1.2.1,.int s1.2.2.1,.int s1.2.2.2]:=.inr (SqT.of (sH6 _ _ es))
 have et6:Sq K H6 t1.1 [.int t1.2.1,.int t1.2.2.1,.int t1.2.2.2]:=.inr (SqT.of (sH6 _ _ et))
 refine ⟨_,rfl,_,rfl,sn,_,_,.int (x:Int),rfl,rfl,.inl (SqL.of esn),rfl,l,_,_,_,rfl,rfl,hl6,atx,?_⟩
 refine ⟨_,rfl,_,rfl,sn,_,_,.int (y:Int),rfl,rfl,.inl (SqL.of esn),rfl,l,_,_,_,rfl,rfl,hl6,aty,?_⟩
 refine ⟨_,rfl,_,rfl,t1.1,e.1,_,_,t1.2.1,t1.2.2.1,e.2.1,e.2.2.1,rfl,et6,ee6,rfl,rfl,rfl,rfl,by omega,by omega,_,rfl,
  _,rfl,_,rfl,e.1,s1.1,_,_,e.2.1,e.2.2.1,s1.2.1,s1.2.2.1,rfl,ee6,es6,rfl,rfl,rfl,rfl,by omega,by omega,_,rfl,
  _,rfl,_,rfl,s1.1,t1.1,_,_,s1.2.1,s1.2.2.1,t1.2.1,t1.2.2.1,rfl,es6,et6,rfl,rfl,rfl,rfl,by omega,by omega,_,rfl,(by show 3≤sizeLine; decide),fun wl hwl=>?_⟩
 refine ⟨_,rfl,_,rfl,(by show 1≤sizeLine; decide),fun ol hol=>?_⟩
 have swl:=zAe hwl (.lst ([absI (tn t1.2 e.2),absI (tn e.2 s1.2),absI (tn s1.2 t1.2)].map V.int))
 have sol:=zAe hol (.lst [.int (j:Int)])
 refine ⟨sn,ol,_,_,rfl,rfl,sol _ _ (swl _ _ esn),zAc,small (by show 2 + 1≤1000; decide),fun nc hnc=>?_⟩
 have snc:=zAe hnc (.lst ([(x:Int),(y:Int),(j:Int)].map V.int))
 have pU:0 < absI (tn t1.2 e.2):=by rw [zCj h1 A1]; exact A1
 have pV:0 < absI (tn e.2 s1.2):=by rw [zCj h1 A2]; exact A2
 have pX:0 < absI (tn s1.2 t1.2):=by rw [zCj h1 A3]; exact A3
 have bU:absI (tn t1.2 e.2)≤10 ^ 19:=zQw g1 c2 g2 c1
 have bV:absI (tn e.2 s1.2)≤10 ^ 19:=zQw c1 d2 c2 d1
 have bX:absI (tn s1.2 t1.2)≤10 ^ 19:=zQw d1 g2 d2 g1
 have gk:=zU5 (ws:=[absI (tn t1.2 e.2),absI (tn e.2 s1.2),absI (tn s1.2 t1.2)]) (List.mem_cons_self ..) pU (by omega)
 refine ⟨_,rfl,nc,wl,[(x:Int),(y:Int),(j:Int)],[absI (tn t1.2 e.2),absI (tn e.2 s1.2),absI (tn s1.2 t1.2)],rfl,SqL.of zAc,SqL.of (snc _ _ (sol _ _ zAc)),rfl,(by show 3≤900; decide),gk.1,gk.2,fun D cs H' s' hD eD okc mc=>?_⟩
 have sAll:=((swl.trans sol).trans snc).trans s'
 have sBack:=(swl.trans sol).trans snc
 refine q D cs H' (sH6.trans sAll) (sH6.free (sBack.free hD)) eD okc ?_
 rw [mc]
 obtain ⟨w1,w2⟩:=zQh s1.2 t1.2 e.2
 have f:∀ a b c:Int,tn t1.2 e.2 * h * a + tn e.2 s1.2 * h * b + tn s1.2 t1.2 * h * c = (tn t1.2 e.2 * a + tn e.2 s1.2 * b + tn s1.2 t1.2 * c) * h:=fun a b c=>by
  rw [Int.add_mul,Int.add_mul,Int.mul_right_comm,Int.mul_right_comm (tn e.2 s1.2),Int.mul_right_comm (tn s1.2 t1.2)]
 refine zOp hxy gy'.2 gx'.1 gy'.1 st.at' pU pV pX bU bV bX ?_ ?_ ?_
 ·rw [zCj h1 A1,zCj h1 A2,zCj h1 A3,f]
  have w1':tn t1.2 e.2 * s1.2.1 + tn e.2 s1.2 * t1.2.1 + tn s1.2 t1.2 * e.2.1 = 0:=w1
  rw [w1',Int.zero_mul]
 ·rw [zCj h1 A1,zCj h1 A2,zCj h1 A3,f]
  have w2':tn t1.2 e.2 * s1.2.2.1 + tn e.2 s1.2 * t1.2.2.1 + tn s1.2 t1.2 * e.2.2.1 = 0:=w2
  rw [w2',Int.zero_mul]
 ·rw [zCj h1 A1,zCj h1 A2,zCj h1 A3,f]
  exact A4
def zIg (K:PySem.W.Frag):Sp:=fun vs H Q _=>∃ (l:Addr) (ss:List Sd),vs = [.ref l]∧SqL K H l (zAm ss)∧SdOk H ss∧ss.length≤900 ∧
 (∀ (P:P3) (H':Hp),Same H H'→0 < P.2.2→inW ss P→Cand ss P→Q .non H') ∧
 ∀ (D:Addr) (cs:List Pr) (H':Hp),Same H H'→H D = none→H' D = some (.lst (zAo cs))→PrAt H' cs→zG7 ss (cs.map (·.2))→Q (.ref D) H'
theorem zPp (F:Fun K "clash" "clash" zH9 f fd) (Z:Zs mg) (h_p_clash_of_three:Has P w K mg base "clash_of_three" 6 ["sides", "last"] (zEr K)) (h_p_turn:Has P w K mg base "turn" 1 ["one", "other"] (zDe K)) (h_p_holds:Has P w K mg base "holds" 2 ["side", "spot"] (zEi K)) (h_p_foot:Has P w K mg base "foot" 5 ["side"] (zJ4 K)) (h_p_weighed:Has P w K mg base "weighed" 3 ["numbers", "weights"] (zGu K)) (h_p_span:Has P w K mg base "span" 1 ["direction"] (zJ9 K)) (h_p_sought:Has P w K mg base "sought" 8 ["sides"] (zHj K)):FnOk P w K mg base CX0 9 f fd ["sides"] (zIg K):=by
 refine F.ok zFf (fun vs H Q E h=>?_) (fun cdv A outer s H vs Q E hr h=>?_)
 ·obtain ⟨l,ss,rfl,_⟩:=h
  rfl
 obtain ⟨l,ss,rfl,hl,ok,hlen,qn,q⟩:=h
 refine ⟨_,(zAf (zAw (i:=1) zFf.nd rfl (Or.inl rfl) (zAn zAg (zAh h_p_sought (hr.mono (by decide)) rfl (zAa (pv 0) zAd)) zAb (fun _ _=>rfl)))
   (zAf (zA8 (zAu zLl (pv 1) zBm (zAz _)) (zAi (zAr zBm)) zAx)
   (zAf (zAw (i:=2) zFf.nd rfl (Or.inl rfl) (zAn zAg (pv 0) (pv 1) (fun _ _=>rfl)))
   (zAf (zCz PassesOwn.never rfl (zC7 rfl Z.range (zAa (pv 1) zAd)) (zAq (i:=3) zFf.nd rfl (Or.inl rfl)) (zAf (zAw (i:=4) zFf.nd rfl (Or.inl rfl) (zAn zAg (pv 0) (pv 3) (fun _ _=>rfl)))
   (zAi (zA8 (PW.pt (zGb (zAu zCi (zAh h_p_turn (hr.mono (by decide)) rfl (zAa (pv 2) (zAa (pv 4) zAd))) zAb (zAz _)) (zEp (zDd (zCv (zAh h_p_holds (hr.mono (by decide)) rfl (zAa (pv 4) (zAa (zAh h_p_foot (hr.mono (by decide)) rfl (zAa (pv 2) zAd)) zAd)))))))) (zAi (zAr (zAh h_p_weighed (hr.mono (by decide)) rfl (zAa (zBo (zAa (pv 3) (zAa (pv 1) zAd))) (zAa (zBo (zAa (zAh h_p_span (hr.mono (by decide)) rfl (zAa (pv 2) zAd)) (zAa (zAh h_p_span (hr.mono (by decide)) rfl (zAa (pv 4) zAd)) zAd))) zAd))))) zAx))))
   (zAi (zAr (zAh h_p_clash_of_three (hr.mono (by decide)) rfl (zAa (pv 0) (zAa (pv 1) zAd))))))))),?_⟩
 refine ⟨_,rfl,l,ss,rfl,hl,ok,hlen,fun t j e P H1 s1 et st=>?_,fun t p P H1 s1 et ep wp cp=>?_⟩
 ·refine ⟨t,_,_,.int j,rfl,rfl,.inr (SqT.of et),rfl,?_⟩
  refine ⟨_,rfl,rfl,_,rfl,?_⟩
  refine iteF ?_
  have hj:j < ss.length:=(List.getElem?_eq_some_iff.mp st.at').1
  obtain ⟨e',me,ge,at'⟩:=zBg (ss:=ss) (i:=j) (k:=(j:Int)) rfl hj
  rw [st.at'] at ge
  cases ge
  obtain ⟨ee,ne,c1,c2,c3⟩:=ok e me
  have hN:=zEy ne
  obtain ⟨sf,f1⟩:=zR0 ne
  refine ⟨_,rfl,_,rfl,l,_,_,_,rfl,rfl,.inl (s1.seq hl),at',?_⟩
  refine ⟨_,rfl,_,rfl,(by omega),(by omega),zEq (lo:=0) (n:=((j:Nat):Int).toNat) (fun i σ H'=>Same H1 H'∧(∀ u∈ss.take i,tn e.2 u.2 = 0→sv u.2 (pt3 (ftL e.2))≤0)∧∃ u3 u4:Option V,σ = [some (.ref l),some (.int j),some (.ref e.1),u3,u4])
   ⟨Same.refl _,(fun t ht=>nomatch ht),none,none,rfl⟩ ?_ ?_⟩
  ·rintro i σ H' hi ⟨sH,bes,u3,u4,rfl⟩
   rw [Int.toNat_natCast] at hi
   obtain ⟨u,mu,gu,atu⟩:=zBg (ss:=ss) (i:=i) (k:=0 + (i:Int)) (by omega) (by omega)
   obtain ⟨eu0,nu,d1,d2,d3⟩:=ok u mu
   have s0:=s1.trans sH
   have eu:Sq K H' u.1 [.int u.2.1,.int u.2.2.1,.int u.2.2.2]:=.inr (SqT.of (s0 _ _ eu0))
   have ee':Sq K H' e.1 [.int e.2.1,.int e.2.2.1,.int e.2.2.2]:=.inr (SqT.of (s0 _ _ ee))
   refine ⟨_,rfl,_,rfl,l,_,_,_,rfl,rfl,.inl (s0.seq hl),atu,?_⟩
   refine ⟨_,rfl,_,rfl,e.1,u.1,_,_,e.2.1,e.2.2.1,u.2.1,u.2.2.1,rfl,ee',eu,rfl,rfl,rfl,rfl,by omega,by omega,rfl,_,rfl,?_⟩
   refine ifE (fun h0=>?_) (fun h0=>?_)
   ·have h0':tn e.2 u.2 = 0:=h0
    refine ⟨_,rfl,_,rfl,e.1,e.2,rfl,ee',ne,c1,c2,fun fp H2 s2 hfp efp=>?_⟩
    have efp':H2 fp = some (.tup [.int (pt3 (ftL e.2)).1,.int (pt3 (ftL e.2)).2.1,.int (pt3 (ftL e.2)).2.2]):=by
     rw [efp,sf.list]
     rfl
    refine ⟨u.1,fp,u.2.1,u.2.2.1,u.2.2.2,(pt3 (ftL e.2)).1,(pt3 (ftL e.2)).2.1,(pt3 (ftL e.2)).2.2,rfl,eu.same s2,.inr (SqT.of efp'),by omega,by omega,by omega,_,rfl,?_⟩
    refine ifN (fun hout=>?_) (fun hin=>?_)
    ·have hout':0 < sv u.2 (pt3 (ftL e.2)):=by
      have:¬ sv u.2 (pt3 (ftL e.2))≤0:=hout
      omega
     obtain ⟨z1,z2,z3⟩:=zUq h0' hN ne sf.pos st.pos f1 hout' (st.ahead u (List.mem_of_getElem? (i:=i) (by rw [List.getElem?_take,if_pos hi]; exact gu))) st.out
     refine ⟨_,rfl,_,rfl,(by show 2≤sizeLine; decide),fun nl hnl=>?_⟩
     have snl:=zAe hnl (.lst ([0 + (i:Int),(j:Int)].map V.int))
     refine ⟨_,rfl,e.1,_,e.2.1,e.2.2.1,rfl,(ee'.same s2).same snl,rfl,rfl,_,rfl,u.1,_,u.2.1,u.2.2.1,rfl,(eu.same s2).same snl,rfl,rfl,(by show 2≤sizeLine; decide),fun wl hwl=>?_⟩
     have swl:=zAe hwl (.lst ([zBx e.2.1 e.2.2.1,zBx u.2.1 u.2.2.1].map V.int))
     have pU:=zE9 ne
     have pV:=zE9 nu
     have bU:zBx e.2.1 e.2.2.1≤10 ^ 19:=Int.le_trans (zJq c1 c2) (by decide)
     have bV:zBx u.2.1 u.2.2.1≤10 ^ 19:=Int.le_trans (zJq d1 d2) (by decide)
     have gk:=zU5 (ws:=[zBx e.2.1 e.2.2.1,zBx u.2.1 u.2.2.1]) (List.mem_cons_self ..) pU (by omega)
     refine ⟨nl,wl,[0 + (i:Int),(j:Int)],[zBx e.2.1 e.2.2.1,zBx u.2.1 u.2.2.1],rfl,SqL.of (swl _ _ zAc),SqL.of zAc,rfl,(by show 2≤900; decide),gk.1,gk.2,fun D cs H5 s5 hD eD okc mc=>?_⟩
     have sB:=(s0.trans s2).trans (snl.trans swl)
     refine q D cs H5 (sB.trans s5) (sB.free hD) eD okc ?_
     rw [mc,Int.zero_add]
     exact zRr hi gu st.at' pU pV bU bV z1 z2 z3
    ·refine ⟨sH.trans s2,fun v hv hz=>?_,_,_,rfl⟩
     rcases zD9 gu hv with hv | rfl
     ·exact bes v hv hz
     ·exact hin
   ·refine iteF ?_
    refine ⟨sH,fun v hv hz=>?_,_,_,rfl⟩
    rcases zD9 gu hv with hv | rfl
    ·exact bes v hv hz
    ·exact absurd hz h0
  ·rintro σ H' ⟨sH,bes,u3,u4,rfl⟩
   rw [Int.toNat_natCast] at bes
   have s0:=s1.trans sH
   exact ⟨_,rfl,_,rfl,l,ss,j,e,P,rfl,s0.seq hl,ok.same s0,hlen,st,bes,fun D cs H5 s5 hD eD okc cl=>q D cs H5 (s0.trans s5) (s0.free hD) eD okc cl⟩
 ·refine ⟨t,_,_,.non,rfl,rfl,.inr (SqT.of et),rfl,?_⟩
  refine ⟨_,rfl,rfl,_,rfl,?_⟩
  refine iteT ?_
  exact qn P H1 s1 ep.2.1 wp cp
theorem zWa {x y:Int} (n:x≠0∨y≠0) (m0:x.natAbs≤2 * 10 ^ 9) (m1:y.natAbs≤2 * 10 ^ 9):0 < gcdL [x,y]∧(gcdL [x,y]:Int) < 10 ^ 600:=by
 have lt:∀ z:Int,z∈[x,y]→z≠0→z.natAbs≤2 * 10 ^ 9→0 < gcdL [x,y]∧(gcdL [x,y]:Int) < 10 ^ 600:=fun z hz h0 hb=>by
  refine ⟨zBz hz h0,?_⟩
  have h1:=zFp hz h0
  exact Int.lt_of_le_of_lt (show (gcdL [x,y]:Int)≤10 ^ 30 by omega) (by decide +kernel)
 rcases n with h | h
 ·exact lt x (by simp) h m0
 ·exact lt y (by simp) h m1
theorem zL0 {ss:List Sd} {x y:Int} : wayB ss x y = true↔∀ t∈ss,t.2.1 * x + t.2.2.1 * y≤0:=by
 unfold wayB
 rw [List.all_eq_true]
 exact ⟨fun h t ht=>of_decide_eq_true (h t ht),fun h t ht=>decide_eq_true (h t ht)⟩
theorem zS5 {X Y x y a b:Int} (n:X≠0∨Y≠0) (e:lowL [X,Y] = [x,y]):(a * x + b * y) * (gcdL [X,Y]:Int) = a * X + b * Y:=by
 have z:[X / (gcdL [X,Y]:Int),Y / (gcdL [X,Y]:Int)] = [x,y]:=e
 cases z
 rw [Int.add_mul,Int.mul_assoc,Int.mul_assoc,zBb (ns:=[X,Y]) (n:=X) (by simp),zBb (ns:=[X,Y]) (n:=Y) (by simp)]
def NoWay (ss:List Sd) (g:P3):Prop:=∀ t∈ss,∀ h:Int,(h = 1∨h = -1)→(∀ s∈ss,tn t.2 s.2 * h≤0)→tn t.2 g * h≤0
def zGh (K:PySem.W.Frag):Sp:=fun vs H Q _=>∃ (l a:Addr) (ss:List Sd) (g:P3),vs = [.ref l,.ref a]∧SqL K H l (zAm ss)∧SdOk H ss∧ss.length≤400∧Sq K H a [.int g.1,.int g.2.1]∧(g.1≠0∨g.2.1≠0)∧g.1.natAbs≤2 * 10 ^ 9∧g.2.1.natAbs≤2 * 10 ^ 9 ∧
 (∀ H':Hp,Same H H'→NoWay ss g→(¬ ∀ s∈ss,dt s.2 g≤0)→Q .non H') ∧
 ∀ (p:Addr) (x y:Int) (H':Hp),Same H H'→H' p = some (.tup [.int x,.int y])→Nat.gcd x.natAbs y.natAbs = 1→0 < g.1 * x + g.2.1 * y→wayB ss x y = true→x.natAbs≤2 * 10 ^ 9→y.natAbs≤2 * 10 ^ 9→Q (.ref p) H'
theorem zJ0 (F:Fun K "way_onward" "way_onward" zDq f fd) (Z:Zs mg) (h_p_ways:Has P w K mg base "ways" 4 ["sides"] (zM7 K)) (h_p_plain:Has P w K mg base "plain" 3 ["direction"] (zIm K)) (h_p_along:Has P w K mg base "along" 1 ["one", "other"] (zEe K)) (h_p_is_way:Has P w K mg base "is_way" 2 ["sides", "direction"] (zHo K)):FnOk P w K mg base CX0 5 f fd ["sides", "direction"] (zGh K):=by
 refine F.ok zGd (fun vs H Q E h=>?_) (fun cdv A outer s H vs Q E hr h=>?_)
 ·obtain ⟨l,a,ss,g,rfl,_⟩:=h
  rfl
 obtain ⟨l,a,ss,g,rfl,hl,ok,hlen,ha,gz,m1,m2,qn,q⟩:=h
 have nz:∀ t∈ss,t.2.1≠0∨t.2.2.1≠0:=fun t ht=>(ok t ht).2.1
 refine ⟨_,(zAf (zCz PassesOwn.never rfl (zCc (zAl zEv (zAh h_p_ways (hr.mono (by decide)) rfl (zAa (pv 0) zAd)) (zBo (zAa (zAh h_p_plain (hr.mono (by decide)) rfl (zAa (pv 1) zAd)) zAd)))) (zAq (i:=2) zGd.nd rfl (Or.inl rfl)) (zAi (zA8 (PW.pt (zGb (zAu zI6 (zAh h_p_along (hr.mono (by decide)) rfl (zAa (pv 1) (zAa (pv 2) zAd))) zAb (zAz _)) (zEp (zCv (zAh h_p_is_way (hr.mono (by decide)) rfl (zAa (pv 0) (zAa (pv 2) zAd))))))) (zAi (zAr (pv 2))) zAx)))
   (zAi (zAr zBm))),?_⟩
 refine ⟨_,rfl,l,ss,rfl,hl,ok,hlen,fun p us H1 s1 hp W=>?_⟩
 obtain ⟨gp,g6⟩:=zWa gz m1 m2
 refine ⟨_,rfl,a,[g.1,g.2.1],rfl,ha.same s1,by show 2≤1000; decide,gp,g6,fun dp H2 s2 hdp edp=>?_⟩
 obtain ⟨gx,gy,exy,_,_,glow,_,gdot,gxl,gyl⟩:=zKt gz
 rw [exy] at edp
 refine ⟨(by show 1≤sizeLine; decide),fun ol hol=>?_⟩
 have sol:=zAe hol (.lst [.ref dp])
 have wf:=W.few
 refine ⟨p,ol,_,_,rfl,rfl,sol _ _ (s2 _ _ W.at'),zAc,small (by simp only [List.length_map]; show us.length + 1≤1000; omega),fun c hc=>?_⟩
 have sc:=zAe hc (.lst ((us.map (·.1)).map V.ref ++ [.ref dp]))
 have ec:upd (upd H2 ol (.lst [.ref dp])) c (.lst ((us.map (·.1)).map V.ref ++ [.ref dp])) c = some (.lst (((us ++ [(dp,[gx,gy])]).map (·.1)).map V.ref)):=by rw [zAc]; simp
 have s12:Same H1 (upd (upd H2 ol (.lst [.ref dp])) c (.lst ((us.map (·.1)).map V.ref ++ [.ref dp]))):=s2.trans (sol.trans sc)
 have edp':=(sol.trans sc) _ _ edp
 generalize upd (upd H2 ol (.lst [.ref dp])) c (.lst ((us.map (·.1)).map V.ref ++ [.ref dp])) = H3 at sc ec s12 edp' ⊢
 have s3:=s1.trans s12
 have each:∀ u∈us ++ [(dp,[gx,gy])],∃ x y:Int,u.2 = [x,y]∧H3 u.1 = some (.tup [.int x,.int y])∧Nat.gcd x.natAbs y.natAbs = 1∧x.natAbs≤2 * 10 ^ 9∧y.natAbs≤2 * 10 ^ 9:=fun u hu=>by
  rcases List.mem_append.mp hu with hu | hu
  ·have mk:u.2∈us.map (·.2):=List.mem_map_of_mem hu
   have wk:=(W.mem u.2).mp mk
   obtain ⟨x,y,e,ew⟩:=wk.dir nz
   have z:=s12 _ _ (W.all u hu)
   rw [e] at z
   obtain ⟨j,t,_,gt,hk⟩:=wk
   obtain ⟨_,nt,c1,c2,_⟩:=ok t (List.mem_of_getElem? gt)
   have bd:x.natAbs≤2 * 10 ^ 9∧y.natAbs≤2 * 10 ^ 9:=by
    rcases hk with ⟨hk,_⟩ | ⟨hk,_⟩
    ·obtain ⟨x',y',e',_,_,_,_,_,l1,l2⟩:=zKt (X:=-t.2.2.1) (Y:=t.2.1) (by omega)
     rw [e,e'] at hk
     cases hk
     omega
    ·obtain ⟨x',y',e',_,_,_,_,_,l1,l2⟩:=zKt (X:=t.2.2.1) (Y:=-t.2.1) (by omega)
     rw [e,e'] at hk
     cases hk
     omega
   exact ⟨x,y,e,z,ew.low,bd.1,bd.2⟩
  ·rw [List.mem_singleton] at hu
   subst hu
   exact ⟨gx,gy,rfl,edp',glow,by omega,by omega⟩
 refine ⟨c,rfl,.inl ⟨⟨_,SqL.of ec⟩,zCt (K:=K) (a:=c) (xs:=((us ++ [(dp,[gx,gy])]).map (·.1)).map V.ref) (fun i σ H'=>H3 = H'∧(∀ j u x y,j < i→(us ++ [(dp,[gx,gy])])[j]? = some u→u.2 = [x,y]→0 < g.1 * x + g.2.1 * y→wayB ss x y = true→False)∧∃ u2:Option V,σ = [some (.ref l),some (.ref a),u2])
  ⟨rfl,fun j u x y hj=>absurd hj (Nat.not_lt_zero _),none,rfl⟩ (fun i σ H' _ ⟨e,_⟩=>by rw [← e]; exact SqL.of ec) ?_ ?_⟩⟩
 ·rintro i v σ H' hi ⟨rfl,hall,u2,rfl⟩
  rw [List.getElem?_map,List.getElem?_map] at hi
  cases gu:(us ++ [(dp,[gx,gy])])[i]? with
  | none=>rw [gu] at hi; cases hi
  | some u =>
   rw [gu] at hi
   cases hi
   obtain ⟨x,y,exy',eu,lu,bx,by'⟩:=each u (List.mem_of_getElem? gu)
   have keep:(¬ (0 < g.1 * x + g.2.1 * y∧wayB ss x y = true))→∀ j u' x' y',j < i + 1→(us ++ [(dp,[gx,gy])])[j]? = some u'→u'.2 = [x',y']→0 < g.1 * x' + g.2.1 * y'→wayB ss x' y' = true→False:=fun hno j u' x' y' hj gu' e' h1 h2=>by
    by_cases ej:j = i
    ·rw [ej,gu] at gu'
     cases gu'
     rw [exy'] at e'
     cases e'
     exact hno ⟨h1,h2⟩
    ·exact hall j u' x' y' (by omega) gu' e' h1 h2
   refine ⟨_,rfl,_,rfl,a,u.1,_,_,g.1,g.2.1,x,y,rfl,ha.same s3,.inr (SqT.of eu),rfl,rfl,rfl,rfl,by omega,by omega,_,_,rfl,rfl,_,rfl,?_⟩
   refine ifD (fun hpos=>?_) (fun hneg=>?_)
   ·refine ⟨_,rfl,_,rfl,l,u.1,ss,x,y,rfl,s3.seq hl,ok.same s3,.inr (SqT.of eu),_,rfl,?_⟩
    by_cases hw:wayB ss x y = true
    ·rw [hw]
     refine iteT ?_
     exact ⟨_,rfl,q u.1 x y _ s3 eu lu hpos hw bx by'⟩
    ·have hw':wayB ss x y = false:=by simpa using hw
     rw [hw']
     refine iteF ?_
     exact ⟨rfl,keep (fun z=>hw z.2),_,rfl⟩
   ·refine iteF ?_
    exact ⟨rfl,keep (fun z=>hneg z.1),_,rfl⟩
 ·rintro σ H' ⟨rfl,hall,u2,rfl⟩
  have none':∀ u∈us ++ [(dp,[gx,gy])],∀ x y,u.2 = [x,y]→0 < g.1 * x + g.2.1 * y→wayB ss x y = true→False:=fun u hu x y e h1 h2=>by
   obtain ⟨j,hj,ej⟩:=List.getElem_of_mem hu
   exact hall j u x y (by simp only [List.length_map]; exact hj) (by rw [List.getElem?_eq_getElem hj,ej]) e h1 h2
  refine qn _ s3 (fun t mt h hh hall'=>?_) (fun hall'=>?_)
  ·have nt:=nz t mt
   have key:∀ X Y:Int,(X≠0∨Y≠0)→wayB ss X Y = true→lowL [X,Y]∈us.map (·.2)→g.1 * X + g.2.1 * Y≤0:=fun X Y n hw hm=>by
    obtain ⟨x,y,e,gp',_⟩:=zKt n
    obtain ⟨u,hu,eu⟩:=List.mem_map.mp hm
    have sc':=zS5 (a:=g.1) (b:=g.2.1) n e
    by_cases c:g.1 * X + g.2.1 * Y≤0
    ·exact c
    ·rw [← sc'] at c
     have p1:0 < g.1 * x + g.2.1 * y:=zDb (y:=(gcdL [X,Y]:Int)) (by omega) (by omega)
     have z:=zOo (ss:=ss) gp'
     have e2:[X / (gcdL [X,Y]:Int),Y / (gcdL [X,Y]:Int)] = [x,y]:=e
     cases e2
     rw [hw] at z
     exact (none' u (List.mem_append_left _ hu) _ _ (eu.trans e) p1 z).elim
   have gj:=List.getElem?_of_mem mt
   obtain ⟨j,gj⟩:=gj
   have hj:=(List.getElem?_eq_some_iff.mp gj).1
   rcases hh with rfl | rfl
   ·have hw:wayB ss (-t.2.2.1) t.2.1 = true:=zL0.mpr fun s hs=>by
     have z:=hall' s hs
     unfold tn at z
     rw [Int.mul_neg,Int.mul_comm s.2.1,Int.mul_comm s.2.2.1]
     omega
    have z:=key _ _ (by omega) hw ((W.mem _).mpr ⟨j,t,hj,gj,.inl ⟨rfl,hw⟩⟩)
    unfold tn
    rw [Int.mul_neg,Int.mul_comm g.1,Int.mul_comm g.2.1] at z
    omega
   ·have hw:wayB ss t.2.2.1 (-t.2.1) = true:=zL0.mpr fun s hs=>by
     have z:=hall' s hs
     unfold tn at z
     rw [Int.mul_neg,Int.mul_comm s.2.1,Int.mul_comm s.2.2.1]
     omega
    have z:=key _ _ (by omega) hw ((W.mem _).mpr ⟨j,t,hj,gj,.inr ⟨rfl,hw⟩⟩)
    unfold tn
    rw [Int.mul_neg,Int.mul_comm g.1,Int.mul_comm g.2.1] at z
    omega
  ·have hw:wayB ss g.1 g.2.1 = true:=zL0.mpr hall'
   have z:=zOo (ss:=ss) gp
   have e2:[g.1 / (gcdL [g.1,g.2.1]:Int),g.2.1 / (gcdL [g.1,g.2.1]:Int)] = [gx,gy]:=exy
   cases e2
   rw [hw] at z
   refine none' (dp,_) (List.mem_append_right _ (List.mem_singleton.mpr rfl)) _ _ rfl ?_ z
   rw [Int.mul_comm g.1,Int.mul_comm g.2.1]
   exact gdot
abbrev Wt:=Addr × Int × Addr × Int × Int
abbrev zDk (ws:List Wt):List V:=(ws.map (·.1)).map V.ref
def WtAt (H:Hp) (ws:List Wt):Prop:=∀ t∈ws,H t.1 = some (.tup [.int t.2.1,.ref t.2.2.1])∧H t.2.2.1 = some (.tup [.int t.2.2.2.1,.int t.2.2.2.2])
theorem WtAt.same {H H':Hp} {ws:List Wt} (h:WtAt H ws) (s:Same H H'):WtAt H' ws:=fun t ht=>⟨s _ _ (h t ht).1,s _ _ (h t ht).2⟩
abbrev wtN (ws:List Wt):List (Int × Int × Int):=ws.map fun t=>(t.2.1,t.2.2.2)
def FarQ (H:Hp) (ss:List Sd) (g:P3) (Q:VK):Prop:=∀ (f p D:Addr) (P:P3) (ws:List Wt) (H':Hp),Same H H'→H' f = some (.tup [.str "far", .ref p,.ref D])→SpAt H' p P→inW ss P→Cand ss P→H D = none→H' D = some (.lst (zDk ws))→WtAt H' ws→Far ss g P (wtN ws)→Q (.ref f) H'
def zGg (K:PySem.W.Frag):Sp:=fun vs H Q _=>∃ (l a:Addr) (ss:List Sd) (g:P3),vs = [.ref l,.ref a]∧SqL K H l (zAm ss)∧SdOk H ss∧ss.length≤400∧Sq K H a [.int g.1,.int g.2.1]∧(g.1≠0∨g.2.1≠0)∧g.1.natAbs≤2 * 10 ^ 9∧g.2.1.natAbs≤2 * 10 ^ 9 ∧
 (∀ H':Hp,Same H H'→(∀ t∈ss,tn t.2 g = 0→0 < dt t.2 g→∀ P:P3,0 < P.2.2→sv t.2 P = 0→¬ inW ss P)→Q .non H')∧FarQ H ss g Q
theorem zKs (F:Fun K "far_by_one" "far_by_one" zDu f fd) (Z:Zs mg) (h_p_turn:Has P w K mg base "turn" 1 ["one", "other"] (zDe K)) (h_p_along:Has P w K mg base "along" 1 ["one", "other"] (zEe K)) (h_p_part:Has P w K mg base "part" 4 ["top", "bottom"] (zH7 K)) (h_p_span:Has P w K mg base "span" 1 ["direction"] (zJ9 K)) (h_p_spot_on_edge:Has P w K mg base "spot_on_edge" 7 ["sides", "edge"] (zDn K)):FnOk P w K mg base CX0 8 f fd ["sides", "direction"] (zGg K):=by
 refine F.ok zDj (fun vs H Q E h=>?_) (fun cdv A outer s H vs Q E hr h=>?_)
 ·obtain ⟨l,a,ss,g,rfl,_⟩:=h
  rfl
 obtain ⟨l,a,ss,g,rfl,hl,ok,hlen,ha,gz,m1,m2,qn,q⟩:=h
 refine ⟨_,(zAf (zCz PassesOwn.never rfl (zC7 rfl Z.range (zAa (zAv zA1 rfl Z.len zB9 (zAa (pv 0) zAd)) zAd)) (zAq (i:=2) zDj.nd rfl (Or.inl rfl)) (zAf (zAw (i:=3) zDj.nd rfl (Or.inl rfl) (zAn zAg (pv 0) (pv 2) (fun _ _=>rfl)))
   (zAi (zA8 (PW.pt (zGb (zAu zCi (zAh h_p_turn (hr.mono (by decide)) rfl (zAa (pv 3) (zAa (pv 1) zAd))) zAb (zAz _)) (zEp (zAu zI6 (zAh h_p_along (hr.mono (by decide)) rfl (zAa (pv 3) (zAa (pv 1) zAd))) zAb (zAz _))))) (zAf (zAw (i:=4) zDj.nd rfl (Or.inl rfl) (zAh h_p_spot_on_edge (hr.mono (by decide)) rfl (zAa (pv 0) (zAa (pv 3) zAd))))
   (zAi (zA8 (zAu zGv (pv 4) zBm (zAz _)) (zAi (zAr (zA0 (zAa zDc (zAa (pv 4) (zAa (zBo (zAa (zA0 (zAa (pv 2) (zAa (zAh h_p_part (hr.mono (by decide)) rfl (zAa (zAh h_p_span (hr.mono (by decide)) rfl (zAa (pv 1) zAd)) (zAa (zAh h_p_span (hr.mono (by decide)) rfl (zAa (pv 3) zAd)) zAd))) zAd))) zAd)) zAd)))))) zAx))) zAx))))
   (zAi (zAr zBm))),?_⟩
 refine ⟨_,rfl,l,_,rfl,.inl hl,_,rfl,(by rw [zAk]; omega),(by rw [zAk]; omega),zEq (lo:=0) (n:=(((zAm ss).length:Nat):Int).toNat) (fun i σ H'=>Same H H'∧(∀ t∈ss.take i,tn t.2 g = 0→0 < dt t.2 g→∀ P:P3,0 < P.2.2→sv t.2 P = 0→¬ inW ss P)∧∃ u2 u3 u4:Option V,σ = [some (.ref l),some (.ref a),u2,u3,u4])
  ⟨Same.refl _,(fun t ht=>nomatch ht),none,none,none,rfl⟩ ?_ ?_⟩
 ·rintro i σ H' hi ⟨sH,bes,u2,u3,u4,rfl⟩
  have hil:i < ss.length:=by rw [Int.toNat_natCast,zAk] at hi; exact hi
  obtain ⟨t,mt,gt,at'⟩:=zBg (ss:=ss) (i:=i) (k:=0 + (i:Int)) (by omega) hil
  obtain ⟨et0,nt,c1,c2,c3⟩:=ok t mt
  have et:Sq K H' t.1 [.int t.2.1,.int t.2.2.1,.int t.2.2.2]:=.inr (SqT.of (sH _ _ et0))
  have ha':=ha.same sH
  refine ⟨_,rfl,_,rfl,l,_,_,_,rfl,rfl,.inl (sH.seq hl),at',?_⟩
  refine ⟨_,rfl,_,rfl,t.1,a,_,_,t.2.1,t.2.2.1,g.1,g.2.1,rfl,et,ha',rfl,rfl,rfl,rfl,by omega,by omega,rfl,_,rfl,?_⟩
  have skip:∀ H2:Hp,Same H' H2→(tn t.2 g = 0→0 < dt t.2 g→∀ P:P3,0 < P.2.2→sv t.2 P = 0→¬ inW ss P)→(∀ u∈ss.take (i + 1),tn u.2 g = 0→0 < dt u.2 g→∀ P:P3,0 < P.2.2→sv u.2 P = 0→¬ inW ss P):=fun H2 _ hno u hu=>by
   rcases zD9 gt hu with hu | rfl
   ·exact bes u hu
   ·exact hno
  refine ifE (fun h0=>?_) (fun h0=>?_)
  ·refine ⟨_,rfl,_,rfl,t.1,a,_,_,t.2.1,t.2.2.1,g.1,g.2.1,rfl,et,ha',rfl,rfl,rfl,rfl,by omega,by omega,_,_,rfl,rfl,_,rfl,?_⟩
   refine ifD (fun h1=>?_) (fun h1=>?_)
   ·have h0':tn t.2 g = 0:=h0
    have h1':0 < dt t.2 g:=h1
    refine ⟨_,rfl,_,rfl,l,t.1,ss,t.2,rfl,sH.seq hl,ok.same sH,by omega,et,nt,c1,c2,c3,fun H2 s2 no=>?_,fun p P H2 s2 ep wp on cd=>?_⟩
    ·refine ⟨_,rfl,rfl,_,rfl,?_⟩
     refine iteF ?_
     exact ⟨sH.trans s2,skip H2 s2 (fun _ _ P pw oP wP=>no P oP pw wP),_,_,_,rfl⟩
    ·refine ⟨_,rfl,rfl,_,rfl,?_⟩
     refine iteT ?_
     have pS:=zE9 nt
     have bS:zBx t.2.1 t.2.2.1≤10 ^ 19:=Int.le_trans (zJq c1 c2) (by decide)
     have bG:zBx g.1 g.2.1≤10 ^ 19:=Int.le_trans (zJq m1 m2) (by decide)
     refine ⟨_,rfl,_,rfl,_,rfl,a,_,g.1,g.2.1,rfl,ha'.same s2,rfl,rfl,_,rfl,t.1,_,t.2.1,t.2.2.1,rfl,et.same s2,rfl,rfl,zBx g.1 g.2.1,zBx t.2.1 t.2.2.1,rfl,by omega,Nat.lt_of_le_of_lt (show (zBx t.2.1 t.2.2.1).natAbs≤10 ^ 40 by omega) (by decide +kernel),fun pp x y H3 s3 hpp epp pt=>?_⟩
     refine ⟨(by show 2≤sizeLine; decide),fun pr hpr=>?_⟩
     have spr:=zAe hpr (.tup [.int (0 + (i:Int)),.ref pp])
     refine ⟨(by show 1≤sizeLine; decide),fun D hD=>?_⟩
     have sD:=zAe hD (.lst [.ref pr])
     refine ⟨(by show 3≤sizeLine; decide),fun ft hft=>?_⟩
     have sft:=zAe hft (.tup [.str "far", .ref p,.ref D])
     have s23:=s2.trans s3
     have sAll:=(spr.trans sD).trans sft
     refine q ft p D P [(pr,(i:Int),pp,x,y)] _ ((sH.trans s23).trans sAll) zAc (ep.same (s3.trans sAll)) wp ?_ ((sH.trans s23).free (spr.free hD)) (sft _ _ zAc) (fun u hu=>?_) (zVy gt nt gz h0' h1' pt bG bS on)
     ·rcases cd with h | ⟨v,hv,ht,h⟩
      ·exact .inr (.inl ⟨t,mt,h⟩)
      ·exact .inr (.inr ⟨t,mt,v,hv,ht,h⟩)
     ·rw [List.mem_singleton] at hu
      subst hu
      refine ⟨?_,sAll _ _ epp⟩
      refine sft _ _ (sD _ _ ?_)
      rw [zAc,Int.zero_add]
   ·refine ⟨sH,skip H' (Same.refl _) (fun _ z=>absurd z h1),_,_,_,rfl⟩
  ·refine iteF ?_
   exact ⟨sH,skip H' (Same.refl _) (fun z=>absurd z h0),_,_,_,rfl⟩
 ·rintro σ H' ⟨sH,bes,u2,u3,u4,rfl⟩
  rw [Int.toNat_natCast,zAk,List.take_length] at bes
  exact qn H' sH bes
theorem zMg {s t:P3} {m n:Nat} (a1:s.1.natAbs≤m) (a2:s.2.1.natAbs≤m) (b1:t.1.natAbs≤n) (b2:t.2.1.natAbs≤n):(tn s t).natAbs≤m * n + m * n:=by
 have z1:=zAj s.1 t.2.1 a1 b2
 have z2:=zAj s.2.1 t.1 a2 b1
 unfold tn
 omega
def zEm (K:PySem.W.Frag):Sp:=fun vs H Q _=>∃ (l n a:Addr) (ss:List Sd) (g P:P3) (i j:Nat) (s t:Sd),vs = [.ref l,.ref n,.ref a]∧SqL K H l (zAm ss)∧SdOk H ss∧SqL K H n [.int i,.int j]∧Sq K H a [.int g.1,.int g.2.1]∧g.1.natAbs≤2 * 10 ^ 9∧g.2.1.natAbs≤2 * 10 ^ 9 ∧
 ss[i]? = some s∧ss[j]? = some t∧0 < tn s.2 t.2∧0 < tn g t.2∧0 < tn s.2 g∧sv s.2 P = 0∧sv t.2 P = 0 ∧
 ∀ (D:Addr) (ws:List Wt) (H':Hp),Same H H'→H D = none→H' D = some (.lst (zDk ws))→WtAt H' ws→Far ss g P (wtN ws)→Q (.ref D) H'
theorem zHi (F:Fun K "weights_of_two" "weights_of_two" zCs f fd) (Z:Zs mg) (h_p_part:Has P w K mg base "part" 4 ["top", "bottom"] (zH7 K)) (h_p_turn:Has P w K mg base "turn" 1 ["one", "other"] (zDe K)):FnOk P w K mg base CX0 5 f fd ["sides", "numbers", "direction"] (zEm K):=by
 refine F.ok zBv (fun vs H Q E h=>?_) (fun cdv A outer s H vs Q E hr h=>?_)
 ·obtain ⟨l,n,a,ss,g,P,i,j,s,t,rfl,_⟩:=h
  rfl
 obtain ⟨l,n,a,ss,g,P,i,j,s,t,rfl,hl,ok,hn,ha,m1,m2,gs,gt,hW,hA,hB,o1,o2,q⟩:=h
 have hi:=(List.getElem?_eq_some_iff.mp gs).1
 have hj:=(List.getElem?_eq_some_iff.mp gt).1
 obtain ⟨_,ms,gs2,ats⟩:=zBg (ss:=ss) (i:=i) (k:=(i:Int)) rfl hi
 rw [gs] at gs2
 cases gs2
 obtain ⟨_,mt,gt2,att⟩:=zBg (ss:=ss) (i:=j) (k:=(j:Int)) rfl hj
 rw [gt] at gt2
 cases gt2
 obtain ⟨es0,ns,c1,c2,c3⟩:=ok s ms
 obtain ⟨et0,nt,d1,d2,d3⟩:=ok t mt
 have es:Sq K H s.1 [.int s.2.1,.int s.2.2.1,.int s.2.2.2]:=.inr (SqT.of es0)
 have et:Sq K H t.1 [.int t.2.1,.int t.2.2.1,.int t.2.2.2]:=.inr (SqT.of et0)
 have hij:i≠j:=fun z=>by
  rw [z,gt] at gs
  cases gs
  rw [zOb] at hW
  omega
 have bW:=zMg (s:=s.2) (t:=t.2) c1 c2 d1 d2
 have bA:=zMg (s:=g) (t:=t.2) m1 m2 d1 d2
 have bB:=zMg (s:=s.2) (t:=g) c1 c2 m1 m2
 have big:(tn s.2 t.2).natAbs < 10 ^ 500:=Nat.lt_of_le_of_lt (show (tn s.2 t.2).natAbs≤10 ^ 40 by omega) (by decide +kernel)
 refine ⟨_,(zAf (zAw (i:=3) zBv.nd rfl (Or.inl rfl) (zAn zAg (pv 0) (zAn zAg (pv 1) zAb (fun _ _=>rfl)) (fun _ _=>rfl)))
   (zAf (zAw (i:=4) zBv.nd rfl (Or.inl rfl) (zAn zAg (pv 0) (zAn zAg (pv 1) zAb (fun _ _=>rfl)) (fun _ _=>rfl)))
   (zAf (zAw (i:=5) zBv.nd rfl (Or.inl rfl) (zAh h_p_turn (hr.mono (by decide)) rfl (zAa (pv 3) (zAa (pv 4) zAd))))
   (zAf (zAw (i:=6) zBv.nd rfl (Or.inl rfl) (zBo (zAa (zAh h_p_part (hr.mono (by decide)) rfl (zAa (zAh h_p_turn (hr.mono (by decide)) rfl (zAa (pv 2) (zAa (pv 4) zAd))) (zAa (pv 5) zAd))) (zAa (zAh h_p_part (hr.mono (by decide)) rfl (zAa (zAh h_p_turn (hr.mono (by decide)) rfl (zAa (pv 3) (zAa (pv 2) zAd))) (zAa (pv 5) zAd))) zAd))))
   (zAi (zAr (zAv zMw rfl Z.sorted zJy (zAa (zBo (zAa (zA0 (zAa (zAn zAg (pv 1) zAb (fun _ _=>rfl)) (zAa (zAn zAg (pv 6) zAb (fun _ _=>rfl)) zAd))) (zAa (zA0 (zAa (zAn zAg (pv 1) zAb (fun _ _=>rfl)) (zAa (zAn zAg (pv 6) zAb (fun _ _=>rfl)) zAd))) zAd))) zAd)))))))),?_⟩
 refine ⟨_,rfl,_,rfl,n,_,_,.int (i:Int),rfl,rfl,.inl hn,rfl,l,_,_,_,rfl,rfl,.inl hl,ats,?_⟩
 refine ⟨_,rfl,_,rfl,n,_,_,.int (j:Int),rfl,rfl,.inl hn,rfl,l,_,_,_,rfl,rfl,.inl hl,att,?_⟩
 refine ⟨_,rfl,_,rfl,s.1,t.1,_,_,s.2.1,s.2.2.1,t.2.1,t.2.2.1,rfl,es,et,rfl,rfl,rfl,rfl,by omega,by omega,?_⟩
 refine ⟨_,rfl,_,rfl,a,t.1,_,_,g.1,g.2.1,t.2.1,t.2.2.1,rfl,ha,et,rfl,rfl,rfl,rfl,by omega,by omega,_,rfl,tn g t.2,tn s.2 t.2,rfl,by omega,big,fun p1 x1 y1 H1 s1 hp1 ep1 pt1=>?_⟩
 refine ⟨_,rfl,_,rfl,s.1,a,_,_,s.2.1,s.2.2.1,g.1,g.2.1,rfl,es.same s1,ha.same s1,rfl,rfl,rfl,rfl,by omega,by omega,_,rfl,tn s.2 g,tn s.2 t.2,rfl,by omega,big,fun p2 x2 y2 H2 s2 hp2 ep2 pt2=>?_⟩
 refine ⟨(by show 2≤sizeLine; decide),fun sl hsl=>?_⟩
 have ssl:=zAe hsl (.lst [.ref p1,.ref p2])
 have esl:upd H2 sl (.lst [.ref p1,.ref p2]) sl = some (.lst [.ref p1,.ref p2]):=zAc
 generalize upd H2 sl (.lst [.ref p1,.ref p2]) = H3 at ssl esl ⊢
 have s03:=(s1.trans s2).trans ssl
 have hn3:=s03.seq hn
 refine ⟨_,rfl,n,_,_,.int (i:Int),rfl,rfl,.inl hn3,rfl,_,rfl,sl,_,_,.ref p1,rfl,rfl,.inl (SqL.of esl),rfl,(by show 2≤sizeLine; decide),fun a1 ha1=>?_⟩
 have sa1:=zAe ha1 (.tup [.int (i:Int),.ref p1])
 refine ⟨_,rfl,n,_,_,.int (j:Int),rfl,rfl,.inl (sa1.seq hn3),rfl,_,rfl,sl,_,_,.ref p2,rfl,rfl,.inl (SqL.of (sa1 _ _ esl)),rfl,(by show 2≤sizeLine; decide),fun a2 ha2=>?_⟩
 have sa2:=zAe ha2 (.tup [.int (j:Int),.ref p2])
 refine ⟨(by show 2≤sizeLine; decide),fun tl htl=>?_⟩
 have stl:=zAe htl (.lst [.ref a1,.ref a2])
 refine ⟨tl,a1,a2,(i:Int),(j:Int),_,_,rfl,SqL.of zAc,stl _ _ (sa2 _ _ zAc),stl _ _ zAc,by omega,fun D hD=>?_⟩
 have sD:=zAe hD (.lst (if (j:Int) < (i:Int) then [.ref a2,.ref a1] else [.ref a1,.ref a2]))
 have s37:=((sa1.trans sa2).trans stl).trans sD
 have w1:=s37 _ _ (ssl _ _ (s2 _ _ ep1))
 have w2:=s37 _ _ (ssl _ _ ep2)
 have v1:=sD _ _ (stl _ _ (sa2 _ _ (zAc (H:=H3) (a:=a1) (o:=.tup [.int (i:Int),.ref p1]))))
 have v2:=sD _ _ (stl _ _ (zAc (H:=upd H3 a1 (.tup [.int (i:Int),.ref p1])) (a:=a2) (o:=.tup [.int (j:Int),.ref p2])))
 have fr:=zVx (P:=P) gs gt hW hA hB pt1 pt2 (by omega) (by omega) (by omega) o1 o2 hij
 have frD:H D = none:=s03.free (sa1.free (sa2.free (stl.free hD)))
 by_cases c:j < i
 ·have c':(j:Int) < (i:Int):=by omega
  rw [if_pos c] at fr
  refine q D [(a2,(j:Int),p2,x2,y2),(a1,(i:Int),p1,x1,y1)] _ (s03.trans s37) frD (by rw [zAc,if_pos c']; rfl) (fun u hu=>?_) fr
  rcases List.mem_cons.mp hu with rfl | hu
  ·exact ⟨v2,w2⟩
  ·rw [List.mem_singleton] at hu
   subst hu
   exact ⟨v1,w1⟩
 ·have c':¬ (j:Int) < (i:Int):=by omega
  rw [if_neg c] at fr
  refine q D [(a1,(i:Int),p1,x1,y1),(a2,(j:Int),p2,x2,y2)] _ (s03.trans s37) frD (by rw [zAc,if_neg c']; rfl) (fun u hu=>?_) fr
  rcases List.mem_cons.mp hu with rfl | hu
  ·exact ⟨v1,w1⟩
  ·rw [List.mem_singleton] at hu
   subst hu
   exact ⟨v2,w2⟩
def zVi (ss:List Sd) (g:P3) (rs:List Sd):Prop:=∀ t∈rs,0 < tn t.2 g→∃ e∈ss,0 < tn t.2 e.2∧(∀ u∈ss,0 < tn t.2 u.2→sv u.2 (pt3 (crL t.2 e.2))≤0)∧¬ (0 < tn g e.2∧inW ss (pt3 (crL t.2 e.2)))
def zGm (K:PySem.W.Frag):Sp:=fun vs H Q _=>∃ (l a:Addr) (ss:List Sd) (g:P3),vs = [.ref l,.ref a]∧SqL K H l (zAm ss)∧SdOk H ss∧ss.length≤400∧Sq K H a [.int g.1,.int g.2.1]∧g.1.natAbs≤2 * 10 ^ 9∧g.2.1.natAbs≤2 * 10 ^ 9∧NoWay ss g ∧
 (∀ H':Hp,Same H H'→zVi ss g ss→Q .non H')∧FarQ H ss g Q
theorem zK3 (F:Fun K "far_by_two" "far_by_two" zDr f fd) (Z:Zs mg) (h_p_turn:Has P w K mg base "turn" 1 ["one", "other"] (zDe K)) (h_p_in_water:Has P w K mg base "in_water" 3 ["sides", "place"] (zFu K)) (h_p_weights_of_two:Has P w K mg base "weights_of_two" 5 ["sides", "numbers", "direction"] (zEm K)) (h_p_crossing:Has P w K mg base "crossing" 4 ["one", "other"] (zD4 K)) (h_p_edge_end:Has P w K mg base "edge_end" 5 ["sides", "edge", "hand"] (zEa K)):FnOk P w K mg base CX0 6 f fd ["sides", "direction"] (zGm K):=by
 refine F.ok zC1 (fun vs H Q E h=>?_) (fun cdv A outer s H vs Q E hr h=>?_)
 ·obtain ⟨l,a,ss,g,rfl,_⟩:=h
  rfl
 obtain ⟨l,a,ss,g,rfl,hl,ok,hlen,ha,m1,m2,nw,qn,q⟩:=h
 refine ⟨_,(zAf (zCz PassesOwn.never rfl (zC7 rfl Z.range (zAa (zAv zA1 rfl Z.len zB9 (zAa (pv 0) zAd)) zAd)) (zAq (i:=2) zC1.nd rfl (Or.inl rfl)) (zAf (zAw (i:=3) zC1.nd rfl (Or.inl rfl) (zAn zAg (pv 0) (pv 2) (fun _ _=>rfl)))
   (zAi (zA8 (zAu zI6 (zAh h_p_turn (hr.mono (by decide)) rfl (zAa (pv 3) (zAa (pv 1) zAd))) zAb (zAz _)) (zAf (zAw (i:=4) zC1.nd rfl (Or.inl rfl) (zAh h_p_edge_end (hr.mono (by decide)) rfl (zAa (pv 0) (zAa (pv 3) (zAa zAb zAd)))))
   (zAf (zAw (i:=5) zC1.nd rfl (Or.inl rfl) (zAh h_p_crossing (hr.mono (by decide)) rfl (zAa (pv 3) (zAa (zAn zAg (pv 0) (pv 4) (fun _ _=>rfl)) zAd))))
   (zAi (zA8 (PW.pt (zGb (zAu zI6 (zAh h_p_turn (hr.mono (by decide)) rfl (zAa (pv 1) (zAa (zAn zAg (pv 0) (pv 4) (fun _ _=>rfl)) zAd))) zAb (zAz _)) (zEp (zCv (zAh h_p_in_water (hr.mono (by decide)) rfl (zAa (pv 0) (zAa (pv 5) zAd))))))) (zAi (zAr (zA0 (zAa zDc (zAa (pv 5) (zAa (zAh h_p_weights_of_two (hr.mono (by decide)) rfl (zAa (pv 0) (zAa (zBo (zAa (pv 2) (zAa (pv 4) zAd))) (zAa (pv 1) zAd)))) zAd)))))) zAx)))) zAx))))
   (zAi (zAr zBm))),?_⟩
 refine ⟨_,rfl,l,_,rfl,.inl hl,_,rfl,(by rw [zAk]; omega),(by rw [zAk]; omega),zEq (lo:=0) (n:=(((zAm ss).length:Nat):Int).toNat) (fun i σ H'=>Same H H'∧zVi ss g (ss.take i)∧∃ u2 u3 u4 u5:Option V,σ = [some (.ref l),some (.ref a),u2,u3,u4,u5])
  ⟨Same.refl _,(fun t ht=>nomatch ht),none,none,none,none,rfl⟩ ?_ ?_⟩
 ·rintro i σ H' hi ⟨sH,bes,u2,u3,u4,u5,rfl⟩
  have hil:i < ss.length:=by rw [Int.toNat_natCast,zAk] at hi; exact hi
  obtain ⟨t,mt,gt,at'⟩:=zBg (ss:=ss) (i:=i) (k:=0 + (i:Int)) (by omega) hil
  obtain ⟨et0,nt,c1,c2,c3⟩:=ok t mt
  have et:Sq K H' t.1 [.int t.2.1,.int t.2.2.1,.int t.2.2.2]:=.inr (SqT.of (sH _ _ et0))
  have ha':=ha.same sH
  refine ⟨_,rfl,_,rfl,l,_,_,_,rfl,rfl,.inl (sH.seq hl),at',?_⟩
  refine ⟨_,rfl,_,rfl,t.1,a,_,_,t.2.1,t.2.2.1,g.1,g.2.1,rfl,et,ha',rfl,rfl,rfl,rfl,by omega,by omega,_,_,rfl,rfl,_,rfl,?_⟩
  refine ifD (fun h0=>?_) (fun h0=>?_)
  ·have h0':0 < tn t.2 g:=h0
   refine ⟨_,rfl,_,rfl,l,t.1,ss,t.2,1,rfl,sH.seq hl,ok.same sH,by omega,et,nt,c1,c2,c3,.inl rfl,fun r H1 s1 k1=>?_⟩
   cases r with
   | none =>
    have:=nw t mt 1 (.inl rfl) k1
    omega
   | some j =>
    obtain ⟨e,ge,he,hb⟩:=k1
    have he':0 < tn t.2 e.2:=by omega
    have hj:=(List.getElem?_eq_some_iff.mp ge).1
    obtain ⟨_,me,ge2,ate⟩:=zBg (ss:=ss) (i:=j) (k:=(j:Int)) rfl hj
    rw [ge] at ge2
    cases ge2
    obtain ⟨ee0,ne,d1,d2,d3⟩:=ok e me
    have sH1:=sH.trans s1
    have ee:Sq K H1 e.1 [.int e.2.1,.int e.2.2.1,.int e.2.2.2]:=.inr (SqT.of (sH1 _ _ ee0))
    have et1:=et.same s1
    refine ⟨_,rfl,_,rfl,_,rfl,l,_,_,_,rfl,rfl,.inl (sH1.seq hl),ate,t.1,e.1,t.2.1,t.2.2.1,t.2.2.2,e.2.1,e.2.2.1,e.2.2.2,rfl,et1,ee,by omega,by omega,by omega,by omega,by omega,fun z=>absurd z (show tn t.2 e.2≠0 by omega),fun _ p H2 s2 hp ep=>?_⟩
    obtain ⟨sp,o1,o2⟩:=zFa (show tn t.2 e.2≠0 by omega)
    have ep':SpAt H2 p (pt3 (crL t.2 e.2)):=by
     refine ⟨?_,sp.pos,sp.low⟩
     have z:H2 p = some (.tup ((crL t.2 e.2).map V.int)):=ep
     rw [z,sp.list]
     rfl
    have sH2:=sH1.trans s2
    have keep:¬ (0 < tn g e.2∧inW ss (pt3 (crL t.2 e.2)))→zVi ss g (ss.take (i + 1)):=fun hno u hu hg=>by
     rcases zD9 gt hu with hu | rfl
     ·exact bes u hu hg
     ·exact ⟨e,me,he',fun v hv hp=>hb v hv (by omega),hno⟩
    refine ⟨_,rfl,_,rfl,_,rfl,l,_,_,_,rfl,rfl,.inl (sH2.seq hl),ate,a,e.1,_,_,g.1,g.2.1,e.2.1,e.2.2.1,rfl,ha.same sH2,ee.same s2,rfl,rfl,rfl,rfl,by omega,by omega,_,_,rfl,rfl,_,rfl,?_⟩
    refine ifD (fun h1=>?_) (fun h1=>?_)
    ·have h1':0 < tn g e.2:=h1
     refine ⟨_,rfl,_,rfl,l,p,ss,pt3 (crL t.2 e.2),rfl,sH2.seq hl,ok.same sH2,.inr (SqT.of ep'.1),_,rfl,?_⟩
     by_cases hw:inWB ss (pt3 (crL t.2 e.2)) = true
     ·rw [hw]
      refine iteT ?_
      refine ⟨_,rfl,_,rfl,_,rfl,_,rfl,(by show 2≤sizeLine; decide),fun nl hnl=>?_⟩
      have snl:=zAe hnl (.lst [.int (0 + (i:Int)),.int (j:Int)])
      have enl:upd H2 nl (.lst [.int (0 + (i:Int)),.int (j:Int)]) nl = some (.lst [.int (i:Int),.int (j:Int)]):=by rw [zAc,Int.zero_add]
      have sH3:=sH2.trans snl
      refine ⟨_,rfl,l,nl,a,ss,g,pt3 (crL t.2 e.2),i,j,t,e,rfl,sH3.seq hl,ok.same sH3,SqL.of enl,ha.same sH3,m1,m2,gt,ge,he',h1',h0',o1,o2,fun D ws H4 s4 hD eD okw fr=>?_⟩
      refine ⟨(by show 3≤sizeLine; decide),fun ft hft=>?_⟩
      have sft:=zAe hft (.tup [.str "far", .ref p,.ref D])
      refine q ft p D (pt3 (crL t.2 e.2)) ws _ ((sH3.trans s4).trans sft) zAc ((ep'.same (snl.trans s4)).same sft) (zD5.mp hw) (.inr (.inr ⟨t,mt,e,me,by omega,rfl⟩)) (sH3.free hD) (sft _ _ eD) (okw.same sft) fr
     ·have hw':inWB ss (pt3 (crL t.2 e.2)) = false:=by simpa using hw
      rw [hw']
      refine iteF ?_
      exact ⟨sH2,keep (fun z=>hw (zD5.mpr z.2)),_,_,_,_,rfl⟩
    ·refine iteF ?_
     exact ⟨sH2,keep (fun z=>h1 z.1),_,_,_,_,rfl⟩
  ·refine ⟨sH,fun u hu hg=>?_,_,_,_,_,rfl⟩
   rcases zD9 gt hu with hu | rfl
   ·exact bes u hu hg
   ·exact absurd hg h0
 ·rintro σ H' ⟨sH,bes,u2,u3,u4,u5,rfl⟩
  rw [Int.toNat_natCast,zAk,List.take_length] at bes
  exact qn H' sH bes
def zLx (K:PySem.W.Frag):Sp:=fun vs H Q _=>∃ (l a:Addr) (ss:List Sd) (g:P3),vs = [.ref l,.ref a]∧SqL K H l (zAm ss)∧SdOk H ss∧ss.length≤400∧Sq K H a [.int g.1,.int g.2.1]∧(g.1≠0∨g.2.1≠0)∧g.1.natAbs≤2 * 10 ^ 9∧g.2.1.natAbs≤2 * 10 ^ 9 ∧
 (∀ (t D:Addr) (cs:List Pr) (H':Hp),Same H H'→H' t = some (.tup [.str "none", .ref D])→H D = none→H' D = some (.lst (zAo cs))→PrAt H' cs→zG7 ss (cs.map (·.2))→Q (.ref t) H') ∧
 (∀ (t p:Addr) (x y:Int) (Z:P3) (H':Hp),Same H H'→H' t = some (.tup [.str "open", .ref p])→H' p = some (.tup [.int x,.int y])→Nat.gcd x.natAbs y.natAbs = 1→0 < g.1 * x + g.2.1 * y→wayB ss x y = true→x.natAbs≤2 * 10 ^ 9→y.natAbs≤2 * 10 ^ 9→0 < Z.2.2→inW ss Z→Cand ss Z→Q (.ref t) H')∧FarQ H ss g Q
theorem zQd (F:Fun K "reach" "reach" zHv f fd) (Z:Zs mg) (h_p_far_by_one:Has P w K mg base "far_by_one" 8 ["sides", "direction"] (zGg K)) (h_p_far_by_two:Has P w K mg base "far_by_two" 6 ["sides", "direction"] (zGm K)) (h_p_way_onward:Has P w K mg base "way_onward" 5 ["sides", "direction"] (zGh K)) (h_p_clash:Has P w K mg base "clash" 9 ["sides"] (zIg K)):FnOk P w K mg base CX0 10 f fd ["sides", "direction"] (zLx K):=by
 refine F.ok zIf (fun vs H Q E h=>?_) (fun cdv A outer s H vs Q E hr h=>?_)
 ·obtain ⟨l,a,ss,g,rfl,_⟩:=h
  rfl
 obtain ⟨l,a,ss,g,rfl,hl,ok,hlen,ha,gz,m1,m2,qc,qo,qf⟩:=h
 have nz:∀ t∈ss,t.2.1≠0∨t.2.2.1≠0:=fun t ht=>(ok t ht).2.1
 refine ⟨_,(zAf (zAw (i:=2) zIf.nd rfl (Or.inl rfl) (zAh h_p_clash (hr.mono (by decide)) rfl (zAa (pv 0) zAd)))
   (zAf (zA8 (zAu zGv (pv 2) zBm (zAz _)) (zAi (zAr (zA0 (zAa zDc (zAa (pv 2) zAd))))) zAx)
   (zAf (zAw (i:=3) zIf.nd rfl (Or.inl rfl) (zAh h_p_way_onward (hr.mono (by decide)) rfl (zAa (pv 0) (zAa (pv 1) zAd))))
   (zAf (zA8 (zAu zGv (pv 3) zBm (zAz _)) (zAi (zAr (zA0 (zAa zDc (zAa (pv 3) zAd))))) zAx)
   (zAi (zAr (pe_orT (zAh h_p_far_by_one (hr.mono (by decide)) rfl (zAa (pv 0) (zAa (pv 1) zAd))) (zIx (zAh h_p_far_by_two (hr.mono (by decide)) rfl (zAa (pv 0) (zAa (pv 1) zAd))))))))))),?_⟩
 refine ⟨_,rfl,l,ss,rfl,hl,ok,by omega,fun P0 H1 s1 pw wp cp=>?_,fun D cs H1 s1 hD eD okc cl=>?_⟩
 ·refine ⟨_,rfl,rfl,_,rfl,?_⟩
  refine iteF ?_
  refine ⟨_,rfl,_,rfl,l,a,ss,g,rfl,s1.seq hl,ok.same s1,hlen,ha.same s1,gz,m1,m2,fun H2 s2 nw nl=>?_,fun p x y H2 s2 ep low pos hw bx by'=>?_⟩
  ·refine ⟨_,rfl,rfl,_,rfl,?_⟩
   refine iteF ?_
   have s12:=s1.trans s2
   refine ⟨_,rfl,_,rfl,l,a,ss,g,rfl,s12.seq hl,ok.same s12,hlen,ha.same s12,gz,m1,m2,fun H3 s3 b1=>?_,fun ft p D P ws H3 s3 ef ep wP cP hD eD okw fr=>?_⟩
   ·refine ⟨false,rfl,?_⟩
    refine iteF ?_
    have s13:=s12.trans s3
    refine ⟨_,rfl,_,rfl,l,a,ss,g,rfl,s13.seq hl,ok.same s13,hlen,ha.same s13,m1,m2,nw,fun H4 s4 b2=>?_,fun ft p D P ws H4 s4 ef ep wP cP hD eD okw fr=>?_⟩
    ·exact (no_far ⟨nz,gz,nw,nl,b1⟩ b2 pw wp).elim
    ·exact qf ft p D P ws H4 (s13.trans s4) ef ep wP cP (s13.free hD) eD okw fr
   ·refine ⟨true,.inr (.inl ⟨_,SqT.of ef,rfl⟩),?_⟩
    refine iteT ?_
    exact qf ft p D P ws H3 (s12.trans s3) ef ep wP cP (s12.free hD) eD okw fr
  ·refine ⟨_,rfl,rfl,_,rfl,?_⟩
   refine iteT ?_
   refine ⟨_,rfl,(by show 2≤sizeLine; decide),fun t ht=>?_⟩
   have st:=zAe ht (.tup [.str "open", .ref p])
   exact qo t p x y P0 _ ((s1.trans s2).trans st) zAc (st _ _ ep) low pos hw bx by' pw wp cp
 ·refine ⟨_,rfl,rfl,_,rfl,?_⟩
  refine iteT ?_
  refine ⟨_,rfl,(by show 2≤sizeLine; decide),fun t ht=>?_⟩
  have st:=zAe ht (.tup [.str "none", .ref D])
  exact qc t D cs _ (s1.trans st) zAc hD (st _ _ eD) (okc.same st) cl
def zF0 (K:PySem.W.Frag):Sp:=fun vs H Q _=>∃ (a b:Addr) (x1 y1 x2 y2:Int),vs = [.ref a,.ref b]∧Sq K H a [.int x1,.int y1]∧Sq K H b [.int x2,.int y2] ∧
 ∀ p,H p = none→Q (.ref p) (upd H p (.tup [.int (x2 - x1),.int (y2 - y1)]))
theorem zI2 (F:Fun K "stretch_way" "stretch_way" zDh f fd) (Z:Zs mg)  : FnOk P w K mg base CX0 1 f fd ["start", "end"] (zF0 K):=by
 refine F.ok zI9 (fun vs H Q E h=>?_) (fun cdv A outer s H vs Q E hr h=>?_)
 ·obtain ⟨a,b,x1,y1,x2,y2,rfl,_⟩:=h
  rfl
 obtain ⟨a,b,x1,y1,x2,y2,rfl,ha,hb,q⟩:=h
 refine ⟨_,(zAi (zAr (zA0 (zAa (zAl zA6 (zAn zAg (pv 1) zAb (fun _ _=>rfl)) (zAn zAg (pv 0) zAb (fun _ _=>rfl))) (zAa (zAl zA6 (zAn zAg (pv 1) zAb (fun _ _=>rfl)) (zAn zAg (pv 0) zAb (fun _ _=>rfl))) zAd))))),?_⟩
 exact ⟨_,rfl,b,_,_,.int x2,rfl,rfl,hb,rfl,_,rfl,a,_,_,.int x1,rfl,rfl,ha,rfl,_,_,rfl,rfl,
  _,rfl,b,_,_,.int y2,rfl,rfl,hb,rfl,_,rfl,a,_,_,.int y1,rfl,rfl,ha,rfl,_,_,rfl,rfl,(by show 2≤sizeLine; decide),fun p hp=>q p hp⟩
theorem low3k {D0 D1 D2:Int} (n:D0≠0∨D1≠0) (m0:D0.natAbs≤10 ^ 9) (m1:D1.natAbs≤10 ^ 9):0 < gcdL [D0,D1,D2]∧(gcdL [D0,D1,D2]:Int)≤10 ^ 9∧(gcdL [D0,D1,D2]:Int) < 10 ^ 600:=by
 have gp:0 < gcdL [D0,D1,D2]:=by
  rcases n with n | n
  ·exact zBz (n:=D0) (by simp) n
  ·exact zBz (n:=D1) (by simp) n
 have z:(gcdL [D0,D1,D2]:Int)≤10 ^ 9:=by
  rcases n with n | n
  ·have:=zFp (ns:=[D0,D1,D2]) (n:=D0) (by simp) n
   omega
  ·have:=zFp (ns:=[D0,D1,D2]) (n:=D1) (by simp) n
   omega
 exact ⟨gp,z,Int.lt_of_le_of_lt z (by decide +kernel)⟩
def zE8 (K:PySem.W.Frag):Sp:=fun vs H Q _=>∃ (a b:Addr) (u v:Int × Int),vs = [.ref a,.ref b]∧Sq K H a [.int u.1,.int u.2]∧Sq K H b [.int v.1,.int v.2]∧u≠v∧u.1.natAbs≤10 ^ 6∧u.2.natAbs≤10 ^ 6∧v.1.natAbs≤10 ^ 6∧v.2.natAbs≤10 ^ 6 ∧
 ∀ (p:Addr) (H':Hp),Same H H'→H p = none→H' p = some (.tup ((lowL (zBk u v)).map V.int))→Q (.ref p) H'
theorem zIi (F:Fun K "stretch_side" "stretch_side" zC8 f fd) (Z:Zs mg) (h_p_plain_side:Has P w K mg base "plain_side" 3 ["side"] (zGr K)) (h_p_turn:Has P w K mg base "turn" 1 ["one", "other"] (zDe K)) (h_p_stretch_way:Has P w K mg base "stretch_way" 1 ["start", "end"] (zF0 K)):FnOk P w K mg base CX0 4 f fd ["start", "end"] (zE8 K):=by
 refine F.ok zFb (fun vs H Q E h=>?_) (fun cdv A outer s H vs Q E hr h=>?_)
 ·obtain ⟨a,b,u,v,rfl,_⟩:=h
  rfl
 obtain ⟨a,b,u,v,rfl,ha,hb,hne,m1,m2,m3,m4,q⟩:=h
 refine ⟨_,(zAf (zAw (i:=2) zFb.nd rfl (Or.inl rfl) (zAh h_p_stretch_way (hr.mono (by decide)) rfl (zAa (pv 0) (zAa (pv 1) zAd))))
   (zAi (zAr (zAh h_p_plain_side (hr.mono (by decide)) rfl (zAa (zA0 (zAa (zAn zAg (pv 2) zAb (fun _ _=>rfl)) (zAa (zB6 zBc (zAn zAg (pv 2) zAb (fun _ _=>rfl))) (zAa (zAh h_p_turn (hr.mono (by decide)) rfl (zAa (pv 0) (zAa (pv 2) zAd))) zAd)))) zAd))))),?_⟩
 refine ⟨_,rfl,_,rfl,a,b,u.1,u.2,v.1,v.2,rfl,ha,hb,fun d hd=>?_⟩
 have sd:Same H (upd H d (.tup [.int (v.1 - u.1),.int (v.2 - u.2)])):=zAe hd _
 have ed:Sq K (upd H d (.tup [.int (v.1 - u.1),.int (v.2 - u.2)])) d [.int (v.1 - u.1),.int (v.2 - u.2)]:=.inr (SqT.of zAc)
 have nn:v.2 - u.2≠0∨-(v.1 - u.1)≠0:=by
  by_cases h1:v.2 - u.2 = 0
  ·right
   intro h2
   exact hne (Prod.ext (by omega) (by omega))
  ·exact .inl h1
 obtain ⟨g1,_,g2⟩:=low3k (D0:=v.2 - u.2) (D1:=-(v.1 - u.1)) (D2:=u.1 * (v.2 - u.2) - u.2 * (v.1 - u.1)) nn (by omega) (by omega)
 refine ⟨_,rfl,d,_,_,_,rfl,rfl,ed,rfl,_,rfl,d,_,_,_,rfl,rfl,ed,rfl,_,rfl,_,rfl,_,rfl,a,d,_,_,u.1,u.2,v.1 - u.1,v.2 - u.2,rfl,ha.same sd,ed,rfl,rfl,rfl,rfl,by omega,by omega,(by show 3≤sizeLine; decide),fun t ht=>?_⟩
 have st:=zAe ht (.tup [.int (v.2 - u.2),.int (-(v.1 - u.1)),.int (u.1 * (v.2 - u.2) - u.2 * (v.1 - u.1))])
 refine ⟨t,zBk u v,rfl,.inr (SqT.of zAc),by show 3≤1000; decide,g1,g2,fun p H3 s3 hp e3=>?_⟩
 exact q p H3 ((sd.trans st).trans s3) ((sd.trans st).free hp) e3
theorem zWg (ps:List Pr) (k:Nat):cutV (zAo ps) (some (k:Int)) none = zAo (ps.drop k)∧cutV (zAo ps) none (some (k:Int)) = zAo (ps.take k):=by
 refine ⟨?_,zH1 ps k⟩
 unfold cutV
 rw [HT.sIx_nat (zAo ps).length 0 k,show HT.sIx (zAo ps).length (zAo ps).length none = (zAo ps).length from rfl,List.take_of_length_le (by rw [List.length_drop] <;> omega)]
 rw [zAt]
 simp only [zAo,← List.map_drop]
 congr 2
 by_cases h:k≤ps.length
 ·rw [Nat.min_eq_left h]
 ·rw [Nat.min_eq_right (by omega),List.drop_length,List.drop_eq_nil_of_le (by omega)]
def zGk (H:Hp) (ss:List Addr) (vs:List (Int × Int)) (m:Nat):Prop:=ss.length = m∧∀ i < m,∃ p,ss[i]? = some p∧H p = some (.tup ((lowL (zBk (atP vs i) (atP vs ((i + 1) % vs.length)))).map V.int))
theorem zGk.same {H H':Hp} {ss:List Addr} {vs:List (Int × Int)} {m:Nat} (h:zGk H ss vs m) (s:Same H H'):zGk H' ss vs m :=
 ⟨h.1,fun i hi=>by
  obtain ⟨p,e1,e2⟩:=h.2 i hi
  exact ⟨p,e1,s _ _ e2⟩⟩
theorem zKj {ps:List Pr} {i:Nat} {t:Pr} (h:ps[i]? = some t):atP (ps.map (·.2)) i = t.2:=by
 unfold atP
 rw [List.getElem?_map,h]
 rfl
def zGt (K:PySem.W.Frag):Sp:=fun vs H Q _=>∃ (l:Addr) (ps:List Pr),vs = [.ref l]∧H l = some (.lst (zAo ps))∧PrOk H (10 ^ 6) ps∧3≤ps.length∧ps.length≤8 ∧
 (∀ i < ps.length,atP (ps.map (·.2)) i≠atP (ps.map (·.2)) ((i + 1) % ps.length)) ∧
 ∀ (D:Addr) (ss:List Addr) (H':Hp),Same H H'→H D = none→H' D = some (.lst (ss.map V.ref))→zGk H' ss (ps.map (·.2)) ps.length→Q (.ref D) H'
theorem zKp (F:Fun K "bank_sides" "bank_sides" zDt f fd) (Z:Zs mg) (h_p_stretch_side:Has P w K mg base "stretch_side" 4 ["start", "end"] (zE8 K)):FnOk P w K mg base CX0 5 f fd ["corners"] (zGt K):=by
 refine F.ok zF9 (fun vs H Q E h=>?_) (fun cdv A outer s H vs Q E hr h=>?_)
 ·obtain ⟨l,ps,rfl,_⟩:=h
  rfl
 obtain ⟨l,ps,rfl,el,pk,n3,n8,hne,q⟩:=h
 refine ⟨_,(zAf (zAw (i:=1) zF9.nd rfl (Or.inr rfl) (zAl zEv (zBy zCy (pv 0) (zCo zAb) zCn) (zBy zCy (pv 0) zCn (zCo zAb))))
   (zAi (zAr (zC0 (T:=["number"]) (caps:=[("corners", 0),("following", 1)]) ⟨rfl,by decide +kernel,by decide +kernel,rfl,⟨⟨rfl,rfl,Or.inl rfl⟩,⟨rfl,rfl,Or.inl rfl⟩,True.intro⟩⟩ rfl (zC7 rfl Z.range (zAa (zAv zA1 rfl Z.len zB9 (zAa (pv 0) zAd)) zAd)) (fun _=>(zAq (i:=0) (show (["number", "corners", "following"]:List Str).Nodup by decide +kernel) rfl (Or.inl rfl))) (fun _=>zBl) (fun _=>(zAh h_p_stretch_side (hr.mono (by decide)) rfl (zAa (zAn zAg (pv 1) (pv 0) (fun _ _=>rfl)) (zAa (zAn zAg (pv 2) (pv 0) (fun _ _=>rfl)) zAd)))))))),?_⟩
 obtain ⟨c1,c2⟩:=zWg ps 1
 refine ⟨_,rfl,_,rfl,l,_,rfl,SqL.of el,fun f1 hf1=>?_⟩
 rw [show cutV (zAo ps) (some 1) none = zAo (ps.drop 1) from c1]
 have sf1:=zAe hf1 (.lst (zAo (ps.drop 1)))
 refine ⟨_,rfl,_,rfl,l,_,rfl,SqL.of (sf1 _ _ el),fun f2 hf2=>?_⟩
 rw [show cutV (zAo ps) none (some 1) = zAo (ps.take 1) from c2]
 have sf2:=zAe hf2 (.lst (zAo (ps.take 1)))
 refine ⟨f1,f2,_,_,rfl,rfl,sf2 _ _ zAc,zAc,small (by rw [zAt,zAt,List.length_drop,List.length_take]; omega),fun g hg=>?_⟩
 have sA:=(sf1.trans sf2).trans (zAe hg (.lst (zAo (ps.drop 1) ++ zAo (ps.take 1))))
 have eg:upd (upd (upd H f1 (.lst (zAo (ps.drop 1)))) f2 (.lst (zAo (ps.take 1)))) g (.lst (zAo (ps.drop 1) ++ zAo (ps.take 1))) g = some (.lst (zAo (ps.drop 1 ++ ps.take 1))):=by rw [zAc,zEf]
 generalize upd (upd (upd H f1 (.lst (zAo (ps.drop 1)))) f2 (.lst (zAo (ps.take 1)))) g (.lst (zAo (ps.drop 1) ++ zAo (ps.take 1))) = H1 at sA eg ⊢
 have el1:=sA _ _ el
 have pk1:=pk.same sA
 have nf:(ps.drop 1 ++ ps.take 1).length = ps.length:=by rw [List.length_append,List.length_drop,List.length_take]; omega
 have getf:∀ i,i < ps.length→(ps.drop 1 ++ ps.take 1)[i]? = ps[(i + 1) % ps.length]?:=fun i hi=>by
  by_cases h:i + 1 < ps.length
  ·rw [List.getElem?_append_left (by rw [List.length_drop]; omega),List.getElem?_drop,Nat.mod_eq_of_lt h,Nat.add_comm]
  ·rw [List.getElem?_append_right (by rw [List.length_drop]; omega),List.length_drop,List.getElem?_take,if_pos (by omega)]
   congr 1
   rw [show i + 1 = ps.length by omega,Nat.mod_self]
   omega
 refine ⟨_,rfl,l,_,rfl,.inl (SqL.of el1),_,rfl,(by rw [zAt]; omega),(by rw [zAt]; omega),fun c D hD=>?_⟩
 refine zHl (lo:=0) (n:=(((zAo ps).length:Nat):Int).toNat) (fun j σ zs H'=>Same H1 H'∧H' D = some (.lst zs)∧(∃ ss:List Addr,zs = ss.map V.ref∧zGk H' ss (ps.map (·.2)) j)∧∃ u0:Option V,σ = [u0,some (.ref l),some (.ref g)])
  ⟨zAe hD _,zAc,⟨[],rfl,rfl,fun i hi=>absurd hi (Nat.not_lt_zero _)⟩,none,rfl⟩ (fun i σ ys H' _ ⟨_,e,_⟩=>e) ?_ ?_
 ·rintro j σ zs H' hj ⟨sH,eD,⟨ss,rfl,hss⟩,u0,rfl⟩
  have hjn:j < ps.length:=by rw [Int.toNat_natCast,zAt] at hj; exact hj
  obtain ⟨t0,m0,g0,a0⟩:=zF5 (ps:=ps) (i:=j) (k:=0 + (j:Int)) (by omega) hjn
  obtain ⟨t1,m1,g1,a1⟩:=zF5 (ps:=ps.drop 1 ++ ps.take 1) (i:=j) (k:=0 + (j:Int)) (by omega) (by omega)
  rw [getf j hjn] at g1
  have m1':t1∈ps:=List.mem_of_getElem? g1
  obtain ⟨e0,b00,b01⟩:=pk1 t0 m0
  obtain ⟨e1,b10,b11⟩:=pk1 t1 m1'
  have p0:=zKj g0
  have p1:=zKj g1
  have hn:=hne j hjn
  rw [p0,p1] at hn
  refine ⟨_,rfl,_,rfl,l,_,_,_,rfl,rfl,.inl (SqL.of (sH _ _ el1)),a0,_,rfl,_,rfl,g,_,_,_,rfl,rfl,.inl (SqL.of (sH _ _ eg)),a1,t0.1,t1.1,t0.2,t1.2,rfl,.inr (SqT.of (sH _ _ e0)),.inr (SqT.of (sH _ _ e1)),hn,b00,b01,b10,b11,fun p H2 s2 hp ep=>?_⟩
  have nD:p≠D:=fun z=>by rw [z,eD] at hp; cases hp
  refine ⟨s2 _ _ eD,zA3 (by rw [List.length_map,hss.1]; omega),(sH.trans s2).putNew hD,zAc,⟨ss ++ [p],by rw [List.map_append]; rfl,by rw [List.length_append,hss.1]; rfl,fun i hi=>?_⟩,_,rfl⟩
  by_cases hij:i = j
  ·refine ⟨p,?_,?_⟩
   ·rw [hij,List.getElem?_append_right (by rw [hss.1]; omega),hss.1,Nat.sub_self]
    rfl
   ·rw [zA5 nD,hij,List.length_map,p0,p1]
    exact ep
  ·obtain ⟨p',e1',e2'⟩:=hss.2 i (by omega)
   refine ⟨p',?_,?_⟩
   ·rw [List.getElem?_append_left (by rw [hss.1]; omega)]
    exact e1'
   ·rw [zA5 (zIb e2' eD (by intro z; cases z))]
    exact s2 _ _ e2'
 ·rintro σ zs H' ⟨sH,eD,⟨ss,rfl,hss⟩,u0,rfl⟩
  rw [Int.toNat_natCast,zAt] at hss
  exact q D ss H' (sA.trans sH) (sA.free hD) eD hss
def zEn (K:PySem.W.Frag):Sp:=fun vs H Q _=>∃ (l D0:Addr) (ss:List Sd) (cs:List Pr),vs = [.ref l,.ref D0]∧SqL K H l (zAm ss)∧SdOk H ss∧H D0 = some (.lst (zAo cs))∧PrAt H cs∧cs.length≤900∧(∀ c∈cs,0≤c.2.1) ∧
 ∀ (T d L:Addr) (ws:List Wo) (H':Hp),Same H H'→H' T = some (.tup [.str "cannot", .ref d,.ref L])→H' d = some (.tup [.int (sumF ss (fAt 0) ((zCr ss.length cs).map (·.2)) 0),.int (sumF ss (fAt 1) ((zCr ss.length cs).map (·.2)) 0)]) →
  H' L = some (.lst (zK1 ws))→WoAt H' ws→ws.map (·.2.2) = (zCr ss.length cs).map (·.2)→Q (.ref T) H'
theorem zHm (F:Fun K "word_of_cannot" "word_of_cannot" zCq f fd) (Z:Zs mg) (h_p_part:Has P w K mg base "part" 4 ["top", "bottom"] (zH7 K)):FnOk P w K mg base CX0 5 f fd ["sides", "shown"] (zEn K):=by
 refine F.ok zCh (fun vs H Q E h=>?_) (fun cdv A outer s H vs Q E hr h=>?_)
 ·obtain ⟨l,D0,ss,cs,rfl,_⟩:=h
  rfl
 obtain ⟨l,D0,ss,cs,rfl,hl,ok,eD0,okc,h900,c0,q⟩:=h
 have nl:=zAk ss
 refine ⟨_,(zAf (zE7 (T:=["pair"]) (caps:=[("sides", 0)]) (i:=2) zCh.nd rfl rfl ⟨rfl,by decide +kernel,by decide +kernel,rfl,⟨⟨rfl,rfl,Or.inl rfl⟩,True.intro⟩⟩ rfl (zCc (pv 1)) (fun _=>(zAq (i:=0) (show (["pair", "sides"]:List Str).Nodup by decide +kernel) rfl (Or.inl rfl))) (fun _=>(zPc (zAu zF4 (zAn zAg (pv 0) zAb (fun _ _=>rfl)) (zAv zA1 rfl Z.len zB9 (zAa (pv 1) zAd)) (zAz _)))) (fun _=>(pv 0)))
   (zAf (zAw (i:=3) zCh.nd rfl (Or.inl rfl) (zAv (zNm rfl) rfl Z.sum zVe (zAa (zC0 (T:=["pair"]) (caps:=[("sides", 0)]) ⟨rfl,by decide +kernel,by decide +kernel,rfl,⟨⟨rfl,rfl,Or.inl rfl⟩,True.intro⟩⟩ rfl (zCc (pv 2)) (fun _=>(zAq (i:=0) (show (["pair", "sides"]:List Str).Nodup by decide +kernel) rfl (Or.inl rfl))) (fun _=>zBl) (fun _=>(zAl zA2 (zAn zAg (pv 0) zAb (fun _ _=>rfl)) (zAn zAg (zAn zAg (pv 1) (zAn zAg (pv 0) zAb (fun _ _=>rfl)) (fun _ _=>rfl)) zAb (fun _ _=>rfl))))) zAd)))
   (zAf (zAw (i:=4) zCh.nd rfl (Or.inl rfl) (zAv (zNm rfl) rfl Z.sum zVe (zAa (zC0 (T:=["pair"]) (caps:=[("sides", 0)]) ⟨rfl,by decide +kernel,by decide +kernel,rfl,⟨⟨rfl,rfl,Or.inl rfl⟩,True.intro⟩⟩ rfl (zCc (pv 2)) (fun _=>(zAq (i:=0) (show (["pair", "sides"]:List Str).Nodup by decide +kernel) rfl (Or.inl rfl))) (fun _=>zBl) (fun _=>(zAl zA2 (zAn zAg (pv 0) zAb (fun _ _=>rfl)) (zAn zAg (zAn zAg (pv 1) (zAn zAg (pv 0) zAb (fun _ _=>rfl)) (fun _ _=>rfl)) zAb (fun _ _=>rfl))))) zAd)))
   (zAi (zAr (zA0 (zAa zDc (zAa (zA0 (zAa (pv 3) (zAa (pv 4) zAd))) (zAa (zC0 (T:=["pair"]) (caps:=[]) ⟨rfl,by decide +kernel,by decide +kernel,rfl,True.intro⟩ rfl (zCc (pv 2)) (fun _=>(zAq (i:=0) (show (["pair"]:List Str).Nodup by decide +kernel) rfl (Or.inl rfl))) (fun _=>zBl) (fun _=>(zA0 (zAa (zAn zAg (pv 0) zAb (fun _ _=>rfl)) (zAa (zAh h_p_part (hr.mono (by decide)) rfl (zAa (zAn zAg (pv 0) zAb (fun _ _=>rfl)) (zAa zAb zAd))) zAd))))) zAd))))))))),?_⟩
 refine ⟨_,rfl,D0,rfl,.inl ⟨⟨_,SqL.of eD0⟩,fun cc D hD=>zKu (K:=K) (a:=D0) (xs:=zAo cs) (fun j σ ys G=>Same H G∧G D = some (.lst ys)∧ys = zAo (zCr ss.length (cs.take j))∧∃ u0:Option V,σ = [u0,some (.ref l)])
  ⟨zAe hD _,zAc,rfl,none,rfl⟩ (fun j σ ys G _ ⟨e,e2,_⟩=>⟨e.seq (SqL.of eD0),e2⟩) ?_ ?_⟩⟩
 ·rintro j x σ ys G hj ⟨sG,eY,rfl,u0,rfl⟩
  obtain ⟨t,gt,rfl,hjl⟩:=zFg hj
  have et:=sG _ _ (okc t (List.mem_of_getElem? gt))
  refine ⟨_,rfl,t.1,_,_,.int t.2.1,rfl,rfl,.inr (SqT.of et),rfl,_,rfl,l,_,rfl,.inl (sG.seq hl),_,_,rfl,rfl,_,rfl,?_⟩
  rw [nl]
  have e1:cs.take (j + 1) = cs.take j ++ [t]:=by rw [List.take_succ,gt]; rfl
  refine ifD (fun h1=>?_) (fun h1=>?_)
  ·have e2:zCr ss.length (cs.take (j + 1)) = zCr ss.length (cs.take j) ++ [t]:=by
    unfold zCr
    rw [e1,List.filter_append,List.filter_cons,decide_eq_true h1]
    rfl
   refine ⟨_,rfl,eY,zA3 (by rw [zAt]; exact Nat.le_trans (List.length_filter_le _ _) (by rw [List.length_take]; omega)),sG.putNew hD,zAc,?_,_,rfl⟩
   rw [e2,zEf]
   rfl
  ·have e2:zCr ss.length (cs.take (j + 1)) = zCr ss.length (cs.take j):=by
    unfold zCr
    rw [e1,List.filter_append,List.filter_cons,decide_eq_false h1]
    simp
   exact ⟨sG,eY,by rw [e2],_,rfl⟩
 rintro σ ys G1 ⟨s1,eD1,rfl,u0,rfl⟩
 rw [zAt,List.take_length] at eD1
 have oks:PrAt G1 (zCr ss.length cs):=fun t ht=>s1 _ _ (okc t (List.mem_filter.mp ht).1)
 have rg:∀ t∈zCr ss.length cs,0≤t.2.1∧t.2.1 < (ss.length:Int):=fun t ht=>⟨c0 t (List.mem_filter.mp ht).1,of_decide_eq_true (List.mem_filter.mp ht).2⟩
 have nsh:(zCr ss.length cs).length≤900:=Nat.le_trans (List.length_filter_le _ _) h900
 have hl:=s1.seq hl
 have ok:=ok.same s1
 have eqs:∀ k:Int,((zCr ss.length cs).map fun c=>c.2.2 * zBi ss (fAt k) c.2.1).sum = sumF ss (fAt k) ((zCr ss.length cs).map (·.2)) 0:=fun k=>by
  rw [zS8,List.map_map,Int.zero_add]
  rfl
 generalize zCr ss.length cs = sh at oks rg nsh eqs q eD1
 have s00:Same G1 G1:=Same.refl _
 refine ⟨_,rfl,D,rfl,.inl ⟨⟨_,SqL.of eD1⟩,fun cc E1 hD=>zBj (K:=K) (a:=D) (xs:=zAo sh) (fun j σ ys G=>Same G1 G∧G E1 = some (.lst ys)∧ys = ((sh.take j).map fun c=>c.2.2 * zBi ss (fAt 0) c.2.1).map V.int∧∃ u0:Option V,σ = [u0,some (.ref l)])
  ⟨zAe hD _,zAc,rfl,none,rfl⟩ (fun j σ ys G _ ⟨e,e2,_⟩=>⟨e.seq (SqL.of eD1),e2⟩) ?_ ?_⟩⟩
 ·rintro j x σ ys G hj ⟨sG,eY,rfl,u0,rfl⟩
  obtain ⟨t,gt,rfl,hjl⟩:=zFg hj
  have mt:=List.mem_of_getElem? gt
  have s0:=s00.trans sG
  have et:=s0 _ _ (oks t mt)
  obtain ⟨r0,r1⟩:=rg t mt
  obtain ⟨sd,msd,gsd,asd⟩:=zBg (ss:=ss) (i:=t.2.1.toNat) (k:=t.2.1) (by omega) (by omega)
  obtain ⟨es,_,b1,b2,_⟩:=(ok.same s0) sd msd
  have ef:zBi ss (fAt 0) t.2.1 = sd.2.1:=by
   unfold zBi
   rw [gsd]
   rfl
  have sq:Sq K G t.1 [.int t.2.1,.int t.2.2]:=.inr (SqT.of et)
  refine ⟨_,rfl,t.1,_,_,.int t.2.2,rfl,rfl,sq,rfl,_,rfl,_,rfl,t.1,_,_,.int t.2.1,rfl,rfl,sq,rfl,l,_,_,.ref sd.1,rfl,rfl,.inl (s0.seq hl),asd,sd.1,_,_,.int sd.2.1,rfl,rfl,.inr (SqT.of es),rfl,_,_,rfl,rfl,cm_r (by omega),eY,?_⟩
  refine ⟨zA3 (by rw [List.length_map,List.length_map,List.length_take]; omega),sG.putNew hD,zAc,?_,_,rfl⟩
  rw [List.take_succ,gt,List.map_append,List.map_append,← ef]
  rfl
 rintro σ ys G2 ⟨s2,eE1,rfl,u1,rfl⟩
 rw [zAt,List.take_length] at eE1
 refine ⟨E1,_,rfl,SqL.of eE1,?_⟩
 rw [eqs 0]
 have eD2:=s2 _ _ eD1
 refine ⟨_,rfl,D,rfl,.inl ⟨⟨_,SqL.of eD2⟩,fun cc N1 hD=>zBj (K:=K) (a:=D) (xs:=zAo sh) (fun j σ ys G=>Same G2 G∧G N1 = some (.lst ys)∧ys = ((sh.take j).map fun c=>c.2.2 * zBi ss (fAt 1) c.2.1).map V.int∧∃ u0:Option V,σ = [u0,some (.ref l)])
  ⟨zAe hD _,zAc,rfl,none,rfl⟩ (fun j σ ys G _ ⟨e,e2,_⟩=>⟨e.seq (SqL.of eD2),e2⟩) ?_ ?_⟩⟩
 ·rintro j x σ ys G hj ⟨sG,eY,rfl,u0,rfl⟩
  obtain ⟨t,gt,rfl,hjl⟩:=zFg hj
  have mt:=List.mem_of_getElem? gt
  have s0:=s2.trans sG
  have et:=s0 _ _ (oks t mt)
  obtain ⟨r0,r1⟩:=rg t mt
  obtain ⟨sd,msd,gsd,asd⟩:=zBg (ss:=ss) (i:=t.2.1.toNat) (k:=t.2.1) (by omega) (by omega)
  obtain ⟨es,_,b1,b2,_⟩:=(ok.same s0) sd msd
  have ef:zBi ss (fAt 1) t.2.1 = sd.2.2.1:=by
   unfold zBi
   rw [gsd]
   rfl
  have sq:Sq K G t.1 [.int t.2.1,.int t.2.2]:=.inr (SqT.of et)
  refine ⟨_,rfl,t.1,_,_,.int t.2.2,rfl,rfl,sq,rfl,_,rfl,_,rfl,t.1,_,_,.int t.2.1,rfl,rfl,sq,rfl,l,_,_,.ref sd.1,rfl,rfl,.inl (s0.seq hl),asd,sd.1,_,_,.int sd.2.2.1,rfl,rfl,.inr (SqT.of es),rfl,_,_,rfl,rfl,cm_r (by omega),eY,?_⟩
  refine ⟨zA3 (by rw [List.length_map,List.length_map,List.length_take]; omega),sG.putNew hD,zAc,?_,_,rfl⟩
  rw [List.take_succ,gt,List.map_append,List.map_append,← ef]
  rfl
 rintro σ ys G3 ⟨s3,eN1,rfl,u2,rfl⟩
 rw [zAt,List.take_length] at eN1
 refine ⟨N1,_,rfl,SqL.of eN1,?_⟩
 rw [eqs 1]
 have eD3:=s3 _ _ eD2
 have s13:=s2.trans s3
 refine ⟨_,rfl,_,rfl,(by show 2≤sizeLine; decide),fun d hd=>?_⟩
 have sd3:=zAe hd (.tup [.int (sumF ss (fAt 0) (sh.map (·.2)) 0),.int (sumF ss (fAt 1) (sh.map (·.2)) 0)])
 have ed:upd G3 d (.tup [.int (sumF ss (fAt 0) (sh.map (·.2)) 0),.int (sumF ss (fAt 1) (sh.map (·.2)) 0)]) d = some (.tup [.int (sumF ss (fAt 0) (sh.map (·.2)) 0),.int (sumF ss (fAt 1) (sh.map (·.2)) 0)]):=zAc
 generalize upd G3 d (.tup [.int (sumF ss (fAt 0) (sh.map (·.2)) 0),.int (sumF ss (fAt 1) (sh.map (·.2)) 0)]) = G4 at sd3 ed ⊢
 have s14:=s13.trans sd3
 have eD4:=sd3 _ _ eD3
 have ok4:=oks.same s14
 refine ⟨_,rfl,D,rfl,.inl ⟨⟨_,SqL.of eD4⟩,fun cc L hL=>zBj (K:=K) (a:=D) (xs:=zAo sh) (fun j σ ys G=>Same G4 G∧G L = some (.lst ys)∧(∃ ws:List Wo,ys = zK1 ws∧WoAt G ws∧ws.map (·.2.2) = (sh.take j).map (·.2))∧∃ u0:Option V,σ = [u0])
  ⟨zAe hL _,zAc,⟨[],rfl,(fun t ht=>nomatch ht),rfl⟩,none,rfl⟩ (fun j σ ys G _ ⟨e,e2,_⟩=>⟨e.seq (SqL.of eD4),e2⟩) ?_ ?_⟩⟩
 ·rintro j x σ ys G hj ⟨sG,eY,⟨ws,rfl,okw,mw⟩,u0,rfl⟩
  obtain ⟨t,gt,rfl,hjl⟩:=zFg hj
  have et:=sG _ _ (ok4 t (List.mem_of_getElem? gt))
  have sq:Sq K G t.1 [.int t.2.1,.int t.2.2]:=.inr (SqT.of et)
  have nw:ws.length≤j:=by
   have z:=congrArg List.length mw
   rw [List.length_map,List.length_map,List.length_take] at z
   omega
  refine ⟨_,rfl,t.1,_,_,.int t.2.1,rfl,rfl,sq,rfl,_,rfl,t.1,_,_,.int t.2.2,rfl,rfl,sq,rfl,t.2.2,1,rfl,by decide,by decide +kernel,fun p1 x1 y1 G5 s5 hp1 ep1 po=>?_⟩
  obtain ⟨e1,e2⟩:=zT8 rfl po
  rw [e1,e2] at ep1
  refine ⟨(by show 2≤sizeLine; decide),fun p2 hp2=>?_⟩
  have s6:=zAe hp2 (.tup [.int t.2.1,.ref p1])
  have eY6:=s6 _ _ (s5 _ _ eY)
  refine ⟨eY6,zA3 (by rw [zL2]; omega),(sG.trans (s5.trans s6)).putNew hL,zAc,⟨ws ++ [(p2,p1,t.2.1,t.2.2)],by simp [zK1],zUn okw (s5.trans s6) eY6 zAc (s6 _ _ ep1),?_⟩,_,rfl⟩
  rw [List.map_append,mw,List.take_succ,gt]
  simp
 rintro σ ys G5 ⟨s5,eL,⟨ws,rfl,okw,mw⟩,u3,rfl⟩
 rw [zAt,List.take_length] at mw
 refine ⟨(by show 3≤sizeLine; decide),fun T hT=>?_⟩
 have sT:=zAe hT (.tup [.str "cannot", .ref d,.ref L])
 exact q T d L ws _ (s1.trans (s14.trans (s5.trans sT))) zAc (sT _ _ (s5 _ _ ed)) (sT _ _ eL) (okw.same sT) mw
def zF8 (g P:P3) (x y:Int):Int:=if (g.2.2 * P.2.2 - g.1 * P.1 - g.2.1 * P.2.1) / (P.2.2 * (g.1 * x + g.2.1 * y)) + 1 > 0 then (g.2.2 * P.2.2 - g.1 * P.1 - g.2.1 * P.2.1) / (P.2.2 * (g.1 * x + g.2.1 * y)) + 1 else 0
def zFy (K:PySem.W.Frag):Sp:=fun vs H Q _=>∃ (e p v:Addr) (g P:P3) (x y:Int),vs = [.ref e,.ref p,.ref v]∧Sq K H e [.int g.1,.int g.2.1,.int g.2.2]∧Sq K H p [.int P.1,.int P.2.1,.int P.2.2]∧Sq K H v [.int x,.int y] ∧
 g.1.natAbs≤10 ^ 9∧g.2.1.natAbs≤10 ^ 9∧g.2.2.natAbs≤10 ^ 13∧x.natAbs≤2 * 10 ^ 9∧y.natAbs≤2 * 10 ^ 9∧0 < g.1 * x + g.2.1 * y∧0 < P.2.2∧P.1.natAbs≤10 ^ 40∧P.2.1.natAbs≤10 ^ 40∧P.2.2.natAbs≤10 ^ 40 ∧
 ∀ (q:Addr) (H':Hp),Same H H'→H q = none→H' q = some (.tup ((lowL (upL (P.1 + zF8 g P x y * x * P.2.2) (P.2.1 + zF8 g P x y * y * P.2.2) P.2.2)).map V.int))→Q (.ref q) H'
theorem zI0 (F:Fun K "gone_beyond" "gone_beyond" zDg f fd) (Z:Zs mg) (h_p_spot:Has P w K mg base "spot" 4 ["x", "y", "w"] (zIe K)) (h_p_along:Has P w K mg base "along" 1 ["one", "other"] (zEe K)):FnOk P w K mg base CX0 5 f fd ["edge", "place", "way"] (zFy K):=by
 refine F.ok zDy (fun vs H Q E h=>?_) (fun cdv A outer s H vs Q E hr h=>?_)
 ·obtain ⟨e,p,v,g,P,x,y,rfl,_⟩:=h
  rfl
 obtain ⟨e,p,v,g,P,x,y,rfl,he,hp,hv,g1,g2,g3,x1,y1,al,pw,px,py,pz,q⟩:=h
 refine ⟨_,(zAf (zAw (i:=3) zDy.nd rfl (Or.inl rfl) (zAl zA6 (zAl zA6 (zAl zA2 (zAn zAg (pv 0) zAb (fun _ _=>rfl)) (zAn zAg (pv 1) zAb (fun _ _=>rfl))) (zAl zA2 (zAn zAg (pv 0) zAb (fun _ _=>rfl)) (zAn zAg (pv 1) zAb (fun _ _=>rfl)))) (zAl zA2 (zAn zAg (pv 0) zAb (fun _ _=>rfl)) (zAn zAg (pv 1) zAb (fun _ _=>rfl)))))
   (zAf (zAw (i:=4) zDy.nd rfl (Or.inl rfl) (zAv (zTb rfl) rfl Z.max bt_max (zAa zAb (zAa (zAl zBd (zAl zCu (pv 3) (zAl zA2 (zAn zAg (pv 1) zAb (fun _ _=>rfl)) (zAh h_p_along (hr.mono (by decide)) rfl (zAa (pv 0) (zAa (pv 2) zAd))))) zAb) zAd))))
   (zAi (zAr (zAh h_p_spot (hr.mono (by decide)) rfl (zAa (zAl zBd (zAn zAg (pv 1) zAb (fun _ _=>rfl)) (zAl zGs (zAl zA2 (pv 4) (zAn zAg (pv 2) zAb (fun _ _=>rfl))) (zAn zAg (pv 1) zAb (fun _ _=>rfl)))) (zAa (zAl zBd (zAn zAg (pv 1) zAb (fun _ _=>rfl)) (zAl zGs (zAl zA2 (pv 4) (zAn zAg (pv 2) zAb (fun _ _=>rfl))) (zAn zAg (pv 1) zAb (fun _ _=>rfl)))) (zAa (zAn zAg (pv 1) zAb (fun _ _=>rfl)) zAd)))))))),?_⟩
 refine ⟨_,rfl,e,_,_,.int g.2.2,rfl,rfl,he,rfl,_,rfl,p,_,_,.int P.2.2,rfl,rfl,hp,rfl,_,_,rfl,rfl,cm_l (by omega),_,rfl,e,_,_,.int g.1,rfl,rfl,he,rfl,_,rfl,p,_,_,.int P.1,rfl,rfl,hp,rfl,_,_,rfl,rfl,cm_l (by omega),_,_,rfl,rfl,_,rfl,e,_,_,.int g.2.1,rfl,rfl,he,rfl,_,rfl,p,_,_,.int P.2.1,rfl,rfl,hp,rfl,_,_,rfl,rfl,cm_l (by omega),_,_,rfl,rfl,?_⟩
 have a1:=zAj g.1 x g1 x1
 have a2:=zAj g.2.1 y g2 y1
 have ab:g.1 * x + g.2.1 * y≤4 * 10 ^ 18:=by
  have e1:(10:Nat) ^ 9 * (2 * 10 ^ 9) = 2 * 10 ^ 18:=by decide
  omega
 have big:∀ {n:Nat},n≤10 ^ 70→n < 2 ^ 4096:=fun h=>Nat.lt_of_le_of_lt h (by decide +kernel)
 have dp:0 < P.2.2 * (g.1 * x + g.2.1 * y):=Int.mul_pos pw al
 have dv:zEs (g.2.2 * P.2.2 - g.1 * P.1 - g.2.1 * P.2.1) (P.2.2 * (g.1 * x + g.2.1 * y)):=by
  refine ⟨dp,big ?_⟩
  have z:=zAj P.2.2 (g.1 * x + g.2.1 * y) (n:=4 * 10 ^ 18) pz (by omega)
  exact Nat.le_trans z (by decide)
 have sb:(zF8 g P x y).natAbs≤10 ^ 55:=by
  have z1:=zAj g.2.2 P.2.2 g3 pz
  have z2:=zAj g.1 P.1 g1 px
  have z3:=zAj g.2.1 P.2.1 g2 py
  have e1:(10:Nat) ^ 13 * 10 ^ 40 = 10 ^ 53:=by decide
  have e2:(10:Nat) ^ 9 * 10 ^ 40 = 10 ^ 49:=by decide
  have z4:(g.2.2 * P.2.2 - g.1 * P.1 - g.2.1 * P.2.1) / (P.2.2 * (g.1 * x + g.2.1 * y))≤((g.2.2 * P.2.2 - g.1 * P.1 - g.2.1 * P.2.1).natAbs:Int):=Int.le_trans (Int.ediv_le_ediv dp Int.le_natAbs) (Int.ediv_le_self _ (Int.natCast_nonneg _))
  unfold zF8
  generalize (g.2.2 * P.2.2 - g.1 * P.1 - g.2.1 * P.2.1) / (P.2.2 * (g.1 * x + g.2.1 * y)) = d at z4 ⊢
  rw [e1] at z1
  rw [e2] at z2 z3
  split <;> omega
 have mx:=zAj (zF8 g P x y) x sb x1
 have my:=zAj (zF8 g P x y) y sb y1
 have e3:(10:Nat) ^ 55 * (2 * 10 ^ 9)≤10 ^ 70:=by decide
 have bz:P.2.2.natAbs < 2 ^ 4096:=big (Nat.le_trans pz (by decide))
 refine ⟨_,rfl,_,rfl,p,_,_,.int P.2.2,rfl,rfl,hp,rfl,_,rfl,_,rfl,e,v,_,_,g.1,g.2.1,x,y,rfl,he,hv,rfl,rfl,rfl,rfl,by omega,by omega,_,_,rfl,rfl,.inr ⟨by omega,by omega⟩,_,_,rfl,rfl,dv,_,_,rfl,rfl,0,_,rfl,?_⟩
 refine ⟨_,rfl,p,_,_,.int P.1,rfl,rfl,hp,rfl,_,rfl,_,rfl,v,_,_,.int x,rfl,rfl,hv,rfl,zF8 g P x y,x,rfl,rfl,cm_r (by omega),_,rfl,p,_,_,.int P.2.2,rfl,rfl,hp,rfl,_,_,rfl,rfl,⟨big (Nat.le_trans mx e3),bz⟩,_,_,rfl,rfl,
  _,rfl,p,_,_,.int P.2.1,rfl,rfl,hp,rfl,_,rfl,_,rfl,v,_,_,.int y,rfl,rfl,hv,rfl,zF8 g P x y,y,rfl,rfl,cm_r (by omega),_,rfl,p,_,_,.int P.2.2,rfl,rfl,hp,rfl,_,_,rfl,rfl,⟨big (Nat.le_trans my e3),bz⟩,_,_,rfl,rfl,
  _,rfl,p,_,_,.int P.2.2,rfl,rfl,hp,rfl,_,_,_,rfl,by omega,zU3 pz,q⟩
theorem zSd {t Z:P3} {x y n:Int} : sv t (Z.1 + n * x * Z.2.2,Z.2.1 + n * y * Z.2.2,Z.2.2) = sv t Z + n * Z.2.2 * (t.1 * x + t.2.1 * y):=by
 unfold sv
 simp only [Int.mul_add,Int.mul_comm,Int.mul_left_comm,Int.mul_assoc]
 omega
theorem zPe {t:P3} {X Y W x y w:Int} (p:zPf X Y W x y w):sv t (x,y,w) * W = sv t (X,Y,W) * w:=by
 unfold sv
 show (t.1 * x + t.2.1 * y - t.2.2 * w) * W = (t.1 * X + t.2.1 * Y - t.2.2 * W) * w
 rw [Int.sub_mul,Int.add_mul,Int.mul_assoc,Int.mul_assoc,p.ex,p.ey,Int.sub_mul,Int.add_mul,Int.mul_assoc t.1,Int.mul_assoc t.2.1,Int.mul_assoc t.2.2,Int.mul_assoc t.2.2,Int.mul_comm w W]
theorem zRg {ss:List Sd} {g P:P3} {x y:Int} (al:0 < g.1 * x + g.2.1 * y) (wy:wayB ss x y = true) (pw:0 < P.2.2) (wp:inW ss P) :
  ∃ Z:P3,lowL (upL (P.1 + zF8 g P x y * x * P.2.2) (P.2.1 + zF8 g P x y * y * P.2.2) P.2.2) = [Z.1,Z.2.1,Z.2.2]∧0 < Z.2.2∧Nat.gcd (Nat.gcd Z.1.natAbs Z.2.1.natAbs) Z.2.2.natAbs = 1∧inW ss Z∧0 < sv g Z:=by
 obtain ⟨X,Y,W,el,sp⟩:=zH3 (X:=P.1 + zF8 g P x y * x * P.2.2) (Y:=P.2.1 + zF8 g P x y * y * P.2.2) (W:=P.2.2) (by omega)
 have wp1:0 < W:=by have:=sp.pos; omega
 have s0:0≤zF8 g P x y:=by
  unfold zF8
  split <;> omega
 refine ⟨(X,Y,W),el,wp1,sp.low,fun t ht=>?_,?_⟩
 ·have z:=zPe (t:=t.2) sp
  rw [zSd] at z
  have z1:=wp t ht
  have z2:t.2.1 * x + t.2.2.1 * y≤0:=of_decide_eq_true (List.all_eq_true.mp wy t ht)
  have z3:=Int.mul_nonpos_of_nonneg_of_nonpos (Int.mul_nonneg s0 (Int.le_of_lt pw)) z2
  have z4:=Int.mul_nonpos_of_nonpos_of_nonneg (show sv t.2 P + zF8 g P x y * P.2.2 * (t.2.1 * x + t.2.2.1 * y)≤0 by omega) (Int.le_of_lt wp1)
  rw [← z] at z4
  by_cases c:sv t.2 (X,Y,W)≤0
  ·exact c
  ·have:=Int.mul_pos (show 0 < sv t.2 (X,Y,W) by omega) pw
   omega
 ·have z:=zPe (t:=g) sp
  rw [zSd] at z
  have dp:0 < P.2.2 * (g.1 * x + g.2.1 * y):=Int.mul_pos pw al
  have k:0 < sv g P + zF8 g P x y * P.2.2 * (g.1 * x + g.2.1 * y):=by
   rw [Int.mul_assoc]
   have e1:g.2.2 * P.2.2 - g.1 * P.1 - g.2.1 * P.2.1 = -sv g P:=by
    unfold sv
    omega
   unfold zF8
   rw [e1]
   generalize P.2.2 * (g.1 * x + g.2.1 * y) = D at dp ⊢
   have q1:=Int.lt_ediv_add_one_mul_self (-sv g P) dp
   split
   ·omega
   ·rename_i h
    have q2 : -sv g P / D < 0:=by omega
    have q3 : -sv g P < 0:=by
     by_cases c:0≤-sv g P
     ·have:=Int.ediv_nonneg c (Int.le_of_lt dp)
      omega
     ·omega
    omega
  refine zDb (y:=P.2.2) ?_ pw
  rw [z]
  exact Int.mul_pos k wp1
def zDl (K:PySem.W.Frag):Sp:=fun vs H Q _=>∃ (l e:Addr) (ss:List Sd) (g:P3),vs = [.ref l,.ref e]∧SqL K H l (zAm ss)∧SdOk H ss∧ss.length≤400∧Sq K H e [.int g.1,.int g.2.1,.int g.2.2]∧(g.1≠0∨g.2.1≠0)∧g.1.natAbs≤10 ^ 9∧g.2.1.natAbs≤10 ^ 9∧g.2.2.natAbs≤10 ^ 13∧(∃ z:P3,0 < z.2.2∧inW ss z) ∧
 (∀ (T p:Addr) (Z:P3) (H':Hp),Same H H'→H' T = some (.tup [.ref p,.non])→SpAt H' p Z→inW ss Z→0 < sv g Z→Q (.ref T) H') ∧
 ∀ (T D:Addr) (P:P3) (ws:List Wt) (H':Hp),Same H H'→H' T = some (.tup [.non,.ref D])→H D = none→H' D = some (.lst (zDk ws))→WtAt H' ws→0 < P.2.2→Far ss g P (wtN ws)→sv g P≤0→Q (.ref T) H'
theorem zF2 (F:Fun K "beyond_or_weights" "beyond_or_weights" zB0 f fd) (Z:Zs mg) (h_p_holds:Has P w K mg base "holds" 2 ["side", "spot"] (zEi K)) (h_p_gone_beyond:Has P w K mg base "gone_beyond" 5 ["edge", "place", "way"] (zFy K)) (h_p_some_spot:Has P w K mg base "some_spot" 9 ["sides"] (zE5 K)) (h_p_reach:Has P w K mg base "reach" 10 ["sides", "direction"] (zLx K)):FnOk P w K mg base CX0 11 f fd ["sides", "edge"] (zDl K):=by
 refine F.ok zDm (fun vs H Q E h=>?_) (fun cdv A outer s H vs Q E hr h=>?_)
 ·obtain ⟨l,e,ss,g,rfl,_⟩:=h
  rfl
 obtain ⟨l,e,ss,g,rfl,hl,ok,hlen,he,gz,g1,g2,g3,⟨z0,zw0,wz0⟩,qa,qb⟩:=h
 have sm:∀ t∈ss,(t.2.1≠0∨t.2.2.1≠0)∧t.2.1.natAbs≤10 ^ 9∧t.2.2.1.natAbs≤10 ^ 9∧t.2.2.2.natAbs≤10 ^ 13:=fun t ht=>(ok t ht).2
 refine ⟨_,(zAf (zAw (i:=2) zDm.nd rfl (Or.inl rfl) (zAh h_p_reach (hr.mono (by decide)) rfl (zAa (pv 0) (zAa (zA0 (zAa (zAn zAg (pv 1) zAb (fun _ _=>rfl)) (zAa (zAn zAg (pv 1) zAb (fun _ _=>rfl)) zAd))) zAd))))
   (zAf (zA8 (zAu zCi (zAn zAg (pv 2) zAb (fun _ _=>rfl)) zDc (zAz _)) (zAi (zAr (zA0 (zAa (zAh h_p_gone_beyond (hr.mono (by decide)) rfl (zAa (pv 1) (zAa (zAh h_p_some_spot (hr.mono (by decide)) rfl (zAa (pv 0) zAd)) (zAa (zAn zAg (pv 2) zAb (fun _ _=>rfl)) zAd)))) (zAa zBm zAd))))) zAx)
   (zAf (zA8 (zCv (zAh h_p_holds (hr.mono (by decide)) rfl (zAa (pv 1) (zAa (zAn zAg (pv 2) zAb (fun _ _=>rfl)) zAd)))) (zAi (zAr (zA0 (zAa zBm (zAa (zAn zAg (pv 2) zAb (fun _ _=>rfl)) zAd))))) zAx)
   (zAi (zAr (zA0 (zAa (zAn zAg (pv 2) zAb (fun _ _=>rfl)) (zAa zBm zAd)))))))),?_⟩
 refine ⟨_,rfl,_,rfl,e,_,_,.int g.1,rfl,rfl,he,rfl,_,rfl,e,_,_,.int g.2.1,rfl,rfl,he,rfl,(by show 2≤sizeLine; decide),fun d hd=>?_⟩
 have sd:Same H (upd H d (.tup [.int g.1,.int g.2.1])):=zAe hd _
 have ed:upd H d (.tup [.int g.1,.int g.2.1]) d = some (.tup [.int g.1,.int g.2.1]):=zAc
 generalize upd H d (.tup [.int g.1,.int g.2.1]) = H0 at sd ed ⊢
 refine ⟨l,d,ss,g,rfl,sd.seq hl,ok.same sd,hlen,.inr (SqT.of ed),gz,by omega,by omega,fun t D cs H1 s1 et hD eD okc cl=>absurd wz0 (cl.no z0 zw0),fun t p x y Z0 H1 s1 et ep _ al wy bx by' zw wz cz=>?_,fun t p D P ws H1 s1 et ep wp cp hD eD okw fr=>?_⟩
 ·have s01:=sd.trans s1
  refine ⟨_,rfl,t,_,_,.str "open", rfl,rfl,.inr (SqT.of et),rfl,rfl,_,rfl,?_⟩
  refine ifSt ?_
  refine ⟨_,rfl,_,rfl,l,ss,rfl,s01.seq hl,ok.same s01,by omega,fun H2 s2 no=>absurd wz0 (no z0 zw0),fun p2 P2 H2 s2 ep2 wp2 cp2=>?_⟩
  obtain ⟨c1,c2,c3⟩:=cp2.small sm
  have s02:=s01.trans s2
  refine ⟨_,rfl,t,_,_,.ref p,rfl,rfl,.inr (SqT.of (s2 _ _ et)),rfl,e,p2,p,g,P2,x,y,rfl,he.same s02,.inr (SqT.of ep2.1),.inr (SqT.of (s2 _ _ ep)),g1,g2,g3,bx,by',al,ep2.2.1,c1,c2,c3,fun q2 H3 s3 hq2 eq2=>?_⟩
  obtain ⟨Z2,eZ2,Z2w,Z2l,wZ2,bZ2⟩:=zRg (g:=g) al wy ep2.2.1 wp2
  rw [eZ2] at eq2
  exact ⟨(by show 2≤sizeLine; decide),fun T hT=>qa T q2 Z2 _ ((s02.trans s3).trans (zAe hT _)) zAc ⟨zAe hT _ _ _ eq2,Z2w,Z2l⟩ wZ2 bZ2⟩
 ·have s01:=sd.trans s1
  refine ⟨_,rfl,t,_,_,.str "far", rfl,rfl,.inr (SqT.of et),rfl,rfl,_,rfl,?_⟩
  refine ifSf (by decide) ?_
  refine ⟨_,rfl,_,rfl,t,_,_,.ref p,rfl,rfl,.inr (SqT.of et),rfl,e,p,g.1,g.2.1,g.2.2,P.1,P.2.1,P.2.2,rfl,he.same s01,.inr (SqT.of ep.1),by omega,by omega,by omega,_,rfl,?_⟩
  refine ifD (fun hh=>?_) (fun hh=>?_)
  ·refine ⟨_,rfl,t,_,_,.ref D,rfl,rfl,.inr (SqT.of et),rfl,(by show 2≤sizeLine; decide),fun T hT=>qb T D P ws _ (s01.trans (zAe hT _)) zAc (sd.free hD) (zAe hT _ _ _ eD) (okw.same (zAe hT _)) ep.2.1 fr ?_⟩
   unfold sv
   omega
  ·refine ⟨_,rfl,t,_,_,.ref p,rfl,rfl,.inr (SqT.of et),rfl,(by show 2≤sizeLine; decide),fun T hT=>qa T p P _ (s01.trans (zAe hT _)) zAc ⟨zAe hT _ _ _ ep.1,ep.2⟩ wp ?_⟩
   unfold sv
   omega
def zBp (vs:List (Int × Int)):List P3:=(List.range vs.length).map fun i=>pt3 (lowL (zBk (atP vs i) (atP vs ((i + 1) % vs.length))))
theorem zSx {u v:Int × Int} (n:u≠v) (m1:u.1.natAbs≤10 ^ 6) (m2:u.2.natAbs≤10 ^ 6) (m3:v.1.natAbs≤10 ^ 6) (m4:v.2.natAbs≤10 ^ 6):∃ x y z:Int,lowL (zBk u v) = [x,y,z]∧(x≠0∨y≠0)∧x.natAbs≤10 ^ 9∧y.natAbs≤10 ^ 9∧z.natAbs≤10 ^ 13:=by
 have nD:v.2 - u.2≠0∨-(v.1 - u.1)≠0:=by
  by_cases h1:v.2 = u.2
  ·refine .inr fun z=>n (Prod.ext (by omega) h1.symm)
  ·exact .inl (by omega)
 have d1:(v.2 - u.2).natAbs≤2 * 10 ^ 6:=by clear m1 m3 n nD; omega
 have d2:(v.1 - u.1).natAbs≤2 * 10 ^ 6:=by clear m2 m4 n nD d1; omega
 have p1:=zAj u.1 (v.2 - u.2) m1 d1
 have p2:=zAj u.2 (v.1 - u.1) m2 d2
 have d3:(-(v.1 - u.1)).natAbs≤2 * 10 ^ 6:=by rw [Int.natAbs_neg]; exact d2
 have d4:(u.1 * (v.2 - u.2) - u.2 * (v.1 - u.1)).natAbs≤4 * 10 ^ 12:=by
  clear m1 m2 m3 m4 n nD d1 d2 d3
  generalize u.1 * (v.2 - u.2) = A at p1 ⊢
  generalize u.2 * (v.1 - u.1) = B at p2 ⊢
  omega
 clear p1 p2 m1 m2 m3 m4 n
 obtain ⟨gp,_,_⟩:=low3k (D2:=u.1 * (v.2 - u.2) - u.2 * (v.1 - u.1)) nD (Nat.le_trans d1 (by decide)) (Nat.le_trans d3 (by decide))
 have gI:(0:Int) < (gcdL (zBk u v):Int):=by
  have:0 < gcdL (zBk u v):=gp
  omega
 have a0:=zB2 (v.2 - u.2) gI (zCa (ns:=zBk u v) (by simp [zBk]))
 have a1:=zB2 (-(v.1 - u.1)) gI (zCa (ns:=zBk u v) (by simp [zBk]))
 have a2:=zB2 (u.1 * (v.2 - u.2) - u.2 * (v.1 - u.1)) gI (zCa (ns:=zBk u v) (by simp [zBk]))
 have c0:=zBb (ns:=zBk u v) (n:=v.2 - u.2) (by simp [zBk])
 have c1:=zBb (ns:=zBk u v) (n:=-(v.1 - u.1)) (by simp [zBk])
 refine ⟨(v.2 - u.2) / (gcdL (zBk u v):Int),-(v.1 - u.1) / (gcdL (zBk u v):Int),(u.1 * (v.2 - u.2) - u.2 * (v.1 - u.1)) / (gcdL (zBk u v):Int),rfl,?_,Nat.le_trans a0 (Nat.le_trans d1 (by decide)),Nat.le_trans a1 (Nat.le_trans d3 (by decide)),Nat.le_trans a2 (Nat.le_trans d4 (by decide))⟩
 rcases nD with h | h
 ·exact .inl fun z=>h (by rw [← c0,z,Int.zero_mul])
 ·exact .inr fun z=>h (by rw [← c1,z,Int.zero_mul])
theorem zGk.sd {H:Hp} {ps:List Pr} {as:List Addr} (pk:PrOk H (10 ^ 6) ps) (ne:∀ i < ps.length,atP (ps.map (·.2)) i≠atP (ps.map (·.2)) ((i + 1) % ps.length)) (h:zGk H as (ps.map (·.2)) ps.length) :
  ∃ es:List Sd,as.map V.ref = zAm es∧SdOk H es∧es.map (·.2) = zBp (ps.map (·.2)):=by
 have lp:(ps.map (·.2)).length = ps.length:=List.length_map ..
 have atB:∀ i < ps.length,(atP (ps.map (·.2)) i).1.natAbs≤10 ^ 6∧(atP (ps.map (·.2)) i).2.natAbs≤10 ^ 6:=fun i hi=>by
  rw [zKj (List.getElem?_eq_getElem hi)]
  exact (pk _ (List.getElem_mem hi)).2
 refine ⟨(List.range ps.length).map fun i=>(as.getD i 0,pt3 (lowL (zBk (atP (ps.map (·.2)) i) (atP (ps.map (·.2)) ((i + 1) % (ps.map (·.2)).length))))),?_,fun t ht=>?_,?_⟩
 ·unfold zAm
  refine List.ext_getElem? fun i=>?_
  rw [List.map_map,List.getElem?_map,List.getElem?_map,List.getElem?_map]
  by_cases hi:i < ps.length
  ·rw [List.getElem?_range hi,List.getElem?_eq_getElem (show i < as.length by rw [h.1]; exact hi)]
   simp [List.getD,List.getElem?_eq_getElem (show i < as.length by rw [h.1]; exact hi)]
  ·rw [List.getElem?_eq_none (by rw [h.1]; omega),List.getElem?_eq_none (by rw [List.length_range]; omega)]
   rfl
 ·obtain ⟨i,hi,rfl⟩:=List.mem_map.mp ht
  have hi':=List.mem_range.mp hi
  have hj:(i + 1) % ps.length < ps.length:=Nat.mod_lt _ (by omega)
  obtain ⟨p,e1,e2⟩:=h.2 i hi'
  rw [lp] at e2
  obtain ⟨x,y,z,exyz,nn,b1,b2,b3⟩:=zSx (ne i hi') (atB i hi').1 (atB i hi').2 (atB _ hj).1 (atB _ hj).2
  have ep:as.getD i 0 = p:=by
   unfold List.getD
   rw [e1]
   rfl
  show H (as.getD i 0) = _∧_
  rw [lp,ep,exyz]
  rw [exyz] at e2
  exact ⟨e2,nn,b1,b2,b3⟩
 ·rw [List.map_map]
  unfold zBp
  rw [lp]
  rfl
abbrev zF6 (tl:List (Addr × List Wt)):List V:=(tl.map (·.1)).map V.ref
structure zNq (H0:Hp) (W:Addr) (tl:List (Addr × List Wt)) (G:Hp):Prop where
 same:Same H0 G
 new:H0 W = none
 at':G W = some (.lst (zF6 tl))
 all:∀ u∈tl,u.1≠W∧G u.1 = some (.lst (zDk u.2))∧WtAt G u.2
theorem zNq.step {H0 G G2:Hp} {W D:Addr} {tl:List (Addr × List Wt)} {ws:List Wt} (P:zNq H0 W tl G) (s:Same G G2) (hD:G D = none) (eD:G2 D = some (.lst (zDk ws))) (okw:WtAt G2 ws) :
  zNq H0 W (tl ++ [(D,ws)]) (upd G2 W (.lst (zF6 tl ++ [.ref D]))):=by
 have eW:=s _ _ P.at'
 have tupK:∀ {b:Addr} {xs:List V} {o:HO},G2 b = some (.tup xs)→upd G2 W o b = some (.tup xs):=fun e=>by
  rw [zA5 (zIb e eW (by intro z; cases z))]
  exact e
 have wk:∀ {us:List Wt} {o:HO},WtAt G2 us→WtAt (upd G2 W o) us:=fun h t ht=>⟨tupK (h t ht).1,tupK (h t ht).2⟩
 refine ⟨(P.same.trans s).putNew P.new,P.new,by rw [zAc]; simp [zF6],fun u hu=>?_⟩
 rcases List.mem_append.mp hu with h | h
 ·obtain ⟨h1,h2,h3⟩:=P.all u h
  refine ⟨h1,?_,wk (h3.same s)⟩
  rw [zA5 h1]
  exact s _ _ h2
 ·rw [List.mem_singleton] at h
  subst h
  have nD:D≠W:=fun e=>by rw [e,P.at'] at hD; cases hD
  refine ⟨nD,?_,wk okw⟩
  show upd G2 W _ D = _
  rw [zA5 nD]
  exact eD
def WordQ (H:Hp) (ss:List Sd) (vs:List (Int × Int)) (Q:VK):Prop :=
 (∀ (T D:Addr) (cs:List Pr) (H':Hp),Same H H'→H' T = some (.tup [.str "none", .ref D])→H' D = some (.lst (zAo cs))→PrAt H' cs→zG7 ss (cs.map (·.2))→Q (.ref T) H') ∧
 (∀ (T d L:Addr) (ws:List Wo) (es:List Sd) (cs:List Pr) (H':Hp),Same H H'→H' T = some (.tup [.str "cannot", .ref d,.ref L])→H' d = some (.tup [.int (sumF ss (fAt 0) ((zCr ss.length cs).map (·.2)) 0),.int (sumF ss (fAt 1) ((zCr ss.length cs).map (·.2)) 0)]) →
  H' L = some (.lst (zK1 ws))→WoAt H' ws→ws.map (·.2.2) = (zCr ss.length cs).map (·.2)→es.map (·.2) = zBp vs→zG7 (ss ++ es) (cs.map (·.2))→(∃ z:P3,0 < z.2.2∧inW ss z)→Q (.ref T) H') ∧
 (∀ (T p1 p2:Addr) (P1 P2:P3) (H':Hp),Same H H'→H' T = some (.tup [.str "can", .ref p1,.ref p2])→SpAt H' p1 P1→SpAt H' p2 P2→inW ss P1→(∀ e∈zBp vs,sv e P1≤0)→inW ss P2→(∃ e∈zBp vs,0 < sv e P2)→Q (.ref T) H') ∧
 ∀ (T W:Addr) (tl:List (Addr × List Wt)) (H':Hp),Same H H'→H W = none→H' T = some (.tup [.str "must", .ref W])→H' W = some (.lst (zF6 tl))→(∀ u∈tl,u.1≠W∧H' u.1 = some (.lst (zDk u.2))∧WtAt H' u.2)→tl.length = vs.length →
  (∀ (j:Nat) (u:Addr × List Wt) (e:P3),tl[j]? = some u→(zBp vs)[j]? = some e→∃ P:P3,0 < P.2.2∧Far ss e P (wtN u.2)∧sv e P≤0)→(∃ z:P3,0 < z.2.2∧inW ss z)→Q (.ref T) H'
def zHb (K:PySem.W.Frag):Sp:=fun vs H Q _=>∃ (l c:Addr) (ss:List Sd) (ps:List Pr),vs = [.ref l,.ref c]∧H l = some (.lst (zAm ss))∧SdOk H ss∧ss.length≤300∧H c = some (.lst (zAo ps))∧PrOk H (10 ^ 6) ps∧3≤ps.length∧ps.length≤8∧(∀ i < ps.length,atP (ps.map (·.2)) i≠atP (ps.map (·.2)) ((i + 1) % ps.length))∧WordQ H ss (ps.map (·.2)) Q
theorem zLe (F:Fun K "bank_word" "bank_word" zEc f fd) (Z:Zs mg) (h_p_some_spot:Has P w K mg base "some_spot" 9 ["sides"] (zE5 K)) (h_p_beyond_or_weights:Has P w K mg base "beyond_or_weights" 11 ["sides", "edge"] (zDl K)) (h_p_word_of_cannot:Has P w K mg base "word_of_cannot" 5 ["sides", "shown"] (zEn K)) (h_p_clash:Has P w K mg base "clash" 9 ["sides"] (zIg K)) (h_p_bank_sides:Has P w K mg base "bank_sides" 5 ["corners"] (zGt K)):FnOk P w K mg base CX0 12 f fd ["sides", "corners"] (zHb K):=by
 refine F.ok zB3 (fun vs H Q E h=>?_) (fun cdv A outer s H vs Q E hr h=>?_)
 ·obtain ⟨l,c,ss,ps,rfl,_⟩:=h
  rfl
 obtain ⟨l,c,ss,ps,rfl,el,ok,hlen,ec,pk,p3,p8,ne,q0,q1,q2,q3⟩:=h
 refine ⟨_,(zAf (zAw (i:=2) zB3.nd rfl (Or.inl rfl) (zAh h_p_clash (hr.mono (by decide)) rfl (zAa (pv 0) zAd)))
   (zAf (zA8 (zAu zGv (pv 2) zBm (zAz _)) (zAi (zAr (zA0 (zAa zDc (zAa (pv 2) zAd))))) zAx)
   (zAf (zAw (i:=3) zB3.nd rfl (Or.inl rfl) (zAh h_p_bank_sides (hr.mono (by decide)) rfl (zAa (pv 1) zAd)))
   (zAf (zAw (i:=4) zB3.nd rfl (Or.inl rfl) (zAh h_p_clash (hr.mono (by decide)) rfl (zAa (zAl zEv (pv 0) (pv 3)) zAd)))
   (zAf (zA8 (zAu zGv (pv 4) zBm (zAz _)) (zAi (zAr (zAh h_p_word_of_cannot (hr.mono (by decide)) rfl (zAa (pv 0) (zAa (pv 4) zAd))))) zAx)
   (zAf (zAw (i:=5) zB3.nd rfl (Or.inl rfl) (zBo zAd))
   (zAf (zCz PassesOwn.never rfl (zCc (pv 3)) (zAq (i:=6) zB3.nd rfl (Or.inl rfl)) (zAf (zAw (i:=7) zB3.nd rfl (Or.inl rfl) (zAh h_p_beyond_or_weights (hr.mono (by decide)) rfl (zAa (pv 0) (zAa (pv 6) zAd))))
   (zAf (zA8 (zAu zGv (zAn zAg (pv 7) zAb (fun _ _=>rfl)) zBm (zAz _)) (zAi (zAr (zA0 (zAa zDc (zAa (zAh h_p_some_spot (hr.mono (by decide)) rfl (zAa (zAl zEv (pv 0) (pv 3)) zAd)) (zAa (zAn zAg (pv 7) zAb (fun _ _=>rfl)) zAd)))))) zAx)
   (zAi (zFl (zLy PySem.F.plainAttrs_list PySem.F.slot_list_append PySem.F.type_list_append zCw (pv 5) (zAa (zAn zAg (pv 7) zAb (fun _ _=>rfl)) zAd)))))))
   (zAi (zAr (zA0 (zAa zDc (zAa (pv 5) zAd)))))))))))),?_⟩
 refine ⟨_,rfl,l,ss,rfl,SqL.of el,ok,by omega,fun P0 H1 s1 pw wp cp=>?_,fun D cs H1 s1 hD eD okc cl=>?_⟩
 rotate_left
 ·refine ⟨_,rfl,rfl,_,rfl,?_⟩
  refine iteT ?_
  exact ⟨_,rfl,(by show 2≤sizeLine; decide),fun T hT=>q0 T D cs _ (s1.trans (zAe hT _)) zAc (zAe hT _ _ _ eD) (fun t ht=>zAe hT _ _ _ (okc t ht)) cl⟩
 refine ⟨_,rfl,rfl,_,rfl,?_⟩
 refine iteF ?_
 have here:∃ z:P3,0 < z.2.2∧inW ss z:=⟨P0,pw,wp⟩
 refine ⟨_,rfl,c,ps,rfl,s1 _ _ ec,pk.same s1,p3,p8,ne,fun E0 as H2 s2 hE eE sat=>?_⟩
 have s12:=s1.trans s2
 obtain ⟨es,ees,oke,mes⟩:=zGk.sd (pk.same s12) ne sat
 rw [ees] at eE
 have nes:es.length = ps.length:=by
  have z:=congrArg List.length mes
  unfold zBp at z
  rw [List.length_map,List.length_map,List.length_range,List.length_map] at z
  exact z
 have el2:=s12 _ _ el
 have ok2:=ok.same s12
 refine ⟨_,rfl,_,rfl,l,E0,_,_,rfl,rfl,el2,eE,?_,fun A hA=>?_⟩
 ·rw [zAk,zAk]
  exact Nat.le_trans (show ss.length + es.length≤1000 by omega) (by decide)
 have sA:Same H2 (upd H2 A (.lst (zAm ss ++ zAm es))):=zAe hA _
 have eA:upd H2 A (.lst (zAm ss ++ zAm es)) A = some (.lst (zAm (ss ++ es))):=by rw [zAc]; simp [zAm]
 generalize upd H2 A (.lst (zAm ss ++ zAm es)) = H3 at sA eA ⊢
 have okA:SdOk H3 (ss ++ es):=fun t ht=>(List.mem_append.mp ht).elim (fun h=>(ok2.same sA) t h) fun h=>(oke.same sA) t h
 have both:∀ z:P3,inW (ss ++ es) z↔inW ss z∧∀ e∈zBp (ps.map (·.2)),sv e z≤0:=fun z=>by
  rw [← mes]
  constructor
  ·exact fun h=>⟨fun t ht=>h t (List.mem_append_left _ ht),fun e he=>by
    obtain ⟨t,mt,rfl⟩:=List.mem_map.mp he
    exact h t (List.mem_append_right _ mt)⟩
  ·exact fun h t ht=>(List.mem_append.mp ht).elim (h.1 t) fun mt=>h.2 t.2 (List.mem_map_of_mem mt)
 have s13:=s12.trans sA
 refine ⟨A,ss ++ es,rfl,SqL.of eA,okA,by rw [List.length_append]; omega,fun P1 H4 s4 pw1 wp1 cp1=>?_,fun D cs H4 s4 hD eD okc cl=>?_⟩
 rotate_left
 ·refine ⟨_,rfl,rfl,_,rfl,?_⟩
  refine iteT ?_
  have s14:=s13.trans s4
  refine ⟨_,rfl,_,rfl,l,D,ss,cs,rfl,SqL.of (s14 _ _ el),ok.same s14,eD,okc,?_,?_,fun T d L ws H5 s5 eT ed eL okL mws=>?_⟩
  ·have z:=cl.range.1
   rw [List.length_map] at z
   omega
  ·exact fun c hc=>(cl.range.2 c.2 (List.mem_map_of_mem hc)).1
  ·exact q1 T d L ws es cs _ (s14.trans s5) eT ed eL okL mws mes cl here
 refine ⟨_,rfl,rfl,_,rfl,?_⟩
 refine iteF ?_
 have inn:∃ z:P3,0 < z.2.2∧inW ss z∧∀ e∈zBp (ps.map (·.2)),sv e z≤0:=⟨P1,pw1,((both P1).mp wp1).1,((both P1).mp wp1).2⟩
 have s14:=s13.trans s4
 have s34:=sA.trans s4
 have eE4:=s34 _ _ eE
 have el4:=s14 _ _ el
 have ok4:=ok.same s14
 have oke4:=oke.same s34
 refine ⟨(by show 0≤sizeLine; decide),fun W hW=>?_⟩
 have M0:zNq H4 W [] (upd H4 W (.lst [])):=⟨zAe hW _,hW,zAc,(fun u hu=>nomatch hu)⟩
 generalize upd H4 W (.lst []) = H5 at M0 ⊢
 refine ⟨_,rfl,E0,rfl,.inl ⟨⟨_,SqL.of (M0.same _ _ eE4)⟩,zCt (K:=K) (a:=E0) (xs:=zAm es) (fun i σ G=>(∃ tl:List (Addr × List Wt),tl.length = i∧zNq H4 W tl G∧∀ (j:Nat) (u:Addr × List Wt) (t:Sd),tl[j]? = some u→es[j]? = some t→∃ P:P3,0 < P.2.2∧Far ss t.2 P (wtN u.2)∧sv t.2 P≤0)∧∃ u6 u7:Option V,σ = [some (.ref l),some (.ref c),some .non,some (.ref E0),some .non,some (.ref W),u6,u7])
  ⟨⟨[],rfl,M0,fun j u t h=>absurd h (by simp)⟩,none,none,rfl⟩ (fun i σ G _ ⟨⟨_,_,e,_⟩,_⟩=>e.same.seq (SqL.of eE4)) ?_ ?_⟩⟩
 ·rintro i v σ G hi ⟨⟨tl,ntl,M,each⟩,u6,u7,rfl⟩
  obtain ⟨t,gt,rfl,hil⟩:=zBu hi
  have mt:=List.mem_of_getElem? gt
  have sG:=M.same
  have eG:=oke4.same sG
  obtain ⟨et,nt,b1,b2,b3⟩:=eG t mt
  refine ⟨_,rfl,_,rfl,l,t.1,ss,t.2,rfl,SqL.of (sG _ _ el4),ok4.same sG,by omega,.inr (SqT.of et),nt,b1,b2,b3,here,fun T p Z2 G2 s2 eT ez wz bz=>?_,fun T D P ws G2 s2 eT hD eD okw pwP fr bP=>?_⟩
  ·have sG2:=sG.trans s2
   refine ⟨_,rfl,T,_,_,.ref p,rfl,rfl,.inr (SqT.of eT),rfl,rfl,_,rfl,?_⟩
   refine iteT ?_
   refine ⟨_,rfl,_,rfl,l,E0,_,_,rfl,rfl,sG2 _ _ el4,sG2 _ _ eE4,?_,fun A2 hA2=>?_⟩
   ·rw [zAk,zAk]
    exact Nat.le_trans (show ss.length + es.length≤1000 by omega) (by decide)
   have sA2:Same G2 (upd G2 A2 (.lst (zAm ss ++ zAm es))):=zAe hA2 _
   have eA2:upd G2 A2 (.lst (zAm ss ++ zAm es)) A2 = some (.lst (zAm (ss ++ es))):=by rw [zAc]; simp [zAm]
   generalize upd G2 A2 (.lst (zAm ss ++ zAm es)) = G3 at sA2 eA2 ⊢
   have sG3:=sG2.trans sA2
   refine ⟨A2,ss ++ es,rfl,SqL.of eA2,okA.same (s4.trans sG3),by rw [List.length_append]; omega,fun G4 s5 no=>absurd wp1 (no P1 pw1),fun p2 P2 G4 s5 ep2 wp2 _=>?_⟩
   refine ⟨_,rfl,T,_,_,.ref p,rfl,rfl,.inr (SqT.of ((sA2.trans s5) _ _ eT)),rfl,(by show 3≤sizeLine; decide),fun T2 hT2=>?_⟩
   have sT2:=zAe hT2 (.tup [.str "can", .ref p2,.ref p])
   refine q2 T2 p2 p P2 Z2 _ (s14.trans (sG3.trans (s5.trans sT2))) zAc ⟨sT2 _ _ ep2.1,ep2.2⟩ ⟨(sA2.trans (s5.trans sT2)) _ _ ez.1,ez.2⟩ ((both P2).mp wp2).1 ((both P2).mp wp2).2 wz ⟨t.2,?_,bz⟩
   rw [← mes]
   exact List.mem_map_of_mem mt
  ·refine ⟨_,rfl,T,_,_,.non,rfl,rfl,.inr (SqT.of eT),rfl,rfl,_,rfl,?_⟩
   refine iteF ?_
   have eY2:=s2 _ _ M.at'
   refine ⟨_,rfl,.inl ⟨rfl,_,SqL.of eY2⟩,_,rfl,T,_,_,.ref D,rfl,rfl,.inr (SqT.of eT),rfl,W,_,_,rfl,rfl,eY2,zA3 (by rw [List.length_map,List.length_map]; omega),?_⟩
   refine ⟨⟨tl ++ [(D,ws)],by rw [List.length_append,ntl]; rfl,M.step s2 hD eD okw,fun j u t' gj gt'=>?_⟩,_,_,rfl⟩
   by_cases hj:j < tl.length
   ·rw [List.getElem?_append_left hj] at gj
    exact each j u t' gj gt'
   ·rw [List.getElem?_append_right (by omega)] at gj
    have hj2:j - tl.length = 0:=by
     have z:j - tl.length < 1:=(List.getElem?_eq_some_iff.mp gj).1
     omega
    rw [hj2] at gj
    have e1:(D,ws) = u:=Option.some.inj gj
    have e2:j = i:=by omega
    rw [e2,gt] at gt'
    cases gt'
    subst e1
    exact ⟨P,pwP,fr,bP⟩
 ·rintro σ G ⟨⟨tl,ntl,M,each⟩,u6,u7,rfl⟩
  rw [zAk] at ntl
  refine ⟨_,rfl,(by show 2≤sizeLine; decide),fun T2 hT2=>?_⟩
  have sT2:=zAe hT2 (.tup [.str "must", .ref W])
  refine q3 T2 W tl _ (s14.trans (M.same.trans sT2)) (s14.free hW) zAc (sT2 _ _ M.at') (fun u hu=>⟨(M.all u hu).1,sT2 _ _ (M.all u hu).2.1,(M.all u hu).2.2.same sT2⟩) (by rw [List.length_map]; omega) (fun j u e gj ge=>?_) here
  rw [← mes,List.getElem?_map] at ge
  cases gt:es[j]? with
  | none=>rw [gt] at ge; cases ge
  | some t =>
   rw [gt] at ge
   have ge:t.2 = e:=Option.some.inj ge
   rw [← ge]
   exact each j u t gj gt
def zH5 (_:PySem.W.Frag):Sp:=fun vs H Q _=>∃ (x y:Int),vs = [.int x,.int y]∧Q (.int (Nat.gcd x.natAbs y.natAbs)) H
theorem zUp (F:Fun K "_law_low" "_law_low" zL1 f fd) (Z:Zs mg):FnOk P w K mg base CX0 1 f fd ["_law_one", "_law_other"] (zH5 K):=by
 refine F.ok zJd (fun vs H Q E h=>?_) (fun cdv A outer s H vs Q E hr h=>?_)
 ·obtain ⟨x,y,rfl,_⟩:=h
  rfl
 obtain ⟨x,y,rfl,q⟩:=h
 refine ⟨_,(zAf (zAw (i:=0) zJd.nd rfl (Or.inl rfl) (zAv zC5 rfl Z.abs zFd (zAa (pv 0) zAd)))
   (zAf (zAw (i:=1) zJd.nd rfl (Or.inl rfl) (zAv zC5 rfl Z.abs zFd (zAa (pv 1) zAd)))
   (zAf (zJe PassesOwn.never (zAu zI6 (pv 1) zAb (zAz _)) (zAi (zRm (i:=0) (j:=1) rfl zJd.nd rfl rfl (by decide) rfl rfl (zAa (pv 1) (zAa (zAl zA7 (pv 0) (pv 1)) zAd)) rfl)))
   (zAi (zAr (pv 0)))))),?_⟩
 refine ⟨_,rfl,_,rfl,_,rfl,_,rfl,?_⟩
 refine zG4 (fun σ H1=>H1 = H∧∃ (a b:Int),σ = [some (.int a),some (.int b)]∧0≤a∧0≤b∧Nat.gcd a.toNat b.toNat = Nat.gcd x.natAbs y.natAbs)
  (fun σ _=>match σ with | [_,some (.int b)]=>b.toNat | _=>0) ⟨rfl,_,_,rfl,by split <;> omega,by split <;> omega,by rw [zPk,zPk]; rfl⟩ ?_ (fun σ H Q Q' hq z=>by
   obtain ⟨v,hv,i,j,e1,e2,k,hk,z⟩:=z
   exact ⟨v,hv,i,j,e1,e2,k,hk,hq _ _ z⟩)
 rintro σ H1 ⟨rfl,a,b,rfl,h1,h2,h3⟩
 refine ⟨_,rfl,_,_,rfl,rfl,_,rfl,?_⟩
 refine ifD (fun hb=>?_) (fun hb=>?_)
 ·refine ⟨_,rfl,_,rfl,_,rfl,_,_,rfl,rfl,hb,_,_,rfl,⟨rfl,_,_,rfl,h2,Int.emod_nonneg a (by omega),?_⟩,?_⟩
  ·rw [zMj h1 hb]; exact h3
  ·have h4:=Int.emod_lt_of_pos a hb
   show (a % b).toNat < b.toNat
   omega
 ·refine ⟨_,rfl,?_⟩
  have hb0:b = 0:=by omega
  subst hb0
  have h5:a = ((Nat.gcd x.natAbs y.natAbs:Nat):Int):=by
   rw [← h3]
   show a = ((Nat.gcd a.toNat 0:Nat):Int)
   rw [Nat.gcd_zero_right]
   omega
  rw [h5]
  exact q
def zF1 (_:PySem.W.Frag):Sp:=fun vs H Q _=>∃ (D:Addr) (ws:List Wt),vs = [.ref D]∧H D = some (.lst (zDk ws))∧WtAt H ws∧ws.length≤100∧(∀ u∈ws,Nat.gcd u.2.2.2.1.natAbs u.2.2.2.2.natAbs = 1)∧∀ H',Same H H'→Q (.bl true) H'
theorem zI5 (F:Fun K "_law_low_weights" "_law_low_weights" zDi f fd) (Z:Zs mg) (h_L_low:Has P w K mg base "_law_low" 1 ["_law_one", "_law_other"] (zH5 K)):FnOk P w K mg base CX0 2 f fd ["_law_weights"] (zF1 K):=by
 refine F.ok zI7 (fun vs H Q E h=>?_) (fun cdv A outer s H vs Q E hr h=>?_)
 ·obtain ⟨D,ws,rfl,_⟩:=h
  rfl
 obtain ⟨D,ws,rfl,eD,okw,hl,lo,q⟩:=h
 refine ⟨_,(zAi (zAr (zAv (zGc rfl) rfl Z.all zNb (zAa (zC0 (T:=["_law_number", "_law_weight"]) (caps:=[]) ⟨rfl,by decide +kernel,by decide +kernel,rfl,True.intro⟩ rfl (zCc (pv 0)) (fun _=>(zB5 rfl (zAs (zAq (i:=0) (show (["_law_number", "_law_weight"]:List Str).Nodup by decide +kernel) rfl (Or.inl rfl)) (zAs (zAq (i:=1) (show (["_law_number", "_law_weight"]:List Str).Nodup by decide +kernel) rfl (Or.inl rfl)) zBf)))) (fun _=>zBl) (fun _=>(zDo zCi (zAh h_L_low (hr.mono (by decide)) rfl (zAa (zAn zAg (pv 1) zAb (fun _ _=>rfl)) (zAa (zAn zAg (pv 1) zAb (fun _ _=>rfl)) zAd))) zAb (zAz _)))) zAd)))),?_⟩
 refine ⟨_,rfl,D,rfl,.inl ⟨⟨_,SqL.of eD⟩,fun c D2 hD2=>zBj (K:=K) (a:=D) (xs:=zDk ws) (fun i σ ys H'=>H' = upd H D2 (.lst ys)∧ys = (List.replicate i true).map V.bl∧∃ u v,σ = [u,v])
  ⟨rfl,rfl,none,none,rfl⟩ (fun i σ ys H' _ ⟨e,_⟩=>by rw [e]; exact ⟨SqL.of (zAe hD2 _ _ _ eD),zAc⟩) ?_ ?_⟩⟩
 ·rintro i x σ ys H' hi ⟨rfl,rfl,u0,v0,rfl⟩
  rw [List.getElem?_map,List.getElem?_map] at hi
  cases gc:ws[i]? with
  | none=>rw [gc] at hi; cases hi
  | some u =>
   rw [gc] at hi
   cases hi
   have hil:i < ws.length:=(List.getElem?_eq_some_iff.mp gc).1
   obtain ⟨eu0,ep0⟩:=okw u (List.mem_of_getElem? gc)
   have eu:=zAe hD2 (.lst ((List.replicate i true).map V.bl)) _ _ eu0
   have ep:Sq K (upd H D2 (.lst ((List.replicate i true).map V.bl))) u.2.2.1 [.int u.2.2.2.1,.int u.2.2.2.2]:=.inr (SqT.of (zAe hD2 _ _ _ ep0))
   refine ⟨u.1,_,rfl,SqT.of eu,rfl,.int u.2.1,_,rfl,.ref u.2.2.1,_,rfl,rfl,?_⟩
   refine ⟨_,rfl,u.2.2.1,_,_,.int u.2.2.2.1,rfl,rfl,ep,rfl,_,rfl,u.2.2.1,_,_,.int u.2.2.2.2,rfl,rfl,ep,rfl,_,_,rfl,rfl,?_⟩
   rw [decI (by rw [lo u (List.mem_of_getElem? gc)]; rfl)]
   refine ⟨zAc,zA3 (by rw [List.length_map,List.length_replicate]; omega),zGq,?_,_,_,rfl⟩
   rw [List.replicate_succ',List.map_append]
   rfl
 ·rintro σ ys H' ⟨rfl,rfl,u0,v0,rfl⟩
  refine ⟨D2,List.replicate (zDk ws).length true,rfl,SqL.of zAc,?_⟩
  rw [show (List.replicate (zDk ws).length true).all id = true from by simp]
  exact q _ (zAe hD2 _)
def zLo (_:PySem.W.Frag):Sp:=fun vs H Q _=>∃ (n:Int),vs = [.int n]∧∀ v:Int,0≤v→v < 1000003→Q (.int v) H
theorem zQb (F:Fun K "_law_power" "_law_power" zIa f fd) (Z:Zs mg):FnOk P w K mg base CX0 1 f fd ["_law_number"] (zLo K):=by
 refine F.ok zPw (fun vs H Q E h=>?_) (fun cdv A outer s H vs Q E hr h=>?_)
 ·obtain ⟨n,rfl,_⟩:=h
  rfl
 obtain ⟨n,rfl,q⟩:=h
 refine ⟨_,(zAi (zAr (zAl zA7 (zAl zVc (zAl zA7 (pv 0) zAb) zAb) zAb))),?_⟩
 have h1:=Int.emod_nonneg n (show (1000003:Int)≠0 by decide)
 have h2:=Int.emod_lt_of_pos n (show (0:Int) < 1000003 by decide)
 refine ⟨_,rfl,_,_,rfl,rfl,(by show (0:Int) < 1000003; decide),_,_,rfl,rfl,⟨by decide,by decide,by omega⟩,_,_,rfl,rfl,(by show (0:Int) < 1000003; decide),?_⟩
 exact q _ (Int.emod_nonneg _ (by decide)) (Int.emod_lt_of_pos _ (by decide))
def zLs (K:PySem.W.Frag):Sp:=fun vs H Q _=>∃ (a:Addr) (ns:List Int) (many:Int),vs = [.ref a,.int many]∧SqL K H a (ns.map V.int)∧ns.length≤63∧0≤many∧many≤500 ∧
 ∀ (r:Addr) (rows:List Int) (H':Hp),Same H H'→H r = none→H' r = some (.lst (rows.map V.int))→many≤rows.length→rows.length≤600→(∀ x∈rows,0≤x∧x < 1000003)→Q (.ref r) H'
structure zJ1 (H:Hp) (r c:Addr) (ms:List Int) (H':Hp) (rows:List Int):Prop where
 same:Same H H'
 src:H' c = some (.lst (ms.map V.int))
 at':H' r = some (.lst (rows.map V.int))
 bd:∀ x∈rows,0≤x∧x < 1000003
theorem zJ1.app {H H':Hp} {r c:Addr} {ms rows:List Int} {v:Int} (d:zJ1 H r c ms H' rows) (hr:H r = none) (hrc:c≠r) (h0:0≤v) (h1:v < 1000003):zJ1 H r c ms (upd H' r (.lst (rows.map V.int ++ [.int v]))) (rows ++ [v]):=by
 refine ⟨fun b o e=>?_,?_,?_,fun x hx=>?_⟩
 ·rw [zA5 (zCk e hr)]
  exact d.same b o e
 ·rw [zA5 hrc]
  exact d.src
 ·rw [zAc,List.map_append]
  rfl
 ·rcases List.mem_append.mp hx with e | e
  ·exact d.bd x e
  ·rw [List.mem_singleton] at e
   rw [e]
   exact ⟨h0,h1⟩
theorem zQe (F:Fun K "_law_draws" "_law_draws" zHs f fd) (Z:Zs mg) (h_L_power:Has P w K mg base "_law_power" 1 ["_law_number"] (zLo K)):FnOk P w K mg base CX0 2 f fd ["_law_script", "_law_many_here"] (zLs K):=by
 refine F.ok zC4 (fun vs H Q E h=>?_) (fun cdv A outer s H vs Q E hr h=>?_)
 ·obtain ⟨a,ns,many,rfl,_⟩:=h
  rfl
 obtain ⟨a,ns,many,rfl,hS,hl,hm0,hm1,q⟩:=h
 refine ⟨_,(zAf (zAw (i:=2) zC4.nd rfl (Or.inl rfl) (zBo zAd))
   (zAf (zAw (i:=3) zC4.nd rfl (Or.inl rfl) zAb)
   (zAf (zCz PassesOwn.never rfl (zMc (zBy zCy (pv 0) zCn (zCo zAb))) (zAq (i:=4) zC4.nd rfl (Or.inl rfl)) (zAf (zAw (i:=3) zC4.nd rfl (Or.inl rfl) (zAl zA7 (zAl zBd (zAl zA2 (pv 3) zAb) (pv 4)) zAb))
   (zAf (zAw (i:=5) zC4.nd rfl (Or.inl rfl) (zAv zC5 rfl Z.abs zFd (zAa (pv 4) zAd)))
   (zAf (zA8 (zAu zF4 (pv 5) (zAl zVc zAb zAb) (zAz _)) (zAf (zFl (zLy PySem.F.plainAttrs_list PySem.F.slot_list_append PySem.F.type_list_append zCw (pv 2) (zAa (zAh h_L_power (hr.mono (by decide)) rfl (zAa (zAl zBd (pv 4) (zAl zA2 zAb (zAv zA1 rfl Z.len zB9 (zAa (pv 2) zAd)))) zAd)) zAd)))
   (zAi (zAw (i:=5) zC4.nd rfl (Or.inl rfl) zAb))) zAx)
   (zAi (zJe PassesOwn.never (PW.pt (zGb (zAu zI6 (pv 5) zAb (zAz _)) (zEp (zAu zF4 (zAv zA1 rfl Z.len zB9 (zAa (pv 2) zAd)) (pv 1) (zAz _))))) (zAf (zFl (zLy PySem.F.plainAttrs_list PySem.F.slot_list_append PySem.F.type_list_append zCw (pv 2) (zAa (zAl zA7 (pv 5) zAb) zAd)))
   (zAi (zAw (i:=5) zC4.nd rfl (Or.inl rfl) (zAl zCu (pv 5) zAb))))))))))
   (zAf (zJe PassesOwn.never (zAu zF4 (zAv zA1 rfl Z.len zB9 (zAa (pv 2) zAd)) (pv 1) (zAz _)) (zAf (zAw (i:=3) zC4.nd rfl (Or.inl rfl) (zAl zA7 (zAl zBd (zAl zA2 (pv 3) zAb) zAb) zAb))
   (zAi (zFl (zLy PySem.F.plainAttrs_list PySem.F.slot_list_append PySem.F.type_list_append zCw (pv 2) (zAa (zAh h_L_power (hr.mono (by decide)) rfl (zAa (pv 3) zAd)) zAd))))))
   (zAi (zAr (pv 2))))))),?_⟩
 refine ⟨(by show 0≤sizeLine; decide),fun r hr0=>?_⟩
 have S1:=zAe hr0 (.lst [])
 refine ⟨_,rfl,_,rfl,a,_,rfl,S1.seq hS,fun c hc=>⟨c,rfl,⟨_,SqL.of zAc⟩,?_⟩⟩
 rw [zKl]
 generalize hms:((ns.drop (HT.sIx ns.length 0 none)).take (HT.sIx ns.length ns.length (some 63) - HT.sIx ns.length 0 none)) = ms
 have hml:ms.length≤63:=by
  rw [← hms,List.length_take,List.length_drop]
  omega
 have hcr:c≠r:=fun e=>by
  rw [e,zAc] at hc
  cases hc
 have hc0:H c = none:=S1.free hc
 refine zCt (K:=K) (a:=c) (xs:=ms.map V.int) (fun i σ H'=>∃ (rows:List Int) (mix:Int) (u v:Option V),σ = [some (.ref a),some (.int many),some (.ref r),some (.int mix),u,v]∧zJ1 H r c ms H' rows∧0≤mix∧mix < 2147483647∧rows.length≤many.toNat + i)
  ⟨[],7,none,none,rfl,⟨S1.trans (zAe hc _),zAc,by rw [zA5 (Ne.symm hcr),zAc]; rfl,fun x hx=>nomatch hx⟩,by decide,by decide,Nat.zero_le _⟩ (fun i σ H' _ ⟨_,_,_,_,_,d,_⟩=>SqL.of d.src) ?_ ?_
 ·rintro i x σ H' hi ⟨rows,mix,u,v,rfl,d,hx0,hx1,hrl⟩
  obtain ⟨n,hn,rfl⟩:=zC2 hi
  have hi63:i < 63:=Nat.lt_of_lt_of_le (List.getElem?_eq_some_iff.mp hn).1 hml
  refine ⟨_,rfl,_,_,rfl,rfl,.inr ⟨by decide,by decide⟩,_,rfl,_,_,rfl,rfl,_,_,rfl,rfl,(by show (0:Int) < 2147483647; decide),?_⟩
  have m0:=Int.emod_nonneg (mix * 48271 + n) (show (2147483647:Int)≠0 by decide)
  have m1:=Int.emod_lt_of_pos (mix * 48271 + n) (show (0:Int) < 2147483647 by decide)
  refine ⟨_,rfl,n,rfl,?_⟩
  have a0:0≤(if n < 0 then -n else n):=by split <;> omega
  generalize (if n < 0 then -n else n) = rest at a0 ⊢
  refine ⟨_,rfl,_,_,rfl,rfl,⟨by decide,by decide,by decide⟩,_,_,rfl,rfl,_,rfl,?_⟩
  refine ifD (fun hsm=>?_) (fun hsm=>?_)
  ·refine ⟨_,rfl,.inl ⟨rfl,_,SqL.of d.at'⟩,_,rfl,_,rfl,r,_,rfl,.inl (SqL.of d.at'),_,_,rfl,rfl,.inl ⟨by decide,by decide⟩,_,_,rfl,rfl,_,rfl,fun v v0 v1=>?_⟩
   refine ⟨r,_,_,rfl,rfl,d.at',zA3 (by rw [List.length_map]; omega),?_⟩
   have j0:(0:Int)≤0:=Int.le_refl 0
   have j1:=d.app hr0 hcr v0 v1
   have j2:(rows ++ [v]).length≤many.toNat + (i + 1):=by rw [List.length_append,List.length_singleton]; omega
   refine zG4 (fun σ H2=>∃ (rows:List Int) (rest:Int),σ = [some (.ref a),some (.int many),some (.ref r),some (.int ((mix * 48271 + n) % 2147483647)),some (.int n),some (.int rest)]∧0≤rest∧zJ1 H r c ms H2 rows∧rows.length≤many.toNat + (i + 1))
    (fun σ _=>match σ with | [_,_,_,_,_,some (.int z)]=>z.toNat | _=>0) ⟨_,_,rfl,j0,j1,j2⟩ ?_ (zVb (zKh (zQx zS2 zIy mo_c)) (zKh (zQx zS2 (zVg zRu (zN8 zIy zR2)) zIy)))
   rintro σ H2 ⟨rows,rest,rfl,r0,d2,l2⟩
   refine ⟨_,rfl,_,_,rfl,rfl,_,rfl,?_⟩
   refine ifD (fun hpos=>?_) (fun hpos=>?_)
   ·refine ⟨_,rfl,r,_,rfl,.inl (SqL.of d2.at'),_,rfl,_,_,rfl,rfl,_,rfl,?_⟩
    refine ifD (fun hlt=>?_) (fun hlt=>?_)
    ·have hlt':((rows.map V.int).length:Int) < many:=hlt
     rw [List.length_map] at hlt'
     refine ⟨_,rfl,.inl ⟨rfl,_,SqL.of d2.at'⟩,_,rfl,_,_,rfl,rfl,(by show (0:Int) < 1000003; decide),r,_,_,rfl,rfl,d2.at',zA3 (by rw [List.length_map]; omega),?_⟩
     have v0:=Int.emod_nonneg rest (show (1000003:Int)≠0 by decide)
     have v1:=Int.emod_lt_of_pos rest (show (0:Int) < 1000003 by decide)
     refine ⟨_,rfl,_,_,rfl,rfl,zEs.of (by decide) (by decide +kernel),⟨rows ++ [rest % 1000003],_,rfl,by omega,d2.app hr0 hcr v0 v1,by rw [List.length_append,List.length_singleton]; omega⟩,?_⟩
     show (rest / 1000003).toNat < rest.toNat
     omega
    ·exact ⟨rows,_,_,_,rfl,d2,m0,m1,l2⟩
   ·exact ⟨rows,_,_,_,rfl,d2,m0,m1,l2⟩
  ·have j0:=a0
   have j1:=d
   have j2:rows.length≤many.toNat + (i + 1):=by omega
   refine zG4 (fun σ H2=>∃ (rows:List Int) (rest:Int),σ = [some (.ref a),some (.int many),some (.ref r),some (.int ((mix * 48271 + n) % 2147483647)),some (.int n),some (.int rest)]∧0≤rest∧zJ1 H r c ms H2 rows∧rows.length≤many.toNat + (i + 1))
    (fun σ _=>match σ with | [_,_,_,_,_,some (.int z)]=>z.toNat | _=>0) ⟨_,_,rfl,j0,j1,j2⟩ ?_ (zVb (zKh (zQx zS2 zIy mo_c)) (zKh (zQx zS2 (zVg zRu (zN8 zIy zR2)) zIy)))
   rintro σ H2 ⟨rows,rest,rfl,r0,d2,l2⟩
   refine ⟨_,rfl,_,_,rfl,rfl,_,rfl,?_⟩
   refine ifD (fun hpos=>?_) (fun hpos=>?_)
   ·refine ⟨_,rfl,r,_,rfl,.inl (SqL.of d2.at'),_,rfl,_,_,rfl,rfl,_,rfl,?_⟩
    refine ifD (fun hlt=>?_) (fun hlt=>?_)
    ·have hlt':((rows.map V.int).length:Int) < many:=hlt
     rw [List.length_map] at hlt'
     refine ⟨_,rfl,.inl ⟨rfl,_,SqL.of d2.at'⟩,_,rfl,_,_,rfl,rfl,(by show (0:Int) < 1000003; decide),r,_,_,rfl,rfl,d2.at',zA3 (by rw [List.length_map]; omega),?_⟩
     have v0:=Int.emod_nonneg rest (show (1000003:Int)≠0 by decide)
     have v1:=Int.emod_lt_of_pos rest (show (0:Int) < 1000003 by decide)
     refine ⟨_,rfl,_,_,rfl,rfl,zEs.of (by decide) (by decide +kernel),⟨rows ++ [rest % 1000003],_,rfl,by omega,d2.app hr0 hcr v0 v1,by rw [List.length_append,List.length_singleton]; omega⟩,?_⟩
     show (rest / 1000003).toNat < rest.toNat
     omega
    ·exact ⟨rows,_,_,_,rfl,d2,m0,m1,l2⟩
   ·exact ⟨rows,_,_,_,rfl,d2,m0,m1,l2⟩
 ·rintro σ H' ⟨rows,mix,u,v,rfl,d,hx0,hx1,hrl⟩
  rw [List.length_map] at hrl
  refine zG4 (fun σ H2=>∃ (rows:List Int) (mix:Int),σ = [some (.ref a),some (.int many),some (.ref r),some (.int mix),u,v]∧zJ1 H r c ms H2 rows∧0≤mix∧mix < 2147483647∧rows.length≤many.toNat + 63∧H2 r = some (.lst (rows.map V.int)))
   (fun σ H2=>match H2 r with | some (.lst xs)=>many.toNat - xs.length | _=>0) ⟨rows,mix,rfl,d,hx0,hx1,by omega,d.at'⟩ ?_ (zKh (zQx zS2 (zVg zRu (zN8 zIy zR2)) zIy))
  rintro σ H2 ⟨rows,mix,rfl,d2,hx0,hx1,l2,ha2⟩
  refine ⟨_,rfl,r,_,rfl,.inl (SqL.of d2.at'),_,rfl,_,_,rfl,rfl,_,rfl,?_⟩
  refine ifD (fun hlt=>?_) (fun hlt=>?_)
  ·have hlt':((rows.map V.int).length:Int) < many:=hlt
   rw [List.length_map] at hlt'
   refine ⟨_,rfl,_,_,rfl,rfl,.inr ⟨by decide,by decide⟩,_,_,rfl,rfl,_,_,rfl,rfl,(by show (0:Int) < 2147483647; decide),?_⟩
   have m0:=Int.emod_nonneg (mix * 48271 + 11) (show (2147483647:Int)≠0 by decide)
   have m1:=Int.emod_lt_of_pos (mix * 48271 + 11) (show (0:Int) < 2147483647 by decide)
   refine ⟨_,rfl,.inl ⟨rfl,_,SqL.of d2.at'⟩,_,rfl,_,rfl,fun v v0 v1=>?_⟩
   refine ⟨r,_,_,rfl,rfl,d2.at',zA3 (by rw [List.length_map]; omega),⟨rows ++ [v],_,rfl,d2.app hr0 hcr v0 v1,m0,m1,by rw [List.length_append,List.length_singleton]; omega,(d2.app hr0 hcr v0 v1).at'⟩,?_⟩
   rw [ha2,zAc]
   show many.toNat - (rows.map V.int ++ [V.int v]).length < many.toNat - (rows.map V.int).length
   rw [List.length_append,List.length_map,List.length_singleton]
   omega
  ·have hlt':¬ ((rows.map V.int).length:Int) < many:=hlt
   rw [List.length_map] at hlt'
   exact ⟨_,rfl,q r rows H2 d2.same hr0 d2.at' (by omega) (by omega) d2.bd⟩
def zM3 (_:PySem.W.Frag):Sp:=fun vs H Q _=>∃ (x y few most:Int),vs = [.int x,.int y,.int few,.int most]∧0≤few∧0≤most∧∀ (v:Int),0≤v→(v≤few∨v≤most)→Q (.int v) H
theorem zRs (F:Fun K "_law_many" "_law_many" zJh f fd) (Z:Zs mg)  : FnOk P w K mg base CX0 1 f fd ["_law_one", "_law_two", "_law_few", "_law_most"] (zM3 K):=by
 refine F.ok zRk (fun vs H Q E h=>?_) (fun cdv A outer s H vs Q E hr h=>?_)
 ·obtain ⟨x,y,few,most,rfl,_⟩:=h
  rfl
 obtain ⟨x,y,few,most,rfl,h1,h2,q⟩:=h
 refine ⟨_,(zAf (zA8 (zAu zCi (zAl zA7 (pv 1) zAb) zAb (zAz _)) (zAi (zAr (zAl zA7 (pv 0) (zAl zBd (pv 3) zAb)))) zAx)
   (zAi (zAr (zAl zA7 (pv 0) (zAl zBd (pv 2) zAb))))),?_⟩
 have g1:(0:Int) < most + 1:=by omega
 have g2:(0:Int) < few + 1:=by omega
 have m1:=Int.emod_nonneg x (show most + 1≠0 by omega)
 have m2:=Int.emod_lt_of_pos x g1
 have m3:=Int.emod_nonneg x (show few + 1≠0 by omega)
 have m4:=Int.emod_lt_of_pos x g2
 refine ⟨_,rfl,_,_,rfl,rfl,(by show (0:Int) < 8; decide),rfl,_,rfl,?_⟩
 refine ifE (fun _=>?_) (fun _=>?_)
 ·exact ⟨_,rfl,_,rfl,_,_,rfl,rfl,_,_,rfl,rfl,g1,q _ m1 (.inr (by omega))⟩
 ·exact ⟨_,rfl,_,rfl,_,_,rfl,rfl,_,_,rfl,rfl,g2,q _ m3 (.inl (by omega))⟩
def zTt (ss:List Sd) (m:Nat):Prop:=∀ t∈ss,t.2.1.natAbs≤3 * 10 ^ 8∧t.2.2.1.natAbs≤3 * 10 ^ 8∧t.2.2.2.natAbs≤m
def zLj (K:PySem.W.Frag):Sp:=fun vs H Q _=>∃ (r l:Addr) (rows:List Int) (ss:List Sd),vs = [.ref r,.ref l]∧SqL K H r (rows.map V.int)∧2≤rows.length∧(∀ x∈rows,0≤x∧x < 1000003)∧H l = some (.lst (zAm ss))∧SdOk H ss∧ss.length≤900∧zTt ss (3 * 10 ^ 12) ∧
 ∀ (l':Addr) (ss':List Sd) (H':Hp),Same H H'→H' l' = some (.lst (zAm ss'))→ss'.length = ss.length→SdOk H' ss'→zTt ss' (4 * 10 ^ 12)→Q (.ref l') H'
theorem zQk (F:Fun K "_law_tight" "_law_tight" zH2 f fd) (Z:Zs mg)  : FnOk P w K mg base CX0 1 f fd ["_law_some", "_law_sides_here"] (zLj K):=by
 refine F.ok zPn (fun vs H Q E h=>?_) (fun cdv A outer s H vs Q E hr h=>?_)
 ·obtain ⟨r,l,rows,ss,rfl,_⟩:=h
  rfl
 obtain ⟨r,l,rows,ss,rfl,hS,h2,bd,el,ok,hlen,bnd,q⟩:=h
 refine ⟨_,(zAf (zA8 (zAu zCi (zAl zA7 (zAn zAg (pv 0) zAb (fun _ _=>rfl)) zAb) zAb (zAz _)) (zAi (zAr (pv 1))) zAx)
   (zAf (zA8 (zAu zCi (zAl zA7 (zAn zAg (pv 0) zAb (fun _ _=>rfl)) zAb) zAb (zAz _)) (zAi (zAr (zC0 (T:=["_law_a", "_law_b", "_law_c"]) (caps:=[]) ⟨rfl,by decide +kernel,by decide +kernel,rfl,True.intro⟩ rfl (zCc (pv 1)) (fun _=>(zB5 rfl (zAs (zAq (i:=0) (show (["_law_a", "_law_b", "_law_c"]:List Str).Nodup by decide +kernel) rfl (Or.inl rfl)) (zAs (zAq (i:=1) (show (["_law_a", "_law_b", "_law_c"]:List Str).Nodup by decide +kernel) rfl (Or.inl rfl)) (zAs (zAq (i:=2) (show (["_law_a", "_law_b", "_law_c"]:List Str).Nodup by decide +kernel) rfl (Or.inl rfl)) zBf))))) (fun _=>zBl) (fun _=>(zA0 (zAa (pv 0) (zAa (pv 1) (zAa (zAl zA6 (zAl zA6 (pv 2) (zAv zC5 rfl Z.abs zFd (zAa (pv 0) zAd))) (zAv zC5 rfl Z.abs zFd (zAa (pv 1) zAd))) zAd)))))))) zAx)
   (zAi (zAr (zC0 (T:=["_law_a", "_law_b", "_law_c"]) (caps:=[("_law_some", 0)]) ⟨rfl,by decide +kernel,by decide +kernel,rfl,⟨⟨rfl,rfl,Or.inl rfl⟩,True.intro⟩⟩ rfl (zCc (pv 1)) (fun _=>(zB5 rfl (zAs (zAq (i:=0) (show (["_law_a", "_law_b", "_law_c", "_law_some"]:List Str).Nodup by decide +kernel) rfl (Or.inl rfl)) (zAs (zAq (i:=1) (show (["_law_a", "_law_b", "_law_c", "_law_some"]:List Str).Nodup by decide +kernel) rfl (Or.inl rfl)) (zAs (zAq (i:=2) (show (["_law_a", "_law_b", "_law_c", "_law_some"]:List Str).Nodup by decide +kernel) rfl (Or.inl rfl)) zBf))))) (fun _=>zBl) (fun _=>(zA0 (zAa (pv 0) (zAa (pv 1) (zAa (zAl zBd (zAv zC5 rfl Z.abs zFd (zAa (pv 2) zAd)) (zAl zA7 (zAn zAg (pv 3) zAb (fun _ _=>rfl)) zAb)) zAd)))))))))),?_⟩
 obtain ⟨v0,a0,_⟩:=zCb bd (k:=0) (by decide) (by omega)
 obtain ⟨v1,a1,w0,w1⟩:=zCb bd (k:=1) (by decide) (by omega)
 refine ⟨_,rfl,r,_,_,_,rfl,rfl,.inl hS,a0,_,_,rfl,rfl,(by show (0:Int) < 3; decide),rfl,_,rfl,?_⟩
 refine ifE (fun _=>?_) (fun _=>?_)
 ·exact ⟨_,rfl,q l ss H (Same.refl _) el rfl ok fun t ht=>⟨(bnd t ht).1,(bnd t ht).2.1,by have:=(bnd t ht).2.2; omega⟩⟩
 refine ⟨_,rfl,r,_,_,_,rfl,rfl,.inl hS,a0,_,_,rfl,rfl,(by show (0:Int) < 3; decide),rfl,_,rfl,?_⟩
 refine ifE (fun _=>?_) (fun _=>?_)
 ·show _
  refine ⟨_,rfl,l,rfl,.inl ⟨⟨_,SqL.of el⟩,fun cc D hD=>zBj (K:=K) (a:=l) (xs:=zAm ss) (fun i σ ys G=>∃ sa:List Sd,ys = zAm sa∧sa.length = i∧SdSt H D sa G∧zTt sa (4 * 10 ^ 12)∧∃ u0 u1 u2:Option V,σ = [u0,u1,u2])
   ⟨[],rfl,rfl,⟨zAe hD _,hD,zAc,(fun t ht=>nomatch ht)⟩,(fun t ht=>nomatch ht),none,none,none,rfl⟩ (fun i σ ys G _ ⟨sa,e1,_,Pq,_⟩=>⟨SqL.of (Pq.same _ _ el),by rw [e1]; exact Pq.at'⟩) ?_ ?_⟩⟩
  ·rintro i x σ ys Gc hi ⟨sa,rfl,na,Pc,bc,u0,u1,u2,rfl⟩
   obtain ⟨t,gt,rfl,hil⟩:=zBu hi
   obtain ⟨et,nt,_⟩:=ok t (List.mem_of_getElem? gt)
   obtain ⟨b1,b2,b3⟩:=bnd t (List.mem_of_getElem? gt)
   refine ⟨t.1,_,rfl,SqT.of (Pc.same _ _ et),rfl,.int t.2.1,_,rfl,.int t.2.2.1,_,rfl,.int t.2.2.2,_,rfl,rfl,?_⟩
   have nb:(t.2.2.2 - (if t.2.1 < 0 then -t.2.1 else t.2.1) - (if t.2.2.1 < 0 then -t.2.2.1 else t.2.2.1)).natAbs≤4 * 10 ^ 12:=by
    split <;> first | omega | (split <;> omega)
   refine ⟨_,rfl,_,rfl,_,rfl,_,rfl,_,rfl,_,_,rfl,rfl,_,rfl,_,rfl,_,_,rfl,rfl,(by show 3≤sizeLine; decide),fun p hp=>?_⟩
   have sp:=zAe hp (.tup [.int t.2.1,.int t.2.2.1,.int (t.2.2.2 - (if t.2.1 < 0 then -t.2.1 else t.2.1) - (if t.2.2.1 < 0 then -t.2.2.1 else t.2.2.1))])
   refine ⟨sp _ _ Pc.at',zA3 (by rw [zAk]; omega),sa ++ [(p,t.2.1,t.2.2.1,(t.2.2.2 - (if t.2.1 < 0 then -t.2.1 else t.2.1) - (if t.2.2.1 < 0 then -t.2.2.1 else t.2.2.1)))],by simp [zAm],by rw [List.length_append,na]; rfl,Pc.app sp hp zAc nt (by omega) (by omega) (by omega),fun u hu=>(List.mem_append.mp hu).elim (bc u) fun h=>by rw [List.mem_singleton] at h; subst h; exact ⟨b1,b2,nb⟩,_,_,_,rfl⟩
  ·rintro σ ys Gc ⟨sa,rfl,na,Pc,bc,u0,u1,u2,rfl⟩
   rw [zAk] at na
   exact q D sa Gc Pc.same Pc.at' na Pc.all bc
 ·show _
  refine ⟨_,rfl,l,rfl,.inl ⟨⟨_,SqL.of el⟩,fun cc D hD=>zBj (K:=K) (a:=l) (xs:=zAm ss) (fun i σ ys G=>∃ sa:List Sd,ys = zAm sa∧sa.length = i∧SdSt H D sa G∧zTt sa (4 * 10 ^ 12)∧∃ u0 u1 u2:Option V,σ = [u0,u1,u2,some (.ref r)])
   ⟨[],rfl,rfl,⟨zAe hD _,hD,zAc,(fun t ht=>nomatch ht)⟩,(fun t ht=>nomatch ht),none,none,none,rfl⟩ (fun i σ ys G _ ⟨sa,e1,_,Pq,_⟩=>⟨SqL.of (Pq.same _ _ el),by rw [e1]; exact Pq.at'⟩) ?_ ?_⟩⟩
  ·rintro i x σ ys Gc hi ⟨sa,rfl,na,Pc,bc,u0,u1,u2,rfl⟩
   obtain ⟨t,gt,rfl,hil⟩:=zBu hi
   obtain ⟨et,nt,_⟩:=ok t (List.mem_of_getElem? gt)
   obtain ⟨b1,b2,b3⟩:=bnd t (List.mem_of_getElem? gt)
   refine ⟨t.1,_,rfl,SqT.of (Pc.same _ _ et),rfl,.int t.2.1,_,rfl,.int t.2.2.1,_,rfl,.int t.2.2.2,_,rfl,rfl,?_⟩
   have nb:((if t.2.2.2 < 0 then -t.2.2.2 else t.2.2.2) + v1 % 4).natAbs≤4 * 10 ^ 12:=by
    split <;> first | omega | (split <;> omega)
   refine ⟨_,rfl,_,rfl,_,rfl,_,rfl,_,rfl,r,_,_,_,rfl,rfl,.inl (Pc.same.seq hS),a1,_,_,rfl,rfl,(by show (0:Int) < 4; decide),_,_,rfl,rfl,(by show 3≤sizeLine; decide),fun p hp=>?_⟩
   have sp:=zAe hp (.tup [.int t.2.1,.int t.2.2.1,.int ((if t.2.2.2 < 0 then -t.2.2.2 else t.2.2.2) + v1 % 4)])
   refine ⟨sp _ _ Pc.at',zA3 (by rw [zAk]; omega),sa ++ [(p,t.2.1,t.2.2.1,((if t.2.2.2 < 0 then -t.2.2.2 else t.2.2.2) + v1 % 4))],by simp [zAm],by rw [List.length_append,na]; rfl,Pc.app sp hp zAc nt (by omega) (by omega) (by omega),fun u hu=>(List.mem_append.mp hu).elim (bc u) fun h=>by rw [List.mem_singleton] at h; subst h; exact ⟨b1,b2,nb⟩,_,_,_,rfl⟩
  ·rintro σ ys Gc ⟨sa,rfl,na,Pc,bc,u0,u1,u2,rfl⟩
   rw [zAk] at na
   exact q D sa Gc Pc.same Pc.at' na Pc.all bc
def zJa (_:PySem.W.Frag):Sp:=fun vs H Q _=>∃ (o t wd:Int),vs = [.int o,.int t,.int wd]∧1≤wd∧wd≤1000000 ∧
 ∀ (p:Addr) (x y:Int) (H':Hp),Same H H'→H p = none→H' p = some (.tup [.int x,.int y])→(x≠0∨y≠0)→x.natAbs≤wd.natAbs→y.natAbs≤wd.natAbs→Q (.ref p) H'
theorem zUm (F:Fun K "_law_way" "_law_way" zL4 f fd) (Z:Zs mg)  : FnOk P w K mg base CX0 1 f fd ["_law_one", "_law_two", "_law_wide"] (zJa K):=by
 refine F.ok zJl (fun vs H Q E h=>?_) (fun cdv A outer s H vs Q E hr h=>?_)
 ·obtain ⟨o,t,wd,rfl,_⟩:=h
  rfl
 obtain ⟨o,t,wd,rfl,w1,w2,q⟩:=h
 refine ⟨_,(zAf (zAw (i:=3) zJl.nd rfl (Or.inl rfl) (zAl zA6 (zAl zA7 (pv 0) (zAl zBd (zAl zA2 zAb (pv 2)) zAb)) (pv 2)))
   (zAf (zAw (i:=4) zJl.nd rfl (Or.inl rfl) (zAl zA6 (zAl zA7 (pv 1) (zAl zBd (zAl zA2 zAb (pv 2)) zAb)) (pv 2)))
   (zAf (zA8 (PW.pt (zGb (zAu zCi (pv 3) zAb (zAz _)) (zEp (zAu zCi (pv 4) zAb (zAz _))))) (zAi (zAw (i:=3) zJl.nd rfl (Or.inl rfl) (zAl zA6 zAb (zAl zA2 zAb (zAl zA7 (pv 0) zAb))))) zAx)
   (zAi (zAr (zA0 (zAa (pv 3) (zAa (pv 4) zAd)))))))),?_⟩
 have x0:=Int.emod_nonneg o (show 2 * wd + 1≠0 by omega)
 have x1:=Int.emod_lt_of_pos o (show 0 < 2 * wd + 1 by omega)
 have y0:=Int.emod_nonneg t (show 2 * wd + 1≠0 by omega)
 have y1:=Int.emod_lt_of_pos t (show 0 < 2 * wd + 1 by omega)
 refine ⟨_,rfl,_,rfl,_,_,rfl,rfl,.inl ⟨by decide,by decide⟩,_,_,rfl,rfl,_,_,rfl,rfl,(by show 0 < 2 * wd + 1; omega),_,rfl,_,_,rfl,rfl,?_⟩
 refine ⟨_,rfl,_,rfl,_,_,rfl,rfl,.inl ⟨by decide,by decide⟩,_,_,rfl,rfl,_,_,rfl,rfl,(by show 0 < 2 * wd + 1; omega),_,rfl,_,_,rfl,rfl,?_⟩
 refine ⟨_,rfl,rfl,_,rfl,?_⟩
 refine ifE (fun hx=>?_) (fun hx=>?_)
 ·refine ⟨_,rfl,rfl,_,rfl,?_⟩
  refine ifE (fun hy=>?_) (fun hy=>?_)
  ·refine ⟨_,rfl,_,_,rfl,rfl,(by show (0:Int) < 2; decide),_,_,rfl,rfl,.inl ⟨by decide,by decide⟩,_,_,rfl,rfl,?_⟩
   refine ⟨_,rfl,_,rfl,(by show 2≤sizeLine; decide),fun p hp=>?_⟩
   exact q p _ _ _ (zAe hp _) hp zAc (by left; omega) (by omega) (by omega)
  ·refine ⟨_,rfl,_,rfl,(by show 2≤sizeLine; decide),fun p hp=>?_⟩
   exact q p _ _ _ (zAe hp _) hp zAc (.inr hy) (by omega) (by omega)
 ·refine iteF ?_
  refine ⟨_,rfl,_,rfl,(by show 2≤sizeLine; decide),fun p hp=>?_⟩
  exact q p _ _ _ (zAe hp _) hp zAc (.inl hx) (by omega) (by omega)
theorem zJo {x y C v0 v1 v3:Int} (hn:x≠0∨y≠0) (mx:x.natAbs≤2000) (my:y.natAbs≤2000) (mc:C.natAbs≤1000000):(997 * x + v0 % 5 - 2≠0∨997 * y + v1 % 5 - 2≠0)∧(997 * x + v0 % 5 - 2).natAbs≤10 ^ 7∧(997 * y + v1 % 5 - 2).natAbs≤10 ^ 7∧(997 * C + v3 % 900).natAbs≤10 ^ 10 :=
 ⟨by clear mx my mc; omega,by clear my mc hn; omega,by clear mx mc hn; omega,by clear mx my hn; omega⟩
def zNj (K:PySem.W.Frag):Sp:=fun vs H Q _=>∃ (a:Addr) (rows:List Int),vs = [.ref a]∧SqL K H a (rows.map V.int)∧5≤rows.length∧(∀ x∈rows,0≤x∧x < 1000003) ∧
 ∀ (p:Addr) (A B C:Int) (H':Hp),Same H H'→H p = none→H' p = some (.tup [.int A,.int B,.int C])→(A≠0∨B≠0)→A.natAbs≤10 ^ 7→B.natAbs≤10 ^ 7→C.natAbs≤10 ^ 10→Q (.ref p) H'
theorem zRn (F:Fun K "_law_side" "_law_side" zJk f fd) (Z:Zs mg) (h_L_way:Has P w K mg base "_law_way" 1 ["_law_one", "_law_two", "_law_wide"] (zJa K)):FnOk P w K mg base CX0 2 f fd ["_law_d"] (zNj K):=by
 refine F.ok zFi (fun vs H Q E h=>?_) (fun cdv A outer s H vs Q E hr h=>?_)
 ·obtain ⟨a,rows,rfl,_⟩:=h
  rfl
 obtain ⟨a,rows,rfl,hS,hl,bd,q⟩:=h
 refine ⟨_,(zAf (zEw (zAh h_L_way (hr.mono (by decide)) rfl (zAa (zAn zAg (pv 0) zAb (fun _ _=>rfl)) (zAa (zAn zAg (pv 0) zAb (fun _ _=>rfl)) (zAa (zAn zAg (zBo (zAa zAb (zAa zAb (zAa zAb (zAa zAb (zAa zAb zAd)))))) (zAl zA7 (zAn zAg (pv 0) zAb (fun _ _=>rfl)) zAb) (fun _ _=>rfl)) zAd)))) (zB5 rfl (zAs (zAq (i:=1) zFi.nd rfl (Or.inl rfl)) (zAs (zAq (i:=2) zFi.nd rfl (Or.inl rfl)) zBf))))
   (zAf (zAw (i:=3) zFi.nd rfl (Or.inl rfl) (zAl zA6 (zAl zA7 (zAn zAg (pv 0) zAb (fun _ _=>rfl)) zAb) zAb))
   (zAf (zA8 (zAu zCi (zAl zA7 (zAn zAg (pv 0) zAb (fun _ _=>rfl)) zAb) zAb (zAz _)) (zAi (zAw (i:=3) zFi.nd rfl (Or.inl rfl) (zAl zA6 (zAl zA7 (zAn zAg (pv 0) zAb (fun _ _=>rfl)) zAb) zAb))) zAx)
   (zAf (zA8 (zAu zCi (zAl zA7 (zAn zAg (pv 0) zAb (fun _ _=>rfl)) zAb) zAb (zAz _)) (zAi (zAw (i:=3) zFi.nd rfl (Or.inl rfl) (zAl zBd (zAl zA2 (pv 1) (zAl zA6 (zAl zA7 (zAn zAg (pv 0) zAb (fun _ _=>rfl)) zAb) zAb)) (zAl zA2 (pv 2) (zAl zA6 (zAl zA7 (zAl zCu (zAn zAg (pv 0) zAb (fun _ _=>rfl)) zAb) zAb) zAb))))) zAx)
   (zAf (zA8 (zAu zCi (zAl zA7 (zAl zCu (zAn zAg (pv 0) zAb (fun _ _=>rfl)) zAb) zAb) zAb (zAz _)) (zAi (zAr (zA0 (zAa (zAl zA6 (zAl zBd (zAl zA2 zAb (pv 1)) (zAl zA7 (zAn zAg (pv 0) zAb (fun _ _=>rfl)) zAb)) zAb) (zAa (zAl zA6 (zAl zBd (zAl zA2 zAb (pv 2)) (zAl zA7 (zAn zAg (pv 0) zAb (fun _ _=>rfl)) zAb)) zAb) (zAa (zAl zBd (zAl zA2 zAb (pv 3)) (zAl zA7 (zAn zAg (pv 0) zAb (fun _ _=>rfl)) zAb)) zAd)))))) zAx)
   (zAi (zAr (zA0 (zAa (pv 1) (zAa (pv 2) (zAa (pv 3) zAd))))))))))),?_⟩
 obtain ⟨v0,a0,b00,b01⟩:=zCb bd (k:=0) (by decide) (by omega)
 obtain ⟨v1,a1,b10,b11⟩:=zCb bd (k:=1) (by decide) (by omega)
 obtain ⟨v2,a2,b20,b21⟩:=zCb bd (k:=2) (by decide) (by omega)
 obtain ⟨v3,a3,b30,b31⟩:=zCb bd (k:=3) (by decide) (by omega)
 obtain ⟨v4,a4,b40,b41⟩:=zCb bd (k:=4) (by decide) (by omega)
 refine ⟨_,rfl,a,_,_,_,rfl,rfl,.inl hS,a0,_,rfl,a,_,_,_,rfl,rfl,.inl hS,a1,(by show 5≤sizeLine; decide),fun c hc=>?_⟩
 have s1:=zAe hc (.lst [.int 3,.int 3,.int 3,.int 100,.int 2000])
 obtain ⟨wd,hw,hw1,hw2⟩:∃ b:Int,atI [V.int 3,V.int 3,V.int 3,V.int 100,V.int 2000] (v4 % 5) = some (.int b)∧1≤b∧b≤2000:=by
  have c0:=Int.emod_nonneg v4 (show (5:Int)≠0 by decide)
  have c1:=Int.emod_lt_of_pos v4 (show (0:Int) < 5 by decide)
  have cc:v4 % 5 = 0∨v4 % 5 = 1∨v4 % 5 = 2∨v4 % 5 = 3∨v4 % 5 = 4:=by omega
  rcases cc with e | e | e | e | e
  ·exact ⟨3,by rw [e]; rfl,by decide,by decide⟩
  ·exact ⟨3,by rw [e]; rfl,by decide,by decide⟩
  ·exact ⟨3,by rw [e]; rfl,by decide,by decide⟩
  ·exact ⟨100,by rw [e]; rfl,by decide,by decide⟩
  ·exact ⟨2000,by rw [e]; rfl,by decide,by decide⟩
 refine ⟨_,rfl,a,_,_,_,rfl,rfl,.inl (s1.seq hS),a4,_,_,rfl,rfl,(by show (0:Int) < 5; decide),c,_,_,.int wd,rfl,rfl,.inl (SqL.of zAc),hw,v0,v1,wd,rfl,hw1,by omega,fun p x y H2 s2' hp e2 hn n1 n2=>?_⟩
 have s2:=s1.trans s2'
 have mx:x.natAbs≤2000:=by omega
 have my:y.natAbs≤2000:=by omega
 refine ⟨p,[.int x,.int y],rfl,SqT.of e2,rfl,.int x,[.int y],rfl,.int y,[],rfl,rfl,?_⟩
 refine ⟨_,rfl,a,_,_,_,rfl,rfl,.inl (s2.seq hS),a2,_,_,rfl,rfl,(by show (0:Int) < 19; decide),_,_,rfl,rfl,?_⟩
 refine ⟨_,rfl,a,_,_,_,rfl,rfl,.inl (s2.seq hS),a3,_,_,rfl,rfl,(by show (0:Int) < 4; decide),rfl,_,rfl,?_⟩
 refine ifE (fun _=>?_) (fun _=>?_)
 ·refine ⟨_,rfl,a,_,_,_,rfl,rfl,.inl (s2.seq hS),a2,_,_,rfl,rfl,(by show (0:Int) < 1000001; decide),_,_,rfl,rfl,?_⟩
  refine ⟨_,rfl,a,_,_,_,rfl,rfl,.inl (s2.seq hS),a3,_,_,rfl,rfl,(by show (0:Int) < 4; decide),rfl,_,rfl,?_⟩
  refine ifE (fun _=>?_) (fun _=>?_)
  ·refine ⟨_,rfl,_,rfl,a,_,_,_,rfl,rfl,.inl (s2.seq hS),a2,_,_,rfl,rfl,(by show (0:Int) < 9; decide),_,_,rfl,rfl,_,_,rfl,rfl,cm_l (by omega),
    _,rfl,_,rfl,a,_,_,_,rfl,rfl,.inl (s2.seq hS),a2,_,_,rfl,rfl,zEs.of (by decide) (by decide +kernel),_,_,rfl,rfl,(by show (0:Int) < 9; decide),_,_,rfl,rfl,_,_,rfl,rfl,cm_l (by omega),_,_,rfl,rfl,?_⟩
   have z1:=zAj x (v2 % 9 - 4) (m:=2000) (n:=4) mx (by omega)
   have z2:=zAj y (v2 / 9 % 9 - 4) (m:=2000) (n:=4) my (by omega)
   have mc:((x * (v2 % 9 - 4) + y * (v2 / 9 % 9 - 4))).natAbs≤1000000:=by omega
   refine ⟨_,rfl,a,_,_,_,rfl,rfl,.inl (s2.seq hS),a4,_,_,rfl,rfl,zEs.of (by decide) (by decide +kernel),_,_,rfl,rfl,(by show (0:Int) < 12; decide),rfl,_,rfl,?_⟩
   refine ifE (fun _=>?_) (fun _=>?_)
   ·refine ⟨_,rfl,_,_,rfl,rfl,.inl ⟨by decide,by decide⟩,_,rfl,a,_,_,_,rfl,rfl,.inl (s2.seq hS),a0,_,_,rfl,rfl,(by show (0:Int) < 5; decide),_,_,rfl,rfl,_,_,rfl,rfl,
     _,rfl,_,_,rfl,rfl,.inl ⟨by decide,by decide⟩,_,rfl,a,_,_,_,rfl,rfl,.inl (s2.seq hS),a1,_,_,rfl,rfl,(by show (0:Int) < 5; decide),_,_,rfl,rfl,_,_,rfl,rfl,
     _,rfl,_,_,rfl,rfl,.inl ⟨by decide,by decide⟩,_,rfl,a,_,_,_,rfl,rfl,.inl (s2.seq hS),a3,_,_,rfl,rfl,(by show (0:Int) < 900; decide),_,_,rfl,rfl,(by show 3≤sizeLine; decide),fun r hr0=>?_⟩
    have sb:=zJo (v0:=v0) (v1:=v1) (v3:=v3) hn mx my mc
    exact q r _ _ _ _ (s2.trans (zAe hr0 _)) (s2.free hr0) zAc sb.1 sb.2.1 sb.2.2.1 sb.2.2.2
   ·refine ⟨_,rfl,_,rfl,_,rfl,(by show 3≤sizeLine; decide),fun r hr0=>?_⟩
    exact q r _ _ _ _ (s2.trans (zAe hr0 _)) (s2.free hr0) zAc hn (Nat.le_trans mx (by decide)) (Nat.le_trans my (by decide)) (Nat.le_trans mc (by decide))
  ·skip
   have mc:((v2 % 1000001 - 300000)).natAbs≤1000000:=by omega
   refine ⟨_,rfl,a,_,_,_,rfl,rfl,.inl (s2.seq hS),a4,_,_,rfl,rfl,zEs.of (by decide) (by decide +kernel),_,_,rfl,rfl,(by show (0:Int) < 12; decide),rfl,_,rfl,?_⟩
   refine ifE (fun _=>?_) (fun _=>?_)
   ·refine ⟨_,rfl,_,_,rfl,rfl,.inl ⟨by decide,by decide⟩,_,rfl,a,_,_,_,rfl,rfl,.inl (s2.seq hS),a0,_,_,rfl,rfl,(by show (0:Int) < 5; decide),_,_,rfl,rfl,_,_,rfl,rfl,
     _,rfl,_,_,rfl,rfl,.inl ⟨by decide,by decide⟩,_,rfl,a,_,_,_,rfl,rfl,.inl (s2.seq hS),a1,_,_,rfl,rfl,(by show (0:Int) < 5; decide),_,_,rfl,rfl,_,_,rfl,rfl,
     _,rfl,_,_,rfl,rfl,.inl ⟨by decide,by decide⟩,_,rfl,a,_,_,_,rfl,rfl,.inl (s2.seq hS),a3,_,_,rfl,rfl,(by show (0:Int) < 900; decide),_,_,rfl,rfl,(by show 3≤sizeLine; decide),fun r hr0=>?_⟩
    have sb:=zJo (v0:=v0) (v1:=v1) (v3:=v3) hn mx my mc
    exact q r _ _ _ _ (s2.trans (zAe hr0 _)) (s2.free hr0) zAc sb.1 sb.2.1 sb.2.2.1 sb.2.2.2
   ·refine ⟨_,rfl,_,rfl,_,rfl,(by show 3≤sizeLine; decide),fun r hr0=>?_⟩
    exact q r _ _ _ _ (s2.trans (zAe hr0 _)) (s2.free hr0) zAc hn (Nat.le_trans mx (by decide)) (Nat.le_trans my (by decide)) (Nat.le_trans mc (by decide))
 ·skip
  refine ⟨_,rfl,a,_,_,_,rfl,rfl,.inl (s2.seq hS),a3,_,_,rfl,rfl,(by show (0:Int) < 4; decide),rfl,_,rfl,?_⟩
  refine ifE (fun _=>?_) (fun _=>?_)
  ·refine ⟨_,rfl,_,rfl,a,_,_,_,rfl,rfl,.inl (s2.seq hS),a2,_,_,rfl,rfl,(by show (0:Int) < 9; decide),_,_,rfl,rfl,_,_,rfl,rfl,cm_l (by omega),
    _,rfl,_,rfl,a,_,_,_,rfl,rfl,.inl (s2.seq hS),a2,_,_,rfl,rfl,zEs.of (by decide) (by decide +kernel),_,_,rfl,rfl,(by show (0:Int) < 9; decide),_,_,rfl,rfl,_,_,rfl,rfl,cm_l (by omega),_,_,rfl,rfl,?_⟩
   have z1:=zAj x (v2 % 9 - 4) (m:=2000) (n:=4) mx (by omega)
   have z2:=zAj y (v2 / 9 % 9 - 4) (m:=2000) (n:=4) my (by omega)
   have mc:((x * (v2 % 9 - 4) + y * (v2 / 9 % 9 - 4))).natAbs≤1000000:=by omega
   refine ⟨_,rfl,a,_,_,_,rfl,rfl,.inl (s2.seq hS),a4,_,_,rfl,rfl,zEs.of (by decide) (by decide +kernel),_,_,rfl,rfl,(by show (0:Int) < 12; decide),rfl,_,rfl,?_⟩
   refine ifE (fun _=>?_) (fun _=>?_)
   ·refine ⟨_,rfl,_,_,rfl,rfl,.inl ⟨by decide,by decide⟩,_,rfl,a,_,_,_,rfl,rfl,.inl (s2.seq hS),a0,_,_,rfl,rfl,(by show (0:Int) < 5; decide),_,_,rfl,rfl,_,_,rfl,rfl,
     _,rfl,_,_,rfl,rfl,.inl ⟨by decide,by decide⟩,_,rfl,a,_,_,_,rfl,rfl,.inl (s2.seq hS),a1,_,_,rfl,rfl,(by show (0:Int) < 5; decide),_,_,rfl,rfl,_,_,rfl,rfl,
     _,rfl,_,_,rfl,rfl,.inl ⟨by decide,by decide⟩,_,rfl,a,_,_,_,rfl,rfl,.inl (s2.seq hS),a3,_,_,rfl,rfl,(by show (0:Int) < 900; decide),_,_,rfl,rfl,(by show 3≤sizeLine; decide),fun r hr0=>?_⟩
    have sb:=zJo (v0:=v0) (v1:=v1) (v3:=v3) hn mx my mc
    exact q r _ _ _ _ (s2.trans (zAe hr0 _)) (s2.free hr0) zAc sb.1 sb.2.1 sb.2.2.1 sb.2.2.2
   ·refine ⟨_,rfl,_,rfl,_,rfl,(by show 3≤sizeLine; decide),fun r hr0=>?_⟩
    exact q r _ _ _ _ (s2.trans (zAe hr0 _)) (s2.free hr0) zAc hn (Nat.le_trans mx (by decide)) (Nat.le_trans my (by decide)) (Nat.le_trans mc (by decide))
  ·skip
   have mc:((v2 % 19 - 4)).natAbs≤1000000:=by omega
   refine ⟨_,rfl,a,_,_,_,rfl,rfl,.inl (s2.seq hS),a4,_,_,rfl,rfl,zEs.of (by decide) (by decide +kernel),_,_,rfl,rfl,(by show (0:Int) < 12; decide),rfl,_,rfl,?_⟩
   refine ifE (fun _=>?_) (fun _=>?_)
   ·refine ⟨_,rfl,_,_,rfl,rfl,.inl ⟨by decide,by decide⟩,_,rfl,a,_,_,_,rfl,rfl,.inl (s2.seq hS),a0,_,_,rfl,rfl,(by show (0:Int) < 5; decide),_,_,rfl,rfl,_,_,rfl,rfl,
     _,rfl,_,_,rfl,rfl,.inl ⟨by decide,by decide⟩,_,rfl,a,_,_,_,rfl,rfl,.inl (s2.seq hS),a1,_,_,rfl,rfl,(by show (0:Int) < 5; decide),_,_,rfl,rfl,_,_,rfl,rfl,
     _,rfl,_,_,rfl,rfl,.inl ⟨by decide,by decide⟩,_,rfl,a,_,_,_,rfl,rfl,.inl (s2.seq hS),a3,_,_,rfl,rfl,(by show (0:Int) < 900; decide),_,_,rfl,rfl,(by show 3≤sizeLine; decide),fun r hr0=>?_⟩
    have sb:=zJo (v0:=v0) (v1:=v1) (v3:=v3) hn mx my mc
    exact q r _ _ _ _ (s2.trans (zAe hr0 _)) (s2.free hr0) zAc sb.1 sb.2.1 sb.2.2.1 sb.2.2.2
   ·refine ⟨_,rfl,_,rfl,_,rfl,(by show 3≤sizeLine; decide),fun r hr0=>?_⟩
    exact q r _ _ _ _ (s2.trans (zAe hr0 _)) (s2.free hr0) zAc hn (Nat.le_trans mx (by decide)) (Nat.le_trans my (by decide)) (Nat.le_trans mc (by decide))
theorem zQl {K:PySem.W.Frag} {l D:Addr} {xs:List V} {g:TG} {te:TE} {σ0:St} {H1:Hp} {Q:VK} (Pv:Nat→St→List V→Hp→Prop) (h0:Pv 0 σ0 [] (upd H1 D (.lst []))) (hl:∀ i σ zs H,Pv i σ zs H→SqL K H l xs∧H D = some (.lst zs))
  (hs:∀ i x T σ zs H,xs[i]? = some x→H T = none→Pv i σ zs H→g (.ref T) σ (upd H T (.tup [.int i,x])) fun σ2 H2=>te σ2 H2 fun z H4=>H4 D = some (.lst zs)∧zs.length < sizeLine∧Pv (i + 1) σ2 (zs ++ [z]) (upd H4 D (.lst (zs ++ [z]))))
  (hd:∀ σ zs H,Pv xs.length σ zs H→Q (.ref D) H):zKv (Ite K l) D g tYes te σ0 H1 Q:=zSq Pv h0 hl (fun i x T σ zs H e1 e2 p=>hs i x T σ zs H e1 e2 p) hd
theorem zQf (ss:List Sd) (j:Nat) (t:Sd):(zAm ss).set j (.ref t.1) = zAm (ss.set j t):=by
 simp [zAm,List.map_set]
theorem cutS2 {ok:Addr→List Sd→Hp→Prop} {G:Prop} {R:Addr→List Sd→Hp→Option V→Option V→Prop} (h1:(∀ D ss H u v,ok D ss H→R D ss H u v)→G) (h2:∀ D ss H u v,ok D ss H→R D ss H u v):G:=h1 h2
def zLg (K:PySem.W.Frag):Sp:=fun vs H Q _=>∃ (r:Addr) (rows:List Int) (m:Int),vs = [.ref r,.int m]∧SqL K H r (rows.map V.int)∧0≤m∧m≤60∧3≤rows.length∧3 + 5 * m≤rows.length∧(∀ x∈rows,0≤x∧x < 1000003) ∧
 ∀ (l:Addr) (ss:List Sd) (H':Hp),Same H H'→H l = none→H' l = some (.lst (zAm ss))→ss.length = m.toNat→SdOk H' ss→(∀ t∈ss,t.2.1.natAbs≤3 * 10 ^ 8∧t.2.2.1.natAbs≤3 * 10 ^ 8∧t.2.2.2.natAbs≤3 * 10 ^ 12)→Q (.ref l) H'
theorem zQp (F:Fun K "_law_sides" "_law_sides" zHr f fd) (Z:Zs mg) (h_L_side:Has P w K mg base "_law_side" 2 ["_law_d"] (zNj K)):FnOk P w K mg base CX0 3 f fd ["_law_some", "_law_many_here"] (zLg K):=by
 refine F.ok zEg (fun vs H Q E h=>?_) (fun cdv A outer s H vs Q E hr h=>?_)
 ·obtain ⟨r,rows,m,rfl,_⟩:=h
  rfl
 obtain ⟨r,rows,m,rfl,hS,m0,m60,hl3,hl,bd,q⟩:=h
 refine ⟨_,(zAf (zE7 (T:=["_law_k"]) (caps:=[("_law_some", 0)]) (i:=2) zEg.nd rfl rfl ⟨rfl,by decide +kernel,by decide +kernel,rfl,⟨⟨rfl,rfl,Or.inl rfl⟩,True.intro⟩⟩ rfl (zC7 rfl Z.range (zAa (pv 1) zAd)) (fun _=>(zAq (i:=0) (show (["_law_k", "_law_some"]:List Str).Nodup by decide +kernel) rfl (Or.inl rfl))) (fun _=>zBl) (fun _=>(zAh h_L_side (hr.mono (by decide)) rfl (zAa (zBy zCy (pv 1) (zCo (zAl zBd zAb (zAl zA2 zAb (pv 0)))) zCn) zAd))))
   (zAf (zA8 (PW.pt (zGb (zAu zI6 (pv 1) zAb (zAz _)) (zEp (zAu zCi (zAl zA7 (zAn zAg (pv 0) zAb (fun _ _=>rfl)) zAb) zAb (zAz _))))) (zAi (zEw (zAn zAg (pv 2) (zAl zA7 (zAn zAg (pv 0) zAb (fun _ _=>rfl)) (pv 1)) (fun _ _=>rfl)) (pg_sub (pv 2) (zAl zA7 (zAn zAg (pv 0) zAb (fun _ _=>rfl)) (pv 1)) zUk))) zAx)
   (zAf (zA8 (zAu zCi (zAl zA7 (zAl zCu (zAn zAg (pv 0) zAb (fun _ _=>rfl)) zAb) zAb) zAb (zAz _)) (zAf (zEw (zA0 (zAa (zAl zA6 (zAl zA7 (zAn zAg (pv 0) zAb (fun _ _=>rfl)) zAb) zAb) (zAa (zAl zA6 (zAl zA7 (zAn zAg (pv 0) zAb (fun _ _=>rfl)) zAb) zAb) zAd))) (zB5 rfl (zAs (zAq (i:=3) zEg.nd rfl (Or.inr rfl)) (zAs (zAq (i:=4) zEg.nd rfl (Or.inr rfl)) zBf))))
   (zAi (zE7 (T:=["_law_a", "_law_b", "_law_c"]) (caps:=[("_law_x", 3),("_law_y", 4)]) (i:=2) zEg.nd rfl rfl ⟨rfl,by decide +kernel,by decide +kernel,rfl,⟨⟨rfl,rfl,Or.inl rfl⟩,⟨rfl,rfl,Or.inl rfl⟩,True.intro⟩⟩ rfl (zCc (pv 2)) (fun _=>(zB5 rfl (zAs (zAq (i:=0) (show (["_law_a", "_law_b", "_law_c", "_law_x", "_law_y"]:List Str).Nodup by decide +kernel) rfl (Or.inl rfl)) (zAs (zAq (i:=1) (show (["_law_a", "_law_b", "_law_c", "_law_x", "_law_y"]:List Str).Nodup by decide +kernel) rfl (Or.inl rfl)) (zAs (zAq (i:=2) (show (["_law_a", "_law_b", "_law_c", "_law_x", "_law_y"]:List Str).Nodup by decide +kernel) rfl (Or.inl rfl)) zBf))))) (fun _=>zBl) (fun _=>(zA0 (zAa (pv 0) (zAa (pv 1) (zAa (zAl zBd (zAl zBd (pv 2) (zAl zA2 (pv 0) (pv 3))) (zAl zA2 (pv 1) (pv 4))) zAd)))))))) zAx)
   (zAf (zA8 (zAu zCi (zAl zA7 (zAl zCu (zAn zAg (pv 0) zAb (fun _ _=>rfl)) zAb) zAb) zAb (zAz _)) (zAi (zE7 (T:=["_law_k", "_law_a", "_law_b", "_law_c"]) (caps:=[]) (i:=2) zEg.nd rfl rfl ⟨rfl,by decide +kernel,by decide +kernel,rfl,True.intro⟩ rfl (zSr rfl Z.enumerate (zAa (pv 2) zAd)) (fun _=>(zB5 rfl (zAs (zAq (i:=0) (show (["_law_k", "_law_a", "_law_b", "_law_c"]:List Str).Nodup by decide +kernel) rfl (Or.inl rfl)) (zAs (zB5 rfl (zAs (zAq (i:=1) (show (["_law_k", "_law_a", "_law_b", "_law_c"]:List Str).Nodup by decide +kernel) rfl (Or.inl rfl)) (zAs (zAq (i:=2) (show (["_law_k", "_law_a", "_law_b", "_law_c"]:List Str).Nodup by decide +kernel) rfl (Or.inl rfl)) (zAs (zAq (i:=3) (show (["_law_k", "_law_a", "_law_b", "_law_c"]:List Str).Nodup by decide +kernel) rfl (Or.inl rfl)) zBf)))) zBf)))) (fun _=>zBl) (fun _=>(zTz (zAu zCi (zAl zA7 (pv 0) zAb) zAb (zAz _)) (zA0 (zAa (zAl zA2 zAb (pv 1)) (zAa (zAl zA2 zAb (pv 2)) (zAa (zAl zA2 zAb (pv 3)) zAd)))) (zA0 (zAa (pv 1) (zAa (pv 2) (zAa (pv 3) zAd)))))))) zAx)
   (zAi (zAr (pv 2))))))),?_⟩
 obtain ⟨v0,a0,_⟩:=zCb bd (k:=0) (by decide) (by omega)
 obtain ⟨v1,a1,_⟩:=zCb bd (k:=1) (by decide) (by omega)
 obtain ⟨v2,a2,_⟩:=zCb bd (k:=2) (by decide) (by omega)
 have cutD:∀ k:Nat,k≤rows.length→cutV (rows.map V.int) (some (k:Int)) none = (rows.drop k).map V.int:=fun k hk=>by
  rw [zKl,HT.sIx_nat rows.length 0 k,show min k rows.length = k by omega,show HT.sIx rows.length rows.length none = rows.length from rfl,List.take_of_length_le (by rw [List.length_drop]; omega)]
 apply cutS (ok:=fun D ss G=>ss.length = m.toNat∧SdSt H D ss G∧∀ t∈ss,t.2.1.natAbs≤10 ^ 7∧t.2.2.1.natAbs≤10 ^ 7∧t.2.2.2.natAbs≤10 ^ 10)
 ·intro main
  refine ⟨_,rfl,_,rfl,(by omega),(by omega),fun cc D hD=>zHl (lo:=0) (n:=m.toNat) (fun i σ ys G=>∃ ss:List Sd,ys = zAm ss∧ss.length = i∧SdSt H D ss G∧(∀ t∈ss,t.2.1.natAbs≤10 ^ 7∧t.2.2.1.natAbs≤10 ^ 7∧t.2.2.2.natAbs≤10 ^ 10)∧∃ u0:Option V,σ = [u0,some (.ref r)])
   ⟨[],rfl,rfl,⟨zAe hD _,hD,zAc,(fun t ht=>nomatch ht)⟩,(fun t ht=>nomatch ht),none,rfl⟩ (fun i σ ys G _ ⟨ss,e1,_,P,_⟩=>by rw [e1]; exact P.at') ?_ ?_⟩
  ·rintro i σ ys G hi ⟨ss,rfl,hlen,Pi,bnd,u0,rfl⟩
   have cm:CMul 5 (0 + (i:Int)):=.inl ⟨by decide,by decide⟩
   have ci:(3:Int) + 5 * (0 + (i:Int)) = ((3 + 5 * i:Nat):Int):=by omega
   have hi':3 + 5 * i + 5≤rows.length:=by omega
   refine ⟨_,rfl,_,rfl,_,_,rfl,rfl,cm,_,_,rfl,rfl,_,rfl,r,_,rfl,Pi.same.seq hS,fun c1 hc1=>?_⟩
   rw [ci,cutD (3 + 5 * i) (by omega)]
   have sc1:=zAe hc1 (.lst ((rows.drop (3 + 5 * i)).map V.int))
   refine ⟨c1,rows.drop (3 + 5 * i),rfl,SqL.of zAc,by rw [List.length_drop]; omega,fun x hx=>bd x (List.mem_of_mem_drop hx),fun p a b c G2 s2 hp ep n ma mb mc=>?_⟩
   refine ⟨s2 _ _ (sc1 _ _ Pi.at'),zA3 (by rw [zAk]; omega),ss ++ [(p,a,b,c)],by simp [zAm],by rw [List.length_append,hlen]; rfl,Pi.app (sc1.trans s2) (sc1.free hp) ep n (Nat.le_trans ma (by decide)) (Nat.le_trans mb (by decide)) (Nat.le_trans mc (by decide)),fun u hu=>?_,_,rfl⟩
   rcases List.mem_append.mp hu with h | h
   ·exact bnd u h
   ·rw [List.mem_singleton] at h
    subst h
    exact ⟨ma,mb,mc⟩
  rintro σ ys G ⟨ss,rfl,hlen,P0,bnd,u0,rfl⟩
  refine ⟨_,rfl,_,_,rfl,rfl,_,rfl,?_⟩
  refine ifD (fun hm1=>?_) (fun _=>?_)
  ·refine ⟨_,rfl,r,_,_,_,rfl,rfl,.inl (P0.same.seq hS),a0,_,_,rfl,rfl,(by show (0:Int) < 4; decide),rfl,_,rfl,?_⟩
   refine ifE (fun _=>?_) (fun _=>?_)
   ·have sqr:Sq K G r (rows.map V.int):=.inl (P0.same.seq hS)
    have y0:=Int.emod_nonneg v2 (show m≠0 by omega)
    have y1:=Int.emod_lt_of_pos v2 (show 0 < m by omega)
    have x0:=Int.emod_nonneg v1 (show m≠0 by omega)
    have x1:=Int.emod_lt_of_pos v1 (show 0 < m by omega)
    obtain ⟨t,mt,gt,at'⟩:=zBg (ss:=ss) (i:=(v2 % m).toNat) (k:=v2 % m) (by omega) (by omega)
    have ixn:ixN (zAm ss).length (v1 % m) = some (v1 % m).toNat:=by
     unfold ixN
     rw [if_pos x0,zAk,if_pos (by omega)]
    refine ⟨_,rfl,_,rfl,r,_,_,_,rfl,rfl,sqr,a2,_,rfl,_,_,rfl,rfl,(by show (0:Int) < m; omega),D,_,_,_,rfl,rfl,.inl (SqL.of P0.at'),at',?_⟩
    refine ⟨_,rfl,_,rfl,r,_,_,_,rfl,rfl,sqr,a1,_,rfl,_,_,rfl,rfl,(by show (0:Int) < m; omega),D,_,_,_,rfl,rfl,P0.at',ixn,?_⟩
    rw [zQf]
    have P1:SdSt H D (ss.set (v1 % m).toNat t) (upd G D (.lst (zAm (ss.set (v1 % m).toNat t)))):=by
     refine ⟨P0.same.putNew P0.new,P0.new,zAc,fun u hu=>?_⟩
     have hu':u∈ss:=by
      rcases List.mem_or_eq_of_mem_set hu with h | h
      ·exact h
      ·rw [h]; exact mt
     obtain ⟨h1,h2⟩:=P0.all u hu'
     exact ⟨by rw [zA5 (zIb h1 P0.at' (by intro z; cases z))]; exact h1,h2⟩
    have B1:∀ u∈ss.set (v1 % m).toNat t,u.2.1.natAbs≤10 ^ 7∧u.2.2.1.natAbs≤10 ^ 7∧u.2.2.2.natAbs≤10 ^ 10:=fun u hu=>by
     rcases List.mem_or_eq_of_mem_set hu with h | h
     ·exact bnd u h
     ·rw [h]; exact bnd t mt
    have N1:(ss.set (v1 % m).toNat t).length = m.toNat:=by rw [List.length_set]; exact hlen
    generalize upd G D (.lst (zAm (ss.set (v1 % m).toNat t))) = G1 at P1 ⊢
    generalize ss.set (v1 % m).toNat t = ss1 at P1 B1 N1
    exact main D ss1 G1 ⟨N1,P1,B1⟩
   ·exact main D ss G ⟨hlen,P0,bnd⟩
  ·refine iteF ?_
   exact main D ss G ⟨hlen,P0,bnd⟩
 clear cutD
 rintro D ss G ⟨hlen,P0,bnd⟩
 apply cutS2 (ok:=fun D ss G=>ss.length = m.toNat∧SdSt H D ss G∧∀ t∈ss,t.2.1.natAbs≤10 ^ 8∧t.2.2.1.natAbs≤10 ^ 8∧t.2.2.2.natAbs≤10 ^ 12)
 ·intro main2
  refine ⟨_,rfl,r,_,_,_,rfl,rfl,(.inl ((P0).same.seq hS)),a0,_,_,rfl,rfl,zEs.of (by decide) (by decide +kernel),_,_,rfl,rfl,(by show (0:Int) < 3; decide),rfl,_,rfl,?_⟩
  refine ifE (fun _=>?_) (fun _=>?_)
  ·have sqr:Sq K G r (rows.map V.int):=.inl ((P0).same.seq hS)
   refine ⟨_,rfl,r,_,_,_,rfl,rfl,sqr,a1,_,_,rfl,rfl,(by show (0:Int) < 2001; decide),_,_,rfl,rfl,_,rfl,r,_,_,_,rfl,rfl,sqr,a2,_,_,rfl,rfl,(by show (0:Int) < 2001; decide),_,_,rfl,rfl,(by show 2≤sizeLine; decide),fun tx htx=>?_⟩
   have stx:Same G (upd G tx (.tup [.int (v1 % 2001 - 1000),.int (v2 % 2001 - 1000)])):=zAe htx _
   have etx:upd G tx (.tup [.int (v1 % 2001 - 1000),.int (v2 % 2001 - 1000)]) tx = some (.tup [.int (v1 % 2001 - 1000),.int (v2 % 2001 - 1000)]):=zAc
   generalize upd G tx (.tup [.int (v1 % 2001 - 1000),.int (v2 % 2001 - 1000)]) = GX at stx etx ⊢
   have bX:(v1 % 2001 - 1000).natAbs≤1000:=by omega
   have bY:(v2 % 2001 - 1000).natAbs≤1000:=by omega
   generalize v1 % 2001 - 1000 = X at etx bX
   generalize v2 % 2001 - 1000 = Y at etx bY
   refine ⟨tx,_,rfl,SqT.of etx,rfl,.int X,_,rfl,.int Y,_,rfl,rfl,?_⟩
   refine ⟨_,rfl,D,rfl,.inl ⟨⟨_,SqL.of (stx _ _ (P0).at')⟩,fun cc D2 hD2=>zBj (K:=K) (a:=D) (xs:=zAm ss) (fun i σ ys Gd=>∃ sb:List Sd,ys = zAm sb∧sb.length = i∧SdSt GX D2 sb Gd∧(∀ t∈sb,t.2.1.natAbs≤10 ^ 7∧t.2.2.1.natAbs≤10 ^ 7∧t.2.2.2.natAbs≤10 ^ 12)∧∃ u0 u1 u2:Option V,σ = [u0,u1,u2,some (.int X),some (.int Y)])
    ⟨[],rfl,rfl,⟨zAe hD2 _,hD2,zAc,(fun t ht=>nomatch ht)⟩,(fun t ht=>nomatch ht),none,none,none,rfl⟩ (fun i σ ys Ge _ ⟨sb,e1,_,Pq,_⟩=>⟨SqL.of (Pq.same _ _ (stx _ _ (P0).at')),by rw [e1]; exact Pq.at'⟩) ?_ ?_⟩⟩
   ·rintro i x σ ys Gf hi ⟨sb,rfl,nb,Pg,bnb,u0,u1,u2,rfl⟩
    obtain ⟨t,gt,rfl,hil⟩:=zBu hi
    obtain ⟨et,nt,b1,b2,b3⟩:=(P0).all t (List.mem_of_getElem? gt)
    obtain ⟨c1,c2,c3⟩:=bnd t (List.mem_of_getElem? gt)
    refine ⟨t.1,_,rfl,SqT.of (Pg.same _ _ (stx _ _ et)),rfl,.int t.2.1,_,rfl,.int t.2.2.1,_,rfl,.int t.2.2.2,_,rfl,rfl,?_⟩
    have z1:=zAj t.2.1 X c1 bX
    have z2:=zAj t.2.2.1 Y c2 bY
    refine ⟨_,rfl,_,rfl,_,rfl,_,rfl,_,rfl,_,_,rfl,rfl,cm_l (by omega),_,_,rfl,rfl,_,rfl,_,rfl,_,_,rfl,rfl,cm_l (by omega),_,_,rfl,rfl,(by show 3≤sizeLine; decide),fun p hp=>?_⟩
    have sp:=zAe hp (.tup [.int t.2.1,.int t.2.2.1,.int (t.2.2.2 + t.2.1 * X + t.2.2.1 * Y)])
    refine ⟨sp _ _ Pg.at',zA3 (by rw [zAk]; omega),sb ++ [(p,t.2.1,t.2.2.1,t.2.2.2 + t.2.1 * X + t.2.2.1 * Y)],by simp [zAm],by rw [List.length_append,nb]; rfl,Pg.app sp hp zAc nt b1 b2 (by omega),fun u hu=>?_,_,_,_,rfl⟩
    rcases List.mem_append.mp hu with h | h
    ·exact bnb u h
    ·rw [List.mem_singleton] at h
     subst h
     exact ⟨c1,c2,by show (t.2.2.2 + t.2.1 * X + t.2.2.1 * Y).natAbs≤10 ^ 12; omega⟩
   ·rintro σ ys Gf ⟨ss2,rfl,nb,Pg,bnb,u0,u1,u2,rfl⟩
    rw [zAk] at nb
    have N2:ss2.length = m.toNat:=nb.trans hlen
    have P2:SdSt H D2 ss2 Gf:=⟨((P0).same.trans stx).trans Pg.same,(P0).same.free (stx.free Pg.new),Pg.at',Pg.all⟩
    have P2s:∀ t∈ss2,t.2.1.natAbs≤10 ^ 8∧t.2.2.1.natAbs≤10 ^ 8∧t.2.2.2.natAbs≤10 ^ 12:=fun t ht=>⟨Nat.le_trans (bnb t ht).1 (by decide),Nat.le_trans (bnb t ht).2.1 (by decide),(bnb t ht).2.2⟩
    clear Pg
    generalize some (V.int X) = uX
    generalize some (V.int Y) = uY
    exact main2 D2 ss2 Gf uX uY ⟨N2,P2,P2s⟩
  ·exact main2 D ss G none none ⟨hlen,P0,fun t ht=>⟨Nat.le_trans (bnd t ht).1 (by decide),Nat.le_trans (bnd t ht).2.1 (by decide),Nat.le_trans (bnd t ht).2.2 (by decide)⟩⟩
 clear P0 bnd hlen
 rintro D2 ss2 Gf uX uY ⟨N2,P2,P2s⟩
 refine ⟨_,rfl,r,_,_,_,rfl,rfl,(.inl (P2.same.seq hS)),a0,_,_,rfl,rfl,zEs.of (by decide) (by decide +kernel),_,_,rfl,rfl,(by show (0:Int) < 3; decide),rfl,_,rfl,?_⟩
 refine ifE (fun _=>?_) (fun _=>?_)
 ·refine ⟨_,rfl,D2,_,rfl,(P2).at',fun cc D3 hD3=>zQl (K:=K) (l:=D2) (xs:=zAm ss2) (fun i σ ys Ga=>∃ sa:List Sd,ys = zAm sa∧sa.length = i∧SdSt Gf D3 sa Ga∧(∀ t∈sa,t.2.1.natAbs≤3 * 10 ^ 8∧t.2.2.1.natAbs≤3 * 10 ^ 8∧t.2.2.2.natAbs≤3 * 10 ^ 12)∧∃ u0 u1 u2 u3:Option V,σ = [u0,u1,u2,u3])
   ⟨[],rfl,rfl,⟨zAe hD3 _,hD3,zAc,(fun t ht=>nomatch ht)⟩,(fun t ht=>nomatch ht),none,none,none,none,rfl⟩ (fun i σ ys Gb ⟨sa,e1,_,Pq,_⟩=>⟨SqL.of (Pq.same _ _ (P2).at'),by rw [e1]; exact Pq.at'⟩) ?_ ?_⟩
  ·rintro i x T σ ys Gc hi hT ⟨sa,rfl,na,Pc,bc,u0,u1,u2,u3,rfl⟩
   obtain ⟨t,gt,rfl,hil⟩:=zBu hi
   obtain ⟨et,nt,_⟩:=(P2).all t (List.mem_of_getElem? gt)
   obtain ⟨b1,b2,b3⟩:=P2s t (List.mem_of_getElem? gt)
   have k9:(10:Nat) ^ 8 * 3≤10 ^ 9:=by decide
   have sT:=zAe hT (.tup [.int i,.ref t.1])
   have npT:∀ p,upd Gc T (.tup [.int i,.ref t.1]) p = none→Gc p = none:=fun p hp=>sT.free hp
   have eT:upd Gc T (.tup [.int i,.ref t.1]) T = some (.tup [.int i,.ref t.1]):=zAc
   have et':=sT _ _ (Pc.same _ _ et)
   generalize upd Gc T (.tup [.int i,.ref t.1]) = G2 at sT npT eT et' ⊢
   refine ⟨T,_,rfl,SqT.of eT,rfl,.int i,_,rfl,.ref t.1,_,rfl,?_⟩
   refine ⟨t.1,_,rfl,SqT.of et',rfl,.int t.2.1,_,rfl,.int t.2.2.1,_,rfl,.int t.2.2.2,_,rfl,rfl,rfl,?_⟩
   have c3:∀ j:Int,CMul 3 j:=fun j=>.inl ⟨by decide,by decide⟩
   refine ⟨_,rfl,_,_,rfl,rfl,(by show (0:Int) < 2; decide),rfl,_,rfl,?_⟩
   refine ifE (fun _=>?_) (fun _=>?_)
   ·refine ⟨_,rfl,_,_,rfl,rfl,c3 _,_,rfl,_,_,rfl,rfl,c3 _,_,rfl,_,_,rfl,rfl,c3 _,(by show 3≤sizeLine; decide),fun p hp=>?_⟩
    have sp:=zAe hp (.tup [.int (3 * t.2.1),.int (3 * t.2.2.1),.int (3 * t.2.2.2)])
    have t1:=zAj 3 t.2.1 (m:=3) (by decide) b1
    have t2:=zAj 3 t.2.2.1 (m:=3) (by decide) b2
    have t3:=zAj 3 t.2.2.2 (m:=3) (by decide) b3
    refine ⟨sp _ _ (sT _ _ Pc.at'),zA3 (by rw [zAk]; omega),sa ++ [(p,3 * t.2.1,3 * t.2.2.1,3 * t.2.2.2)],by simp [zAm],by rw [List.length_append,na]; rfl,Pc.app (sT.trans sp) (npT p hp) zAc (by clear b1 b2 b3; omega) (Nat.le_trans t1 (by decide)) (Nat.le_trans t2 (by decide)) (Nat.le_trans t3 (by decide)),fun u hu=>(List.mem_append.mp hu).elim (bc u) fun h=>by rw [List.mem_singleton] at h; subst h; exact ⟨t1,t2,t3⟩,_,_,_,_,rfl⟩
   ·refine ⟨_,rfl,_,rfl,_,rfl,(by show 3≤sizeLine; decide),fun p hp=>?_⟩
    have sp:=zAe hp (.tup [.int t.2.1,.int t.2.2.1,.int t.2.2.2])
    refine ⟨sp _ _ (sT _ _ Pc.at'),zA3 (by rw [zAk]; omega),sa ++ [(p,t.2.1,t.2.2.1,t.2.2.2)],by simp [zAm],by rw [List.length_append,na]; rfl,Pc.app (sT.trans sp) (npT p hp) zAc nt (Nat.le_trans b1 (by decide)) (Nat.le_trans b2 (by decide)) (Nat.le_trans b3 (by decide)),fun u hu=>(List.mem_append.mp hu).elim (bc u) fun h=>by rw [List.mem_singleton] at h; subst h; exact ⟨Nat.le_trans b1 (by decide),Nat.le_trans b2 (by decide),Nat.le_trans b3 (by decide)⟩,_,_,_,_,rfl⟩
  ·rintro σ ys Gc ⟨sa,rfl,na,Pc,bc,u0,u1,u2,u3,rfl⟩
   rw [zAk] at na
   exact ⟨_,rfl,q D3 sa Gc ((P2).same.trans Pc.same) ((P2).same.free Pc.new) Pc.at' (na.trans N2) (fun t ht=>(Pc.all t ht)) bc⟩
 ·exact ⟨_,rfl,q D2 ss2 _ (P2).same (P2).new (P2).at' N2 (P2).all (fun t ht=>⟨Nat.le_trans (P2s t ht).1 (by decide),Nat.le_trans (P2s t ht).2.1 (by decide),Nat.le_trans (P2s t ht).2.2 (by decide)⟩)⟩
def zKb (K:PySem.W.Frag):Sp:=fun vs H Q _=>∃ (a b:Addr) (us ws:List V) (x1 y1 x2 y2:Int),vs = [.ref a,.ref b]∧Sq K H a us∧Sq K H b ws∧atI us 0 = some (.int x1)∧atI us 1 = some (.int y1)∧atI ws 0 = some (.int x2)∧atI ws 1 = some (.int y2) ∧
 x1.natAbs≤10 ^ 18∧y1.natAbs≤10 ^ 18∧Q (.int (x1 * y2 - y1 * x2)) H
theorem zN6 (F:Fun K "_law_turned" "_law_turned" zG5 f fd) (Z:Zs mg)  : FnOk P w K mg base CX0 1 f fd ["_law_one", "_law_other"] (zKb K):=by
 refine F.ok zOm (fun vs H Q E h=>?_) (fun cdv A outer s H vs Q E hr h=>?_)
 ·obtain ⟨a,b,us,ws,x1,y1,x2,y2,rfl,_⟩:=h
  rfl
 obtain ⟨a,b,us,ws,x1,y1,x2,y2,rfl,ha,hb,u0,u1,w0,w1,m1,m2,q⟩:=h
 refine ⟨_,(zAi (zAr (zAl zA6 (zAl zA2 (zAn zAg (pv 0) zAb (fun _ _=>rfl)) (zAn zAg (pv 1) zAb (fun _ _=>rfl))) (zAl zA2 (zAn zAg (pv 0) zAb (fun _ _=>rfl)) (zAn zAg (pv 1) zAb (fun _ _=>rfl)))))),?_⟩
 exact ⟨_,rfl,a,_,_,.int x1,rfl,rfl,ha,u0,_,rfl,b,_,_,.int y2,rfl,rfl,hb,w1,_,_,rfl,rfl,cm_l (by omega),
  _,rfl,a,_,_,.int y1,rfl,rfl,ha,u1,_,rfl,b,_,_,.int x2,rfl,rfl,hb,w0,_,_,rfl,rfl,cm_l (by omega),_,_,rfl,rfl,q⟩
def zG9 (K:PySem.W.Frag):Sp:=fun vs H Q _=>∃ (a:Addr) (rows:List Int) (wd:Int),vs = [.ref a,.int wd]∧SqL K H a (rows.map V.int)∧5≤rows.length∧(∀ x∈rows,0≤x∧x < 1000003)∧1≤wd∧wd≤100 ∧
 ∀ (t p r:Addr) (A0 A1 B0 B1:Int) (H':Hp),Same H H'→H' t = some (.tup [.ref p,.ref r])→H' p = some (.tup [.int A0,.int A1])→H' r = some (.tup [.int B0,.int B1])→0 < A0 * B1 - A1 * B0→A0.natAbs≤100→A1.natAbs≤100→B0.natAbs≤100→B1.natAbs≤100→Q (.ref t) H'
theorem zK8 (F:Fun K "_law_left_pair" "_law_left_pair" zD7 f fd) (Z:Zs mg) (h_L_turned:Has P w K mg base "_law_turned" 1 ["_law_one", "_law_other"] (zKb K)) (h_L_way:Has P w K mg base "_law_way" 1 ["_law_one", "_law_two", "_law_wide"] (zJa K)):FnOk P w K mg base CX0 2 f fd ["_law_d", "_law_wide"] (zG9 K):=by
 refine F.ok zCl (fun vs H Q E h=>?_) (fun cdv A outer s H vs Q E hr h=>?_)
 ·obtain ⟨a,rows,wd,rfl,_⟩:=h
  rfl
 obtain ⟨a,rows,wd,rfl,hS,hl,bd,w1,w2,q⟩:=h
 refine ⟨_,(zAf (zAw (i:=2) zCl.nd rfl (Or.inl rfl) (zAh h_L_way (hr.mono (by decide)) rfl (zAa (zAn zAg (pv 0) zAb (fun _ _=>rfl)) (zAa (zAn zAg (pv 0) zAb (fun _ _=>rfl)) (zAa (pv 1) zAd)))))
   (zAf (zAw (i:=3) zCl.nd rfl (Or.inl rfl) (zAh h_L_way (hr.mono (by decide)) rfl (zAa (zAn zAg (pv 0) zAb (fun _ _=>rfl)) (zAa (zAn zAg (pv 0) zAb (fun _ _=>rfl)) (zAa (pv 1) zAd)))))
   (zAf (zA8 (zAu zCi (zAl zA7 (zAn zAg (pv 0) zAb (fun _ _=>rfl)) zAb) zAb (zAz _)) (zAi (zAw (i:=3) zCl.nd rfl (Or.inl rfl) (zA0 (zAa (zB6 zBc (zAn zAg (pv 2) zAb (fun _ _=>rfl))) (zAa (zAn zAg (pv 2) zAb (fun _ _=>rfl)) zAd))))) zAx)
   (zAf (zA8 (zAu zF4 (zAh h_L_turned (hr.mono (by decide)) rfl (zAa (pv 2) (zAa (pv 3) zAd))) zAb (zAz _)) (zAi (zRm (i:=2) (j:=3) rfl zCl.nd rfl rfl (by decide) rfl rfl (zAa (pv 3) (zAa (pv 2) zAd)) rfl)) zAx)
   (zAf (zA8 (zAu zCi (zAh h_L_turned (hr.mono (by decide)) rfl (zAa (pv 2) (zAa (pv 3) zAd))) zAb (zAz _)) (zAi (zAw (i:=3) zCl.nd rfl (Or.inl rfl) (zA0 (zAa (zB6 zBc (zAn zAg (pv 2) zAb (fun _ _=>rfl))) (zAa (zAn zAg (pv 2) zAb (fun _ _=>rfl)) zAd))))) zAx)
   (zAi (zAr (zA0 (zAa (pv 2) (zAa (pv 3) zAd)))))))))),?_⟩
 obtain ⟨v0,a0,_⟩:=zCb bd (k:=0) (by decide) (by omega)
 obtain ⟨v1,a1,_⟩:=zCb bd (k:=1) (by decide) (by omega)
 obtain ⟨v2,a2,_⟩:=zCb bd (k:=2) (by decide) (by omega)
 obtain ⟨v3,a3,_⟩:=zCb bd (k:=3) (by decide) (by omega)
 obtain ⟨v4,a4,_⟩:=zCb bd (k:=4) (by decide) (by omega)
 refine ⟨_,rfl,a,_,_,_,rfl,rfl,.inl hS,a0,_,rfl,a,_,_,_,rfl,rfl,.inl hS,a1,_,rfl,v0,v1,wd,rfl,w1,by omega,fun p1 x1 y1 H2 s2 hp1 e1' n1 m1 m2=>?_⟩
 refine ⟨_,rfl,a,_,_,_,rfl,rfl,.inl (s2.seq hS),a2,_,rfl,a,_,_,_,rfl,rfl,.inl (s2.seq hS),a3,_,rfl,v2,v3,wd,rfl,w1,by omega,fun p2 x2 y2 H3 s3 hp2 e3 n2 m3 m4=>?_⟩
 have s23:=s2.trans s3
 have e13:=s3 _ _ e1'
 have k1:x1.natAbs≤100:=by omega
 have k2:y1.natAbs≤100:=by omega
 have k3:x2.natAbs≤100:=by omega
 have k4:y2.natAbs≤100:=by omega
 refine ⟨_,rfl,a,_,_,_,rfl,rfl,.inl (s23.seq hS),a4,_,_,rfl,rfl,(by show (0:Int) < 4; decide),rfl,_,rfl,?_⟩
 refine ifE (fun _=>?_) (fun _=>?_)
 ·refine ⟨_,rfl,p1,_,_,.int y1,rfl,rfl,.inr (SqT.of e13),rfl,_,rfl,_,rfl,p1,_,_,.int x1,rfl,rfl,.inr (SqT.of e13),rfl,(by show 2≤sizeLine; decide),fun d hd=>?_⟩
  have sd:=zAe hd (.tup [.int (-y1),.int x1])
  have sH:=s23.trans sd
  have e1:=sd _ _ e13
  have e2:upd H3 d (.tup [.int (-y1),.int x1]) d = some (.tup [.int (-y1),.int x1]):=zAc
  have f1:Sq K (upd H3 d (.tup [.int (-y1),.int x1])) p1 [.int x1,.int y1]:=.inr (SqT.of e1)
  have f2:Sq K (upd H3 d (.tup [.int (-y1),.int x1])) d [.int (-y1),.int x1]:=.inr (SqT.of e2)
  refine ⟨_,rfl,_,rfl,p1,d,_,_,x1,y1,(-y1),x1,rfl,f1,f2,rfl,rfl,rfl,rfl,by omega,by omega,_,_,rfl,rfl,_,rfl,?_⟩
  have eT:(-y1) * y1 - x1 * x1 = -(x1 * x1 - y1 * (-y1)):=by rw [Int.mul_comm (-y1) y1,Int.mul_comm x1 x1]; omega
  refine ifD (fun hneg=>?_) (fun hneg=>?_)
  ·refine ⟨_,rfl,_,rfl,_,_,rfl,?_⟩
   refine ⟨_,rfl,_,rfl,d,p1,_,_,(-y1),x1,x1,y1,rfl,f2,f1,rfl,rfl,rfl,rfl,by omega,by omega,rfl,_,rfl,?_⟩
   refine ifE (fun z=>absurd z (by omega)) (fun _=>?_)
   refine ⟨_,rfl,_,rfl,(by show 2≤sizeLine; decide),fun t ht=>?_⟩
   have st:=zAe ht (.tup [.ref d,.ref p1])
   exact q t d p1 (-y1) x1 x1 y1 _ ((sH).trans st) zAc (st _ _ e2) (st _ _ e1) (by omega) (by omega) (by omega) (by omega) (by omega)
  ·refine ⟨_,rfl,_,rfl,p1,d,_,_,x1,y1,(-y1),x1,rfl,f1,f2,rfl,rfl,rfl,rfl,by omega,by omega,rfl,_,rfl,?_⟩
   refine ifE (fun hz=>?_) (fun hz=>?_)
   ·refine ⟨_,rfl,p1,_,_,.int y1,rfl,rfl,f1,rfl,_,rfl,_,rfl,p1,_,_,.int x1,rfl,rfl,f1,rfl,(by show 2≤sizeLine; decide),fun d hd=>?_⟩
    have sd:=zAe hd (.tup [.int (-y1),.int x1])
    refine ⟨_,rfl,_,rfl,(by show 2≤sizeLine; decide),fun t ht=>?_⟩
    have st:=zAe ht (.tup [.ref p1,.ref d])
    have sp:=zKf n1
    exact q t p1 d x1 y1 (-y1) x1 _ (sH.trans (sd.trans st)) zAc (st _ _ (sd _ _ e1)) (st _ _ zAc) (by rw [Int.mul_neg]; omega) (by omega) (by omega) (by omega) (by omega)
   ·refine ⟨_,rfl,_,rfl,(by show 2≤sizeLine; decide),fun t ht=>?_⟩
    have st:=zAe ht (.tup [.ref p1,.ref d])
    exact q t p1 d x1 y1 (-y1) x1 _ (sH.trans st) zAc (st _ _ e1) (st _ _ e2) (by omega) (by omega) (by omega) (by omega) (by omega)
 ·have sH:=s23
  have e1:=e13
  have e2:=e3
  have f1:Sq K H3 p1 [.int x1,.int y1]:=.inr (SqT.of e1)
  have f2:Sq K H3 p2 [.int x2,.int y2]:=.inr (SqT.of e2)
  refine ⟨_,rfl,_,rfl,p1,p2,_,_,x1,y1,x2,y2,rfl,f1,f2,rfl,rfl,rfl,rfl,by omega,by omega,_,_,rfl,rfl,_,rfl,?_⟩
  have eT:x2 * y1 - y2 * x1 = -(x1 * y2 - y1 * x2):=by rw [Int.mul_comm x2 y1,Int.mul_comm y2 x1]; omega
  refine ifD (fun hneg=>?_) (fun hneg=>?_)
  ·refine ⟨_,rfl,_,rfl,_,_,rfl,?_⟩
   refine ⟨_,rfl,_,rfl,p2,p1,_,_,x2,y2,x1,y1,rfl,f2,f1,rfl,rfl,rfl,rfl,by omega,by omega,rfl,_,rfl,?_⟩
   refine ifE (fun z=>absurd z (by omega)) (fun _=>?_)
   refine ⟨_,rfl,_,rfl,(by show 2≤sizeLine; decide),fun t ht=>?_⟩
   have st:=zAe ht (.tup [.ref p2,.ref p1])
   exact q t p2 p1 x2 y2 x1 y1 _ ((sH).trans st) zAc (st _ _ e2) (st _ _ e1) (by omega) (by omega) (by omega) (by omega) (by omega)
  ·refine ⟨_,rfl,_,rfl,p1,p2,_,_,x1,y1,x2,y2,rfl,f1,f2,rfl,rfl,rfl,rfl,by omega,by omega,rfl,_,rfl,?_⟩
   refine ifE (fun hz=>?_) (fun hz=>?_)
   ·refine ⟨_,rfl,p1,_,_,.int y1,rfl,rfl,f1,rfl,_,rfl,_,rfl,p1,_,_,.int x1,rfl,rfl,f1,rfl,(by show 2≤sizeLine; decide),fun d hd=>?_⟩
    have sd:=zAe hd (.tup [.int (-y1),.int x1])
    refine ⟨_,rfl,_,rfl,(by show 2≤sizeLine; decide),fun t ht=>?_⟩
    have st:=zAe ht (.tup [.ref p1,.ref d])
    have sp:=zKf n1
    exact q t p1 d x1 y1 (-y1) x1 _ (sH.trans (sd.trans st)) zAc (st _ _ (sd _ _ e1)) (st _ _ zAc) (by rw [Int.mul_neg]; omega) (by omega) (by omega) (by omega) (by omega)
   ·refine ⟨_,rfl,_,rfl,(by show 2≤sizeLine; decide),fun t ht=>?_⟩
    have st:=zAe ht (.tup [.ref p1,.ref p2])
    exact q t p1 p2 x1 y1 x2 y2 _ (sH.trans st) zAc (st _ _ e1) (st _ _ e2) (by omega) (by omega) (by omega) (by omega) (by omega)
structure FdSt (H0:Hp) (l:Addr) (ps:List Pr) (H:Hp):Prop where
 same:Same H0 H
 new:H0 l = none
 at':H l = some (.lst (zAo ps))
 all:PrOk H 10000 ps
theorem FdSt.on {H0 H H2:Hp} {l:Addr} {ps:List Pr} (P:FdSt H0 l ps H) (s:Same H H2):FdSt H0 l ps H2:=⟨P.same.trans s,P.new,s _ _ P.at',P.all.same s⟩
theorem FdSt.app {H0 H:Hp} {l h:Addr} {ps:List Pr} {x y:Int} (P:FdSt H0 l ps H) (eh:H h = some (.tup [.int x,.int y])) (hx:x.natAbs≤10000) (hy:y.natAbs≤10000) :
  FdSt H0 l (ps ++ [(h,x,y)]) (upd H l (.lst (zAo ps ++ [.ref h])))∧upd H l (.lst (zAo ps ++ [.ref h])) h = some (.tup [.int x,.int y]):=by
 have k:∀ (b:Addr) (xs:List V),H b = some (.tup xs)→upd H l (.lst (zAo ps ++ [.ref h])) b = some (.tup xs):=fun b xs e=>by
  rw [zA5 (zIb e P.at' (by intro z; cases z))]
  exact e
 refine ⟨⟨P.same.putNew P.new,P.new,by rw [zAc,zEf] <;> rfl,fun t ht=>?_⟩,k _ _ eh⟩
 rcases List.mem_append.mp ht with h' | h'
 ·exact ⟨k _ _ (P.all t h').1,(P.all t h').2⟩
 ·rw [List.mem_singleton] at h'
  subst h'
  exact ⟨k _ _ eh,hx,hy⟩
theorem cut_at (ps:List Pr) (k:Nat):cutV (zAo ps) (some (k:Int)) none = zAo (ps.drop k)∧cutV (zAo ps) none (some (k:Int)) = zAo (ps.take k):=by
 refine ⟨?_,zH1 ps k⟩
 unfold cutV
 rw [HT.sIx_nat (zAo ps).length 0 k,show HT.sIx (zAo ps).length (zAo ps).length none = (zAo ps).length from rfl,List.take_of_length_le (by rw [List.length_drop] <;> omega)]
 rw [zAt]
 simp only [zAo,← List.map_drop]
 congr 2
 by_cases h:k≤ps.length
 ·rw [Nat.min_eq_left h]
 ·rw [Nat.min_eq_right (by omega),List.drop_length,List.drop_eq_nil_of_le (by omega)]
def zMq (K:PySem.W.Frag):Sp:=fun vs H Q _=>∃ (a:Addr) (rows:List Int) (wd:Int),vs = [.ref a,.int wd]∧SqL K H a (rows.map V.int)∧9≤rows.length∧(∀ x∈rows,0≤x∧x < 1000003)∧1≤wd∧wd≤100 ∧
 ∀ (l:Addr) (qs:List Pr) (H':Hp),Same H H'→H l = none→H' l = some (.lst (zAo qs))→PrOk H' 10000 qs→zI8 (qs.map (·.2))→Q (.ref l) H'
theorem zRe (F:Fun K "_law_bank" "_law_bank" zJp f fd) (Z:Zs mg) (h_L_left_pair:Has P w K mg base "_law_left_pair" 2 ["_law_d", "_law_wide"] (zG9 K)):FnOk P w K mg base CX0 3 f fd ["_law_d", "_law_wide"] (zMq K):=by
 refine F.ok zBn (fun vs H Q E h=>?_) (fun cdv A outer s H vs Q E hr h=>?_)
 ·obtain ⟨a,rows,wd,rfl,_⟩:=h
  rfl
 obtain ⟨a,rows,wd,rfl,hS,hl,bd,w1,w2,q⟩:=h
 refine ⟨_,(zAf (zEw (zAh h_L_left_pair (hr.mono (by decide)) rfl (zAa (pv 0) (zAa (pv 1) zAd))) (zB5 rfl (zAs (zAq (i:=2) zBn.nd rfl (Or.inl rfl)) (zAs (zAq (i:=3) zBn.nd rfl (Or.inl rfl)) zBf))))
   (zAf (zEw (pv 2) (zB5 rfl (zAs (zAq (i:=4) zBn.nd rfl (Or.inl rfl)) (zAs (zAq (i:=5) zBn.nd rfl (Or.inl rfl)) zBf))))
   (zAf (zEw (pv 3) (zB5 rfl (zAs (zAq (i:=6) zBn.nd rfl (Or.inl rfl)) (zAs (zAq (i:=7) zBn.nd rfl (Or.inl rfl)) zBf))))
   (zAf (zAw (i:=8) zBn.nd rfl (Or.inl rfl) (zBo (zAa (zBo (zAa (zA0 (zAa (pv 4) (zAa (pv 5) zAd))) (zAa (zA0 (zAa (zAl zA6 (pv 6) (pv 4)) (zAa (zAl zA6 (pv 7) (pv 5)) zAd))) (zAa (zA0 (zAa (zB6 zBc (pv 6)) (zAa (zB6 zBc (pv 7)) zAd))) zAd)))) (zAa (zBo (zAa (zA0 (zAa (pv 4) (zAa (pv 5) zAd))) (zAa (zA0 (zAa (pv 6) (zAa (pv 7) zAd))) (zAa (zA0 (zAa (zB6 zBc (pv 4)) (zAa (zB6 zBc (pv 5)) zAd))) (zAa (zA0 (zAa (zB6 zBc (pv 6)) (zAa (zB6 zBc (pv 7)) zAd))) zAd))))) (zAa (zBo (zAa (zA0 (zAa (zAl zA2 zAb (pv 4)) (zAa (zAl zA2 zAb (pv 5)) zAd))) (zAa (zA0 (zAa (pv 6) (zAa (pv 7) zAd))) (zAa (zA0 (zAa (zAl zA6 (pv 6) (pv 4)) (zAa (zAl zA6 (pv 7) (pv 5)) zAd))) (zAa (zA0 (zAa (zB6 zBc (pv 4)) (zAa (zB6 zBc (pv 5)) zAd))) (zAa (zA0 (zAa (zAl zA2 (zB6 zBc zAb) (pv 6)) (zAa (zAl zA2 (zB6 zBc zAb) (pv 7)) zAd))) zAd)))))) (zAa (zBo (zAa (zA0 (zAa (pv 4) (zAa (pv 5) zAd))) (zAa (zA0 (zAa (zAl zBd (pv 4) (pv 6)) (zAa (zAl zBd (pv 5) (pv 7)) zAd))) (zAa (zA0 (zAa (pv 6) (zAa (pv 7) zAd))) (zAa (zA0 (zAa (zB6 zBc (pv 4)) (zAa (zB6 zBc (pv 5)) zAd))) (zAa (zA0 (zAa (zAl zA6 (zB6 zBc (pv 4)) (pv 6)) (zAa (zAl zA6 (zB6 zBc (pv 5)) (pv 7)) zAd))) (zAa (zA0 (zAa (zB6 zBc (pv 6)) (zAa (zB6 zBc (pv 7)) zAd))) zAd))))))) zAd))))))
   (zAf (zAw (i:=9) zBn.nd rfl (Or.inl rfl) (zBo (zAa (zA0 (zAa (pv 4) (zAa (pv 5) zAd))) (zAa (zA0 (zAa (zAl zBd (zAl zA2 zAb (pv 4)) (pv 6)) (zAa (zAl zBd (zAl zA2 zAb (pv 5)) (pv 7)) zAd))) (zAa (zA0 (zAa (zAl zBd (pv 4) (zAl zA2 zAb (pv 6))) (zAa (zAl zBd (pv 5) (zAl zA2 zAb (pv 7))) zAd))) (zAa (zA0 (zAa (pv 6) (zAa (pv 7) zAd))) (zAa (zA0 (zAa (zB6 zBc (pv 4)) (zAa (zB6 zBc (pv 5)) zAd))) zAd)))))))
   (zAf (zFl (zLy PySem.F.plainAttrs_list PySem.F.slot_list_append PySem.F.type_list_append zCw (pv 8) (zAa (zAl zEv (pv 9) (zBo (zAa (zA0 (zAa (zAl zA6 (zAl zA2 (zB6 zBc zAb) (pv 4)) (pv 6)) (zAa (zAl zA6 (zAl zA2 (zB6 zBc zAb) (pv 5)) (pv 7)) zAd))) (zAa (zA0 (zAa (zAl zA6 (zB6 zBc (pv 4)) (zAl zA2 zAb (pv 6))) (zAa (zAl zA6 (zB6 zBc (pv 5)) (zAl zA2 zAb (pv 7))) zAd))) zAd)))) zAd)))
   (zAf (zFl (zLy PySem.F.plainAttrs_list PySem.F.slot_list_append PySem.F.type_list_append zCw (pv 8) (zAa (zAl zEv (pv 9) (zBo (zAa (zA0 (zAa (zAl zA6 (zAl zA2 (zB6 zBc zAb) (pv 4)) (pv 6)) (zAa (zAl zA6 (zAl zA2 (zB6 zBc zAb) (pv 5)) (pv 7)) zAd))) (zAa (zA0 (zAa (zAl zA6 (zB6 zBc (pv 4)) (zAl zA2 zAb (pv 6))) (zAa (zAl zA6 (zB6 zBc (pv 5)) (zAl zA2 zAb (pv 7))) zAd))) (zAa (zA0 (zAa (zB6 zBc (pv 6)) (zAa (zB6 zBc (pv 7)) zAd))) zAd))))) zAd)))
   (zAf (zAw (i:=10) zBn.nd rfl (Or.inl rfl) (zA0 (zAa (zAl zA6 (zAl zA7 (zAn zAg (pv 0) zAb (fun _ _=>rfl)) zAb) zAb) (zAa (zAl zA6 (zAl zA7 (zAn zAg (pv 0) zAb (fun _ _=>rfl)) zAb) zAb) zAd))))
   (zAf (zAw (i:=11) zBn.nd rfl (Or.inl rfl) (zAn zAg (pv 8) (zAl zA7 (zAn zAg (pv 0) zAb (fun _ _=>rfl)) zAb) (fun _ _=>rfl)))
   (zAf (zAw (i:=12) zBn.nd rfl (Or.inl rfl) (zBo zAd))
   (zAf (zCz PassesOwn.never rfl (zCc (pv 11)) (zB5 rfl (zAs (zAq (i:=13) zBn.nd rfl (Or.inl rfl)) (zAs (zAq (i:=14) zBn.nd rfl (Or.inl rfl)) zBf))) (zAf (zFl (zLy PySem.F.plainAttrs_list PySem.F.slot_list_append PySem.F.type_list_append zCw (pv 12) (zAa (pv 10) zAd)))
   (zAi (zAw (i:=10) zBn.nd rfl (Or.inl rfl) (zA0 (zAa (zAl zBd (zAn zAg (pv 10) zAb (fun _ _=>rfl)) (pv 13)) (zAa (zAl zBd (zAn zAg (pv 10) zAb (fun _ _=>rfl)) (pv 14)) zAd)))))))
   (zAf (zAw (i:=15) zBn.nd rfl (Or.inl rfl) (zAl zA7 (zAn zAg (pv 0) zAb (fun _ _=>rfl)) (zAv zA1 rfl Z.len zB9 (zAa (pv 12) zAd))))
   (zAi (zAr (zAl zEv (zBy zCy (pv 12) (zCo (pv 15)) zCn) (zBy zCy (pv 12) zCn (zCo (pv 15)))))))))))))))))),?_⟩
 obtain ⟨v5,a5,_⟩:=zCb bd (k:=5) (by decide) (by omega)
 obtain ⟨v6,a6,_⟩:=zCb bd (k:=6) (by decide) (by omega)
 obtain ⟨v7,a7,_⟩:=zCb bd (k:=7) (by decide) (by omega)
 obtain ⟨v8,a8,_⟩:=zCb bd (k:=8) (by decide) (by omega)
 refine ⟨_,rfl,_,rfl,a,rows,wd,rfl,hS,by omega,bd,w1,w2,fun tp pa pb x y p q' G0 sG etp epa epb tpos k1 k2 k3 k4=>?_⟩
 refine ⟨tp,_,rfl,SqT.of etp,rfl,.ref pa,_,rfl,.ref pb,_,rfl,rfl,?_⟩
 refine ⟨_,rfl,pa,_,rfl,SqT.of epa,rfl,.int x,_,rfl,.int y,_,rfl,rfl,?_⟩
 refine ⟨_,rfl,pb,_,rfl,SqT.of epb,rfl,.int p,_,rfl,.int q',_,rfl,rfl,?_⟩
 clear etp epa epb
 have W4:∀ {σ:St},σ[4]? = some (some (.int x))→PIb (tVar 4) σ x 100:=fun h=>.var h k1
 have W5:∀ {σ:St},σ[5]? = some (some (.int y))→PIb (tVar 5) σ y 100:=fun h=>.var h k2
 have W6:∀ {σ:St},σ[6]? = some (some (.int p))→PIb (tVar 6) σ p 100:=fun h=>.var h k3
 have W7:∀ {σ:St},σ[7]? = some (some (.int q'))→PIb (tVar 7) σ q' 100:=fun h=>.var h k4
 have c2:∀ {σ:St},PIb (tC (.int 2)) σ 2 2:=.con (by decide)
 have c3:∀ {σ:St},PIb (tC (.int 3)) σ 3 3:=.con (by decide)
 dsimp only
 refine zTn (M:=1000)
  (.cons (W4 rfl) (W5 rfl) (.cons (.sub (W6 rfl) (W4 rfl)) (.sub (W7 rfl) (W5 rfl)) (.cons (.neg (W6 rfl)) (.neg (W7 rfl)) .nil)))
  (.cons (W4 rfl) (W5 rfl) (.cons (W6 rfl) (W7 rfl) (.cons (.neg (W4 rfl)) (.neg (W5 rfl)) (.cons (.neg (W6 rfl)) (.neg (W7 rfl)) .nil))))
  (.cons (.mul c2 (W4 rfl) (by decide)) (.mul c2 (W5 rfl) (by decide)) (.cons (W6 rfl) (W7 rfl) (.cons (.sub (W6 rfl) (W4 rfl)) (.sub (W7 rfl) (W5 rfl)) (.cons (.neg (W4 rfl)) (.neg (W5 rfl)) (.cons (.mul (.neg c2) (W6 rfl) (by decide)) (.mul (.neg c2) (W7 rfl) (by decide)) .nil)))))
  (.cons (W4 rfl) (W5 rfl) (.cons (.add (W4 rfl) (W6 rfl)) (.add (W5 rfl) (W7 rfl)) (.cons (W6 rfl) (W7 rfl) (.cons (.neg (W4 rfl)) (.neg (W5 rfl)) (.cons (.sub (.neg (W4 rfl)) (W6 rfl)) (.sub (.neg (W5 rfl)) (W7 rfl)) (.cons (.neg (W6 rfl)) (.neg (W7 rfl)) .nil))))))
  (by show 3≤1000; decide) (by show 4≤1000; decide) (by show 5≤1000; decide) (by show 6≤1000; decide) fun lo xs G1 s1 hlo L1 m1=>?_
 unfold zUc
 refine zRc (M:=1000) (.cons (W4 rfl) (W5 rfl) (.cons (.add (.mul c2 (W4 rfl) (by decide)) (W6 rfl)) (.add (.mul c2 (W5 rfl) (by decide)) (W7 rfl)) (.cons (.add (W4 rfl) (.mul c2 (W6 rfl) (by decide))) (.add (W5 rfl) (.mul c2 (W7 rfl) (by decide))) (.cons (W6 rfl) (W7 rfl) (.cons (.neg (W4 rfl)) (.neg (W5 rfl)) .nil))))) (by show 5≤1000; decide) fun l4 p4 G2 s2 hl4 el4 pk4 m4=>?_
 have new:H lo = none:=sG.free hlo
 have sG2:=(sG.trans s1).trans s2
 have L2':=L1.same s2
 have n4:l4≠lo:=fun z=>by rw [z,L1.at'] at hl4; cases hl4
 clear sG s1 L1 s2 hl4
 refine ⟨_,rfl,.inl ⟨rfl,_,SqL.of L2'.at'⟩,_,rfl,?_⟩
 show tLst _ _ _ _
 refine zH8 (M:=1000) (.cons (.sub (.mul (.neg c2) (W4 rfl) (by decide)) (W6 rfl)) (.sub (.mul (.neg c2) (W5 rfl) (by decide)) (W7 rfl)) (.cons (.sub (.neg (W4 rfl)) (.mul c3 (W6 rfl) (by decide))) (.sub (.neg (W5 rfl)) (.mul c3 (W7 rfl) (by decide))) .nil)) (by show 2≤1000; decide) fun l5 p5 G3 s3 _ el5 pk5 m5=>?_
 have len4:p4.length = 5:=by
  have z:=congrArg List.length m4
  rw [List.length_map] at z
  exact z
 have len5:p5.length = 2:=by
  have z:=congrArg List.length m5
  rw [List.length_map] at z
  exact z
 have nx:xs.length = 4:=by
  have z:=congrArg List.length m1
  rw [List.length_map] at z
  exact z
 have nr:∀ X:List (Addr × List Pr),(zFz X).length = X.length:=fun X=>by rw [List.length_map,List.length_map]
 refine ⟨l4,l5,_,_,rfl,rfl,s3 _ _ el4,el5,small (by rw [zAt,zAt]; omega),fun l6 hl6=>?_⟩
 have sl6:Same G3 (upd G3 l6 (.lst (zAo p4 ++ zAo p5))):=zAe hl6 _
 have el6:upd G3 l6 (.lst (zAo p4 ++ zAo p5)) l6 = some (.lst (zAo (p4 ++ p5))):=by rw [zAc,zEf]
 have L4:=L2'.same (s3.trans sl6)
 have n6:l6≠lo:=fun z=>by rw [z,(L2'.same s3).at'] at hl6; cases hl6
 generalize upd G3 l6 (.lst (zAo p4 ++ zAo p5)) = G4 at sl6 el6 L4 ⊢
 refine ⟨lo,_,_,rfl,rfl,L4.at',zA3 (by rw [nr]; omega),?_⟩
 have L5:=L4.app n6 el6 ((pk4.same (s3.trans sl6)).app (pk5.same sl6))
 have sO:=(sG2.trans (s3.trans sl6)).putNew (o:=.lst (zFz xs ++ [.ref l6])) new
 have f4:upd G4 lo (.lst (zFz xs ++ [.ref l6])) l4 = some (.lst (zAo p4)):=by
  rw [zA5 n4]
  exact (s3.trans sl6) _ _ el4
 have g4:=zUf L4.at' (pk4.same (s3.trans sl6)) (.lst (zFz xs ++ [.ref l6]))
 generalize upd G4 lo (.lst (zFz xs ++ [.ref l6])) = G5 at L5 sO f4 g4 ⊢
 clear L4 L2' sG2 s3 el5 pk5 el6 sl6 n6 el4 pk4
 refine ⟨_,rfl,.inl ⟨rfl,_,SqL.of L5.at'⟩,_,rfl,?_⟩
 show tLst _ _ _ _
 refine zH8 (M:=1000) (.cons (.sub (.mul (.neg c2) (W4 rfl) (by decide)) (W6 rfl)) (.sub (.mul (.neg c2) (W5 rfl) (by decide)) (W7 rfl)) (.cons (.sub (.neg (W4 rfl)) (.mul c2 (W6 rfl) (by decide))) (.sub (.neg (W5 rfl)) (.mul c2 (W7 rfl) (by decide))) (.cons (.neg (W6 rfl)) (.neg (W7 rfl)) .nil))) (by show 3≤1000; decide) fun l7 p7 G6 s6 _ el7 pk7 m7=>?_
 have len7:p7.length = 3:=by
  have z:=congrArg List.length m7
  rw [List.length_map] at z
  exact z
 refine ⟨l4,l7,_,_,rfl,rfl,s6 _ _ f4,el7,small (by rw [zAt,zAt]; omega),fun l8 hl8=>?_⟩
 have sl8:Same G6 (upd G6 l8 (.lst (zAo p4 ++ zAo p7))):=zAe hl8 _
 have el8:upd G6 l8 (.lst (zAo p4 ++ zAo p7)) l8 = some (.lst (zAo (p4 ++ p7))):=by rw [zAc,zEf]
 have L8:=L5.same (s6.trans sl8)
 have n8:l8≠lo:=fun z=>by rw [z,(L5.same s6).at'] at hl8; cases hl8
 generalize upd G6 l8 (.lst (zAo p4 ++ zAo p7)) = G8 at sl8 el8 L8 ⊢
 refine ⟨lo,_,_,rfl,rfl,L8.at',zA3 (by rw [nr,List.length_append]; show xs.length + 1≤1000; omega),?_⟩
 have L9:=L8.app n8 el8 ((g4.same (s6.trans sl8)).app (pk7.same sl8))
 have sG:=(sO.trans (s6.trans sl8)).putNew (o:=.lst (zFz (xs ++ [(l6,p4 ++ p5)]) ++ [.ref l8])) new
 generalize upd G8 lo (.lst (zFz (xs ++ [(l6,p4 ++ p5)]) ++ [.ref l8])) = G40 at L9 sG ⊢
 clear L8 L5 sO s6 f4 g4 el7 pk7 el8 sl8 n8 n4
 have elo:=L9.at'
 have mm:(xs ++ [(l6,p4 ++ p5)] ++ [(l8,p4 ++ p7)]).map (fun u=>u.2.map (·.2)) = (List.range 6).map (zKx x y p q'):=by
  rw [List.map_append,List.map_append,m1]
  simp only [List.map_cons,List.map_nil,List.map_append,m4,m5,m7]
  rfl
 have sq:Sq K G40 a (rows.map V.int):=.inl (sG.seq hS)
 refine ⟨_,rfl,a,_,_,_,rfl,rfl,sq,a5,_,_,rfl,rfl,(by show (0:Int) < 41; decide),_,_,rfl,rfl,_,rfl,a,_,_,_,rfl,rfl,sq,a6,_,_,rfl,rfl,(by show (0:Int) < 41; decide),_,_,rfl,rfl,(by show 2≤sizeLine; decide),fun h0 hh0=>?_⟩
 obtain ⟨c,lr,ls,hc,hat,elr,pls,els⟩:∃ (c:Nat) (lr:Addr) (ls:List Pr),c < 6∧atI (zFz (xs ++ [(l6,p4 ++ p5)] ++ [(l8,p4 ++ p7)])) (v7 % 6) = some (.ref lr)∧G40 lr = some (.lst (zAo ls))∧PrOk G40 1000 ls∧ls.map (·.2) = zKx x y p q' c:=by
  generalize xs ++ [(l6,p4 ++ p5)] ++ [(l8,p4 ++ p7)] = X at L9 mm
  have z0:=Int.emod_nonneg v7 (show (6:Int)≠0 by decide)
  have z1:=Int.emod_lt_of_pos v7 (show (0:Int) < 6 by decide)
  have z2:((v7 % 6).toNat:Int) = v7 % 6:=by omega
  have z3:(v7 % 6).toNat < 6:=by omega
  have g:(X.map (fun u=>u.2.map (·.2)))[(v7 % 6).toNat]? = ((List.range 6).map (zKx x y p q'))[(v7 % 6).toNat]?:=by rw [mm]
  rw [List.getElem?_map,List.getElem?_map,List.getElem?_range z3] at g
  cases gu:X[(v7 % 6).toNat]? with
  | none=>rw [gu] at g; cases g
  | some u =>
   rw [gu] at g
   obtain ⟨_,h2,h3⟩:=L9.all u (List.mem_of_getElem? gu)
   refine ⟨(v7 % 6).toNat,u.1,u.2,z3,?_,h2,h3,Option.some.inj g⟩
   have k:atI (zFz X) (((v7 % 6).toNat:Nat):Int) = some (V.ref u.1):=zKy (by rw [List.getElem?_map,List.getElem?_map,gu]; rfl)
   rw [z2] at k
   exact k
 have bh0:(v5 % 41 - 20).natAbs≤20:=by omega
 have bh1:(v6 % 41 - 20).natAbs≤20:=by omega
 have s41:Same G40 (upd G40 h0 (.tup [.int (v5 % 41 - 20),.int (v6 % 41 - 20)])):=zAe hh0 _
 have eh:upd G40 h0 (.tup [.int (v5 % 41 - 20),.int (v6 % 41 - 20)]) h0 = some (.tup [.int (v5 % 41 - 20),.int (v6 % 41 - 20)]):=zAc
 generalize upd G40 h0 (.tup [.int (v5 % 41 - 20),.int (v6 % 41 - 20)]) = G41 at s41 eh ⊢
 generalize v5 % 41 - 20 = hx at bh0 eh
 generalize v6 % 41 - 20 = hy at bh1 eh
 replace sG:=sG.trans s41
 replace elr:=s41 _ _ elr
 replace pls:=pls.same s41
 replace elo:=s41 _ _ elo
 have hls:ls.length = (tabB c).length:=by
  have z:=congrArg List.length (zO9 hc hx hy x y p q')
  rw [zIp,← els,List.length_map] at z
  rw [z]
  exact List.length_map _
 have hl8:=zHk hc
 refine ⟨_,rfl,_,rfl,a,_,_,_,rfl,rfl,.inl (sG.seq hS),a7,_,_,rfl,rfl,(by show (0:Int) < 6; decide),lo,_,_,_,rfl,rfl,.inl (SqL.of elo),hat,?_⟩
 refine ⟨(by show 0≤sizeLine; decide),fun l hl0=>?_⟩
 have P0:FdSt G41 l [] (upd G41 l (.lst [])):=⟨zAe hl0 _,hl0,zAc,fun t ht=>nomatch ht⟩
 have eh0:=zAe hl0 (.lst []) _ _ eh
 generalize upd G41 l (.lst []) = G42 at P0 eh0 ⊢
 refine ⟨_,rfl,lr,rfl,.inl ⟨⟨_,SqL.of (P0.same _ _ elr)⟩,zCt (K:=K) (a:=lr) (xs:=zAo ls) (fun i σ G=>∃ (ps:List Pr) (hh:Addr) (X Y:Int) (u13 u14:Option V),FdSt G41 l ps G∧ps.length = i∧ps.map (·.2) = zI1 (hx,hy) ((ls.take i).map (·.2))∧G hh = some (.tup [.int X,.int Y])∧(X,Y) = endP (hx,hy) ((ls.take i).map (·.2))∧X.natAbs≤20 + 1000 * i∧Y.natAbs≤20 + 1000 * i ∧
   σ = [some (.ref a),some (.int wd),some (.ref pa),some (.ref pb),some (.int x),some (.int y),some (.int p),some (.int q'),some (.ref lo),some (.ref l4),some (.ref hh),some (.ref lr),some (.ref l),u13,u14,none])
  ⟨[],h0,hx,hy,none,none,P0,rfl,rfl,eh0,rfl,bh0,bh1,rfl⟩ (fun i σ G _ ⟨_,_,_,_,_,_,e,_⟩=>SqL.of (e.same _ _ elr)) ?_ ?_⟩⟩
 ·rintro i v σ G hi ⟨ps,hh,X,Y,u13,u14,Pi,hpl,hmap,ehh,hend,bX,bY,rfl⟩
  rw [List.getElem?_map,List.getElem?_map] at hi
  cases ht:ls[i]? with
  | none=>rw [ht] at hi; cases hi
  | some t =>
   rw [ht] at hi
   cases hi
   obtain ⟨e1,b1,b2⟩:=pls t (List.mem_of_getElem? ht)
   have hil:i < ls.length:=(List.getElem?_eq_some_iff.mp ht).1
   have tk:=zB1 ht
   refine ⟨t.1,_,rfl,SqT.of (Pi.same _ _ e1),rfl,_,_,rfl,_,_,rfl,rfl,?_⟩
   refine ⟨_,rfl,.inl ⟨rfl,_,SqL.of Pi.at'⟩,_,rfl,l,_,_,rfl,rfl,Pi.at',zA3 (by rw [zAt]; omega),?_⟩
   obtain ⟨P2,eh2⟩:=Pi.app ehh (by omega) (by omega)
   generalize upd G l (.lst (zAo ps ++ [.ref hh])) = G2 at P2 eh2 ⊢
   refine ⟨_,rfl,hh,_,_,.int X,rfl,rfl,.inr (SqT.of eh2),rfl,_,rfl,_,_,rfl,rfl,_,rfl,hh,_,_,.int Y,rfl,rfl,.inr (SqT.of eh2),rfl,_,rfl,_,_,rfl,rfl,(by show 2≤sizeLine; decide),fun h2 hh2=>?_⟩
   refine ⟨ps ++ [(hh,X,Y)],h2,X + t.2.1,Y + t.2.2,_,_,P2.on (zAe hh2 _),by rw [List.length_append,hpl] <;> rfl,?_,zAc,?_,by omega,by omega,rfl⟩
   ·rw [tk,List.map_append,List.map_append,hmap]
    show zI1 (hx,hy) _ ++ [(X,Y)] = zI1 (hx,hy) (_ ++ [t.2])
    rw [zLi,hend]
   ·rw [tk,List.map_append]
    show _ = endP (hx,hy) (_ ++ [t.2])
    rw [zNg,← hend]
 ·rintro σ G ⟨ps,hh,X,Y,u13,u14,Pi,hpl,hmap,ehh,hend,bX,bY,rfl⟩
  rw [zAt] at hpl hmap
  rw [List.take_length,els,zO9 hc] at hmap
  have hpn:ps.length = (tabB c).length:=by omega
  have pos:(0:Int) < ((zAo ps).length:Int):=by rw [zAt]; omega
  refine ⟨_,rfl,a,_,_,_,rfl,rfl,.inl ((sG.trans Pi.same).seq hS),a8,_,rfl,l,_,rfl,.inl (SqL.of Pi.at'),_,_,rfl,rfl,pos,?_⟩
  obtain ⟨k,ek,hk⟩:∃ k:Nat,v8 % ((zAo ps).length:Int) = (k:Int)∧k < ps.length:=by
   have z0:=Int.emod_nonneg v8 (show ((zAo ps).length:Int)≠0 by omega)
   have z1:=Int.emod_lt_of_pos v8 pos
   rw [zAt] at z0 z1 ⊢
   exact ⟨(v8 % (ps.length:Int)).toNat,by omega,by omega⟩
  obtain ⟨c1,c2⟩:=cut_at ps k
  rw [← ek] at c1 c2
  refine ⟨_,rfl,_,rfl,_,rfl,l,_,rfl,SqL.of Pi.at',fun f1 hf1=>?_⟩
  rw [c1]
  have sf1:Same G (upd G f1 (.lst (zAo (ps.drop k)))):=zAe hf1 _
  refine ⟨_,rfl,_,rfl,_,rfl,l,_,rfl,SqL.of (sf1 _ _ Pi.at'),fun f2 hf2=>?_⟩
  rw [c2]
  have sf2:Same (upd G f1 (.lst (zAo (ps.drop k)))) (upd (upd G f1 (.lst (zAo (ps.drop k)))) f2 (.lst (zAo (ps.take k)))):=zAe hf2 _
  refine ⟨f1,f2,_,_,rfl,rfl,sf2 _ _ zAc,zAc,small (by rw [zAt,zAt,List.length_drop,List.length_take]; omega),fun f3 hf3=>?_⟩
  have sf3:=zAe hf3 (.lst (zAo (ps.drop k) ++ zAo (ps.take k)))
  have sAll:=(sf1.trans sf2).trans sf3
  refine q f3 (ps.drop k ++ ps.take k) _ ((sG.trans Pi.same).trans sAll) ((sG.trans Pi.same).free ((sf1.trans sf2).free hf3)) (by rw [zAc,zEf]) ((Pi.all.same sAll).sub fun t ht=>?_) ?_
  ·rcases List.mem_append.mp ht with h | h
   ·exact List.mem_of_mem_drop h
   ·exact List.mem_of_mem_take h
  ·exact ⟨c,k,hx,hy,x,y,p,q',hc,by omega,tpos,by rw [List.map_append,List.map_drop,List.map_take,hmap]⟩
theorem zO5 {u v:Int × Int} : lowL (zBk u v) = [(v.2 - u.2) / ((Nat.gcd (Nat.gcd (v.2 - u.2).natAbs (v.1 - u.1).natAbs) ((v.2 - u.2) * u.1 - (v.1 - u.1) * u.2).natAbs:Nat):Int),(u.1 - v.1) / ((Nat.gcd (Nat.gcd (v.2 - u.2).natAbs (v.1 - u.1).natAbs) ((v.2 - u.2) * u.1 - (v.1 - u.1) * u.2).natAbs:Nat):Int),((v.2 - u.2) * u.1 - (v.1 - u.1) * u.2) / ((Nat.gcd (Nat.gcd (v.2 - u.2).natAbs (v.1 - u.1).natAbs) ((v.2 - u.2) * u.1 - (v.1 - u.1) * u.2).natAbs:Nat):Int)]:=by
 have e2:u.1 * (v.2 - u.2) - u.2 * (v.1 - u.1) = (v.2 - u.2) * u.1 - (v.1 - u.1) * u.2:=by rw [Int.mul_comm u.1,Int.mul_comm u.2]
 have e1 : -(v.1 - u.1) = u.1 - v.1:=by omega
 have e3:(u.1 - v.1).natAbs = (v.1 - u.1).natAbs:=by omega
 have g:gcdL (zBk u v) = Nat.gcd (Nat.gcd (v.2 - u.2).natAbs (v.1 - u.1).natAbs) ((v.2 - u.2) * u.1 - (v.1 - u.1) * u.2).natAbs:=by
  unfold gcdL zBk
  rw [e2,e1]
  show Nat.gcd (Nat.gcd (Nat.gcd 0 (v.2 - u.2).natAbs) (u.1 - v.1).natAbs) _ = _
  rw [Nat.gcd_zero_left,e3]
 unfold lowL
 rw [g]
 unfold zBk
 rw [e2,e1]
 rfl
theorem zTl {u v:Int × Int} (n:u≠v):0 < Nat.gcd (Nat.gcd (v.2 - u.2).natAbs (v.1 - u.1).natAbs) ((v.2 - u.2) * u.1 - (v.1 - u.1) * u.2).natAbs:=by
 refine Nat.gcd_pos_of_pos_left _ ?_
 by_cases h1:v.2 = u.2
 ·refine Nat.gcd_pos_of_pos_right _ (Int.natAbs_pos.mpr fun z=>n (Prod.ext (by omega) h1.symm))
 ·exact Nat.gcd_pos_of_pos_left _ (Int.natAbs_pos.mpr (by omega))
theorem zOj {u v:Int × Int} (n:u≠v) (m1:u.1.natAbs≤10 ^ 6) (m2:u.2.natAbs≤10 ^ 6) (m3:v.1.natAbs≤10 ^ 6) (m4:v.2.natAbs≤10 ^ 6):Nat.gcd (Nat.gcd (v.2 - u.2).natAbs (v.1 - u.1).natAbs) ((v.2 - u.2) * u.1 - (v.1 - u.1) * u.2).natAbs≤2 * 10 ^ 6:=by
 have d1:(v.2 - u.2).natAbs≤2 * 10 ^ 6:=by clear m1 m3 n; omega
 have d2:(v.1 - u.1).natAbs≤2 * 10 ^ 6:=by clear m2 m4 n d1; omega
 by_cases h1:v.2 = u.2
 ·have h2:0 < (v.1 - u.1).natAbs:=Int.natAbs_pos.mpr fun z=>n (Prod.ext (by omega) h1.symm)
  have g0:0 < Nat.gcd (v.2 - u.2).natAbs (v.1 - u.1).natAbs:=Nat.gcd_pos_of_pos_right _ h2
  exact Nat.le_trans (Nat.le_trans (Nat.gcd_le_left _ g0) (Nat.gcd_le_right _ h2)) d2
 ·have h2:0 < (v.2 - u.2).natAbs:=Int.natAbs_pos.mpr (by omega)
  have g0:0 < Nat.gcd (v.2 - u.2).natAbs (v.1 - u.1).natAbs:=Nat.gcd_pos_of_pos_left _ h2
  exact Nat.le_trans (Nat.le_trans (Nat.gcd_le_left _ g0) (Nat.gcd_le_left _ h2)) d1
theorem zVj {ps:List Pr} {i:Nat} {k:Int} (h:i < ps.length) (e:k = (i:Int) - (ps.length:Int) + 1):∃ t,t∈ps∧ps[(i + 1) % ps.length]? = some t∧atI (zAo ps) k = some (.ref t.1):=by
 by_cases hn:i + 1 = ps.length
 ·rw [hn,Nat.mod_self]
  exact zF5 (by omega) (by omega)
 ·rw [Nat.mod_eq_of_lt (by omega)]
  exact zOi (by omega) (by omega)
def zE2 (K:PySem.W.Frag):Sp:=fun vs H Q _=>∃ (c:Addr) (ps:List Pr),vs = [.ref c]∧SqL K H c (zAo ps)∧PrOk H (10 ^ 6) ps∧ps.length≤8∧(∀ i < ps.length,atP (ps.map (·.2)) i≠atP (ps.map (·.2)) ((i + 1) % ps.length)) ∧
 ∀ (D:Addr) (es:List Sd) (H':Hp),SdSt H D es H'→es.map (·.2) = zBp (ps.map (·.2))→Q (.ref D) H'
theorem zK9 (F:Fun K "_law_bank_rows" "_law_bank_rows" zD2 f fd) (Z:Zs mg) (h_L_low:Has P w K mg base "_law_low" 1 ["_law_one", "_law_other"] (zH5 K)):FnOk P w K mg base CX0 2 f fd ["_law_places"] (zE2 K):=by
 refine F.ok zBs (fun vs H Q E h=>?_) (fun cdv A outer s H vs Q E hr h=>?_)
 ·obtain ⟨c,ps,rfl,_⟩:=h
  rfl
 obtain ⟨c,ps,rfl,hc,pk,p8,ne,q⟩:=h
 have nr:=zAt ps
 have lp:(ps.map (·.2)).length = ps.length:=List.length_map ..
 refine ⟨_,(zAf (zAw (i:=1) zBs.nd rfl (Or.inl rfl) (zBo zAd))
   (zAf (zCz PassesOwn.never rfl (zC7 rfl Z.range (zAa (zAv zA1 rfl Z.len zB9 (zAa (pv 0) zAd)) zAd)) (zAq (i:=2) zBs.nd rfl (Or.inl rfl)) (zAf (zEw (zAn zAg (pv 0) (pv 2) (fun _ _=>rfl)) (zB5 rfl (zAs (zAq (i:=3) zBs.nd rfl (Or.inl rfl)) (zAs (zAq (i:=4) zBs.nd rfl (Or.inl rfl)) zBf))))
   (zAf (zEw (zAn zAg (pv 0) (zAl zBd (zAl zA6 (pv 2) (zAv zA1 rfl Z.len zB9 (zAa (pv 0) zAd))) zAb) (fun _ _=>rfl)) (zB5 rfl (zAs (zAq (i:=5) zBs.nd rfl (Or.inl rfl)) (zAs (zAq (i:=6) zBs.nd rfl (Or.inl rfl)) zBf))))
   (zAf (zAw (i:=7) zBs.nd rfl (Or.inl rfl) (zAh h_L_low (hr.mono (by decide)) rfl (zAa (zAh h_L_low (hr.mono (by decide)) rfl (zAa (zAl zA6 (pv 6) (pv 4)) (zAa (zAl zA6 (pv 5) (pv 3)) zAd))) (zAa (zAl zA6 (zAl zA2 (zAl zA6 (pv 6) (pv 4)) (pv 3)) (zAl zA2 (zAl zA6 (pv 5) (pv 3)) (pv 4))) zAd))))
   (zAi (zFl (zLy PySem.F.plainAttrs_list PySem.F.slot_list_append PySem.F.type_list_append zCw (pv 1) (zAa (zA0 (zAa (zAl zCu (zAl zA6 (pv 6) (pv 4)) (pv 7)) (zAa (zAl zCu (zAl zA6 (pv 3) (pv 5)) (pv 7)) (zAa (zAl zCu (zAl zA6 (zAl zA2 (zAl zA6 (pv 6) (pv 4)) (pv 3)) (zAl zA2 (zAl zA6 (pv 5) (pv 3)) (pv 4))) (pv 7)) zAd)))) zAd))))))))
   (zAi (zAr (pv 1))))),?_⟩
 refine ⟨(by show 0≤sizeLine; decide),fun D hD=>?_⟩
 have P0:SdSt H D [] (upd H D (.lst [])):=⟨zAe hD _,hD,zAc,(fun t ht=>nomatch ht)⟩
 generalize upd H D (.lst []) = H0 at P0 ⊢
 refine ⟨_,rfl,c,_,rfl,.inl (P0.same.seq hc),_,rfl,(by rw [nr]; omega),(by rw [nr]; omega),zEq (lo:=0) (n:=(((zAo ps).length:Nat):Int).toNat) (fun i σ G=>∃ es:List Sd,es.length = i∧SdSt H D es G∧es.map (·.2) = (List.range i).map (fun i=>pt3 (lowL (zBk (atP (ps.map (·.2)) i) (atP (ps.map (·.2)) ((i + 1) % (ps.map (·.2)).length)))))∧∃ u2 u3 u4 u5 u6 u7:Option V,σ = [some (.ref c),some (.ref D),u2,u3,u4,u5,u6,u7])
  ⟨[],rfl,P0,rfl,none,none,none,none,none,none,rfl⟩ ?_ ?_⟩
 ·rintro i σ G hi ⟨es,nes,Pi,mes,u2,u3,u4,u5,u6,u7,rfl⟩
  rw [Int.toNat_natCast,nr] at hi
  have sq:SqL K G c (zAo ps):=Pi.same.seq hc
  have pkG:=pk.same Pi.same
  obtain ⟨t,mt,gt,at0⟩:=zF5 (ps:=ps) (i:=i) (k:=0 + (i:Int)) (by omega) hi
  obtain ⟨t2,mt2,gt2,at2⟩:=zVj (ps:=ps) (i:=i) (k:=0 + (i:Int) - (((zAo ps).length:Nat):Int) + 1) hi (by rw [nr]; omega)
  obtain ⟨et,b1,b2⟩:=pkG t mt
  obtain ⟨et2,b3,b4⟩:=pkG t2 mt2
  have nn:t.2≠t2.2:=by
   have z:=ne i hi
   rwa [zKj gt,zKj gt2] at z
  refine ⟨_,rfl,_,rfl,c,_,_,.ref t.1,rfl,rfl,.inl sq,at0,t.1,_,rfl,SqT.of et,rfl,.int t.2.1,_,rfl,.int t.2.2,_,rfl,rfl,?_⟩
  refine ⟨_,rfl,_,rfl,_,rfl,c,_,rfl,.inl sq,_,_,rfl,rfl,_,_,rfl,rfl,c,_,_,.ref t2.1,rfl,rfl,.inl sq,at2,t2.1,_,rfl,SqT.of et2,rfl,.int t2.2.1,_,rfl,.int t2.2.2,_,rfl,rfl,?_⟩
  have m1:CMul (t2.2.2 - t.2.2) t.2.1:=cm_l (by omega)
  have m2:CMul (t2.2.1 - t.2.1) t.2.2:=cm_l (by omega)
  refine ⟨_,rfl,_,rfl,_,_,rfl,rfl,_,rfl,_,rfl,_,_,rfl,rfl,t2.2.2 - t.2.2,t2.2.1 - t.2.1,rfl,_,rfl,_,rfl,_,_,rfl,rfl,_,rfl,_,_,rfl,rfl,m1,_,rfl,_,rfl,_,_,rfl,rfl,_,rfl,_,_,rfl,rfl,m2,_,_,rfl,rfl,((Nat.gcd (t2.2.2 - t.2.2).natAbs (t2.2.1 - t.2.1).natAbs:Nat):Int),(t2.2.2 - t.2.2) * t.2.1 - (t2.2.1 - t.2.1) * t.2.2,rfl,?_⟩
  obtain ⟨x,y,z,exyz,nxy,c1,c2,c3⟩:=zSx nn b1 b2 b3 b4
  have gz:=zTl nn
  rw [zO5] at exyz
  have gb:Nat.gcd (Nat.gcd (t2.2.2 - t.2.2).natAbs (t2.2.1 - t.2.1).natAbs) ((t2.2.2 - t.2.2) * t.2.1 - (t2.2.1 - t.2.1) * t.2.2).natAbs≤2 * 10 ^ 6:=zOj nn b1 b2 b3 b4
  have elow:=zO5 (u:=t.2) (v:=t2.2)
  rw [show Nat.gcd (((Nat.gcd (t2.2.2 - t.2.2).natAbs (t2.2.1 - t.2.1).natAbs:Nat):Int)).natAbs ((t2.2.2 - t.2.2) * t.2.1 - (t2.2.1 - t.2.1) * t.2.2).natAbs = Nat.gcd (Nat.gcd (t2.2.2 - t.2.2).natAbs (t2.2.1 - t.2.1).natAbs) ((t2.2.2 - t.2.2) * t.2.1 - (t2.2.1 - t.2.1) * t.2.2).natAbs by rw [Int.natAbs_natCast]]
  generalize Nat.gcd (Nat.gcd (t2.2.2 - t.2.2).natAbs (t2.2.1 - t.2.1).natAbs) ((t2.2.2 - t.2.2) * t.2.1 - (t2.2.1 - t.2.1) * t.2.2).natAbs = g at gz gb exyz elow ⊢
  have dv:∀ j:Int,zEs j (g:Int):=fun j=>zEs.of (by omega) (by omega)
  refine ⟨_,rfl,.inl ⟨rfl,_,SqL.of Pi.at'⟩,_,rfl,_,rfl,_,_,rfl,rfl,_,rfl,_,_,rfl,rfl,dv _,_,rfl,_,rfl,_,_,rfl,rfl,_,rfl,_,_,rfl,rfl,dv _,_,rfl,_,rfl,_,_,rfl,rfl,_,rfl,_,_,rfl,rfl,m1,_,rfl,_,rfl,_,_,rfl,rfl,_,rfl,_,_,rfl,rfl,m2,_,_,rfl,rfl,_,rfl,_,_,rfl,rfl,dv _,(by show 3≤sizeLine; decide),fun p hp=>?_⟩
  injection exyz with f1 exyz
  injection exyz with f2 exyz
  injection exyz with f3
  subst f1 f2 f3
  have sp:=zAe hp (.tup [.int ((t2.2.2 - t.2.2) / (g:Int)),.int ((t.2.1 - t2.2.1) / (g:Int)),.int (((t2.2.2 - t.2.2) * t.2.1 - (t2.2.1 - t.2.1) * t.2.2) / (g:Int))])
  refine ⟨D,_,_,rfl,rfl,sp _ _ Pi.at',zA3 (by rw [zAk]; omega),es ++ [(p,_,_,_)],by rw [List.length_append,nes]; rfl,Pi.app sp hp zAc nxy c1 c2 c3,?_,_,_,_,_,_,_,rfl⟩
  rw [List.map_append,mes,List.range_succ,List.map_append,List.map_cons,List.map_nil,List.map_cons,List.map_nil,zKj gt,lp,zKj gt2,elow]
  rfl
 ·rintro σ G ⟨es,nes,Pi,mes,u2,u3,u4,u5,u6,u7,rfl⟩
  rw [Int.toNat_natCast,nr] at mes
  refine ⟨_,rfl,q D es G Pi ?_⟩
  rw [mes]
  unfold zBp
  rw [lp]
theorem zI8.ne {vs:List (Int × Int)} (h:zI8 vs):∀ i < vs.length,atP vs i≠atP vs ((i + 1) % vs.length):=fun i hi z=>by
 have hlen:=h.len
 have hm2:(i + 2) % vs.length < vs.length:=Nat.mod_lt _ (by omega)
 have w0:=zNs h (i:=i) (k:=(i + 2) % vs.length) hi hm2 (by rw [wrap (by omega)]; split <;> omega) (by rw [wrap (by omega),wrap (a:=i + 1) (by omega)]; split <;> split <;> omega)
 rw [← z] at w0
 unfold crs at w0
 rw [Int.sub_self,Int.sub_self,Int.zero_mul,Int.zero_mul] at w0
 exact absurd w0 (by decide)
theorem zRi (ss es:List Sd):zAm ss ++ zAm es = zAm (ss ++ es):=by simp [zAm]
theorem SdOk.cat {H:Hp} {ss es:List Sd} (h:SdOk H ss) (h2:SdOk H es):SdOk H (ss ++ es):=fun t ht=>(List.mem_append.mp ht).elim (h t) (h2 t)
def zJ5 (K:PySem.W.Frag):Sp:=fun vs H Q _=>∃ (r:Addr) (rows:List Int),vs = [.ref r]∧H r = some (.lst (rows.map V.int))∧80≤rows.length∧rows.length≤600∧(∀ x∈rows,0≤x∧x < 1000003) ∧
 ∀ (T l c:Addr) (ss:List Sd) (ps:List Pr) (H':Hp),Same H H'→H' T = some (.tup [.ref l,.ref c])→H' l = some (.lst (zAm ss))→SdOk H' ss→ss.length≤40→H' c = some (.lst (zAo ps))→PrOk H' 10000 ps→zI8 (ps.map (·.2))→Q (.ref T) H'
theorem zOa (F:Fun K "_law_banked" "_law_banked" zGz f fd) (Z:Zs mg) (h_L_way:Has P w K mg base "_law_way" 1 ["_law_one", "_law_two", "_law_wide"] (zJa K)) (h_L_bank_rows:Has P w K mg base "_law_bank_rows" 2 ["_law_places"] (zE2 K)) (h_L_bank:Has P w K mg base "_law_bank" 3 ["_law_d", "_law_wide"] (zMq K)) (h_L_sides:Has P w K mg base "_law_sides" 3 ["_law_some", "_law_many_here"] (zLg K)) (h_L_tight:Has P w K mg base "_law_tight" 1 ["_law_some", "_law_sides_here"] (zLj K)) (h_L_many:Has P w K mg base "_law_many" 1 ["_law_one", "_law_two", "_law_few", "_law_most"] (zM3 K)):FnOk P w K mg base CX0 4 f fd ["_law_some"] (zJ5 K):=by
 refine F.ok zBw (fun vs H Q E h=>?_) (fun cdv A outer s H vs Q E hr h=>?_)
 ·obtain ⟨r,rows,rfl,_⟩:=h
  rfl
 obtain ⟨r,rows,rfl,er,l1,l2,bd,q⟩:=h
 refine ⟨_,(zAf (zAw (i:=1) zBw.nd rfl (Or.inl rfl) (zAh h_L_many (hr.mono (by decide)) rfl (zAa (zAn zAg (pv 0) zAb (fun _ _=>rfl)) (zAa (zAn zAg (pv 0) zAb (fun _ _=>rfl)) (zAa zAb (zAa zAb zAd))))))
   (zAf (zAw (i:=2) zBw.nd rfl (Or.inl rfl) (zAh h_L_tight (hr.mono (by decide)) rfl (zAa (zBy zCy (pv 0) (zCo zAb) zCn) (zAa (zAh h_L_sides (hr.mono (by decide)) rfl (zAa (zBy zCy (pv 0) (zCo zAb) zCn) (zAa (pv 1) zAd))) zAd))))
   (zAf (zA8 (zAu zCi (zAl zA7 (zAl zCu (zAn zAg (pv 0) zAb (fun _ _=>rfl)) zAb) zAb) zAb (zAz _)) (zAi (zAw (i:=2) zBw.nd rfl (Or.inl rfl) (zAl zEv (pv 2) (zC0 (T:=["_law_a", "_law_b", "_law_c"]) (caps:=[]) ⟨rfl,by decide +kernel,by decide +kernel,rfl,True.intro⟩ rfl (zCc (zAh h_L_sides (hr.mono (by decide)) rfl (zAa (zBy zCy (pv 0) (zCo zAb) zCn) (zAa zAb zAd)))) (fun _=>(zB5 rfl (zAs (zAq (i:=0) (show (["_law_a", "_law_b", "_law_c"]:List Str).Nodup by decide +kernel) rfl (Or.inl rfl)) (zAs (zAq (i:=1) (show (["_law_a", "_law_b", "_law_c"]:List Str).Nodup by decide +kernel) rfl (Or.inl rfl)) (zAs (zAq (i:=2) (show (["_law_a", "_law_b", "_law_c"]:List Str).Nodup by decide +kernel) rfl (Or.inl rfl)) zBf))))) (fun _=>zBl) (fun _=>(zA0 (zAa (pv 0) (zAa (pv 1) (zAa (zAl zBd (zAv zC5 rfl Z.abs zFd (zAa (pv 2) zAd)) zAb) zAd))))))))) zAx)
   (zAf (zAw (i:=3) zBw.nd rfl (Or.inl rfl) (zAh h_L_bank (hr.mono (by decide)) rfl (zAa (zBy zCy (pv 0) (zCo zAb) zCn) (zAa (zAn zAg (zBo (zAa zAb (zAa zAb (zAa zAb zAd)))) (zAl zA7 (zAn zAg (pv 0) zAb (fun _ _=>rfl)) zAb) (fun _ _=>rfl)) zAd))))
   (zAf (zA8 (zAu zCi (zAl zA7 (zAn zAg (pv 0) zAb (fun _ _=>rfl)) zAb) zAb (zAz _)) (zAi (zAw (i:=2) zBw.nd rfl (Or.inl rfl) (zAl zEv (zBy zCy (pv 2) zCn (zCo zAb)) (zBy zCy (zAh h_L_bank_rows (hr.mono (by decide)) rfl (zAa (pv 3) zAd)) (zCo (zAl zA7 (zAn zAg (pv 0) zAb (fun _ _=>rfl)) zAb)) zCn)))) zAx)
   (zAf (zA8 (zAu zCi (zAl zA7 (zAn zAg (pv 0) zAb (fun _ _=>rfl)) zAb) zAb (zAz _)) (zAf (zEw (zAn zAg (pv 3) (zAl zA7 (zAn zAg (pv 0) zAb (fun _ _=>rfl)) (zAv zA1 rfl Z.len zB9 (zAa (pv 3) zAd))) (fun _ _=>rfl)) (zB5 rfl (zAs (zAq (i:=4) zBw.nd rfl (Or.inl rfl)) (zAs (zAq (i:=5) zBw.nd rfl (Or.inl rfl)) zBf))))
   (zAf (zEw (zAh h_L_way (hr.mono (by decide)) rfl (zAa (zAn zAg (pv 0) zAb (fun _ _=>rfl)) (zAa (zAn zAg (pv 0) zAb (fun _ _=>rfl)) (zAa zAb zAd)))) (zB5 rfl (zAs (zAq (i:=6) zBw.nd rfl (Or.inl rfl)) (zAs (zAq (i:=7) zBw.nd rfl (Or.inl rfl)) zBf))))
   (zAi (zAw (i:=2) zBw.nd rfl (Or.inl rfl) (zAl zEv (zBy zCy (pv 2) zCn (zCo zAb)) (zBo (zAa (zA0 (zAa (pv 6) (zAa (pv 7) (zAa (zAl zA6 (zAl zBd (zAl zA2 (pv 6) (pv 4)) (zAl zA2 (pv 7) (pv 5))) (zAl zA7 (zAn zAg (pv 0) zAb (fun _ _=>rfl)) zAb)) zAd)))) zAd))))))) zAx)
   (zAi (zAr (zA0 (zAa (pv 2) (zAa (pv 3) zAd))))))))))),?_⟩
 obtain ⟨v0,a0,_⟩:=zCb bd (k:=0) (by decide) (by omega)
 obtain ⟨v1,a1,_⟩:=zCb bd (k:=1) (by decide) (by omega)
 obtain ⟨v72,a72,_⟩:=zCb bd (k:=72) (by decide) (by omega)
 obtain ⟨v73,a73,_⟩:=zCb bd (k:=73) (by decide) (by omega)
 obtain ⟨v74,a74,_⟩:=zCb bd (k:=74) (by decide) (by omega)
 obtain ⟨v75,a75,_⟩:=zCb bd (k:=75) (by decide) (by omega)
 obtain ⟨v76,a76,_⟩:=zCb bd (k:=76) (by decide) (by omega)
 obtain ⟨v77,a77,_⟩:=zCb bd (k:=77) (by decide) (by omega)
 have cutD:∀ k:Nat,k≤70→cutV (rows.map V.int) (some (k:Int)) none = (rows.drop k).map V.int:=fun k hk=>by
  rw [zKl,HT.sIx_nat rows.length 0 k,show min k rows.length = k by omega,show HT.sIx rows.length rows.length none = rows.length from rfl,List.take_of_length_le (by rw [List.length_drop]; omega)]
 have sq0:Sq K H r (rows.map V.int):=.inl (SqL.of er)
 refine ⟨_,rfl,r,_,_,_,rfl,rfl,sq0,a0,_,rfl,r,_,_,_,rfl,rfl,sq0,a1,v0,v1,6,12,rfl,by decide,by decide,fun mh mh0 mh1=>?_⟩
 apply cutS (ok:=fun D ss G=>Same H G∧G D = some (.lst (zAm ss))∧SdOk G ss∧ss.length≤24)
 ·intro main
  have sqr:SqL K H r (rows.map V.int):=SqL.of er
  refine ⟨_,rfl,_,rfl,r,_,rfl,sqr,fun c hc=>?_⟩
  rw [show cutV (rows.map V.int) (some 3) none = (rows.drop 3).map V.int from cutD 3 (by decide)]
  have sc:=zAe hc (.lst ((rows.drop 3).map V.int))
  have ec:upd H c (.lst ((rows.drop 3).map V.int)) c = some (.lst ((rows.drop 3).map V.int)):=zAc
  generalize upd H c (.lst ((rows.drop 3).map V.int)) = H2 at sc ec ⊢
  refine ⟨_,rfl,_,rfl,r,_,rfl,sc.seq sqr,fun d hd0=>?_⟩
  rw [show cutV (rows.map V.int) (some 2) none = (rows.drop 2).map V.int from cutD 2 (by decide)]
  have sd:=zAe hd0 (.lst ((rows.drop 2).map V.int))
  have ed:upd H2 d (.lst ((rows.drop 2).map V.int)) d = some (.lst ((rows.drop 2).map V.int)):=zAc
  generalize upd H2 d (.lst ((rows.drop 2).map V.int)) = H3 at sd ed ⊢
  refine ⟨_,rfl,d,rows.drop 2,mh,rfl,SqL.of ed,by omega,by omega,by rw [List.length_drop]; omega,by rw [List.length_drop]; omega,fun x hx=>bd x (List.mem_of_mem_drop hx),fun l0 ss0 G0 s0' hl0 el0 hn0 ok0 bnd0=>?_⟩
  refine ⟨c,l0,rows.drop 3,ss0,rfl,SqL.of (s0' _ _ (sd _ _ ec)),by rw [List.length_drop]; omega,fun x hx=>bd x (List.mem_of_mem_drop hx),el0,ok0,by omega,bnd0,fun l ss G1 s1' el hn ok bnd=>?_⟩
  have n12:ss.length≤12:=by omega
  have s1:=((sc.trans sd).trans s0').trans s1'
  have er1:=s1 _ _ er
  refine ⟨_,rfl,r,_,_,_,rfl,rfl,.inl (SqL.of er1),a1,_,_,rfl,rfl,zEs.of (by decide) (by decide +kernel),_,_,rfl,rfl,(by show (0:Int) < 24; decide),rfl,_,rfl,?_⟩
  refine ifE (fun _=>?_) (fun _=>?_)
  rotate_left
  ·exact main l ss G1 ⟨s1,el,ok,by omega⟩
  ·refine ⟨_,rfl,_,rfl,_,rfl,r,_,rfl,SqL.of er1,fun e he=>?_⟩
   rw [show cutV (rows.map V.int) (some 3) none = (rows.drop 3).map V.int from cutD 3 (by decide)]
   have se:=zAe he (.lst ((rows.drop 3).map V.int))
   have ee:upd G1 e (.lst ((rows.drop 3).map V.int)) e = some (.lst ((rows.drop 3).map V.int)):=zAc
   generalize upd G1 e (.lst ((rows.drop 3).map V.int)) = G2 at se ee ⊢
   refine ⟨e,rows.drop 3,12,rfl,SqL.of ee,by decide,by decide,by rw [List.length_drop]; omega,by rw [List.length_drop]; omega,fun x hx=>bd x (List.mem_of_mem_drop hx),fun l3 ss3 G3 s3' hl3 el3 hn3 ok3 bnd3=>?_⟩
   have n3:ss3.length = 12:=hn3
   refine ⟨l3,rfl,.inl ⟨⟨_,SqL.of el3⟩,fun cc D hD=>zBj (K:=K) (a:=l3) (xs:=zAm ss3) (fun i σ ys G=>∃ sa:List Sd,ys = zAm sa∧sa.length = i∧SdSt G3 D sa G∧∃ u0 u1 u2:Option V,σ = [u0,u1,u2])
    ⟨[],rfl,rfl,⟨zAe hD _,hD,zAc,(fun t ht=>nomatch ht)⟩,none,none,none,rfl⟩ (fun i σ ys G _ ⟨sa,e1,_,Pq,_⟩=>⟨SqL.of (Pq.same _ _ el3),by rw [e1]; exact Pq.at'⟩) ?_ ?_⟩⟩
   ·rintro i x σ ys Gc hi ⟨sa,rfl,na,Pc,u0,u1,u2,rfl⟩
    obtain ⟨t,gt,rfl,hil⟩:=zBu hi
    obtain ⟨et,nt,b1,b2,b3⟩:=ok3 t (List.mem_of_getElem? gt)
    have b4:=(bnd3 t (List.mem_of_getElem? gt)).2.2
    refine ⟨t.1,_,rfl,SqT.of (Pc.same _ _ et),rfl,.int t.2.1,_,rfl,.int t.2.2.1,_,rfl,.int t.2.2.2,_,rfl,rfl,?_⟩
    have nb:((if t.2.2.2 < 0 then -t.2.2.2 else t.2.2.2) + 40).natAbs≤10 ^ 13:=by
     clear b1 b2 b3 nt
     split <;> omega
    refine ⟨_,rfl,_,rfl,_,rfl,_,rfl,_,_,rfl,rfl,(by show 3≤sizeLine; decide),fun p hp=>?_⟩
    have sp:=zAe hp (.tup [.int t.2.1,.int t.2.2.1,.int ((if t.2.2.2 < 0 then -t.2.2.2 else t.2.2.2) + 40)])
    refine ⟨sp _ _ Pc.at',zA3 (by rw [zAk]; omega),sa ++ [(p,t.2.1,t.2.2.1,((if t.2.2.2 < 0 then -t.2.2.2 else t.2.2.2) + 40))],by simp [zAm],by rw [List.length_append,na]; rfl,Pc.app sp hp zAc nt b1 b2 nb,_,_,_,rfl⟩
   ·rintro σ ys Gc ⟨sa,rfl,na,Pc,u0,u1,u2,rfl⟩
    rw [zAk] at na
    have s13:=(se.trans s3').trans Pc.same
    refine ⟨l,D,_,_,rfl,rfl,s13 _ _ el,Pc.at',?_,fun A hA=>?_⟩
    ·rw [zAk,zAk]
     exact Nat.le_trans (show ss.length + sa.length≤1000 by omega) (by decide)
    have sA:Same Gc (upd Gc A (.lst (zAm ss ++ zAm sa))):=zAe hA _
    have eA:upd Gc A (.lst (zAm ss ++ zAm sa)) A = some (.lst (zAm (ss ++ sa))):=by rw [zAc,zRi]
    generalize upd Gc A (.lst (zAm ss ++ zAm sa)) = G5 at sA eA ⊢
    exact main A (ss ++ sa) G5 ⟨s1.trans (s13.trans sA),eA,SdOk.cat (ok.same (s13.trans sA)) (Pc.all.same sA),by rw [List.length_append]; omega⟩
 ·rintro L S G ⟨sG,eL,O,n24⟩
  have erG:=sG _ _ er
  refine ⟨_,rfl,_,rfl,r,_,rfl,SqL.of erG,fun c hc=>?_⟩
  rw [show cutV (rows.map V.int) (some 63) none = (rows.drop 63).map V.int from cutD 63 (by decide)]
  have sc:=zAe hc (.lst ((rows.drop 63).map V.int))
  have ec:upd G c (.lst ((rows.drop 63).map V.int)) c = some (.lst ((rows.drop 63).map V.int)):=zAc
  generalize upd G c (.lst ((rows.drop 63).map V.int)) = G1 at sc ec ⊢
  refine ⟨(by show 3≤sizeLine; decide),fun e he=>?_⟩
  have se:=zAe he (.lst [.int 2,.int 6,.int 30])
  have ee:upd G1 e (.lst [.int 2,.int 6,.int 30]) e = some (.lst [.int 2,.int 6,.int 30]):=zAc
  generalize upd G1 e (.lst [.int 2,.int 6,.int 30]) = G2 at se ee ⊢
  have s02:=sG.trans (sc.trans se)
  obtain ⟨wd,hw,hw1,hw2⟩:∃ b:Int,atI [V.int 2,V.int 6,V.int 30] (v72 % 3) = some (.int b)∧1≤b∧b≤100:=by
   have cc:v72 % 3 = 0∨v72 % 3 = 1∨v72 % 3 = 2:=by omega
   rcases cc with e | e | e
   ·exact ⟨2,by rw [e]; rfl,by decide,by decide⟩
   ·exact ⟨6,by rw [e]; rfl,by decide,by decide⟩
   ·exact ⟨30,by rw [e]; rfl,by decide,by decide⟩
  refine ⟨_,rfl,r,_,_,_,rfl,rfl,.inl (SqL.of (s02 _ _ er)),a72,_,_,rfl,rfl,(by show (0:Int) < 3; decide),e,_,_,.int wd,rfl,rfl,.inl (SqL.of ee),hw,c,rows.drop 63,wd,rfl,SqL.of (se _ _ ec),by rw [List.length_drop]; omega,fun x hx=>bd x (List.mem_of_mem_drop hx),hw1,hw2,fun lb ps G3 s3 hlb elb pkb hsh=>?_⟩
  have s03:=s02.trans s3
  have sG3:=(sc.trans se).trans s3
  have er3:=s03 _ _ er
  have eL3:=sG3 _ _ eL
  have O3:=O.same sG3
  have lens:=hsh.len
  rw [List.length_map] at lens
  have sq3:Sq K G3 r (rows.map V.int):=.inl (SqL.of er3)
  have ne:=zI8.ne hsh
  rw [List.length_map] at ne
  refine ⟨_,rfl,r,_,_,_,rfl,rfl,sq3,a73,_,_,rfl,rfl,(by show (0:Int) < 4; decide),rfl,_,rfl,?_⟩
  refine ifE (fun h1=>?_) (fun _=>?_)
  ·refine ⟨_,rfl,_,rfl,L,_,rfl,SqL.of eL3,fun e1 he1=>?_⟩
   rw [show cutV (zAm S) none (some 3) = zAm (S.take 3) from zKa S 3]
   have s4:=zAe he1 (.lst (zAm (S.take 3)))
   have ee1:upd G3 e1 (.lst (zAm (S.take 3))) e1 = some (.lst (zAm (S.take 3))):=zAc
   generalize upd G3 e1 (.lst (zAm (S.take 3))) = G4 at s4 ee1 ⊢
   refine ⟨_,rfl,lb,ps,rfl,SqL.of (s4 _ _ elb),(fun t ht=>?_),lens.2,ne,fun D es G5 P5 mes=>?_⟩
   ·obtain ⟨z1,z2,z3⟩:=pkb.same s4 t ht
    exact ⟨z1,Nat.le_trans z2 (by decide),Nat.le_trans z3 (by decide)⟩
   have s45:=s4.trans P5.same
   refine ⟨_,rfl,r,_,_,_,rfl,rfl,.inl (SqL.of (s45 _ _ er3)),a74,_,_,rfl,rfl,(by show (0:Int) < 3; decide),v74 % 3,rfl,D,_,rfl,SqL.of P5.at',fun e2 he2=>?_⟩
   obtain ⟨k,hk,hk3⟩:∃ k:Nat,v74 % 3 = (k:Int)∧k < 3:=⟨(v74 % 3).toNat,by omega,by omega⟩
   rw [hk]
   rw [show cutV (zAm es) (some (k:Int)) none = zAm (es.drop k) from zSv es k]
   have s6:=zAe he2 (.lst (zAm (es.drop k)))
   have ee2:upd G5 e2 (.lst (zAm (es.drop k))) e2 = some (.lst (zAm (es.drop k))):=zAc
   generalize upd G5 e2 (.lst (zAm (es.drop k))) = G6 at s6 ee2 ⊢
   have nes:es.length = ps.length:=by
    have z:=congrArg List.length mes
    unfold zBp at z
    rw [List.length_map,List.length_map,List.length_range,List.length_map] at z
    exact z
   have lt3:(S.take 3).length + (es.drop k).length≤40:=by rw [List.length_take,List.length_drop]; omega
   refine ⟨e1,e2,_,_,rfl,rfl,s6 _ _ (P5.same _ _ ee1),ee2,?_,fun A hA=>?_⟩
   ·rw [zAk,zAk]
    exact Nat.le_trans lt3 (by decide)
   have s7:Same G6 (upd G6 A (.lst (zAm (S.take 3) ++ zAm (es.drop k)))):=zAe hA _
   have eA:upd G6 A (.lst (zAm (S.take 3) ++ zAm (es.drop k))) A = some (.lst (zAm (S.take 3 ++ es.drop k))):=by rw [zAc,zRi]
   generalize upd G6 A (.lst (zAm (S.take 3) ++ zAm (es.drop k))) = G7 at s7 eA ⊢
   have s37:=(s45.trans s6).trans s7
   refine ⟨_,rfl,r,_,_,_,rfl,rfl,.inl (SqL.of (s37 _ _ er3)),a73,_,_,rfl,rfl,(by show (0:Int) < 4; decide),rfl,_,rfl,?_⟩
   refine ifE (fun h2=>absurd (h1.symm.trans h2) (by decide)) (fun _=>?_)
   refine ⟨_,rfl,_,rfl,(by show 2≤sizeLine; decide),fun T hT=>?_⟩
   have s8:=zAe hT (.tup [.ref A,.ref lb])
   have s38:=s37.trans s8
   exact q T A lb _ ps _ (s03.trans s38) zAc (s8 _ _ eA) (SdOk.cat (fun t ht=>O3.same s38 t (List.mem_of_mem_take ht)) (fun t ht=>P5.all.same ((s6.trans s7).trans s8) t (List.mem_of_mem_drop ht))) (by rw [List.length_append]; exact lt3) (s38 _ _ elb) (pkb.same s38) hsh
  ·refine ⟨_,rfl,r,_,_,_,rfl,rfl,sq3,a73,_,_,rfl,rfl,(by show (0:Int) < 4; decide),rfl,_,rfl,?_⟩
   refine ifE (fun h2=>?_) (fun _=>?_)
   ·have lp:(0:Int) < (((zAo ps).length:Nat):Int):=by rw [zAt]; omega
    have x0:=Int.emod_nonneg v74 (show (((zAo ps).length:Nat):Int)≠0 by omega)
    have x1:=Int.emod_lt_of_pos v74 lp
    obtain ⟨i,hi,hi2⟩:∃ i:Nat,v74 % (((zAo ps).length:Nat):Int) = (i:Int)∧i < ps.length:=by
     generalize v74 % (((zAo ps).length:Nat):Int) = z at x0 x1
     rw [zAt] at x1
     exact ⟨z.toNat,by omega,by omega⟩
    obtain ⟨t,mt,gt,at0⟩:=zF5 (ps:=ps) (i:=i) (k:=v74 % (((zAo ps).length:Nat):Int)) hi hi2
    obtain ⟨et,b1,b2⟩:=pkb t mt
    refine ⟨_,rfl,_,rfl,r,_,_,_,rfl,rfl,sq3,a74,_,rfl,lb,_,rfl,.inl (SqL.of elb),_,_,rfl,rfl,lp,lb,_,_,.ref t.1,rfl,rfl,.inl (SqL.of elb),at0,t.1,_,rfl,SqT.of et,rfl,.int t.2.1,_,rfl,.int t.2.2,_,rfl,rfl,?_⟩
    refine ⟨_,rfl,r,_,_,_,rfl,rfl,sq3,a75,_,rfl,r,_,_,_,rfl,rfl,sq3,a76,v75,v76,4,rfl,by decide,by decide,fun p x y G4 s4 hp ep nxy bx by'=>?_⟩
    have bx4:x.natAbs≤4:=bx
    have by4:y.natAbs≤4:=by'
    refine ⟨p,_,rfl,SqT.of ep,rfl,.int x,_,rfl,.int y,_,rfl,rfl,?_⟩
    have m1:=zAj x t.2.1 bx4 b1
    have m2:=zAj y t.2.2 by4 b2
    have bz:(x * t.2.1 + y * t.2.2 - v77 % 2).natAbs≤10 ^ 13:=by
     clear bx by' bx4 by4 nxy b1 b2 x0 x1 lp hi2 hi
     generalize x * t.2.1 = X at m1 ⊢
     generalize y * t.2.2 = Y at m2 ⊢
     omega
    have er4:=s4 _ _ er3
    refine ⟨_,rfl,_,rfl,L,_,rfl,SqL.of (s4 _ _ eL3),fun e1 he1=>?_⟩
    rw [show cutV (zAm S) none (some 2) = zAm (S.take 2) from zKa S 2]
    have s5:=zAe he1 (.lst (zAm (S.take 2)))
    have ee1:upd G4 e1 (.lst (zAm (S.take 2))) e1 = some (.lst (zAm (S.take 2))):=zAc
    generalize upd G4 e1 (.lst (zAm (S.take 2))) = G5 at s5 ee1 ⊢
    refine ⟨_,rfl,_,rfl,_,rfl,_,rfl,_,_,rfl,rfl,cm_l (by omega),_,rfl,_,rfl,_,_,rfl,rfl,cm_l (by omega),_,_,rfl,rfl,_,rfl,r,_,_,_,rfl,rfl,.inl (SqL.of (s5 _ _ er4)),a77,_,_,rfl,rfl,(by show (0:Int) < 2; decide),_,_,rfl,rfl,(by show 3≤sizeLine; decide),fun p2 hp2=>?_⟩
    have s6:=zAe hp2 (.tup [.int x,.int y,.int (x * t.2.1 + y * t.2.2 - v77 % 2)])
    have ep2:upd G5 p2 (.tup [.int x,.int y,.int (x * t.2.1 + y * t.2.2 - v77 % 2)]) p2 = some (.tup [.int x,.int y,.int (x * t.2.1 + y * t.2.2 - v77 % 2)]):=zAc
    generalize upd G5 p2 (.tup [.int x,.int y,.int (x * t.2.1 + y * t.2.2 - v77 % 2)]) = G6 at s6 ep2 ⊢
    refine ⟨(by show 1≤sizeLine; decide),fun e2 he2=>?_⟩
    have s7:=zAe he2 (.lst [.ref p2])
    have ee2:upd G6 e2 (.lst [.ref p2]) e2 = some (.lst (zAm [(p2,x,y,x * t.2.1 + y * t.2.2 - v77 % 2)])):=zAc
    generalize upd G6 e2 (.lst [.ref p2]) = G7 at s7 ee2 ⊢
    refine ⟨e1,e2,_,_,rfl,rfl,s7 _ _ (s6 _ _ ee1),ee2,?_,fun A hA=>?_⟩
    ·rw [zAk,zAk,List.length_take]
     exact Nat.le_trans (show min 2 S.length + 1≤1000 by omega) (by decide)
    have s8:Same G7 (upd G7 A (.lst (zAm (S.take 2) ++ zAm [(p2,x,y,x * t.2.1 + y * t.2.2 - v77 % 2)]))):=zAe hA _
    have eA:upd G7 A (.lst (zAm (S.take 2) ++ zAm [(p2,x,y,x * t.2.1 + y * t.2.2 - v77 % 2)])) A = some (.lst (zAm (S.take 2 ++ [(p2,x,y,x * t.2.1 + y * t.2.2 - v77 % 2)]))):=by rw [zAc,zRi]
    generalize upd G7 A (.lst (zAm (S.take 2) ++ zAm [(p2,x,y,x * t.2.1 + y * t.2.2 - v77 % 2)])) = G8 at s8 eA ⊢
    refine ⟨_,rfl,_,rfl,(by show 2≤sizeLine; decide),fun T hT=>?_⟩
    have s9:=zAe hT (.tup [.ref A,.ref lb])
    have s69:=(s7.trans s8).trans s9
    have s39:=((s4.trans s5).trans s6).trans s69
    exact q T A lb _ ps _ (s03.trans s39) zAc (s9 _ _ eA) (SdOk.cat (fun t ht=>O3.same s39 t (List.mem_of_mem_take ht)) (fun t ht=>by
     rw [List.mem_singleton] at ht
     subst ht
     exact ⟨s69 _ _ ep2,nxy,Nat.le_trans bx4 (by decide),Nat.le_trans by4 (by decide),bz⟩)) (by rw [List.length_append,List.length_take]; show min 2 S.length + 1≤40; omega) (s39 _ _ elb) (pkb.same s39) hsh
   ·refine ⟨_,rfl,_,rfl,(by show 2≤sizeLine; decide),fun T hT=>?_⟩
    have s8:=zAe hT (.tup [.ref L,.ref lb])
    exact q T L lb _ ps _ (s03.trans s8) zAc (s8 _ _ eL3) (O3.same s8) (by omega) (s8 _ _ elb) (pkb.same s8) hsh
def zIh (_:PySem.W.Frag):Sp:=fun vs H Q _=>∃ (x:Int),vs = [.int x]∧Q (.bl true) H
theorem zP9 (F:Fun K "_law_whole" "_law_whole" zIc f fd) (Z:Zs mg):FnOk P w K mg base CX0 1 f fd ["_law_found"] (zIh K):=by
 refine F.ok zP3 (fun vs H Q E h=>?_) (fun cdv A outer s H vs Q E hr h=>?_)
 ·obtain ⟨x,rfl,_⟩:=h
  rfl
 obtain ⟨x,rfl,q⟩:=h
 refine ⟨_,(zAi (zAr (zGa (zAv zCg rfl Z.isinstance zBr (zAa (pv 0) (zAa (zFx (v:=.ty "int") rfl Z.int bt_int rfl) zAd))) (zIx (zUx (zAv zCg rfl Z.isinstance zBr (zAa (pv 0) (zAa (zFx (v:=.ty "bool") rfl Z.bool zVv rfl) zAd)))))))),?_⟩
 refine ⟨_,rfl,_, "int", _,_,rfl,.int x,zOn K,_,rfl,iteT ?_⟩
 exact ⟨_,rfl,_, "bool", _,_,rfl,.int x,zMs K,_,rfl,q⟩
def zDw (_:PySem.W.Frag):Sp:=fun vs H Q _=>∃ (a:Addr) (ns:List Int) (m:Int),vs = [.ref a,.int m]∧H a = some (.tup (ns.map V.int))∧ns.length≤1000∧m = ns.length∧∀ H',Same H H'→Q (.bl true) H'
theorem zM2 (F:Fun K "_law_numbers" "_law_numbers" zFt f fd) (Z:Zs mg) (h_L_whole:Has P w K mg base "_law_whole" 1 ["_law_found"] (zIh K)):FnOk P w K mg base CX0 2 f fd ["_law_found", "_law_many_here"] (zDw K):=by
 refine F.ok zNf (fun vs H Q E h=>?_) (fun cdv A outer s H vs Q E hr h=>?_)
 ·obtain ⟨a,ns,m,rfl,_⟩:=h
  rfl
 obtain ⟨a,ns,m,rfl,ha,hl,hm,q⟩:=h
 refine ⟨_,(zAi (zAr (zGa (zAv zCg rfl Z.isinstance zBr (zAa (pv 0) (zAa (zFx (v:=.ty "tuple") rfl Z.tuple zJj rfl) zAd))) (zGa (zDo zCi (zAv zA1 rfl Z.len zB9 (zAa (pv 0) zAd)) (pv 1) (zAz _)) (zIx (zAv (zGc rfl) rfl Z.all zNb (zAa (zC0 (T:=["_law_one"]) (caps:=[]) ⟨rfl,by decide +kernel,by decide +kernel,rfl,True.intro⟩ rfl (zCc (pv 0)) (fun _=>(zAq (i:=0) (show (["_law_one"]:List Str).Nodup by decide +kernel) rfl (Or.inl rfl))) (fun _=>zBl) (fun _=>(zAh h_L_whole (hr.mono (by decide)) rfl (zAa (pv 0) zAd)))) zAd))))))),?_⟩
 refine ⟨_,rfl,_, "tuple", _,_,rfl,.tup ha,zB8 K,_,rfl,iteT ?_⟩
 refine ⟨_,rfl,a,_,rfl,.inr (SqT.of ha),_,rfl,rfl,_,rfl,?_⟩
 rw [decI (by rw [List.length_map,hm])]
 refine iteT ?_
 refine ⟨_,rfl,a,rfl,.inr ⟨⟨_,SqT.of ha⟩,fun c D hD=>zK2 (K:=K) (a:=a) (xs:=ns.map V.int) (fun i σ ys H'=>H' = upd H D (.lst ys)∧ys = (List.replicate i true).map V.bl∧i≤ns.length∧∃ u,σ = [u])
  ⟨rfl,rfl,Nat.zero_le _,none,rfl⟩ (fun i σ ys H' _ ⟨e,_⟩=>by rw [e]; exact ⟨SqT.same (SqT.of ha) (zAe hD _),zAc⟩) ?_ ?_⟩⟩
 ·rintro i x σ ys H' hi ⟨rfl,rfl,hil,u,rfl⟩
  obtain ⟨n,hn,rfl⟩:=zC2 hi
  have hin:i < ns.length:=(List.getElem?_eq_some_iff.mp hn).1
  refine ⟨_,rfl,n,rfl,zAc,zA3 (by rw [List.length_map,List.length_replicate]; omega),?_⟩
  refine ⟨zGq,?_,hin,_,rfl⟩
  rw [List.replicate_succ',List.map_append]
  rfl
 ·rintro σ ys H' ⟨rfl,rfl,hil,u,rfl⟩
  refine ⟨D,List.replicate (ns.map V.int).length true,rfl,SqL.of zAc,?_⟩
  rw [show (List.replicate (ns.map V.int).length true).all id = true from by simp]
  exact q _ (zAe hD _)
def zIw (_:PySem.W.Frag):Sp:=fun vs H Q _=>∃ (a:Addr) (x y w:Int),vs = [.ref a]∧H a = some (.tup [.int x,.int y,.int w])∧1≤w∧Nat.gcd (Nat.gcd x.natAbs y.natAbs) w.natAbs = 1∧∀ H',Same H H'→Q (.bl true) H'
theorem zM4 (F:Fun K "_law_is_spot" "_law_is_spot" zFo f fd) (Z:Zs mg) (h_L_low:Has P w K mg base "_law_low" 1 ["_law_one", "_law_other"] (zH5 K)) (h_L_numbers:Has P w K mg base "_law_numbers" 2 ["_law_found", "_law_many_here"] (zDw K)):FnOk P w K mg base CX0 3 f fd ["_law_found"] (zIw K):=by
 refine F.ok zNu (fun vs H Q E h=>?_) (fun cdv A outer s H vs Q E hr h=>?_)
 ·obtain ⟨a,x,y,w,rfl,_⟩:=h
  rfl
 obtain ⟨a,x,y,wt,rfl,ha,hy,hg,q⟩:=h
 refine ⟨_,(zAf (zA8 (PW.pt (zGw (zDd (zCv (zAh h_L_numbers (hr.mono (by decide)) rfl (zAa (pv 0) (zAa zAb zAd))))) (zEl (zAu zF4 (zAn zAg (pv 0) zAb (fun _ _=>rfl)) zAb (zAz _))))) (zAi (zAr zE3)) zAx)
   (zAi (zAr (zDo zCi (zAh h_L_low (hr.mono (by decide)) rfl (zAa (zAh h_L_low (hr.mono (by decide)) rfl (zAa (zAn zAg (pv 0) zAb (fun _ _=>rfl)) (zAa (zAn zAg (pv 0) zAb (fun _ _=>rfl)) zAd))) (zAa (zAn zAg (pv 0) zAb (fun _ _=>rfl)) zAd))) zAb (zAz _))))),?_⟩
 refine ⟨_,rfl,a,[x,y,wt],3,rfl,ha,by show 3≤1000; decide,rfl,fun H1 s1=>⟨true,rfl,?_⟩⟩
 have h1:=s1 _ _ ha
 refine iteF ?_
 refine ⟨_,rfl,a,_,_,.int wt,rfl,rfl,.inr (SqT.of h1),rfl,_,_,rfl,rfl,_,rfl,?_⟩
 refine ifD (fun z=>absurd z (by omega)) (fun _=>?_)
 refine ⟨_,rfl,a,_,_,.int x,rfl,rfl,.inr (SqT.of h1),rfl,_,rfl,a,_,_,.int y,rfl,rfl,.inr (SqT.of h1),rfl,x,y,rfl,_,rfl,a,_,_,.int wt,rfl,rfl,.inr (SqT.of h1),rfl,_,_,rfl,rfl,?_⟩
 rw [decI (by rw [Int.natAbs_natCast,hg]; rfl)]
 exact q _ s1
def WtLow (ws:List Wt):Prop:=ws.length≤100∧∀ u∈ws,u.2.2.2.1.natAbs≤10 ^ 40∧u.2.2.2.2.natAbs≤10 ^ 40∧Nat.gcd u.2.2.2.1.natAbs u.2.2.2.2.natAbs = 1
def PapN (H:Hp) (ss:List Sd) (T:Addr):Prop:=∃ (D:Addr) (cs:List Pr),H T = some (.tup [.str "none", .ref D])∧H D = some (.lst (zAo cs))∧PrAt H cs∧zF7 ss (cs.map (·.2)) = true
def PapC (H:Hp) (ss:List Sd) (vs:List (Int × Int)) (T:Addr):Prop:=∃ (d L:Addr) (X Y x:Int) (ws:List Wt),H T = some (.tup [.str "cannot", .ref d,.ref L])∧H d = some (.tup [.int X,.int Y])∧(X≠0∨Y≠0)∧X.natAbs≤10 ^ 40∧Y.natAbs≤10 ^ 40∧H L = some (.lst (zDk ws))∧WtAt H ws∧WtLow ws ∧
 zFc ss (X,Y,0) (wtN ws) = some (x,1)∧∀ v∈vs,x < X * v.1 + Y * v.2
def PapB (H:Hp) (ss:List Sd) (vs:List (Int × Int)) (T:Addr):Prop:=∃ (p1 p2:Addr) (P1 P2:P3),H T = some (.tup [.str "can", .ref p1,.ref p2])∧SpAt H p1 P1∧SpAt H p2 P2∧inW ss P1∧(∀ e∈zBp vs,sv e P1≤0)∧inW ss P2∧∃ e∈zBp vs,0 < sv e P2
def PapM (H:Hp) (ss:List Sd) (vs:List (Int × Int)) (T:Addr):Prop:=∃ (W:Addr) (tl:List (Addr × List Wt)),H T = some (.tup [.str "must", .ref W])∧H W = some (.lst (zF6 tl))∧tl.length = vs.length∧(∀ u∈tl,H u.1 = some (.lst (zDk u.2))∧WtAt H u.2∧WtLow u.2) ∧
 ∀ (j:Nat) (u:Addr × List Wt) (e:P3),tl[j]? = some u→(zBp vs)[j]? = some e→∃ x y:Int,zFc ss e (wtN u.2) = some (x,y)∧x≤e.2.2 * y
def zOc (H:Hp) (ss:List Sd) (vs:List (Int × Int)) (T:Addr):Prop:=PapN H ss T∨PapC H ss vs T∨PapB H ss vs T∨PapM H ss vs T
theorem zOc.same {H H':Hp} {ss:List Sd} {vs:List (Int × Int)} {T:Addr} (h:zOc H ss vs T) (s:Same H H'):zOc H' ss vs T:=by
 rcases h with ⟨D,cs,h1,h2,h3,h4⟩ | ⟨d,L,X,Y,x,ws,h1,h2,h3,h4,h5,h6,h7,h8⟩ | ⟨p1,p2,P1,P2,h1,h2,h3,h4⟩ | ⟨W,tl,h1,h2,h3,h4,h5⟩
 ·exact .inl ⟨D,cs,s _ _ h1,s _ _ h2,h3.same s,h4⟩
 ·exact .inr (.inl ⟨d,L,X,Y,x,ws,s _ _ h1,s _ _ h2,h3,h4,h5,s _ _ h6,h7.same s,h8⟩)
 ·exact .inr (.inr (.inl ⟨p1,p2,P1,P2,s _ _ h1,⟨s _ _ h2.1,h2.2⟩,⟨s _ _ h3.1,h3.2⟩,h4⟩))
 ·exact .inr (.inr (.inr ⟨W,tl,s _ _ h1,s _ _ h2,h3,fun u hu=>⟨s _ _ (h4 u hu).1,(h4 u hu).2.1.same s,(h4 u hu).2.2⟩,h5⟩))
def zHf (_:PySem.W.Frag):Sp:=fun vs H Q _=>∃ (T:Addr) (ss:List Sd) (us:List (Int × Int)),vs = [.ref T]∧zOc H ss us T∧∀ H',Same H H'→Q (.bl true) H'
theorem zLc (F:Fun K "_law_word_kind" "_law_word_kind" zD8 f fd) (Z:Zs mg) (h_L_is_spot:Has P w K mg base "_law_is_spot" 3 ["_law_found"] (zIw K)) (h_L_numbers:Has P w K mg base "_law_numbers" 2 ["_law_found", "_law_many_here"] (zDw K)):FnOk P w K mg base CX0 4 f fd ["_law_told"] (zHf K):=by
 refine F.ok zLd (fun vs H Q E h=>?_) (fun cdv A outer s H vs Q E hr h=>?_)
 ·obtain ⟨T,ss,us,rfl,_⟩:=h
  rfl
 obtain ⟨T,ss,us,rfl,h,q⟩:=h
 have hu:=hr.units0
 refine ⟨_,(zAf (zA8 (PW.pt (zGw (zDd (zCv (zAv zCg rfl Z.isinstance zBr (zAa (pv 0) (zAa (zFx (v:=.ty "tuple") rfl Z.tuple zJj rfl) zAd))))) (zEl (zAu zF4 (zAv zA1 rfl Z.len zB9 (zAa (pv 0) zAd)) zAb (zAz _))))) (zAi (zAr zE3)) zAx)
   (zAf (zA8 (zAu zCi (zAn zAg (pv 0) zAb (fun _ _=>rfl)) zDc (zAz _)) (zAi (zAr (zDo zCi (zAv zA1 rfl Z.len zB9 (zAa (pv 0) zAd)) zAb (zAz _)))) zAx)
   (zAf (zA8 (PW.pt (zGb (zAu zCi (zAn zAg (pv 0) zAb (fun _ _=>rfl)) zDc (zAz _)) (zEp (zAu zCi (zAv zA1 rfl Z.len zB9 (zAa (pv 0) zAd)) zAb (zAz _))))) (zAi (zAr (zGa (zAh h_L_numbers (hr.mono (by decide)) rfl (zAa (zAn zAg (pv 0) zAb (fun _ _=>rfl)) (zAa zAb zAd))) (zGa (zAv zCg rfl Z.isinstance zBr (zAa (zAn zAg (pv 0) zAb (fun _ _=>rfl)) (zAa (zFx (v:=.ty "list") rfl Z.list zGn rfl) zAd))) (zIx (zDo (op_neT hu) (zAn zAg (pv 0) zAb (fun _ _=>rfl)) (zA0 (zAa zAb (zAa zAb zAd))) (zAz _))))))) zAx)
   (zAf (zA8 (zAu zCi (zAn zAg (pv 0) zAb (fun _ _=>rfl)) zDc (zAz _)) (zAi (zAr (zGa (zDo zCi (zAv zA1 rfl Z.len zB9 (zAa (pv 0) zAd)) zAb (zAz _)) (zIx (zAv zCg rfl Z.isinstance zBr (zAa (zAn zAg (pv 0) zAb (fun _ _=>rfl)) (zAa (zFx (v:=.ty "list") rfl Z.list zGn rfl) zAd))))))) zAx)
   (zAi (zAr (zGa (zDo zCi (zAn zAg (pv 0) zAb (fun _ _=>rfl)) zDc (zAz _)) (zGa (zDo zCi (zAv zA1 rfl Z.len zB9 (zAa (pv 0) zAd)) zAb (zAz _)) (zGa (zAh h_L_is_spot (hr.mono (by decide)) rfl (zAa (zAn zAg (pv 0) zAb (fun _ _=>rfl)) zAd)) (zIx (zAh h_L_is_spot (hr.mono (by decide)) rfl (zAa (zAn zAg (pv 0) zAb (fun _ _=>rfl)) zAd)))))))))))),?_⟩
 rcases h with ⟨D,cs,et,_⟩ | ⟨d,L,X,Y,x,ws,et,ed,nd,_,_,eL,_⟩ | ⟨p1,p2,P1,P2,et,ep1,ep2,_⟩ | ⟨W,tl,et,eW,_⟩
 ·show _
  refine ⟨_,rfl,_, "tuple", _,_,rfl,.tup et,zB8 K,_,rfl,?_⟩
  refine iteF ?_
  have e1:Sq K H T [.str "none", .ref D]:=.inr (SqT.of et)
  refine ⟨_,rfl,T,_,rfl,e1,_,_,rfl,rfl,_,rfl,?_⟩
  refine iteF ?_
  refine ⟨_,rfl,T,_,_,.str "none", rfl,rfl,e1,rfl,rfl,_,rfl,?_⟩
  refine ifSt ?_
  exact ⟨_,rfl,T,_,rfl,e1,rfl,q _ (Same.refl _)⟩
 ·show _
  refine ⟨_,rfl,_, "tuple", _,_,rfl,.tup et,zB8 K,_,rfl,?_⟩
  refine iteF ?_
  have e1:Sq K H T [.str "cannot", .ref d,.ref L]:=.inr (SqT.of et)
  refine ⟨_,rfl,T,_,rfl,e1,_,_,rfl,rfl,_,rfl,?_⟩
  refine iteF ?_
  refine ⟨_,rfl,T,_,_,.str "cannot", rfl,rfl,e1,rfl,rfl,_,rfl,?_⟩
  refine ifSf (by decide) ?_
  refine ⟨_,rfl,T,_,_,.str "cannot", rfl,rfl,e1,rfl,rfl,_,rfl,?_⟩
  refine ifSt ?_
  refine ⟨_,rfl,T,_,rfl,e1,rfl,_,rfl,?_⟩
  refine iteT ?_
  refine ⟨_,rfl,T,_,_,.ref d,rfl,rfl,e1,rfl,d,[X,Y],2,rfl,ed,(by show 2≤1000; decide),rfl,fun H1 s1=>?_⟩
  refine ⟨_,rfl,?_⟩
  refine iteT ?_
  have e2:=e1.same s1
  refine ⟨_,rfl,T,_,_,.ref L,rfl,rfl,e2,rfl,_, "list", _,_,rfl,.lst (s1 _ _ eL),zD6 K,_,rfl,?_⟩
  refine iteT ?_
  refine ⟨_,rfl,T,_,_,.ref d,rfl,rfl,e2,rfl,(by show 2≤sizeLine; decide),fun z hz=>?_⟩
  have sz:=zAe hz (.tup [.int 0,.int 0])
  refine ⟨d,z,[X,Y],[0,0],rfl,rfl,SqT.of (sz _ _ (s1 _ _ ed)),SqT.of zAc,?_⟩
  have hne:decide ([X,Y] = [(0:Int),0]) = false:=decide_eq_false fun z=>by
   injection z with z1 z2
   injection z2 with z2
   omega
  rw [hne]
  exact q _ (s1.trans sz)
 ·show _
  refine ⟨_,rfl,_, "tuple", _,_,rfl,.tup et,zB8 K,_,rfl,?_⟩
  refine iteF ?_
  have e1:Sq K H T [.str "can", .ref p1,.ref p2]:=.inr (SqT.of et)
  refine ⟨_,rfl,T,_,rfl,e1,_,_,rfl,rfl,_,rfl,?_⟩
  refine iteF ?_
  refine ⟨_,rfl,T,_,_,.str "can", rfl,rfl,e1,rfl,rfl,_,rfl,?_⟩
  refine ifSf (by decide) ?_
  refine ⟨_,rfl,T,_,_,.str "can", rfl,rfl,e1,rfl,rfl,_,rfl,?_⟩
  refine ifSf (by decide) ?_
  refine iteF ?_
  refine ⟨_,rfl,T,_,_,.str "can", rfl,rfl,e1,rfl,rfl,_,rfl,?_⟩
  refine ifSf (by decide) ?_
  refine ⟨_,rfl,T,_,_,.str "can", rfl,rfl,e1,rfl,rfl,_,rfl,?_⟩
  refine ifSt ?_
  refine ⟨_,rfl,T,_,rfl,e1,rfl,_,rfl,?_⟩
  refine iteT ?_
  refine ⟨_,rfl,T,_,_,.ref p1,rfl,rfl,e1,rfl,p1,P1.1,P1.2.1,P1.2.2,rfl,ep1.1,by have:=ep1.2.1; omega,ep1.2.2,fun H1 s1=>?_⟩
  refine ⟨_,rfl,?_⟩
  refine iteT ?_
  exact ⟨_,rfl,T,_,_,.ref p2,rfl,rfl,e1.same s1,rfl,p2,P2.1,P2.2.1,P2.2.2,rfl,s1 _ _ ep2.1,by have:=ep2.2.1; omega,ep2.2.2,fun H2 s2=>q _ (s1.trans s2)⟩
 ·show _
  refine ⟨_,rfl,_, "tuple", _,_,rfl,.tup et,zB8 K,_,rfl,?_⟩
  refine iteF ?_
  have e1:Sq K H T [.str "must", .ref W]:=.inr (SqT.of et)
  refine ⟨_,rfl,T,_,rfl,e1,_,_,rfl,rfl,_,rfl,?_⟩
  refine iteF ?_
  refine ⟨_,rfl,T,_,_,.str "must", rfl,rfl,e1,rfl,rfl,_,rfl,?_⟩
  refine ifSf (by decide) ?_
  refine ⟨_,rfl,T,_,_,.str "must", rfl,rfl,e1,rfl,rfl,_,rfl,?_⟩
  refine ifSf (by decide) ?_
  refine iteF ?_
  refine ⟨_,rfl,T,_,_,.str "must", rfl,rfl,e1,rfl,rfl,_,rfl,?_⟩
  refine ifSt ?_
  refine ⟨_,rfl,T,_,rfl,e1,rfl,_,rfl,?_⟩
  refine iteT ?_
  exact ⟨_,rfl,T,_,_,.ref W,rfl,rfl,e1,rfl,_, "list", _,_,rfl,.lst eW,zD6 K,q _ (Same.refl _)⟩
def zId (K:PySem.W.Frag):Sp:=fun vs H Q _=>∃ (l D:Addr) (ss:List Sd) (cs:List Pr),vs = [.ref l,.ref D]∧H l = some (.lst (zAm ss))∧SdOk H ss∧ss.length≤900∧H D = some (.lst (zAo cs))∧PrAt H cs ∧
 ∀ (b:Bool) (H':Hp),Same H H'→zF7 ss (cs.map (·.2)) = b→Q (.bl b) H'
theorem zL5 (F:Fun K "_law_is_clash" "_law_is_clash" zEx f fd) (Z:Zs mg) (h_L_numbers:Has P w K mg base "_law_numbers" 2 ["_law_found", "_law_many_here"] (zDw K)):FnOk P w K mg base CX0 3 f fd ["_law_sides_here", "_law_paper"] (zId K):=by
 refine F.ok zBq (fun vs H Q E h=>?_) (fun cdv A outer s H vs Q E hr h=>?_)
 ·obtain ⟨l,D,ss,cs,rfl,_⟩:=h
  rfl
 obtain ⟨l,D,ss,cs,rfl,el,ok,hlen,eD,okc,q⟩:=h
 have hu:=hr.units0
 have nm:(cs.map (·.2)).length = cs.length:=List.length_map _
 have nr:=zAt cs
 refine ⟨_,(zAf (zA8 (PW.pt (zGw (zDd (zCv (zAv zCg rfl Z.isinstance zBr (zAa (pv 1) (zAa (zFx (v:=.ty "list") rfl Z.list zGn rfl) zAd))))) (zEl (zDd (zMh zT2 zT2 zAb (zAv zA1 rfl Z.len zB9 (zAa (pv 1) zAd)) zAb))))) (zAi (zAr zE3)) zAx)
   (zAf (zAw (i:=2) zBq.nd rfl (Or.inl rfl) (zB6 zBc zAb))
   (zAf (zAw (i:=3) zBq.nd rfl (Or.inl rfl) (zA0 (zAa zAb (zAa zAb (zAa zAb zAd)))))
   (zAf (zCz PassesOwn.never rfl (zCc (pv 1)) (zAq (i:=4) zBq.nd rfl (Or.inl rfl)) (zAf (zA8 (PW.pt (zGw (zDd (zCv (zAh h_L_numbers (hr.mono (by decide)) rfl (zAa (pv 4) (zAa zAb zAd))))) (zGw (zDd (zMh zF4 zF4 (pv 2) (zAn zAg (pv 4) zAb (fun _ _=>rfl)) (zAv zA1 rfl Z.len zB9 (zAa (pv 0) zAd)))) (zEl (zAu zF4 (zAn zAg (pv 4) zAb (fun _ _=>rfl)) zAb (zAz _)))))) (zAi (zAr zE3)) zAx)
   (zAf (zAw (i:=2) zBq.nd rfl (Or.inl rfl) (zAn zAg (pv 4) zAb (fun _ _=>rfl)))
   (zAf (zEw (zAn zAg (pv 0) (zAn zAg (pv 4) zAb (fun _ _=>rfl)) (fun _ _=>rfl)) (zB5 rfl (zAs (zAq (i:=5) zBq.nd rfl (Or.inl rfl)) (zAs (zAq (i:=6) zBq.nd rfl (Or.inl rfl)) (zAs (zAq (i:=7) zBq.nd rfl (Or.inl rfl)) zBf)))))
   (zAi (zAw (i:=3) zBq.nd rfl (Or.inl rfl) (zA0 (zAa (zAl zBd (zAn zAg (pv 3) zAb (fun _ _=>rfl)) (zAl zA2 (zAn zAg (pv 4) zAb (fun _ _=>rfl)) (pv 5))) (zAa (zAl zBd (zAn zAg (pv 3) zAb (fun _ _=>rfl)) (zAl zA2 (zAn zAg (pv 4) zAb (fun _ _=>rfl)) (pv 6))) (zAa (zAl zBd (zAn zAg (pv 3) zAb (fun _ _=>rfl)) (zAl zA2 (zAn zAg (pv 4) zAb (fun _ _=>rfl)) (pv 7))) zAd))))))))))
   (zAi (zAr (zGa (zDo (zUz hu) (zBy sl_tup (pv 3) zCn (zCo zAb)) (zA0 (zAa zAb (zAa zAb zAd))) (zAz _)) (zIx (zDo zF4 (zAn zAg (pv 3) zAb (fun _ _=>rfl)) zAb (zAz _)))))))))),?_⟩
 refine ⟨_,rfl,_, "list", _,_,rfl,.lst eD,zD6 K,_,rfl,?_⟩
 refine iteF ?_
 refine ⟨_,rfl,D,_,rfl,.inl (SqL.of eD),_,_,rfl,rfl,_,rfl,?_⟩
 refine ifD (fun l2=>?_) (fun l2=>?_)
 rotate_left
 ·refine ⟨_,rfl,?_⟩
  refine iteT ?_
  refine q false H (Same.refl _) ?_
  unfold zF7
  rw [decide_eq_false (by omega)]
  rfl
 refine ⟨_,_,rfl,rfl,_,rfl,?_⟩
 refine ifN (fun l3=>?_) (fun l3=>?_)
 ·refine q false H (Same.refl _) ?_
  unfold zF7
  rw [decide_eq_false (p:=(cs.map (·.2)).length≤3) (by omega),Bool.false_and,Bool.and_false]
 have hc:zF7 ss (cs.map (·.2)) = goB ss (cs.map (·.2)) (-1) (0,0,0):=by
  unfold zF7
  rw [decide_eq_true (by omega),decide_eq_true (p:=(cs.map (·.2)).length≤3) (by omega),Bool.true_and,Bool.true_and]
 refine ⟨_,rfl,?_⟩
 refine ⟨(by show 3≤sizeLine; decide),fun t0 ht0=>?_⟩
 have st0:Same H (upd H t0 (.tup [.int 0,.int 0,.int 0])):=zAe ht0 _
 have et0:upd H t0 (.tup [.int 0,.int 0,.int 0]) t0 = some (.tup [.int 0,.int 0,.int 0]):=zAc
 generalize upd H t0 (.tup [.int 0,.int 0,.int 0]) = H1 at st0 et0 ⊢
 refine ⟨_,rfl,D,rfl,.inl ⟨⟨_,SqL.of (st0 _ _ eD)⟩,zCt (K:=K) (a:=D) (xs:=zAo cs) (fun i σ H'=>Same H H'∧∃ (last:Int) (T:P3) (ta:Addr) (u4 u5 u6 u7:Option V),-1≤last∧H' ta = some (.tup [.int T.1,.int T.2.1,.int T.2.2])∧goB ss ((cs.map (·.2)).drop i) last T = goB ss (cs.map (·.2)) (-1) (0,0,0)∧σ = [some (.ref l),some (.ref D),some (.int last),some (.ref ta),u4,u5,u6,u7])
  ⟨st0,-1,(0,0,0),t0,none,none,none,none,Int.le_refl _,et0,rfl,rfl⟩ (fun i σ H' _ ⟨e1,_⟩=>SqL.of (e1 _ _ eD)) ?_ ?_⟩⟩
 ·rintro i v σ H' hi ⟨sH,last,T,ta,u4,u5,u6,u7,hl1,et,hg,rfl⟩
  rw [List.getElem?_map,List.getElem?_map] at hi
  cases gc:cs[i]? with
  | none=>rw [gc] at hi; cases hi
  | some c =>
   rw [gc] at hi
   cases hi
   have ec:=sH _ _ (okc c (List.mem_of_getElem? gc))
   have hil:i < cs.length:=(List.getElem?_eq_some_iff.mp gc).1
   have dr:(cs.map (·.2)).drop i = (c.2.1,c.2.2) :: (cs.map (·.2)).drop (i + 1):=by
    rw [List.drop_eq_getElem_cons (by omega)]
    congr 1
    rw [List.getElem_map]
    have z:=(List.getElem?_eq_some_iff.mp gc).2
    rw [z]
   rw [dr] at hg
   have bad:¬ (last < c.2.1∧c.2.1 < ss.length∧1≤c.2.2)→∀ H2,Same H' H2→Q (.bl false) H2:=fun hb H2 s2=>q false H2 (sH.trans s2) (by rw [hc,← hg]; exact zVf hb)
   refine ⟨_,rfl,c.1,[c.2.1,c.2.2],2,rfl,ec,(by show 2≤1000; decide),rfl,fun H2 s2=>?_⟩
   refine ⟨_,rfl,?_⟩
   refine iteF ?_
   have ec2:Sq K H2 c.1 [.int c.2.1,.int c.2.2]:=.inr (SqT.of (s2 _ _ ec))
   have sH2:=sH.trans s2
   refine ⟨_,rfl,_,rfl,c.1,_,_,.int c.2.1,rfl,rfl,ec2,rfl,_,_,rfl,rfl,_,rfl,?_⟩
   refine ifD (fun g1=>?_) (fun g1=>?_)
   rotate_left
   ·refine ⟨_,rfl,?_⟩
    refine iteT ?_
    exact bad (fun z=>g1 z.1) _ s2
   refine ⟨_,rfl,l,_,rfl,.inl (SqL.of (sH2 _ _ el)),_,_,rfl,rfl,_,rfl,?_⟩
   refine ifN (fun g2=>?_) (fun g2=>?_)
   ·exact bad (fun z=>g2 (by rw [zAk]; exact z.2.1)) _ s2
   rw [zAk] at g2
   refine ⟨_,rfl,c.1,_,_,.int c.2.2,rfl,rfl,ec2,rfl,_,_,rfl,rfl,_,rfl,?_⟩
   refine ifD (fun g3=>?_) (fun g3=>?_)
   ·exact bad (fun z=>by omega) _ s2
   refine ⟨_,rfl,c.1,_,_,.int c.2.1,rfl,rfl,ec2,rfl,?_⟩
   obtain ⟨t,mt,gt,att⟩:=zBg (ss:=ss) (i:=c.2.1.toNat) (k:=c.2.1) (by omega) (by omega)
   obtain ⟨ett,_,b1,b2,b3⟩:=ok t mt
   refine ⟨_,rfl,_,rfl,c.1,_,_,.int c.2.1,rfl,rfl,ec2,rfl,l,_,_,_,rfl,rfl,.inl (SqL.of (sH2 _ _ el)),att,t.1,_,rfl,SqT.of (sH2 _ _ ett),rfl,.int t.2.1,_,rfl,.int t.2.2.1,_,rfl,.int t.2.2.2,_,rfl,rfl,?_⟩
   have et2:Sq K H2 ta [.int T.1,.int T.2.1,.int T.2.2]:=.inr (SqT.of (s2 _ _ et))
   refine ⟨_,rfl,ta,_,_,.int T.1,rfl,rfl,et2,rfl,_,rfl,c.1,_,_,.int c.2.2,rfl,rfl,ec2,rfl,_,rfl,_,_,rfl,rfl,.inr ⟨by omega,by omega⟩,_,_,rfl,rfl,
    _,rfl,ta,_,_,.int T.2.1,rfl,rfl,et2,rfl,_,rfl,c.1,_,_,.int c.2.2,rfl,rfl,ec2,rfl,_,rfl,_,_,rfl,rfl,.inr ⟨by omega,by omega⟩,_,_,rfl,rfl,
    _,rfl,ta,_,_,.int T.2.2,rfl,rfl,et2,rfl,_,rfl,c.1,_,_,.int c.2.2,rfl,rfl,ec2,rfl,_,rfl,_,_,rfl,rfl,.inr ⟨by omega,by omega⟩,_,_,rfl,rfl,(by show 3≤sizeLine; decide),fun T2 hT2=>?_⟩
   refine ⟨sH2.trans (zAe hT2 _),c.2.1,(T.1 + c.2.2 * t.2.1,T.2.1 + c.2.2 * t.2.2.1,T.2.2 + c.2.2 * t.2.2.2),T2,_,_,_,_,by omega,zAc,?_,rfl⟩
   rw [← hg,zFs g1 g2 (by omega) gt]
 ·rintro σ H' ⟨sH,last,T,ta,u4,u5,u6,u7,hl1,et,hg,rfl⟩
  rw [nr,List.drop_of_length_le (by omega)] at hg
  refine ⟨_,rfl,2,rfl,ta,[.int T.1,.int T.2.1,.int T.2.2],rfl,SqT.of et,(fun h=>absurd (show HT.sIx 3 3 (some 2) = 3 from h.2) (by decide)),fun d1 hd1=>?_⟩
  have sd1:=zAe hd1 (.tup (cutV [.int T.1,.int T.2.1,.int T.2.2] none (some 2)))
  refine ⟨(by show 2≤sizeLine; decide),fun d2 hd2=>?_⟩
  have sd2:=zAe hd2 (.tup [.int 0,.int 0])
  refine ⟨d1,d2,[T.1,T.2.1],[0,0],rfl,rfl,SqT.of (sd2 _ _ zAc),SqT.of zAc,_,rfl,?_⟩
  refine ifD (fun h0=>?_) (fun h0=>?_)
  ·refine ⟨_,rfl,ta,_,_,.int T.2.2,rfl,rfl,.inr (SqT.of (sd2 _ _ (sd1 _ _ et))),rfl,_,_,rfl,rfl,?_⟩
   refine q _ _ (sH.trans (sd1.trans sd2)) ?_
   rw [hc,← hg,goB,decide_eq_true h0,Bool.true_and]
  ·refine q _ _ (sH.trans (sd1.trans sd2)) ?_
   rw [hc,← hg,goB,decide_eq_false h0,Bool.false_and]
theorem mB {i:Int} (h:i.natAbs≤10 ^ 100):i.natAbs < 2 ^ 4096:=Nat.lt_of_le_of_lt h (by decide +kernel)
theorem mB2 {i:Int} (h:i.natAbs≤10 ^ 100 * 10 ^ 100):i.natAbs < 2 ^ 4096:=Nat.lt_of_le_of_lt h (by decide +kernel)
def zKc (K:PySem.W.Frag):Sp:=fun vs H Q _=>∃ (a b:Addr) (o:Int × Int) (p q n:Int),vs = [.ref a,.ref b,.int n]∧SqT K H a [.int o.1,.int o.2]∧SqT K H b [.int p,.int q]∧o.1.natAbs≤10 ^ 100∧o.2.natAbs≤10 ^ 100∧p.natAbs≤10 ^ 100∧q.natAbs≤10 ^ 100∧n.natAbs≤10 ^ 100 ∧
 ∀ (r:Addr) (H':Hp),Same H H'→H r = none→H' r = some (.tup [.int (sumW o p q n).1,.int (sumW o p q n).2])→Q (.ref r) H'
theorem zOq (F:Fun K "_law_summed" "_law_summed" zG2 f fd) (Z:Zs mg)  : FnOk P w K mg base CX0 1 f fd ["_law_one", "_law_weight", "_law_number"] (zKc K):=by
 refine F.ok zOf (fun vs H Q E h=>?_) (fun cdv A outer s H vs Q E hr h=>?_)
 ·obtain ⟨a,b,o,p,q,n,rfl,_⟩:=h
  rfl
 obtain ⟨a,b,o,p,q',n,rfl,ha,hb,m1,m2,m3,m4,m5,q⟩:=h
 have z:=zAj n p m5 m3
 refine ⟨_,(zAi (zAr (zA0 (zAa (zAl zBd (zAl zGs (zAn zAg (pv 0) zAb (fun _ _=>rfl)) (zAn zAg (pv 1) zAb (fun _ _=>rfl))) (zAl zGs (zAl zGs (pv 2) (zAn zAg (pv 1) zAb (fun _ _=>rfl))) (zAn zAg (pv 0) zAb (fun _ _=>rfl)))) (zAa (zAl zGs (zAn zAg (pv 0) zAb (fun _ _=>rfl)) (zAn zAg (pv 1) zAb (fun _ _=>rfl))) zAd))))),?_⟩
 refine ⟨_,rfl,a,_,_,.int o.1,rfl,rfl,.inr ha,rfl,_,rfl,b,_,_,.int q',rfl,rfl,.inr hb,rfl,_,_,rfl,rfl,⟨mB m1,mB m4⟩,
  _,rfl,_,rfl,b,_,_,.int p,rfl,rfl,.inr hb,rfl,_,_,rfl,rfl,⟨mB m5,mB m3⟩,_,rfl,a,_,_,.int o.2,rfl,rfl,.inr ha,rfl,_,_,rfl,rfl,⟨mB2 z,mB m2⟩,_,_,rfl,rfl,
  _,rfl,a,_,_,.int o.2,rfl,rfl,.inr ha,rfl,_,rfl,b,_,_,.int q',rfl,rfl,.inr hb,rfl,_,_,rfl,rfl,⟨mB m2,mB m4⟩,(by show 2≤sizeLine; decide),fun r hr'=>?_⟩
 exact q r _ (zAe hr' _) hr' zAc
theorem zQc {ps:List Pr} {i:Nat} {v:V} (h:(zAo ps)[i]? = some v):∃ t,ps[i]? = some t∧v = .ref t.1:=by
 rw [List.getElem?_map,List.getElem?_map] at h
 cases e:ps[i]? with
 | none=>rw [e] at h; cases h
 | some t=>rw [e] at h; exact ⟨t,rfl,(Option.some.inj h).symm⟩
theorem zTj {α:Type} {l:List α} (h:l.length = 3):∃ a b c,l = [a,b,c]:=by
 match l,h with
 | [a,b,c],_=>exact ⟨a,b,c,rfl⟩
def zLk (K:PySem.W.Frag):Sp:=fun vs H Q _=>∃ (l a D:Addr) (ss:List Sd) (g:P3) (ws:List Wt),vs = [.ref l,.ref a,.ref D]∧H l = some (.lst (zAm ss))∧SdOk H ss∧ss.length≤900∧Sq K H a [.int g.1,.int g.2.1]∧g.1.natAbs≤10 ^ 40∧g.2.1.natAbs≤10 ^ 40∧H D = some (.lst (zDk ws))∧WtAt H ws∧(∀ t∈ws,t.2.2.2.1.natAbs≤10 ^ 40∧t.2.2.2.2.natAbs≤10 ^ 40) ∧
 (∀ H':Hp,Same H H'→zFc ss g (wtN ws) = none→Q .non H') ∧
 ∀ (r:Addr) (x y:Int) (H':Hp),Same H H'→H' r = some (.tup [.int x,.int y])→zFc ss g (wtN ws) = some (x,y)→Q (.ref r) H'
theorem zQo (F:Fun K "_law_bound" "_law_bound" zHt f fd) (Z:Zs mg) (h_L_summed:Has P w K mg base "_law_summed" 1 ["_law_one", "_law_weight", "_law_number"] (zKc K)) (h_L_whole:Has P w K mg base "_law_whole" 1 ["_law_found"] (zIh K)) (h_L_numbers:Has P w K mg base "_law_numbers" 2 ["_law_found", "_law_many_here"] (zDw K)):FnOk P w K mg base CX0 3 f fd ["_law_sides_here", "_law_direction", "_law_weights"] (zLk K):=by
 refine F.ok zEk (fun vs H Q E h=>?_) (fun cdv A outer s H vs Q E hr h=>?_)
 ·obtain ⟨l,a,D,ss,g,ws,rfl,_⟩:=h
  rfl
 obtain ⟨l,a,D,ss,g,ws,rfl,el,ok,hlen,ha,m1,m2,eD,okw,bw0,qn,q⟩:=h
 have bw:∀ t∈ws,Sz40 t.2.2.2.1 t.2.2.2.2:=bw0
 clear bw0
 have b80:∀ j:Int,j.natAbs≤10 ^ 80→j.natAbs < 2 ^ 4096:=fun j h=>Nat.lt_of_le_of_lt h (by decide +kernel)
 have cg1:∀ j:Int,j.natAbs≤10 ^ 80→zVz g.1 j:=fun j h=>⟨b80 _ (Nat.le_trans m1 (by decide)),b80 _ h⟩
 have cg2:∀ j:Int,j.natAbs≤10 ^ 80→zVz g.2.1 j:=fun j h=>⟨b80 _ (Nat.le_trans m2 (by decide)),b80 _ h⟩
 clear m1 m2
 have nw:(wtN ws).length = ws.length:=List.length_map _
 have nr:(zDk ws).length = ws.length:=by simp [zDk]
 refine ⟨_,(zAf (zA8 (PW.pt (zGw (zDd (zCv (zAv zCg rfl Z.isinstance zBr (zAa (pv 2) (zAa (zFx (v:=.ty "list") rfl Z.list zGn rfl) zAd))))) (zEl (zAu zI6 (zAv zA1 rfl Z.len zB9 (zAa (pv 2) zAd)) zAb (zAz _))))) (zAi (zAr zBm)) zAx)
   (zAf (zAw (i:=3) zEk.nd rfl (Or.inl rfl) (zB6 zBc zAb))
   (zAf (zAw (i:=4) zEk.nd rfl (Or.inl rfl) (zBo (zAa (zA0 (zAa zAb (zAa zAb zAd))) (zAa (zA0 (zAa zAb (zAa zAb zAd))) (zAa (zA0 (zAa zAb (zAa zAb zAd))) zAd)))))
   (zAf (zCz PassesOwn.never rfl (zCc (pv 2)) (zAq (i:=5) zEk.nd rfl (Or.inr rfl)) (zAf (zA8 (PW.pt (zGw (zDd (zCv (zAv zCg rfl Z.isinstance zBr (zAa (pv 5) (zAa (zFx (v:=.ty "tuple") rfl Z.tuple zJj rfl) zAd))))) (zEl (zAu zPx (zAv zA1 rfl Z.len zB9 (zAa (pv 5) zAd)) zAb (zAz _))))) (zAi (zAr zBm)) zAx)
   (zAf (zA8 (PW.pt (zGw (zDd (zCv (zAh h_L_whole (hr.mono (by decide)) rfl (zAa (zAn zAg (pv 5) zAb (fun _ _=>rfl)) zAd)))) (zEl (zDd (zCv (zAh h_L_numbers (hr.mono (by decide)) rfl (zAa (zAn zAg (pv 5) zAb (fun _ _=>rfl)) (zAa zAb zAd)))))))) (zAi (zAr zBm)) zAx)
   (zAf (zA8 (PW.pt (zGw (zDd (zMh zF4 zF4 (pv 3) (zAn zAg (pv 5) zAb (fun _ _=>rfl)) (zAv zA1 rfl Z.len zB9 (zAa (pv 0) zAd)))) (zGw (zAu zF4 (zAn zAg (zAn zAg (pv 5) zAb (fun _ _=>rfl)) zAb (fun _ _=>rfl)) zAb (zAz _)) (zEl (zAu zF4 (zAn zAg (zAn zAg (pv 5) zAb (fun _ _=>rfl)) zAb (fun _ _=>rfl)) zAb (zAz _)))))) (zAi (zAr zBm)) zAx)
   (zAf (zAw (i:=3) zEk.nd rfl (Or.inl rfl) (zAn zAg (pv 5) zAb (fun _ _=>rfl)))
   (zAi (zE7 (T:=["_law_one", "_law_number"]) (caps:=[("_law_pair", 5)]) (i:=4) zEk.nd rfl rfl ⟨rfl,by decide +kernel,by decide +kernel,rfl,⟨⟨rfl,rfl,Or.inl rfl⟩,True.intro⟩⟩ rfl (zU7 rfl Z.zip (zAa (pv 4) (zAa (zAn zAg (pv 0) (zAn zAg (pv 5) zAb (fun _ _=>rfl)) (fun _ _=>rfl)) zAd))) (fun _=>(zB5 rfl (zAs (zAq (i:=0) (show (["_law_one", "_law_number", "_law_pair"]:List Str).Nodup by decide +kernel) rfl (Or.inl rfl)) (zAs (zAq (i:=1) (show (["_law_one", "_law_number", "_law_pair"]:List Str).Nodup by decide +kernel) rfl (Or.inl rfl)) zBf)))) (fun _=>zBl) (fun _=>(zAh h_L_summed (hr.mono (by decide)) rfl (zAa (pv 0) (zAa (zAn zAg (pv 2) zAb (fun _ _=>rfl)) (zAa (pv 1) zAd))))))))))))
   (zAf (zA8 (PW.pt (zGw (zAu zPx (zAn zAg (zAn zAg (pv 4) zAb (fun _ _=>rfl)) zAb (fun _ _=>rfl)) (zAl zGs (zAn zAg (pv 1) zAb (fun _ _=>rfl)) (zAn zAg (zAn zAg (pv 4) zAb (fun _ _=>rfl)) zAb (fun _ _=>rfl))) (zAz _)) (zEl (zAu zPx (zAn zAg (zAn zAg (pv 4) zAb (fun _ _=>rfl)) zAb (fun _ _=>rfl)) (zAl zGs (zAn zAg (pv 1) zAb (fun _ _=>rfl)) (zAn zAg (zAn zAg (pv 4) zAb (fun _ _=>rfl)) zAb (fun _ _=>rfl))) (zAz _))))) (zAi (zAr zBm)) zAx)
   (zAi (zAr (zAn zAg (pv 4) zAb (fun _ _=>rfl))))))))),?_⟩
 refine ⟨_,rfl,_, "list", _,_,rfl,.lst eD,zD6 K,_,rfl,?_⟩
 refine iteF ?_
 refine ⟨_,rfl,D,_,rfl,.inl (SqL.of eD),_,_,rfl,rfl,_,rfl,?_⟩
 refine ifD (fun l2=>?_) (fun l2=>?_)
 ·refine qn H (Same.refl _) ?_
  unfold zFc
  rw [if_neg (by omega)]
 have hb:zFc ss g (wtN ws) = zCm ss g (wtN ws) (-1) (0,1) (0,1) (0,1):=by
  unfold zFc
  rw [if_pos (by omega)]
 refine ⟨_,rfl,?_⟩
 refine ⟨(by show 2≤sizeLine; decide),fun t0 ht0=>⟨(by show 2≤sizeLine; decide),fun t1 ht1=>⟨(by show 2≤sizeLine; decide),fun t2 ht2=>⟨(by show 3≤sizeLine; decide),fun tl htl=>?_⟩⟩⟩⟩
 have s0:=zAe ht0 (.tup [.int 0,.int 1])
 have s1:=zAe ht1 (.tup [.int 0,.int 1])
 have s2:=zAe ht2 (.tup [.int 0,.int 1])
 have s3:=zAe htl (.lst [.ref t0,.ref t1,.ref t2])
 have f0:=s3 _ _ (s2 _ _ (s1 _ _ (zAc (H:=H) (a:=t0) (o:=.tup [.int 0,.int 1]))))
 have f1:=s3 _ _ (s2 _ _ (zAc (H:=upd H t0 (.tup [.int 0,.int 1])) (a:=t1) (o:=.tup [.int 0,.int 1])))
 have f2:=s3 _ _ (zAc (H:=upd (upd H t0 (.tup [.int 0,.int 1])) t1 (.tup [.int 0,.int 1])) (a:=t2) (o:=.tup [.int 0,.int 1]))
 have f3:upd (upd (upd (upd H t0 (.tup [.int 0,.int 1])) t1 (.tup [.int 0,.int 1])) t2 (.tup [.int 0,.int 1])) tl (.lst [.ref t0,.ref t1,.ref t2]) tl = some (.lst [.ref t0,.ref t1,.ref t2]):=zAc
 have s03:=((s0.trans s1).trans s2).trans s3
 generalize upd (upd (upd (upd H t0 (.tup [.int 0,.int 1])) t1 (.tup [.int 0,.int 1])) t2 (.tup [.int 0,.int 1])) tl (.lst [.ref t0,.ref t1,.ref t2]) = H1 at f0 f1 f2 f3 s03 ⊢
 refine ⟨_,rfl,D,rfl,.inl ⟨⟨_,SqL.of (s03 _ _ eD)⟩,zCt (K:=K) (a:=D) (xs:=zDk ws) (fun i σ H'=>Same H H'∧∃ (last:Int) (tl a0 a1 a2:Addr) (A B C:Int × Int) (u5:Option V),-1≤last∧H' tl = some (.lst [.ref a0,.ref a1,.ref a2])∧H' a0 = some (.tup [.int A.1,.int A.2])∧H' a1 = some (.tup [.int B.1,.int B.2])∧H' a2 = some (.tup [.int C.1,.int C.2]) ∧
   (i = 0→A = (0,1)∧B = (0,1)∧C = (0,1))∧(i≤1→Sz A∧Sz B∧Sz C)∧(A.2.natAbs≤10 ^ (40 * i)∧B.2.natAbs≤10 ^ (40 * i)) ∧
   zCm ss g ((wtN ws).drop i) last A B C = zCm ss g (wtN ws) (-1) (0,1) (0,1) (0,1)∧σ = [some (.ref l),some (.ref a),some (.ref D),some (.int last),some (.ref tl),u5])
  ⟨s03,-1,tl,t0,t1,t2,(0,1),(0,1),(0,1),none,Int.le_refl _,f3,f0,f1,f2,fun _=>⟨rfl,rfl,rfl⟩,fun _=>⟨⟨by decide,by decide⟩,⟨by decide,by decide⟩,⟨by decide,by decide⟩⟩,⟨by decide,by decide⟩,rfl,rfl⟩ (fun i σ H' _ ⟨e1,_⟩=>SqL.of (e1 _ _ eD)) ?_ ?_⟩⟩
 ·rintro i v σ H' hi ⟨sH,last,tl,a0,a1,a2,A,B,C,u5,hl1,etl,e0,e1,e2,zero,sml,tw,hg,rfl⟩
  rw [List.getElem?_map,List.getElem?_map] at hi
  cases gc:ws[i]? with
  | none=>rw [gc] at hi; cases hi
  | some u =>
   rw [gc] at hi
   cases hi
   have hil:i < ws.length:=(List.getElem?_eq_some_iff.mp gc).1
   obtain ⟨eu0,ep0⟩:=okw u (List.mem_of_getElem? gc)
   have bpq:=bw u (List.mem_of_getElem? gc)
   have eu:=sH _ _ eu0
   have ep:=sH _ _ ep0
   have dr:(wtN ws).drop i = (u.2.1,u.2.2.2.1,u.2.2.2.2) :: (wtN ws).drop (i + 1):=by
    rw [List.drop_eq_getElem_cons (by omega)]
    congr 1
    rw [List.getElem_map]
    have z:=(List.getElem?_eq_some_iff.mp gc).2
    rw [z]
   rw [dr] at hg
   have bad:¬ (last < u.2.1∧u.2.1 < ss.length∧1≤u.2.2.2.1∧1≤u.2.2.2.2)→∀ H2,Same H' H2→Q .non H2:=fun hb' H2 s2=>qn H2 (sH.trans s2) (by rw [hb,← hg]; exact zPz hb')
   obtain ⟨bA,bB,bC⟩:=sml (by omega)
   refine ⟨_,rfl,_, "tuple", _,_,rfl,.tup eu,zB8 K,_,rfl,?_⟩
   refine iteF ?_
   refine ⟨_,rfl,u.1,_,rfl,.inr (SqT.of eu),rfl,_,rfl,?_⟩
   refine ifNe (fun z=>absurd rfl z) (fun _=>?_)
   have eu2:Sq K H' u.1 [.int u.2.1,.ref u.2.2.1]:=.inr (SqT.of eu)
   refine ⟨_,rfl,u.1,_,_,.int u.2.1,rfl,rfl,eu2,rfl,u.2.1,rfl,_,rfl,?_⟩
   refine iteF ?_
   refine ⟨_,rfl,u.1,_,_,.ref u.2.2.1,rfl,rfl,eu2,rfl,u.2.2.1,[u.2.2.2.1,u.2.2.2.2],2,rfl,ep,(by show 2≤1000; decide),rfl,fun H2 s2=>?_⟩
   refine ⟨_,rfl,?_⟩
   refine iteF ?_
   have sH2:=sH.trans s2
   have eu3:=eu2.same s2
   have ep3:Sq K H2 u.2.2.1 [.int u.2.2.2.1,.int u.2.2.2.2]:=.inr (SqT.of (s2 _ _ ep))
   refine ⟨_,rfl,_,rfl,u.1,_,_,.int u.2.1,rfl,rfl,eu3,rfl,_,_,rfl,rfl,_,rfl,?_⟩
   refine ifD (fun g1=>?_) (fun g1=>?_)
   rotate_left
   ·refine ⟨_,rfl,?_⟩
    refine iteT ?_
    exact bad (fun z=>g1 z.1) _ s2
   refine ⟨_,rfl,l,_,rfl,.inl (SqL.of (sH2 _ _ el)),_,_,rfl,rfl,_,rfl,?_⟩
   refine ifN (fun g2=>?_) (fun g2=>?_)
   ·exact bad (fun z=>g2 (by rw [zAk]; exact z.2.1)) _ s2
   rw [zAk] at g2
   refine ⟨_,rfl,u.1,_,_,.ref u.2.2.1,rfl,rfl,eu3,rfl,u.2.2.1,_,_,.int u.2.2.2.1,rfl,rfl,ep3,rfl,_,_,rfl,rfl,_,rfl,?_⟩
   refine ifD (fun g3=>?_) (fun g3=>?_)
   ·exact bad (fun z=>by omega) _ s2
   refine ⟨_,rfl,u.1,_,_,.ref u.2.2.1,rfl,rfl,eu3,rfl,u.2.2.1,_,_,.int u.2.2.2.2,rfl,rfl,ep3,rfl,_,_,rfl,rfl,_,rfl,?_⟩
   refine ifD (fun g4=>?_) (fun g4=>?_)
   ·exact bad (fun z=>by omega) _ s2
   refine ⟨_,rfl,u.1,_,_,.int u.2.1,rfl,rfl,eu3,rfl,?_⟩
   obtain ⟨t,mt,gt,att⟩:=zBg (ss:=ss) (i:=u.2.1.toNat) (k:=u.2.1) (by omega) (by omega)
   have ett:=(ok t mt).1
   have etl2:=s2 _ _ etl
   have okA:PrAt H2 [(a0,A),(a1,B),(a2,C)]:=fun z hz=>by
    simp only [List.mem_cons,List.not_mem_nil,or_false] at hz
    rcases hz with rfl | rfl | rfl
    ·exact s2 _ _ e0
    ·exact s2 _ _ e1
    ·exact s2 _ _ e2
   have smA:∀ z∈([(a0,A),(a1,B),(a2,C)]:List Pr),Sz z.2:=fun z hz=>by
    simp only [List.mem_cons,List.not_mem_nil,or_false] at hz
    rcases hz with rfl | rfl | rfl
    ·exact bA
    ·exact bB
    ·exact bC
   have sm1:Sz13 t.2.1:=Nat.le_trans (ok t mt).2.2.1 (by decide)
   have sm2:Sz13 t.2.2.1:=Nat.le_trans (ok t mt).2.2.2.1 (by decide)
   have sm3:Sz13 t.2.2.2:=(ok t mt).2.2.2.2
   have smN:∀ z∈[t.2.1,t.2.2.1,t.2.2.2],Sz13 z:=fun z hz=>by
    simp only [List.mem_cons,List.not_mem_nil,or_false] at hz
    rcases hz with rfl | rfl | rfl
    ·exact sm1
    ·exact sm2
    ·exact sm3
   refine ⟨_,rfl,_,rfl,_,rfl,u.1,_,_,.int u.2.1,rfl,rfl,eu3,rfl,l,_,_,_,rfl,rfl,.inl (SqL.of (sH2 _ _ el)),att,true,false,tl,t.1,zAo [(a0,A),(a1,B),(a2,C)],[t.2.1,t.2.2.1,t.2.2.2].map V.int,rfl,SqL.of etl2,SqT.of (sH2 _ _ ett),fun cc D3 hD3=>zR1 (K:=K) (b1:=true) (b2:=false) (l1:=tl) (l2:=t.1) (xs:=zAo [(a0,A),(a1,B),(a2,C)]) (ys:=[t.2.1,t.2.2.1,t.2.2.2].map V.int) (fun k σ zs G=>Same H2 G∧G D3 = some (.lst zs)∧(∃ bs:List Pr,zs = zAo bs∧PrAt G bs∧bs.map (·.2) = (([A,B,C].zip [t.2.1,t.2.2.1,t.2.2.2]).map fun z=>sumW z.1 u.2.2.2.1 u.2.2.2.2 z.2).take k)∧∃ v0 v1:Option V,σ = [v0,v1,some (.ref u.1)])
    ⟨zAe hD3 _,zAc,⟨[],rfl,(fun t ht=>nomatch ht),rfl⟩,none,none,rfl⟩ (fun k σ zs G ⟨s,e,_⟩=>⟨SqL.of (s _ _ etl2),SqT.of (s _ _ (sH2 _ _ ett)),e⟩) ?_ ?_⟩
   ·rintro k x y T σ zs G hx hy hT ⟨sG,eD3,⟨bs,rfl,okb,mb⟩,v0,v1,rfl⟩
    obtain ⟨oa,goa,rfl⟩:=zQc hx
    obtain ⟨n,gn,rfl⟩:=zC2 hy
    have hk:k < 3:=(List.getElem?_eq_some_iff.mp goa).1
    have sT:=zAe hT (.tup [.ref oa.1,.int n])
    have eT:upd G T (.tup [.ref oa.1,.int n]) T = some (.tup [.ref oa.1,.int n]):=zAc
    have frT:∀ p,upd G T (.tup [.ref oa.1,.int n]) p = none→G p = none:=fun p hp=>sT.free hp
    generalize upd G T (.tup [.ref oa.1,.int n]) = G2 at sT eT frT ⊢
    have sG2:=sG.trans sT
    refine ⟨T,_,rfl,SqT.of eT,rfl,.ref oa.1,_,rfl,.int n,_,rfl,rfl,?_⟩
    have soa:=smA oa (List.mem_of_getElem? goa)
    have sn:=smN n (List.mem_of_getElem? gn)
    refine ⟨_,rfl,_,rfl,u.1,_,_,.ref u.2.2.1,rfl,rfl,eu3.same sG2,rfl,_,rfl,oa.1,u.2.2.1,oa.2,u.2.2.2.1,u.2.2.2.2,n,rfl,SqT.of (sG2 _ _ (okA oa (List.mem_of_getElem? goa))),SqT.of (sG2 _ _ (s2 _ _ ep)),soa.1,soa.2,bpq.up.1,bpq.up.2,sn.up,fun r G3 s3 hr3 er3=>?_⟩
    have eD4:=s3 _ _ (sT _ _ eD3)
    have nrD:r≠D3:=fun z=>by rw [z,sT _ _ eD3] at hr3; cases hr3
    have lb:bs.length≤3:=by
     have z:=congrArg List.length mb
     rw [List.length_map,List.length_take] at z
     omega
    refine ⟨eD4,zA3 (by rw [zAt]; omega),(sG2.trans s3).putNew hD3,zAc,⟨bs ++ [(r,sumW oa.2 u.2.2.2.1 u.2.2.2.2 n)],by simp [zAo],fun z hz=>?_,?_⟩,_,_,rfl⟩
    ·rcases List.mem_append.mp hz with hz | hz
     ·have z1:=s3 _ _ (sT _ _ (okb z hz))
      rw [zA5 (zIb z1 eD4 (by intro z; cases z))]
      exact z1
     ·rw [List.mem_singleton] at hz
      subst hz
      show upd G3 D3 _ r = _
      rw [zA5 nrD]
      exact er3
    ·have gz:(([A,B,C].zip [t.2.1,t.2.2.1,t.2.2.2]).map fun z=>sumW z.1 u.2.2.2.1 u.2.2.2.2 z.2)[k]? = some (sumW oa.2 u.2.2.2.1 u.2.2.2.2 n):=by
      have g1':([A,B,C]:List (Int × Int))[k]? = some oa.2:=by
       have z:=congrArg (Option.map (·.2)) goa
       rw [← List.getElem?_map] at z
       exact z
      rw [List.getElem?_map,(List.getElem?_zip_eq_some (z:=(oa.2,n))).mpr ⟨g1',gn⟩]
      rfl
     rw [List.map_append,mb,zB1 gz]
     rfl
   ·rintro σ zs G ⟨sG,eD3,⟨bs,rfl,okb,mb⟩,v0,v1,rfl⟩
    have mb3:bs.map (·.2) = [sumW A u.2.2.2.1 u.2.2.2.2 t.2.1,sumW B u.2.2.2.1 u.2.2.2.2 t.2.2.1,sumW C u.2.2.2.1 u.2.2.2.2 t.2.2.2]:=mb
    have lb:bs.length = 3:=by
     have z:=congrArg List.length mb3
     rw [List.length_map] at z
     exact z
    obtain ⟨x0,x1,x2,rfl⟩:=zTj lb
    cases x0 with | mk c0 A' =>
    cases x1 with | mk c1 B' =>
    cases x2 with | mk c2 C' =>
    have eA:A' = sumW A u.2.2.2.1 u.2.2.2.2 t.2.1∧B' = sumW B u.2.2.2.1 u.2.2.2.2 t.2.2.1∧C' = sumW C u.2.2.2.1 u.2.2.2.2 t.2.2.2:=by
     have z:[A',B',C'] = [sumW A u.2.2.2.1 u.2.2.2.2 t.2.1,sumW B u.2.2.2.1 u.2.2.2.2 t.2.2.1,sumW C u.2.2.2.1 u.2.2.2.2 t.2.2.2]:=mb3
     cases z
     exact ⟨rfl,rfl,rfl⟩
    obtain ⟨rfl,rfl,rfl⟩:=eA
    refine ⟨sH2.trans sG,u.2.1,D3,c0,c1,c2,_,_,_,_,by omega,eD3,okb _ (List.mem_cons_self ..),okb _ (List.mem_cons_of_mem _ (List.mem_cons_self ..)),okb _ (List.mem_cons_of_mem _ (List.mem_cons_of_mem _ (List.mem_cons_self ..))),fun z=>absurd z (Nat.succ_ne_zero _),fun hi1=>?_,⟨?_,?_⟩,?_,rfl⟩
    ·obtain ⟨zA,zB,zC⟩:=zero (by omega)
     exact ⟨zIl zA bpq sm1,zIl zB bpq sm2,zIl zC bpq sm3⟩
    ·rw [show 40 * (i + 1) = 40 * i + 40 by omega,Nat.pow_add]
     exact zAj A.2 u.2.2.2.2 tw.1 bpq.2
    ·rw [show 40 * (i + 1) = 40 * i + 40 by omega,Nat.pow_add]
     exact zAj B.2 u.2.2.2.2 tw.2 bpq.2
    ·rw [← hg,zDx g1 g2 (by omega) (by omega) gt]
 ·rintro σ H' ⟨sH,last,tl,a0,a1,a2,A,B,C,u5,hl1,etl,e0,e1,e2,zero,sml,tw,hg,rfl⟩
  rw [nr,List.drop_of_length_le (by omega),zCm] at hg
  rw [nr] at tw
  have p80:10 ^ (40 * ws.length)≤10 ^ 80:=Nat.pow_le_pow_right (by decide) (by omega)
  have stl:Sq K H' tl [.ref a0,.ref a1,.ref a2]:=.inl (SqL.of etl)
  have q0:Sq K H' a0 [.int A.1,.int A.2]:=.inr (SqT.of e0)
  have q1:Sq K H' a1 [.int B.1,.int B.2]:=.inr (SqT.of e1)
  have ha':=ha.same sH
  refine ⟨_,rfl,tl,_,_,.ref a0,rfl,rfl,stl,rfl,a0,_,_,.int A.1,rfl,rfl,q0,rfl,_,rfl,a,_,_,.int g.1,rfl,rfl,ha',rfl,_,rfl,tl,_,_,.ref a0,rfl,rfl,stl,rfl,a0,_,_,.int A.2,rfl,rfl,q0,rfl,_,_,rfl,rfl,cg1 _ (Nat.le_trans tw.1 p80),rfl,_,rfl,?_⟩
  refine ifNe (fun h0=>?_) (fun h0=>?_)
  ·refine iteT ?_
   exact qn H' sH (by rw [hb,← hg,if_neg (fun z=>h0 z.1)])
  refine ⟨_,rfl,tl,_,_,.ref a1,rfl,rfl,stl,rfl,a1,_,_,.int B.1,rfl,rfl,q1,rfl,_,rfl,a,_,_,.int g.2.1,rfl,rfl,ha',rfl,_,rfl,tl,_,_,.ref a1,rfl,rfl,stl,rfl,a1,_,_,.int B.2,rfl,rfl,q1,rfl,_,_,rfl,rfl,cg2 _ (Nat.le_trans tw.2 p80),rfl,_,rfl,?_⟩
  refine ifNe (fun h1=>?_) (fun h1=>?_)
  ·exact qn H' sH (by rw [hb,← hg,if_neg (fun z=>h1 z.2)])
  rw [if_pos ⟨h0,h1⟩] at hg
  exact ⟨_,rfl,tl,_,_,.ref a2,rfl,rfl,stl,rfl,q a2 C.1 C.2 H' sH e2 (by rw [hb,← hg])⟩
def hasB (ss:List (Addr × Int × Int × Int)) (x y w:Int):List Bool:=ss.map fun t=>decide (t.2.1 * x + t.2.2.1 * y≤t.2.2.2 * w)
def zJu (K:PySem.W.Frag):Sp:=fun vs H Q _=>∃ (a p:Addr) (ss:List (Addr × Int × Int × Int)) (x y w:Int),vs = [.ref a,.ref p]∧H a = some (.lst (ss.map fun t=>V.ref t.1))∧ss.length≤1000 ∧
 (∀ t∈ss,H t.1 = some (.tup [.int t.2.1,.int t.2.2.1,.int t.2.2.2])∧t.2.1.natAbs≤10 ^ 18∧t.2.2.1.natAbs≤10 ^ 18∧t.2.2.2.natAbs≤10 ^ 18)∧H p = some (.tup [.int x,.int y,.int w]) ∧
 ∀ H',Same H H'→Q (.bl ((hasB ss x y w).all id)) H'
theorem zT6 (F:Fun K "_law_has" "_law_has" zMi f fd) (Z:Zs mg)  : FnOk P w K mg base CX0 1 f fd ["_law_sides_here", "_law_place"] (zJu K):=by
 refine F.ok zJc (fun vs H Q E h=>?_) (fun cdv A outer s H vs Q E hr h=>?_)
 ·obtain ⟨a,p,ss,x,y,w,rfl,_⟩:=h
  rfl
 obtain ⟨a,p,ss,x,y,wt,rfl,ha,hl,hs,hp,q⟩:=h
 refine ⟨_,(zAf (zEw (pv 1) (zB5 rfl (zAs (zAq (i:=2) zJc.nd rfl (Or.inr rfl)) (zAs (zAq (i:=3) zJc.nd rfl (Or.inr rfl)) (zAs (zAq (i:=4) zJc.nd rfl (Or.inr rfl)) zBf)))))
   (zAi (zAr (zAv (zGc rfl) rfl Z.all zNb (zAa (zC0 (T:=["_law_a", "_law_b", "_law_c"]) (caps:=[("_law_w", 4),("_law_x", 2),("_law_y", 3)]) ⟨rfl,by decide +kernel,by decide +kernel,rfl,⟨⟨rfl,rfl,Or.inl rfl⟩,⟨rfl,rfl,Or.inl rfl⟩,⟨rfl,rfl,Or.inl rfl⟩,True.intro⟩⟩ rfl (zCc (pv 0)) (fun _=>(zB5 rfl (zAs (zAq (i:=0) (show (["_law_a", "_law_b", "_law_c", "_law_w", "_law_x", "_law_y"]:List Str).Nodup by decide +kernel) rfl (Or.inl rfl)) (zAs (zAq (i:=1) (show (["_law_a", "_law_b", "_law_c", "_law_w", "_law_x", "_law_y"]:List Str).Nodup by decide +kernel) rfl (Or.inl rfl)) (zAs (zAq (i:=2) (show (["_law_a", "_law_b", "_law_c", "_law_w", "_law_x", "_law_y"]:List Str).Nodup by decide +kernel) rfl (Or.inl rfl)) zBf))))) (fun _=>zBl) (fun _=>(zDo zT2 (zAl zBd (zAl zA2 (pv 0) (pv 4)) (zAl zA2 (pv 1) (pv 5))) (zAl zA2 (pv 2) (pv 3)) (zAz _)))) zAd))))),?_⟩
 refine ⟨_,rfl,p,_,rfl,SqT.of hp,rfl,.int x,_,rfl,.int y,_,rfl,.int wt,_,rfl,rfl,?_⟩
 refine ⟨_,rfl,a,rfl,.inl ⟨⟨_,SqL.of ha⟩,fun c D hD=>zBj (K:=K) (a:=a) (xs:=ss.map fun t=>V.ref t.1) (fun i σ ys H'=>H' = upd H D (.lst ys)∧ys = (hasB (ss.take i) x y wt).map V.bl∧∃ u v z,σ = [u,v,z,some (.int wt),some (.int x),some (.int y)])
  ⟨rfl,rfl,none,none,none,rfl⟩ (fun i σ ys H' _ ⟨e,_⟩=>by rw [e]; exact ⟨(zAe hD _).seq (SqL.of ha),zAc⟩) ?_ ?_⟩⟩
 ·rintro i r σ ys H' hi ⟨rfl,rfl,u,v,z,rfl⟩
  rw [List.getElem?_map] at hi
  cases ht:ss[i]? with
  | none=>rw [ht] at hi; cases hi
  | some t =>
   rw [ht] at hi
   cases hi
   obtain ⟨h1,m1,m2,m3⟩:=hs t (List.mem_of_getElem? ht)
   have hil:i < ss.length:=(List.getElem?_eq_some_iff.mp ht).1
   refine ⟨t.1,_,rfl,SqT.of (zAe hD _ _ _ h1),rfl,_,_,rfl,_,_,rfl,_,_,rfl,rfl,?_⟩
   refine ⟨_,rfl,_,rfl,_,_,rfl,rfl,cm_l (by omega),_,rfl,_,rfl,_,_,rfl,rfl,cm_l (by omega),_,_,rfl,rfl,_,rfl,_,rfl,_,_,rfl,rfl,cm_l (by omega),_,_,rfl,rfl,zAc,?_,zGq,?_,_,_,_,rfl⟩
   ·refine zA3 ?_
    unfold hasB
    rw [List.length_map,List.length_map,List.length_take]
    omega
   ·unfold hasB
    rw [zB1 ht,List.map_append,List.map_append]
    rfl
 ·rintro σ ys H' ⟨rfl,rfl,u,v,z,rfl⟩
  rw [List.length_map,List.take_length]
  exact ⟨D,hasB ss x y wt,rfl,SqL.of zAc,q _ (zAe hD _)⟩
theorem zL9 {es:List Sd} {z:P3} {vs:List P3} (m:es.map (·.2) = vs):(hasB es z.1 z.2.1 z.2.2).all id = true↔∀ e∈vs,sv e z≤0:=by
 rw [← m]
 unfold hasB
 rw [List.all_map,List.all_eq_true]
 constructor
 ·intro h e he
  obtain ⟨t,mt,rfl⟩:=List.mem_map.mp he
  have z:t.2.1 * z.1 + t.2.2.1 * z.2.1≤t.2.2.2 * z.2.2:=of_decide_eq_true (h t mt)
  unfold sv
  omega
 ·intro h t ht
  have z:=h t.2 (List.mem_map_of_mem ht)
  unfold sv at z
  exact decide_eq_true (show t.2.1 * _ + t.2.2.1 * _≤t.2.2.2 * _ by omega)
theorem zRp {ss:List Sd} {z:P3} (h:inW ss z):(hasB ss z.1 z.2.1 z.2.2).all id = true:=(zL9 rfl).mpr fun e he=>by
 obtain ⟨t,mt,rfl⟩:=List.mem_map.mp he
 exact h t mt
def zHa (K:PySem.W.Frag):Sp:=fun vs H Q _=>∃ (l c T:Addr) (ss:List Sd) (ps:List Pr),vs = [.ref l,.ref c,.ref T]∧H l = some (.lst (zAm ss))∧SdOk H ss∧ss.length≤300∧H c = some (.lst (zAo ps))∧PrOk H (10 ^ 6) ps∧ps.length≤8∧(∀ i < ps.length,atP (ps.map (·.2)) i≠atP (ps.map (·.2)) ((i + 1) % ps.length))∧zOc H ss (ps.map (·.2)) T ∧
 ∀ H',Same H H'→Q (.bl true) H'
theorem zLb (F:Fun K "_law_good_word" "_law_good_word" zEd f fd) (Z:Zs mg) (h_L_has:Has P w K mg base "_law_has" 1 ["_law_sides_here", "_law_place"] (zJu K)) (h_L_bound:Has P w K mg base "_law_bound" 3 ["_law_sides_here", "_law_direction", "_law_weights"] (zLk K)) (h_L_is_clash:Has P w K mg base "_law_is_clash" 3 ["_law_sides_here", "_law_paper"] (zId K)) (h_L_bank_rows:Has P w K mg base "_law_bank_rows" 2 ["_law_places"] (zE2 K)):FnOk P w K mg base CX0 4 f fd ["_law_sides_here", "_law_places", "_law_paper"] (zHa K):=by
 refine F.ok zBa (fun vs H Q E h=>?_) (fun cdv A outer s H vs Q E hr h=>?_)
 ·obtain ⟨l,c,T,ss,ps,rfl,_⟩:=h
  rfl
 obtain ⟨l,c,T,ss,ps,rfl,el,ok,hlen,ec,pk,p8,ne,pap,q⟩:=h
 have hu:=hr.units0
 refine ⟨_,(zAf (zAw (i:=3) zBa.nd rfl (Or.inl rfl) (zAh h_L_bank_rows (hr.mono (by decide)) rfl (zAa (pv 1) zAd)))
   (zAf (zA8 (zAu zCi (zAn zAg (pv 2) zAb (fun _ _=>rfl)) zDc (zAz _)) (zAi (zAr (zAh h_L_is_clash (hr.mono (by decide)) rfl (zAa (pv 0) (zAa (zAn zAg (pv 2) zAb (fun _ _=>rfl)) zAd))))) zAx)
   (zAf (zA8 (zAu zCi (zAn zAg (pv 2) zAb (fun _ _=>rfl)) zDc (zAz _)) (zAf (zEw (zAn zAg (pv 2) zAb (fun _ _=>rfl)) (zB5 rfl (zAs (zAq (i:=4) zBa.nd rfl (Or.inr rfl)) (zAs (zAq (i:=5) zBa.nd rfl (Or.inr rfl)) zBf))))
   (zAf (zAw (i:=6) zBa.nd rfl (Or.inr rfl) (zAh h_L_bound (hr.mono (by decide)) rfl (zAa (pv 0) (zAa (zA0 (zAa (pv 4) (zAa (pv 5) zAd))) (zAa (zAn zAg (pv 2) zAb (fun _ _=>rfl)) zAd)))))
   (zAf (zA8 (PW.pt (zGw (zAu zLl (pv 6) zBm (zAz _)) (zEl (zAu (zUz hu) (zA0 (zAa (pv 4) (zAa (pv 5) zAd))) (zA0 (zAa zAb (zAa zAb zAd))) (zAz _))))) (zAi (zAr zE3)) zAx)
   (zAi (zAr (zAv (zGc rfl) rfl Z.all zNb (zAa (zC0 (T:=["_law_p", "_law_q"]) (caps:=[("_law_top", 6),("_law_x", 4),("_law_y", 5)]) ⟨rfl,by decide +kernel,by decide +kernel,rfl,⟨⟨rfl,rfl,Or.inl rfl⟩,⟨rfl,rfl,Or.inl rfl⟩,⟨rfl,rfl,Or.inl rfl⟩,True.intro⟩⟩ rfl (zCc (pv 1)) (fun _=>(zB5 rfl (zAs (zAq (i:=0) (show (["_law_p", "_law_q", "_law_top", "_law_x", "_law_y"]:List Str).Nodup by decide +kernel) rfl (Or.inl rfl)) (zAs (zAq (i:=1) (show (["_law_p", "_law_q", "_law_top", "_law_x", "_law_y"]:List Str).Nodup by decide +kernel) rfl (Or.inl rfl)) zBf)))) (fun _=>zBl) (fun _=>(zDo zI6 (zAl zA2 (zAl zBd (zAl zA2 (pv 3) (pv 0)) (zAl zA2 (pv 4) (pv 1))) (zAn zAg (pv 2) zAb (fun _ _=>rfl))) (zAn zAg (pv 2) zAb (fun _ _=>rfl)) (zAz _)))) zAd))))))) zAx)
   (zAf (zA8 (zAu zCi (zAn zAg (pv 2) zAb (fun _ _=>rfl)) zDc (zAz _)) (zAf (zA8 (zAu zPx (zAv zA1 rfl Z.len zB9 (zAa (zAn zAg (pv 2) zAb (fun _ _=>rfl)) zAd)) (zAv zA1 rfl Z.len zB9 (zAa (pv 3) zAd)) (zAz _)) (zAi (zAr zE3)) zAx)
   (zAf (zCz PassesOwn.never rfl (zU7 rfl Z.zip (zAa (pv 3) (zAa (zAn zAg (pv 2) zAb (fun _ _=>rfl)) zAd))) (zB5 rfl (zAs (zB5 rfl (zAs (zAq (i:=7) zBa.nd rfl (Or.inl rfl)) (zAs (zAq (i:=8) zBa.nd rfl (Or.inl rfl)) (zAs (zAq (i:=9) zBa.nd rfl (Or.inl rfl)) zBf)))) (zAs (zAq (i:=10) zBa.nd rfl (Or.inl rfl)) zBf))) (zAf (zAw (i:=6) zBa.nd rfl (Or.inr rfl) (zAh h_L_bound (hr.mono (by decide)) rfl (zAa (pv 0) (zAa (zA0 (zAa (pv 7) (zAa (pv 8) zAd))) (zAa (pv 10) zAd)))))
   (zAi (zA8 (PW.pt (zGw (zAu zLl (pv 6) zBm (zAz _)) (zEl (zAu zI6 (zAn zAg (pv 6) zAb (fun _ _=>rfl)) (zAl zA2 (pv 9) (zAn zAg (pv 6) zAb (fun _ _=>rfl))) (zAz _))))) (zAi (zAr zE3)) zAx))))
   (zAi (zAr zE3)))) zAx)
   (zAf (zRm (i:=11) (j:=12) rfl zBa.nd rfl rfl (by decide) rfl rfl (zAa (zAn zAg (pv 2) zAb (fun _ _=>rfl)) (zAa (zAn zAg (pv 2) zAb (fun _ _=>rfl)) zAd)) rfl)
   (zAf (zA8 (zAu zF4 (zAv (zSc rfl) rfl Z.min bt_min (zAa (zAn zAg (pv 11) zAb (fun _ _=>rfl)) (zAa (zAn zAg (pv 12) zAb (fun _ _=>rfl)) zAd))) zAb (zAz _)) (zAi (zAr zE3)) zAx)
   (zAf (zA8 (PW.pt (zGw (zDd (zCv (zAh h_L_has (hr.mono (by decide)) rfl (zAa (pv 0) (zAa (pv 11) zAd))))) (zEl (zDd (zCv (zAh h_L_has (hr.mono (by decide)) rfl (zAa (pv 0) (zAa (pv 12) zAd)))))))) (zAi (zAr zE3)) zAx)
   (zAi (zAr (zGa (zAh h_L_has (hr.mono (by decide)) rfl (zAa (pv 3) (zAa (pv 11) zAd))) (zIx (zUx (zAh h_L_has (hr.mono (by decide)) rfl (zAa (pv 3) (zAa (pv 12) zAd))))))))))))))),?_⟩
 refine ⟨_,rfl,c,ps,rfl,SqL.of ec,pk,p8,ne,fun E0 es H1 P1 mes=>?_⟩
 have s1:=P1.same
 replace pap:=pap.same s1
 have el1:=s1 _ _ el
 have ok1:=ok.same s1
 have ec1:=s1 _ _ ec
 have pk1:=pk.same s1
 have eE:=P1.at'
 have oke:=P1.all
 have nes:es.length = ps.length:=by
  have z:=congrArg List.length mes
  unfold zBp at z
  rw [List.length_map,List.length_map,List.length_range,List.length_map] at z
  exact z
 clear P1 el ok ec pk
 rcases pap with ⟨D,cs,et,eD,okc,cb⟩ | ⟨d,L,X,Y,x,ws,et,ed,nd,bX,bY,eL,okw,wl,bf,far⟩ | ⟨p1,p2,P1,P2,et,ep1,ep2,w1,i1,w2,e2,me2,b2⟩ | ⟨W,tl,et,eW,ntl,all,each⟩
 ·have e1:Sq K H1 T [.str "none", .ref D]:=.inr (SqT.of et)
  refine ⟨_,rfl,T,_,_,.str "none", rfl,rfl,e1,rfl,rfl,_,rfl,?_⟩
  refine ifSt ?_
  refine ⟨_,rfl,_,rfl,T,_,_,.ref D,rfl,rfl,e1,rfl,l,D,ss,cs,rfl,el1,ok1,by omega,eD,okc,fun b H2 s2 hb=>?_⟩
  rw [cb] at hb
  subst hb
  exact q _ (s1.trans s2)
 ·have e1:Sq K H1 T [.str "cannot", .ref d,.ref L]:=.inr (SqT.of et)
  refine ⟨_,rfl,T,_,_,.str "cannot", rfl,rfl,e1,rfl,rfl,_,rfl,?_⟩
  refine ifSf (by decide) ?_
  refine ⟨_,rfl,T,_,_,.str "cannot", rfl,rfl,e1,rfl,rfl,_,rfl,?_⟩
  refine ifSt ?_
  refine ⟨_,rfl,T,_,_,.ref d,rfl,rfl,e1,rfl,d,_,rfl,SqT.of ed,rfl,.int X,_,rfl,.int Y,_,rfl,rfl,?_⟩
  refine ⟨_,rfl,_,rfl,_,rfl,(by show 2≤sizeLine; decide),fun g hg=>?_⟩
  have sg:=zAe hg (.tup [.int X,.int Y])
  have eg:upd H1 g (.tup [.int X,.int Y]) g = some (.tup [.int X,.int Y]):=zAc
  generalize upd H1 g (.tup [.int X,.int Y]) = H2 at sg eg ⊢
  refine ⟨_,rfl,T,_,_,.ref L,rfl,rfl,e1.same sg,rfl,l,g,L,ss,(X,Y,0),ws,rfl,sg _ _ el1,ok1.same sg,by omega,.inr (SqT.of eg),bX,bY,sg _ _ eL,okw.same sg,fun t ht=>⟨(wl.2 t ht).1,(wl.2 t ht).2.1⟩,fun H3 s3 z=>absurd z (by rw [bf]; exact fun z=>nomatch z),fun r x' y' H3 s3 er z=>?_⟩
  rw [bf] at z
  have z:=Option.some.inj z
  have zx:x = x':=congrArg (·.1) z
  have zy:(1:Int) = y':=congrArg (·.2) z
  subst zx zy
  refine ⟨_,rfl,rfl,_,rfl,?_⟩
  refine iteF ?_
  refine ⟨_,rfl,_,rfl,(by show 2≤sizeLine; decide),fun g2 hg2=>?_⟩
  have sg2:=zAe hg2 (.tup [.int X,.int Y])
  have eg2:upd H3 g2 (.tup [.int X,.int Y]) g2 = some (.tup [.int X,.int Y]):=zAc
  generalize upd H3 g2 (.tup [.int X,.int Y]) = H4 at sg2 eg2 ⊢
  refine ⟨(by show 2≤sizeLine; decide),fun g3 hg3=>?_⟩
  have sg3:=zAe hg3 (.tup [.int 0,.int 0])
  have hne:decide ([X,Y] = [(0:Int),0]) = false:=decide_eq_false fun z=>by
   injection z with z1 z2
   injection z2 with z2
   omega
  refine ⟨g2,g3,[X,Y],[0,0],rfl,rfl,SqT.of (sg3 _ _ eg2),SqT.of zAc,_,rfl,?_⟩
  rw [hne]
  refine iteF ?_
  have s15:=((sg.trans s3).trans sg2).trans sg3
  have er5:=(sg2.trans sg3) _ _ er
  generalize upd H4 g3 (.tup [.int 0,.int 0]) = H5 at s15 er5 ⊢
  have ec5:=s15 _ _ ec1
  have pk5:=pk1.same s15
  refine ⟨_,rfl,c,rfl,.inl ⟨⟨_,SqL.of ec5⟩,fun cc B hB=>zBj (K:=K) (a:=c) (xs:=zAo ps) (fun i σ ys H'=>H' = upd H5 B (.lst ys)∧ys = (List.replicate i true).map V.bl∧∃ u v:Option V,σ = [u,v,some (.ref r),some (.int X),some (.int Y)])
   ⟨rfl,rfl,none,none,rfl⟩ (fun i σ ys H' _ ⟨e,_⟩=>by rw [e]; exact ⟨SqL.of (zAe hB _ _ _ ec5),zAc⟩) ?_ ?_⟩⟩
  ·rintro i v σ ys H' hi ⟨rfl,rfl,u0,v0,rfl⟩
   obtain ⟨t,gt,rfl,hil⟩:=zFg hi
   obtain ⟨et',b1,b2⟩:=pk5 t (List.mem_of_getElem? gt)
   have er6:Sq K (upd H5 B (.lst ((List.replicate i true).map V.bl))) r [.int x,.int 1]:=.inr (SqT.of (zAe hB _ _ _ er5))
   refine ⟨t.1,_,rfl,SqT.of (zAe hB _ _ _ et'),rfl,.int t.2.1,_,rfl,.int t.2.2,_,rfl,rfl,?_⟩
   refine ⟨_,rfl,_,rfl,_,_,rfl,rfl,cm_r (by omega),_,rfl,_,rfl,_,_,rfl,rfl,cm_r (by omega),_,_,rfl,rfl,_,rfl,r,_,_,.int 1,rfl,rfl,er6,rfl,_,_,rfl,rfl,cm_r (by decide),_,rfl,r,_,_,.int x,rfl,rfl,er6,rfl,_,_,rfl,rfl,?_⟩
   have fv:=far t.2 (List.mem_map_of_mem (List.mem_of_getElem? gt))
   have hd:decide (x < (X * t.2.1 + Y * t.2.2) * 1) = true:=decide_eq_true (by omega)
   refine ⟨zAc,zA3 (by rw [List.length_map,List.length_replicate]; omega),zGq,?_,_,_,rfl⟩
   rw [List.replicate_succ',List.map_append]
   show _ ++ [V.bl (decide (x < (X * t.2.1 + Y * t.2.2) * 1))] = _
   rw [hd]
   rfl
  ·rintro σ ys H' ⟨rfl,rfl,u0,v0,rfl⟩
   refine ⟨B,List.replicate (zAo ps).length true,rfl,SqL.of zAc,?_⟩
   rw [show (List.replicate (zAo ps).length true).all id = true from by simp]
   exact q _ ((s1.trans s15).trans (zAe hB _))
 ·have e1:Sq K H1 T [.str "can", .ref p1,.ref p2]:=.inr (SqT.of et)
  refine ⟨_,rfl,T,_,_,.str "can", rfl,rfl,e1,rfl,rfl,_,rfl,?_⟩
  refine ifSf (by decide) ?_
  refine ⟨_,rfl,T,_,_,.str "can", rfl,rfl,e1,rfl,rfl,_,rfl,?_⟩
  refine ifSf (by decide) ?_
  refine ⟨_,rfl,T,_,_,.str "can", rfl,rfl,e1,rfl,rfl,_,rfl,?_⟩
  refine ifSf (by decide) ?_
  refine ⟨_,rfl,T,_,_,.ref p1,rfl,rfl,e1,rfl,_,rfl,T,_,_,.ref p2,rfl,rfl,e1,rfl,?_⟩
  have q1:Sq K H1 p1 [.int P1.1,.int P1.2.1,.int P1.2.2]:=.inr (SqT.of ep1.1)
  have q2:Sq K H1 p2 [.int P2.1,.int P2.2.1,.int P2.2.2]:=.inr (SqT.of ep2.1)
  have mn:¬ (if P2.2.2 < P1.2.2 then P2.2.2 else P1.2.2) < 1:=by
   have z1:=ep1.2.1
   have z2:=ep2.2.1
   split <;> omega
  refine ⟨_,_,rfl,?_⟩
  refine ⟨_,rfl,p1,_,_,.int P1.2.2,rfl,rfl,q1,rfl,_,rfl,p2,_,_,.int P2.2.2,rfl,rfl,q2,rfl,P1.2.2,P2.2.2,rfl,_,_,rfl,rfl,_,rfl,?_⟩
  refine ifD (fun z=>absurd z mn) (fun _=>?_)
  have hs:∀ {H':Hp} {us:List Sd},SdOk H' us→∀ t∈us,H' t.1 = some (.tup [.int t.2.1,.int t.2.2.1,.int t.2.2.2])∧t.2.1.natAbs≤10 ^ 18∧t.2.2.1.natAbs≤10 ^ 18∧t.2.2.2.natAbs≤10 ^ 18:=fun h t ht=>by
   obtain ⟨h1,_,h2,h3,h4⟩:=h t ht
   exact ⟨h1,Nat.le_trans h2 (by decide),Nat.le_trans h3 (by decide),Nat.le_trans h4 (by decide)⟩
  refine ⟨_,rfl,_,rfl,l,p1,ss,P1.1,P1.2.1,P1.2.2,rfl,by rw [el1,zEh],by omega,hs ok1,ep1.1,fun H2 s2=>?_⟩
  rw [zRp w1]
  refine ⟨_,rfl,?_⟩
  refine iteF ?_
  refine ⟨_,rfl,_,rfl,l,p2,ss,P2.1,P2.2.1,P2.2.2,rfl,by rw [s2 _ _ el1,zEh],by omega,hs (ok1.same s2),s2 _ _ ep2.1,fun H3 s3=>?_⟩
  rw [zRp w2]
  refine ⟨_,rfl,?_⟩
  refine iteF ?_
  have s13:=s2.trans s3
  refine ⟨_,rfl,_,rfl,E0,p1,es,P1.1,P1.2.1,P1.2.2,rfl,by rw [s13 _ _ eE,zEh],by omega,hs (oke.same s13),s13 _ _ ep1.1,fun H4 s4=>?_⟩
  rw [(zL9 mes).mpr i1]
  refine ⟨_,rfl,?_⟩
  refine iteT ?_
  have s14:=s13.trans s4
  refine ⟨_,rfl,_,rfl,E0,p2,es,P2.1,P2.2.1,P2.2.2,rfl,by rw [s14 _ _ eE,zEh],by omega,hs (oke.same s14),s14 _ _ ep2.1,fun H5 s5=>?_⟩
  have no:(hasB es P2.1 P2.2.1 P2.2.2).all id = false:=Bool.eq_false_iff.mpr fun z=>by
   have:=(zL9 mes).mp z e2 me2
   omega
  rw [no]
  exact ⟨_,rfl,q _ ((s1.trans s14).trans s5)⟩
 ·have e1:Sq K H1 T [.str "must", .ref W]:=.inr (SqT.of et)
  refine ⟨_,rfl,T,_,_,.str "must", rfl,rfl,e1,rfl,rfl,_,rfl,?_⟩
  refine ifSf (by decide) ?_
  refine ⟨_,rfl,T,_,_,.str "must", rfl,rfl,e1,rfl,rfl,_,rfl,?_⟩
  refine ifSf (by decide) ?_
  refine ⟨_,rfl,T,_,_,.str "must", rfl,rfl,e1,rfl,rfl,_,rfl,?_⟩
  refine ifSt ?_
  have nt:(zF6 tl).length = tl.length:=by rw [List.length_map,List.length_map]
  rw [List.length_map] at ntl
  refine ⟨_,rfl,T,_,_,.ref W,rfl,rfl,e1,rfl,W,_,rfl,.inl (SqL.of eW),_,rfl,E0,_,rfl,.inl (SqL.of eE),rfl,_,rfl,?_⟩
  refine ifNe (fun z=>absurd (by rw [nt,zAk,ntl,nes]) z) (fun _=>?_)
  refine ⟨_,rfl,_,rfl,T,_,_,.ref W,rfl,rfl,e1,rfl,true,true,E0,W,_,_,rfl,SqL.of eE,SqL.of eW,zV0 (K:=K) (b1:=true) (b2:=true) (l1:=E0) (l2:=W) (xs:=zAm es) (ys:=zF6 tl) (fun i σ H'=>Same H1 H'∧∃ u6 u7 u8 u9 u10:Option V,σ = [some (.ref l),some (.ref c),some (.ref T),some (.ref E0),none,none,u6,u7,u8,u9,u10,none,none])
   ⟨Same.refl _,none,none,none,none,none,rfl⟩ (fun i σ H' ⟨e,_⟩=>⟨SqL.of (e _ _ eE),SqL.of (e _ _ eW)⟩) ?_ ?_⟩
  ·rintro i x y T2 σ G hx hy hT ⟨sG,u6,u7,u8,u9,u10,rfl⟩
   obtain ⟨t,gt,rfl,hil⟩:=zBu hx
   rw [List.getElem?_map,List.getElem?_map] at hy
   cases gu:tl[i]? with
   | none=>rw [gu] at hy; cases hy
   | some u =>
    rw [gu] at hy
    cases hy
    obtain ⟨ett,nt',b1,b2,b3⟩:=oke t (List.mem_of_getElem? gt)
    obtain ⟨a1,a2,a3⟩:=all u (List.mem_of_getElem? gu)
    have ge:(zBp (ps.map (·.2)))[i]? = some t.2:=by rw [← mes,List.getElem?_map,gt]; rfl
    obtain ⟨x,y,bf,le⟩:=each i u t.2 gu ge
    have sT:=zAe hT (.tup [.ref t.1,.ref u.1])
    have eT:upd G T2 (.tup [.ref t.1,.ref u.1]) T2 = some (.tup [.ref t.1,.ref u.1]):=zAc
    generalize upd G T2 (.tup [.ref t.1,.ref u.1]) = G2 at sT eT ⊢
    have sG2:=sG.trans sT
    refine ⟨T2,_,rfl,SqT.of eT,rfl,.ref t.1,_,rfl,?_⟩
    refine ⟨t.1,_,rfl,SqT.of (sG2 _ _ ett),rfl,.int t.2.1,_,rfl,.int t.2.2.1,_,rfl,.int t.2.2.2,_,rfl,rfl,.ref u.1,_,rfl,rfl,?_⟩
    refine ⟨_,rfl,_,rfl,_,rfl,(by show 2≤sizeLine; decide),fun g hg=>?_⟩
    have sg:=zAe hg (.tup [.int t.2.1,.int t.2.2.1])
    have eg:upd G2 g (.tup [.int t.2.1,.int t.2.2.1]) g = some (.tup [.int t.2.1,.int t.2.2.1]):=zAc
    generalize upd G2 g (.tup [.int t.2.1,.int t.2.2.1]) = G3 at sg eg ⊢
    have sG3:=sG2.trans sg
    refine ⟨_,rfl,l,g,u.1,ss,t.2,u.2,rfl,sG3 _ _ el1,ok1.same sG3,by omega,.inr (SqT.of eg),Nat.le_trans b1 (by decide),Nat.le_trans b2 (by decide),sG3 _ _ a1,a2.same sG3,fun w hw=>⟨(a3.2 w hw).1,(a3.2 w hw).2.1⟩,fun G4 s4 z=>absurd z (by rw [bf]; exact fun z=>nomatch z),fun r x' y' G4 s4 er z=>?_⟩
    rw [bf] at z
    have z:=Option.some.inj z
    have zx:x = x':=congrArg (·.1) z
    have zy:y = y':=congrArg (·.2) z
    subst zx zy
    have er':Sq K G4 r [.int x,.int y]:=.inr (SqT.of er)
    refine ⟨_,rfl,rfl,_,rfl,?_⟩
    refine iteF ?_
    refine ⟨_,rfl,r,_,_,.int x,rfl,rfl,er',rfl,_,rfl,_,rfl,r,_,_,.int y,rfl,rfl,er',rfl,_,_,rfl,rfl,cm_l (by omega),_,_,rfl,rfl,_,rfl,?_⟩
    refine ifD (fun z=>absurd z (by omega)) (fun _=>?_)
    exact ⟨sG3.trans s4,_,_,_,_,_,rfl⟩
  ·rintro σ H' ⟨sH,u6,u7,u8,u9,u10,rfl⟩
   exact q _ (s1.trans sH)
def zGp (_:PySem.W.Frag):Sp:=fun vs H Q _=>∃ (x y z:Int),vs = [.int x,.int y,.int z]∧z≠0∧z.natAbs≤10 ^ 40∧∀ (p:Addr) (H':Hp),Same H H'→H p = none→H' p = some (.tup ((lowL (upL x y z)).map V.int))→Q (.ref p) H'
theorem zNy (F:Fun K "_law_spot_of" "_law_spot_of" zFq f fd) (Z:Zs mg) (h_L_low:Has P w K mg base "_law_low" 1 ["_law_one", "_law_other"] (zH5 K)):FnOk P w K mg base CX0 2 f fd ["_law_x", "_law_y", "_law_w"] (zGp K):=by
 refine F.ok zGj (fun vs H Q E h=>?_) (fun cdv A outer s H vs Q E hr h=>?_)
 ·obtain ⟨x,y,z,rfl,_⟩:=h
  rfl
 obtain ⟨x,y,z,rfl,hz,hz2,q⟩:=h
 refine ⟨_,(zAf (zA8 (zAu zF4 (pv 2) zAb (zAz _)) (zAi (zWb (i:=0) (j:=1) (k:=2) rfl zGj.nd rfl rfl rfl (by decide) (by decide) (by decide) rfl rfl rfl (zAa (zB6 zBc (pv 0)) (zAa (zB6 zBc (pv 1)) (zAa (zB6 zBc (pv 2)) zAd))) rfl)) zAx)
   (zAf (zAw (i:=3) zGj.nd rfl (Or.inl rfl) (zAh h_L_low (hr.mono (by decide)) rfl (zAa (zAh h_L_low (hr.mono (by decide)) rfl (zAa (pv 0) (zAa (pv 1) zAd))) (zAa (pv 2) zAd))))
   (zAi (zAr (zA0 (zAa (zAl zCu (pv 0) (pv 3)) (zAa (zAl zCu (pv 1) (pv 3)) (zAa (zAl zCu (pv 2) (pv 3)) zAd)))))))),?_⟩
 refine ⟨_,rfl,_,_,rfl,rfl,_,rfl,?_⟩
 refine ifD (fun hneg=>?_) (fun hpos=>?_)
 ·refine ⟨_,rfl,_,rfl,_,rfl,_,rfl,_,rfl,_,rfl,_,_,_,rfl,?_⟩
  have u:upL x y z = [-x,-y,-z]:=by unfold upL; rw [if_pos hneg]
  have eg:(Nat.gcd ((Nat.gcd (-x).natAbs (-y).natAbs:Nat):Int).natAbs (-z).natAbs:Nat) = gcdL [-x,-y,-z]:=gcd3 _ _ _
  refine ⟨_,rfl,_,rfl,-x,-y,rfl,_,rfl,_,-z,rfl,?_⟩
  rw [eg]
  have gp:0 < gcdL [-x,-y,-z]:=zBz (n:=-z) (by simp) (by omega)
  have gle:=zFp (ns:=[-x,-y,-z]) (n:=-z) (by simp) (by omega)
  have dv:∀ i:Int,zEs i (gcdL [-x,-y,-z]:Int):=fun i=>zEs.of (by omega) (Int.lt_of_le_of_lt (show (gcdL [-x,-y,-z]:Int)≤10 ^ 40 by omega) (by decide +kernel))
  refine ⟨_,rfl,_,rfl,_,_,rfl,rfl,dv _,_,rfl,_,rfl,_,_,rfl,rfl,dv _,_,rfl,_,rfl,_,_,rfl,rfl,dv _,(by show 3≤sizeLine; decide),fun p hp=>?_⟩
  refine q p _ (zAe hp _) hp ?_
  rw [u]
  exact zAc
 ·have u:upL x y z = [x,y,z]:=by unfold upL; rw [if_neg hpos]
  have eg:(Nat.gcd ((Nat.gcd (x).natAbs (y).natAbs:Nat):Int).natAbs (z).natAbs:Nat) = gcdL [x,y,z]:=gcd3 _ _ _
  refine ⟨_,rfl,_,rfl,x,y,rfl,_,rfl,_,z,rfl,?_⟩
  rw [eg]
  have gp:0 < gcdL [x,y,z]:=zBz (n:=z) (by simp) (by omega)
  have gle:=zFp (ns:=[x,y,z]) (n:=z) (by simp) (by omega)
  have dv:∀ i:Int,zEs i (gcdL [x,y,z]:Int):=fun i=>zEs.of (by omega) (Int.lt_of_le_of_lt (show (gcdL [x,y,z]:Int)≤10 ^ 40 by omega) (by decide +kernel))
  refine ⟨_,rfl,_,rfl,_,_,rfl,rfl,dv _,_,rfl,_,rfl,_,_,rfl,rfl,dv _,_,rfl,_,rfl,_,_,rfl,rfl,dv _,(by show 3≤sizeLine; decide),fun p hp=>?_⟩
  refine q p _ (zAe hp _) hp ?_
  rw [u]
  exact zAc
def zNk (K:PySem.W.Frag):Sp:=fun vs H Q _=>∃ (a b:Addr) (e s:P3),vs = [.ref a,.ref b]∧Sq K H a [.int e.1,.int e.2.1,.int e.2.2]∧Sq K H b [.int s.1,.int s.2.1,.int s.2.2]∧e.1.natAbs≤10 ^ 9∧e.2.1.natAbs≤10 ^ 9∧e.2.2.natAbs≤10 ^ 13∧s.1.natAbs≤10 ^ 9∧s.2.1.natAbs≤10 ^ 9∧s.2.2.natAbs≤10 ^ 13 ∧
 (tn e s = 0→Q .non H)∧(tn e s≠0→∀ (p:Addr) (H':Hp),Same H H'→H p = none→H' p = some (.tup ((crL e s).map V.int))→Q (.ref p) H')
theorem zQ1 (F:Fun K "_law_meet" "_law_meet" zJg f fd) (Z:Zs mg) (h_L_spot_of:Has P w K mg base "_law_spot_of" 2 ["_law_x", "_law_y", "_law_w"] (zGp K)):FnOk P w K mg base CX0 3 f fd ["_law_one", "_law_other"] (zNk K):=by
 refine F.ok zMt (fun vs H Q E h=>?_) (fun cdv A outer s H vs Q E hr h=>?_)
 ·obtain ⟨a,b,e,s,rfl,_⟩:=h
  rfl
 obtain ⟨a,b,e,t,rfl,ha,hb,b1,b2,b3,c1,c2,c3,q0,q⟩:=h
 refine ⟨_,(zAf (zAw (i:=2) zMt.nd rfl (Or.inl rfl) (zAl zA6 (zAl zA2 (zAn zAg (pv 0) zAb (fun _ _=>rfl)) (zAn zAg (pv 1) zAb (fun _ _=>rfl))) (zAl zA2 (zAn zAg (pv 0) zAb (fun _ _=>rfl)) (zAn zAg (pv 1) zAb (fun _ _=>rfl)))))
   (zAf (zA8 (zAu zCi (pv 2) zAb (zAz _)) (zAi (zAr zBm)) zAx)
   (zAi (zAr (zAh h_L_spot_of (hr.mono (by decide)) rfl (zAa (zAl zA6 (zAl zA2 (zAn zAg (pv 0) zAb (fun _ _=>rfl)) (zAn zAg (pv 1) zAb (fun _ _=>rfl))) (zAl zA2 (zAn zAg (pv 1) zAb (fun _ _=>rfl)) (zAn zAg (pv 0) zAb (fun _ _=>rfl)))) (zAa (zAl zA6 (zAl zA2 (zAn zAg (pv 0) zAb (fun _ _=>rfl)) (zAn zAg (pv 1) zAb (fun _ _=>rfl))) (zAl zA2 (zAn zAg (pv 1) zAb (fun _ _=>rfl)) (zAn zAg (pv 0) zAb (fun _ _=>rfl)))) (zAa (pv 2) zAd)))))))),?_⟩
 have z1:=zAj e.1 t.2.1 b1 c2
 have z2:=zAj e.2.1 t.1 b2 c1
 refine ⟨_,rfl,a,_,_,.int e.1,rfl,rfl,ha,rfl,_,rfl,b,_,_,.int t.2.1,rfl,rfl,hb,rfl,_,_,rfl,rfl,cm_l (Nat.le_trans b1 (by decide)),_,rfl,a,_,_,.int e.2.1,rfl,rfl,ha,rfl,_,rfl,b,_,_,.int t.1,rfl,rfl,hb,rfl,_,_,rfl,rfl,cm_l (Nat.le_trans b2 (by decide)),_,_,rfl,rfl,?_⟩
 refine ⟨_,rfl,rfl,_,rfl,?_⟩
 refine ifE (fun hw=>q0 hw) (fun hw=>?_)
 refine ⟨_,rfl,a,_,_,.int e.2.2,rfl,rfl,ha,rfl,_,rfl,b,_,_,.int t.2.1,rfl,rfl,hb,rfl,_,_,rfl,rfl,cm_l (Nat.le_trans b3 (by decide)),_,rfl,b,_,_,.int t.2.2,rfl,rfl,hb,rfl,_,rfl,a,_,_,.int e.2.1,rfl,rfl,ha,rfl,_,_,rfl,rfl,cm_l (Nat.le_trans c3 (by decide)),_,_,rfl,rfl,
  _,rfl,a,_,_,.int e.1,rfl,rfl,ha,rfl,_,rfl,b,_,_,.int t.2.2,rfl,rfl,hb,rfl,_,_,rfl,rfl,cm_l (Nat.le_trans b1 (by decide)),_,rfl,b,_,_,.int t.1,rfl,rfl,hb,rfl,_,rfl,a,_,_,.int e.2.2,rfl,rfl,ha,rfl,_,_,rfl,rfl,cm_l (Nat.le_trans c1 (by decide)),_,_,rfl,rfl,_,rfl,
  e.2.2 * t.2.1 - t.2.2 * e.2.1,e.1 * t.2.2 - t.1 * e.2.2,e.1 * t.2.1 - e.2.1 * t.1,rfl,hw,(show (e.1 * t.2.1 - e.2.1 * t.1).natAbs≤10 ^ 40 by omega),fun p H' s' hp ep=>q hw p H' s' hp ?_⟩
 rw [ep]
 unfold crL
 rw [Int.mul_comm t.2.2 e.2.1,Int.mul_comm t.1 e.2.2]
theorem zTa {ss:List Sd} {P:P3} : (hasB ss P.1 P.2.1 P.2.2).all id = inWB ss P:=by
 unfold hasB inWB
 rw [List.all_map]
 congr 1
 funext t
 show decide (t.2.1 * P.1 + t.2.2.1 * P.2.1≤t.2.2.2 * P.2.2) = decide (sv t.2 P≤0)
 refine decide_eq_decide.mpr ?_
 unfold sv
 omega
theorem zU0 {H:Hp} {ss:List Sd} (ok:SdOk H ss):∀ t∈ss,H t.1 = some (.tup [.int t.2.1,.int t.2.2.1,.int t.2.2.2])∧t.2.1.natAbs≤10 ^ 18∧t.2.2.1.natAbs≤10 ^ 18∧t.2.2.2.natAbs≤10 ^ 18:=fun t ht=>by
 obtain ⟨h1,_,h2,h3,h4⟩:=ok t ht
 exact ⟨h1,by omega,by omega,by omega⟩
structure CrK (ss:List Sd) (i j:Nat) (ks:List (List Int)):Prop where
 each:∀ k∈ks,∃ t∈ss,∃ u∈ss,tn t.2 u.2≠0∧k = crL t.2 u.2∧inW ss (pt3 (crL t.2 u.2))
 all:∀ (a b:Nat) (t u:Sd),a < b→(a < i∨(a = i∧b < i + 1 + j))→ss[a]? = some t→ss[b]? = some u→tn t.2 u.2≠0→inW ss (pt3 (crL t.2 u.2))→crL t.2 u.2∈ks
def zGe (K:PySem.W.Frag):Sp:=fun vs H Q _=>∃ (l:Addr) (ss:List Sd),vs = [.ref l]∧H l = some (.lst (zAm ss))∧SdOk H ss∧ss.length≤900 ∧
 ∀ (D:Addr) (qs:List (Addr × P3)) (H':Hp),Same H H'→H D = none→H' D = some (.lst (zB4 qs))→zLa H' qs→qs.length≤1000000→(∀ t∈ss,∀ u∈ss,tn t.2 u.2≠0→inW ss (pt3 (crL t.2 u.2))→pt3 (crL t.2 u.2)∈qs.map (·.2))→(qs.map (·.2)).Nodup→(∀ P∈qs.map (·.2),Cor ss P)→Q (.ref D) H'
theorem zKo (F:Fun K "_law_corners_of" "_law_corners_of" zDs f fd) (Z:Zs mg) (h_L_has:Has P w K mg base "_law_has" 1 ["_law_sides_here", "_law_place"] (zJu K)) (h_L_meet:Has P w K mg base "_law_meet" 3 ["_law_one", "_law_other"] (zNk K)):FnOk P w K mg base CX0 4 f fd ["_law_sides_here"] (zGe K):=by
 refine F.ok zB7 (fun vs H Q E h=>?_) (fun cdv A outer s H vs Q E hr h=>?_)
 ·obtain ⟨l,ss,rfl,_⟩:=h
  rfl
 obtain ⟨l,ss,rfl,el,ok,hlen,q⟩:=h
 have hu1:=Nat.lt_of_le_of_lt (Nat.add_le_add_left (show 1≤64 by decide) _) hr.units
 have big:∀ n:Nat,n≤1000000→n < sizeLine:=fun n hn=>Nat.lt_of_le_of_lt hn (by decide)
 refine ⟨_,(zAf (zAw (i:=1) zB7.nd rfl (Or.inl rfl) zO8)
   (zAf (zCz PassesOwn.never rfl (zSr rfl Z.enumerate (zAa (pv 0) zAd)) (zB5 rfl (zAs (zAq (i:=2) zB7.nd rfl (Or.inl rfl)) (zAs (zAq (i:=3) zB7.nd rfl (Or.inl rfl)) zBf))) (zAi (zCz PassesOwn.never rfl (zMc (zBy zCy (pv 0) (zCo (zAl zBd (pv 2) zAb)) zCn)) (zAq (i:=4) zB7.nd rfl (Or.inl rfl)) (zAf (zAw (i:=5) zB7.nd rfl (Or.inl rfl) (zAh h_L_meet (hr.mono (by decide)) rfl (zAa (pv 3) (zAa (pv 4) zAd))))
   (zAi (zA8 (PW.pt (zGb (zAu zGv (pv 5) zBm (zAz _)) (zEp (zCv (zAh h_L_has (hr.mono (by decide)) rfl (zAa (pv 0) (zAa (pv 5) zAd))))))) (zAi (zQ3 hu1 (pv 1) (pv 5) zE3 rfl)) zAx))))))
   (zAi (zAr (zGo (zIu rfl) rfl Z.list zGn (zAa (pv 1) zAd)))))),?_⟩
 refine fun d hd=>?_
 refine ⟨_,rfl,l,_,rfl,zAe hd _ _ _ el,zTs (K:=K) (l:=l) (xs:=zAm ss) (fun i σ H'=>Same H H'∧(∃ kvs ks,H' d = some (.dT kvs)∧TabK kvs ks∧ks.length≤1000 * i∧CrK ss i 0 ks)∧∃ u2 u3 u4 u5:Option V,σ = [some (.ref l),some (.ref d),u2,u3,u4,u5])
  ⟨zAe hd _,⟨[],[],zAc,.nil,Nat.le_refl _,(fun k hk=>nomatch hk),fun a b t u hab hc=>absurd hc (by omega)⟩,none,none,none,none,rfl⟩ (fun i σ H' ⟨e,_⟩=>SqL.of (e _ _ el)) ?_ ?_⟩
 ·rintro i v T σ H' hi hT ⟨sH,⟨kvs,ks,eD,tk,hks,cr⟩,u2,u3,u4,u5,rfl⟩
  obtain ⟨t,gt,rfl,hil⟩:=zBu hi
  obtain ⟨et0,nt,b1,b2,b3⟩:=ok t (List.mem_of_getElem? gt)
  have sT:Same H' (upd H' T (.tup [.int i,.ref t.1])):=zAe hT _
  have eT:upd H' T (.tup [.int i,.ref t.1]) T = some (.tup [.int i,.ref t.1]):=zAc
  generalize upd H' T (.tup [.int i,.ref t.1]) = H2 at sT eT ⊢
  refine ⟨T,_,rfl,SqT.of eT,rfl,.int i,_,rfl,.ref t.1,_,rfl,rfl,?_⟩
  have sH2:=sH.trans sT
  refine ⟨_,rfl,_,rfl,_,_,rfl,rfl,_,rfl,l,_,rfl,SqL.of (sH2 _ _ el),fun c hc=>?_⟩
  rw [show ((i:Nat):Int) + 1 = ((i + 1:Nat):Int) from by omega,zSv]
  have sc:Same H2 (upd H2 c (.lst (zAm (ss.drop (i + 1))))):=zAe hc _
  have ec:upd H2 c (.lst (zAm (ss.drop (i + 1)))) c = some (.lst (zAm (ss.drop (i + 1)))):=zAc
  generalize upd H2 c (.lst (zAm (ss.drop (i + 1)))) = H3 at sc ec ⊢
  have s3:=sH2.trans sc
  have eD3:=sc _ _ (sT _ _ eD)
  have ncd:c≠d:=fun z=>by rw [z] at ec; rw [ec] at eD3; cases eD3
  refine ⟨c,rfl,⟨_,SqL.of ec⟩,zCt (K:=K) (a:=c) (xs:=zAm (ss.drop (i + 1))) (fun j σ H'=>Same H H'∧H' c = some (.lst (zAm (ss.drop (i + 1))))∧(∃ kvs ks,H' d = some (.dT kvs)∧TabK kvs ks∧ks.length≤1000 * i + j∧CrK ss i j ks)∧∃ u4 u5:Option V,σ = [some (.ref l),some (.ref d),some (.int i),some (.ref t.1),u4,u5])
   ⟨s3,ec,⟨kvs,ks,eD3,tk,by omega,cr⟩,_,_,rfl⟩ (fun j σ H' _ ⟨_,e,_⟩=>SqL.of e) ?_ ?_⟩
  ·rintro j v σ H4 hj ⟨s4,ec4,⟨kvs,ks,eD4,tk,hks4,cr⟩,u4,u5,rfl⟩
   obtain ⟨u,gu0,rfl,hjl⟩:=zBu hj
   rw [List.length_drop] at hjl
   have gu:ss[i + 1 + j]? = some u:=by rw [List.getElem?_drop] at gu0; exact gu0
   obtain ⟨eu0,_,c1,c2,c3⟩:=ok u (List.mem_of_getElem? gu)
   have step:∀ ks':List (List Int),(∀ k∈ks,k∈ks')→(∀ k∈ks',k∈ks∨(tn t.2 u.2≠0∧k = crL t.2 u.2∧inW ss (pt3 (crL t.2 u.2))))→(tn t.2 u.2≠0→inW ss (pt3 (crL t.2 u.2))→crL t.2 u.2∈ks')→CrK ss i (j + 1) ks':=fun ks' k1 k2 k3=>by
    refine ⟨fun k hk=>?_,fun a b x y hab hc gx gy hxy hw=>?_⟩
    ·rcases k2 k hk with h | ⟨h1,h2⟩
     ·exact cr.each k h
     ·exact ⟨t,List.mem_of_getElem? gt,u,List.mem_of_getElem? gu,h1,h2⟩
    ·by_cases e:a = i∧b = i + 1 + j
     ·obtain ⟨rfl,rfl⟩:=e
      rw [gt] at gx
      rw [gu] at gy
      cases gx
      cases gy
      exact k3 hxy hw
     ·exact k1 _ (cr.all a b x y hab (by omega) gx gy hxy hw)
   refine ⟨_,rfl,_,rfl,t.1,u.1,t.2,u.2,rfl,.inr (SqT.of (s4 _ _ et0)),.inr (SqT.of (s4 _ _ eu0)),b1,b2,b3,c1,c2,c3,fun h0=>?_,fun h0 p H5 s5 hp ep=>?_⟩
   ·refine ⟨_,rfl,rfl,_,rfl,?_⟩
    refine iteF ?_
    refine iteF ?_
    exact ⟨s4,ec4,⟨kvs,ks,eD4,tk,by omega,step ks (fun k h=>h) (fun k h=>.inl h) fun z=>absurd h0 z⟩,_,_,rfl⟩
   ·obtain ⟨sp,_,_⟩:=zFa h0
    have ep':H5 p = some (.tup [.int (pt3 (crL t.2 u.2)).1,.int (pt3 (crL t.2 u.2)).2.1,.int (pt3 (crL t.2 u.2)).2.2]):=by
     rw [ep,sp.list]
     rfl
    have s45:=s4.trans s5
    refine ⟨_,rfl,rfl,_,rfl,?_⟩
    refine iteT ?_
    refine ⟨_,rfl,_,rfl,l,p,ss,_,_,_,rfl,by rw [← zEh]; exact s45 _ _ el,by omega,zU0 (ok.same s45),ep',fun H6 s6=>?_⟩
    rw [zTa]
    refine ⟨_,rfl,?_⟩
    by_cases hw:inWB ss (pt3 (crL t.2 u.2)) = true
    ·rw [hw]
     refine iteT ?_
     have eD6:=s6 _ _ (s5 _ _ eD4)
     obtain ⟨ks',tk',mem',len'⟩:=tk.put (crL t.2 u.2) (.bl true)
     have kl:=tk.len
     refine ⟨_,rfl,_,rfl,d,_,rfl,DPut.t (k:=keyI (crL t.2 u.2)) eD6 (by rw [zKg]; exact s6 _ _ ep) (by rw [kl]; exact big _ (by omega)),?_⟩
     refine ⟨(s45.trans s6).putNew hd,?_,⟨_,ks',zAc,tk',by omega,step ks' (fun k h=>(mem' k).mpr (.inl h)) (fun k h=>((mem' k).mp h).imp id fun z=>⟨h0,z,zD5.mp hw⟩) fun _ _=>(mem' _).mpr (.inr rfl)⟩,_,_,rfl⟩
     rw [zA5 ncd]
     exact s6 _ _ (s5 _ _ ec4)
    ·have hw':inWB ss (pt3 (crL t.2 u.2)) = false:=by simpa using hw
     rw [hw']
     refine iteF ?_
     exact ⟨s45.trans s6,s6 _ _ (s5 _ _ ec4),⟨kvs,ks,s6 _ _ (s5 _ _ eD4),tk,by omega,step ks (fun k h=>h) (fun k h=>.inl h) fun _ z=>absurd (zD5.mpr z) hw⟩,_,_,rfl⟩
  ·rintro σ H4 ⟨s4,_,⟨kvs,ks,eD4,tk,hks4,cr⟩,u4,u5,rfl⟩
   rw [zAk,List.length_drop] at hks4 cr
   refine ⟨s4,⟨kvs,ks,eD4,tk,by omega,cr.each,fun a b x y hab hc gx gy=>?_⟩,_,_,_,_,rfl⟩
   have hb:b < ss.length:=(List.getElem?_eq_some_iff.mp gy).1
   exact cr.all a b x y hab (by omega) gx gy
 ·rintro σ H' ⟨sH,⟨kvs,ks,eD,tk,hks,cr⟩,u2,u3,u4,u5,rfl⟩
  rw [zAk] at hks cr
  refine ⟨_,rfl,d,kvs,rfl,eD,fun p1 ts hp1 ets hts=>?_⟩
  have sp1:=zAe hp1 (.lst ((ts.map (·.1)).map V.ref))
  obtain ⟨us,w1,w2,w3⟩:=tk.refs ets hts
  have hk:us.length = ks.length:=by have z:=congrArg List.length w2; rwa [List.length_map] at z
  refine q p1 (us.map fun u=>(u.1,pt3 u.2)) _ (sH.trans sp1) (sH.free hp1) (by rw [zAc]; simp only [zB4,List.map_map]; rw [← List.map_map,← w1]; simp) (fun x hx=>?_) (by rw [List.length_map]; omega) (fun t ht u hu htu hw=>?_) ?_ fun P hP=>?_
  ·obtain ⟨y,hy,rfl⟩:=List.mem_map.mp hx
   have hyk:y.2∈ks:=by rw [← w2]; exact List.mem_map_of_mem hy
   obtain ⟨t,_,u,_,htu,ek,_⟩:=cr.each y.2 hyk
   obtain ⟨sp,_,_⟩:=zFa htu
   have ey:=sp1 _ _ (w3 y hy)
   rw [ek] at ey ⊢
   refine ⟨?_,sp.pos,sp.low⟩
   show upd H' p1 _ y.1 = _
   rw [ey,sp.list]
   rfl
  ·obtain ⟨a,ha,ea⟩:=List.getElem_of_mem ht
   obtain ⟨b,hb,eb⟩:=List.getElem_of_mem hu
   have ga:ss[a]? = some t:=by rw [List.getElem?_eq_getElem ha,ea]
   have gb:ss[b]? = some u:=by rw [List.getElem?_eq_getElem hb,eb]
   have key:crL t.2 u.2∈ks:=by
    by_cases hab:a < b
    ·exact cr.all a b t u hab (.inl (by omega)) ga gb htu hw
    ·by_cases e:a = b
     ·subst e
      rw [ga] at gb
      cases gb
      exact absurd (by unfold tn; rw [Int.mul_comm]; omega) htu
     ·have hut:tn u.2 t.2≠0:=fun z=>htu (by unfold tn at z ⊢; rw [Int.mul_comm u.2.1,Int.mul_comm u.2.2.1] at z; omega)
      rw [zVm htu] at hw ⊢
      exact cr.all b a u t (by omega) (.inl (by omega)) gb ga hut hw
   rw [List.map_map]
   have z:crL t.2 u.2∈us.map (·.2):=by rw [w2]; exact key
   obtain ⟨y,hy,ey⟩:=List.mem_map.mp z
   exact List.mem_map.mpr ⟨y,hy,by show pt3 y.2 = _; rw [ey]⟩
  ·have e:(us.map fun u=>(u.1,pt3 u.2)).map (·.2) = ks.map pt3:=by rw [← w2,List.map_map,List.map_map]; rfl
   rw [e,List.Nodup,List.pairwise_map]
   refine List.Pairwise.imp_of_mem (fun {k k'} hk hk' hne ee=>?_) tk.nodup
   obtain ⟨t,_,u,_,htu,rfl,_⟩:=cr.each k hk
   obtain ⟨t',_,u',_,htu',rfl,_⟩:=cr.each k' hk'
   exact hne (by rw [(zFa htu).1.list,(zFa htu').1.list,ee])
  ·rw [List.map_map] at hP
   obtain ⟨y,hy,rfl⟩:=List.mem_map.mp hP
   have hyk:y.2∈ks:=by rw [← w2]; exact List.mem_map_of_mem hy
   obtain ⟨t,ht,u,hu,htu,ek,hw⟩:=cr.each y.2 hyk
   exact ⟨t,ht,u,hu,htu,by show pt3 y.2 = _; rw [ek],by show inW ss (pt3 y.2); rw [ek]; exact hw⟩
def zNr (K:PySem.W.Frag):Sp:=fun vs H Q _=>∃ (l:Addr) (ss:List Sd),vs = [.ref l]∧SqL K H l (zAm ss)∧SdOk H ss∧ss.length≤900 ∧
 ∀ (D:Addr) (qs:List (Addr × P3)) (H':Hp),Same H H'→H D = none→H' D = some (.lst (zB4 qs))→zLa H' qs→qs.map (·.2) = ss.map (fun t=>pt3 (ftL t.2))→Q (.ref D) H'
theorem zTe (F:Fun K "_law_feet" "_law_feet" zJi f fd) (Z:Zs mg) (h_L_spot_of:Has P w K mg base "_law_spot_of" 2 ["_law_x", "_law_y", "_law_w"] (zGp K)):FnOk P w K mg base CX0 3 f fd ["_law_sides_here"] (zNr K):=by
 refine F.ok zSk (fun vs H Q E h=>?_) (fun cdv A outer s H vs Q E hr h=>?_)
 ·obtain ⟨l,ss,rfl,_⟩:=h
  rfl
 obtain ⟨l,ss,rfl,hl,ok,hlen,q⟩:=h
 refine ⟨_,(zAi (zAr (zC0 (T:=["_law_a", "_law_b", "_law_c"]) (caps:=[]) ⟨rfl,by decide +kernel,by decide +kernel,rfl,True.intro⟩ rfl (zCc (pv 0)) (fun _=>(zB5 rfl (zAs (zAq (i:=0) (show (["_law_a", "_law_b", "_law_c"]:List Str).Nodup by decide +kernel) rfl (Or.inl rfl)) (zAs (zAq (i:=1) (show (["_law_a", "_law_b", "_law_c"]:List Str).Nodup by decide +kernel) rfl (Or.inl rfl)) (zAs (zAq (i:=2) (show (["_law_a", "_law_b", "_law_c"]:List Str).Nodup by decide +kernel) rfl (Or.inl rfl)) zBf))))) (fun _=>zBl) (fun _=>(zAh h_L_spot_of (hr.mono (by decide)) rfl (zAa (zAl zA2 (pv 0) (pv 2)) (zAa (zAl zA2 (pv 1) (pv 2)) (zAa (zAl zBd (zAl zA2 (pv 0) (pv 0)) (zAl zA2 (pv 1) (pv 1))) zAd)))))))),?_⟩
 refine ⟨_,rfl,l,rfl,.inl ⟨⟨_,hl⟩,fun c D hD=>zBj (K:=K) (a:=l) (xs:=zAm ss) (fun i σ ys H'=>Same H H'∧H' D = some (.lst ys)∧(∃ qs:List (Addr × P3),ys = zB4 qs∧qs.length = i∧zLa H' qs∧qs.map (·.2) = (ss.take i).map (fun t=>pt3 (ftL t.2)))∧∃ u v z:Option V,σ = [u,v,z])
  ⟨zAe hD _,zAc,⟨[],rfl,rfl,(fun t ht=>nomatch ht),rfl⟩,none,none,none,rfl⟩ (fun i σ ys H' _ ⟨e1,e2,_⟩=>⟨e1.seq hl,e2⟩) ?_ ?_⟩⟩
 ·rintro i v σ ys H' hi ⟨sH,eD,⟨qs,rfl,hq,okq,hm⟩,u,v',z,rfl⟩
  obtain ⟨t,gt,rfl,hil⟩:=zBu hi
  obtain ⟨et0,nt,c1,c2,c3⟩:=ok t (List.mem_of_getElem? gt)
  have z1:=zAj t.2.1 t.2.1 c1 c1
  have z2:=zAj t.2.2.1 t.2.2.1 c2 c2
  have pos:=zEy nt
  refine ⟨t.1,_,rfl,SqT.of (sH _ _ et0),rfl,.int t.2.1,_,rfl,.int t.2.2.1,_,rfl,.int t.2.2.2,_,rfl,rfl,?_⟩
  refine ⟨_,rfl,_,rfl,_,_,rfl,rfl,cm_l (by omega),_,rfl,_,rfl,_,_,rfl,rfl,cm_l (by omega),_,rfl,_,rfl,_,_,rfl,rfl,cm_l (by omega),_,rfl,_,rfl,_,_,rfl,rfl,cm_l (by omega),_,_,rfl,rfl,
   t.2.1 * t.2.2.2,t.2.2.1 * t.2.2.2,t.2.1 * t.2.1 + t.2.2.1 * t.2.2.1,rfl,by omega,by omega,fun p H2 s2 hp ep=>?_⟩
  obtain ⟨sf,_⟩:=zR0 (t:=t.2) nt
  have ep':H2 p = some (.tup [.int (pt3 (ftL t.2)).1,.int (pt3 (ftL t.2)).2.1,.int (pt3 (ftL t.2)).2.2]):=by
   have z:H2 p = some (.tup ((ftL t.2).map V.int)):=ep
   rw [z,sf.list]
   rfl
  have npD:p≠D:=fun z=>by rw [z,eD] at hp; cases hp
  refine ⟨s2 _ _ eD,zA3 (by simp only [List.length_map]; omega),(sH.trans s2).putNew hD,zAc,⟨qs ++ [(p,pt3 (ftL t.2))],by simp [zB4],by rw [List.length_append,hq]; rfl,fun u hu=>?_,by rw [zB1 gt,List.map_append,List.map_append,hm]; rfl⟩,_,_,_,rfl⟩
  rcases List.mem_append.mp hu with hu | hu
  ·obtain ⟨g1,g2⟩:=okq u hu
   exact ⟨by rw [zA5 (zIb (s2 _ _ g1) (s2 _ _ eD) (by intro z; cases z))]; exact s2 _ _ g1,g2⟩
  ·rw [List.mem_singleton] at hu
   subst hu
   refine ⟨?_,sf.pos,sf.low⟩
   show upd H2 D _ p = _
   rw [zA5 npD]
   exact ep'
 ·rintro σ ys H' ⟨sH,eD,⟨qs,rfl,hq,okq,hm⟩,u,v',z,rfl⟩
  rw [zAk,List.take_length] at hm
  exact q D qs H' sH hD eD okq hm
def zHe (K:PySem.W.Frag):Sp:=fun vs H Q _=>∃ (l:Addr) (ss:List Sd),vs = [.ref l]∧H l = some (.lst (zAm ss))∧SdOk H ss∧ss.length≤900 ∧
 (∀ H':Hp,Same H H'→(∀ P:P3,Cand ss P→¬ inW ss P)→Q .non H') ∧
 ∀ (p:Addr) (P:P3) (H':Hp),Same H H'→SpAt H' p P→inW ss P→Q (.ref p) H'
theorem zK5 (F:Fun K "_law_any_place" "_law_any_place" zDz f fd) (Z:Zs mg) (h_L_corners_of:Has P w K mg base "_law_corners_of" 4 ["_law_sides_here"] (zGe K)) (h_L_feet:Has P w K mg base "_law_feet" 3 ["_law_sides_here"] (zNr K)) (h_L_has:Has P w K mg base "_law_has" 1 ["_law_sides_here", "_law_place"] (zJu K)):FnOk P w K mg base CX0 5 f fd ["_law_sides_here"] (zHe K):=by
 refine F.ok zG8 (fun vs H Q E h=>?_) (fun cdv A outer s H vs Q E hr h=>?_)
 ·obtain ⟨l,ss,rfl,_⟩:=h
  rfl
 obtain ⟨l,ss,rfl,el,ok,hlen,qn,q⟩:=h
 have big:∀ n:Nat,n≤2000000→n≤sizeLine:=fun n hn=>Nat.le_trans hn (by decide)
 refine ⟨_,(zAf (zCz PassesOwn.never rfl (zCc (zAl zEv (zAl zEv (zAh h_L_corners_of (hr.mono (by decide)) rfl (zAa (pv 0) zAd)) (zAh h_L_feet (hr.mono (by decide)) rfl (zAa (pv 0) zAd))) (zBo (zAa (zA0 (zAa zAb (zAa zAb (zAa zAb zAd)))) zAd)))) (zAq (i:=1) zG8.nd rfl (Or.inl rfl)) (zAi (zA8 (zCv (zAh h_L_has (hr.mono (by decide)) rfl (zAa (pv 0) (zAa (pv 1) zAd)))) (zAi (zAr (pv 1))) zAx)))
   (zAi (zAr zBm))),?_⟩
 refine ⟨_,rfl,l,ss,rfl,el,ok,hlen,fun D1 qs1 H1 s1 hD1 eD1 ok1 n1 all1 _ _=>?_⟩
 refine ⟨_,rfl,l,ss,rfl,SqL.of (s1 _ _ el),ok.same s1,hlen,fun D2 qs2 H2 s2 hD2 eD2 ok2 m2=>?_⟩
 have n2:qs2.length = ss.length:=by have z:=congrArg List.length m2; rwa [List.length_map,List.length_map] at z
 refine ⟨D1,D2,_,_,rfl,rfl,s2 _ _ eD1,eD2,big _ (by simp only [List.length_map]; omega),fun D3 hD3=>?_⟩
 have s3:Same H2 (upd H2 D3 (.lst (zB4 qs1 ++ zB4 qs2))):=zAe hD3 _
 have eD3:upd H2 D3 (.lst (zB4 qs1 ++ zB4 qs2)) D3 = some (.lst (zB4 (qs1 ++ qs2))):=by rw [zAc]; simp [zB4]
 generalize upd H2 D3 (.lst (zB4 qs1 ++ zB4 qs2)) = H3 at s3 eD3 ⊢
 refine ⟨(by show 3≤sizeLine; decide),fun o ho=>?_⟩
 have so:Same H3 (upd H3 o (.tup [.int 0,.int 0,.int 1])):=zAe ho _
 have eo:upd H3 o (.tup [.int 0,.int 0,.int 1]) o = some (.tup [.int 0,.int 0,.int 1]):=zAc
 generalize upd H3 o (.tup [.int 0,.int 0,.int 1]) = H4 at so eo ⊢
 refine ⟨(by show 1≤sizeLine; decide),fun ol hol=>?_⟩
 have sol:Same H4 (upd H4 ol (.lst [.ref o])):=zAe hol _
 have eol:upd H4 ol (.lst [.ref o]) ol = some (.lst [.ref o]):=zAc
 generalize upd H4 ol (.lst [.ref o]) = H5 at sol eol ⊢
 refine ⟨D3,ol,_,_,rfl,rfl,sol _ _ (so _ _ eD3),eol,big _ (by simp only [List.length_map,List.length_append]; show qs1.length + qs2.length + 1≤2000000; omega),fun L hL=>?_⟩
 have sL:Same H5 (upd H5 L (.lst (zB4 (qs1 ++ qs2) ++ [.ref o]))):=zAe hL _
 have eL:upd H5 L (.lst (zB4 (qs1 ++ qs2) ++ [.ref o])) L = some (.lst (zB4 ((qs1 ++ qs2) ++ [(o,(0,0,1))]))):=by rw [zAc]; simp [zB4]
 generalize upd H5 L (.lst (zB4 (qs1 ++ qs2) ++ [.ref o])) = H6 at sL eL ⊢
 have s46:=sol.trans sL
 have s26:=(s3.trans so).trans s46
 have s16:=s2.trans s26
 have s06:=s1.trans s16
 have okA:zLa H6 ((qs1 ++ qs2) ++ [(o,(0,0,1))]):=fun u hu=>by
  rcases List.mem_append.mp hu with hu | hu
  ·rcases List.mem_append.mp hu with hu | hu
   ·exact ok1.same s16 u hu
   ·exact ok2.same s26 u hu
  ·rw [List.mem_singleton] at hu
   subst hu
   exact ⟨s46 _ _ eo,(by show (0:Int) < 1; decide),(by show Nat.gcd (Nat.gcd (0:Int).natAbs (0:Int).natAbs) (1:Int).natAbs = 1; decide)⟩
 refine ⟨L,rfl,.inl ⟨⟨_,SqL.of eL⟩,zCt (K:=K) (a:=L) (xs:=zB4 ((qs1 ++ qs2) ++ [(o,(0,0,1))])) (fun i σ H'=>Same H6 H'∧(∀ j u,j < i→((qs1 ++ qs2) ++ [(o,(0,0,1))])[j]? = some u→¬ inW ss u.2)∧∃ u2:Option V,σ = [some (.ref l),u2])
  ⟨Same.refl _,fun j t hj=>absurd hj (Nat.not_lt_zero _),none,rfl⟩ (fun i σ H' _ ⟨e1,_⟩=>SqL.of (e1 _ _ eL)) ?_ ?_⟩⟩
 ·rintro i v σ H' hi ⟨sH,hall,u2,rfl⟩
  rw [List.getElem?_map,List.getElem?_map] at hi
  cases gu:((qs1 ++ qs2) ++ [(o,((0,0,1):P3))])[i]? with
  | none=>rw [gu] at hi; cases hi
  | some u =>
   rw [gu] at hi
   cases hi
   obtain ⟨eu,pu,lu⟩:=okA u (List.mem_of_getElem? gu)
   have s0H:=s06.trans sH
   refine ⟨_,rfl,_,rfl,l,u.1,ss,_,_,_,rfl,by rw [← zEh]; exact s0H _ _ el,by omega,zU0 (ok.same s0H),sH _ _ eu,fun H8 s8=>?_⟩
   rw [zTa]
   refine ⟨_,rfl,?_⟩
   by_cases hw:inWB ss u.2 = true
   ·rw [hw]
    refine iteT ?_
    exact ⟨_,rfl,q u.1 u.2 _ (s0H.trans s8) ⟨s8 _ _ (sH _ _ eu),pu,lu⟩ (zD5.mp hw)⟩
   ·have hw':inWB ss u.2 = false:=by simpa using hw
    rw [hw']
    refine iteF ?_
    refine ⟨sH.trans s8,fun j t hj ht=>?_,_,rfl⟩
    by_cases ej:j = i
    ·rw [ej,gu] at ht
     cases ht
     exact fun z=>hw (zD5.mpr z)
    ·exact hall j t (by omega) ht
 ·rintro σ H' ⟨sH,hall,u2,rfl⟩
  refine qn _ (s06.trans sH) fun P cP wP=>?_
  have nin:∀ u∈(qs1 ++ qs2) ++ [(o,((0,0,1):P3))],¬ inW ss u.2:=fun u hu=>by
   obtain ⟨j,hj,ej⟩:=List.getElem_of_mem hu
   exact hall j u (by simp only [List.length_map]; exact hj) (by rw [List.getElem?_eq_getElem hj,ej])
  rcases cP with rfl | ⟨t,ht,rfl⟩ | ⟨t,ht,u,hu,htu,rfl⟩
  ·exact nin (o,(0,0,1)) (by simp) wP
  ·have z:pt3 (ftL t.2)∈qs2.map (·.2):=by rw [m2]; exact List.mem_map.mpr ⟨t,ht,rfl⟩
   obtain ⟨y,hy,ey⟩:=List.mem_map.mp z
   exact nin y (List.mem_append_left _ (List.mem_append_right _ hy)) (by rw [ey]; exact wP)
  ·obtain ⟨y,hy,ey⟩:=List.mem_map.mp (all1 t ht u hu htu wP)
   exact nin y (List.mem_append_left _ (List.mem_append_left _ hy)) (by rw [ey]; exact wP)
def zIo (_:PySem.W.Frag):Sp:=fun vs H Q _=>∃ (T:Addr) (ss:List Sd) (us:List (Int × Int)),vs = [.ref T]∧us.length≤100∧zOc H ss us T∧∀ H',Same H H'→Q (.bl true) H'
theorem zMk (F:Fun K "_law_all_low" "_law_all_low" zFk f fd) (Z:Zs mg) (h_L_low_weights:Has P w K mg base "_law_low_weights" 2 ["_law_weights"] (zF1 K)):FnOk P w K mg base CX0 3 f fd ["_law_told"] (zIo K):=by
 refine F.ok zNn (fun vs H Q E h=>?_) (fun cdv A outer s H vs Q E hr h=>?_)
 ·obtain ⟨T,ss,us,rfl,_⟩:=h
  rfl
 obtain ⟨T,ss,us,rfl,lu,h,q⟩:=h
 refine ⟨_,(zAf (zA8 (zAu zCi (zAn zAg (pv 0) zAb (fun _ _=>rfl)) zDc (zAz _)) (zAi (zAr (zAh h_L_low_weights (hr.mono (by decide)) rfl (zAa (zAn zAg (pv 0) zAb (fun _ _=>rfl)) zAd)))) zAx)
   (zAf (zA8 (zAu zCi (zAn zAg (pv 0) zAb (fun _ _=>rfl)) zDc (zAz _)) (zAi (zAr (zAv (zGc rfl) rfl Z.all zNb (zAa (zC0 (T:=["_law_weights"]) (caps:=[]) ⟨rfl,by decide +kernel,by decide +kernel,rfl,True.intro⟩ rfl (zMc (zAn zAg (pv 0) zAb (fun _ _=>rfl))) (fun _=>(zAq (i:=0) (show (["_law_weights"]:List Str).Nodup by decide +kernel) rfl (Or.inl rfl))) (fun _=>zBl) (fun _=>(zAh h_L_low_weights (hr.mono (by decide)) rfl (zAa (pv 0) zAd)))) zAd)))) zAx)
   (zAi (zAr zE3)))),?_⟩
 rcases h with ⟨D,cs,et,_⟩ | ⟨d,L,X,Y,x,ws,et,ed,nd,_,_,eL,okw,wl,_⟩ | ⟨p1,p2,P1,P2,et,ep1,ep2,_⟩ | ⟨W,tl,et,eW,ntl,all,_⟩
 ·have e1:Sq K H T [.str "none", .ref D]:=.inr (SqT.of et)
  refine ⟨_,rfl,T,_,_,.str "none", rfl,rfl,e1,rfl,rfl,_,rfl,?_⟩
  refine ifSf (by decide) ?_
  refine ⟨_,rfl,T,_,_,.str "none", rfl,rfl,e1,rfl,rfl,_,rfl,?_⟩
  refine ifSf (by decide) ?_
  exact q _ (Same.refl _)
 ·have e1:Sq K H T [.str "cannot", .ref d,.ref L]:=.inr (SqT.of et)
  refine ⟨_,rfl,T,_,_,.str "cannot", rfl,rfl,e1,rfl,rfl,_,rfl,?_⟩
  refine ifSt ?_
  exact ⟨_,rfl,T,_,_,.ref L,rfl,rfl,e1,rfl,L,ws,rfl,eL,okw,wl.1,fun u hu=>(wl.2 u hu).2.2,fun H' s'=>q _ s'⟩
 ·have e1:Sq K H T [.str "can", .ref p1,.ref p2]:=.inr (SqT.of et)
  refine ⟨_,rfl,T,_,_,.str "can", rfl,rfl,e1,rfl,rfl,_,rfl,?_⟩
  refine ifSf (by decide) ?_
  refine ⟨_,rfl,T,_,_,.str "can", rfl,rfl,e1,rfl,rfl,_,rfl,?_⟩
  refine ifSf (by decide) ?_
  exact q _ (Same.refl _)
 ·have e1:Sq K H T [.str "must", .ref W]:=.inr (SqT.of et)
  refine ⟨_,rfl,T,_,_,.str "must", rfl,rfl,e1,rfl,rfl,_,rfl,?_⟩
  refine ifSf (by decide) ?_
  refine ⟨_,rfl,T,_,_,.str "must", rfl,rfl,e1,rfl,rfl,_,rfl,?_⟩
  refine ifSt ?_
  refine ⟨_,rfl,T,_,_,.ref W,rfl,rfl,e1,rfl,W,rfl,⟨_,SqL.of eW⟩,fun c B hB=>zBj (K:=K) (a:=W) (xs:=zF6 tl) (fun i σ ys H'=>Same H H'∧H' B = some (.lst ys)∧ys = (List.replicate i true).map V.bl∧∃ u,σ = [u])
   ⟨zAe hB _,zAc,rfl,none,rfl⟩ (fun i σ ys H' _ ⟨e,e2,_⟩=>⟨SqL.of (e _ _ eW),e2⟩) ?_ ?_⟩
  ·rintro i v σ ys G hi ⟨sG,eB,rfl,u0,rfl⟩
   rw [List.getElem?_map,List.getElem?_map] at hi
   cases gc:tl[i]? with
   | none=>rw [gc] at hi; cases hi
   | some u =>
    rw [gc] at hi
    cases hi
    have hil:i < tl.length:=(List.getElem?_eq_some_iff.mp gc).1
    obtain ⟨a1,a2,a3⟩:=all u (List.mem_of_getElem? gc)
    refine ⟨_,rfl,u.1,u.2,rfl,sG _ _ a1,a2.same sG,a3.1,fun w hw=>(a3.2 w hw).2.2,fun G2 s2=>?_⟩
    refine ⟨s2 _ _ eB,zA3 (by rw [List.length_map,List.length_replicate]; omega),(sG.trans s2).putNew hB,zAc,?_,_,rfl⟩
    rw [List.replicate_succ',List.map_append]
    rfl
  ·rintro σ ys G ⟨sG,eB,rfl,u0,rfl⟩
   refine ⟨B,List.replicate (zF6 tl).length true,rfl,SqL.of eB,?_⟩
   rw [show (List.replicate (zF6 tl).length true).all id = true from by simp]
   exact q _ sG
theorem zPg (u v:Int × Int):crs u v u = 0∧crs u v v = 0:=by
 unfold crs
 constructor
 ·rw [Int.sub_self,Int.sub_self,Int.mul_zero,Int.mul_zero]
  rfl
 ·rw [Int.mul_comm,Int.sub_self]
theorem zSg {vs:List (Int × Int)} (h:zI8 vs) {p:Int × Int} (mp:p∈vs) {e:P3} (me:e∈zBp vs):sv e (p.1,p.2,1)≤0:=by
 obtain ⟨i,hi,rfl⟩:=List.mem_map.mp me
 have hi:=List.mem_range.mp hi
 obtain ⟨k,hk,rfl⟩:=List.getElem_of_mem mp
 have n3:=h.len.1
 have ek:vs[k] = atP vs k:=by
  unfold atP
  rw [List.getElem?_eq_getElem hk]
  rfl
 rw [ek]
 have ne:=zI8.ne h i hi
 have cr:0≤crs (atP vs i) (atP vs ((i + 1) % vs.length)) (atP vs k):=by
  by_cases c1:k = i
  ·rw [c1,(zPg _ _).1]
   exact Int.le_refl _
  ·by_cases c2:k = (i + 1) % vs.length
   ·rw [← c2,(zPg _ _).2]
    exact Int.le_refl _
   ·exact Int.le_of_lt (zNs h hi hk c1 c2)
 generalize atP vs i = u at ne cr ⊢
 generalize atP vs ((i + 1) % vs.length) = v at ne cr ⊢
 generalize atP vs k = r at cr ⊢
 have gp:0 < gcdL (zBk u v):=by
  by_cases c:v.2 - u.2 = 0
  ·exact zBz (n:=-(v.1 - u.1)) (by simp [zBk]) fun z=>ne (Prod.ext (by omega) (by omega))
  ·exact zBz (n:=v.2 - u.2) (by simp [zBk]) c
 have sc:=zT7 u v r
 show (v.2 - u.2) / (gcdL (zBk u v):Int) * r.1 + -(v.1 - u.1) / (gcdL (zBk u v):Int) * r.2 - (u.1 * (v.2 - u.2) - u.2 * (v.1 - u.1)) / (gcdL (zBk u v):Int) * 1≤0
 rw [Int.mul_one]
 by_cases c:crs u v r = 0
 ·have z:=low_on (x:=r.1) (y:=r.2) gp (show (v.2 - u.2) * r.1 + -(v.1 - u.1) * r.2 - (u.1 * (v.2 - u.2) - u.2 * (v.1 - u.1)) = 0 by omega)
  unfold zBk
  omega
 ·have z:=low_in (x:=r.1) (y:=r.2) gp (show (v.2 - u.2) * r.1 + -(v.1 - u.1) * r.2 - (u.1 * (v.2 - u.2) - u.2 * (v.1 - u.1)) < 0 by omega)
  unfold zBk
  omega
theorem zG7.wt {ss:List Sd} {cs:List (Int × Int)} (h:zG7 ss cs):∀ c∈cs,c.2.natAbs≤10 ^ 19:=by
 rcases h with ⟨i,j,u,v,s,t,rfl,_,_,_,h1,h2,h3,h4,_⟩ | ⟨i,j,k,u,v,x,s,t,r,rfl,_,_,_,_,_,h1,h2,h3,h4,h5,h6,_⟩
 ·intro c hc
  simp only [List.mem_cons,List.not_mem_nil,or_false] at hc
  rcases hc with rfl | rfl
  ·show u.natAbs≤_; omega
  ·show v.natAbs≤_; omega
 ·intro c hc
  simp only [List.mem_cons,List.not_mem_nil,or_false] at hc
  rcases hc with rfl | rfl | rfl
  ·show u.natAbs≤_; omega
  ·show v.natAbs≤_; omega
  ·show x.natAbs≤_; omega
theorem zRy {ss:List Sd} {f:Sd→Int} {b:Nat} (h:∀ t∈ss,(f t).natAbs≤b) (n:Int):(zBi ss f n).natAbs≤b:=by
 unfold zBi
 cases g:ss[n.toNat]? with
 | none=>exact Nat.zero_le _
 | some t=>exact h t (List.mem_of_getElem? g)
def woT (t:Wo):Wt:=(t.1,t.2.2.1,t.2.1,t.2.2.2,1)
theorem zMm {H:Hp} {ss es:List Sd} {vs:List (Int × Int)} {T d L:Addr} {ws:List Wo} {cs:List Pr} (ok:SdOk H ss) (bs:zI8 vs) (eT:H T = some (.tup [.str "cannot", .ref d,.ref L])) (ed:H d = some (.tup [.int (sumF ss (fAt 0) ((zCr ss.length cs).map (·.2)) 0),.int (sumF ss (fAt 1) ((zCr ss.length cs).map (·.2)) 0)]))
  (eL:H L = some (.lst (zK1 ws))) (okw:WoAt H ws) (mws:ws.map (·.2.2) = (zCr ss.length cs).map (·.2)) (mes:es.map (·.2) = zBp vs) (cl:zG7 (ss ++ es) (cs.map (·.2))) (here:∃ z:P3,0 < z.2.2∧inW ss z):PapC H ss vs T:=by
 obtain ⟨aw,ap⟩:=zVr.of cl.b
 rw [zPo] at ed mws
 have few:=ap.few here
 have wN:wtN (ws.map woT) = (fstP ss.length (cs.map (·.2))).map fun u=>(u.1,u.2,1):=by
  rw [← mws]
  unfold wtN
  rw [List.map_map,List.map_map]
  rfl
 have lw:ws.length≤2:=by
  have z:=congrArg List.length mws
  rw [List.length_map] at z
  omega
 have cw:∀ c∈fstP ss.length (cs.map (·.2)),c.2.natAbs≤10 ^ 19:=fun c hc=>cl.wt c (List.mem_filter.mp hc).1
 have sz:∀ k:Int,(∀ t∈ss,(fAt k t).natAbs≤10 ^ 9)→(sumF ss (fAt k) (fstP ss.length (cs.map (·.2))) 0).natAbs≤10 ^ 40:=fun k hk=>by
  rw [zIv,Int.zero_add]
  refine Nat.le_trans (zPl (b:=10 ^ 19 * 10 ^ 9) fun c hc=>zAj c.2 _ (cw c hc) (zRy hk c.1)) ?_
  exact Nat.le_trans (Nat.mul_le_mul_right _ few) (by decide)
 refine ⟨d,L,_,_,sumF ss (fAt 2) (fstP ss.length (cs.map (·.2))) 0,ws.map woT,eT,ed,?_,sz 0 fun t ht=>(ok t ht).2.2.1,sz 1 fun t ht=>(ok t ht).2.2.2.1,?_,fun t ht=>?_,⟨by rw [List.length_map]; omega,fun u hu=>?_⟩,?_,fun v hv=>?_⟩
 ·by_cases c:sumF ss (fAt 0) (fstP ss.length (cs.map (·.2))) 0 = 0∧sumF ss (fAt 1) (fstP ss.length (cs.map (·.2))) 0 = 0
  ·obtain ⟨z,zw,wz⟩:=here
   have i1:=ap.ins z wz
   have n3:=bs.len.1
   have mv:vs[0]∈vs:=List.getElem_mem (show 0 < vs.length by omega)
   have i2:=ap.out (vs[0].1,vs[0].2,1) (by show (0:Int) < 1; decide) fun t ht=>zSg bs mv (by rw [← mes]; exact List.mem_map_of_mem ht)
   rw [c.1,c.2,Int.zero_mul,Int.zero_mul] at i1 i2
   have i3:sumF ss (fAt 2) (fstP ss.length (cs.map (·.2))) 0 * 1 < 0 + 0:=i2
   have i4:=Int.mul_neg_of_neg_of_pos (show sumF ss (fAt 2) (fstP ss.length (cs.map (·.2))) 0 < 0 by omega) zw
   omega
  ·by_cases c0:sumF ss (fAt 0) (fstP ss.length (cs.map (·.2))) 0 = 0
   ·exact .inr fun z=>c ⟨c0,z⟩
   ·exact .inl c0
 ·rw [eL]
  simp [zK1,zDk,woT]
 ·obtain ⟨u,mu,rfl⟩:=List.mem_map.mp ht
  exact okw u mu
 ·obtain ⟨t,mt,rfl⟩:=List.mem_map.mp hu
  have z:=cw t.2.2 (by rw [← mws]; exact List.mem_map_of_mem mt)
  exact ⟨Nat.le_trans z (by decide),by show (1:Int).natAbs≤_; decide,Nat.gcd_one_right _⟩
 ·rw [wN]
  unfold zFc
  rw [if_pos (by rw [List.length_map]; exact few)]
  have k:=zHz (ss:=ss) (g:=(sumF ss (fAt 0) (fstP ss.length (cs.map (·.2))) 0,sumF ss (fAt 1) (fstP ss.length (cs.map (·.2))) 0,0)) (cs.map (·.2)) (-1) 0 0 0 (Int.le_refl _) aw (zIv ..).symm (zIv ..).symm
  rw [k,← zIv]
 ·have i2:=ap.out (v.1,v.2,1) (by show (0:Int) < 1; decide) fun t ht=>zSg bs hv (by rw [← mes]; exact List.mem_map_of_mem ht)
  have i3:sumF ss (fAt 2) (fstP ss.length (cs.map (·.2))) 0 * 1 < sumF ss (fAt 0) (fstP ss.length (cs.map (·.2))) 0 * v.1 + sumF ss (fAt 1) (fstP ss.length (cs.map (·.2))) 0 * v.2:=i2
  omega
theorem zQg {H:Hp} {ss:List Sd} {vs:List (Int × Int)} {T W:Addr} {tl:List (Addr × List Wt)} (ok:SdOk H ss) (eT:H T = some (.tup [.str "must", .ref W])) (eW:H W = some (.lst (zF6 tl))) (all:∀ u∈tl,u.1≠W∧H u.1 = some (.lst (zDk u.2))∧WtAt H u.2) (nt:tl.length = vs.length)
  (each:∀ (j:Nat) (u:Addr × List Wt) (e:P3),tl[j]? = some u→(zBp vs)[j]? = some e→∃ P:P3,0 < P.2.2∧Far ss e P (wtN u.2)∧sv e P≤0):PapM H ss vs T:=by
 have ne:(zBp vs).length = vs.length:=by
  unfold zBp
  rw [List.length_map,List.length_range]
 refine ⟨W,tl,eT,eW,nt,fun u hu=>⟨(all u hu).2.1,(all u hu).2.2,?_⟩,fun j u e gj ge=>?_⟩
 ·obtain ⟨j,hj,ej⟩:=List.getElem_of_mem hu
  have he:j < (zBp vs).length:=by omega
  obtain ⟨P,_,fr,_⟩:=each j u (zBp vs)[j] (by rw [List.getElem?_eq_getElem hj,ej]) (List.getElem?_eq_getElem he)
  obtain ⟨l2,lo⟩:=fr.low
  rw [List.length_map] at l2
  refine ⟨by omega,fun w hw=>?_⟩
  obtain ⟨k1,_,k2,k3⟩:=lo (w.2.1,w.2.2.2) (List.mem_map_of_mem hw)
  exact ⟨Nat.le_trans k2 (by decide),Nat.le_trans k3 (by decide),k1⟩
 ·obtain ⟨P,pw,fr,le⟩:=each j u e gj ge
  obtain ⟨x,y,bf,eq,_⟩:=fr.bound fun t ht=>(ok t ht).2.2.2.2
  exact ⟨x,y,bf,zVt (ss:=ss) (ws:=wtN u.2) (zQm bf) pw eq le⟩
structure Told (ss:List Sd) (vs:List (Int × Int)) (G:Hp) (T:Addr) (H:Hp) (wd:Str) (xs:List V):Prop where
 same:Same G H
 pap:zOc H ss vs T
 at':H T = some (.tup (.str wd :: xs))
 here:wd ≠ "none" → ∃ z:P3,0 < z.2.2∧inW ss z
 must:wd = "must" → ∃ (W:Addr) (ys:List V),xs = [.ref W]∧H W = some (.lst ys)∧ys.length≤100∧G W = none
theorem cutT {ok:Addr→Hp→Prop} {G:Prop} {R:Addr→Hp→Prop} (h1:(∀ T H,ok T H→R T H)→G) (h2:∀ T H,ok T H→R T H):G:=h1 h2
theorem cutH {ok:Hp→Prop} {G:Prop} {R:Hp→Prop} (h1:(∀ H,ok H→R H)→G) (h2:∀ H,ok H→R H):G:=h1 h2
theorem zRo (v:V) (xs:List V):atI (v :: xs) 0 = some v:=by
 simp [atI,ixN]
def sp_law (K:PySem.W.Frag):Sp:=fun vs H Q _=>∃ (a:Addr) (ns:List Int),vs = [.ref a]∧SqL K H a (ns.map V.int)∧ns.length≤63∧∀ H',Q (.bl true) H'
theorem ok_law (F:Fun K "law" "law" zOr f fd) (Z:Zs mg) (h_L_any_place:Has P w K mg base "_law_any_place" 5 ["_law_sides_here"] (zHe K)) (h_L_good_word:Has P w K mg base "_law_good_word" 4 ["_law_sides_here", "_law_places", "_law_paper"] (zHa K)) (h_L_all_low:Has P w K mg base "_law_all_low" 3 ["_law_told"] (zIo K)) (h_L_word_kind:Has P w K mg base "_law_word_kind" 4 ["_law_told"] (zHf K)) (h_p_bank_word:Has P w K mg base "bank_word" 12 ["sides", "corners"] (zHb K)) (h_L_banked:Has P w K mg base "_law_banked" 4 ["_law_some"] (zJ5 K)) (h_L_draws:Has P w K mg base "_law_draws" 2 ["_law_script", "_law_many_here"] (zLs K)):FnOk P w K mg base CX0 13 f fd ["_law_script"] (sp_law K):=by
 refine F.ok zKq (fun vs H Q E h=>?_) (fun cdv A outer s H vs Q E hr h=>?_)
 ·obtain ⟨a,ns,rfl,_⟩:=h
  rfl
 obtain ⟨ad,ns,rfl,hS,hl,q⟩:=h
 have hu:=hr.units0
 have hu64:=hr.units
 refine ⟨_,(zAf (zAw (i:=1) zKq.nd rfl (Or.inl rfl) (zAh h_L_draws (hr.mono (by decide)) rfl (zAa (pv 0) (zAa zAb zAd))))
   (zAf (zEw (zAh h_L_banked (hr.mono (by decide)) rfl (zAa (pv 1) zAd)) (zB5 rfl (zAs (zAq (i:=2) zKq.nd rfl (Or.inl rfl)) (zAs (zAq (i:=3) zKq.nd rfl (Or.inl rfl)) zBf))))
   (zAf (zAw (i:=4) zKq.nd rfl (Or.inl rfl) (zBo (zAa (zGo zIz rfl Z.list zGn (zAa (pv 2) zAd)) (zAa (zGo zIz rfl Z.list zGn (zAa (pv 3) zAd)) zAd))))
   (zAf (zCz PassesOwn.never rfl (zC7 rfl Z.range (zAa zAb zAd)) (zAq (i:=5) zKq.nd rfl (Or.inl rfl)) (zAf (zAw (i:=6) zKq.nd rfl (Or.inl rfl) (zAh h_p_bank_word (hr.mono (by decide)) rfl (zAa (zAn zAg (pv 4) zAb (fun _ _=>rfl)) (zAa (zAn zAg (pv 4) zAb (fun _ _=>rfl)) zAd))))
   (zAf (zA8 (PW.pt (zGw (zDd (zCv (zAh h_L_word_kind (hr.mono (by decide)) rfl (zAa (pv 6) zAd)))) (zEl (zAu (zVo hu64) (pv 4) (zBo (zAa (pv 2) (zAa (pv 3) zAd))) (zAz _))))) (zAi (zAr zE3)) zAx)
   (zAf (zA8 (PW.pt (zGw (zDd (zCv (zAh h_L_good_word (hr.mono (by decide)) rfl (zAa (pv 2) (zAa (pv 3) (zAa (pv 6) zAd)))))) (zEl (zDd (zCv (zAh h_L_all_low (hr.mono (by decide)) rfl (zAa (pv 6) zAd))))))) (zAi (zAr zE3)) zAx)
   (zAf (zA8 (PW.pt (zGb (zAu zPx (zAn zAg (pv 6) zAb (fun _ _=>rfl)) zDc (zAz _)) (zEp (zAu zLl (zAh h_L_any_place (hr.mono (by decide)) rfl (zAa (pv 2) zAd)) zBm (zAz _))))) (zAi (zAr zE3)) zAx)
   (zAi (zA8 (zAu zCi (zAn zAg (pv 6) zAb (fun _ _=>rfl)) zDc (zAz _)) (zAi (zFl (zLy PySem.F.plainAttrs_list PySem.F.slot_list_append PySem.F.type_list_append zCw (zAn zAg (pv 6) zAb (fun _ _=>rfl)) (zAa (zBo zAd) zAd)))) zAx)))))))
   (zAi (zAr zE3)))))),?_⟩
 refine ⟨_,rfl,ad,ns,80,rfl,hS,hl,by decide,by decide,fun r rows H1 s1 hr0 er1 l1 l2 bd=>?_⟩
 refine ⟨_,rfl,r,rows,rfl,er1,by omega,l2,bd,fun T l c ss ps H2 s2 eT el ok nl ec pk0 bs=>?_⟩
 refine ⟨T,_,rfl,SqT.of eT,rfl,.ref l,_,rfl,.ref c,_,rfl,rfl,?_⟩
 have lens:=bs.len
 rw [List.length_map] at lens
 have ne:=zI8.ne bs
 rw [List.length_map] at ne
 have pk:PrOk H2 (10 ^ 6) ps:=fun t ht=>by
  obtain ⟨z1,z2,z3⟩:=pk0 t ht
  exact ⟨z1,Nat.le_trans z2 (by decide),Nat.le_trans z3 (by decide)⟩
 refine ⟨_,rfl,l,_,rfl,.inl (SqL.of el),fun l2' hl2=>?_⟩
 have s3:=zAe hl2 (.lst (zAm ss))
 have el3:upd H2 l2' (.lst (zAm ss)) l2' = some (.lst (zAm ss)):=zAc
 have n1:l2'≠l:=fun z=>by rw [z,el] at hl2; cases hl2
 generalize upd H2 l2' (.lst (zAm ss)) = H3 at s3 el3 ⊢
 refine ⟨_,rfl,c,_,rfl,.inl (SqL.of (s3 _ _ ec)),fun c2 hc2=>?_⟩
 have s4:=zAe hc2 (.lst (zAo ps))
 have ec4:upd H3 c2 (.lst (zAo ps)) c2 = some (.lst (zAo ps)):=zAc
 have n2:c2≠c:=fun z=>by rw [z,s3 _ _ ec] at hc2; cases hc2
 generalize upd H3 c2 (.lst (zAo ps)) = H4 at s4 ec4 ⊢
 refine ⟨(by show 2≤sizeLine; decide),fun hd hhd=>?_⟩
 have s5:=zAe hhd (.lst [.ref l2',.ref c2])
 have eh:upd H4 hd (.lst [.ref l2',.ref c2]) hd = some (.lst [.ref l2',.ref c2]):=zAc
 generalize upd H4 hd (.lst [.ref l2',.ref c2]) = H5 at s5 eh ⊢
 have s25:=(s3.trans s4).trans s5
 have el5:=s25 _ _ el
 have ok5:=ok.same s25
 have ec5:=s25 _ _ ec
 have pk5:=pk.same s25
 have el2:=(s4.trans s5) _ _ el3
 have ec2:=s5 _ _ ec4
 clear s1 s2 er1 eT hr0 s3 s4 s5 s25 el ok ec pk pk0 el3 ec4 hl2 hc2 hhd
 refine ⟨2,rfl,by decide,by decide,zEq (lo:=0) (n:=2) (fun i σ G=>Same H5 G∧∃ u5 u6:Option V,σ = [some (.ref ad),some (.ref r),some (.ref l),some (.ref c),some (.ref hd),u5,u6])
  ⟨Same.refl _,none,none,rfl⟩ ?_ ?_⟩
 ·rintro i σ G hi ⟨sG,u5,u6,rfl⟩
  have ok6:=ok5.same sG
  apply cutT (ok:=fun T H=>∃ (wd:Str) (xs:List V),Told ss (ps.map (·.2)) G T H wd xs)
  ·intro main
   have eh6:Sq K G hd [.ref l2',.ref c2]:=.inl (SqL.of (sG _ _ eh))
   refine ⟨_,rfl,hd,_,_,.ref l2',rfl,rfl,eh6,rfl,_,rfl,hd,_,_,.ref c2,rfl,rfl,eh6,rfl,l2',c2,ss,ps,rfl,sG _ _ el2,ok6,by omega,sG _ _ ec2,pk5.same sG,lens.1,lens.2,ne,fun T D cs H' s' eT eD okc cl=>?_,fun T d L ws es cs H' s' eT ed eL okw mws mes cl here=>?_,fun T p1 p2 P1 P2 H' s' eT e1 e2 w1 i1 w2 b2=>?_,fun T W tl H' s' hW eT eW all nt each here=>?_⟩
   ·exact main T H' ⟨"none", [.ref D],s',.inl ⟨D,cs,eT,eD,okc,cl.b⟩,eT,fun z=>absurd rfl z,fun z=>absurd z (by decide)⟩
   ·exact main T H' ⟨"cannot", [.ref d,.ref L],s',.inr (.inl (zMm (ok6.same s') bs eT ed eL okw mws mes cl here)),eT,fun _=>here,fun z=>absurd z (by decide)⟩
   ·exact main T H' ⟨"can", [.ref p1,.ref p2],s',.inr (.inr (.inl ⟨p1,p2,P1,P2,eT,e1,e2,w1,i1,w2,b2⟩)),eT,fun _=>⟨P1,e1.2.1,w1⟩,fun z=>absurd z (by decide)⟩
   ·exact main T H' ⟨"must", [.ref W],s',.inr (.inr (.inr (zQg (ok6.same s') eT eW all nt each))),eT,fun _=>here,fun _=>⟨W,_,rfl,eW,by rw [List.length_map,List.length_map,nt,List.length_map]; omega,hW⟩⟩
  rintro T H6 ⟨wd,xs,K6⟩
  have s56:=sG.trans K6.same
  refine ⟨_,rfl,T,ss,ps.map (·.2),rfl,K6.pap,fun H7 s7=>?_⟩
  refine ⟨_,rfl,?_⟩
  refine iteF ?_
  refine ⟨_,rfl,_,rfl,_,rfl,(by show 2≤sizeLine; decide),fun e he=>?_⟩
  have se:=zAe he (.lst [.ref l,.ref c])
  have ee:upd H7 e (.lst [.ref l,.ref c]) e = some (.lst [.ref l,.ref c]):=zAc
  generalize upd H7 e (.lst [.ref l,.ref c]) = H8 at se ee ⊢
  have s68:=s7.trans se
  have s58:=s56.trans s68
  refine ⟨hd,e,l2',c2,l,c,ss.map (·.1),ps.map (·.1),rfl,rfl,SqL.of (s58 _ _ eh),SqL.of ee,SqL.of (s58 _ _ el2),SqL.of (s58 _ _ el5),SqL.of (s58 _ _ ec2),SqL.of (s58 _ _ ec5),n1,n2,_,rfl,?_⟩
  refine iteF ?_
  refine ⟨_,rfl,_,rfl,_,rfl,l,c,T,ss,ps,rfl,s58 _ _ el5,ok5.same s58,by omega,s58 _ _ ec5,pk5.same s58,lens.2,ne,K6.pap.same s68,fun H9 s9=>?_⟩
  refine ⟨_,rfl,?_⟩
  refine iteF ?_
  have s69:=s68.trans s9
  refine ⟨_,rfl,T,ss,ps.map (·.2),rfl,by rw [List.length_map]; omega,K6.pap.same s69,fun H10 s10=>?_⟩
  refine ⟨_,rfl,?_⟩
  refine iteF ?_
  have s610:=s69.trans s10
  have s510:=s56.trans s610
  have eT:=s610 _ _ K6.at'
  have sqT:Sq K H10 T (.str wd :: xs):=.inr (SqT.of eT)
  apply cutH (ok:=fun H=>Same H10 H)
  ·intro main
   refine ⟨_,rfl,T,_,_,.str wd,rfl,rfl,sqT,zRo _ _,rfl,_,rfl,?_⟩
   refine ifN (fun nn=>?_) (fun _=>?_)
   ·obtain ⟨z,zw,wz⟩:=K6.here fun e=>nn (by rw [e])
    obtain ⟨C,cC,_,wC⟩:=zRv (fun t ht=>(ok5 t ht).2.1) z zw wz
    refine ⟨_,rfl,l,ss,rfl,s510 _ _ el5,ok5.same s510,by omega,fun H11 s11 no=>absurd wC (no C cC),fun p P H11 s11 ep wp=>?_⟩
    refine ⟨rfl,_,rfl,?_⟩
    refine iteF ?_
    exact main H11 s11
   ·refine iteF ?_
    exact main H10 (Same.refl _)
  intro H11 s11
  have s511:=s510.trans s11
  have eT11:=s11 _ _ eT
  have sqT11:Sq K H11 T (.str wd :: xs):=.inr (SqT.of eT11)
  refine ⟨_,rfl,T,_,_,.str wd,rfl,rfl,sqT11,zRo _ _,rfl,_,rfl,?_⟩
  refine ifD (fun e=>?_) (fun _=>?_)
  ·obtain ⟨W,ys,rfl,eW,ny,hW⟩:=K6.must (by injection e)
   have eW11:=(s610.trans s11) _ _ eW
   refine ⟨_,rfl,T,_,_,.ref W,rfl,rfl,sqT11,rfl,.inl ⟨rfl,_,SqL.of eW11⟩,(by show 0≤sizeLine; decide),fun n hn=>?_⟩
   have sn:=zAe hn (.lst [])
   refine ⟨W,_,_,rfl,rfl,sn _ _ eW11,zA3 (by omega),?_⟩
   exact ⟨(s511.trans sn).putNew (sG.free hW),_,_,rfl⟩
  ·exact ⟨s511,_,_,rfl⟩
 ·rintro σ G ⟨sG,u5,u6,rfl⟩
  exact q _
end
abbrev AtK (K:PySem.W.Frag) (x:Str) (s:Stmt) (f:Addr) (oc:Value) (od:Option Addr) (sl:Array (Option Value)) (kV dc pm:Value) (an:Option Addr) (cd ct:Value):Prop :=
 PySem.W.nsIn K mainGlobals x = some (some (.ref f))∧K.lookup f = some ⟨oc,od,.func (PySem.W.fnOf x x (zE6 s) (zEo s) (zAp s) .none kV dc pm an cd ct),sl⟩∧PySem.W.codeIn K cd x = true∧PySem.W.keepIn K (.ref f) = true
section
variable {K:PySem.W.Frag} {x:Str} {s:Stmt} {f:Addr} {oc kV dc pm cd ct:Value} {od an:Option Addr} {sl:Array (Option Value)} {h:Heap} {mg:Str→Option Value}
theorem zA9 (q:AtK K x s f oc od sl kV dc pm an cd ct):Fun K x x s f (PySem.W.fnOf x x (zE6 s) (zEo s) (zAp s) .none kV dc pm an cd ct):=fun_mk (st:=s) q.2.1 q.2.2.1 q.2.2.2
theorem zA4 (P:Program) (w:World) (base:Heap) (X:K.In h) (G:h.Ns mainGlobals mg) (q:AtK K x s f oc od sl kV dc pm an cd ct) {ps:List Str} {n:Nat} {sp:Sp} (o:FnOk P w K mg base CX0 n f (PySem.W.fnOf x x (zE6 s) (zEo s) (zAp s) .none kV dc pm an cd ct) ps sp)
  (b:∀ (kV doc pm:Value) (an:Option Addr) (cdv ct:Value) (us:List Value),us.length = ps.length→bindArgs (PySem.W.fnOf x x (zE6 s) (zEo s) (zAp s) .none kV doc pm an cdv ct) ⟨us,[]⟩ = pure (ps.zip us)):Has P w K mg base x n ps sp :=
 ⟨_,_,o,(zA9 q).binds b,q.2.2.2,PySem.W.mg_of X G q.1⟩
end
theorem us1 {R:List Value→Prop} (h:∀ a,R [a]):∀ us:List Value,us.length = 1→R us
 | [a],_=>h a
theorem us2 {R:List Value→Prop} (h:∀ a b,R [a,b]):∀ us:List Value,us.length = 2→R us
 | [a,b],_=>h a b
theorem us3 {R:List Value→Prop} (h:∀ a b c,R [a,b,c]):∀ us:List Value,us.length = 3→R us
 | [a,b,c],_=>h a b c
theorem us4 {R:List Value→Prop} (h:∀ a b c d,R [a,b,c,d]):∀ us:List Value,us.length = 4→R us
 | [a,b,c,d],_=>h a b c d
theorem all_mk {l:PySem.W.OpenLaw} {w:World} {K:PySem.W.Frag} {h:Heap} {mg:Str→Option Value} {fa:Addr} (X:K.In h) (G:h.Ns mainGlobals mg) (hfa:mg "law" = some (.ref fa))
  {f1 f2 f3 f4 f5 f6 f7 f8 f9 f10 f11 f12 f13 f14 f15 f16 f17 f18 f19 f20 f21 f22 f23 f24 f25 f26 f27 f28 f29 f30 f31 f32 f33 f34 f35 f36 f37 f38 f39 f40 f41 f42 f43 f44 f45 f46 f47 f48 f49 f50 f51 f52 f53 f54 f55 f56 f57 f58 f59 f60 f61 f62 f63 f64 f65 f66 f67:Addr}
  {oc1 kV1 dc1 pm1 cd1 ct1 oc2 kV2 dc2 pm2 cd2 ct2 oc3 kV3 dc3 pm3 cd3 ct3 oc4 kV4 dc4 pm4 cd4 ct4 oc5 kV5 dc5 pm5 cd5 ct5 oc6 kV6 dc6 pm6 cd6 ct6 oc7 kV7 dc7 pm7 cd7 ct7 oc8 kV8 dc8 pm8 cd8 ct8 oc9 kV9 dc9 pm9 cd9 ct9 oc10 kV10 dc10 pm10 cd10 ct10 oc11 kV11 dc11 pm11 cd11 ct11 oc12 kV12 dc12 pm12 cd12 ct12 oc13 kV13 dc13 pm13 cd13 ct13 oc14 kV14 dc14 pm14 cd14 ct14 oc15 kV15 dc15 pm15 cd15 ct15 oc16 kV16 dc16 pm16 cd16 ct16 oc17 kV17 dc17 pm17 cd17 ct17 oc18 kV18 dc18 pm18 cd18 ct18 oc19 kV19 dc19 pm19 cd19 ct19 oc20 kV20 dc20 pm20 cd20 ct20 oc21 kV21 dc21 pm21 cd21 ct21 oc22 kV22 dc22 pm22 cd22 ct22 oc23 kV23 dc23 pm23 cd23 ct23 oc24 kV24 dc24 pm24 cd24 ct24 oc25 kV25 dc25 pm25 cd25 ct25 oc26 kV26 dc26 pm26 cd26 ct26 oc27 kV27 dc27 pm27 cd27 ct27 oc28 kV28 dc28 pm28 cd28 ct28 oc29 kV29 dc29 pm29 cd29 ct29 oc30 kV30 dc30 pm30 cd30 ct30 oc31 kV31 dc31 pm31 cd31 ct31 oc32 kV32 dc32 pm32 cd32 ct32 oc33 kV33 dc33 pm33 cd33 ct33 oc34 kV34 dc34 pm34 cd34 ct34 oc35 kV35 dc35 pm35 cd35 ct35 oc36 kV36 dc36 pm36 cd36 ct36 oc37 kV37 dc37 pm37 cd37 ct37 oc38 kV38 dc38 pm38 cd38 ct38 oc39 kV39 dc39 pm39 cd39 ct39 oc40 kV40 dc40 pm40 cd40 ct40 oc41 kV41 dc41 pm41 cd41 ct41 oc42 kV42 dc42 pm42 cd42 ct42 oc43 kV43 dc43 pm43 cd43 ct43 oc44 kV44 dc44 pm44 cd44 ct44 oc45 kV45 dc45 pm45 cd45 ct45 oc46 kV46 dc46 pm46 cd46 ct46 oc47 kV47 dc47 pm47 cd47 ct47 oc48 kV48 dc48 pm48 cd48 ct48 oc49 kV49 dc49 pm49 cd49 ct49 oc50 kV50 dc50 pm50 cd50 ct50 oc51 kV51 dc51 pm51 cd51 ct51 oc52 kV52 dc52 pm52 cd52 ct52 oc53 kV53 dc53 pm53 cd53 ct53 oc54 kV54 dc54 pm54 cd54 ct54 oc55 kV55 dc55 pm55 cd55 ct55 oc56 kV56 dc56 pm56 cd56 ct56 oc57 kV57 dc57 pm57 cd57 ct57 oc58 kV58 dc58 pm58 cd58 ct58 oc59 kV59 dc59 pm59 cd59 ct59 oc60 kV60 dc60 pm60 cd60 ct60 oc61 kV61 dc61 pm61 cd61 ct61 oc62 kV62 dc62 pm62 cd62 ct62 oc63 kV63 dc63 pm63 cd63 ct63 oc64 kV64 dc64 pm64 cd64 ct64 oc65 kV65 dc65 pm65 cd65 ct65 oc66 kV66 dc66 pm66 cd66 ct66 oc67 kV67 dc67 pm67 cd67 ct67:Value}
  {od1 an1 od2 an2 od3 an3 od4 an4 od5 an5 od6 an6 od7 an7 od8 an8 od9 an9 od10 an10 od11 an11 od12 an12 od13 an13 od14 an14 od15 an15 od16 an16 od17 an17 od18 an18 od19 an19 od20 an20 od21 an21 od22 an22 od23 an23 od24 an24 od25 an25 od26 an26 od27 an27 od28 an28 od29 an29 od30 an30 od31 an31 od32 an32 od33 an33 od34 an34 od35 an35 od36 an36 od37 an37 od38 an38 od39 an39 od40 an40 od41 an41 od42 an42 od43 an43 od44 an44 od45 an45 od46 an46 od47 an47 od48 an48 od49 an49 od50 an50 od51 an51 od52 an52 od53 an53 od54 an54 od55 an55 od56 an56 od57 an57 od58 an58 od59 an59 od60 an60 od61 an61 od62 an62 od63 an63 od64 an64 od65 an65 od66 an66 od67 an67:Option Addr}
  {sl1 sl2 sl3 sl4 sl5 sl6 sl7 sl8 sl9 sl10 sl11 sl12 sl13 sl14 sl15 sl16 sl17 sl18 sl19 sl20 sl21 sl22 sl23 sl24 sl25 sl26 sl27 sl28 sl29 sl30 sl31 sl32 sl33 sl34 sl35 sl36 sl37 sl38 sl39 sl40 sl41 sl42 sl43 sl44 sl45 sl46 sl47 sl48 sl49 sl50 sl51 sl52 sl53 sl54 sl55 sl56 sl57 sl58 sl59 sl60 sl61 sl62 sl63 sl64 sl65 sl66 sl67:Array (Option Value)}
  (q1:AtK K "common_factor" zC3 f1 oc1 od1 sl1 kV1 dc1 pm1 an1 cd1 ct1)
  (q2:AtK K "lowest" zG3 f2 oc2 od2 sl2 kV2 dc2 pm2 an2 cd2 ct2)
  (q3:AtK K "upright" zFn f3 oc3 od3 sl3 kV3 dc3 pm3 an3 cd3 ct3)
  (q4:AtK K "part" zJb f4 oc4 od4 sl4 kV4 dc4 pm4 an4 cd4 ct4)
  (q5:AtK K "spot" zJs f5 oc5 od5 sl5 kV5 dc5 pm5 an5 cd5 ct5)
  (q6:AtK K "turn" zJt f6 oc6 od6 sl6 kV6 dc6 pm6 an6 cd6 ct6)
  (q7:AtK K "along" zHu f7 oc7 od7 sl7 kV7 dc7 pm7 an7 cd7 ct7)
  (q8:AtK K "plain" zHq f8 oc8 od8 sl8 kV8 dc8 pm8 an8 cd8 ct8)
  (q9:AtK K "plain_side" zDv f9 oc9 od9 sl9 kV9 dc9 pm9 an9 cd9 ct9)
  (q10:AtK K "beyond" zG0 f10 oc10 od10 sl10 kV10 dc10 pm10 an10 cd10 ct10)
  (q11:AtK K "holds" zH6 f11 oc11 od11 sl11 kV11 dc11 pm11 an11 cd11 ct11)
  (q12:AtK K "crossing" zE1 f12 oc12 od12 sl12 kV12 dc12 pm12 an12 cd12 ct12)
  (q13:AtK K "in_water" zEu f13 oc13 od13 sl13 kV13 dc13 pm13 an13 cd13 ct13)
  (q14:AtK K "foot" zJm f14 oc14 od14 sl14 kV14 dc14 pm14 an14 cd14 ct14)
  (q15:AtK K "edge_end" zEz f15 oc15 od15 sl15 kV15 dc15 pm15 an15 cd15 ct15)
  (q16:AtK K "edge_ends" zD0 f16 oc16 od16 sl16 kV16 dc16 pm16 an16 cd16 ct16)
  (q17:AtK K "spot_on_edge" zC9 f17 oc17 od17 sl17 kV17 dc17 pm17 an17 cd17 ct17)
  (q18:AtK K "sought" zG6 f18 oc18 od18 sl18 kV18 dc18 pm18 an18 cd18 ct18)
  (q19:AtK K "some_spot" zD1 f19 oc19 od19 sl19 kV19 dc19 pm19 an19 cd19 ct19)
  (q20:AtK K "is_way" zGx f20 oc20 od20 sl20 kV20 dc20 pm20 an20 cd20 ct20)
  (q21:AtK K "ways" zJr f21 oc21 od21 sl21 kV21 dc21 pm21 an21 cd21 ct21)
  (q22:AtK K "span" zJv f22 oc22 od22 sl22 kV22 dc22 pm22 an22 cd22 ct22)
  (q23:AtK K "weighed" zFr f23 oc23 od23 sl23 kV23 dc23 pm23 an23 cd23 ct23)
  (q24:AtK K "clash_of_three" zCp f24 oc24 od24 sl24 kV24 dc24 pm24 an24 cd24 ct24)
  (q25:AtK K "clash" zH9 f25 oc25 od25 sl25 kV25 dc25 pm25 an25 cd25 ct25)
  (q26:AtK K "way_onward" zDq f26 oc26 od26 sl26 kV26 dc26 pm26 an26 cd26 ct26)
  (q27:AtK K "far_by_one" zDu f27 oc27 od27 sl27 kV27 dc27 pm27 an27 cd27 ct27)
  (q28:AtK K "weights_of_two" zCs f28 oc28 od28 sl28 kV28 dc28 pm28 an28 cd28 ct28)
  (q29:AtK K "far_by_two" zDr f29 oc29 od29 sl29 kV29 dc29 pm29 an29 cd29 ct29)
  (q30:AtK K "reach" zHv f30 oc30 od30 sl30 kV30 dc30 pm30 an30 cd30 ct30)
  (q31:AtK K "stretch_way" zDh f31 oc31 od31 sl31 kV31 dc31 pm31 an31 cd31 ct31)
  (q32:AtK K "stretch_side" zC8 f32 oc32 od32 sl32 kV32 dc32 pm32 an32 cd32 ct32)
  (q33:AtK K "bank_sides" zDt f33 oc33 od33 sl33 kV33 dc33 pm33 an33 cd33 ct33)
  (q34:AtK K "word_of_cannot" zCq f34 oc34 od34 sl34 kV34 dc34 pm34 an34 cd34 ct34)
  (q35:AtK K "gone_beyond" zDg f35 oc35 od35 sl35 kV35 dc35 pm35 an35 cd35 ct35)
  (q36:AtK K "beyond_or_weights" zB0 f36 oc36 od36 sl36 kV36 dc36 pm36 an36 cd36 ct36)
  (q37:AtK K "bank_word" zEc f37 oc37 od37 sl37 kV37 dc37 pm37 an37 cd37 ct37)
  (q38:AtK K "_law_low" zL1 f38 oc38 od38 sl38 kV38 dc38 pm38 an38 cd38 ct38)
  (q39:AtK K "_law_low_weights" zDi f39 oc39 od39 sl39 kV39 dc39 pm39 an39 cd39 ct39)
  (q40:AtK K "_law_power" zIa f40 oc40 od40 sl40 kV40 dc40 pm40 an40 cd40 ct40)
  (q41:AtK K "_law_draws" zHs f41 oc41 od41 sl41 kV41 dc41 pm41 an41 cd41 ct41)
  (q42:AtK K "_law_many" zJh f42 oc42 od42 sl42 kV42 dc42 pm42 an42 cd42 ct42)
  (q43:AtK K "_law_tight" zH2 f43 oc43 od43 sl43 kV43 dc43 pm43 an43 cd43 ct43)
  (q44:AtK K "_law_way" zL4 f44 oc44 od44 sl44 kV44 dc44 pm44 an44 cd44 ct44)
  (q45:AtK K "_law_side" zJk f45 oc45 od45 sl45 kV45 dc45 pm45 an45 cd45 ct45)
  (q46:AtK K "_law_sides" zHr f46 oc46 od46 sl46 kV46 dc46 pm46 an46 cd46 ct46)
  (q47:AtK K "_law_turned" zG5 f47 oc47 od47 sl47 kV47 dc47 pm47 an47 cd47 ct47)
  (q48:AtK K "_law_left_pair" zD7 f48 oc48 od48 sl48 kV48 dc48 pm48 an48 cd48 ct48)
  (q49:AtK K "_law_bank" zJp f49 oc49 od49 sl49 kV49 dc49 pm49 an49 cd49 ct49)
  (q50:AtK K "_law_bank_rows" zD2 f50 oc50 od50 sl50 kV50 dc50 pm50 an50 cd50 ct50)
  (q51:AtK K "_law_banked" zGz f51 oc51 od51 sl51 kV51 dc51 pm51 an51 cd51 ct51)
  (q52:AtK K "_law_whole" zIc f52 oc52 od52 sl52 kV52 dc52 pm52 an52 cd52 ct52)
  (q53:AtK K "_law_numbers" zFt f53 oc53 od53 sl53 kV53 dc53 pm53 an53 cd53 ct53)
  (q54:AtK K "_law_is_spot" zFo f54 oc54 od54 sl54 kV54 dc54 pm54 an54 cd54 ct54)
  (q55:AtK K "_law_word_kind" zD8 f55 oc55 od55 sl55 kV55 dc55 pm55 an55 cd55 ct55)
  (q56:AtK K "_law_is_clash" zEx f56 oc56 od56 sl56 kV56 dc56 pm56 an56 cd56 ct56)
  (q57:AtK K "_law_summed" zG2 f57 oc57 od57 sl57 kV57 dc57 pm57 an57 cd57 ct57)
  (q58:AtK K "_law_bound" zHt f58 oc58 od58 sl58 kV58 dc58 pm58 an58 cd58 ct58)
  (q59:AtK K "_law_has" zMi f59 oc59 od59 sl59 kV59 dc59 pm59 an59 cd59 ct59)
  (q60:AtK K "_law_good_word" zEd f60 oc60 od60 sl60 kV60 dc60 pm60 an60 cd60 ct60)
  (q61:AtK K "_law_spot_of" zFq f61 oc61 od61 sl61 kV61 dc61 pm61 an61 cd61 ct61)
  (q62:AtK K "_law_meet" zJg f62 oc62 od62 sl62 kV62 dc62 pm62 an62 cd62 ct62)
  (q63:AtK K "_law_corners_of" zDs f63 oc63 od63 sl63 kV63 dc63 pm63 an63 cd63 ct63)
  (q64:AtK K "_law_feet" zJi f64 oc64 od64 sl64 kV64 dc64 pm64 an64 cd64 ct64)
  (q65:AtK K "_law_any_place" zDz f65 oc65 od65 sl65 kV65 dc65 pm65 an65 cd65 ct65)
  (q66:AtK K "_law_all_low" zFk f66 oc66 od66 sl66 kV66 dc66 pm66 an66 cd66 ct66)
  (q67:AtK K "law" zOr f67 oc67 od67 sl67 kV67 dc67 pm67 an67 cd67 ct67)
  (z_abs:PySem.W.nsIn K mainGlobals "abs" = some none)
  (z_all:PySem.W.nsIn K mainGlobals "all" = some none)
  (z_bool:PySem.W.nsIn K mainGlobals "bool" = some none)
  (z_enumerate:PySem.W.nsIn K mainGlobals "enumerate" = some none)
  (z_int:PySem.W.nsIn K mainGlobals "int" = some none)
  (z_isinstance:PySem.W.nsIn K mainGlobals "isinstance" = some none)
  (z_len:PySem.W.nsIn K mainGlobals "len" = some none)
  (z_list:PySem.W.nsIn K mainGlobals "list" = some none)
  (z_max:PySem.W.nsIn K mainGlobals "max" = some none)
  (z_min:PySem.W.nsIn K mainGlobals "min" = some none)
  (z_range:PySem.W.nsIn K mainGlobals "range" = some none)
  (z_sorted:PySem.W.nsIn K mainGlobals "sorted" = some none)
  (z_sum:PySem.W.nsIn K mainGlobals "sum" = some none)
  (z_tuple:PySem.W.nsIn K mainGlobals "tuple" = some none)
  (z_zip:PySem.W.nsIn K mainGlobals "zip" = some none) :
  ∃ fd:FuncData,(∀ (s:Shared) (v:Value),BindsTo s fd ⟨[v],[]⟩ [("_law_script", v)])∧∀ base:Heap,K.In base→base.Ns mainGlobals mg→FnOk l.prog w K mg base CX0 13 fa fd ["_law_script"] (sp_law K):=by
 have e:=hfa.symm.trans (PySem.W.mg_of X G q67.1)
 cases e
 have Z:Zs mg:=⟨PySem.W.mg_none_of X G z_abs,PySem.W.mg_none_of X G z_all,PySem.W.mg_none_of X G z_bool,PySem.W.mg_none_of X G z_enumerate,PySem.W.mg_none_of X G z_int,PySem.W.mg_none_of X G z_isinstance,PySem.W.mg_none_of X G z_len,PySem.W.mg_none_of X G z_list,PySem.W.mg_none_of X G z_max,PySem.W.mg_none_of X G z_min,PySem.W.mg_none_of X G z_range,PySem.W.mg_none_of X G z_sorted,PySem.W.mg_none_of X G z_sum,PySem.W.mg_none_of X G z_tuple,PySem.W.mg_none_of X G z_zip⟩
 refine ⟨PySem.W.fnOf "law" "law" (zE6 zOr) (zEo zOr) (zAp zOr) .none kV67 dc67 pm67 an67 cd67 ct67,fun s v=>.of_eq rfl,fun base _ _=>?_⟩
 have h_p_common_factor:=zA4 l.prog w base X G q1 (zH4 (zA9 q1) Z ) (fun _ _ _ _ _ _=>us1 fun _=>rfl)
 have h_p_lowest:=zA4 l.prog w base X G q2 (zN9 (zA9 q2) Z h_p_common_factor) (fun _ _ _ _ _ _=>us1 fun _=>rfl)
 have h_p_upright:=zA4 l.prog w base X G q3 (zMp (zA9 q3) Z h_p_lowest) (fun _ _ _ _ _ _=>us1 fun _=>rfl)
 have h_p_part:=zA4 l.prog w base X G q4 (zRl (zA9 q4) Z h_p_upright) (fun _ _ _ _ _ _=>us2 fun _ _=>rfl)
 have h_p_spot:=zA4 l.prog w base X G q5 (zQ5 (zA9 q5) Z h_p_upright) (fun _ _ _ _ _ _=>us3 fun _ _ _=>rfl)
 have h_p_turn:=zA4 l.prog w base X G q6 (zSl (zA9 q6) Z ) (fun _ _ _ _ _ _=>us2 fun _ _=>rfl)
 have h_p_along:=zA4 l.prog w base X G q7 (zQa (zA9 q7) Z ) (fun _ _ _ _ _ _=>us2 fun _ _=>rfl)
 have h_p_plain:=zA4 l.prog w base X G q8 (zPq (zA9 q8) Z h_p_lowest) (fun _ _ _ _ _ _=>us1 fun _=>rfl)
 have h_p_plain_side:=zA4 l.prog w base X G q9 (zKe (zA9 q9) Z h_p_lowest) (fun _ _ _ _ _ _=>us1 fun _=>rfl)
 have h_p_beyond:=zA4 l.prog w base X G q10 (zN7 (zA9 q10) Z ) (fun _ _ _ _ _ _=>us2 fun _ _=>rfl)
 have h_p_holds:=zA4 l.prog w base X G q11 (zPy (zA9 q11) Z h_p_beyond) (fun _ _ _ _ _ _=>us2 fun _ _=>rfl)
 have h_p_crossing:=zA4 l.prog w base X G q12 (zMe (zA9 q12) Z h_p_upright h_p_turn) (fun _ _ _ _ _ _=>us2 fun _ _=>rfl)
 have h_p_in_water:=zA4 l.prog w base X G q13 (zLz (zA9 q13) Z h_p_holds) (fun _ _ _ _ _ _=>us2 fun _ _=>rfl)
 have h_p_foot:=zA4 l.prog w base X G q14 (zRw (zA9 q14) Z h_p_spot h_p_along) (fun _ _ _ _ _ _=>us1 fun _=>rfl)
 have h_p_edge_end:=zA4 l.prog w base X G q15 (zMb (zA9 q15) Z h_p_turn h_p_holds h_p_crossing) (fun _ _ _ _ _ _=>us3 fun _ _ _=>rfl)
 have h_p_edge_ends:=zA4 l.prog w base X G q16 (zK4 (zA9 q16) Z h_p_crossing h_p_edge_end) (fun _ _ _ _ _ _=>us2 fun _ _=>rfl)
 have h_p_spot_on_edge:=zA4 l.prog w base X G q17 (zIj (zA9 q17) Z h_p_edge_ends h_p_foot h_p_in_water) (fun _ _ _ _ _ _=>us2 fun _ _=>rfl)
 have h_p_sought:=zA4 l.prog w base X G q18 (zOs (zA9 q18) Z h_p_holds h_p_spot_on_edge h_p_spot) (fun _ _ _ _ _ _=>us1 fun _=>rfl)
 have h_p_some_spot:=zA4 l.prog w base X G q19 (zK7 (zA9 q19) Z h_p_sought) (fun _ _ _ _ _ _=>us1 fun _=>rfl)
 have h_p_is_way:=zA4 l.prog w base X G q20 (zOl (zA9 q20) Z h_p_along) (fun _ _ _ _ _ _=>us2 fun _ _=>rfl)
 have h_p_ways:=zA4 l.prog w base X G q21 (zQ0 (zA9 q21) Z h_p_is_way h_p_plain) (fun _ _ _ _ _ _=>us1 fun _=>rfl)
 have h_p_span:=zA4 l.prog w base X G q22 (zRj (zA9 q22) Z ) (fun _ _ _ _ _ _=>us1 fun _=>rfl)
 have h_p_weighed:=zA4 l.prog w base X G q23 (zM8 (zA9 q23) Z h_p_lowest) (fun _ _ _ _ _ _=>us2 fun _ _=>rfl)
 have h_p_clash_of_three:=zA4 l.prog w base X G q24 (zHh (zA9 q24) Z h_p_weighed h_p_turn h_p_edge_end) (fun _ _ _ _ _ _=>us2 fun _ _=>rfl)
 have h_p_clash:=zA4 l.prog w base X G q25 (zPp (zA9 q25) Z h_p_clash_of_three h_p_turn h_p_holds h_p_foot h_p_weighed h_p_span h_p_sought) (fun _ _ _ _ _ _=>us1 fun _=>rfl)
 have h_p_way_onward:=zA4 l.prog w base X G q26 (zJ0 (zA9 q26) Z h_p_ways h_p_plain h_p_along h_p_is_way) (fun _ _ _ _ _ _=>us2 fun _ _=>rfl)
 have h_p_far_by_one:=zA4 l.prog w base X G q27 (zKs (zA9 q27) Z h_p_turn h_p_along h_p_part h_p_span h_p_spot_on_edge) (fun _ _ _ _ _ _=>us2 fun _ _=>rfl)
 have h_p_weights_of_two:=zA4 l.prog w base X G q28 (zHi (zA9 q28) Z h_p_part h_p_turn) (fun _ _ _ _ _ _=>us3 fun _ _ _=>rfl)
 have h_p_far_by_two:=zA4 l.prog w base X G q29 (zK3 (zA9 q29) Z h_p_turn h_p_in_water h_p_weights_of_two h_p_crossing h_p_edge_end) (fun _ _ _ _ _ _=>us2 fun _ _=>rfl)
 have h_p_reach:=zA4 l.prog w base X G q30 (zQd (zA9 q30) Z h_p_far_by_one h_p_far_by_two h_p_way_onward h_p_clash) (fun _ _ _ _ _ _=>us2 fun _ _=>rfl)
 have h_p_stretch_way:=zA4 l.prog w base X G q31 (zI2 (zA9 q31) Z ) (fun _ _ _ _ _ _=>us2 fun _ _=>rfl)
 have h_p_stretch_side:=zA4 l.prog w base X G q32 (zIi (zA9 q32) Z h_p_plain_side h_p_turn h_p_stretch_way) (fun _ _ _ _ _ _=>us2 fun _ _=>rfl)
 have h_p_bank_sides:=zA4 l.prog w base X G q33 (zKp (zA9 q33) Z h_p_stretch_side) (fun _ _ _ _ _ _=>us1 fun _=>rfl)
 have h_p_word_of_cannot:=zA4 l.prog w base X G q34 (zHm (zA9 q34) Z h_p_part) (fun _ _ _ _ _ _=>us2 fun _ _=>rfl)
 have h_p_gone_beyond:=zA4 l.prog w base X G q35 (zI0 (zA9 q35) Z h_p_spot h_p_along) (fun _ _ _ _ _ _=>us3 fun _ _ _=>rfl)
 have h_p_beyond_or_weights:=zA4 l.prog w base X G q36 (zF2 (zA9 q36) Z h_p_holds h_p_gone_beyond h_p_some_spot h_p_reach) (fun _ _ _ _ _ _=>us2 fun _ _=>rfl)
 have h_p_bank_word:=zA4 l.prog w base X G q37 (zLe (zA9 q37) Z h_p_some_spot h_p_beyond_or_weights h_p_word_of_cannot h_p_clash h_p_bank_sides) (fun _ _ _ _ _ _=>us2 fun _ _=>rfl)
 have h_L_low:=zA4 l.prog w base X G q38 (zUp (zA9 q38) Z ) (fun _ _ _ _ _ _=>us2 fun _ _=>rfl)
 have h_L_low_weights:=zA4 l.prog w base X G q39 (zI5 (zA9 q39) Z h_L_low) (fun _ _ _ _ _ _=>us1 fun _=>rfl)
 have h_L_power:=zA4 l.prog w base X G q40 (zQb (zA9 q40) Z ) (fun _ _ _ _ _ _=>us1 fun _=>rfl)
 have h_L_draws:=zA4 l.prog w base X G q41 (zQe (zA9 q41) Z h_L_power) (fun _ _ _ _ _ _=>us2 fun _ _=>rfl)
 have h_L_many:=zA4 l.prog w base X G q42 (zRs (zA9 q42) Z ) (fun _ _ _ _ _ _=>us4 fun _ _ _ _=>rfl)
 have h_L_tight:=zA4 l.prog w base X G q43 (zQk (zA9 q43) Z ) (fun _ _ _ _ _ _=>us2 fun _ _=>rfl)
 have h_L_way:=zA4 l.prog w base X G q44 (zUm (zA9 q44) Z ) (fun _ _ _ _ _ _=>us3 fun _ _ _=>rfl)
 have h_L_side:=zA4 l.prog w base X G q45 (zRn (zA9 q45) Z h_L_way) (fun _ _ _ _ _ _=>us1 fun _=>rfl)
 have h_L_sides:=zA4 l.prog w base X G q46 (zQp (zA9 q46) Z h_L_side) (fun _ _ _ _ _ _=>us2 fun _ _=>rfl)
 have h_L_turned:=zA4 l.prog w base X G q47 (zN6 (zA9 q47) Z ) (fun _ _ _ _ _ _=>us2 fun _ _=>rfl)
 have h_L_left_pair:=zA4 l.prog w base X G q48 (zK8 (zA9 q48) Z h_L_turned h_L_way) (fun _ _ _ _ _ _=>us2 fun _ _=>rfl)
 have h_L_bank:=zA4 l.prog w base X G q49 (zRe (zA9 q49) Z h_L_left_pair) (fun _ _ _ _ _ _=>us2 fun _ _=>rfl)
 have h_L_bank_rows:=zA4 l.prog w base X G q50 (zK9 (zA9 q50) Z h_L_low) (fun _ _ _ _ _ _=>us1 fun _=>rfl)
 have h_L_banked:=zA4 l.prog w base X G q51 (zOa (zA9 q51) Z h_L_way h_L_bank_rows h_L_bank h_L_sides h_L_tight h_L_many) (fun _ _ _ _ _ _=>us1 fun _=>rfl)
 have h_L_whole:=zA4 l.prog w base X G q52 (zP9 (zA9 q52) Z ) (fun _ _ _ _ _ _=>us1 fun _=>rfl)
 have h_L_numbers:=zA4 l.prog w base X G q53 (zM2 (zA9 q53) Z h_L_whole) (fun _ _ _ _ _ _=>us2 fun _ _=>rfl)
 have h_L_is_spot:=zA4 l.prog w base X G q54 (zM4 (zA9 q54) Z h_L_low h_L_numbers) (fun _ _ _ _ _ _=>us1 fun _=>rfl)
 have h_L_word_kind:=zA4 l.prog w base X G q55 (zLc (zA9 q55) Z h_L_is_spot h_L_numbers) (fun _ _ _ _ _ _=>us1 fun _=>rfl)
 have h_L_is_clash:=zA4 l.prog w base X G q56 (zL5 (zA9 q56) Z h_L_numbers) (fun _ _ _ _ _ _=>us2 fun _ _=>rfl)
 have h_L_summed:=zA4 l.prog w base X G q57 (zOq (zA9 q57) Z ) (fun _ _ _ _ _ _=>us3 fun _ _ _=>rfl)
 have h_L_bound:=zA4 l.prog w base X G q58 (zQo (zA9 q58) Z h_L_summed h_L_whole h_L_numbers) (fun _ _ _ _ _ _=>us3 fun _ _ _=>rfl)
 have h_L_has:=zA4 l.prog w base X G q59 (zT6 (zA9 q59) Z ) (fun _ _ _ _ _ _=>us2 fun _ _=>rfl)
 have h_L_good_word:=zA4 l.prog w base X G q60 (zLb (zA9 q60) Z h_L_has h_L_bound h_L_is_clash h_L_bank_rows) (fun _ _ _ _ _ _=>us3 fun _ _ _=>rfl)
 have h_L_spot_of:=zA4 l.prog w base X G q61 (zNy (zA9 q61) Z h_L_low) (fun _ _ _ _ _ _=>us3 fun _ _ _=>rfl)
 have h_L_meet:=zA4 l.prog w base X G q62 (zQ1 (zA9 q62) Z h_L_spot_of) (fun _ _ _ _ _ _=>us2 fun _ _=>rfl)
 have h_L_corners_of:=zA4 l.prog w base X G q63 (zKo (zA9 q63) Z h_L_has h_L_meet) (fun _ _ _ _ _ _=>us1 fun _=>rfl)
 have h_L_feet:=zA4 l.prog w base X G q64 (zTe (zA9 q64) Z h_L_spot_of) (fun _ _ _ _ _ _=>us1 fun _=>rfl)
 have h_L_any_place:=zA4 l.prog w base X G q65 (zK5 (zA9 q65) Z h_L_corners_of h_L_feet h_L_has) (fun _ _ _ _ _ _=>us1 fun _=>rfl)
 have h_L_all_low:=zA4 l.prog w base X G q66 (zMk (zA9 q66) Z h_L_low_weights) (fun _ _ _ _ _ _=>us1 fun _=>rfl)
 exact ok_law (zA9 q67) Z h_L_any_place h_L_good_word h_L_all_low h_L_word_kind h_p_bank_word h_L_banked h_L_draws
theorem walk {l:PySem.W.OpenLaw} {q:Program} {loose:List Str} {XP:(Str→Option Value)→Heap→Prop} {YP:World→Heap→Prop} {d:DefRec} {K:Params→PySem.W.Frag} (hn:l.most = some 63) (hdf:d.params.defaults = [])
  (hY:∀ (w:World) (h:Heap),YP w h→(K w.params).In h)
  (F:∀ (w:World) (mg:Str→Option Value) (fa:Addr) (h:Heap),(K w.params).In h→h.Ns mainGlobals mg→mg d.name = some (.ref fa) →
   ∃ fd:FuncData,(∀ (s:Shared) (u:Value),BindsTo s fd ⟨[u],[]⟩ [("_law_script", u)])∧∀ base:Heap,(K w.params).In base→base.Ns mainGlobals mg→FnOk l.prog w (K w.params) mg base CX0 13 fa fd ["_law_script"] (sp_law (K w.params))) :
  PySem.W.WalkO q loose XP YP l.row.toRowW d [] (fun f vs=>PySem.call f vs) :=
 L2.walk_of (n:=63) (k:=13) (x := "_law_script") (CX:=fun _=>CX0) (sp:=fun w=>sp_law (K w.params)) hn (by decide) hdf ⟨rfl,by decide,by decide⟩ hY F (fun _ _ a ns hl _ hS=>⟨a,ns,rfl,hS,hl,fun _=>rfl⟩) fun _ _ _ _ _ z=>z

end Sea
open PySem PySem.W PyProof.Rows
set_option maxRecDepth 100000 in
set_option maxHeartbeats 0 in
theorem PySem.Challenge.cw_seamarks_k25_words_of_banks_holds : PySem.Challenge.rw_seamarks_k25_words_of_banks.Holds := by
 w_on
 refine holds_law Sea.said_ok fun said=>?_
 refine holds_open (q:=Sea.qv) (loose:=[]) (XP:=XL Sea.qv []) (YP:=InK Sea.KK) Sea.left_ok (InK.of Sea.kas_ok)
  InK.keeps (fun s e=>xl_of s (Bool.and_eq_true_iff.mp e).1) XL.keeps (by rfl) (by rfl) (by rfl)
  (fun s e=>recFacts_of (Bool.and_eq_true_iff.mp e).2) (by rfl) (by assumption) (by decide +kernel)
  ⟨rfl,rfl,rfl,rfl,rfl,by decide +kernel⟩ ?hw ?hc
 case hw=>w_witness2
 k_fill
 refine Sea.walk (l:=PySem.Challenge.rw_seamarks_k25_words_of_banks) rfl rfl (fun w h Y=>Y) ?F
 case F =>
  intro w mg fa h KX G hmg
  refine' Sea.all_mk KX G hmg ?q1 ?q2 ?q3 ?q4 ?q5 ?q6 ?q7 ?q8 ?q9 ?q10 ?q11 ?q12 ?q13 ?q14 ?q15 ?q16 ?q17 ?q18 ?q19 ?q20 ?q21 ?q22 ?q23 ?q24 ?q25 ?q26 ?q27 ?q28 ?q29 ?q30 ?q31 ?q32 ?q33 ?q34 ?q35 ?q36 ?q37 ?q38 ?q39 ?q40 ?q41 ?q42 ?q43 ?q44 ?q45 ?q46 ?q47 ?q48 ?q49 ?q50 ?q51 ?q52 ?q53 ?q54 ?q55 ?q56 ?q57 ?q58 ?q59 ?q60 ?q61 ?q62 ?q63 ?q64 ?q65 ?q66 ?q67 ?z_abs ?z_all ?z_bool ?z_enumerate ?z_int ?z_isinstance ?z_len ?z_list ?z_max ?z_min ?z_range ?z_sorted ?z_sum ?z_tuple ?z_zip
  (case q1=>and_intros <;> k_is)
  (case q2=>and_intros <;> k_is)
  (case q3=>and_intros <;> k_is)
  (case q4=>and_intros <;> k_is)
  (case q5=>and_intros <;> k_is)
  (case q6=>and_intros <;> k_is)
  (case q7=>and_intros <;> k_is)
  (case q8=>and_intros <;> k_is)
  (case q9=>and_intros <;> k_is)
  (case q10=>and_intros <;> k_is)
  (case q11=>and_intros <;> k_is)
  (case q12=>and_intros <;> k_is)
  (case q13=>and_intros <;> k_is)
  (case q14=>and_intros <;> k_is)
  (case q15=>and_intros <;> k_is)
  (case q16=>and_intros <;> k_is)
  (case q17=>and_intros <;> k_is)
  (case q18=>and_intros <;> k_is)
  (case q19=>and_intros <;> k_is)
  (case q20=>and_intros <;> k_is)
  (case q21=>and_intros <;> k_is)
  (case q22=>and_intros <;> k_is)
  (case q23=>and_intros <;> k_is)
  (case q24=>and_intros <;> k_is)
  (case q25=>and_intros <;> k_is)
  (case q26=>and_intros <;> k_is)
  (case q27=>and_intros <;> k_is)
  (case q28=>and_intros <;> k_is)
  (case q29=>and_intros <;> k_is)
  (case q30=>and_intros <;> k_is)
  (case q31=>and_intros <;> k_is)
  (case q32=>and_intros <;> k_is)
  (case q33=>and_intros <;> k_is)
  (case q34=>and_intros <;> k_is)
  (case q35=>and_intros <;> k_is)
  (case q36=>and_intros <;> k_is)
  (case q37=>and_intros <;> k_is)
  (case q38=>and_intros <;> k_is)
  (case q39=>and_intros <;> k_is)
  (case q40=>and_intros <;> k_is)
  (case q41=>and_intros <;> k_is)
  (case q42=>and_intros <;> k_is)
  (case q43=>and_intros <;> k_is)
  (case q44=>and_intros <;> k_is)
  (case q45=>and_intros <;> k_is)
  (case q46=>and_intros <;> k_is)
  (case q47=>and_intros <;> k_is)
  (case q48=>and_intros <;> k_is)
  (case q49=>and_intros <;> k_is)
  (case q50=>and_intros <;> k_is)
  (case q51=>and_intros <;> k_is)
  (case q52=>and_intros <;> k_is)
  (case q53=>and_intros <;> k_is)
  (case q54=>and_intros <;> k_is)
  (case q55=>and_intros <;> k_is)
  (case q56=>and_intros <;> k_is)
  (case q57=>and_intros <;> k_is)
  (case q58=>and_intros <;> k_is)
  (case q59=>and_intros <;> k_is)
  (case q60=>and_intros <;> k_is)
  (case q61=>and_intros <;> k_is)
  (case q62=>and_intros <;> k_is)
  (case q63=>and_intros <;> k_is)
  (case q64=>and_intros <;> k_is)
  (case q65=>and_intros <;> k_is)
  (case q66=>and_intros <;> k_is)
  (case q67=>and_intros <;> k_is)
  (case z_abs=>k_is)
  (case z_all=>k_is)
  (case z_bool=>k_is)
  (case z_enumerate=>k_is)
  (case z_int=>k_is)
  (case z_isinstance=>k_is)
  (case z_len=>k_is)
  (case z_list=>k_is)
  (case z_max=>k_is)
  (case z_min=>k_is)
  (case z_range=>k_is)
  (case z_sorted=>k_is)
  (case z_sum=>k_is)
  (case z_tuple=>k_is)
  (case z_zip=>k_is)
