import PyProof.Rows.All
import Wide.All
import OpenK.AllK
import Wide.FinOn
import Lean
import PyProof.EqAt
import PyProof.EqKinds
import PyProof.TupleCall
import PyProof.ZipIter
import PyProof.Rows.ZipGen
import PyProof.EnumFor
import PyProof.EnumStmt
import KE.KSortTup
import KE.KDictList
import PySem.Challenge.RW_seamarks_k28_reaches_judged
set_option Elab.async false
set_option linter.all false
set_option maxRecDepth 100000
set_option maxHeartbeats 4000000
namespace L2
open PySem
def zEs (s:Stmt):Arguments:=match s with
 | .FunctionDef _ a _ _ _ _ _ _ _ _=>a
 | _=>{ posonlyargs:=[],args:=[],vararg:=none,kwonlyargs:=[],kw_defaults:=[],kwarg:=none,defaults:=[] }
def zEd (s:Stmt):List Stmt:=match s with
 | .FunctionDef _ _ b _ _ _ _ _ _ _=>b
 | _=>[]
def zAn (s:Stmt):Scope:=match s with
 | .FunctionDef _ _ _ _ _ _ sc _ _ _=>sc
 | _=>{ kind:=.function,names:=[],isGenerator:=false,isCoroutine:=false }
end L2
namespace Sea
open PySem L2
def top (i:Nat):Stmt:=PySem.Challenge.pw_seamarks_k28_reaches_judged.main.body.getD i (.Pass ⟨0,0,0,0⟩)
abbrev zCm:Stmt:=top 1
abbrev zGb:Stmt:=top 2
abbrev zE8:Stmt:=top 3
abbrev zIx:Stmt:=top 4
abbrev zIo:Stmt:=top 5
abbrev zHr:Stmt:=top 6
abbrev zHt:Stmt:=top 7
abbrev zIh:Stmt:=top 8
abbrev zIk:Stmt:=top 10
abbrev zHs:Stmt:=top 11
abbrev zHn:Stmt:=top 12
abbrev zGj:Stmt:=top 13
abbrev zHd:Stmt:=top 14
abbrev zEo:Stmt:=top 15
abbrev zEj:Stmt:=top 17
abbrev zIr:Stmt:=top 18
abbrev zEq:Stmt:=top 19
abbrev zD0:Stmt:=top 20
abbrev zCz:Stmt:=top 21
abbrev zGa:Stmt:=top 22
abbrev zDw:Stmt:=top 23
abbrev zGc:Stmt:=top 24
abbrev zIi:Stmt:=top 25
abbrev zIg:Stmt:=top 27
abbrev zE9:Stmt:=top 28
abbrev zCh:Stmt:=top 29
abbrev zG8:Stmt:=top 30
abbrev zDj:Stmt:=top 31
abbrev zDo:Stmt:=top 32
abbrev zCc:Stmt:=top 33
abbrev zDr:Stmt:=top 34
abbrev zHl:Stmt:=top 35
abbrev zDa:Stmt:=top 37
abbrev zGh:Stmt:=top 38
abbrev zHj:Stmt:=top 39
abbrev zHi:Stmt:=top 40
abbrev zDl:Stmt:=top 41
abbrev zDn:Stmt:=top 42
abbrev zD6:Stmt:=top 43
abbrev zEp:Stmt:=top 44
abbrev zDk:Stmt:=top 45
abbrev zC0:Stmt:=top 47
abbrev zDz:Stmt:=top 48
abbrev zHp:Stmt:=top 49
abbrev zG4:Stmt:=top 50
abbrev zHo:Stmt:=top 51
abbrev zKz:Stmt:=top 52
abbrev zIq:Stmt:=top 53
abbrev zHu:Stmt:=top 54
abbrev zG2:Stmt:=top 55
abbrev zGi:Stmt:=top 56
abbrev zG9:Stmt:=top 57
abbrev zFg:Stmt:=top 58
abbrev zEl:Stmt:=top 59
abbrev zLh:Stmt:=top 60
abbrev zFf:Stmt:=top 61
abbrev zIl:Stmt:=top 62
abbrev zLi:Stmt:=top 63
abbrev zDm:Stmt:=top 64
abbrev zIj:Stmt:=top 65
abbrev zD1:Stmt:=top 66
abbrev zGe:Stmt:=top 67
abbrev zHf:Stmt:=top 68
abbrev zDp:Stmt:=top 69
abbrev zI0:Stmt:=top 70
abbrev zNk:Stmt:=top 71
noncomputable def qv:Program:={ PySem.Challenge.pw_seamarks_k28_reaches_judged with main:={ PySem.Challenge.pw_seamarks_k28_reaches_judged.main with body:=[top 1,top 2,top 3,top 4,top 5,top 6,top 7,top 8,top 10,top 11,top 12,top 13,top 14,top 15,top 17,top 18,top 19,top 20,top 21,top 22,top 23,top 24,top 25,top 27,top 28,top 29,top 30,top 31,top 32,top 33,top 34,top 35,top 37,top 38,top 39,top 40,top 41,top 42,top 43,top 44,top 45,top 47,top 48,top 49,top 50,top 51,top 52,top 53,top 54,top 55,top 56,top 57,top 58,top 59,top 60,top 61,top 62,top 63,top 64,top 65,top 66,top 67,top 68,top 69,top 70,top 71] } }
noncomputable def kd (P:Params) (x:Str) (t:Nat) (v:Value):DictEntry:=⟨PyData.keyHash P x,.str x t,v⟩
noncomputable def kc (l:List Value):Obj:=⟨.type "code", none,.fields (List.toArray l),List.toArray []⟩
noncomputable abbrev kf (x:Str) (s:Stmt) (kV doc pm cd ct:Value):Obj:=⟨.type "function", none,.func (PySem.W.fnOf x x (zEs s) (zEd s) (zAn s) .none kV doc pm none cd ct),List.toArray []⟩
noncomputable def kNs (P:Params):Obj:=⟨.type "dict", none,.dict (List.toArray (kd P "__name__" 165 (.str "law_seamarks_k28_reaches_judged" 560) :: kd P "__doc__" 166 .none :: kd P "__package__" 167 .none :: kd P "__loader__" 168 (.builtin "__main__.__loader__#opaque") :: kd P "__spec__" 169 .none :: kd P "__annotations__" 170 (.ref 6) :: kd P "__builtins__" 171 (.ref 4) :: kd P "__file__" 173 (.str "/claim/cut.py" 172) :: kd P "__cached__" 174 .none :: kd P "common_factor" 199 (.ref 21) :: kd P "lowest" 205 (.ref 26) :: kd P "upright" 211 (.ref 31) :: kd P "part" 219 (.ref 38) :: kd P "plus" 227 (.ref 45) :: kd P "times" 235 (.ref 52) :: kd P "below" 243 (.ref 59) :: kd P "spot" 252 (.ref 66) :: kd P "turn" 262 (.ref 73) :: kd P "along" 270 (.ref 80) :: kd P "plain" 277 (.ref 87) :: kd P "beyond" 285 (.ref 94) :: kd P "holds" 293 (.ref 101) :: kd P "crossing" 304 (.ref 108) :: kd P "in_water" 315 (.ref 115) :: kd P "foot" 322 (.ref 122) :: kd P "edge_end" 335 (.ref 129) :: kd P "edge_ends" 341 (.ref 134) :: kd P "spot_on_edge" 350 (.ref 141) :: kd P "sought" 359 (.ref 148) :: kd P "some_spot" 366 (.ref 155) :: kd P "is_way" 375 (.ref 162) :: kd P "ways" 385 (.ref 169) :: kd P "span" 394 (.ref 176) :: kd P "weighed" 400 (.ref 181) :: kd P "clash_of_three" 413 (.ref 188) :: kd P "clash" 424 (.ref 195) :: kd P "way_onward" 433 (.ref 202) :: kd P "far_by_one" 444 (.ref 209) :: kd P "weights_of_two" 457 (.ref 216) :: kd P "far_by_two" 469 (.ref 223) :: kd P "reach" 479 (.ref 230) :: kd P "are_weights" 491 (.ref 237) :: kd P "sum_at" 502 (.ref 244) :: kd P "makes" 508 (.ref 249) :: kd P "shown" 517 (.ref 256) :: kd P "good_clash" 523 (.ref 261) :: kd P "good_place" 531 (.ref 268) :: kd P "good_open" 540 (.ref 275) :: kd P "good_far" 550 (.ref 282) :: kd P "good_reach" 559 (.ref 289) :: kd P "_law_bent_weights" 575 (.ref 296) :: kd P "_law_bent_spot" 588 (.ref 303) :: kd P "_law_power" 595 (.ref 310) :: kd P "_law_draws" 607 (.ref 317) :: kd P "_law_tight" 613 (.ref 322) :: kd P "_law_way" 624 (.ref 329) :: kd P "_law_side" 634 (.ref 336) :: kd P "_law_sides" 640 (.ref 341) :: kd P "_law_same" 646 (.ref 346) :: kd P "_law_copied" 652 (.ref 351) :: kd P "_law_whole" 659 (.ref 358) :: kd P "_law_numbers" 665 (.ref 363) :: kd P "_law_is_clash" 679 (.ref 370) :: kd P "_law_low" 687 (.ref 377) :: kd P "_law_spot_of" 697 (.ref 384) :: kd P "_law_meet" 706 (.ref 391) :: kd P "_law_has" 712 (.ref 396) :: kd P "_law_corners_of" 724 (.ref 403) :: kd P "_law_feet" 730 (.ref 408) :: kd P "_law_any_place" 738 (.ref 415) :: kd P "_law_summed" 747 (.ref 422) :: kd P "_law_bound" 753 (.ref 427) :: kd P "_law_good_paper" 759 (.ref 432) :: kd P "_law_bent" 765 (.ref 437) :: kd P "law" 779 (.ref 444) :: [])) 75,List.toArray []⟩
noncomputable def KC:PySem.W.Frag :=
 (nat_lit 20,kc ((.str "common_factor" 189) :: ((.str "common_factor" 190) :: ((.str "/claim/cut.py" 191) :: ((.int 2 0) :: ((.int 1 0) :: ((.int 0 0) :: ((.int 0 0) :: ((.int 3 0) :: ((.ref 15) :: ((.bool true) :: ((.int 181 0) :: ((.ref 16) :: (.none :: ((.ref 17) :: ((.ref 18) :: ((.ref 19) :: ((.int 197 0) :: ((.int 2 0) :: ((.str "/claim/cut.py" 198) :: [])))))))))))))))))))) ::
 (nat_lit 21,kf "common_factor" zCm .none .none (.str "seamarks.parts" 187) (.ref 20) .none) ::
 (nat_lit 25,kc ((.str "lowest" 200) :: ((.str "lowest" 201) :: ((.str "/claim/cut.py" 202) :: ((.int 11 0) :: ((.int 1 0) :: ((.int 0 0) :: ((.int 0 0) :: ((.int 3 0) :: ((.ref 22) :: ((.bool true) :: ((.int 181 0) :: ((.ref 23) :: (.none :: (.none :: (.none :: ((.ref 24) :: ((.int 203 0) :: ((.int 11 0) :: ((.str "/claim/cut.py" 204) :: [])))))))))))))))))))) ::
 (nat_lit 26,kf "lowest" zGb .none .none (.str "seamarks.parts" 187) (.ref 25) .none) ::
 (nat_lit 30,kc ((.str "upright" 206) :: ((.str "upright" 207) :: ((.str "/claim/cut.py" 208) :: ((.int 14 0) :: ((.int 1 0) :: ((.int 0 0) :: ((.int 0 0) :: ((.int 3 0) :: ((.ref 27) :: ((.bool true) :: ((.int 181 0) :: ((.ref 28) :: (.none :: (.none :: (.none :: ((.ref 29) :: ((.int 209 0) :: ((.int 14 0) :: ((.str "/claim/cut.py" 210) :: [])))))))))))))))))))) ::
 (nat_lit 31,kf "upright" zE8 .none .none (.str "seamarks.parts" 187) (.ref 30) .none) ::
 (nat_lit 37,kc ((.str "part" 212) :: ((.str "part" 213) :: ((.str "/claim/cut.py" 214) :: ((.int 18 0) :: ((.int 2 0) :: ((.int 0 0) :: ((.int 0 0) :: ((.int 3 0) :: ((.ref 32) :: ((.bool true) :: ((.int 181 0) :: ((.ref 33) :: (.none :: ((.ref 34) :: ((.ref 35) :: ((.ref 36) :: ((.int 217 0) :: ((.int 18 0) :: ((.str "/claim/cut.py" 218) :: [])))))))))))))))))))) ::
 (nat_lit 38,kf "part" zIx .none .none (.str "seamarks.parts" 187) (.ref 37) .none) ::
 (nat_lit 44,kc ((.str "plus" 220) :: ((.str "plus" 221) :: ((.str "/claim/cut.py" 222) :: ((.int 20 0) :: ((.int 2 0) :: ((.int 0 0) :: ((.int 0 0) :: ((.int 3 0) :: ((.ref 39) :: ((.bool true) :: ((.int 181 0) :: ((.ref 40) :: (.none :: ((.ref 41) :: ((.ref 42) :: ((.ref 43) :: ((.int 225 0) :: ((.int 20 0) :: ((.str "/claim/cut.py" 226) :: [])))))))))))))))))))) ::
 (nat_lit 45,kf "plus" zIo .none .none (.str "seamarks.parts" 187) (.ref 44) .none) ::
 (nat_lit 51,kc ((.str "times" 228) :: ((.str "times" 229) :: ((.str "/claim/cut.py" 230) :: ((.int 22 0) :: ((.int 2 0) :: ((.int 0 0) :: ((.int 0 0) :: ((.int 3 0) :: ((.ref 46) :: ((.bool true) :: ((.int 181 0) :: ((.ref 47) :: (.none :: ((.ref 48) :: ((.ref 49) :: ((.ref 50) :: ((.int 233 0) :: ((.int 22 0) :: ((.str "/claim/cut.py" 234) :: [])))))))))))))))))))) ::
 (nat_lit 52,kf "times" zHr .none .none (.str "seamarks.parts" 187) (.ref 51) .none) ::
 (nat_lit 58,kc ((.str "below" 236) :: ((.str "below" 237) :: ((.str "/claim/cut.py" 238) :: ((.int 24 0) :: ((.int 2 0) :: ((.int 0 0) :: ((.int 0 0) :: ((.int 3 0) :: ((.ref 53) :: ((.bool true) :: ((.int 181 0) :: ((.ref 54) :: (.none :: ((.ref 55) :: ((.ref 56) :: ((.ref 57) :: ((.int 241 0) :: ((.int 24 0) :: ((.str "/claim/cut.py" 242) :: [])))))))))))))))))))) ::
 (nat_lit 59,kf "below" zHt .none .none (.str "seamarks.parts" 187) (.ref 58) .none) ::
 (nat_lit 65,kc ((.str "spot" 244) :: ((.str "spot" 245) :: ((.str "/claim/cut.py" 246) :: ((.int 26 0) :: ((.int 3 0) :: ((.int 0 0) :: ((.int 0 0) :: ((.int 3 0) :: ((.ref 60) :: ((.bool true) :: ((.int 181 0) :: ((.ref 61) :: (.none :: ((.ref 62) :: ((.ref 63) :: ((.ref 64) :: ((.int 250 0) :: ((.int 26 0) :: ((.str "/claim/cut.py" 251) :: [])))))))))))))))))))) ::
 (nat_lit 66,kf "spot" zIh .none .none (.str "seamarks.parts" 187) (.ref 65) .none) ::
 (nat_lit 72,kc ((.str "turn" 255) :: ((.str "turn" 256) :: ((.str "/claim/cut.py" 257) :: ((.int 29 0) :: ((.int 2 0) :: ((.int 0 0) :: ((.int 0 0) :: ((.int 3 0) :: ((.ref 67) :: ((.bool true) :: ((.int 181 0) :: ((.ref 68) :: (.none :: ((.ref 69) :: ((.ref 70) :: ((.ref 71) :: ((.int 260 0) :: ((.int 29 0) :: ((.str "/claim/cut.py" 261) :: [])))))))))))))))))))) ::
 (nat_lit 73,kf "turn" zIk .none .none (.str "seamarks.sides" 253) (.ref 72) .none) ::
 (nat_lit 79,kc ((.str "along" 263) :: ((.str "along" 264) :: ((.str "/claim/cut.py" 265) :: ((.int 31 0) :: ((.int 2 0) :: ((.int 0 0) :: ((.int 0 0) :: ((.int 3 0) :: ((.ref 74) :: ((.bool true) :: ((.int 181 0) :: ((.ref 75) :: (.none :: ((.ref 76) :: ((.ref 77) :: ((.ref 78) :: ((.int 268 0) :: ((.int 31 0) :: ((.str "/claim/cut.py" 269) :: [])))))))))))))))))))) ::
 (nat_lit 80,kf "along" zHs .none .none (.str "seamarks.sides" 253) (.ref 79) .none) ::
 (nat_lit 86,kc ((.str "plain" 271) :: ((.str "plain" 272) :: ((.str "/claim/cut.py" 273) :: ((.int 33 0) :: ((.int 1 0) :: ((.int 0 0) :: ((.int 0 0) :: ((.int 3 0) :: ((.ref 81) :: ((.bool true) :: ((.int 181 0) :: ((.ref 82) :: (.none :: ((.ref 83) :: ((.ref 84) :: ((.ref 85) :: ((.int 275 0) :: ((.int 33 0) :: ((.str "/claim/cut.py" 276) :: [])))))))))))))))))))) ::
 (nat_lit 87,kf "plain" zHn .none .none (.str "seamarks.sides" 253) (.ref 86) .none) ::
 (nat_lit 93,kc ((.str "beyond" 278) :: ((.str "beyond" 279) :: ((.str "/claim/cut.py" 280) :: ((.int 35 0) :: ((.int 2 0) :: ((.int 0 0) :: ((.int 0 0) :: ((.int 3 0) :: ((.ref 88) :: ((.bool true) :: ((.int 181 0) :: ((.ref 89) :: (.none :: ((.ref 90) :: ((.ref 91) :: ((.ref 92) :: ((.int 283 0) :: ((.int 35 0) :: ((.str "/claim/cut.py" 284) :: [])))))))))))))))))))) ::
 (nat_lit 94,kf "beyond" zGj .none .none (.str "seamarks.sides" 253) (.ref 93) .none) ::
 (nat_lit 100,kc ((.str "holds" 286) :: ((.str "holds" 287) :: ((.str "/claim/cut.py" 288) :: ((.int 37 0) :: ((.int 2 0) :: ((.int 0 0) :: ((.int 0 0) :: ((.int 3 0) :: ((.ref 95) :: ((.bool true) :: ((.int 181 0) :: ((.ref 96) :: (.none :: ((.ref 97) :: ((.ref 98) :: ((.ref 99) :: ((.int 291 0) :: ((.int 37 0) :: ((.str "/claim/cut.py" 292) :: [])))))))))))))))))))) ::
 (nat_lit 101,kf "holds" zHd .none .none (.str "seamarks.sides" 253) (.ref 100) .none) ::
 (nat_lit 107,kc ((.str "crossing" 294) :: ((.str "crossing" 295) :: ((.str "/claim/cut.py" 296) :: ((.int 39 0) :: ((.int 2 0) :: ((.int 0 0) :: ((.int 0 0) :: ((.int 3 0) :: ((.ref 102) :: ((.bool true) :: ((.int 181 0) :: ((.ref 103) :: (.none :: ((.ref 104) :: ((.ref 105) :: ((.ref 106) :: ((.int 302 0) :: ((.int 39 0) :: ((.str "/claim/cut.py" 303) :: [])))))))))))))))))))) ::
 (nat_lit 108,kf "crossing" zEo .none .none (.str "seamarks.sides" 253) (.ref 107) .none) ::
 (nat_lit 114,kc ((.str "in_water" 307) :: ((.str "in_water" 308) :: ((.str "/claim/cut.py" 309) :: ((.int 47 0) :: ((.int 2 0) :: ((.int 0 0) :: ((.int 0 0) :: ((.int 3 0) :: ((.ref 109) :: ((.bool true) :: ((.int 181 0) :: ((.ref 110) :: (.none :: ((.ref 111) :: ((.ref 112) :: ((.ref 113) :: ((.int 313 0) :: ((.int 47 0) :: ((.str "/claim/cut.py" 314) :: [])))))))))))))))))))) ::
 (nat_lit 115,kf "in_water" zEj .none .none (.str "seamarks.water" 305) (.ref 114) .none) ::
 (nat_lit 121,kc ((.str "foot" 316) :: ((.str "foot" 317) :: ((.str "/claim/cut.py" 318) :: ((.int 52 0) :: ((.int 1 0) :: ((.int 0 0) :: ((.int 0 0) :: ((.int 3 0) :: ((.ref 116) :: ((.bool true) :: ((.int 181 0) :: ((.ref 117) :: (.none :: ((.ref 118) :: ((.ref 119) :: ((.ref 120) :: ((.int 320 0) :: ((.int 52 0) :: ((.str "/claim/cut.py" 321) :: [])))))))))))))))))))) ::
 (nat_lit 122,kf "foot" zIr .none .none (.str "seamarks.water" 305) (.ref 121) .none) ::
 (nat_lit 128,kc ((.str "edge_end" 323) :: ((.str "edge_end" 324) :: ((.str "/claim/cut.py" 325) :: ((.int 54 0) :: ((.int 3 0) :: ((.int 0 0) :: ((.int 0 0) :: ((.int 3 0) :: ((.ref 123) :: ((.bool true) :: ((.int 181 0) :: ((.ref 124) :: (.none :: ((.ref 125) :: ((.ref 126) :: ((.ref 127) :: ((.int 333 0) :: ((.int 54 0) :: ((.str "/claim/cut.py" 334) :: [])))))))))))))))))))) ::
 (nat_lit 129,kf "edge_end" zEq .none .none (.str "seamarks.water" 305) (.ref 128) .none) ::
 (nat_lit 133,kc ((.str "edge_ends" 336) :: ((.str "edge_ends" 337) :: ((.str "/claim/cut.py" 338) :: ((.int 63 0) :: ((.int 2 0) :: ((.int 0 0) :: ((.int 0 0) :: ((.int 3 0) :: ((.ref 130) :: ((.bool true) :: ((.int 181 0) :: ((.ref 131) :: (.none :: (.none :: (.none :: ((.ref 132) :: ((.int 339 0) :: ((.int 63 0) :: ((.str "/claim/cut.py" 340) :: [])))))))))))))))))))) ::
 (nat_lit 134,kf "edge_ends" zD0 .none .none (.str "seamarks.water" 305) (.ref 133) .none) ::
 (nat_lit 140,kc ((.str "spot_on_edge" 342) :: ((.str "spot_on_edge" 343) :: ((.str "/claim/cut.py" 344) :: ((.int 66 0) :: ((.int 2 0) :: ((.int 0 0) :: ((.int 0 0) :: ((.int 3 0) :: ((.ref 135) :: ((.bool true) :: ((.int 181 0) :: ((.ref 136) :: (.none :: ((.ref 137) :: ((.ref 138) :: ((.ref 139) :: ((.int 348 0) :: ((.int 66 0) :: ((.str "/claim/cut.py" 349) :: [])))))))))))))))))))) ::
 (nat_lit 141,kf "spot_on_edge" zCz .none .none (.str "seamarks.water" 305) (.ref 140) .none) ::
 (nat_lit 147,kc ((.str "sought" 351) :: ((.str "sought" 352) :: ((.str "/claim/cut.py" 353) :: ((.int 71 0) :: ((.int 1 0) :: ((.int 0 0) :: ((.int 0 0) :: ((.int 3 0) :: ((.ref 142) :: ((.bool true) :: ((.int 181 0) :: ((.ref 143) :: (.none :: ((.ref 144) :: ((.ref 145) :: ((.ref 146) :: ((.int 357 0) :: ((.int 71 0) :: ((.str "/claim/cut.py" 358) :: [])))))))))))))))))))) ::
 (nat_lit 148,kf "sought" zGa .none .none (.str "seamarks.water" 305) (.ref 147) .none) ::
 (nat_lit 154,kc ((.str "some_spot" 360) :: ((.str "some_spot" 361) :: ((.str "/claim/cut.py" 362) :: ((.int 79 0) :: ((.int 1 0) :: ((.int 0 0) :: ((.int 0 0) :: ((.int 3 0) :: ((.ref 149) :: ((.bool true) :: ((.int 181 0) :: ((.ref 150) :: (.none :: ((.ref 151) :: ((.ref 152) :: ((.ref 153) :: ((.int 364 0) :: ((.int 79 0) :: ((.str "/claim/cut.py" 365) :: [])))))))))))))))))))) ::
 (nat_lit 155,kf "some_spot" zDw .none .none (.str "seamarks.water" 305) (.ref 154) .none) ::
 (nat_lit 161,kc ((.str "is_way" 367) :: ((.str "is_way" 368) :: ((.str "/claim/cut.py" 369) :: ((.int 81 0) :: ((.int 2 0) :: ((.int 0 0) :: ((.int 0 0) :: ((.int 3 0) :: ((.ref 156) :: ((.bool true) :: ((.int 181 0) :: ((.ref 157) :: (.none :: ((.ref 158) :: ((.ref 159) :: ((.ref 160) :: ((.int 373 0) :: ((.int 81 0) :: ((.str "/claim/cut.py" 374) :: [])))))))))))))))))))) ::
 (nat_lit 162,kf "is_way" zGc .none .none (.str "seamarks.water" 305) (.ref 161) .none) ::
 (nat_lit 168,kc ((.str "ways" 376) :: ((.str "ways" 377) :: ((.str "/claim/cut.py" 378) :: ((.int 86 0) :: ((.int 1 0) :: ((.int 0 0) :: ((.int 0 0) :: ((.int 3 0) :: ((.ref 163) :: ((.bool true) :: ((.int 181 0) :: ((.ref 164) :: (.none :: ((.ref 165) :: ((.ref 166) :: ((.ref 167) :: ((.int 383 0) :: ((.int 86 0) :: ((.str "/claim/cut.py" 384) :: [])))))))))))))))))))) ::
 (nat_lit 169,kf "ways" zIi .none .none (.str "seamarks.water" 305) (.ref 168) .none) ::
 (nat_lit 175,kc ((.str "span" 388) :: ((.str "span" 389) :: ((.str "/claim/cut.py" 390) :: ((.int 94 0) :: ((.int 1 0) :: ((.int 0 0) :: ((.int 0 0) :: ((.int 3 0) :: ((.ref 170) :: ((.bool true) :: ((.int 181 0) :: ((.ref 171) :: (.none :: ((.ref 172) :: ((.ref 173) :: ((.ref 174) :: ((.int 392 0) :: ((.int 94 0) :: ((.str "/claim/cut.py" 393) :: [])))))))))))))))))))) ::
 (nat_lit 176,kf "span" zIg .none .none (.str "seamarks.reach" 386) (.ref 175) .none) ::
 (nat_lit 180,kc ((.str "weighed" 395) :: ((.str "weighed" 396) :: ((.str "/claim/cut.py" 397) :: ((.int 96 0) :: ((.int 2 0) :: ((.int 0 0) :: ((.int 0 0) :: ((.int 3 0) :: ((.ref 177) :: ((.bool true) :: ((.int 181 0) :: ((.ref 178) :: (.none :: (.none :: (.none :: ((.ref 179) :: ((.int 398 0) :: ((.int 96 0) :: ((.str "/claim/cut.py" 399) :: [])))))))))))))))))))) ::
 (nat_lit 181,kf "weighed" zE9 .none .none (.str "seamarks.reach" 386) (.ref 180) .none) ::
 (nat_lit 187,kc ((.str "clash_of_three" 401) :: ((.str "clash_of_three" 402) :: ((.str "/claim/cut.py" 403) :: ((.int 99 0) :: ((.int 2 0) :: ((.int 0 0) :: ((.int 0 0) :: ((.int 3 0) :: ((.ref 182) :: ((.bool true) :: ((.int 181 0) :: ((.ref 183) :: (.none :: ((.ref 184) :: ((.ref 185) :: ((.ref 186) :: ((.int 411 0) :: ((.int 99 0) :: ((.str "/claim/cut.py" 412) :: [])))))))))))))))))))) ::
 (nat_lit 188,kf "clash_of_three" zCh .none .none (.str "seamarks.reach" 386) (.ref 187) .none) ::
 (nat_lit 194,kc ((.str "clash" 414) :: ((.str "clash" 415) :: ((.str "/claim/cut.py" 416) :: ((.int 106 0) :: ((.int 1 0) :: ((.int 0 0) :: ((.int 0 0) :: ((.int 3 0) :: ((.ref 189) :: ((.bool true) :: ((.int 181 0) :: ((.ref 190) :: (.none :: ((.ref 191) :: ((.ref 192) :: ((.ref 193) :: ((.int 422 0) :: ((.int 106 0) :: ((.str "/claim/cut.py" 423) :: [])))))))))))))))))))) ::
 (nat_lit 195,kf "clash" zG8 .none .none (.str "seamarks.reach" 386) (.ref 194) .none) ::
 (nat_lit 201,kc ((.str "way_onward" 425) :: ((.str "way_onward" 426) :: ((.str "/claim/cut.py" 427) :: ((.int 116 0) :: ((.int 2 0) :: ((.int 0 0) :: ((.int 0 0) :: ((.int 3 0) :: ((.ref 196) :: ((.bool true) :: ((.int 181 0) :: ((.ref 197) :: (.none :: ((.ref 198) :: ((.ref 199) :: ((.ref 200) :: ((.int 431 0) :: ((.int 116 0) :: ((.str "/claim/cut.py" 432) :: [])))))))))))))))))))) ::
 (nat_lit 202,kf "way_onward" zDj .none .none (.str "seamarks.reach" 386) (.ref 201) .none) ::
 (nat_lit 208,kc ((.str "far_by_one" 434) :: ((.str "far_by_one" 435) :: ((.str "/claim/cut.py" 436) :: ((.int 121 0) :: ((.int 2 0) :: ((.int 0 0) :: ((.int 0 0) :: ((.int 3 0) :: ((.ref 203) :: ((.bool true) :: ((.int 181 0) :: ((.ref 204) :: (.none :: ((.ref 205) :: ((.ref 206) :: ((.ref 207) :: ((.int 442 0) :: ((.int 121 0) :: ((.str "/claim/cut.py" 443) :: [])))))))))))))))))))) ::
 (nat_lit 209,kf "far_by_one" zDo .none .none (.str "seamarks.reach" 386) (.ref 208) .none) ::
 (nat_lit 215,kc ((.str "weights_of_two" 445) :: ((.str "weights_of_two" 446) :: ((.str "/claim/cut.py" 447) :: ((.int 129 0) :: ((.int 3 0) :: ((.int 0 0) :: ((.int 0 0) :: ((.int 3 0) :: ((.ref 210) :: ((.bool true) :: ((.int 181 0) :: ((.ref 211) :: (.none :: ((.ref 212) :: ((.ref 213) :: ((.ref 214) :: ((.int 455 0) :: ((.int 129 0) :: ((.str "/claim/cut.py" 456) :: [])))))))))))))))))))) ::
 (nat_lit 216,kf "weights_of_two" zCc .none .none (.str "seamarks.reach" 386) (.ref 215) .none) ::
 (nat_lit 222,kc ((.str "far_by_two" 458) :: ((.str "far_by_two" 459) :: ((.str "/claim/cut.py" 460) :: ((.int 135 0) :: ((.int 2 0) :: ((.int 0 0) :: ((.int 0 0) :: ((.int 3 0) :: ((.ref 217) :: ((.bool true) :: ((.int 181 0) :: ((.ref 218) :: (.none :: ((.ref 219) :: ((.ref 220) :: ((.ref 221) :: ((.int 467 0) :: ((.int 135 0) :: ((.str "/claim/cut.py" 468) :: [])))))))))))))))))))) ::
 (nat_lit 223,kf "far_by_two" zDr .none .none (.str "seamarks.reach" 386) (.ref 222) .none) ::
 (nat_lit 229,kc ((.str "reach" 470) :: ((.str "reach" 471) :: ((.str "/claim/cut.py" 472) :: ((.int 144 0) :: ((.int 2 0) :: ((.int 0 0) :: ((.int 0 0) :: ((.int 3 0) :: ((.ref 224) :: ((.bool true) :: ((.int 181 0) :: ((.ref 225) :: (.none :: ((.ref 226) :: ((.ref 227) :: ((.ref 228) :: ((.int 477 0) :: ((.int 144 0) :: ((.str "/claim/cut.py" 478) :: [])))))))))))))))))))) ::
 (nat_lit 230,kf "reach" zHl .none .none (.str "seamarks.reach" 386) (.ref 229) .none) ::
 (nat_lit 236,kc ((.str "are_weights" 482) :: ((.str "are_weights" 483) :: ((.str "/claim/cut.py" 484) :: ((.int 153 0) :: ((.int 2 0) :: ((.int 0 0) :: ((.int 0 0) :: ((.int 3 0) :: ((.ref 231) :: ((.bool true) :: ((.int 181 0) :: ((.ref 232) :: (.none :: ((.ref 233) :: ((.ref 234) :: ((.ref 235) :: ((.int 489 0) :: ((.int 153 0) :: ((.str "/claim/cut.py" 490) :: [])))))))))))))))))))) ::
 (nat_lit 237,kf "are_weights" zDa .none .none (.str "seamarks.looker" 480) (.ref 236) .none) ::
 (nat_lit 243,kc ((.str "sum_at" 492) :: ((.str "sum_at" 493) :: ((.str "/claim/cut.py" 494) :: ((.int 160 0) :: ((.int 3 0) :: ((.int 0 0) :: ((.int 0 0) :: ((.int 3 0) :: ((.ref 238) :: ((.bool true) :: ((.int 181 0) :: ((.ref 239) :: (.none :: ((.ref 240) :: ((.ref 241) :: ((.ref 242) :: ((.int 500 0) :: ((.int 160 0) :: ((.str "/claim/cut.py" 501) :: [])))))))))))))))))))) ::
 (nat_lit 244,kf "sum_at" zGh .none .none (.str "seamarks.looker" 480) (.ref 243) .none) ::
 (nat_lit 248,kc ((.str "makes" 503) :: ((.str "makes" 504) :: ((.str "/claim/cut.py" 505) :: ((.int 165 0) :: ((.int 3 0) :: ((.int 0 0) :: ((.int 0 0) :: ((.int 3 0) :: ((.ref 245) :: ((.bool true) :: ((.int 181 0) :: ((.ref 246) :: (.none :: (.none :: (.none :: ((.ref 247) :: ((.int 506 0) :: ((.int 165 0) :: ((.str "/claim/cut.py" 507) :: [])))))))))))))))))))) ::
 (nat_lit 249,kf "makes" zHj .none .none (.str "seamarks.looker" 480) (.ref 248) .none) ::
 (nat_lit 255,kc ((.str "shown" 509) :: ((.str "shown" 510) :: ((.str "/claim/cut.py" 511) :: ((.int 167 0) :: ((.int 3 0) :: ((.int 0 0) :: ((.int 0 0) :: ((.int 3 0) :: ((.ref 250) :: ((.bool true) :: ((.int 181 0) :: ((.ref 251) :: (.none :: ((.ref 252) :: ((.ref 253) :: ((.ref 254) :: ((.int 515 0) :: ((.int 167 0) :: ((.str "/claim/cut.py" 516) :: [])))))))))))))))))))) ::
 (nat_lit 256,kf "shown" zHi .none .none (.str "seamarks.looker" 480) (.ref 255) .none) ::
 (nat_lit 260,kc ((.str "good_clash" 518) :: ((.str "good_clash" 519) :: ((.str "/claim/cut.py" 520) :: ((.int 173 0) :: ((.int 2 0) :: ((.int 0 0) :: ((.int 0 0) :: ((.int 3 0) :: ((.ref 257) :: ((.bool true) :: ((.int 181 0) :: ((.ref 258) :: (.none :: (.none :: (.none :: ((.ref 259) :: ((.int 521 0) :: ((.int 173 0) :: ((.str "/claim/cut.py" 522) :: [])))))))))))))))))))) ::
 (nat_lit 261,kf "good_clash" zDl .none .none (.str "seamarks.looker" 480) (.ref 260) .none) ::
 (nat_lit 267,kc ((.str "good_place" 524) :: ((.str "good_place" 525) :: ((.str "/claim/cut.py" 526) :: ((.int 180 0) :: ((.int 2 0) :: ((.int 0 0) :: ((.int 0 0) :: ((.int 3 0) :: ((.ref 262) :: ((.bool true) :: ((.int 181 0) :: ((.ref 263) :: (.none :: ((.ref 264) :: ((.ref 265) :: ((.ref 266) :: ((.int 529 0) :: ((.int 180 0) :: ((.str "/claim/cut.py" 530) :: [])))))))))))))))))))) ::
 (nat_lit 268,kf "good_place" zDn .none .none (.str "seamarks.looker" 480) (.ref 267) .none) ::
 (nat_lit 274,kc ((.str "good_open" 532) :: ((.str "good_open" 533) :: ((.str "/claim/cut.py" 534) :: ((.int 182 0) :: ((.int 3 0) :: ((.int 0 0) :: ((.int 0 0) :: ((.int 3 0) :: ((.ref 269) :: ((.bool true) :: ((.int 181 0) :: ((.ref 270) :: (.none :: ((.ref 271) :: ((.ref 272) :: ((.ref 273) :: ((.int 538 0) :: ((.int 182 0) :: ((.str "/claim/cut.py" 539) :: [])))))))))))))))))))) ::
 (nat_lit 275,kf "good_open" zD6 .none .none (.str "seamarks.looker" 480) (.ref 274) .none) ::
 (nat_lit 281,kc ((.str "good_far" 541) :: ((.str "good_far" 542) :: ((.str "/claim/cut.py" 543) :: ((.int 184 0) :: ((.int 4 0) :: ((.int 0 0) :: ((.int 0 0) :: ((.int 3 0) :: ((.ref 276) :: ((.bool true) :: ((.int 181 0) :: ((.ref 277) :: (.none :: ((.ref 278) :: ((.ref 279) :: ((.ref 280) :: ((.int 548 0) :: ((.int 184 0) :: ((.str "/claim/cut.py" 549) :: [])))))))))))))))))))) ::
 (nat_lit 282,kf "good_far" zEp .none .none (.str "seamarks.looker" 480) (.ref 281) .none) ::
 (nat_lit 288,kc ((.str "good_reach" 551) :: ((.str "good_reach" 552) :: ((.str "/claim/cut.py" 553) :: ((.int 188 0) :: ((.int 3 0) :: ((.int 0 0) :: ((.int 0 0) :: ((.int 3 0) :: ((.ref 283) :: ((.bool true) :: ((.int 181 0) :: ((.ref 284) :: (.none :: ((.ref 285) :: ((.ref 286) :: ((.ref 287) :: ((.int 557 0) :: ((.int 188 0) :: ((.str "/claim/cut.py" 558) :: [])))))))))))))))))))) ::
 (nat_lit 289,kf "good_reach" zDk .none .none (.str "seamarks.looker" 480) (.ref 288) .none) ::
 (nat_lit 295,kc ((.str "_law_bent_weights" 562) :: ((.str "_law_bent_weights" 563) :: ((.str "/claim/cut.py" 564) :: ((.int 197 0) :: ((.int 2 0) :: ((.int 0 0) :: ((.int 0 0) :: ((.int 3 0) :: ((.ref 290) :: ((.bool true) :: ((.int 181 0) :: ((.ref 291) :: (.none :: ((.ref 292) :: ((.ref 293) :: ((.ref 294) :: ((.int 573 0) :: ((.int 197 0) :: ((.str "/claim/cut.py" 574) :: [])))))))))))))))))))) ::
 (nat_lit 296,kf "_law_bent_weights" zC0 .none .none (.str "law_seamarks_k28_reaches_judged" 560) (.ref 295) .none) ::
 (nat_lit 302,kc ((.str "_law_bent_spot" 576) :: ((.str "_law_bent_spot" 577) :: ((.str "/claim/cut.py" 578) :: ((.int 221 0) :: ((.int 2 0) :: ((.int 0 0) :: ((.int 0 0) :: ((.int 3 0) :: ((.ref 297) :: ((.bool true) :: ((.int 181 0) :: ((.ref 298) :: (.none :: ((.ref 299) :: ((.ref 300) :: ((.ref 301) :: ((.int 586 0) :: ((.int 221 0) :: ((.str "/claim/cut.py" 587) :: [])))))))))))))))))))) ::
 (nat_lit 303,kf "_law_bent_spot" zDz .none .none (.str "law_seamarks_k28_reaches_judged" 560) (.ref 302) .none) ::
 (nat_lit 309,kc ((.str "_law_power" 589) :: ((.str "_law_power" 590) :: ((.str "/claim/cut.py" 591) :: ((.int 226 0) :: ((.int 1 0) :: ((.int 0 0) :: ((.int 0 0) :: ((.int 3 0) :: ((.ref 304) :: ((.bool true) :: ((.int 181 0) :: ((.ref 305) :: (.none :: ((.ref 306) :: ((.ref 307) :: ((.ref 308) :: ((.int 593 0) :: ((.int 226 0) :: ((.str "/claim/cut.py" 594) :: [])))))))))))))))))))) ::
 (nat_lit 310,kf "_law_power" zHp .none .none (.str "law_seamarks_k28_reaches_judged" 560) (.ref 309) .none) ::
 (nat_lit 316,kc ((.str "_law_draws" 596) :: ((.str "_law_draws" 597) :: ((.str "/claim/cut.py" 598) :: ((.int 228 0) :: ((.int 2 0) :: ((.int 0 0) :: ((.int 0 0) :: ((.int 3 0) :: ((.ref 311) :: ((.bool true) :: ((.int 181 0) :: ((.ref 312) :: (.none :: ((.ref 313) :: ((.ref 314) :: ((.ref 315) :: ((.int 605 0) :: ((.int 228 0) :: ((.str "/claim/cut.py" 606) :: [])))))))))))))))))))) ::
 (nat_lit 317,kf "_law_draws" zG4 .none .none (.str "law_seamarks_k28_reaches_judged" 560) (.ref 316) .none) ::
 (nat_lit 321,kc ((.str "_law_tight" 608) :: ((.str "_law_tight" 609) :: ((.str "/claim/cut.py" 610) :: ((.int 244 0) :: ((.int 2 0) :: ((.int 0 0) :: ((.int 0 0) :: ((.int 3 0) :: ((.ref 318) :: ((.bool true) :: ((.int 181 0) :: ((.ref 319) :: (.none :: (.none :: (.none :: ((.ref 320) :: ((.int 611 0) :: ((.int 244 0) :: ((.str "/claim/cut.py" 612) :: [])))))))))))))))))))) ::
 (nat_lit 322,kf "_law_tight" zHo .none .none (.str "law_seamarks_k28_reaches_judged" 560) (.ref 321) .none) ::
 (nat_lit 328,kc ((.str "_law_way" 614) :: ((.str "_law_way" 615) :: ((.str "/claim/cut.py" 616) :: ((.int 250 0) :: ((.int 3 0) :: ((.int 0 0) :: ((.int 0 0) :: ((.int 3 0) :: ((.ref 323) :: ((.bool true) :: ((.int 181 0) :: ((.ref 324) :: (.none :: ((.ref 325) :: ((.ref 326) :: ((.ref 327) :: ((.int 622 0) :: ((.int 250 0) :: ((.str "/claim/cut.py" 623) :: [])))))))))))))))))))) ::
 (nat_lit 329,kf "_law_way" zKz .none .none (.str "law_seamarks_k28_reaches_judged" 560) (.ref 328) .none) ::
 (nat_lit 335,kc ((.str "_law_side" 625) :: ((.str "_law_side" 626) :: ((.str "/claim/cut.py" 627) :: ((.int 256 0) :: ((.int 1 0) :: ((.int 0 0) :: ((.int 0 0) :: ((.int 3 0) :: ((.ref 330) :: ((.bool true) :: ((.int 181 0) :: ((.ref 331) :: (.none :: ((.ref 332) :: ((.ref 333) :: ((.ref 334) :: ((.int 632 0) :: ((.int 256 0) :: ((.str "/claim/cut.py" 633) :: [])))))))))))))))))))) ::
 (nat_lit 336,kf "_law_side" zIq .none .none (.str "law_seamarks_k28_reaches_judged" 560) (.ref 335) .none) ::
 (nat_lit 340,kc ((.str "_law_sides" 635) :: ((.str "_law_sides" 636) :: ((.str "/claim/cut.py" 637) :: ((.int 266 0) :: ((.int 2 0) :: ((.int 0 0) :: ((.int 0 0) :: ((.int 3 0) :: ((.ref 337) :: ((.bool true) :: ((.int 181 0) :: ((.ref 338) :: (.none :: (.none :: (.none :: ((.ref 339) :: ((.int 638 0) :: ((.int 266 0) :: ((.str "/claim/cut.py" 639) :: [])))))))))))))))))))) ::
 (nat_lit 341,kf "_law_sides" zHu .none .none (.str "law_seamarks_k28_reaches_judged" 560) (.ref 340) .none) ::
 (nat_lit 345,kc ((.str "_law_same" 641) :: ((.str "_law_same" 642) :: ((.str "/claim/cut.py" 643) :: ((.int 276 0) :: ((.int 2 0) :: ((.int 0 0) :: ((.int 0 0) :: ((.int 3 0) :: ((.ref 342) :: ((.bool true) :: ((.int 181 0) :: ((.ref 343) :: (.none :: (.none :: (.none :: ((.ref 344) :: ((.int 644 0) :: ((.int 276 0) :: ((.str "/claim/cut.py" 645) :: [])))))))))))))))))))) ::
 (nat_lit 346,kf "_law_same" zG2 .none .none (.str "law_seamarks_k28_reaches_judged" 560) (.ref 345) .none) ::
 (nat_lit 350,kc ((.str "_law_copied" 647) :: ((.str "_law_copied" 648) :: ((.str "/claim/cut.py" 649) :: ((.int 284 0) :: ((.int 1 0) :: ((.int 0 0) :: ((.int 0 0) :: ((.int 3 0) :: ((.ref 347) :: ((.bool true) :: ((.int 181 0) :: ((.ref 348) :: (.none :: (.none :: (.none :: ((.ref 349) :: ((.int 650 0) :: ((.int 284 0) :: ((.str "/claim/cut.py" 651) :: [])))))))))))))))))))) ::
 (nat_lit 351,kf "_law_copied" zGi .none .none (.str "law_seamarks_k28_reaches_judged" 560) (.ref 350) .none) ::
 (nat_lit 357,kc ((.str "_law_whole" 653) :: ((.str "_law_whole" 654) :: ((.str "/claim/cut.py" 655) :: ((.int 292 0) :: ((.int 1 0) :: ((.int 0 0) :: ((.int 0 0) :: ((.int 3 0) :: ((.ref 352) :: ((.bool true) :: ((.int 181 0) :: ((.ref 353) :: (.none :: ((.ref 354) :: ((.ref 355) :: ((.ref 356) :: ((.int 657 0) :: ((.int 292 0) :: ((.str "/claim/cut.py" 658) :: [])))))))))))))))))))) ::
 (nat_lit 358,kf "_law_whole" zG9 .none .none (.str "law_seamarks_k28_reaches_judged" 560) (.ref 357) .none) ::
 (nat_lit 362,kc ((.str "_law_numbers" 660) :: ((.str "_law_numbers" 661) :: ((.str "/claim/cut.py" 662) :: ((.int 294 0) :: ((.int 2 0) :: ((.int 0 0) :: ((.int 0 0) :: ((.int 3 0) :: ((.ref 359) :: ((.bool true) :: ((.int 181 0) :: ((.ref 360) :: (.none :: (.none :: (.none :: ((.ref 361) :: ((.int 663 0) :: ((.int 294 0) :: ((.str "/claim/cut.py" 664) :: [])))))))))))))))))))) ::
 (nat_lit 363,kf "_law_numbers" zFg .none .none (.str "law_seamarks_k28_reaches_judged" 560) (.ref 362) .none) ::
 (nat_lit 369,kc ((.str "_law_is_clash" 666) :: ((.str "_law_is_clash" 667) :: ((.str "/claim/cut.py" 668) :: ((.int 296 0) :: ((.int 2 0) :: ((.int 0 0) :: ((.int 0 0) :: ((.int 3 0) :: ((.ref 364) :: ((.bool true) :: ((.int 181 0) :: ((.ref 365) :: (.none :: ((.ref 366) :: ((.ref 367) :: ((.ref 368) :: ((.int 677 0) :: ((.int 296 0) :: ((.str "/claim/cut.py" 678) :: [])))))))))))))))))))) ::
 (nat_lit 370,kf "_law_is_clash" zEl .none .none (.str "law_seamarks_k28_reaches_judged" 560) (.ref 369) .none) ::
 (nat_lit 376,kc ((.str "_law_low" 680) :: ((.str "_law_low" 681) :: ((.str "/claim/cut.py" 682) :: ((.int 308 0) :: ((.int 2 0) :: ((.int 0 0) :: ((.int 0 0) :: ((.int 3 0) :: ((.ref 371) :: ((.bool true) :: ((.int 181 0) :: ((.ref 372) :: (.none :: ((.ref 373) :: ((.ref 374) :: ((.ref 375) :: ((.int 685 0) :: ((.int 308 0) :: ((.str "/claim/cut.py" 686) :: [])))))))))))))))))))) ::
 (nat_lit 377,kf "_law_low" zLh .none .none (.str "law_seamarks_k28_reaches_judged" 560) (.ref 376) .none) ::
 (nat_lit 383,kc ((.str "_law_spot_of" 688) :: ((.str "_law_spot_of" 689) :: ((.str "/claim/cut.py" 690) :: ((.int 314 0) :: ((.int 3 0) :: ((.int 0 0) :: ((.int 0 0) :: ((.int 3 0) :: ((.ref 378) :: ((.bool true) :: ((.int 181 0) :: ((.ref 379) :: (.none :: ((.ref 380) :: ((.ref 381) :: ((.ref 382) :: ((.int 695 0) :: ((.int 314 0) :: ((.str "/claim/cut.py" 696) :: [])))))))))))))))))))) ::
 (nat_lit 384,kf "_law_spot_of" zFf .none .none (.str "law_seamarks_k28_reaches_judged" 560) (.ref 383) .none) ::
 (nat_lit 390,kc ((.str "_law_meet" 698) :: ((.str "_law_meet" 699) :: ((.str "/claim/cut.py" 700) :: ((.int 319 0) :: ((.int 2 0) :: ((.int 0 0) :: ((.int 0 0) :: ((.int 3 0) :: ((.ref 385) :: ((.bool true) :: ((.int 181 0) :: ((.ref 386) :: (.none :: ((.ref 387) :: ((.ref 388) :: ((.ref 389) :: ((.int 704 0) :: ((.int 319 0) :: ((.str "/claim/cut.py" 705) :: [])))))))))))))))))))) ::
 (nat_lit 391,kf "_law_meet" zIl .none .none (.str "law_seamarks_k28_reaches_judged" 560) (.ref 390) .none) ::
 (nat_lit 395,kc ((.str "_law_has" 707) :: ((.str "_law_has" 708) :: ((.str "/claim/cut.py" 709) :: ((.int 324 0) :: ((.int 2 0) :: ((.int 0 0) :: ((.int 0 0) :: ((.int 3 0) :: ((.ref 392) :: ((.bool true) :: ((.int 181 0) :: ((.ref 393) :: (.none :: (.none :: (.none :: ((.ref 394) :: ((.int 710 0) :: ((.int 324 0) :: ((.str "/claim/cut.py" 711) :: [])))))))))))))))))))) ::
 (nat_lit 396,kf "_law_has" zLi .none .none (.str "law_seamarks_k28_reaches_judged" 560) (.ref 395) .none) ::
 (nat_lit 402,kc ((.str "_law_corners_of" 713) :: ((.str "_law_corners_of" 714) :: ((.str "/claim/cut.py" 715) :: ((.int 327 0) :: ((.int 1 0) :: ((.int 0 0) :: ((.int 0 0) :: ((.int 3 0) :: ((.ref 397) :: ((.bool true) :: ((.int 181 0) :: ((.ref 398) :: (.none :: ((.ref 399) :: ((.ref 400) :: ((.ref 401) :: ((.int 722 0) :: ((.int 327 0) :: ((.str "/claim/cut.py" 723) :: [])))))))))))))))))))) ::
 (nat_lit 403,kf "_law_corners_of" zDm .none .none (.str "law_seamarks_k28_reaches_judged" 560) (.ref 402) .none) ::
 (nat_lit 407,kc ((.str "_law_feet" 725) :: ((.str "_law_feet" 726) :: ((.str "/claim/cut.py" 727) :: ((.int 335 0) :: ((.int 1 0) :: ((.int 0 0) :: ((.int 0 0) :: ((.int 3 0) :: ((.ref 404) :: ((.bool true) :: ((.int 181 0) :: ((.ref 405) :: (.none :: (.none :: (.none :: ((.ref 406) :: ((.int 728 0) :: ((.int 335 0) :: ((.str "/claim/cut.py" 729) :: [])))))))))))))))))))) ::
 (nat_lit 408,kf "_law_feet" zIj .none .none (.str "law_seamarks_k28_reaches_judged" 560) (.ref 407) .none) ::
 (nat_lit 414,kc ((.str "_law_any_place" 731) :: ((.str "_law_any_place" 732) :: ((.str "/claim/cut.py" 733) :: ((.int 337 0) :: ((.int 1 0) :: ((.int 0 0) :: ((.int 0 0) :: ((.int 3 0) :: ((.ref 409) :: ((.bool true) :: ((.int 181 0) :: ((.ref 410) :: (.none :: ((.ref 411) :: ((.ref 412) :: ((.ref 413) :: ((.int 736 0) :: ((.int 337 0) :: ((.str "/claim/cut.py" 737) :: [])))))))))))))))))))) ::
 (nat_lit 415,kf "_law_any_place" zD1 .none .none (.str "law_seamarks_k28_reaches_judged" 560) (.ref 414) .none) ::
 (nat_lit 421,kc ((.str "_law_summed" 739) :: ((.str "_law_summed" 740) :: ((.str "/claim/cut.py" 741) :: ((.int 342 0) :: ((.int 3 0) :: ((.int 0 0) :: ((.int 0 0) :: ((.int 3 0) :: ((.ref 416) :: ((.bool true) :: ((.int 181 0) :: ((.ref 417) :: (.none :: ((.ref 418) :: ((.ref 419) :: ((.ref 420) :: ((.int 745 0) :: ((.int 342 0) :: ((.str "/claim/cut.py" 746) :: [])))))))))))))))))))) ::
 (nat_lit 422,kf "_law_summed" zGe .none .none (.str "law_seamarks_k28_reaches_judged" 560) (.ref 421) .none) ::
 (nat_lit 426,kc ((.str "_law_bound" 748) :: ((.str "_law_bound" 749) :: ((.str "/claim/cut.py" 750) :: ((.int 344 0) :: ((.int 3 0) :: ((.int 0 0) :: ((.int 0 0) :: ((.int 3 0) :: ((.ref 423) :: ((.bool true) :: ((.int 181 0) :: ((.ref 424) :: (.none :: (.none :: (.none :: ((.ref 425) :: ((.int 751 0) :: ((.int 344 0) :: ((.str "/claim/cut.py" 752) :: [])))))))))))))))))))) ::
 (nat_lit 427,kf "_law_bound" zHf .none .none (.str "law_seamarks_k28_reaches_judged" 560) (.ref 426) .none) ::
 (nat_lit 431,kc ((.str "_law_good_paper" 754) :: ((.str "_law_good_paper" 755) :: ((.str "/claim/cut.py" 756) :: ((.int 361 0) :: ((.int 3 0) :: ((.int 0 0) :: ((.int 0 0) :: ((.int 3 0) :: ((.ref 428) :: ((.bool true) :: ((.int 181 0) :: ((.ref 429) :: (.none :: (.none :: (.none :: ((.ref 430) :: ((.int 757 0) :: ((.int 361 0) :: ((.str "/claim/cut.py" 758) :: [])))))))))))))))))))) ::
 (nat_lit 432,kf "_law_good_paper" zDp .none .none (.str "law_seamarks_k28_reaches_judged" 560) (.ref 431) .none) ::
 (nat_lit 436,kc ((.str "_law_bent" 760) :: ((.str "_law_bent" 761) :: ((.str "/claim/cut.py" 762) :: ((.int 374 0) :: ((.int 2 0) :: ((.int 0 0) :: ((.int 0 0) :: ((.int 3 0) :: ((.ref 433) :: ((.bool true) :: ((.int 181 0) :: ((.ref 434) :: (.none :: (.none :: (.none :: ((.ref 435) :: ((.int 763 0) :: ((.int 374 0) :: ((.str "/claim/cut.py" 764) :: [])))))))))))))))))))) ::
 (nat_lit 437,kf "_law_bent" zI0 .none .none (.str "law_seamarks_k28_reaches_judged" 560) (.ref 436) .none) ::
 (nat_lit 443,kc ((.str "law" 766) :: ((.str "law" 767) :: ((.str "/claim/cut.py" 768) :: ((.int 385 0) :: ((.int 1 0) :: ((.int 0 0) :: ((.int 0 0) :: ((.int 3 0) :: ((.ref 438) :: ((.bool true) :: ((.int 181 0) :: ((.ref 439) :: (.none :: ((.ref 440) :: ((.ref 441) :: ((.ref 442) :: ((.int 777 0) :: ((.int 385 0) :: ((.str "/claim/cut.py" 778) :: [])))))))))))))))))))) ::
 (nat_lit 444,kf "law" zNk .none .none (.str "law_seamarks_k28_reaches_judged" 560) (.ref 443) .none) :: []
noncomputable def KK (P:Params):PySem.W.Frag:=(nat_lit 3,kNs P) :: KC
noncomputable def K:PySem.W.Frag:=Classical.choose (⟨KC,rfl⟩:∃ k,k = KC)
theorem K_eq:K = KC:=Classical.choose_spec (⟨KC,rfl⟩:∃ k,k = KC)
noncomputable def kas:List Nat:=nat_lit 3 :: nat_lit 20 :: nat_lit 21 :: nat_lit 25 :: nat_lit 26 :: nat_lit 30 :: nat_lit 31 :: nat_lit 37 :: nat_lit 38 :: nat_lit 44 :: nat_lit 45 :: nat_lit 51 :: nat_lit 52 :: nat_lit 58 :: nat_lit 59 :: nat_lit 65 :: nat_lit 66 :: nat_lit 72 :: nat_lit 73 :: nat_lit 79 :: nat_lit 80 :: nat_lit 86 :: nat_lit 87 :: nat_lit 93 :: nat_lit 94 :: nat_lit 100 :: nat_lit 101 :: nat_lit 107 :: nat_lit 108 :: nat_lit 114 :: nat_lit 115 :: nat_lit 121 :: nat_lit 122 :: nat_lit 128 :: nat_lit 129 :: nat_lit 133 :: nat_lit 134 :: nat_lit 140 :: nat_lit 141 :: nat_lit 147 :: nat_lit 148 :: nat_lit 154 :: nat_lit 155 :: nat_lit 161 :: nat_lit 162 :: nat_lit 168 :: nat_lit 169 :: nat_lit 175 :: nat_lit 176 :: nat_lit 180 :: nat_lit 181 :: nat_lit 187 :: nat_lit 188 :: nat_lit 194 :: nat_lit 195 :: nat_lit 201 :: nat_lit 202 :: nat_lit 208 :: nat_lit 209 :: nat_lit 215 :: nat_lit 216 :: nat_lit 222 :: nat_lit 223 :: nat_lit 229 :: nat_lit 230 :: nat_lit 236 :: nat_lit 237 :: nat_lit 243 :: nat_lit 244 :: nat_lit 248 :: nat_lit 249 :: nat_lit 255 :: nat_lit 256 :: nat_lit 260 :: nat_lit 261 :: nat_lit 267 :: nat_lit 268 :: nat_lit 274 :: nat_lit 275 :: nat_lit 281 :: nat_lit 282 :: nat_lit 288 :: nat_lit 289 :: nat_lit 295 :: nat_lit 296 :: nat_lit 302 :: nat_lit 303 :: nat_lit 309 :: nat_lit 310 :: nat_lit 316 :: nat_lit 317 :: nat_lit 321 :: nat_lit 322 :: nat_lit 328 :: nat_lit 329 :: nat_lit 335 :: nat_lit 336 :: nat_lit 340 :: nat_lit 341 :: nat_lit 345 :: nat_lit 346 :: nat_lit 350 :: nat_lit 351 :: nat_lit 357 :: nat_lit 358 :: nat_lit 362 :: nat_lit 363 :: nat_lit 369 :: nat_lit 370 :: nat_lit 376 :: nat_lit 377 :: nat_lit 383 :: nat_lit 384 :: nat_lit 390 :: nat_lit 391 :: nat_lit 395 :: nat_lit 396 :: nat_lit 402 :: nat_lit 403 :: nat_lit 407 :: nat_lit 408 :: nat_lit 414 :: nat_lit 415 :: nat_lit 421 :: nat_lit 422 :: nat_lit 426 :: nat_lit 427 :: nat_lit 431 :: nat_lit 432 :: nat_lit 436 :: nat_lit 437 :: nat_lit 443 :: nat_lit 444 :: []
theorem kas_ok:∀ P:Params,kas = (KK P).map (·.1):=fun _=>by kernel_rfl
set_option maxHeartbeats 0 in
theorem said_ok:PySem.Challenge.rw_seamarks_k28_reaches_judged.wellSaid = true:=by kernel_rfl
set_option maxHeartbeats 0 in
open PySem.W in
theorem left_ok:LeftO PySem.Challenge.rw_seamarks_k28_reaches_judged.row.prog qv [] (fun s=>xlAt qv [] s && recOk (RowW.records (OpenRow.toRowW PySem.Challenge.rw_seamarks_k28_reaches_judged.row)) s)
  (fun s=>kas.map s.heap.get?) (fun w=>(KK w.params).map fun p=>some p.2) 9000:=by
 unfold LeftO
 rw [Fast.te4187177175401517315,Fast.te5923862056798008813,Fast.te2368527892694137696,Fast.te14364793385576792824]
 intro w
 kernel_rfl
end Sea
-- BASE
namespace L2
open PySem PySem.Spec PyProof.Rows

abbrev Key:=Sum Int Str
def zOw:Key→Value→Bool
 | .inl k,v=>Value.isInt k v
 | .inr x,v=>Value.isStrOf x v
def keyH (w:World):Key→Int
 | .inl k=>hashInt k
 | .inr x=>hashStr w x
theorem zB1:∀ {k:Key} {v:Value},zOw k v = true→(∃ i t,k = Sum.inl i∧v = Value.int i t)∨(∃ x t,k = Sum.inr x∧v = Value.str x t)
 | .inl i,v,h=>by
  obtain ⟨t,e⟩:=Value.isInt_shape (k:=i) (v:=v) h
  exact .inl ⟨i,t,rfl,e⟩
 | .inr x,v,h=>by
  obtain ⟨t,e⟩:=Value.isStrOf_shape (x:=x) (v:=v) h
  exact .inr ⟨x,t,rfl,e⟩
theorem zSa (i:Int) (t:Tok):zOw (.inl i) (.int i t) = true:=by simp [zOw,Value.isInt]
theorem zRf (x:Str) (t:Tok):zOw (.inr x) (.str x t) = true:=by simp [zOw,Value.isStrOf]
theorem key_ll (a b:Int):decide ((Sum.inl a:Key) = Sum.inl b) = (a == b):=by
 by_cases e:a = b
 ·subst e; simp
 ·have h:¬ (Sum.inl a:Key) = Sum.inl b:=fun q=>e (Sum.inl.inj q)
  rw [decide_eq_false h]
  exact (beq_eq_false_iff_ne.mpr e).symm
theorem key_rr (a b:Str):decide ((Sum.inr a:Key) = Sum.inr b) = decide (a = b):=by
 by_cases e:a = b
 ·subst e; simp
 ·have h:¬ (Sum.inr a:Key) = Sum.inr b:=fun q=>e (Sum.inr.inj q)
  rw [decide_eq_false h,decide_eq_false e]
theorem key_lr (a:Int) (b:Str):decide ((Sum.inl a:Key) = Sum.inr b) = false:=decide_eq_false (fun q=>nomatch q)
theorem key_rl (a:Str) (b:Int):decide ((Sum.inr a:Key) = Sum.inl b) = false:=decide_eq_false (fun q=>nomatch q)

def zDb (prog:Program) (w:World):PySem.KeyKind prog w Key where
 is:=zOw
 hash:=keyH w
 inj:=fun v a b ha hb=>by
  rcases zB1 ha with ⟨i,t,rfl,rfl⟩ | ⟨x,t,rfl,rfl⟩
  ·rcases zB1 hb with ⟨j,u,rfl,e⟩ | ⟨y,u,rfl,e⟩
   ·injection e with e1 _; rw [e1]
   ·exact nomatch e
  ·rcases zB1 hb with ⟨j,u,rfl,e⟩ | ⟨y,u,rfl,e⟩
   ·exact nomatch e
   ·injection e with e1 _; rw [e1]
 byValue:=fun k v h=>by
  rcases zB1 h with ⟨i,t,rfl,rfl⟩ | ⟨x,t,rfl,rfl⟩ <;> rfl
 pyHash:=fun hv h=>by
  rcases zB1 hv with ⟨i,t,rfl,rfl⟩ | ⟨x,t,rfl,rfl⟩
  ·exact wpAny_pyHash_int h
  ·exact wpAny_pyHash_str h
 eqBool:=fun hu hv h=>by
  rcases zB1 hu with ⟨i,t,rfl,rfl⟩ | ⟨x,t,rfl,rfl⟩
  ·rcases zB1 hv with ⟨j,u,rfl,rfl⟩ | ⟨y,u,rfl,rfl⟩
   ·rw [key_ll] at h; exact wpAny_eqBool_int h
   ·rw [key_lr] at h; exact SeqAt.EqAt.int_str i t y u _ _ _ _ h
  ·rcases zB1 hv with ⟨j,u,rfl,rfl⟩ | ⟨y,u,rfl,rfl⟩
   ·rw [key_rl] at h; exact SeqAt.EqAt.str_int x t j u _ _ _ _ h
   ·rw [key_rr] at h; exact wpAny_eqBool_str h
 «strs»:=fun k x t v h=>by
  rcases zB1 h with ⟨i,u,rfl,e⟩ | ⟨y,u,rfl,e⟩
  ·exact nomatch e
  ·injection e with e1 _
   subst e1
   cases v <;> rfl

theorem zNj (prog:Program) (w:World) (i:Int) (t:Tok):(zDb prog w).is (.inl i) (.int i t) = true:=zSa i t
theorem zNm (prog:Program) (w:World) (x:Str) (t:Tok):(zDb prog w).is (.inr x) (.str x t) = true:=zRf x t
end L2

namespace L2
open PySem PySem.Spec PyProof.Rows

inductive V where
 | non | bl (b:Bool) | int (i:Int) | str (x:Str) | byt (b:Array UInt8) | flt (b:UInt64) | ref (a:Addr) | ty (n:String)
 deriving DecidableEq

def RelV:V→Value→Prop
 | .non,u=>u = Value.none
 | .bl b,u=>u = Value.bool b
 | .int i,u=>∃ t,u = Value.int i t
 | .str x,u=>∃ t,u = Value.str x t
 | .byt b,u=>∃ t,u = Value.bytes b t
 | .flt b,u=>∃ t,u = Value.float b t
 | .ref a,u=>u = Value.ref a
 | .ty n,u=>u = Value.type n

abbrev Vals:List V→List Value→Prop:=Paired RelV
theorem Vals.length {xs:List V} {us:List Value} (r:Vals xs us):xs.length = us.length:=Paired.length r
theorem Vals.get:∀ {xs:List V} {us:List Value} {i:Nat} {x:V},Vals xs us→xs[i]? = some x→∃ u,us[i]? = some u∧RelV x u
 | _,_,_,_,.nil,e=>by simp at e
 | _,_,0,_,.cons r _,e=>by simp at e; subst e; exact ⟨_,rfl,r⟩
 | _,_,i + 1,x,.cons _ t,e=>by
  obtain ⟨u,h1,h2⟩:=Vals.get (i:=i) (x:=x) t (by simpa using e)
  exact ⟨u,by simpa using h1,h2⟩
theorem Vals.set {x:V} {u:Value} (r:RelV x u):∀ {xs:List V} {us:List Value} (i:Nat),Vals xs us→Vals (xs.set i x) (us.set i u)
 | _,_,_,.nil=>.nil
 | _,_,0,.cons _ t=>.cons r t
 | _,_,i + 1,.cons q t=>.cons q (Vals.set r i t)
theorem Vals.append:∀ {xs ys:List V} {us ws:List Value},Vals xs us→Vals ys ws→Vals (xs ++ ys) (us ++ ws)
 | _,_,_,_,.nil,s=>s
 | _,_,_,_,.cons r t,s=>.cons r (Vals.append t s)
theorem Vals.take:∀ {xs:List V} {us:List Value} (n:Nat),Vals xs us→Vals (xs.take n) (us.take n)
 | _,_,0,_=>.nil
 | _,_,_ + 1,.nil=>.nil
 | _,_,n + 1,.cons r t=>.cons r (Vals.take n t)
theorem Vals.drop:∀ {xs:List V} {us:List Value} (n:Nat),Vals xs us→Vals (xs.drop n) (us.drop n)
 | _,_,0,r=>r
 | _,_,_ + 1,.nil=>.nil
 | _,_,n + 1,.cons _ t=>Vals.drop n t
theorem Vals.none_of:∀ {xs:List V} {us:List Value} {i:Nat},Vals xs us→xs[i]? = none→us[i]? = none:=fun {xs us i} r e=>by
 have h1:=r.length
 have h2:xs.length≤i:=List.getElem?_eq_none_iff.mp e
 exact List.getElem?_eq_none_iff.mpr (by omega)

def RelO:Option V→Option Value→Prop
 | some v,some u=>RelV v u
 | none,none=>True
 | _,_=>False
def KV {κ:Type} : List (κ × V)→List (κ × Value)→Prop:=Paired fun (p:κ × V) (q:κ × Value)=>p.1 = q.1∧RelV p.2 q.2

def kV:Key→V
 | .inl i=>.int i
 | .inr x=>.str x

inductive HO where
 | lst (xs:List V)
 | tup (xs:List V)
 | dK (kvs:List (Key × V)) | dT (kvs:List (List Key × V))
 | set (S:Int→Bool) (n:Nat)
 | ins (C dx:Addr) (fs:List (Str × V))
 | own (x:Addr)
 | xd (fs:List (Str × V))
 | met (f x:Addr)
 | rng (lo hi:Int)
 | frz (o:Obj) (u:HO)
 | tbl (ps:Array Value)
 | ext (φ:Heap→Prop)

abbrev Hp:=Addr→Option HO
def upd (H:Hp) (a:Addr) (o:HO):Hp:=fun b=>if b = a then some o else H b
theorem zAc {H:Hp} {a:Addr} {o:HO} : upd H a o a = some o:=by unfold upd; rw [if_pos rfl]
theorem zA5 {H:Hp} {a b:Addr} {o:HO} (h:b≠a):upd H a o b = H b:=by unfold upd; rw [if_neg h]
theorem zGx {H:Hp} {a:Addr} {o u:HO} : upd (upd H a o) a u = upd H a u:=by
 funext b; unfold upd; split <;> rfl
theorem zHh {H:Hp} {a b:Addr} {o u:HO} (h:H a = some o) (h':H b = some u) (d:o≠u):a≠b:=by
 intro e; subst e; rw [h] at h'; exact d (Option.some.inj h')
theorem zBr {H:Hp} {a b:Addr} {o:HO} (h:H a = some o) (h':H b = none):a≠b:=by
 intro e; subst e; rw [h] at h'; cases h'

section
variable (P:Program) (w:World)
def zDi (H:Hp) (h:Heap) (a:Addr):HO→Prop
 | .lst xs=>xs.length≤sizeLine∧∃ (its:List Value) (n:Nat),Vals xs its∧h.get? a = some { cls:=.type "list", data:=.seq its.toArray n }
 | .tup xs=>xs.length≤sizeLine∧∃ its:List Value,Vals xs its∧IsTup h a its.toArray
 | .dK kvs=>kvs.length≤sizeLine∧(a == sysModules) = false∧∃ vs,KV kvs vs∧h.DictOf (zDb P w) a vs
 | .dT kvs=>kvs.length≤sizeLine∧(a == sysModules) = false∧∃ xs:List (List Key × Addr × Value),
   Paired (fun (p:List Key × V) (q:List Key × Addr × Value)=>p.1 = q.1∧H q.2.1 = some (.tup (p.1.map kV))∧RelV p.2 q.2.2) kvs xs ∧
   ∃ o es ep,h.get? a = some o∧o.ExactDict∧o.data = .dict es ep∧es.toList = xs.map (entryOfKey (tupleKind (zDb P w)))∧(xs.map (·.1)).Nodup
 | .set S n=>h.SetOf (intKind P w) a S n
 | .ins C dx fs=>H dx = some (.own a)∧fs.length≤1000∧dx≠a∧h.get? a = some (PySem.W.instObj C dx) ∧
   ∃ mA,h.Ns1 dx mA∧(∀ f,RelO (fs.lookup f) (mA f))∧PySem.Within mA (fs.map (·.1))
 | .own _=>∃ o,h.get? a = some o
 | .xd fs=>∃ mA,h.Ns1 a mA∧∀ f,RelO (fs.lookup f) (mA f)
 | .rng lo hi=>∃ t u v,h.get? a = some { cls:=.type "range", data:=.fields #[.int lo t,.int hi u,.int 1 v] }
 | .frz o u=>h.get? a = some o∧zDi H h a u
 | .tbl ps=>h.get? a = some { cls:=.none,data:=.fields ps }
 | .met f x=>h.get? a = some (PySem.W.methodObj (.ref f) (.ref x))
 | .ext φ=>φ h∧(∃ o,h.get? a = some o)∧∀ h1 h2:Heap,φ h1→(∀ o,h1.get? a = some o→h2.get? a = some o)→φ h2
def HOk (H:Hp) (h:Heap):Prop:=∀ a o,H a = some o→zDi P w H h a o
end

section
variable {P:Program} {w:World} {H H':Hp} {h h':Heap} {a:Addr} {o:HO}
theorem zDi.lt (x:zDi P w H h a o):a < h.objs.size:=by
 cases o with
 | lst xs=>obtain ⟨_,_,_,_,e⟩:=x; exact Heap.lt_size e
 | tup xs=>obtain ⟨_,_,_,p⟩:=x; exact p.lt
 | dK kvs=>obtain ⟨_,_,_,_,o,_,_,e,_⟩:=x; exact Heap.lt_size e
 | dT kvs=>obtain ⟨_,_,_,_,o,_,_,e,_⟩:=x; exact Heap.lt_size e
 | set S n=>obtain ⟨o,_,_,_,e,_⟩:=x; exact Heap.lt_size e
 | ins C dx fs=>obtain ⟨_,_,_,e,_⟩:=x; exact Heap.lt_size e
 | own y=>obtain ⟨_,e⟩:=x; exact Heap.lt_size e
 | xd fs=>obtain ⟨_,⟨_,_,_,e,_⟩,_⟩:=x; exact Heap.lt_size e
 | rng lo hi=>obtain ⟨_,_,_,e⟩:=x; exact Heap.lt_size e
 | frz ob u=>obtain ⟨e,_⟩:=x; exact Heap.lt_size e
 | tbl ps=>exact Heap.lt_size (show h.get? a = some _ from x)
 | met f y=>exact Heap.lt_size (show h.get? a = some _ from x)
 | ext φ=>obtain ⟨_,⟨_,e⟩,_⟩:=x; exact Heap.lt_size e
theorem Paired.mapP {α β:Type} {F G:α→β→Prop} : ∀ {l₁:List α} {l₂:List β},Paired F l₁ l₂→(∀ a b,F a b→G a b)→Paired G l₁ l₂
 | _,_,.nil,_=>.nil
 | _,_,.cons r t,f=>.cons (f _ _ r) (Paired.mapP t f)
theorem zDi.stay (x:zDi P w H h a o) (k:∀ b u,(b = a∨H b = some (.own a))→h.get? b = some u→h'.get? b = some u)
  (ho:∀ b,H b = some (.own a)→H' b = some (.own a)) (ht:∀ b xs,H b = some (.tup xs)→H' b = some (.tup xs)):zDi P w H' h' a o:=by
 induction o with
 | lst xs=>obtain ⟨z,its,n,r,e⟩:=x; exact ⟨z,its,n,r,k _ _ (.inl rfl) e⟩
 | tup xs=>obtain ⟨z,its,r,ob,e,c⟩:=x; exact ⟨z,its,r,ob,k _ _ (.inl rfl) e,c⟩
 | dK kvs=>obtain ⟨z,y,vs,r,ob,es,ep,e,c⟩:=x; exact ⟨z,y,vs,r,ob,es,ep,k _ _ (.inl rfl) e,c⟩
 | dT kvs =>
  obtain ⟨z,y,xs,r,ob,es,ep,e,c⟩:=x
  exact ⟨z,y,xs,Paired.mapP r fun p q z=>⟨z.1,ht _ _ z.2.1,z.2.2⟩,ob,es,ep,k _ _ (.inl rfl) e,c⟩
 | set S n=>obtain ⟨ob,es,ep,t,e,c⟩:=x; exact ⟨ob,es,ep,t,k _ _ (.inl rfl) e,c⟩
 | ins C dx fs =>
  obtain ⟨d,z,ne,e,mA,⟨od,es,ep,e2,c⟩,r⟩:=x
  exact ⟨ho _ d,z,ne,k _ _ (.inl rfl) e,mA,⟨od,es,ep,k _ _ (.inr d) e2,c⟩,r⟩
 | own y=>obtain ⟨ob,e⟩:=x; exact ⟨ob,k _ _ (.inl rfl) e⟩
 | xd fs=>obtain ⟨mA,⟨od,es,ep,e,c⟩,r⟩:=x; exact ⟨mA,⟨od,es,ep,k _ _ (.inl rfl) e,c⟩,r⟩
 | rng lo hi=>obtain ⟨t,u,v,e⟩:=x; exact ⟨t,u,v,k _ _ (.inl rfl) e⟩
 | frz ob u ih=>obtain ⟨e,q⟩:=x; exact ⟨k _ _ (.inl rfl) e,ih q⟩
 | tbl ps =>
  have e:h.get? a = some { cls:=.none,data:=.fields ps }:=x
  show h'.get? a = some { cls:=.none,data:=.fields ps }
  exact k a _ (.inl rfl) e
 | met f y =>
  have e:h.get? a = some (PySem.W.methodObj (.ref f) (.ref y)):=x
  show h'.get? a = some (PySem.W.methodObj (.ref f) (.ref y))
  exact k a _ (.inl rfl) e
 | ext φ=>obtain ⟨p,⟨o,e⟩,st⟩:=x; exact ⟨st _ _ p fun o q=>k _ _ (.inl rfl) q,⟨o,k _ _ (.inl rfl) e⟩,st⟩
theorem HOk.lt (x:HOk P w H h) (e:H a = some o):a < h.objs.size:=(x a o e).lt
theorem HOk.fresh (x:HOk P w H h) (e:h.objs.size≤a):H a = none:=by
 cases q:H a with
 | none=>rfl
 | some u=>exact absurd (Nat.lt_of_lt_of_le (x.lt q) e) (Nat.lt_irrefl _)
theorem HOk.kept (x:HOk P w H h) (k:∀ b u,h.get? b = some u→h'.get? b = some u):HOk P w H h':=fun a o e =>
 (x a o e).stay (fun b u _ q=>k b u q) (fun _ q=>q) fun _ _ q=>q
theorem HOk.laid (x:HOk P w H h) (k:∀ b u,h.get? b = some u→h'.get? b = some u) (hp:h.objs.size≤a) (new:zDi P w (upd H a o) h' a o):HOk P w (upd H a o) h':=fun b u e=>by
 have hn:=x.fresh hp
 by_cases hb:b = a
 ·subst hb; rw [zAc] at e; cases e; exact new
 ·rw [zA5 hb] at e
  exact (x b u e).stay (fun c v _ q=>k c v q) (fun c q=>by rw [zA5 (zBr q hn)]; exact q) fun c xs q=>by rw [zA5 (zBr q hn)]; exact q
end

def Rd (H:Hp) (a:Addr) (u:HO):Prop:=H a = some u∨∃ o,H a = some (.frz o u)
theorem Rd.ok {P:Program} {w:World} {H:Hp} {h:Heap} {a:Addr} {u:HO} (r:Rd H a u) (x:HOk P w H h):zDi P w H h a u:=by
 rcases r with r | ⟨o,r⟩
 ·exact x a u r
 ·obtain ⟨_,q⟩:=x a _ r
  exact q
def Mut:Option HO→Prop
 | some (.lst _)=>True
 | some (.dK _)=>True
 | some (.dT _)=>True
 | some (.set _ _)=>True
 | some (.ins _ _ _)=>True
 | some (.ext _)=>True
 | _=>False
section
variable {P:Program} {w:World} {H:Hp} {h h':Heap} {x e:Addr} {o':HO}
theorem HOk.write (ok:HOk P w H h) (mu:Mut (H x)) (he:e = x∨H e = some (.own x)) (k:∀ b u,b≠e→h.get? b = some u→h'.get? b = some u) (heo:∃ u,h'.get? e = some u)
  (new:zDi P w (upd H x o') h' x o'):HOk P w (upd H x o') h':=fun b u q=>by
 have nown:∀ c y,H c = some (.own y)→c≠x:=fun c y r z=>by subst z; rw [r] at mu; exact mu
 have ntup:∀ c xs,H c = some (.tup xs)→c≠x:=fun c xs r z=>by subst z; rw [r] at mu; exact mu
 by_cases hb:b = x
 ·subst hb; rw [zAc] at q; cases q; exact new
 ·rw [zA5 hb] at q
  by_cases hbe:b = e
  ·have q':H b = some (.own x):=by
    rcases he with z | z
    ·exact absurd (hbe.trans z) hb
    ·rw [hbe]; exact z
   rw [q] at q'; cases q'
   obtain ⟨v,hv⟩:=heo
   exact ⟨v,by rw [hbe]; exact hv⟩
  ·refine (ok b u q).stay (fun c v hc r=>k c v ?_ r) (fun c r=>by rw [zA5 (nown c b r)]; exact r) fun c xs r=>by rw [zA5 (ntup c xs r)]; exact r
   rcases hc with rfl | hc
   ·exact hbe
   ·rintro rfl
    rcases he with z | z
    ·exact nown c b hc z
    ·rw [hc] at z; cases z; exact hb rfl
end

structure Un (fs ex:List Addr) (H H':Hp) (h h':Heap):Prop where
 keep:∀ b o,h.get? b = some o→H b = none→b ∉ fs→b ∉ ex→h'.get? b = some o
 slot:∀ b o,h.get? b = some o→H b = none→b∈fs→b ∉ ex→∃ sl,h'.get? b = some { o with slots:=sl }
 free:∀ b o,h.get? b = some o→H b = none→b ∉ ex→H' b = none
 there:∀ b o,h.get? b = some o→b ∉ ex→∃ o',h'.get? b = some o'
 tups:∀ b xs,H b = some (.tup xs)→H' b = some (.tup xs)
 frzs:∀ b o u,H b = some (.frz o u)→H' b = some (.frz o u)
 tbls:∀ b ps,H b = some (.tbl ps)→∃ more,H' b = some (.tbl (ps ++ more))
section
variable {fs fs' ex ex':List Addr} {H H1 H2:Hp} {h h1 h2 h':Heap} {a x e:Addr} {o:HO}
theorem Un.any (u:Un fs ex H H1 h h1) {b:Addr} {ob:Obj} (q:h.get? b = some ob) (n:H b = none) (hx:b ∉ ex):∃ sl,h1.get? b = some { ob with slots:=sl }:=by
 by_cases hb:b∈fs
 ·exact u.slot b ob q n hb hx
 ·exact ⟨ob.slots,u.keep b ob q n hb hx⟩
theorem Un.kept (k:∀ b u,h.get? b = some u→h'.get? b = some u):Un fs ex H H h h' :=
 ⟨fun b ob q _ _ _=>k b ob q,fun b ob q _ _ _=>⟨ob.slots,k b ob q⟩,fun _ _ _ n _=>n,fun b ob q _=>⟨ob,k b ob q⟩,fun _ _ q=>q,fun _ _ _ q=>q,fun _ ps q=>⟨#[],by rw [q]; simp⟩⟩
theorem Un.refl:Un fs ex H H h h:=Un.kept fun _ _ q=>q
theorem Un.laid (k:∀ b u,h.get? b = some u→h'.get? b = some u) (hp:h.objs.size≤a) (hn:H a = none):Un fs ex H (upd H a o) h h' where
 keep:=fun b u q _ _ _=>k b u q
 slot:=fun b u q _ _ _=>⟨u.slots,k b u q⟩
 free:=fun b u q n _=>by rw [zA5 (Nat.ne_of_lt (Nat.lt_of_lt_of_le (Heap.lt_size q) hp))]; exact n
 there:=fun b u q _=>⟨u,k b u q⟩
 tups:=fun b xs q=>by rw [zA5 (zBr q hn)]; exact q
 frzs:=fun b u xs q=>by rw [zA5 (zBr q hn)]; exact q
 tbls:=fun b ps q=>⟨#[],by rw [zA5 (zBr q hn),q]; simp⟩
theorem Un.write (mu:Mut (H x)) (he:e = x∨H e = some (.own x)) (k:∀ b u,b≠e→h.get? b = some u→h'.get? b = some u) (heo:∃ u,h'.get? e = some u):Un fs ex H (upd H x o) h h':=by
 have hx:∀ b,H b = none→b≠x:=fun b n z=>by subst z; rw [n] at mu; exact mu
 have hb:∀ b,H b = none→b≠e:=fun b n z=>by
  subst z
  rcases he with r | r
  ·exact hx b n r
  ·rw [n] at r; cases r
 have hm:∀ b u,H b = some u→¬ Mut (some u)→b≠x:=fun b u q nm z=>by subst z; rw [q] at mu; exact nm mu
 refine ⟨fun b u q n _ _=>k b u (hb b n) q,fun b u q n _ _=>⟨u.slots,k b u (hb b n) q⟩,fun b u q n _=>by rw [zA5 (hx b n)]; exact n,fun b u q _=>?_,
  fun b xs q=>by rw [zA5 (hm b _ q fun z=>z)]; exact q,fun b u xs q=>by rw [zA5 (hm b _ q fun z=>z)]; exact q,fun b ps q=>⟨#[],by rw [zA5 (hm b _ q fun z=>z),q]; simp⟩⟩
 by_cases hbe:b = e
 ·subst hbe; exact heo
 ·exact ⟨u,k b u hbe q⟩
end

def trk (h:Heap) (H:Hp):List Addr:=(List.range h.objs.size).filter fun a=>(H a).isSome
def hidT (h:Heap) (H:Hp):Heap:=PySem.W.hideAll h (trk h H)
theorem zSd (h:Heap) (H:Hp):(hidT h H).objs.size = h.objs.size:=PySem.W.hideAll_size _ _
theorem zTr {h:Heap} {H:Hp} {b:Addr} {o:Obj} (e:h.get? b = some o) (n:H b = none):(hidT h H).get? b = some o :=
 PySem.W.hideAll_get _ e fun hm=>by
  have q:(H b).isSome = true:=(List.mem_filter.mp hm).2
  rw [n] at q; simp at q
theorem zUi {h:Heap} {H:Hp} {b:Addr} {o:Obj} (e:(hidT h H).get? b = some o):h.get? b = some o∧H b = none:=by
 have e':h.get? b = some o:=PySem.W.of_hideAll (trk h H) e
 refine ⟨e',?_⟩
 cases q:H b with
 | none=>rfl
 | some x =>
  have hm:b∈trk h H:=List.mem_filter.mpr ⟨List.mem_range.mpr (Heap.lt_size e'),by simp [q]⟩
  have z:(hidT h H).get? b = none:=PySem.W.hideAll_none (trk h H) hm
  rw [z] at e; cases e

end L2

namespace L2
open PySem PySem.Spec PyProof.Rows

structure Mod (K:PySem.W.Frag) (mg:Str→Option Value) (base:Heap):Prop where
 kin:K.In base
 glob:base.Ns mainGlobals mg
 blt:∃ mb,base.Ns builtinsNs mb∧∀ x:Str,x ≠ "__name__" → mb x = bootBuiltins x
 nolimit:base.NoLimit

structure Cx where
 prog:Program
 w:World
 K:PySem.W.Frag
 mg:Str→Option Value
 base:Heap
 A:Around
 N:List Str
 s₀:Shared
 H₀:Hp
 env:Env
 outer:List Env
 stack:List Env
 ex:List Addr
 fn:Str→Bool
 calm:Bool
 pn:List (Addr × Obj)
 xe:Value→Shared→Prop
def frs (l:List Env):List Addr:=l.filterMap (·.frame)
abbrev Cx.fs (X:Cx):List Addr:=frs X.outer

def Vis (sc:Scope) (x:Str):Prop:=sc.names.lookup x = some .local∨sc.names.lookup x = some .cell∨sc.names.lookup x = some .free
def Loc (sc:Scope) (x:Str):Prop:=sc.names.lookup x = some .local∨sc.names.lookup x = some .cell
def Look (env:Env) (h:Heap) (m:Str→Option Value) (x:Str) (u:Value):Prop :=
 (env.kindOf x = some .local∧m x = some u)∨((env.kindOf x = some .cell∨env.kindOf x = some .free)∧∃ c,env.cells.lookup x = some c∧h.IsCell c (some u))

structure Cx.Ok (X:Cx):Prop where
 mod:Mod X.K X.mg X.base
 kind:X.env.scope.kind = .function
 glob:X.env.globals = mainGlobals
 blt:X.env.builtins = builtinsNs
 above:X.s₀.heap.objs.size≤X.env.locals
 inj:∀ x y c,X.env.cells.lookup x = some c→X.env.cells.lookup y = some c→x = y
 has:∀ x,(X.env.kindOf x = some .cell∨X.env.kindOf x = some .free)→∃ c,X.env.cells.lookup x = some c
 cab:∀ x c,X.fn x = true→X.env.cells.lookup x = some c→X.s₀.heap.objs.size≤c
 hd:X.calm = true→X.A.handled = none
 frames:X.A.frames = some X.stack
 stk:X.stack = X.outer∨(X.stack = X.env :: X.outer∧X.env.frame = some X.env.locals)
 exf:∀ b∈X.ex,b≠X.env.locals∧∀ x c,X.env.cells.lookup x = some c→c≠b
 bs:∀ b o,X.base.get? b = some o→X.s₀.heap.get? b = some o∧X.H₀ b = none
 bsz:X.base.objs.size≤X.s₀.heap.objs.size
 noex:∀ b o,X.base.get? b = some o→b ∉ X.ex
 exfs:∀ b∈X.ex,b ∉ X.fs
 funs:X.s₀.heap.FunFrames X.base X.outer
 frf:∀ b∈X.fs,X.H₀ b = none

structure Inv (X:Cx) (pins:List (Addr × Obj)) (σ:List (Option V)) (H:Hp) (s:Shared):Prop where
 ok:X.Ok
 os:s.os = X.s₀.os
 bare:AllBare s.gens
 base:Un X.fs X.ex X.H₀ H X.s₀.heap s.heap
 loc:∃ m,s.heap.Ns X.env.locals m∧∀ (i:Nat) (x:Str) (v:V),X.N[i]? = some x→σ[i]? = some (some v)→Vis X.env.scope x→∃ u,RelV v u∧Look X.env s.heap m x u
 cell:∀ x c,X.env.cells.lookup x = some c→∃ v,s.heap.IsCell c v
 free:H X.env.locals = none
 freeC:∀ x c,X.env.cells.lookup x = some c→H c = none
 pin:∀ p∈X.pn ++ pins,s.heap.get? p.1 = some p.2∧H p.1 = none∧p.1≠X.env.locals∧p.1 ∉ X.fs∧∀ v,p.2.data≠.cell v
 hok:HOk X.prog X.w H s.heap
 len:σ.length = X.N.length

section
variable {X:Cx} {pins:List (Addr × Obj)} {σ:List (Option V)} {H H':Hp} {s:Shared} {h':Heap}

theorem Cx.Ok.nofr (ok:X.Ok) {b:Addr} {o:Obj} (e:X.base.get? b = some o):b ∉ X.fs:=fun hb=>by
 have:=(ok.funs.mem hb).1
 rw [e] at this; cases this
theorem Inv.bs (I:Inv X pins σ H s):∀ b o,X.base.get? b = some o→s.heap.get? b = some o∧H b = none:=fun b o e =>
 ⟨I.base.keep b o (I.ok.bs b o e).1 (I.ok.bs b o e).2 (I.ok.nofr e) (I.ok.noex b o e),I.base.free b o (I.ok.bs b o e).1 (I.ok.bs b o e).2 (I.ok.noex b o e)⟩
theorem Inv.bk (I:Inv X pins σ H s):∀ b o,X.base.get? b = some o→s.heap.get? b = some o:=fun b o e=>(I.bs b o e).1
theorem Inv.mod (I:Inv X pins σ H s):Mod X.K X.mg X.base:=I.ok.mod
theorem Inv.kIn (I:Inv X pins σ H s):X.K.In s.heap:=I.ok.mod.kin.keeps I.bk
theorem Inv.lt (I:Inv X pins σ H s):X.env.locals < s.heap.objs.size:=let ⟨_,hn,_⟩:=I.loc; hn.lt
theorem Inv.sz (I:Inv X pins σ H s):X.s₀.heap.objs.size≤s.heap.objs.size:=Nat.le_trans I.ok.above (Nat.le_of_lt I.lt)
theorem Inv.nofs (I:Inv X pins σ H s) {a:Addr} (h:s.heap.objs.size≤a):a ∉ X.fs:=fun hb=>by
 obtain ⟨_,o,ho,_⟩:=I.ok.funs.mem hb
 exact absurd (Nat.lt_of_lt_of_le (Heap.lt_size ho) (Nat.le_trans I.sz h)) (Nat.lt_irrefl _)
theorem Inv.cne (I:Inv X pins σ H s):∀ x c,X.env.cells.lookup x = some c→c≠X.env.locals:=fun x c e z=>by
 obtain ⟨v,o,ho,hd⟩:=I.cell x c e
 obtain ⟨m,⟨o',es,ep,ho',hd',_⟩,_⟩:=I.loc
 rw [z,ho'] at ho; cases ho; rw [hd'] at hd; cases hd
theorem Inv.funs (I:Inv X pins σ H s):s.heap.FunFrames X.base X.outer:=by
 have all:∀ (l:List Env),(∀ b∈frs l,b∈X.fs)→X.s₀.heap.FunFrames X.base l→s.heap.FunFrames X.base l:=by
  intro l
  induction l with
  | nil=>intro _ _; trivial
  | cons env r ih =>
   intro hs hl
   obtain ⟨hk,⟨L,o,hf,hn,ho,hd⟩,hr⟩:=hl
   have hL:L∈X.fs:=hs L (by unfold frs; rw [List.filterMap_cons,hf]; exact List.mem_cons_self)
   obtain ⟨sl,e⟩:=I.base.slot L o ho (I.ok.frf L hL) hL fun z=>I.ok.exfs L z hL
   exact ⟨hk,⟨L,_,hf,hn,e,hd⟩,ih (fun b hb=>hs b (by unfold frs; rw [List.filterMap_cons,hf]; exact List.mem_cons_of_mem _ hb)) hr⟩
 exact all X.outer (fun _ hb=>hb) I.ok.funs

theorem Inv.stack (I:Inv X pins σ H s):s.heap.FunFrames X.base X.stack:=by
 rcases I.ok.stk with e | ⟨e,hf⟩
 ·rw [e]; exact I.funs
 ·rw [e]
  obtain ⟨m,hn,_⟩:=I.loc
  refine .cons (by rw [I.ok.kind]; decide) hf hn ?_ I.funs
  exact Heap.get?_none_of_le (Nat.le_trans I.ok.bsz I.ok.above)
theorem Inv.stkSub (I:Inv X pins σ H s):∀ b∈frs X.stack,b∈X.env.locals :: X.fs:=fun b hb=>by
 rcases I.ok.stk with e | ⟨e,hf⟩
 ·rw [e] at hb; exact List.mem_cons_of_mem _ hb
 ·rw [e] at hb
  unfold frs at hb
  rw [List.filterMap_cons,hf] at hb
  exact hb
theorem Inv.stkFree (I:Inv X pins σ H s):∀ b∈frs X.stack,H b = none:=fun b hb=>by
 rcases List.mem_cons.mp (I.stkSub b hb) with e | hb
 ·rw [e]; exact I.free
 ·obtain ⟨_,o,ho,_⟩:=I.ok.funs.mem hb
  exact I.base.free b o ho (I.ok.frf b hb) fun z=>I.ok.exfs b z hb

theorem Inv.step {g':Array GenState} {t':Nat} {d':Drawn} {ch:List Addr} (I:Inv X pins σ H s)
  (hch:∀ b∈ch,(b∈X.ex∨X.s₀.heap.objs.size≤b)∧b≠X.env.locals∧(∀ x c,X.env.cells.lookup x = some c→c≠b)∧∀ p∈X.pn ++ pins,p.1≠b)
  (keep:∀ b o,b≠X.env.locals→b ∉ X.fs→b ∉ ch→s.heap.get? b = some o→H b = none→h'.get? b = some o)
  (slot:∀ b o,b≠X.env.locals→b∈X.fs→b ∉ ch→s.heap.get? b = some o→H b = none→∃ sl,h'.get? b = some { o with slots:=sl }) (free:∀ b o,b ∉ ch→s.heap.get? b = some o→H b = none→H' b = none)
  (there:∀ b o,b ∉ ch→s.heap.get? b = some o→∃ o',h'.get? b = some o')
  (tups:∀ b xs,H b = some (.tup xs)→H' b = some (.tup xs)) (frzs:∀ b o u,H b = some (.frz o u)→H' b = some (.frz o u)) (tbls:∀ b ps,H b = some (.tbl ps)→∃ more,H' b = some (.tbl (ps ++ more)))
  (ns:∀ m,s.heap.Ns X.env.locals m→h'.Ns X.env.locals m) (hok:HOk X.prog X.w H' h') (hg:AllBare g') :
  Inv X pins σ H' { s with heap:=h',gens:=g',drawn:=d',toks:=t' }:=by
 have neL:∀ b o,X.s₀.heap.get? b = some o→b≠X.env.locals:=fun b o e=>Nat.ne_of_lt (Nat.lt_of_lt_of_le (Heap.lt_size e) I.ok.above)
 have neC:∀ b o,X.s₀.heap.get? b = some o→b ∉ X.ex→b ∉ ch:=fun b o e hx hb=>by
  rcases (hch b hb).1 with z | z
  ·exact hx z
  ·exact absurd (Nat.lt_of_lt_of_le (Heap.lt_size e) z) (Nat.lt_irrefl _)
 have cellK:∀ x c,X.env.cells.lookup x = some c→∀ v,s.heap.IsCell c v→h'.IsCell c v:=fun x c e v ⟨o,ho,hd⟩=>by
  have nch:c ∉ ch:=fun z=>(hch c z).2.2.1 x c e rfl
  by_cases hc:c∈X.fs
  ·obtain ⟨sl,q⟩:=slot c o (I.cne x c e) hc nch ho (I.freeC x c e)
   exact ⟨_,q,hd⟩
  ·exact ⟨o,keep c o (I.cne x c e) hc nch ho (I.freeC x c e),hd⟩
 refine ⟨I.ok,I.os,hg,⟨fun b o e n hb hx=>?_,fun b o e n hb hx=>?_,fun b o e n hx=>?_,fun b o e hx=>?_,fun b xs e=>tups b xs (I.base.tups b xs e),fun b o xs e=>frzs b o xs (I.base.frzs b o xs e),fun b ps e=>?_⟩,?_,fun x c e=>?_,?_,fun x c e=>?_,fun p hp=>?_,hok,I.len⟩
 ·exact keep b o (neL b o e) hb (neC b o e hx) (I.base.keep b o e n hb hx) (I.base.free b o e n hx)
 ·obtain ⟨sl,e1⟩:=I.base.slot b o e n hb hx
  obtain ⟨sl',e2⟩:=slot b _ (neL b o e) hb (neC b o e hx) e1 (I.base.free b o e n hx)
  exact ⟨sl',e2⟩
 ·obtain ⟨o',e1⟩:=I.base.there b o e hx
  exact free b o' (neC b o e hx) e1 (I.base.free b o e n hx)
 ·obtain ⟨o',e1⟩:=I.base.there b o e hx
  exact there b o' (neC b o e hx) e1
 ·obtain ⟨m1,e1⟩:=I.base.tbls b ps e
  obtain ⟨m2,e2⟩:=tbls b _ e1
  exact ⟨m1 ++ m2,by rw [e2,Array.append_assoc]⟩
 ·obtain ⟨m,hn,hl⟩:=I.loc
  refine ⟨m,ns m hn,fun i x v e1 e2 e3=>?_⟩
  obtain ⟨u,r,l⟩:=hl i x v e1 e2 e3
  refine ⟨u,r,?_⟩
  rcases l with l | ⟨k,c,e,z⟩
  ·exact .inl l
  ·exact .inr ⟨k,c,e,cellK x c e _ z⟩
 ·obtain ⟨v,z⟩:=I.cell x c e
  exact ⟨v,cellK x c e v z⟩
 ·obtain ⟨m,⟨o,_,_,ho,_⟩,_⟩:=I.loc
  exact free _ o (fun z=>(hch _ z).2.1 rfl) ho I.free
 ·obtain ⟨v,o,ho,hd⟩:=I.cell x c e
  exact free c o (fun z=>(hch c z).2.2.1 x c e rfl) ho (I.freeC x c e)
 ·obtain ⟨e,n,ne,nf,d⟩:=I.pin p hp
  have nch:p.1 ∉ ch:=fun z=>(hch p.1 z).2.2.2 p hp rfl
  exact ⟨keep p.1 p.2 ne nf nch e n,free p.1 p.2 nch e n,ne,nf,d⟩
theorem Inv.un {t':Nat} (I:Inv X pins σ H s) (u:Un X.fs [] H H' s.heap h') (hok:HOk X.prog X.w H' h'):Inv X pins σ H' { s with heap:=h',toks:=t' }:=by
 obtain ⟨m,⟨o,es,ep,ho,r⟩,_⟩:=id I.loc
 obtain ⟨sl,hL⟩:=u.any ho I.free (by simp)
 exact I.step (g':=s.gens) (d':=s.drawn) (ch:=[]) (fun _ z=>nomatch z) (fun b o _ hb _ e n=>u.keep b o e n hb (by simp)) (fun b o _ hb _ e n=>u.slot b o e n hb (by simp)) (fun b o _ e n=>u.free b o e n (by simp)) (fun b o _ e=>u.there b o e (by simp)) u.tups u.frzs u.tbls (fun m' hm=>by
  obtain ⟨o',es',ep',ho',r'⟩:=hm
  rw [ho] at ho'; cases ho'
  exact ⟨_,es',ep',hL,r'⟩) hok I.bare
theorem Inv.call {g':Array GenState} {t':Nat} {d':Drawn} {ch:List Addr} (I:Inv X pins σ H s) (u:Un (frs X.stack) ch H H' s.heap h') (hok:HOk X.prog X.w H' h') (hg:AllBare g')
  (hch:∀ b∈ch,(b∈X.ex∨X.s₀.heap.objs.size≤b)∧b≠X.env.locals∧(∀ x c,X.env.cells.lookup x = some c→c≠b)∧∀ p∈X.pn ++ pins,p.1≠b) :
  Inv X pins σ H' { s with heap:=h',gens:=g',drawn:=d',toks:=t' }:=by
 obtain ⟨m,⟨o,es,ep,ho,r⟩,_⟩:=id I.loc
 obtain ⟨sl,hL⟩:=u.any ho I.free fun z=>(hch _ z).2.1 rfl
 exact I.step (ch:=ch) hch (fun b o hL hb hc e n=>u.keep b o e n (fun z=>(List.mem_cons.mp (I.stkSub b z)).elim hL hb) hc) (fun b o _ _ hc e n=>u.any e n hc) (fun b o hc e n=>u.free b o e n hc) (fun b o hc e=>u.there b o e hc) u.tups u.frzs u.tbls (fun m' hm=>by
  obtain ⟨o',es',ep',ho',r'⟩:=hm
  rw [ho] at ho'; cases ho'
  exact ⟨_,es',ep',hL,r'⟩) hok hg
theorem Inv.turned {t':Nat} {it:Addr} (I:Inv X pins σ H s) (k:∀ b o,b≠it→s.heap.get? b = some o→h'.get? b = some o) (hn:H it = none) (hL:it≠X.env.locals)
  (h1:it∈X.ex∨X.s₀.heap.objs.size≤it) (h2:∀ x c,X.env.cells.lookup x = some c→c≠it) (h3:∀ p∈X.pn ++ pins,p.1≠it):Inv X pins σ H { s with heap:=h',toks:=t' }:=by
 have nit:∀ b u,H b = some u→b≠it:=fun b u e z=>by rw [z,hn] at e; cases e
 refine I.step (g':=s.gens) (d':=s.drawn) (ch:=[it]) (fun b hb=>?_) (fun b o _ _ hc e _=>k b o (fun z=>hc (by simp [z])) e) (fun b o _ _ hc e _=>⟨o.slots,k b o (fun z=>hc (by simp [z])) e⟩) (fun _ _ _ _ n=>n)
  (fun b o hc e=>⟨o,k b o (fun z=>hc (by simp [z])) e⟩) (fun _ _ e=>e) (fun _ _ _ e=>e) (fun b ps e=>⟨#[],by rw [e]; simp⟩) (fun m hm=>?_) (fun b u e=>?_) I.bare
 ·have e:b = it:=by simpa using hb
  subst e
  exact ⟨h1,hL,h2,h3⟩
 ·obtain ⟨o,es,ep,ho,r⟩:=hm
  exact ⟨o,es,ep,k _ o (Ne.symm hL) ho,r⟩
 ·refine (I.hok b u e).stay (fun c v hc q=>k c v ?_ q) (fun _ q=>q) fun _ _ q=>q
  rcases hc with z | z
  ·rw [z]; exact nit b u e
  ·exact nit c _ z
theorem Inv.tok (I:Inv X pins σ H s) (t:Nat):Inv X pins σ H { s with toks:=t }:=I.un (h':=s.heap) (t':=t) Un.refl I.hok
theorem Inv.kept {t':Nat} (I:Inv X pins σ H s) (k:∀ b u,s.heap.get? b = some u→h'.get? b = some u):Inv X pins σ H { s with heap:=h',toks:=t' }:=I.un (Un.kept k) (I.hok.kept k)
theorem Inv.laid {a:Addr} {o:HO} {t':Nat} (I:Inv X pins σ H s) (k:∀ b u,s.heap.get? b = some u→h'.get? b = some u) (hp:s.heap.objs.size≤a) (new:zDi X.prog X.w (upd H a o) h' a o) :
  Inv X pins σ (upd H a o) { s with heap:=h',toks:=t' }:=I.un (Un.laid k hp (I.hok.fresh hp)) (I.hok.laid k hp new)
theorem Inv.write {x e:Addr} {o:HO} {t':Nat} (I:Inv X pins σ H s) (mu:Mut (H x)) (he:e = x∨H e = some (.own x)) (k:∀ b u,b≠e→s.heap.get? b = some u→h'.get? b = some u) (heo:∃ u,h'.get? e = some u)
  (new:zDi X.prog X.w (upd H x o) h' x o):Inv X pins σ (upd H x o) { s with heap:=h',toks:=t' }:=I.un (Un.write mu he k heo) (I.hok.write mu he k heo new)
theorem Inv.pins_of {pins':List (Addr × Obj)} (I:Inv X pins σ H s) (h:∀ p∈pins',s.heap.get? p.1 = some p.2∧H p.1 = none∧p.1≠X.env.locals∧p.1 ∉ X.fs∧∀ v,p.2.data≠.cell v):Inv X pins' σ H s :=
 ⟨I.ok,I.os,I.bare,I.base,I.loc,I.cell,I.free,I.freeC,fun p hp=>(List.mem_append.mp hp).elim (fun z=>I.pin p (List.mem_append_left _ z)) (h p),I.hok,I.len⟩

theorem zOd {N:List Str} (hN:N.Nodup) {i j:Nat} {x:Str} (a:N[i]? = some x) (b:N[j]? = some x):i = j:=by
 obtain ⟨h1,e1⟩:=List.getElem?_eq_some_iff.mp a
 obtain ⟨h2,e2⟩:=List.getElem?_eq_some_iff.mp b
 exact (List.getElem_inj hN).mp (e1.trans e2.symm)

theorem zMs {M:Model} {A:Around} {E:Value→Shared→Prop} {i:Nat} {x:Str} {v:V} {u:Value} {Q:Unit→Shared→Prop} (I:Inv X pins σ H s) (hN:X.N.Nodup) (hi:X.N[i]? = some x) (hx:Loc X.env.scope x) (r:RelV v u)
  (h:∀ s',Inv X pins (σ.set i (some v)) H s'→(∃ a,Heap.SameBut a s.heap s'.heap∧(a = X.env.locals∨X.env.cells.lookup x = some a))→Q () s') (hf:X.fn x = true∨X.env.scope.names.lookup x = some .local:=by first | exact .inl rfl | exact .inr rfl | assumption):wpAny M A (storeName X.env x u) Q E s:=by
 obtain ⟨m,hn,hl⟩:=id I.loc
 have hcls:(X.env.scope.kind == .class || (X.env.scope.kind == .module && X.env.locals != X.env.globals)) = false:=by rw [I.ok.kind]; rfl
 have hiσ:i < σ.length:=by rw [I.len]; exact (List.getElem?_eq_some_iff.mp hi).1
 have cne:=I.cne
 have tracked:∀ {a:Addr} {h':Heap},(∃ o,s.heap.get? a = some o∧H a = none)→Heap.SameBut a s.heap h'→HOk X.prog X.w H h':=fun {a h'} ha hs b ob e=>by
  obtain ⟨_,_,hfree⟩:=ha
  refine (I.hok b ob e).stay (fun c w' hc q=>(hs.2 c ?_).trans q) (fun _ q=>q) fun _ _ q=>q
  rintro rfl
  rcases hc with rfl | hc
  ·rw [hfree] at e; cases e
  ·rw [hfree] at hc; cases hc
 rcases hx with hk | hk
 ·refine wpAny_storeName_local hk hn (fun h' hn' hs=>?_) hcls
  obtain ⟨oL,_,_,hoL,_⟩:=id hn
  refine h _ ⟨I.ok,I.os,I.bare,⟨fun b o e n hb hx=>?_,fun b o e n hb hx=>?_,I.base.free,fun b o e hx=>?_,I.base.tups,I.base.frzs,I.base.tbls⟩,⟨_,hn',fun j y v' e1 e2 e3=>?_⟩,fun y c e=>?_,I.free,I.freeC,fun p hp=>?_,tracked ⟨oL,hoL,I.free⟩ hs,by simpa using I.len⟩ ⟨_,hs,.inl rfl⟩
  ·exact (hs.2 b (Nat.ne_of_lt (Nat.lt_of_lt_of_le (Heap.lt_size e) I.ok.above))).trans (I.base.keep b o e n hb hx)
  ·obtain ⟨sl,e1⟩:=I.base.slot b o e n hb hx
   exact ⟨sl,(hs.2 b (Nat.ne_of_lt (Nat.lt_of_lt_of_le (Heap.lt_size e) I.ok.above))).trans e1⟩
  ·obtain ⟨o',e1⟩:=I.base.there b o e hx
   exact ⟨o',(hs.2 b (Nat.ne_of_lt (Nat.lt_of_lt_of_le (Heap.lt_size e) I.ok.above))).trans e1⟩
  ·by_cases hj:j = i
   ·subst hj
    rw [hi] at e1; cases e1
    rw [List.getElem?_set_self hiσ] at e2
    cases e2
    exact ⟨u,r,.inl ⟨hk,by simp⟩⟩
   ·rw [List.getElem?_set_ne (Ne.symm hj)] at e2
    obtain ⟨u',r',q⟩:=hl j y v' e1 e2 e3
    refine ⟨u',r',?_⟩
    rcases q with ⟨k,e⟩ | ⟨k,c,e,z⟩
    ·refine .inl ⟨k,?_⟩
     have:y≠x:=fun e=>hj (zOd hN e1 (e ▸ hi))
     simp [this,e]
    ·exact .inr ⟨k,c,e,z.sameBut hs (cne y c e)⟩
  ·obtain ⟨w',z⟩:=I.cell y c e
   exact ⟨w',z.sameBut hs (cne y c e)⟩
  ·obtain ⟨e,n,ne,nf,d⟩:=I.pin p hp
   exact ⟨(hs.2 p.1 ne).trans e,n,ne,nf,d⟩
 ·have hfn:X.fn x = true:=by
   rcases hf with z | z
   ·exact z
   ·rw [z] at hk; cases hk
  obtain ⟨c,hc⟩:=I.ok.has x (.inl hk)
  obtain ⟨w',z⟩:=I.cell x c hc
  refine wpAny_storeName_cell I.ok.kind hk hc z (fun h' hc' hs=>?_)
  obtain ⟨oc,hoc,hocd⟩:=id z
  refine h { s with heap:=h' } ⟨I.ok,I.os,I.bare,⟨fun b o e n hb hx=>?_,fun b o e n hb hx=>?_,I.base.free,fun b o e hx=>?_,I.base.tups,I.base.frzs,I.base.tbls⟩,⟨m,hn.sameBut hs (Ne.symm (cne x c hc)),fun j y v' e1 e2 e3=>?_⟩,fun y c' e=>?_,I.free,I.freeC,fun p hp=>?_,tracked ⟨oc,hoc,I.freeC x c hc⟩ hs,by simpa using I.len⟩ ⟨c,hs,.inr hc⟩
  ·exact (hs.2 b (Nat.ne_of_lt (Nat.lt_of_lt_of_le (Heap.lt_size e) (I.ok.cab x c hfn hc)))).trans (I.base.keep b o e n hb hx)
  ·obtain ⟨sl,e1⟩:=I.base.slot b o e n hb hx
   exact ⟨sl,(hs.2 b (Nat.ne_of_lt (Nat.lt_of_lt_of_le (Heap.lt_size e) (I.ok.cab x c hfn hc)))).trans e1⟩
  ·obtain ⟨o',e1⟩:=I.base.there b o e hx
   exact ⟨o',(hs.2 b (Nat.ne_of_lt (Nat.lt_of_lt_of_le (Heap.lt_size e) (I.ok.cab x c hfn hc)))).trans e1⟩
  ·by_cases hj:j = i
   ·subst hj
    rw [hi] at e1; cases e1
    rw [List.getElem?_set_self hiσ] at e2
    cases e2
    exact ⟨u,r,.inr ⟨.inl hk,c,hc,hc'⟩⟩
   ·rw [List.getElem?_set_ne (Ne.symm hj)] at e2
    obtain ⟨u',r',q⟩:=hl j y v' e1 e2 e3
    refine ⟨u',r',?_⟩
    rcases q with q | ⟨k,c',e,z'⟩
    ·exact .inl q
    ·refine .inr ⟨k,c',e,z'.sameBut hs ?_⟩
     rintro rfl
     exact hj (zOd hN e1 (I.ok.inj _ _ _ e hc ▸ hi))
  ·by_cases hcc:c' = c
   ·subst hcc; exact ⟨_,hc'⟩
   ·obtain ⟨w2,z2⟩:=I.cell y c' e
    exact ⟨w2,z2.sameBut hs hcc⟩
  ·obtain ⟨e,n,ne,nf,d⟩:=I.pin p hp
   refine ⟨(hs.2 p.1 ?_).trans e,n,ne,nf,d⟩
   intro q
   rw [q,hoc] at e
   have q':oc = p.2:=Option.some.inj e
   exact d w' (by rw [← q']; exact hocd)
theorem zFd {M:Model} {A:Around} {E:Value→Shared→Prop} {i:Nat} {x:Str} {v:V} {u:Value} {Q:Unit→Shared→Prop} (I:Inv X pins σ H s) (hN:X.N.Nodup) (hi:X.N[i]? = some x) (hx:Loc X.env.scope x) (r:RelV v u)
  (h:∀ s',Inv X pins (σ.set i (some v)) H s'→Q () s') (hf:X.fn x = true∨X.env.scope.names.lookup x = some .local:=by first | exact .inl rfl | exact .inr rfl | assumption):wpAny M A (storeName X.env x u) Q E s :=
 zMs I hN hi hx r (fun s' I' _=>h s' I') hf
theorem Inv.call' {s':Shared} {ch:List Addr} (I:Inv X pins σ H s) (ho:s'.os = s.os) (u:Un (frs X.stack) ch H H' s.heap s'.heap) (hok:HOk X.prog X.w H' s'.heap) (hg:AllBare s'.gens)
  (hch:∀ b∈ch,(b∈X.ex∨X.s₀.heap.objs.size≤b)∧b≠X.env.locals∧(∀ x c,X.env.cells.lookup x = some c→c≠b)∧∀ p∈X.pn ++ pins,p.1≠b):Inv X pins σ H' s':=by
 obtain ⟨h',g',d',t',o'⟩:=s'
 have e:o' = s.os:=ho
 subst e
 exact I.call (g':=g') (t':=t') (d':=d') u hok hg hch
end

abbrev XK:=Value→Option Addr→Hp→Prop
abbrev St:=List (Option V)
abbrev VK:=V→Hp→Prop
abbrev TE:=St→Hp→VK→Prop
abbrev TT:=St→Hp→(Bool→Hp→Prop)→Prop
abbrev TA:=St→Hp→(List V→Hp→Prop)→Prop
structure Ends where
 nx:St→Hp→Prop
 rt:VK
 bk:St→Hp→Prop:=fun _ _=>False
 ct:St→Hp→Prop:=fun _ _=>False
abbrev TS:=Ends→St→Hp→Prop

def EP (X:Cx) (pins:List (Addr × Obj)) (σ:St) (Q:VK) (u:Value) (s':Shared):Prop:=∃ v H',Inv X pins σ H' s'∧RelV v u∧Q v H'
def TP (X:Cx) (pins:List (Addr × Obj)) (σ:St) (Q:Bool→Hp→Prop) (b:Bool) (s':Shared):Prop:=∃ H',Inv X pins σ H' s'∧Q b H'
def AP (X:Cx) (pins:List (Addr × Obj)) (σ:St) (Q:List V→Hp→Prop) (us:List Value) (s':Shared):Prop:=∃ vs H',Inv X pins σ H' s'∧Vals vs us∧Q vs H'
def SP (X:Cx) (pins:List (Addr × Obj)) (D:Ends) (f:Flow) (s':Shared):Prop :=
 match f with
 | .next=>∃ σ' H',Inv X pins σ' H' s'∧D.nx σ' H'
 | .brk=>∃ σ' H',Inv X pins σ' H' s'∧D.bk σ' H'
 | .cont=>∃ σ' H',Inv X pins σ' H' s'∧D.ct σ' H'
 | .ret u=>∃ v σ' H',Inv X pins σ' H' s'∧RelV v u∧D.rt v H'

def PE (X:Cx) (e:Expr) (t:TE):Prop :=
 ∀ (pins:List (Addr × Obj)) (s:Shared) (σ:St) (H:Hp) (Q:VK),Inv X pins σ H s→t σ H Q→wpAny (model X.prog X.w) X.A (eval e X.env) (EP X pins σ Q) X.xe s
def PT (X:Cx) (e:Expr) (t:TT):Prop :=
 ∀ (pins:List (Addr × Obj)) (s:Shared) (σ:St) (H:Hp) (Q:Bool→Hp→Prop),Inv X pins σ H s→t σ H Q→wpAny (model X.prog X.w) X.A (isTrue e X.env (eval e X.env)) (TP X pins σ Q) X.xe s
def PW (X:Cx) (e:Expr) (t:TT):Prop :=
 ∀ (whole:Sem Value) (pins:List (Addr × Obj)) (s:Shared) (σ:St) (H:Hp) (Q:Bool→Hp→Prop),Inv X pins σ H s→t σ H Q→wpAny (model X.prog X.w) X.A (isTrue e X.env whole) (TP X pins σ Q) X.xe s
theorem PW.pt {X:Cx} {e:Expr} {t:TT} (h:PW X e t):PT X e t:=h _
def PA (X:Cx) (es:List Expr) (t:TA):Prop :=
 ∀ (pos:Pos) (pins:List (Addr × Obj)) (s:Shared) (σ:St) (H:Hp) (Q:List V→Hp→Prop),Inv X pins σ H s→t σ H Q→wpAny (model X.prog X.w) X.A (spliced (backTo pos (starEach es X.env))) (AP X pins σ Q) X.xe s
def PS (X:Cx) (st:Stmt) (t:TS):Prop :=
 ∀ (pins:List (Addr × Obj)) (s:Shared) (σ:St) (H:Hp) (D:Ends),Inv X pins σ H s→t D σ H→wpAny (model X.prog X.w) X.A (exec st X.env) (SP X pins D) X.xe s
def PSs (X:Cx) (st:List Stmt) (t:TS):Prop :=
 ∀ (pins:List (Addr × Obj)) (s:Shared) (σ:St) (H:Hp) (D:Ends),Inv X pins σ H s→t D σ H→wpAny (model X.prog X.w) X.A (execs st X.env) (SP X pins D) X.xe s
theorem thn {α:Type} {t:Sem α} {Q Q':α→Shared→Prop} {M:Model} {A:Around} {E:Value→Shared→Prop} {s:Shared} (h:wpAny M A t Q E s) (hQ:∀ a s,Q a s→Q' a s):wpAny M A t Q' E s:=wpAny_mono h hQ fun _ _ x=>x
end L2

namespace L2
open PySem PySem.Spec PyProof.Rows
section
variable {X:Cx}

theorem bin {a b:Expr} {ta tb:TE} (ha:PE X a ta) (hb:PE X b tb) {pins:List (Addr × Obj)} {s:Shared} {σ:St} {H:Hp} {R:V→V→Hp→Prop} (I:Inv X pins σ H s) (h:ta σ H fun x H1=>tb σ H1 fun y H2=>R x y H2)
  {α:Type} {Q:α→Shared→Prop} {f:Value→Value→Sem α}
  (hf:∀ v u s2 x y H2,Inv X pins σ H2 s2→RelV x v→RelV y u→R x y H2→wpAny (model X.prog X.w) X.A (f v u) Q X.xe s2) :
  wpAny (model X.prog X.w) X.A (eval a X.env) (fun v s₁=>wpAny (model X.prog X.w) X.A (eval b X.env) (fun u s₂=>wpAny (model X.prog X.w) X.A (f v u) Q X.xe s₂) X.xe s₁) X.xe s:=by
 refine thn (ha pins s σ H _ I h) fun v s1 ⟨x,H1,I1,r1,q1⟩=>?_
 refine thn (hb pins s1 σ H1 _ I1 q1) fun u s2 ⟨y,H2,I2,r2,q2⟩=>?_
 exact hf v u s2 x y H2 I2 r1 r2 q2

inductive TVar (i:Nat) (σ:St) (H:Hp) (Q:VK):Prop where
 | mk (v:V) (e:σ[i]? = some (some v)) (q:Q v H)
def tVar (i:Nat):TE:=fun σ H Q=>TVar i σ H Q
def tC (v:V):TE:=fun _ H Q=>Q v H
theorem pe_var {i:Nat} {x:Str} {pos:Pos} (hN:X.N[i]? = some x) (hv:Vis X.env.scope x) (hd:(x == ("__debug__" : Str)) = false:=by decide) (hcd:(x == ("__classdict__" : Str)) = false:=by decide):PE X (.Name x pos) (tVar i):=by
 intro pins s σ H Q I h
 obtain ⟨v,e,h⟩:=h
 obtain ⟨m,hn,hl⟩:=I.loc
 obtain ⟨u,r,l⟩:=hl i x v hN e hv
 have fin:EP X pins σ Q u s:=⟨v,H,I,r,h⟩
 rcases l with ⟨hk,hm⟩ | ⟨hk,c,hc,hcell⟩
 ·exact wpAny_Name (wpAny_loadName_local I.ok.kind hk hn hm fin) hd
 ·rcases hk with hk | hk
  ·exact wpAny_Name (wpAny_loadName_cell I.ok.kind hk hc hcell fin) hd
  ·exact wpAny_Name (wpAny_loadName_free I.ok.kind hk hc hcell fin hcd) hd
theorem zAb {i j pos} : PE X (.Constant (.int i) j pos) (tC (.int i)):=fun _ _ _ H _ I h=>wpAny_Constant_int ⟨.int i,H,I.tok _,⟨_,rfl⟩,h⟩
theorem zE2 {b j pos} : PE X (.Constant (.bool b) j pos) (tC (.bl b)):=fun _ _ _ H _ I h=>Constant_bool ⟨.bl b,H,I,rfl,h⟩
theorem zBp {j pos} : PE X (.Constant .none j pos) (tC .non):=fun _ _ _ H _ I h=>Constant_none ⟨.non,H,I,rfl,h⟩
theorem zCu {x j pos} : PE X (.Constant (.str x) j pos) (tC (.str x)):=fun _ _ _ H _ I h=>Calls.Constant_str ⟨.str x,H,I.tok _,⟨_,rfl⟩,h⟩

def Gl (X:Cx) (x:Str):Prop:=X.env.kindOf x = some .globalImplicit
theorem zUn {E:Value→Shared→Prop} {pins:List (Addr × Obj)} {s:Shared} {σ:St} {H:Hp} {x:Str} {u:Value} {pos:Pos} {Q:Value→Shared→Prop} (I:Inv X pins σ H s) (hg:Gl X x) (hm:X.mg x = some u) (h:Q u s)
  (hd:(x == ("__debug__" : Str)) = false:=by decide):wpAny (model X.prog X.w) X.A (eval (.Name x pos) X.env) Q E s :=
 Calls.Name_function_global I.ok.kind hg (Calls.loadGlobal_global (by rw [I.ok.glob]; exact I.mod.glob.keeps I.bk) hm h) hd
theorem zKi {E:Value→Shared→Prop} {pins:List (Addr × Obj)} {s:Shared} {σ:St} {H:Hp} {x:Str} {u:Value} {pos:Pos} {Q:Value→Shared→Prop} (I:Inv X pins σ H s) (hg:Gl X x) (hm:X.mg x = none) (hv:bootBuiltins x = some u) (h:Q u s)
  (hn:x ≠ "__name__" := by decide) (hd:(x == ("__debug__" : Str)) = false:=by decide):wpAny (model X.prog X.w) X.A (eval (.Name x pos) X.env) Q E s:=by
 obtain ⟨mb,h1,h2⟩:=I.mod.blt
 exact Calls.Name_function_global I.ok.kind hg (Calls.loadGlobal_builtin (by rw [I.ok.glob]; exact I.mod.glob.keeps I.bk) hm (by rw [I.ok.blt]; exact h1.keeps I.bk) ((h2 x hn).trans hv) h) hd
theorem zB9 {x:Str} {v:V} {u:Value} {pos:Pos} (hg:Gl X x) (hm:X.mg x = none) (hv:bootBuiltins x = some u) (r:RelV v u) (hn:x ≠ "__name__" := by decide) (hd:(x == ("__debug__" : Str)) = false:=by decide):PE X (.Name x pos) (tC v) :=
 fun _ _ _ H _ I h=>zKi I hg hm hv ⟨v,H,I,r,h⟩ hn hd

variable {a b:Expr} {ta tb:TE} {pos:Pos}
def PC (X:Cx) (op:CmpOp) (a b:Expr) (t:TE):Prop :=
 ∀ (pins:List (Addr × Obj)) (s:Shared) (σ:St) (H:Hp) (Q:VK),Inv X pins σ H s→t σ H Q →
  wpAny (model X.prog X.w) X.A (eval a X.env) (fun v s₁=>wpAny (model X.prog X.w) X.A (eval b X.env) (fun u s₂=>wpAny (model X.prog X.w) X.A (compareOp op v u) (EP X pins σ Q) X.xe s₂) X.xe s₁) X.xe s
def tB (t:TE):TT:=fun σ H Q=>t σ H fun x H1=>∃ c,x = .bl c∧Q c H1
theorem pt_cmp {op:CmpOp} {t:TE} (h:PC X op a b t) (h1:behindInMarks op b = false:=by first | exact nobehind _ (by decide) (by decide) | rfl):PT X (.Compare a [op] [b] pos) (tB t):=by
 intro pins s σ H Q I hw
 refine wpAny_isTrue_Compare1 (thn (h pins s σ H _ I hw) fun v s1 h1=>thn h1 fun u s2 h2=>thn h2 fun c s3 ⟨x,H1,I1,r1,q1⟩=>?_) h1
 obtain ⟨d,rfl,q⟩:=q1
 cases r1
 exact wpAny_truthy_bool ⟨H1,I1,q⟩
theorem zB5 {e:Expr} {t:TE} (h:PE X e t) (he:∀ whole,isTrue e X.env whole = (do let v ← whole; standAt e.pos; holding [v] (truthy v)):=by intro _; rfl):PT X e (tB t):=by
 intro pins s σ H Q I hw
 refine isTrue_plain (thn (h pins s σ H _ I hw) fun v s1 ⟨x,H1,I1,r1,q1⟩=>?_) (he _)
 obtain ⟨d,rfl,q⟩:=q1
 cases r1
 exact wpAny_truthy_bool ⟨H1,I1,q⟩

variable {tA tB':TT} {rest:List Expr}
def tAnd (t u:TT):TT:=fun σ H Q=>t σ H fun c H1=>if c = true then u σ H1 Q else Q false H1
def tOr (t u:TT):TT:=fun σ H Q=>t σ H fun c H1=>if c = true then Q true H1 else u σ H1 Q
def tNot (t:TT):TT:=fun σ H Q=>t σ H fun c H1=>Q (!c) H1
theorem zEe (ha:PT X a tA):PW X (.BoolOp .And [a] pos) tA:=by
 intro wh pins s σ H Q I h
 refine isTrue_and (thn (ha pins s σ H Q I h) fun c s1 e=>?_)
 cases c with
 | true=>exact isTrue_and_nil e
 | false=>exact e
theorem zDv (ha:PT X a tA):PW X (.BoolOp .Or [a] pos) tA:=by
 intro wh pins s σ H Q I h
 refine isTrue_or (thn (ha pins s σ H Q I h) fun c s1 e=>?_)
 cases c with
 | false=>exact isTrue_or_nil e
 | true=>exact e
theorem zFm (ha:PT X a tA) (hb:PW X (.BoolOp .And (b :: rest) pos) tB'):PW X (.BoolOp .And (a :: b :: rest) pos) (tAnd tA tB'):=by
 intro wh pins s σ H Q I h
 refine isTrue_and (thn (ha pins s σ H _ I h) fun c s1 ⟨H1,I1,q1⟩=>?_)
 cases c with
 | true=>exact hb wh pins s1 σ H1 Q I1 q1
 | false=>exact ⟨H1,I1,q1⟩
theorem zEt (ha:PT X a tA) (hb:PW X (.BoolOp .Or (b :: rest) pos) tB'):PW X (.BoolOp .Or (a :: b :: rest) pos) (tOr tA tB'):=by
 intro wh pins s σ H Q I h
 refine isTrue_or (thn (ha pins s σ H _ I h) fun c s1 ⟨H1,I1,q1⟩=>?_)
 cases c with
 | true=>exact ⟨H1,I1,q1⟩
 | false=>exact hb wh pins s1 σ H1 Q I1 q1
theorem zCr (ha:PT X a tA):PT X (.UnaryOp .Not a pos) (tNot tA):=by
 intro pins s σ H Q I h
 exact isTrue_not (ha pins s σ H (fun c H1=>Q (!c) H1) I h)
def tAndV (ta tb:TE):TE:=fun σ H Q=>ta σ H fun x H1=>∃ c,x = .bl c∧if c = true then tb σ H1 Q else Q (.bl false) H1
def tNotV (ta:TE):TE:=fun σ H Q=>ta σ H fun x H1=>∃ c,x = .bl c∧Q (.bl (!c)) H1
theorem zGo {op} {t:TE} (h:PE X a t):PE X (.BoolOp op [a] pos) t:=fun pins s σ H Q I hw=>BoolOp_one (h pins s σ H Q I hw)
theorem zF4 (ha:PE X a ta) (hb:PE X (.BoolOp .And (b :: rest) pos) tb):PE X (.BoolOp .And (a :: b :: rest) pos) (tAndV ta tb):=by
 intro pins s σ H Q I h
 refine BoolOp_and (thn (ha pins s σ H _ I h) fun v s1 ⟨x,H1,I1,r1,q1⟩=>?_)
 obtain ⟨c,rfl,q1⟩:=q1
 cases r1
 refine wpAny_truthy_bool ?_
 cases c with
 | true=>exact hb pins s1 σ H1 Q I1 q1
 | false=>exact ⟨.bl false,H1,I1,rfl,q1⟩
theorem pe_not (ha:PE X a ta):PE X (.UnaryOp .Not a pos) (tNotV ta):=by
 intro pins s σ H Q I h
 refine UnaryOp_ (thn (ha pins s σ H _ I h) fun v s1 ⟨x,H1,I1,r1,q1⟩=>?_)
 obtain ⟨c,rfl,q1⟩:=q1
 cases r1
 exact not_of (wpAny_truthy_bool ⟨.bl (!c),H1,I1,rfl,q1⟩)
def tIf (t:TT) (ta tb:TE):TE:=fun σ H Q=>t σ H fun c H1=>if c = true then ta σ H1 Q else tb σ H1 Q
theorem zSm {c:Expr} (hc:PT X c tA) (ha:PE X a ta) (hb:PE X b tb):PE X (.IfExp c a b pos) (tIf tA ta tb):=by
 intro pins s σ H Q I h
 refine wpAny_IfExp (thn (hc pins s σ H _ I h) fun d s1 ⟨H1,I1,q1⟩=>?_)
 cases d with
 | true=>exact ha pins s1 σ H1 Q I1 q1
 | false=>exact hb pins s1 σ H1 Q I1 q1
end
end L2

namespace L2
open PySem PySem.Spec PyProof.Rows

def SqL (K:PySem.W.Frag) (H:Hp) (a:Addr) (xs:List V):Prop :=
 Rd H a (.lst xs) ∨
  ∃ (o:Obj) (its:Array Value) (n:Nat),K.lookup a = some o∧o.cls = .type "list" ∧ o.dict = none∧o.data = .seq its n∧its.size≤sizeLine∧Vals xs its.toList
def SqT (K:PySem.W.Frag) (H:Hp) (a:Addr) (xs:List V):Prop :=
 Rd H a (.tup xs) ∨
  ∃ (o:Obj) (its:Array Value) (n:Nat),K.lookup a = some o∧o.cls = .type "tuple" ∧ o.data = .seq its n∧its.size≤sizeLine∧Vals xs its.toList
def absV:Value→Option V
 | .none=>some .non
 | .bool b=>some (.bl b)
 | .int i _=>some (.int i)
 | .str x _=>some (.str x)
 | .bytes b _=>some (.byt b)
 | .float b _=>some (.flt b)
 | .ref a=>some (.ref a)
 | .type n=>some (.ty n)
 | _=>none
theorem RelV.abs {x:V} {u:Value} (r:RelV x u):absV u = some x:=by
 cases x with
 | non=>cases r; rfl
 | bl _=>cases r; rfl
 | int _=>obtain ⟨t,rfl⟩:=r; rfl
 | str _=>obtain ⟨t,rfl⟩:=r; rfl
 | byt _=>obtain ⟨t,rfl⟩:=r; rfl
 | flt _=>obtain ⟨t,rfl⟩:=r; rfl
 | ref _=>cases r; rfl
 | ty _=>cases r; rfl
theorem RelV.inj {x y:V} {u:Value} (r:RelV x u) (q:RelV y u):x = y:=Option.some.inj (r.abs.symm.trans q.abs)
theorem Vals.inj:∀ {xs ys:List V} {us:List Value},Vals xs us→Vals ys us→xs = ys
 | _,_,_,.nil,.nil=>rfl
 | _,_,_,.cons r t,.cons r' t'=>by rw [r.inj r',Vals.inj t t']
section
variable {X:Cx} {pins:List (Addr × Obj)} {σ:St} {H:Hp} {s:Shared} {a:Addr} {xs ys:List V}
theorem SqL.of {K:PySem.W.Frag} (h:H a = some (.lst xs)):SqL K H a xs:=.inl (.inl h)
theorem SqT.of {K:PySem.W.Frag} (h:H a = some (.tup xs)):SqT K H a xs:=.inl (.inl h)
theorem Inv.list (I:Inv X pins σ H s) (h:SqL X.K H a xs):∃ its:List Value,Vals xs its∧PlainL s.heap a its.toArray∧xs.length≤sizeLine:=by
 rcases h with h | ⟨o,its,n,hk,hc,hd,hs,hz,r⟩
 ·obtain ⟨z,its,n,r,e⟩:=h.ok I.hok
  exact ⟨its,r,⟨_,n,e,rfl,rfl,rfl⟩,z⟩
 ·refine ⟨its.toList,r,⟨o,n,I.kIn a o hk,hc,hd,by simpa using hs⟩,?_⟩
  have e:=r.length
  simp only [Array.length_toList] at e
  omega
theorem Inv.tuple (I:Inv X pins σ H s) (h:SqT X.K H a xs):∃ its:List Value,Vals xs its∧IsTup s.heap a its.toArray∧xs.length≤sizeLine:=by
 rcases h with h | ⟨o,its,n,hk,hc,hs,hz,r⟩
 ·obtain ⟨z,its,r,p⟩:=h.ok I.hok
  exact ⟨its,r,p,z⟩
 ·refine ⟨its.toList,r,⟨o,I.kIn a o hk,hc,n,by simpa using hs⟩,?_⟩
  have e:=r.length
  simp only [Array.length_toList] at e
  omega
theorem Inv.list_inj (I:Inv X pins σ H s) (h:SqL X.K H a xs) (h':SqL X.K H a ys):xs = ys:=by
 obtain ⟨its,r,⟨o,n,e,_,_,d⟩,_⟩:=I.list h
 obtain ⟨its',r',⟨o',n',e',_,_,d'⟩,_⟩:=I.list h'
 rw [e] at e'; cases e'
 rw [d] at d'
 injection d' with d1 _
 have:its = its':=by simpa using congrArg Array.toList d1
 subst this
 exact r.inj r'
theorem Inv.tuple_inj (I:Inv X pins σ H s) (h:SqT X.K H a xs) (h':SqT X.K H a ys):xs = ys:=by
 obtain ⟨its,r,⟨o,e,_,n,d⟩,_⟩:=I.tuple h
 obtain ⟨its',r',⟨o',e',_,n',d'⟩,_⟩:=I.tuple h'
 rw [e] at e'; cases e'
 rw [d] at d'
 injection d' with d1 _
 have:its = its':=by simpa using congrArg Array.toList d1
 subst this
 exact r.inj r'
end

abbrev Cx.wish (X:Cx) (E:Value→Shared→Prop):Cx:={ X with xe:=E }
abbrev Cx.nox (X:Cx):Cx:=X.wish fun _ _=>False
theorem Cx.Ok.wish {X:Cx} (ok:X.Ok) (E:Value→Shared→Prop):(X.wish E).Ok :=
 ⟨ok.mod,ok.kind,ok.glob,ok.blt,ok.above,ok.inj,ok.has,ok.cab,ok.hd,ok.frames,ok.stk,ok.exf,ok.bs,ok.bsz,ok.noex,ok.exfs,ok.funs,ok.frf⟩
theorem Cx.Ok.unwish {X:Cx} {E:Value→Shared→Prop} (ok:(X.wish E).Ok):X.Ok :=
 ⟨ok.mod,ok.kind,ok.glob,ok.blt,ok.above,ok.inj,ok.has,ok.cab,ok.hd,ok.frames,ok.stk,ok.exf,ok.bs,ok.bsz,ok.noex,ok.exfs,ok.funs,ok.frf⟩
section
variable {X:Cx} {pins:List (Addr × Obj)} {σ:St} {H:Hp} {s:Shared} {E:Value→Shared→Prop}
theorem Inv.wish (I:Inv X pins σ H s) (E:Value→Shared→Prop):Inv (X.wish E) pins σ H s:=⟨I.ok.wish E,I.os,I.bare,I.base,I.loc,I.cell,I.free,I.freeC,I.pin,I.hok,I.len⟩
theorem Inv.unwish (I:Inv (X.wish E) pins σ H s):Inv X pins σ H s:=⟨I.ok.unwish,I.os,I.bare,I.base,I.loc,I.cell,I.free,I.freeC,I.pin,I.hok,I.len⟩
theorem SP.unwish {D:Ends} {f:Flow} {s':Shared} (h:SP (X.wish E) pins D f s'):SP X pins D f s':=by
 cases f with
 | next=>obtain ⟨σ',H',I,q⟩:=h; exact ⟨σ',H',I.unwish,q⟩
 | brk=>obtain ⟨σ',H',I,q⟩:=h; exact ⟨σ',H',I.unwish,q⟩
 | cont=>obtain ⟨σ',H',I,q⟩:=h; exact ⟨σ',H',I.unwish,q⟩
 | ret u=>obtain ⟨v,σ',H',I,r,q⟩:=h; exact ⟨v,σ',H',I.unwish,r,q⟩
theorem PSs.nox {st:List Stmt} {t:TS} (h:PSs X.nox st t):PSs X st t:=fun pins s σ H D I hw =>
 wpAny_mono (h pins s σ H D (I.wish _) hw) (fun _ _ q=>q.unwish) fun _ _ z=>False.elim z
end

section
variable {X:Cx} {st:Stmt} {rest:List Stmt} {t u:TS} {e:Expr} {te:TE} {pos:Pos}
def tNext:TS:=fun D σ H=>D.nx σ H
def tSeq (t u:TS):TS:=fun D σ H=>t { D with nx:=u D } σ H
theorem zAv:PSs X [] tNext:=fun _ _ σ H _ I h=>wpAny_execs_nil ⟨σ,H,I,h⟩
theorem zAf (h1:PS X st t) (h2:PSs X rest u):PSs X (st :: rest) (tSeq t u):=by
 intro pins s σ H D I h
 refine wpAny_execs_cons (thn (h1 pins s σ H { D with nx:=u D } I h) fun f s1 q=>?_)
 cases f with
 | next =>
  obtain ⟨σ',H',I',q⟩:=q
  exact h2 pins s1 σ' H' D I' q
 | ret v=>exact q
 | brk=>exact q
 | cont=>exact q
theorem zAi (h1:PS X st t):PSs X [st] t:=by
 intro pins s σ H D I h
 refine wpAny_execs_cons (thn (h1 pins s σ H D I h) fun f s1 q=>?_)
 cases f with
 | next=>exact wpAny_execs_nil q
 | ret v=>exact q
 | brk=>exact q
 | cont=>exact q
theorem Inv.quiet {pins:List (Addr × Obj)} {σ:St} {H:Hp} {s:Shared} (I:Inv X pins σ H s):interactive X.env = false:=by simp [interactive,I.ok.kind]
def tDrop (te:TE):TS:=fun D σ H=>te σ H fun _ H1=>D.nx σ H1
theorem zNh (he:PE X e te) (hs:swapsWith e none pos.line X.env = pure false:=by rfl):PS X (.Expr e pos) (tDrop te):=by
 intro pins s σ H D I h
 exact wpAny_Expr_any (thn (he pins s σ H _ I h) fun v s1 ⟨x,H1,I1,r1,q1⟩=>⟨σ,H1,I1,q1⟩) I.quiet hs
def tRet (te:TE):TS:=fun D σ H=>te σ H D.rt
theorem zAq (he:PE X e te):PS X (.Return (some e) pos) (tRet te):=by
 intro pins s σ H D I h
 exact wpAny_Return_some (thn (he pins s σ H _ I h) fun v s1 ⟨x,H1,I1,r1,q1⟩=>⟨x,σ,H1,I1,r1,q1⟩)
def tIfS (c:TT) (t u:TS):TS:=fun D σ H=>c σ H fun b H1=>if b = true then t D σ H1 else u D σ H1
theorem zA9 {c:Expr} {a b:List Stmt} {tc:TT} (hc:PT X c tc) (ha:PSs X a t) (hb:PSs X b u):PS X (.If c a b pos) (tIfS tc t u):=by
 intro pins s σ H D I h
 refine wpAny_If (thn (hc pins s σ H _ I h) fun d s1 ⟨H1,I1,q1⟩=>?_)
 cases d with
 | true=>exact ha pins s1 σ H1 D I1 q1
 | false=>exact hb pins s1 σ H1 D I1 q1
end

abbrev TG:=V→St→Hp→(St→Hp→Prop)→Prop
abbrev TGs:=List V→St→Hp→(St→Hp→Prop)→Prop
def PG (X:Cx) (target:Expr) (t:TG):Prop :=
 ∀ (pins:List (Addr × Obj)) (s:Shared) (σ:St) (H:Hp) (v:V) (u:Value) (Q:St→Hp→Prop),Inv X pins σ H s→RelV v u→t v σ H Q →
  wpAny (model X.prog X.w) X.A (assign target X.env u) (fun _ s'=>∃ σ' H',Inv X pins σ' H' s'∧Q σ' H') X.xe s
def PGs (X:Cx) (ts:List Expr) (t:TGs):Prop :=
 ∀ (pins:List (Addr × Obj)) (s:Shared) (σ:St) (H:Hp) (vs:List V) (us:List Value) (Q:St→Hp→Prop),Inv X pins σ H s→Vals vs us→t vs σ H Q →
  wpAny (model X.prog X.w) X.A (assignInOrder ((assignEach ts X.env).map (·.2)) us) (fun _ s'=>∃ σ' H',Inv X pins σ' H' s'∧Q σ' H') X.xe s
abbrev TSet:=V→V→V→Hp→(Hp→Prop)→Prop
def PSet (X:Cx) (t:TSet):Prop :=
 ∀ (pins:List (Addr × Obj)) (s:Shared) (σ:St) (H:Hp) (o i v:V) (ov iv u:Value) (Q:Hp→Prop),Inv X pins σ H s→RelV o ov→RelV i iv→RelV v u→t o i v H Q →
  wpAny (model X.prog X.w) X.A (setItem ov iv u) (fun _ s'=>∃ H',Inv X pins σ H' s'∧Q H') X.xe s
section
variable {X:Cx} {pos:Pos}
def zU7 (i:Nat):TG:=fun v σ H Q=>Q (σ.set i (some v)) H
theorem zAr {i:Nat} {x:Str} (hN:X.N.Nodup) (hi:X.N[i]? = some x) (hx:Loc X.env.scope x) (hf:X.fn x = true∨X.env.scope.names.lookup x = some .local:=by first | exact .inl rfl | exact .inr rfl | assumption):PG X (.Name x pos) (zU7 i):=by
 intro pins s σ H v u Q I r h
 exact wpAny_assign_Name (zFd I hN hi hx r (fun s' I'=>⟨_,H,I',h⟩) hf)
def gNil:TGs:=fun vs σ H Q=>vs = []∧Q σ H
def gCons (t:TG) (u:TGs):TGs:=fun vs σ H Q=>∃ v r,vs = v :: r∧t v σ H fun σ' H'=>u r σ' H' Q
theorem zBk:PGs X [] gNil:=by
 intro pins s σ H vs us Q I r h
 obtain ⟨e,h⟩:=h
 subst e
 cases r
 exact assignInOrder_nil ⟨σ,H,I,h⟩
theorem zAw {e:Expr} {es:List Expr} {t:TG} {u:TGs} (h1:PG X e t) (h2:PGs X es u)
  (hs:(assignEach (e :: es) X.env).map (·.2) = assign e X.env :: (assignEach es X.env).map (·.2):=by rfl):PGs X (e :: es) (gCons t u):=by
 intro pins s σ H vs us Q I r h
 obtain ⟨v,vr,e1,h⟩:=h
 subst e1
 cases r with
 | cons r rr =>
  rw [hs]
  refine assignInOrder_cons (thn (h1 pins s σ H _ _ _ I r h) fun _ s1 ⟨σ1,H1,I1,q1⟩=>?_)
  exact h2 pins s1 σ1 H1 _ _ Q I1 rr q1
def gTup (K:PySem.W.Frag) (n:Nat) (t:TGs):TG:=fun v σ H Q=>∃ a xs,v = .ref a∧SqT K H a xs∧xs.length = n∧t xs σ H Q
theorem zCk {es:List Expr} {k:Nat} {t:TGs} {n:Nat} (hc:X.calm = true) (h:PGs X es t)
  (hn:(assignEach es X.env).length = n:=by rfl) (hst:(assignEach es X.env).findIdx? (·.1) = none:=by rfl):PG X (.Tuple es k pos) (gTup X.K n t):=by
 intro pins s σ H v u Q I r hw
 obtain ⟨a,xs,e1,hq,hl,hw⟩:=hw
 subst e1
 cases r
 obtain ⟨its,rv,ht,hz⟩:=I.tuple hq
 refine assign_Tuple_tuple (I.ok.hd hc) ht (by simp [hn,← hl,rv.length]) hst fun h' hx=>?_
 have I1:Inv X pins σ H { s with heap:=h' }:=I.kept (t':=s.toks) fun b o e=>hx b o (Nat.ne_of_lt (Heap.lt_size e)) e
 exact h pins _ σ H xs _ Q I1 (by simpa using rv) hw
def gSub (to ti:TE) (t:TSet):TG:=fun v σ H Q=>to σ H fun o H1=>ti σ H1 fun i H2=>t o i v H2 fun H3=>Q σ H3
theorem zKq {o i:Expr} {to ti:TE} {t:TSet} (ho:PE X o to) (hi:PE X i ti) (hs:PSet X t)
  (ha:∀ v,assign (.Subscript o i pos) X.env v = (do
   let ov ← holding [v] (eval o X.env)
   let iv ← holding [v,ov] (eval i X.env)
   standAt pos
   holding [v,ov,iv] (setItem ov iv v)
   release [v,ov,iv] []):=by intro _; rfl):PG X (.Subscript o i pos) (gSub to ti t):=by
 intro pins s σ H v u Q I r h
 rw [ha]
 refine wpAny_bind (wpAny_holding (thn (ho pins s σ H _ I h) fun ov s1 ⟨x,H1,I1,r1,q1⟩=>?_))
 refine wpAny_bind (wpAny_holding (thn (hi pins s1 σ H1 _ I1 q1) fun iv s2 ⟨y,H2,I2,r2,q2⟩=>?_))
 refine wpAny_bind (wpAny_standAt (wpAny_bind (wpAny_holding (thn (hs pins s2 σ H2 x y v ov iv u _ I2 r1 r2 r q2) fun _ s3 ⟨H3,I3,q3⟩=>?_))))
 exact wpAny_release ⟨σ,H3,I3,q3⟩
def tAsg (te:TE) (g:TG):TS:=fun D σ H=>te σ H fun x H1=>g x σ H1 D.nx
theorem zEc {tg e:Expr} {te:TE} {g:TG} (he:PE X e te) (hg:PG X tg g) (hs:swapsWithSole [tg] e pos.line X.env = pure false:=by rfl) (hw:swappedStores [tg] e X.env = pure none:=by rfl)
  (h1:(assignEach [tg] X.env).map (·.2) = [assign tg X.env]:=by rfl):PS X (.Assign [tg] e pos) (tAsg te g):=by
 intro pins s σ H D I h
 refine wpAny_Assign_stores (thn (he pins s σ H _ I h) fun v s1 ⟨x,H1,I1,r1,q1⟩=>?_) hs hw
 rw [h1]
 exact thn (hg pins s1 σ H1 x v _ I1 r1 q1) fun _ s2 q=>q
theorem zAy {i:Nat} {x:Str} {e:Expr} {te:TE} {pos':Pos} (hN:X.N.Nodup) (hi:X.N[i]? = some x) (hx:Loc X.env.scope x) (he:PE X e te) (hs:swapsWith e (some (.Name x pos')) pos.line X.env = pure false:=by rfl) (hf:X.fn x = true∨X.env.scope.names.lookup x = some .local:=by first | exact .inl rfl | exact .inr rfl | assumption) :
  PS X (.Assign [.Name x pos'] e pos) (tAsg te (zU7 i)):=by
 intro pins s σ H D I h
 refine wpAny_Assign_Name (thn (he pins s σ H _ I h) fun v s1 ⟨y,H1,I1,r1,q1⟩=>?_) hs
 exact zFd I1 hN hi hx r1 (fun s2 I2=>⟨_,H1,I2,q1⟩) hf
def tPar (i j:Nat) (ta:TA):TS:=fun D σ H=>ta σ H fun vs H1=>∃ v w,vs = [v,w]∧D.nx ((σ.set i (some v)).set j (some w)) H1
theorem ps_par {i j:Nat} {x y:Str} {a b:Expr} {ta:TA} {px py pt:Pos} {kt k2 pt2} (hc:X.calm = true) (hN:X.N.Nodup) (hi:X.N[i]? = some x) (hj:X.N[j]? = some y) (hij:i≠j)
  (hx:X.env.scope.names.lookup x = some .local) (hy:X.env.scope.names.lookup y = some .local) (ha:PA X [a,b] ta)
  (hw:swappedStores [.Tuple [.Name x px,.Name y py] kt pt] (.Tuple [a,b] k2 pt2) X.env = pure (some [x,y]))
  (hs:swapsWithSole [.Tuple [.Name x px,.Name y py] kt pt] (.Tuple [a,b] k2 pt2) pos.line X.env = pure false:=by rfl) :
  PS X (.Assign [.Tuple [.Name x px,.Name y py] kt pt] (.Tuple [a,b] k2 pt2) pos) (tPar i j ta):=by
 intro pins s σ H D I h
 rw [exec_Assign_arm]
 refine wpAny_bind (wpAny_standAt ?_)
 rw [hs]
 refine wpAny_bind (wpAny_pure ?_)
 rw [if_neg (by decide)]
 refine wpAny_bind (Tuple_ (thn (ha _ pins s σ H _ I h) fun us s1 ⟨vs,H1,I1,r1,q1⟩=>?_))
 obtain ⟨v,w,e1,q1⟩:=q1
 subst e1
 obtain ⟨u1,u2,rfl,rv,rw'⟩:∃ u1 u2,us = [u1,u2]∧RelV v u1∧RelV w u2:=by
  cases r1 with
  | cons p q =>
   cases q with
   | cons p' q' =>
    cases q'
    exact ⟨_,_,rfl,p,p'⟩
 refine wpAny_newObj_type ?_ (by show 2≤sizeLine; decide)
 have I2:Inv X pins σ H1 { s1 with heap:=s1.heap.push { cls:=.type "tuple", data:=.seq [u1,u2].toArray } }:=I1.kept (t':=s1.toks) fun b o e=>Heap.get?_push_of_some _ e
 rw [hw]
 refine wpAny_bind (wpAny_pure ?_)
 show wpAny (model X.prog X.w) X.A (do rule "assign.swapped-stores"; let items ← unpackItems (.ref s1.heap.objs.size) 2 none; assignInOrder [fun v=>bindName X.env y v,fun v=>bindName X.env x v] items.reverse; pure Flow.next) _ _ _
 refine wpAny_bind (wpAny_rule (wpAny_bind (unpackItems_tuple (items:=#[u1,u2]) (I.ok.hd hc) (IsTup.new s1.heap _) fun h' hx'=>?_)))
 have I3:=I2.kept (h':=h') (t':=s1.toks) fun b o e=>hx' b o (Nat.ne_of_lt (Heap.lt_size e)) e
 show wpAny _ _ (assignInOrder [fun v=>bindName X.env y v,fun v=>bindName X.env x v] [u2,u1] >>= fun _=>pure Flow.next) _ _ _
 refine wpAny_bind (assignInOrder_cons (wpAny_bindName (zFd I3 hN hj (.inl hy) rw' (fun s2 I4=>?_) (.inr hy))))
 refine assignInOrder_cons (wpAny_bindName (zFd I4 hN hi (.inl hx) rv (fun s3 I5=>assignInOrder_nil (wpAny_pure ?_)) (.inr hx)))
 rw [List.set_comm _ _ (Ne.symm hij)] at I5
 exact ⟨_,H1,I5,q1⟩
end

section
variable {X:Cx} {pos:Pos}
def zUa (c:TT) (tb:TS):TS:=fun D σ H=>∃ W:Nat→St→Hp→Prop,(∃ m,W m σ H)∧∀ m σ H,W m σ H →
 c σ H fun b H1=>if b = true then ∃ N:St→Hp→Prop,(∀ σ' H',N σ' H'→∃ m',m' < m∧W m' σ' H')∧tb { D with nx:=N,ct:=N,bk:=D.nx } σ H1 else D.nx σ H1
theorem zIu {c:Expr} {body:List Stmt} {tc:TT} {tb:TS} (hp:PassesOwn (model X.prog X.w) X.A X.env X.xe) (hc:PT X c tc) (hb:PSs X body tb):PS X (.While c body [] pos) (zUa tc tb):=by
 intro pins s σ H D I h
 obtain ⟨W,⟨m0,w0⟩,turn⟩:=h
 refine wpAny_While (codeAny_whileLoop (fun n s'=>∃ σ' H',Inv X pins σ' H' s'∧W n σ' H') ?_ m0 ⟨σ,H,I,w0⟩)
 rintro n s1 ⟨σ1,H1,I1,w1⟩
 refine wpAny_passesOwn hp (thn (hc pins s1 σ1 H1 _ I1 (turn n σ1 H1 w1)) fun b s2 ⟨H2,I2,q2⟩=>?_)
 cases b with
 | true =>
  obtain ⟨N,hN,q2⟩:=q2
  rw [if_pos rfl]
  refine wpAny_passesOwn hp (thn (hb pins s2 σ1 H2 _ I2 q2) fun f s3 q3=>?_)
  cases f with
  | next =>
   obtain ⟨σ3,H3,I3,n3⟩:=q3
   obtain ⟨m',hm,w3⟩:=hN σ3 H3 n3
   exact ⟨m',hm,σ3,H3,I3,w3⟩
  | cont =>
   obtain ⟨σ3,H3,I3,n3⟩:=q3
   obtain ⟨m',hm,w3⟩:=hN σ3 H3 n3
   exact ⟨m',hm,σ3,H3,I3,w3⟩
  | brk=>exact q3
  | ret v=>exact q3
 | false =>
  rw [if_neg Bool.false_ne_true]
  exact wpAny_execs_nil ⟨σ1,H2,I2,q2⟩
end

structure It where
 go:Nat→Hp→Prop
 yld:Nat→Hp→V→Hp→Prop
 stop:Nat→Hp→Prop
def FpOk (X:Cx) (pins:List (Addr × Obj)) (H:Hp) (b:Addr):Prop :=
 H b = none∧b≠X.env.locals∧b ∉ X.fs∧(b∈X.ex∨X.s₀.heap.objs.size≤b)∧(∀ x c,X.env.cells.lookup x = some c→c≠b)∧∀ p∈X.pn ++ pins,p.1≠b
theorem Inv.fpOk {X:Cx} {pins:List (Addr × Obj)} {σ:St} {H H':Hp} {s:Shared} {b:Addr} (I:Inv X pins σ H s) (hb:s.heap.objs.size≤b) (hn:H' b = none):FpOk X pins H' b:=by
 refine ⟨hn,Nat.ne_of_gt (Nat.lt_of_lt_of_le I.lt hb),I.nofs hb,.inr (Nat.le_trans I.sz hb),fun x c e z=>?_,fun p hp z=>?_⟩
 ·obtain ⟨v,q⟩:=I.cell x c e
  exact absurd (Nat.lt_of_lt_of_le q.lt (by rw [z]; exact hb)) (Nat.lt_irrefl _)
 ·exact absurd (Nat.lt_of_lt_of_le (Heap.lt_size (I.pin p hp).1) (by rw [z]; exact hb)) (Nat.lt_irrefl _)
structure Turn (P:Program) (w:World) (K:PySem.W.Frag) (tg:Expr) (J:It) (fp:List Addr) (it:Addr) (tn:Nat→Heap→Prop):Prop where
 mem:it∈fp
 obj:∀ i h,tn i h→∀ b∈fp,∃ o,h.get? b = some o∧∀ v,o.data≠.cell v
 keep:∀ i h h',tn i h→(∀ b∈fp,∀ o,h.get? b = some o→h'.get? b = some o)→tn i h'
 item:∀ (X:Cx),X.prog = P→X.w = w→X.K = K→X.calm = true→∀ (i:Nat) (pins:List (Addr × Obj)) (s:Shared) (σ:St) (H:Hp) (E:Value→Shared→Prop),Inv X pins σ H s→(∀ b∈fp,FpOk X pins H b)→tn i s.heap→J.go i H →
  wpAny (model P w) X.A (pyNext (.ref it)) (fun r s1=>∃ u,r = some u ∧
   wpAny (model P w) X.A (letOwnedTupleGo tg (.ref it) u) (fun _ s2=>∃ x H',Inv X pins σ H' s2∧RelV x u∧J.yld i H x H'∧tn (i + 1) s2.heap∧∀ b∈fp,H' b = none) E s1) E s
 done:∀ (X:Cx),X.prog = P→X.w = w→X.K = K→X.calm = true→∀ (i:Nat) (pins:List (Addr × Obj)) (s:Shared) (σ:St) (H:Hp) (E:Value→Shared→Prop),Inv X pins σ H s→(∀ b∈fp,FpOk X pins H b)→tn i s.heap→J.stop i H →
  wpAny (model P w) X.A (pyNext (.ref it)) (fun r s1=>r = none∧Inv X pins σ H s1) E s
 self:∀ (A:Around) (i:Nat) (s:Shared) (Q:Value→Shared→Prop) (E:Value→Shared→Prop),tn i s.heap→Q (.ref it) s→wpAny (model P w) A (pyIter (.ref it)) Q E s
abbrev TI:=St→Hp→(It→Hp→Prop)→Prop
def PIE (X:Cx) (pins:List (Addr × Obj)) (σ:St) (tg:Expr) (R:It→Hp→Prop) (itv:Value) (s2:Shared):Prop :=
 ∃ (it:Addr) (fp:List Addr) (tn:Nat→Heap→Prop) (J:It) (H':Hp),itv = .ref it∧Inv X pins σ H' s2∧Turn X.prog X.w X.K tg J fp it tn∧tn 0 s2.heap∧(∀ b∈fp,FpOk X pins H' b)∧R J H'
def PI (X:Cx) (tg iter:Expr) (wi:TI):Prop :=
 ∀ (pins:List (Addr × Obj)) (s:Shared) (σ:St) (H:Hp) (R:It→Hp→Prop),Inv X pins σ H s→wi σ H R →
  wpAny (model X.prog X.w) X.A (eval iter X.env) (fun v s1=>wpAny (model X.prog X.w) X.A (pyIter v) (PIE X pins σ tg R) X.xe s1) X.xe s

theorem zU9 {M:Model} {A:Around} {E:Value→Shared→Prop} {s:Shared} {tg:Expr} {it:Addr} {u:Value} {o:Obj} {n:String} {vs:Array Value} {Q:Unit→Shared→Prop} (ho:s.heap.get? it = some o) (hc:o.cls = .type n) (hd:o.data = .fields vs)
  (hn:["enumerate", "zip", "dict_itemiterator", "dict_reverseitemiterator", "odict_iterator", "itertools.zip_longest", "itertools.pairwise"].contains n = false) (hQ:Q () s):wpAny M A (letOwnedTupleGo tg (.ref it) u) Q E s:=by
 unfold letOwnedTupleGo
 cases tg <;> first
  | exact wpAny_pure hQ
  | (cases u <;> first
    | exact wpAny_pure hQ
    | (refine wpAny_bind (wpAny_load ho ?_)
       rw [hc,hd]
       show wpAny M A (if (["enumerate", "zip", "dict_itemiterator", "dict_reverseitemiterator", "odict_iterator", "itertools.zip_longest", "itertools.pairwise"].contains n && vs[0]? == some (rawInt _)) = true then _ else _) Q E s
       rw [if_neg (by intro h; rw [hn,Bool.false_and] at h; cases h)]
       exact wpAny_pure hQ))

def Itl (K:PySem.W.Frag) (a:Addr):It :=
 ⟨fun i H=>∃ xs x,SqL K H a xs∧xs[i]? = some x,fun i H x H'=>H' = H∧∀ xs,SqL K H a xs→xs[i]? = some x,fun i H=>∃ xs,SqL K H a xs∧xs.length≤i⟩
def Itt (K:PySem.W.Frag) (a:Addr):It :=
 ⟨fun i H=>∃ xs x,SqT K H a xs∧xs[i]? = some x,fun i H x H'=>H' = H∧∀ xs,SqT K H a xs→xs[i]? = some x,fun i H=>∃ xs,SqT K H a xs∧xs.length≤i⟩
def Itr (lo:Int) (n:Nat):It:=⟨fun i _=>i < n,fun i H x H'=>H' = H∧x = .int (lo + i),fun i _=>n≤i⟩
theorem zMx {P:Program} {w:World} {K:PySem.W.Frag} {tg:Expr} (a it:Addr):Turn P w K tg (Itl K a) [it] it (fun i h=>h.IsListIter it a i) where
 mem:=by simp
 obj:=fun i h st b hb=>by
  have e:b = it:=by simpa using hb
  subst e
  obtain ⟨o,e,c,d⟩:=st
  exact ⟨o,e,fun v z=>by rw [d] at z; cases z⟩
 keep:=fun i h h' st k=>st.at fun o e=>k it (by simp) o e
 item:=by
  intro X hP hw hK hc i pins s σ H E I hf st hg
  subst hP hw hK
  obtain ⟨xs,x,hq,hx⟩:=hg
  obtain ⟨its,rv,p,hz⟩:=I.list hq
  obtain ⟨u,hu,ru⟩:=rv.get hx
  obtain ⟨f0,f1,f2,f3,f4,f5⟩:=hf it (by simp)
  refine wpAny_pyNext_list_item st p.isList (x:=u) (by simpa using hu) fun h' st' sb=>?_
  have I1:Inv X pins σ H { s with heap:=h' }:=I.turned (t':=s.toks) (fun b o hb e=>(sb.2 b hb).trans e) f0 f1 f3 f4 f5
  obtain ⟨o,e,c,d⟩:=id st'
  exact ⟨u,rfl,zU9 (s:={ s with heap:=h' }) e c d (by decide) ⟨x,H,I1,ru,⟨rfl,fun ys hy=>by rw [I.list_inj hy hq]; exact hx⟩,st',fun b hb=>(hf b hb).1⟩⟩
 done:=by
  intro X hP hw hK hc i pins s σ H E I hf st hg
  subst hP hw hK
  obtain ⟨xs,hq,hx⟩:=hg
  obtain ⟨its,rv,p,hz⟩:=I.list hq
  obtain ⟨f0,f1,f2,f3,f4,f5⟩:=hf it (by simp)
  have hl:=rv.length
  exact wpAny_pyNext_list_end (I.ok.hd hc) st p.isList (by simp; omega) fun h' eb=>⟨rfl,I.turned (t':=s.toks) (fun b o hb e=>eb b o hb e) f0 f1 f3 f4 f5⟩
 self:=fun _ _ _ _ _ st h=>wpAny_pyIter_listiter st h
theorem zOz {P:Program} {w:World} {K:PySem.W.Frag} {tg:Expr} (a it:Addr):Turn P w K tg (Itt K a) [it] it (fun i h=>h.IsTupleIter it a i) where
 mem:=by simp
 obj:=fun i h st b hb=>by
  have e:b = it:=by simpa using hb
  subst e
  obtain ⟨o,e,c,d⟩:=st
  exact ⟨o,e,fun v z=>by rw [d] at z; cases z⟩
 keep:=fun i h h' st k=>st.at fun o e=>k it (by simp) o e
 item:=by
  intro X hP hw hK hc i pins s σ H E I hf st hg
  subst hP hw hK
  obtain ⟨xs,x,hq,hx⟩:=hg
  obtain ⟨its,rv,p,hz⟩:=I.tuple hq
  obtain ⟨u,hu,ru⟩:=rv.get hx
  obtain ⟨f0,f1,f2,f3,f4,f5⟩:=hf it (by simp)
  refine wpAny_pyNext_tuple_item st (show s.heap.IsTuple a its.toArray from p) (x:=u) (by simpa using hu) fun h' st' sb=>?_
  have I1:Inv X pins σ H { s with heap:=h' }:=I.turned (t':=s.toks) (fun b o hb e=>(sb.2 b hb).trans e) f0 f1 f3 f4 f5
  obtain ⟨o,e,c,d⟩:=id st'
  exact ⟨u,rfl,zU9 (s:={ s with heap:=h' }) e c d (by decide) ⟨x,H,I1,ru,⟨rfl,fun ys hy=>by rw [I.tuple_inj hy hq]; exact hx⟩,st',fun b hb=>(hf b hb).1⟩⟩
 done:=by
  intro X hP hw hK hc i pins s σ H E I hf st hg
  subst hP hw hK
  obtain ⟨xs,hq,hx⟩:=hg
  obtain ⟨its,rv,p,hz⟩:=I.tuple hq
  obtain ⟨f0,f1,f2,f3,f4,f5⟩:=hf it (by simp)
  have hl:=rv.length
  exact wpAny_pyNext_tuple_end (I.ok.hd hc) st (show s.heap.IsTuple a its.toArray from p) (by simp; omega) fun h' eb=>⟨rfl,I.turned (t':=s.toks) (fun b o hb e=>eb b o hb e) f0 f1 f3 f4 f5⟩
 self:=fun _ _ _ _ _ st h=>wpAny_pyIter_tupleiter st h
theorem zPu {P:Program} {w:World} {K:PySem.W.Frag} {tg:Expr} (it:Addr) (lo:Int) (n:Nat):Turn P w K tg (Itr lo n) [it] it (fun i h=>IsRangeIter h it (lo + (i:Nat) * 1) ((n:Int) - (i:Nat)) 1) where
 mem:=by simp
 obj:=fun i h st b hb=>by
  have e:b = it:=by simpa using hb
  subst e
  exact ⟨_,st,fun v z=>by
   have z':Data.fields _ = Data.cell v:=z
   cases z'⟩
 keep:=fun i h h' st k=>k it (by simp) _ st
 item:=by
  intro X hP hw hK hc i pins s σ H E I hf st hg
  subst hP hw hK
  obtain ⟨f0,f1,f2,f3,f4,f5⟩:=hf it (by simp)
  have W:=Walks.range (prog:=X.prog) (w:=X.w) (I.ok.hd hc) it lo 1 n
  refine W.item i s _ _ hg st fun v h' tk hv st' kk=>?_
  obtain ⟨t,rfl⟩:=hv
  have I1:Inv X pins σ H { s with heap:=h',toks:=tk }:=I.turned (fun b o hb e=>kk b o (by simpa using hb) e) f0 f1 f3 f4 f5
  refine ⟨_,rfl,zU9 (s:={ s with heap:=h',toks:=tk }) (n := "range_iterator") st' rfl rfl (by decide) ⟨.int (lo + i),H,I1,⟨t,?_⟩,⟨rfl,rfl⟩,st',fun b hb=>(hf b hb).1⟩⟩
  rw [Int.mul_one]
 done:=by
  intro X hP hw hK hc i pins s σ H E I hf st hg
  subst hP hw hK
  obtain ⟨f0,f1,f2,f3,f4,f5⟩:=hf it (by simp)
  exact wpAny_pyNext_range_end (I.ok.hd hc) st (by have:n≤i:=hg; omega) fun h' eb=>⟨rfl,I.turned (t':=s.toks) (fun b o hb e=>eb b o hb e) f0 f1 f3 f4 f5⟩
 self:=fun _ _ _ _ _ st h=>wpAny_pyIter_rangeiter st h
end L2

namespace L2
open PySem PySem.Spec PyProof.Rows
section
variable {X:Cx} {tg:Expr}
def iList (K:PySem.W.Frag) (tl:TE):TI:=fun σ H R=>tl σ H fun x H1=>∃ a,x = .ref a∧(∃ xs,SqL K H1 a xs)∧R (Itl K a) H1
theorem zJm {l:Expr} {tl:TE} (hl:PE X l tl):PI X tg l (iList X.K tl):=by
 intro pins s σ H R I h
 refine thn (hl pins s σ H _ I h) fun v s1 ⟨x,H1,I1,r1,q1⟩=>?_
 obtain ⟨a,e,⟨xs,hq⟩,q⟩:=q1
 subst e
 cases r1
 obtain ⟨its,rv,p,hz⟩:=I1.list hq
 refine wpAny_pyIter_list p.isList ?_
 refine ⟨s1.heap.objs.size,[s1.heap.objs.size],_,_,H1,rfl,I1.kept (t':=s1.toks) fun b o e=>Heap.get?_push_of_some _ e,zMx a _,⟨_,Heap.get?_push_size _ rfl,rfl,rfl⟩,fun b hb=>?_,q⟩
 have e:b = s1.heap.objs.size:=by simpa using hb
 subst e
 exact I1.fpOk (Nat.le_refl _) (I1.hok.fresh (Nat.le_refl _))
theorem zS4 {pins:List (Addr × Obj)} {σ:St} {H:Hp} {s:Shared} {R:It→Hp→Prop} {E:Value→Shared→Prop} {lo hi:Int} {t u v:Tok} {tk:Nat} (I:Inv X pins σ H s) (h1 : -(2 ^ 62)≤lo) (h2:lo < 2 ^ 62) (h3 : -(2 ^ 62)≤hi) (h4:hi < 2 ^ 62)
  (q:R (Itr lo (hi - lo).toNat) H):wpAny (model X.prog X.w) X.A (pyIter (.ref s.heap.objs.size)) (PIE X pins σ tg R) E { s with heap:=s.heap.push { cls:=.type "range", data:=.fields #[.int lo t,.int hi u,.int 1 v] },toks:=tk }:=by
 refine wpAny_pyIter_range (IsRange.new ..) (small_one h1 h2 h3 h4) ?_
 have I1:Inv X pins σ H { s with heap:=s.heap.push { cls:=.type "range", data:=.fields #[.int lo t,.int hi u,.int 1 v] },toks:=tk }:=I.kept fun b o e=>Heap.get?_push_of_some _ e
 refine ⟨(s.heap.push { cls:=.type "range", data:=.fields #[.int lo t,.int hi u,.int 1 v] }).objs.size,[(s.heap.push { cls:=.type "range", data:=.fields #[.int lo t,.int hi u,.int 1 v] }).objs.size],_,_,H,rfl,
  I1.kept (t':=tk) fun b o e=>Heap.get?_push_of_some _ e,zPu _ lo (hi - lo).toNat,?_,fun b hb=>?_,q⟩
 ·have e1:lo + ((0:Nat):Int) * 1 = lo:=by simp
  have e2:(((hi - lo).toNat:Nat):Int) - ((0:Nat):Int) = Builtin.Range.rangeSize lo hi 1:=by rw [rangeSize_one]; split <;> omega
  show IsRangeIter _ _ (lo + ((0:Nat):Int) * 1) ((((hi - lo).toNat:Nat):Int) - ((0:Nat):Int)) 1
  rw [e1,e2]
  exact Heap.get?_push_size _ rfl
 ·have e:b = (s.heap.push { cls:=.type "range", data:=.fields #[.int lo t,.int hi u,.int 1 v] }).objs.size:=by simpa using hb
  subst e
  exact I1.fpOk (Nat.le_refl _) (I1.hok.fresh (Nat.le_refl _))
def iRng1 (ta:TA):TI:=fun σ H R=>ta σ H fun vs H1=>∃ j:Int,vs = [.int j]∧-(2 ^ 62)≤j∧j < 2 ^ 62∧R (Itr 0 j.toNat) H1
theorem zC9 {a:Expr} {ta:TA} {p pos:Pos} (hg:Gl X "range") (hm:X.mg "range" = none) (ha:PA X [a] ta) (hs:starEach [a] X.env = [(false,eval a X.env)]:=by rfl):PI X tg (.Call (.Name "range" p) [a] [] pos) (iRng1 ta):=by
 intro pins s σ H R I h
 refine Call_ (zKi I hg hm boot_range (PyProof.Rows.callWith_type1 (thn (ha pos pins s σ H _ I h) fun us s1 ⟨vs,H1,I1,r1,q1⟩=>?_) hs rfl))
 obtain ⟨j,e,q1,q2,q⟩:=q1
 subst e
 cases r1 with
 | cons r rr =>
  cases rr
  obtain ⟨t,rfl⟩:=r
  exact call_range_1 (zS4 I1 (by omega) (by omega) q1 q2 (by simpa using q))
def tFor (wi:TI) (g:TG) (tb:TS):TS:=fun D σ H=>wi σ H fun J H1=>∃ W:Nat→Nat→St→Hp→Prop,(∃ m,W 0 m σ H1)∧∀ i m σ H,W i m σ H →
 (J.stop i H∧D.nx σ H)∨(J.go i H∧∃ N:St→Hp→Prop,(∀ σ' H',N σ' H'→∃ m',m' < m∧W (i + 1) m' σ' H')∧∀ x H',J.yld i H x H'→g x σ H' fun σ2 H2=>tb { D with nx:=N,ct:=N,bk:=D.nx } σ2 H2)
def zKs (fp:List Addr) (h:Heap):List (Addr × Obj):=fp.filterMap fun b=>(h.get? b).map fun o=>(b,o)
theorem zEa {fp:List Addr} {h:Heap} {b:Addr} {o:Obj} (hb:b∈fp) (e:h.get? b = some o):(b,o)∈zKs fp h:=List.mem_filterMap.mpr ⟨b,hb,by rw [e]; rfl⟩
theorem zR4 {fp:List Addr} {h:Heap} {p:Addr × Obj} (hp:p∈zKs fp h):p.1∈fp∧h.get? p.1 = some p.2:=by
 obtain ⟨b,hb,e⟩:=List.mem_filterMap.mp hp
 cases q:h.get? b with
 | none=>rw [q] at e; cases e
 | some o =>
  rw [q] at e
  have e':(b,o) = p:=Option.some.inj e
  subst e'
  exact ⟨hb,q⟩
theorem Inv.pinned {pins:List (Addr × Obj)} {σ:St} {H:Hp} {s:Shared} {fp:List Addr} (I:Inv X pins σ H s) (hf:∀ b∈fp,FpOk X pins H b) (ho:∀ b∈fp,∃ o,s.heap.get? b = some o∧∀ v,o.data≠.cell v):Inv X (pins ++ zKs fp s.heap) σ H s :=
 I.pins_of fun p hp=>(List.mem_append.mp hp).elim (fun z=>I.pin p (List.mem_append_right _ z)) fun z=>by
  obtain ⟨hb,e⟩:=zR4 z
  obtain ⟨f0,f1,f2,_⟩:=hf p.1 hb
  obtain ⟨o,e',d⟩:=ho p.1 hb
  rw [e] at e'; cases e'
  exact ⟨e,f0,f1,f2,d⟩
theorem Inv.unpinned {pins pl:List (Addr × Obj)} {σ:St} {H:Hp} {s:Shared} (I:Inv X (pins ++ pl) σ H s):Inv X pins σ H s:=I.pins_of fun p hp=>I.pin p (List.mem_append_right _ (List.mem_append_left _ hp))
theorem zCv {iter:Expr} {body:List Stmt} {wi:TI} {g:TG} {tb:TS} {pos:Pos} (hp:PassesOwn (model X.prog X.w) X.A X.env X.xe) (hc:X.calm = true) (hi:PI X tg iter wi) (hg:PG X tg g) (hb:PSs X body tb)
  (hs:∀ x,foldedSetIterable iter X.env x = pure x:=by intro _; rfl):PS X (.For tg iter body [] pos) (tFor wi g tb):=by
 intro pins s σ H D I h
 refine wpAny_For (thn (hi pins s σ H _ I h) fun v s1 h1=>thn h1 fun itv s2 h2=>?_) hs
 obtain ⟨it,fp,tn,J,H2,e,I2,T,st2,f2,W,⟨m0,w0⟩,turn⟩:=h2
 subst e
 have stat:∀ {H':Hp},(∀ b∈fp,H' b = none)→∀ b∈fp,FpOk X pins H' b:=fun hn b hb=>⟨hn b hb,(f2 b hb).2⟩
 refine codeAny_forLoop_any (fun n s'=>∃ i σ' H',Inv X pins σ' H' s'∧tn i s'.heap∧(∀ b∈fp,H' b = none)∧W i n σ' H') ?_ m0 ⟨0,σ,H2,I2,st2,fun b hb=>(f2 b hb).1,w0⟩
 rintro n s3 ⟨i,σ3,H3,I3,st3,fr3,w3⟩
 rcases turn i n σ3 H3 w3 with ⟨stop,qn⟩ | ⟨go,N,hN,step⟩
 ·refine wpAny_passesOwn hp (thn (T.done X rfl rfl rfl hc i pins s3 σ3 H3 X.xe I3 (stat fr3) st3 stop) fun r s4 ⟨hr,I4⟩=>?_)
  subst hr
  exact wpAny_execs_nil ⟨σ3,H3,I4,qn⟩
 ·refine wpAny_passesOwn hp (thn (T.item X rfl rfl rfl hc i pins s3 σ3 H3 X.xe I3 (stat fr3) st3 go) fun r s4 ⟨u,hr,h4⟩=>?_)
  subst hr
  refine wpAny_passesOwn hp (thn h4 fun _ s5 ⟨x,H5,I5,r5,y5,st5,fr5⟩=>?_)
  have I5':=I5.pinned (stat fr5) (T.obj _ _ st5)
  refine wpAny_passesOwn hp (thn (hg _ s5 σ3 H5 x u _ I5' r5 (step x H5 y5)) fun _ s6 ⟨σ6,H6,I6,q6⟩=>?_)
  refine wpAny_passesOwn hp (thn (hb _ s6 σ6 H6 _ I6 q6) fun f s7 q7=>?_)
  have again:∀ {σ7:St} {H7:Hp},Inv X (pins ++ zKs fp s5.heap) σ7 H7 s7→N σ7 H7→∃ m,m < n∧∃ i σ' H',Inv X pins σ' H' s7∧tn i s7.heap∧(∀ b∈fp,H' b = none)∧W i m σ' H':=fun {σ7 H7} I7 n7=>by
   obtain ⟨m',hm,w7⟩:=hN σ7 H7 n7
   refine ⟨m',hm,i + 1,σ7,H7,I7.unpinned,T.keep _ _ _ st5 fun b hb o e=>(I7.pin (b,o) (List.mem_append_right _ (List.mem_append_right _ (zEa hb e)))).1,fun b hb=>?_,w7⟩
   obtain ⟨o,e,d⟩:=T.obj _ _ st5 b hb
   exact (I7.pin (b,o) (List.mem_append_right _ (List.mem_append_right _ (zEa hb e)))).2.1
  cases f with
  | next=>obtain ⟨σ7,H7,I7,n7⟩:=q7; exact again I7 n7
  | cont=>obtain ⟨σ7,H7,I7,n7⟩:=q7; exact again I7 n7
  | brk=>obtain ⟨σ7,H7,I7,q7⟩:=q7; exact ⟨σ7,H7,I7.unpinned,q7⟩
  | ret v=>obtain ⟨x7,σ7,H7,I7,r7,q7⟩:=q7; exact ⟨x7,σ7,H7,I7.unpinned,r7,q7⟩
end

theorem zCg {K:PySem.W.Frag} {a:Addr} {xs:List V} {g:TG} {tb:TS} {D:Ends} {σ:St} {H:Hp} (Pv:Nat→St→Hp→Prop) (h0:Pv 0 σ H) (hl:∀ i σ H,i≤xs.length→Pv i σ H→SqL K H a xs)
  (hs:∀ i x σ H,xs[i]? = some x→Pv i σ H→g x σ H fun σ2 H2=>tb { D with nx:=Pv (i + 1),ct:=Pv (i + 1),bk:=D.nx } σ2 H2) (hd:∀ σ H,Pv xs.length σ H→D.nx σ H) :
  ∃ W:Nat→Nat→St→Hp→Prop,(∃ m,W 0 m σ H)∧∀ i m σ H,W i m σ H →
   ((Itl K a).stop i H∧D.nx σ H)∨((Itl K a).go i H∧∃ N:St→Hp→Prop,(∀ σ' H',N σ' H'→∃ m',m' < m∧W (i + 1) m' σ' H')∧∀ x H',(Itl K a).yld i H x H'→g x σ H' fun σ2 H2=>tb { D with nx:=N,ct:=N,bk:=D.nx } σ2 H2):=by
 refine ⟨fun i m σ H=>m = xs.length - i∧i≤xs.length∧Pv i σ H,⟨xs.length,by simp,Nat.zero_le _,h0⟩,?_⟩
 rintro i m σ H ⟨rfl,hi,p⟩
 have q:=hl i σ H hi p
 by_cases hlt:i < xs.length
 ·refine .inr ⟨⟨xs,xs[i],q,by simp [hlt]⟩,Pv (i + 1),fun σ' H' p'=>⟨xs.length - (i + 1),by omega,rfl,hlt,p'⟩,fun x H' y=>?_⟩
  obtain ⟨e,y⟩:=y
  subst e
  exact hs i x σ _ (y xs q) p
 ·have e:i = xs.length:=by omega
  subst e
  exact .inl ⟨⟨xs,q,Nat.le_refl _⟩,hd σ H p⟩
theorem zUz {K:PySem.W.Frag} {a:Addr} {xs:List V} {g:TG} {tb:TS} {D:Ends} {σ:St} {H:Hp} (Pv:Nat→St→Hp→Prop) (h0:Pv 0 σ H) (hl:∀ i σ H,i≤xs.length→Pv i σ H→SqT K H a xs)
  (hs:∀ i x σ H,xs[i]? = some x→Pv i σ H→g x σ H fun σ2 H2=>tb { D with nx:=Pv (i + 1),ct:=Pv (i + 1),bk:=D.nx } σ2 H2) (hd:∀ σ H,Pv xs.length σ H→D.nx σ H) :
  ∃ W:Nat→Nat→St→Hp→Prop,(∃ m,W 0 m σ H)∧∀ i m σ H,W i m σ H →
   ((Itt K a).stop i H∧D.nx σ H)∨((Itt K a).go i H∧∃ N:St→Hp→Prop,(∀ σ' H',N σ' H'→∃ m',m' < m∧W (i + 1) m' σ' H')∧∀ x H',(Itt K a).yld i H x H'→g x σ H' fun σ2 H2=>tb { D with nx:=N,ct:=N,bk:=D.nx } σ2 H2):=by
 refine ⟨fun i m σ H=>m = xs.length - i∧i≤xs.length∧Pv i σ H,⟨xs.length,by simp,Nat.zero_le _,h0⟩,?_⟩
 rintro i m σ H ⟨rfl,hi,p⟩
 have q:=hl i σ H hi p
 by_cases hlt:i < xs.length
 ·refine .inr ⟨⟨xs,xs[i],q,by simp [hlt]⟩,Pv (i + 1),fun σ' H' p'=>⟨xs.length - (i + 1),by omega,rfl,hlt,p'⟩,fun x H' y=>?_⟩
  obtain ⟨e,y⟩:=y
  subst e
  exact hs i x σ _ (y xs q) p
 ·have e:i = xs.length:=by omega
  subst e
  exact .inl ⟨⟨xs,q,Nat.le_refl _⟩,hd σ H p⟩
theorem zEy {lo:Int} {n:Nat} {g:TG} {tb:TS} {D:Ends} {σ:St} {H:Hp} (Pv:Nat→St→Hp→Prop) (h0:Pv 0 σ H)
  (hs:∀ i σ H,i < n→Pv i σ H→g (.int (lo + i)) σ H fun σ2 H2=>tb { D with nx:=Pv (i + 1),ct:=Pv (i + 1),bk:=D.nx } σ2 H2) (hd:∀ σ H,Pv n σ H→D.nx σ H) :
  ∃ W:Nat→Nat→St→Hp→Prop,(∃ m,W 0 m σ H)∧∀ i m σ H,W i m σ H →
   ((Itr lo n).stop i H∧D.nx σ H)∨((Itr lo n).go i H∧∃ N:St→Hp→Prop,(∀ σ' H',N σ' H'→∃ m',m' < m∧W (i + 1) m' σ' H')∧∀ x H',(Itr lo n).yld i H x H'→g x σ H' fun σ2 H2=>tb { D with nx:=N,ct:=N,bk:=D.nx } σ2 H2):=by
 refine ⟨fun i m σ H=>m = n - i∧i≤n∧Pv i σ H,⟨n,by simp,Nat.zero_le _,h0⟩,?_⟩
 rintro i m σ H ⟨rfl,hi,p⟩
 by_cases hlt:i < n
 ·refine .inr ⟨hlt,Pv (i + 1),fun σ' H' p'=>⟨n - (i + 1),by omega,rfl,hlt,p'⟩,fun x H' y=>?_⟩
  obtain ⟨e,y⟩:=y
  subst e y
  exact hs i σ _ hlt p
 ·have e:i = n:=by omega
  subst e
  exact .inl ⟨Nat.le_refl _,hd σ H p⟩
theorem zHv {c:TT} {tb:TS} {D:Ends} {σ:St} {H:Hp} (Pv:St→Hp→Prop) (μ:St→Hp→Nat) (h0:Pv σ H)
  (hs:∀ σ H,Pv σ H→c σ H fun b H1=>if b = true then tb { D with nx:=fun σ' H'=>Pv σ' H'∧μ σ' H' < μ σ H,ct:=fun σ' H'=>Pv σ' H'∧μ σ' H' < μ σ H,bk:=D.nx } σ H1 else D.nx σ H1)
  (mono:∀ σ H Q Q',(∀ b H1,Q b H1→Q' b H1)→c σ H Q→c σ H Q'):zUa c tb D σ H:=by
 refine ⟨fun m σ H=>m = μ σ H∧Pv σ H,⟨_,rfl,h0⟩,?_⟩
 rintro m σ H ⟨rfl,p⟩
 refine mono σ H _ _ (fun b H1 q=>?_) (hs σ H p)
 cases b with
 | true=>exact ⟨_,fun σ' H' ⟨p',l⟩=>⟨_,l,rfl,p'⟩,q⟩
 | false=>exact q
end L2

namespace L2
open PySem PySem.Spec PyProof.Rows

abbrev R2:=V→V→Hp→VK→Prop
def OpR (X:Cx) (f:Value→Value→Sem Value) (r:R2):Prop :=
 ∀ (pins:List (Addr × Obj)) (s:Shared) (σ:St) (H:Hp) (x y:V) (v u:Value) (Q:VK),Inv X pins σ H s→RelV x v→RelV y u→r x y H Q →
  wpAny (model X.prog X.w) X.A (f v u) (EP X pins σ Q) X.xe s
def UnR (X:Cx) (f:Value→Sem Value) (r:V→Hp→VK→Prop):Prop :=
 ∀ (pins:List (Addr × Obj)) (s:Shared) (σ:St) (H:Hp) (x:V) (v:Value) (Q:VK),Inv X pins σ H s→RelV x v→r x H Q →
  wpAny (model X.prog X.w) X.A (f v) (EP X pins σ Q) X.xe s
def zH3 (X:Cx) (f:Value) (r:List V→Hp→VK→Prop):Prop :=
 ∀ (pins:List (Addr × Obj)) (s:Shared) (σ:St) (H:Hp) (xs:List V) (us:List Value) (Q:VK),Inv X pins σ H s→Vals xs us→r xs H Q →
  wpAny (model X.prog X.w) X.A (call f us) (EP X pins σ Q) X.xe s
def TruR (X:Cx) (r:V→Hp→(Bool→Hp→Prop)→Prop):Prop :=
 ∀ (pins:List (Addr × Obj)) (s:Shared) (σ:St) (H:Hp) (x:V) (v:Value) (Q:Bool→Hp→Prop),Inv X pins σ H s→RelV x v→r x H Q →
  wpAny (model X.prog X.w) X.A (truthy v) (TP X pins σ Q) X.xe s

def tOp (r:R2) (ta tb:TE):TE:=fun σ H Q=>ta σ H fun x H1=>tb σ H1 fun y H2=>r x y H2 Q
def tUn (r:V→Hp→VK→Prop) (ta:TE):TE:=fun σ H Q=>ta σ H fun x H1=>r x H1 Q
inductive RI (C:Int→Int→Prop) (g:Int→Int→V) (x y:V) (H:Hp) (Q:VK):Prop where
 | mk (i j:Int) (ex:x = .int i) (ey:y = .int j) (c:C i j) (q:Q (g i j) H)
def rI (C:Int→Int→Prop) (g:Int→Int→V):R2:=fun x y H Q=>RI C g x y H Q
inductive RI0 (g:Int→Int→V) (x y:V) (H:Hp) (Q:VK):Prop where
 | mk (i j:Int) (ex:x = .int i) (ey:y = .int j) (q:Q (g i j) H)
def rI0 (g:Int→Int→V):R2:=fun x y H Q=>RI0 g x y H Q
inductive RU (g:Int→V) (x:V) (H:Hp) (Q:VK):Prop where
 | mk (i:Int) (ex:x = .int i) (q:Q (g i) H)
def rU (g:Int→V):V→Hp→VK→Prop:=fun x H Q=>RU g x H Q

section
variable {X:Cx} {a b c:Expr} {ta tb tc:TE} {pos:Pos}

theorem binT (ha:PE X a ta) (hb:PE X b tb) {pins:List (Addr × Obj)} {s:Shared} {σ:St} {H:Hp} {R:V→V→Hp→Prop} (I:Inv X pins σ H s)
  (h:ta σ H fun x H1=>tb σ H1 fun y H2=>R x y H2) {Q:Value→Shared→Prop} {f:Value→Value→Sem Value}
  (hf:∀ v u s2 x y H2,Inv X pins σ H2 s2→RelV x v→RelV y u→R x y H2→wpAny (model X.prog X.w) X.A (f v u) Q X.xe s2) :
  wpAny (model X.prog X.w) X.A (eval a X.env) (fun v s₁=>wpAny (model X.prog X.w) X.A (eval b X.env) (fun u s₂=>wpAny (model X.prog X.w) X.A (f v u) Q X.xe s₂) X.xe s₁) X.xe s:=by
 refine thn (ha pins s σ H _ I h) fun v s1 ⟨x,H1,I1,r1,q1⟩=>?_
 refine thn (hb pins s1 σ H1 _ I1 q1) fun u s2 ⟨y,H2,I2,r2,q2⟩=>?_
 exact hf v u s2 x y H2 I2 r1 r2 q2

theorem zAl {op:Operator} {r:R2} (ho:OpR X (binaryOp op) r) (ha:PE X a ta) (hb:PE X b tb):PE X (.BinOp a op b pos) (tOp r ta tb):=by
 intro pins s σ H Q I h
 exact wpAny_BinOp (binT ha hb I h fun v u s2 x y H2 I2 rx ry q=>ho pins s2 σ H2 x y v u Q I2 rx ry q)
theorem zEi {op:UnaryOp} {r:V→Hp→VK→Prop} (ho:UnR X (unaryOp op) r) (ha:PE X a ta):PE X (.UnaryOp op a pos) (tUn r ta):=by
 intro pins s σ H Q I h
 exact UnaryOp_ (thn (ha pins s σ H _ I h) fun v s1 ⟨x,H1,I1,r1,q1⟩=>ho pins s1 σ H1 x v Q I1 r1 q1)
theorem opI {f:Value→Value→Sem Value} {C:Int→Int→Prop} {g:Int→Int→Int}
  (rule:∀ (i j:Int) (t u:Tok) (s:Shared) (Q:Value→Shared→Prop) (E:Value→Shared→Prop),C i j→Q (.int (g i j) s.toks) { s with toks:=s.toks + 1 }→wpAny (model X.prog X.w) X.A (f (.int i t) (.int j u)) Q E s) :
  OpR X f (rI C fun i j=>.int (g i j)):=by
 intro pins s σ H x y v u Q I rx ry h
 obtain ⟨i,j,rfl,rfl,hc,q⟩:=h
 obtain ⟨t,rfl⟩:=rx
 obtain ⟨t',rfl⟩:=ry
 exact rule i j t t' s _ _ hc ⟨.int (g i j),H,I.tok _,⟨_,rfl⟩,q⟩
theorem opI0 {f:Value→Value→Sem Value} {g:Int→Int→Int}
  (rule:∀ (i j:Int) (t u:Tok) (s:Shared) (Q:Value→Shared→Prop) (E:Value→Shared→Prop),Q (.int (g i j) s.toks) { s with toks:=s.toks + 1 }→wpAny (model X.prog X.w) X.A (f (.int i t) (.int j u)) Q E s) :
  OpR X f (rI0 fun i j=>.int (g i j)):=by
 intro pins s σ H x y v u Q I rx ry h
 obtain ⟨i,j,rfl,rfl,q⟩:=h
 obtain ⟨t,rfl⟩:=rx
 obtain ⟨t',rfl⟩:=ry
 exact rule i j t t' s _ _ ⟨.int (g i j),H,I.tok _,⟨_,rfl⟩,q⟩
theorem opB0 {f:Value→Value→Sem Value} {g:Int→Int→Bool}
  (rule:∀ (i j:Int) (t u:Tok) (s:Shared) (Q:Value→Shared→Prop) (E:Value→Shared→Prop),Q (.bool (g i j)) s→wpAny (model X.prog X.w) X.A (f (.int i t) (.int j u)) Q E s) :
  OpR X f (rI0 fun i j=>.bl (g i j)):=by
 intro pins s σ H x y v u Q I rx ry h
 obtain ⟨i,j,rfl,rfl,q⟩:=h
 obtain ⟨t,rfl⟩:=rx
 obtain ⟨t',rfl⟩:=ry
 exact rule i j t t' s _ _ ⟨.bl (g i j),H,I,rfl,q⟩

def CPow (i j:Int):Prop:=0≤j∧j≤1000000∧i.natAbs < 2 ^ 64
def CMul (i j:Int):Prop:=(-(2 ^ 64) < i∧i < 2 ^ 64)∨(-(2 ^ 64) < j∧j < 2 ^ 64)
theorem CMul.ok {i j:Int} (h:CMul i j):IntMulOk i j:=by
 rcases h with ⟨h1,h2⟩ | ⟨h1,h2⟩
 ·exact .of_left (intBits_le_64 h1 h2)
 ·exact .of_right (intBits_le_64 h1 h2)
theorem zBc:OpR X (binaryOp .Add) (rI0 fun i j=>.int (i + j)):=opI0 fun _ _ _ _ _ _ _ q=>add_int q
theorem zCe:OpR X (binaryOp .Sub) (rI0 fun i j=>.int (i - j)):=opI0 fun _ _ _ _ _ _ _ q=>sub_int q
theorem zA0:OpR X (binaryOp .Mult) (rI CMul fun i j=>.int (i * j)):=opI fun _ _ _ _ _ _ _ hc q=>mul_int q hc.ok
theorem zA7:OpR X (binaryOp .Mod) (rI (fun _ j=>0 < j) fun i j=>.int (i % j)):=opI fun i j _ _ _ _ _ hc q=>by
 have h1:(0:Int) < j:=hc
 exact mod_int' (by omega) (by rw [Int.fmod_eq_emod_of_nonneg i (by omega)]; exact q)
theorem zOc:OpR X (binaryOp .Pow) (rI CPow fun i j=>.int (i ^ j.toNat)):=opI fun _ _ _ _ _ _ _ hc q=>pow_int_small hc.1 hc.2.1 hc.2.2 q
theorem unI {f:Value→Sem Value} {g:Int→Int}
  (rule:∀ (i:Int) (t:Tok) (s:Shared) (Q:Value→Shared→Prop) (E:Value→Shared→Prop),Q (.int (g i) s.toks) { s with toks:=s.toks + 1 }→wpAny (model X.prog X.w) X.A (f (.int i t)) Q E s) :
  UnR X f (rU fun i=>.int (g i)):=by
 intro pins s σ H x v Q I rx h
 obtain ⟨i,rfl,q⟩:=h
 obtain ⟨t,rfl⟩:=rx
 exact rule i t s _ _ ⟨.int (g i),H,I.tok _,⟨_,rfl⟩,q⟩
theorem zCp:UnR X (unaryOp .USub) (rU fun i=>.int (-i)):=unI fun _ _ _ _ _ q=>neg_int q
end

def scal:V→V→Bool
 | .non,.non=>true | .non,.int _=>true | .int _,.non=>true | .non,.bl _=>true | .bl _,.non=>true | .non,.str _=>true | .str _,.non=>true
 | .int _,.int _=>true | .bl _,.bl _=>true | .str _,.str _=>true | .byt _,.byt _=>true
 | .int _,.str _=>true | .str _,.int _=>true | .bl _,.str _=>true | .str _,.bl _=>true
 | _,_=>false
def rEq:R2:=fun x y H Q=>scal x y = true∧Q (.bl (decide (x = y))) H
def rNe:R2:=fun x y H Q=>scal x y = true∧Q (.bl (!decide (x = y))) H

theorem zSi {i j:Int} : decide (V.int i = V.int j) = (i == j):=by
 rw [Bool.eq_iff_iff]
 simp
theorem zTw {i j:Bool} : decide (V.bl i = V.bl j) = (i == j):=by
 rw [Bool.eq_iff_iff]
 simp
theorem zQ6 {i j:Str} : decide (V.str i = V.str j) = (i == j):=by
 rw [Bool.eq_iff_iff]
 simp
theorem zQe {i j:Array UInt8} : decide (V.byt i = V.byt j) = (i.toList == j.toList):=by
 rw [Bool.eq_iff_iff]
 cases i
 cases j
 simp

section
variable {X:Cx} {a b c:Expr} {ta tb tc:TE} {pos:Pos}
theorem zBj {pins:List (Addr × Obj)} {σ:St} {H:Hp} {s:Shared} {Q:VK} {k k':Bool} (I:Inv X pins σ H s) (q:Q (.bl k) H) (e:k = k'):EP X pins σ Q (.bool k') s:=by
 subst e
 exact ⟨.bl k,H,I,rfl,q⟩
theorem zBu:OpR X (compareOp .Eq) rEq:=by
 intro pins s σ H x y v u Q I rx ry h
 obtain ⟨hs,q⟩:=h
 cases x with
 | non =>
  cases rx
  cases y with
  | non=>cases ry; exact PySem.EqNone.eq_none_none (zBj I q (by simp))
  | bl j=>cases ry; exact PySem.EqNone.eq_none_bool (zBj I q (by simp))
  | int j=>obtain ⟨t',rfl⟩:=ry; exact PySem.EqNone.eq_none_int (zBj I q (by simp))
  | str j=>obtain ⟨t',rfl⟩:=ry; exact PySem.EqNone.eq_none_str (zBj I q (by simp))
  | _=>exact absurd (show false = true from hs) Bool.false_ne_true
 | bl i =>
  cases rx
  cases y with
  | non=>cases ry; exact PySem.EqNone.eq_bool_none (zBj I q (by simp))
  | bl j=>cases ry; exact eq_bool (zBj I q zTw)
  | str j=>obtain ⟨t',rfl⟩:=ry; exact PySem.EqMixed.eq_bool_str (zBj I q (by simp))
  | _=>exact absurd (show false = true from hs) Bool.false_ne_true
 | int i =>
  obtain ⟨t,rfl⟩:=rx
  cases y with
  | non=>cases ry; exact PySem.EqNone.eq_int_none (zBj I q (by simp))
  | int j=>obtain ⟨t',rfl⟩:=ry; exact eq_int (zBj I q zSi)
  | str j=>obtain ⟨t',rfl⟩:=ry; exact PySem.EqMixed.eq_int_str (zBj I q (by simp))
  | _=>exact absurd (show false = true from hs) Bool.false_ne_true
 | str i =>
  obtain ⟨t,rfl⟩:=rx
  cases y with
  | non=>cases ry; exact PySem.EqNone.eq_str_none (zBj I q (by simp))
  | bl j=>cases ry; exact PySem.EqMixed.eq_str_bool (zBj I q (by simp))
  | int j=>obtain ⟨t',rfl⟩:=ry; exact PySem.EqMixed.eq_str_int (zBj I q (by simp))
  | str j=>obtain ⟨t',rfl⟩:=ry; exact eq_str (zBj I q zQ6)
  | _=>exact absurd (show false = true from hs) Bool.false_ne_true
 | byt i =>
  obtain ⟨t,rfl⟩:=rx
  cases y with
  | byt j=>obtain ⟨t',rfl⟩:=ry; exact PySem.W.eq_bytes (zBj I q zQe)
  | _=>exact absurd (show false = true from hs) Bool.false_ne_true
 | _=>cases y <;> exact absurd (show false = true from hs) Bool.false_ne_true
theorem zMk:OpR X (compareOp .NotEq) rNe:=by
 intro pins s σ H x y v u Q I rx ry h
 obtain ⟨hs,q⟩:=h
 cases x with
 | non =>
  cases rx
  cases y with
  | non=>cases ry; exact PySem.EqNone.ne_none_none (zBj I q (by simp))
  | bl j=>cases ry; exact PySem.EqNone.ne_none_bool (zBj I q (by simp))
  | int j=>obtain ⟨t',rfl⟩:=ry; exact PySem.EqNone.ne_none_int (zBj I q (by simp))
  | str j=>obtain ⟨t',rfl⟩:=ry; exact PySem.EqNone.ne_none_str (zBj I q (by simp))
  | _=>exact absurd (show false = true from hs) Bool.false_ne_true
 | bl i =>
  cases rx
  cases y with
  | non=>cases ry; exact PySem.EqNone.ne_bool_none (zBj I q (by simp))
  | bl j=>cases ry; exact ne_bool (zBj I q (congrArg not zTw))
  | str j=>obtain ⟨t',rfl⟩:=ry; exact PySem.EqMixed.ne_bool_str (zBj I q (by simp))
  | _=>exact absurd (show false = true from hs) Bool.false_ne_true
 | int i =>
  obtain ⟨t,rfl⟩:=rx
  cases y with
  | non=>cases ry; exact PySem.EqNone.ne_int_none (zBj I q (by simp))
  | int j=>obtain ⟨t',rfl⟩:=ry; exact ne_int (zBj I q (congrArg not zSi))
  | str j=>obtain ⟨t',rfl⟩:=ry; exact PySem.EqMixed.ne_int_str (zBj I q (by simp))
  | _=>exact absurd (show false = true from hs) Bool.false_ne_true
 | str i =>
  obtain ⟨t,rfl⟩:=rx
  cases y with
  | non=>cases ry; exact PySem.EqNone.ne_str_none (zBj I q (by simp))
  | bl j=>cases ry; exact PySem.EqMixed.ne_str_bool (zBj I q (by simp))
  | int j=>obtain ⟨t',rfl⟩:=ry; exact PySem.EqMixed.ne_str_int (zBj I q (by simp))
  | str j=>obtain ⟨t',rfl⟩:=ry; exact ne_str (zBj I q (congrArg not zQ6))
  | _=>exact absurd (show false = true from hs) Bool.false_ne_true
 | byt i =>
  obtain ⟨t,rfl⟩:=rx
  cases y with
  | byt j=>obtain ⟨t',rfl⟩:=ry; exact PySem.W.ne_bytes (zBj I q (congrArg not zQe))
  | _=>exact absurd (show false = true from hs) Bool.false_ne_true
 | _=>cases y <;> exact absurd (show false = true from hs) Bool.false_ne_true

theorem zFk:OpR X (compareOp .Lt) (rI0 fun i j=>.bl (decide (i < j))):=opB0 fun _ _ _ _ _ _ _ q=>lt_int q
theorem zQj:OpR X (compareOp .LtE) (rI0 fun i j=>.bl (decide (i≤j))):=opB0 fun _ _ _ _ _ _ _ q=>le_int q
theorem zHa:OpR X (compareOp .Gt) (rI0 fun i j=>.bl (decide (j < i))):=opB0 fun _ _ _ _ _ _ _ q=>gt_int q
theorem op_ge:OpR X (compareOp .GtE) (rI0 fun i j=>.bl (decide (j≤i))):=opB0 fun _ _ _ _ _ _ _ q=>ge_int q
theorem zMf:OpR X (compareOp .Is) (fun x y H Q=>y = .non∧Q (.bl (decide (x = .non))) H):=by
 intro pins s σ H x y v u Q I rx ry h
 obtain ⟨rfl,q⟩:=h
 cases ry
 refine is_none_gen (zBj I q ?_)
 cases x <;> first
  | (cases rx; rfl)
  | (obtain ⟨t,rfl⟩:=rx; rfl)
theorem zHz:OpR X (compareOp .IsNot) (fun x y H Q=>y = .non∧Q (.bl (!decide (x = .non))) H):=by
 intro pins s σ H x y v u Q I rx ry h
 obtain ⟨rfl,q⟩:=h
 cases ry
 refine isnot_none_gen (zBj I q ?_)
 cases x <;> first
  | (cases rx; rfl)
  | (obtain ⟨t,rfl⟩:=rx; rfl)

theorem zAt (b:Expr) {op:CmpOp} (h:op≠.In:=by decide) (h2:op≠.NotIn:=by decide):behindInMarks op b = false:=by
 have e1:(op == CmpOp.In) = false:=by cases op <;> first | rfl | exact absurd rfl h
 have e2:(op == CmpOp.NotIn) = false:=by cases op <;> first | rfl | exact absurd rfl h2
 cases b <;> simp [behindInMarks,e1,e2]
theorem zCa {op:CmpOp} {r:R2} (ho:OpR X (compareOp op) r) (ha:PE X a ta) (hb:PE X b tb) (hm:behindInMarks op b = false):PE X (.Compare a [op] [b] pos) (tOp r ta tb):=by
 intro pins s σ H Q I h
 exact wpAny_Compare1 (binT ha hb I h fun v u s2 x y H2 I2 rx ry q=>ho pins s2 σ H2 x y v u Q I2 rx ry q) hm
def zQq (t:TE):TT:=fun σ H Q=>t σ H fun x H'=>∃ k,x = .bl k∧Q k H'
theorem zAs {op:CmpOp} {r:R2} (ho:OpR X (compareOp op) r) (ha:PE X a ta) (hb:PE X b tb) (hm:behindInMarks op b = false):PT X (.Compare a [op] [b] pos) (zQq (tOp r ta tb)):=by
 intro pins s σ H Q I h
 refine wpAny_isTrue_Compare1 (thn (ha pins s σ H _ I h) fun v s1 ⟨x,H1,I1,r1,q1⟩=>thn (hb pins s1 σ H1 _ I1 q1) fun u s2 ⟨y,H2,I2,r2,q2⟩ =>
  thn (ho pins s2 σ H2 x y v u _ I2 r1 r2 q2) fun c s3 ⟨z,H3,I3,r3,k,e,q3⟩=>?_) hm
 subst e
 cases r3
 exact wpAny_truthy_bool ⟨H3,I3,q3⟩
def tChain (r r':R2) (ta tb tc:TE):TE:=fun σ H Q=>ta σ H fun x H1=>tb σ H1 fun y H2=>r x y H2 fun z H3=>∃ k,z = .bl k ∧
 (if k = true then tc σ H3 fun w' H4=>r' y w' H4 Q else Q (.bl false) H3)
theorem zLb {op op':CmpOp} {r r':R2} (ho:OpR X (compareOp op) r) (ho':OpR X (compareOp op') r') (ha:PE X a ta) (hb:PE X b tb) (hc:PE X c tc)
  (hm:lastMarks [op,op'] [b,c] = false:=by with_unfolding_all rfl):PT X (.Compare a [op,op'] [b,c] pos) (zQq (tChain r r' ta tb tc)):=by
 intro pins s σ H Q I h
 refine isTrue_chain (thn (ha pins s σ H _ I h) fun v s1 ⟨x,H1,I1,r1,q1⟩=>test_link (thn (hb pins s1 σ H1 _ I1 q1) fun u s2 ⟨y,H2,I2,r2,q2⟩ =>
  thn (ho pins s2 σ H2 x y v u _ I2 r1 r2 q2) fun d s3 ⟨z,H3,I3,r3,k,e,q3⟩=>?_)) hm
 subst e
 cases r3
 refine wpAny_truthy_bool ?_
 cases k with
 | false =>
  obtain ⟨k',e',q'⟩:=q3
  cases e'
  exact ite_ff ⟨H3,I3,q'⟩
 | true =>
  refine ite_tt (test_last (thn (hc pins s3 σ H3 _ I3 q3) fun w' s4 ⟨z',H4,I4,r4,q4⟩=>thn (ho' pins s4 σ H4 y z' u w' _ I4 r2 r4 q4) fun d' s5 ⟨z2,H5,I5,r5,k2,e2,q5⟩=>?_))
  subst e2
  cases r5
  exact wpAny_truthy_bool ⟨H5,I5,q5⟩

def TruV (K:PySem.W.Frag) (x:V) (H:Hp) (k:Bool):Prop :=
 match x with
 | .non=>k = false
 | .bl b=>k = b
 | .int i=>k = (i != 0)
 | .str y=>y.length≤sizeLine∧k = ((y.length:Int) != 0)
 | .byt y=>y.size≤sizeLine∧k = ((y.size:Int) != 0)
 | .ref p=>(∃ xs,SqL K H p xs∧k = !xs.isEmpty)∨(∃ xs,SqT K H p xs∧k = !xs.isEmpty)∨∃ kvs,H p = some (.dK kvs)∧k = !kvs.isEmpty
 | _=>False
theorem zPy {κ:Type} {kvs:List (κ × V)} {vs:List (κ × Value)} (r:KV kvs vs):(!vs.isEmpty) = !kvs.isEmpty:=by
 cases r <;> rfl
theorem zKn {xs:List V} {its:List Value} (r:Vals xs its):(!its.toArray.isEmpty) = !xs.isEmpty:=by
 cases r <;> simp
theorem zLq:(sizeLine:Nat) < 2 ^ 63:=by rw [sizeLine_eq]; decide
theorem tru_ok:TruR X (fun x H Q=>∃ k,TruV X.K x H k∧Q k H):=by
 intro pins s σ H x v Q I rx h
 obtain ⟨k,e,q⟩:=h
 have hl:=zLq
 have hs:sizeLine = 16777216:=sizeLine_eq
 cases x with
 | non =>
  cases rx
  have e':k = false:=e
  subst e'
  exact truthy_none ⟨H,I,q⟩
 | bl b =>
  cases rx
  have e':k = b:=e
  subst e'
  exact wpAny_truthy_bool ⟨H,I,q⟩
 | int i =>
  obtain ⟨t,rfl⟩:=rx
  have e':k = (i != 0):=e
  subst e'
  exact PySem.P.truthy_int ⟨H,I,q⟩
 | str y =>
  obtain ⟨t,rfl⟩:=rx
  obtain ⟨hy,e'⟩:y.length≤sizeLine∧k = ((y.length:Int) != 0):=e
  subst e'
  exact PySem.P.truthy_str (by omega) ⟨H,I.tok _,q⟩
 | byt y =>
  obtain ⟨t,rfl⟩:=rx
  obtain ⟨hy,e'⟩:y.size≤sizeLine∧k = ((y.size:Int) != 0):=e
  subst e'
  exact PySem.W.truthy_bytes (by omega) ⟨H,I.tok _,q⟩
 | ref p =>
  cases rx
  have e':(∃ xs,SqL X.K H p xs∧k = !xs.isEmpty)∨(∃ xs,SqT X.K H p xs∧k = !xs.isEmpty)∨∃ kvs,H p = some (.dK kvs)∧k = !kvs.isEmpty:=e
  rcases e' with ⟨xs,hx,e'⟩ | ⟨xs,hx,e'⟩ | ⟨kvs,hx,e'⟩
  ·subst e'
   obtain ⟨its,r,pl,hz⟩:=I.list hx
   have hlen:=r.length
   exact wpAny_truthy_list pl.isList (by simp only [List.size_toArray]; omega) ⟨H,I.tok _,by rw [zKn r]; exact q⟩
  ·subst e'
   obtain ⟨its,r,pl,hz⟩:=I.tuple hx
   have hlen:=r.length
   exact truthy_tuple pl (by simp only [List.size_toArray]; omega) ⟨H,I.tok _,by rw [zKn r]; exact q⟩
  ·subst e'
   obtain ⟨hz,hS,vs,r,m⟩:kvs.length≤sizeLine∧(p == sysModules) = false∧∃ vs,KV kvs vs∧s.heap.DictOf (zDb X.prog X.w) p vs:=I.hok p _ hx
   have hlen:kvs.length = vs.length:=Paired.length r
   exact wpAny_truthy_dict hS m (by omega) ⟨H,I.tok _,by rw [zPy r]; exact q⟩
 | _=>exact (show False from e).elim
theorem zRh {x:V} {us:List Value} (r:Vals [x] us):∃ u,us = [u]∧RelV x u:=by
 cases r with
 | cons r1 r2=>cases r2; exact ⟨_,rfl,r1⟩
theorem zVf {x y:V} {us:List Value} (r:Vals [x,y] us):∃ u w',us = [u,w']∧RelV x u∧RelV y w':=by
 cases r with
 | cons r1 r2 =>
  cases r2 with
  | cons r3 r4=>cases r4; exact ⟨_,_,rfl,r1,r3⟩
theorem zCy:zH3 X (.builtin "abs") (fun xs H Q=>∃ i,xs = [.int i]∧Q (.int (if i < 0 then -i else i)) H):=by
 intro pins s σ H xs us Q I r h
 obtain ⟨i,rfl,q⟩:=h
 obtain ⟨u,rfl,t,rfl⟩:=zRh r
 exact call_abs_int fun u tk=>⟨.int (if i < 0 then -i else i),H,I.tok _,⟨_,rfl⟩,q⟩
end
end L2

namespace L2
open PySem PySem.Spec PyProof.Rows

structure ObjM (h:Heap) (x dx C:Addr) (mA:Str→Option Value):Prop where
 obj:h.get? x = some (PySem.W.instObj C dx)
 ns:h.Ns1 dx mA
 ne:dx≠x

theorem zRg {h:Heap} {dx:Addr} {mA:Str→Option Value} (n:h.Ns1 dx mA):∃ od,h.get? dx = some od∧∀ name,PySem.W.lookIn name od = some (mA name):=by
 obtain ⟨o,es,ep,ho,hd,hk,_,hm⟩:=n
 refine ⟨o,ho,fun name=>?_⟩
 have e:=hm name
 unfold nsFind findBy at e
 rw [← Array.find?_toList] at e
 unfold PySem.W.lookIn
 rw [hd]
 dsimp only
 split
 ·rename_i y q
  rw [q] at e
  exact congrArg some e
 ·rename_i q
  rw [q] at e
  have a:es.toList.any (·.refKey) = false:=by
   rw [List.any_eq_false]
   intro y hy
   obtain ⟨z,t,hkey⟩:=hk y (Array.mem_toList_iff.mp hy)
   simp [DictEntry.refKey,hkey]
  have a':¬ es.toList.any (·.refKey) = true:=by rw [a]; exact Bool.false_ne_true
  rw [if_neg a']
  exact congrArg some e

theorem ObjM.look {h:Heap} {x dx C:Addr} {mA:Str→Option Value} (I:ObjM h x dx C mA):∃ od,PySem.W.InstAt h x (PySem.W.instObj C dx) C (some od)∧∀ name,PySem.W.lookIn name od = some (mA name) :=
 let ⟨od,ho,hl⟩:=zRg I.ns
 ⟨od,⟨I.obj,rfl,rfl,ho⟩,hl⟩

section
variable {prog:Program} {w:World} {A:Around} {E:Value→Shared→Prop} {s:Shared} {K:PySem.W.Frag} {x dx C f:Addr} {mA:Str→Option Value} {name:Str} {v:Value}

end

section
variable {P:Program} {w:World} {H H':Hp} {h h':Heap} {a C dx:Addr} {fs fs':List (Str × V)}
theorem zUm (hok:HOk P w H h) (e:H a = some (.ins C dx fs)):∃ mA,ObjM h a dx C mA∧(∀ f,RelO (fs.lookup f) (mA f))∧PySem.Within mA (fs.map (·.1))∧fs.length≤1000∧H dx = some (.own a):=by
 obtain ⟨d,z,ne,ob,mA,n,r,q⟩:=(show zDi P w H h a (.ins C dx fs) from hok a _ e)
 exact ⟨mA,⟨ob,n,ne⟩,r,q,z,d⟩
end

structure Cls (K:PySem.W.Frag) (C:Addr):Prop where
 pg:PySem.W.plainGet K C Str.empty = true
 hd:PySem.W.hasDictIn K C = true
 po:PySem.W.plainOver K C = true
 sa:PySem.W.findIn K (.ref C) "__setattr__" = some (some (.builtin "object.__setattr__"))
theorem Cls.get {K:PySem.W.Frag} {C:Addr} (c:Cls K C) (f:Str):PySem.W.plainGet K C f = true:=c.pg
structure Con (K:PySem.W.Frag) (C:Addr) (f:Str) (v:V) (u:Value):Prop where
 at_:PySem.W.findIn K (.ref C) f = some (some u)
 rel:RelV v u
 get:PySem.W.specialIn K u "__get__" = some none
 cp:PySem.W.copiedNames.contains f = false
structure Meth (K:PySem.W.Frag) (C:Addr) (m:Str) (f:Addr):Prop where
 at_:PySem.W.findIn K (.ref C) m = some (some (.ref f))
 fn:PySem.W.isFn K (.ref f) = true
 kp:PySem.W.keepIn K (.ref f) = true

section
variable {X:Cx} {pins:List (Addr × Obj)} {σ:St} {H:Hp} {s:Shared} {a C dx:Addr} {fs:List (Str × V)} {f:Str} {v:V} {A:Around} {E:Value→Shared→Prop}

end

section
variable {X:Cx} {o e value:Expr} {f:Str} {pos pos' tpos:Pos} {ta tv:TE}
end

section
variable {X:Cx} {pins:List (Addr × Obj)} {σ:St} {H:Hp} {s:Shared} {A:Around} {E:Value→Shared→Prop} {Q:Value→Shared→Prop} {c:Value} {b:Bool}
inductive TyOf (K:PySem.W.Frag) (H:Hp):V→Value→Prop where
 | non:TyOf K H .non (.type "NoneType")
 | bl (x:Bool):TyOf K H (.bl x) (.type "bool")
 | int (i:Int):TyOf K H (.int i) (.type "int")
 | str (x:Str):TyOf K H (.str x) (.type "str")
 | flt (x:UInt64):TyOf K H (.flt x) (.type "float")
 | lst {a:Addr} {xs:List V} (e:H a = some (.lst xs)):TyOf K H (.ref a) (.type "list")
 | frz {a:Addr} {o:Obj} {xs:List V} (e:H a = some (.frz o (.lst xs))):TyOf K H (.ref a) (.type "list")
 | tup {a:Addr} {xs:List V} (e:H a = some (.tup xs)):TyOf K H (.ref a) (.type "tuple")
 | dK {a:Addr} {kvs:List (Key × V)} (e:H a = some (.dK kvs)):TyOf K H (.ref a) (.type "dict")
 | dT {a:Addr} {kvs:List (List Key × V)} (e:H a = some (.dT kvs)):TyOf K H (.ref a) (.type "dict")
 | ins {a C dx:Addr} {fs:List (Str × V)} (e:H a = some (.ins C dx fs)) (cl:Cls K C) (ha:PySem.W.findIn K (.ref C) "__class__" = some (some (.builtin "object.__class__")))
   (hn:PySem.W.specialIn K (.builtin "object.__class__") "__get__" = some (some (.builtin "getset_descriptor.__get__"))) (htk:PySem.W.takesIn K (.builtin "object.__class__") = some true)
   (hm:PySem.W.mroIn K C (.type "object") = some true):TyOf K H (.ref a) (.ref C)
theorem zQb {x:V} {u t:Value} (I:Inv X pins σ H s) (rx:RelV x u) (ty:TyOf X.K H x t) (e:PySem.W.kitOne X.K t c = some b) (h:∀ tk,Q (.bool b) { s with toks:=tk }) :
  wpAny (model X.prog X.w) A (call (.builtin "isinstance") [u,c]) Q E s:=by
 cases ty with
 | non=>cases (show u = Value.none from rx); exact PySem.W.kia_one PySem.W.kitx_none I.kIn True.intro e (fun z=>nomatch z) h
 | bl y=>cases (show u = Value.bool y from rx); exact PySem.W.kia_one PySem.W.kitx_bool I.kIn True.intro e (fun z=>nomatch z) h
 | int i=>obtain ⟨t,q⟩:=(show ∃ t,u = Value.int i t from rx); cases q; exact PySem.W.kia_one PySem.W.kitx_int I.kIn True.intro e (fun z=>nomatch z) h
 | str y=>obtain ⟨t,q⟩:=(show ∃ t,u = Value.str y t from rx); cases q; exact PySem.W.kia_one PySem.W.kitx_str I.kIn True.intro e (fun z=>nomatch z) h
 | flt y=>obtain ⟨t,q⟩:=(show ∃ t,u = Value.float y t from rx); cases q; exact PySem.W.kia_one PySem.W.kitx_float I.kIn True.intro e (fun z=>nomatch z) h
 | @lst a xs ea =>
  cases (show u = Value.ref a from rx)
  obtain ⟨_,_,n,_,h1⟩:=(show zDi X.prog X.w H s.heap a (.lst xs) from I.hok a _ ea)
  exact PySem.W.kia_one PySem.W.kitx_list I.kIn ⟨_,h1,rfl⟩ e (fun z=>nomatch z) h
 | @frz a ob xs ea =>
  cases (show u = Value.ref a from rx)
  obtain ⟨_,_,_,n,_,h1⟩:=(show zDi X.prog X.w H s.heap a (.frz ob (.lst xs)) from I.hok a _ ea)
  exact PySem.W.kia_one PySem.W.kitx_list I.kIn ⟨_,h1,rfl⟩ e (fun z=>nomatch z) h
 | @tup a xs ea =>
  cases (show u = Value.ref a from rx)
  obtain ⟨_,_,_,p⟩:=(show zDi X.prog X.w H s.heap a (.tup xs) from I.hok a _ ea)
  obtain ⟨o,h1,h2,_⟩:=p
  exact PySem.W.kia_one PySem.W.kitx_tuple I.kIn ⟨o,h1,h2⟩ e (fun z=>nomatch z) h
 | @dK a kvs ea =>
  cases (show u = Value.ref a from rx)
  obtain ⟨_,_,vs,_,p⟩:=(show zDi X.prog X.w H s.heap a (.dK kvs) from I.hok a _ ea)
  obtain ⟨o,es,ep,h1,h2,_⟩:=p
  exact PySem.W.kia_one PySem.W.kitx_dict I.kIn ⟨o,h1,h2.1⟩ e (fun z=>nomatch z) h
 | @dT a kvs ea =>
  cases (show u = Value.ref a from rx)
  obtain ⟨_,_,xs,_,o,es,ep,h1,h2,_⟩:=(show zDi X.prog X.w H s.heap a (.dT kvs) from I.hok a _ ea)
  exact PySem.W.kia_one PySem.W.kitx_dict I.kIn ⟨o,h1,h2.1⟩ e (fun z=>nomatch z) h
 | @ins a C dx fs ea cl ha hn htk hm =>
  cases (show u = Value.ref a from rx)
  obtain ⟨mA,O,_⟩:=zUm I.hok ea
  obtain ⟨od,J,_⟩:=O.look
  exact PySem.W.kia_one (PySem.W.kitx_own (cl.get _) cl.hd ha hn htk hm) I.kIn J e (fun z=>nomatch z) h
end
end L2

namespace L2
open PySem PySem.Spec PyProof.Rows

structure Room (k:Nat) (A:Around):Prop where
 hd:A.handled = none
 dp:A.depth + 3 * k + 5 < recursionLimit
 un:A.units + 16 * k + 200 < cLine
theorem Room.mono {j k:Nat} {A:Around} (r:Room k A) (h:j≤k):Room j A:=⟨r.hd,by have:=r.dp; omega,by have:=r.un; omega⟩
theorem Room.deeper {k:Nat} {A:Around} (r:Room (k + 1) A) (env:Env):Room k (A.deeper env) :=
 ⟨r.hd,by have:=r.dp; show A.depth + 1 + 3 * k + 5 < _; omega,by have:=r.un; show A.units + 3 + 16 * k + 200 < _; omega⟩
theorem Room.depth {k:Nat} {A:Around} (r:Room k A):A.depth < recursionLimit:=by have:=r.dp; omega
theorem Room.units {k:Nat} {A:Around} (r:Room k A):A.units + 64 < cLine:=by have:=r.un; omega
theorem Room.units0 {k:Nat} {A:Around} (r:Room k A):A.units < cLine:=by have:=r.un; omega

def tNil:TA:=fun _ H Q=>Q [] H
def tCons (ta:TE) (tr:TA):TA:=fun σ H Q=>ta σ H fun x H1=>tr σ H1 fun xs H2=>Q (x :: xs) H2
section
variable {X:Cx} {e:Expr} {es:List Expr} {te:TE} {t:TA} {pos:Pos}
theorem zAe:PA X [] tNil:=fun _ _ _ _ H Q I h=>Calls.spliced_nil ⟨[],H,I,.nil,h⟩
theorem zAa (ha:PE X e te) (hr:PA X es t) (hs:starEach (e :: es) X.env = (false,eval e X.env) :: starEach es X.env:=by rfl):PA X (e :: es) (tCons te t):=by
 intro pos pins s σ H Q I h
 rw [hs]
 show wpAny _ _ (spliced ((false,eval e X.env) :: backTo pos (starEach es X.env))) _ _ s
 refine Calls.spliced_cons (thn (ha pins s σ H _ I h) fun u s1 ⟨x,H1,I1,r1,q1⟩=>?_)
 exact thn (hr pos pins s1 σ H1 _ I1 q1) fun us s2 ⟨xs,H2,I2,r2,q2⟩=>⟨x :: xs,H2,I2,.cons r1 r2,q2⟩

def tTup (t:TA):TE:=fun σ H Q=>t σ H fun xs H1=>xs.length≤sizeLine∧∀ p,H1 p = none→Q (.ref p) (upd H1 p (.tup xs))
def tLst (t:TA):TE:=fun σ H Q=>t σ H fun xs H1=>xs.length≤sizeLine∧∀ p,H1 p = none→Q (.ref p) (upd H1 p (.lst xs))
theorem zAz {x1} (h:PA X es t):PE X (.Tuple es x1 pos) (tTup t):=by
 intro pins s σ H Q I hq
 refine wpAny_Tuple_spliced (thn (h pos pins s σ H _ I hq) fun us s1 ⟨xs,H1,I1,r,z,q⟩=>⟨by rw [← r.length]; exact z,?_⟩)
 have hf:H1 s1.heap.objs.size = none:=I1.hok.fresh (Nat.le_refl _)
 refine ⟨.ref s1.heap.objs.size,upd H1 s1.heap.objs.size (.tup xs),I1.laid (t':=s1.toks) (fun b u e=>Heap.get?_push_of_some _ e) (Nat.le_refl _) ?_,rfl,q _ hf⟩
 exact ⟨z,us,r,⟨_,Heap.get?_push_size _ rfl,rfl,_,rfl⟩⟩
theorem zCb (h:PA X es t):PE X (.List es pos) (tLst t):=by
 intro pins s σ H Q I hq
 refine wpAny_List_spliced (thn (h pos pins s σ H _ I hq) fun us s1 ⟨xs,H1,I1,r,z,q⟩=>⟨by rw [← r.length]; exact z,?_⟩)
 have hf:H1 s1.heap.objs.size = none:=I1.hok.fresh (Nat.le_refl _)
 refine ⟨.ref s1.heap.objs.size,upd H1 s1.heap.objs.size (.lst xs),I1.laid (t':=s1.toks) (fun b u e=>Heap.get?_push_of_some _ e) (Nat.le_refl _) ?_,rfl,q _ hf⟩
 exact ⟨z,us,0,r,Heap.get?_push_size _ rfl⟩
end

abbrev Sp:=List V→Hp→VK→XK→Prop
abbrev CXT:=List Env→Hp→Shared→XK→Value→Shared→Prop

structure Env0 (P:Program) (w:World) (K:PySem.W.Frag) (mg:Str→Option Value) (base:Heap) (A:Around) (outer:List Env) (s:Shared) (H:Hp):Prop where
 frames:A.frames = some outer
 mod:Mod K mg base
 bs:∀ b o,base.get? b = some o→s.heap.get? b = some o∧H b = none
 bsz:base.objs.size≤s.heap.objs.size
 funs:s.heap.FunFrames base outer
 frf:∀ b∈frs outer,H b = none
 hok:HOk P w H s.heap
 bare:AllBare s.gens
def CE (outer:List Env) (P:Program) (w:World) (H:Hp) (s:Shared) (Q:VK) (u:Value) (s':Shared):Prop :=
 ∃ v H',s'.os = s.os∧AllBare s'.gens∧Un (frs outer) [] H H' s.heap s'.heap∧HOk P w H' s'.heap∧RelV v u∧Q v H'
def CR (CX:CXT) (outer:List Env) (P:Program) (w:World) (H:Hp) (s:Shared) (Q:VK) (E:XK) (r:Result) (s':Shared):Prop :=
 match r with
 | .ok (.ret u)=>CE outer P w H s Q u s'
 | .ok _=>False
 | .error e=>CX outer H s E e s'
structure FnOk (P:Program) (w:World) (K:PySem.W.Frag) (mg:Str→Option Value) (base:Heap) (CX:CXT) (k:Nat) (f:Addr) (fd:FuncData) (ps:List Str) (sp:Sp):Prop where
 len:∀ vs H Q E,sp vs H Q E→vs.length = ps.length
 run:∀ (A:Around) (outer:List Env) (s:Shared) (H:Hp) (args:Args) (us:List Value) (vs:List V) (Q:VK) (E:XK),Room k A→Env0 P w K mg base A outer s H→BindsTo s fd args (ps.zip us)→Vals vs us→sp vs H Q E →
  codeAny (model P w) A (.call (.ref f) args) (CR CX outer P w H s Q E) s
section
variable {X:Cx} {pins:List (Addr × Obj)} {σ:St} {H:Hp} {s s':Shared}
theorem Inv.env0 (I:Inv X pins σ H s):Env0 X.prog X.w X.K X.mg X.base X.A X.stack s H :=
 ⟨I.ok.frames,I.ok.mod,I.bs,Nat.le_trans I.ok.bsz I.sz,I.stack,I.stkFree,I.hok,I.bare⟩
theorem Inv.after {Q:VK} {u:Value} (I:Inv X pins σ H s) (h:CE X.stack X.prog X.w H s Q u s'):EP X pins σ Q u s':=by
 obtain ⟨v,H',os,bare,un,hok,r,q⟩:=h
 obtain ⟨hh,g,d,t,os'⟩:=s'
 obtain rfl:os' = s.os:=os
 exact ⟨v,H',I.call (h':=hh) (g':=g) (d':=d) (t':=t) (ch:=[]) un hok bare (fun b z=>absurd z (by simp)),r,q⟩
end

def tCall (sp:Sp) (dvs:List V) (E:XK) (t:TA):TE:=fun σ H Q=>t σ H fun vs H1=>sp (vs ++ dvs) H1 Q E
def zLn (K:PySem.W.Frag) (fd:FuncData) (ps:List Str) (ds:List Value):Prop :=
 ∀ (s:Shared) (us:List Value),K.In s.heap→(us ++ ds).length = ps.length→BindsTo s fd ⟨us,[]⟩ (ps.zip (us ++ ds))
theorem zLn.all {K:PySem.W.Frag} {fd:FuncData} {ps:List Str} (h:∀ us:List Value,us.length = ps.length→bindArgs fd ⟨us,[]⟩ = pure (ps.zip us)):zLn K fd ps []:=fun s us _ hl=>by
 rw [List.append_nil] at hl ⊢
 exact .of_eq (h us hl)

def zP9 (CX:CXT) (X:Cx) (E:XK):Prop:=∀ (pins:List (Addr × Obj)) (σ:St) (H:Hp) (s:Shared) (e:Value) (s':Shared),Inv X pins σ H s→CX X.stack H s E e s'→X.xe e s'

section
variable {X:Cx} {CX:CXT} {k:Nat} {f C:Addr} {fd:FuncData} {ps:List Str} {sp:Sp} {dvs:List V} {ds:List Value} {E:XK} {x m:Str} {p pos apos:Pos} {e o:Expr} {es:List Expr} {ta:TE} {t:TA}

theorem run_fn {pins:List (Addr × Obj)} {σ:St} {H:Hp} {s:Shared} {Q:VK} {us:List Value} {vs:List V} (F:FnOk X.prog X.w X.K X.mg X.base CX k f fd ps sp) (hr:Room k X.A) (hb:zLn X.K fd ps ds) (hd:Vals dvs ds) (hx:zP9 CX X E)
  (I:Inv X pins σ H s) (r:Vals vs us) (h:sp (vs ++ dvs) H Q E):wpAny (model X.prog X.w) X.A (call (.ref f) us) (EP X pins σ Q) X.xe s:=by
 have r2:Vals (vs ++ dvs) (us ++ ds):=r.append hd
 have hl:(us ++ ds).length = ps.length:=by rw [← r2.length]; exact F.len _ _ _ _ h
 refine wpAny_call (codeAny_mono (F.run X.A X.stack s H ⟨us,[]⟩ (us ++ ds) (vs ++ dvs) Q E hr I.env0 (hb s us I.kIn hl) r2 h) fun r s' hq=>?_)
 cases r with
 | error e=>exact hx pins σ H s e s' I hq
 | ok fl =>
  cases fl with
  | ret u=>exact I.after hq
  | next=>exact False.elim hq
  | brk=>exact False.elim hq
  | cont=>exact False.elim hq

theorem zUo (F:FnOk X.prog X.w X.K X.mg X.base CX k f fd ps sp) (hr:Room k X.A) (hg:Gl X x) (hm:X.mg x = some (.ref f)) (hk:PySem.W.keepIn X.K (.ref f) = true) (hb:zLn X.K fd ps ds) (hd:Vals dvs ds) (hx:zP9 CX X E)
  (ha:PA X (e :: es) t) (hdb:(x == ("__debug__" : Str)) = false:=by decide) (he:starEach (e :: es) X.env = (false,eval e X.env) :: starEach es X.env:=by rfl) (hpl:(backTo pos (starEach es X.env)).any (·.1) = false:=by rfl) :
  PE X (.Call (.Name x p) (e :: es) [] pos) (tCall sp dvs E t):=by
 intro pins s σ H Q I h
 refine wpAny_Call_Name_kw (zUn I hg hm ?_ hdb)
 refine PySem.W.callWith_K (h₀:=X.base) I.ok.mod.kin hk (thn (ha pos pins s σ H _ I h) fun us s1 ⟨vs,H1,I1,r,q⟩=>⟨I1.kIn,?_⟩) he hpl
 exact run_fn F hr hb hd hx I1 r q
structure Mk (K:PySem.W.Frag) (C f:Addr):Prop where
 makes:PySem.W.makesIn K C = true
 init:PySem.W.findIn K (.ref C) "__init__" = some (some (.ref f))
 fn:PySem.W.isFn K (.ref f) = true
 kp:PySem.W.keepIn K (.ref C) = true

end

section
variable {X:Cx} {CX:CXT} {k:Nat} {f C:Addr} {fd:FuncData} {ps ks:List Str} {sp:Sp} {E:XK} {x m:Str} {p pos apos kpos:Pos} {e o:Expr} {es:List Expr} {kws:List Keyword} {te ta:TE} {t tk:TA} {nm:Option Str}
structure KBinds (K:PySem.W.Frag) (fd:FuncData) (ps ks:List Str) (g:List Value→List Value→List Value) (gV:List V→List V→List V):Prop where
 to:∀ (s:Shared) (us ws:List Value),K.In s.heap→(g us ws).length = ps.length→BindsTo s fd ⟨us,ks.zip ws⟩ (ps.zip (g us ws))
 rel:∀ {vs:List V} {us:List Value} {zs:List V} {ws:List Value},Vals vs us→Vals zs ws→Vals (gV vs zs) (g us ws)
variable {g:List Value→List Value→List Value} {gV:List V→List V→List V}
end

structure zAx (N P:List Str) (sc:Scope):Prop where
 kind:sc.kind = .function
 co:sc.isCoroutine = false
 gen:sc.isGenerator = false
 nd:N.Nodup
 pre:N.take P.length = P
 par:∀ x∈P,sc.names.lookup x = some .local∨sc.names.lookup x = some .cell
 nofree:∀ y∈sc.names,y.2≠.free

theorem zMv {kindOf:Str→Option NameKind} {x:Str} : ∀ {binds:List (Str × Value)} {m:Str→Option Value},(∀ v,(x,v) ∉ binds)→bindL kindOf binds m x = m x
 | [],_,_=>rfl
 | (n,v) :: r,m,h=>by
  unfold bindL
  rw [zMv fun w hw=>h w (List.mem_cons_of_mem _ hw)]
  split
  ·have:x≠n:=by rintro rfl; exact h v List.mem_cons_self
   simp [this]
  ·rfl
theorem zLp {kindOf:Str→Option NameKind} {x:Str} : ∀ {binds:List (Str × Value)} {m:Str→Option Value},(∀ v,(x,v) ∉ binds)→bindC kindOf binds m x = m x
 | [],_,_=>rfl
 | (n,v) :: r,m,h=>by
  unfold bindC
  rw [zLp fun w hw=>h w (List.mem_cons_of_mem _ hw)]
  split
  ·rfl
  ·have:x≠n:=by rintro rfl; exact h v List.mem_cons_self
   simp [this]
theorem zMt {kindOf:Str→Option NameKind} {x:Str} {v:Value} : ∀ {P:List Str} {vs:List Value} {i:Nat} {m:Str→Option Value},P.Nodup→P[i]? = some x→vs[i]? = some v→kindOf x = some .local →
  bindL kindOf (P.zip vs) m x = some v
 | [],_,_,_,_,h,_,_=>by simp at h
 | _ :: _,[],_,_,_,_,h,_=>by simp at h
 | p :: P,w :: vs,0,m,nd,h1,h2,hk=>by
  simp at h1 h2; subst h1; subst h2
  show bindL kindOf ((p,w) :: P.zip vs) m p = _
  unfold bindL
  rw [zMv fun v hv=>(List.nodup_cons.mp nd).1 (List.of_mem_zip hv).1,if_pos hk]
  simp
 | p :: P,w :: vs,i + 1,m,nd,h1,h2,hk=>by
  show bindL kindOf ((p,w) :: P.zip vs) m x = _
  unfold bindL
  exact zMt (i:=i) (List.nodup_cons.mp nd).2 (by simpa using h1) (by simpa using h2) hk
theorem zLs {kindOf:Str→Option NameKind} {x:Str} {v:Value} : ∀ {P:List Str} {vs:List Value} {i:Nat} {m:Str→Option Value},P.Nodup→P[i]? = some x→vs[i]? = some v→kindOf x≠some .local →
  bindC kindOf (P.zip vs) m x = some v
 | [],_,_,_,_,h,_,_=>by simp at h
 | _ :: _,[],_,_,_,_,h,_=>by simp at h
 | p :: P,w :: vs,0,m,nd,h1,h2,hk=>by
  simp at h1 h2; subst h1; subst h2
  show bindC kindOf ((p,w) :: P.zip vs) m p = _
  unfold bindC
  rw [zLp fun v hv=>(List.nodup_cons.mp nd).1 (List.of_mem_zip hv).1,if_neg hk]
  simp
 | p :: P,w :: vs,i + 1,m,nd,h1,h2,hk=>by
  show bindC kindOf ((p,w) :: P.zip vs) m x = _
  unfold bindC
  exact zLs (i:=i) (List.nodup_cons.mp nd).2 (by simpa using h1) (by simpa using h2) hk

def zMb (N:List Str) (vs:List V):St:=vs.map some ++ List.replicate (N.length - vs.length) none

def cxOf (CX:CXT) (P:Program) (w:World) (K:PySem.W.Frag) (mg:Str→Option Value) (base:Heap) (N:List Str) (qual:Str) (scope:Scope) (f:Addr) (cd:Value) (A:Around) (outer:List Env) (s:Shared) (H:Hp) (E:XK):Cx where
 prog:=P
 w:=w
 K:=K
 mg:=mg
 base:=base
 A:=A.deeper (envOfC qual scope s.heap.objs.size f cd)
 N:=N
 s₀:=s
 H₀:=H
 env:=envOfC qual scope s.heap.objs.size f cd
 outer:=outer
 stack:=envOfC qual scope s.heap.objs.size f cd :: outer
 ex:=[]
 calm:=true
 fn:=fun _=>true
 pn:=[]
 xe:=fun e s'=>wpAny (model P w) (A.deeper (envOfC qual scope s.heap.objs.size f cd)) (leaving (envOfC qual scope s.heap.objs.size f cd) e) (fun _ s''=>CX outer H s E e s'') (fun e' s''=>CX outer H s E e' s'') s'

theorem zOj {sc:Scope} {n:Nat} {x:Str} (h:sc.names.lookup x = some .cell):∃ c,(cellsFrom n sc.names []).lookup x = some c:=by
 have q:=PySem.W.cellsFrom_some sc.names n [] (.inl h)
 exact Option.isSome_iff_exists.mp q

theorem zRk {CX:CXT} {P:Program} {w:World} {K:PySem.W.Frag} {mg:Str→Option Value} {base:Heap} {N ps:List Str} {qual:Str} {scope:Scope} {f:Addr} {cd:Value} {A:Around} {outer:List Env} {s s1:Shared} {H:Hp} {E:XK} {us:List Value} {vs:List V}
  (S:zAx N ps scope) (hd:A.handled = none) (e0:Env0 P w K mg base A outer s H) (hl:vs.length = ps.length) (r:Vals vs us)
  (x:InCallC s s.heap.objs.size (bindL (envOfC qual scope s.heap.objs.size f cd).kindOf (ps.zip us) fun _=>none) (cellsFrom (s.heap.objs.size + 1) scope.names []) (bindC (envOfC qual scope s.heap.objs.size f cd).kindOf (ps.zip us) fun _=>none) s1) :
  Inv (cxOf CX P w K mg base N qual scope f cd A outer s H E) [] (zMb N vs) H s1:=by
 have hpl:ps.length≤N.length:=by have:=congrArg List.length S.pre; rw [List.length_take] at this; omega
 obtain ⟨h1,tk,rfl,hk⟩:=x.done
 have noA:∀ b:Addr,b ∉ (cxOf CX P w K mg base N qual scope f cd A outer s H E).ex:=fun b z=>absurd (show b∈([]:List Addr) from z) (by simp)
 refine ⟨⟨e0.mod,S.kind,rfl,rfl,Nat.le_refl _,fun y z c h1 h2=>?_,fun y hy=>?_,fun y c _ h=>?_,fun _=>hd,Around.frames_deeper e0.frames,.inr ⟨rfl,rfl⟩,fun b z=>absurd z (noA b),e0.bs,e0.bsz,fun b _ _=>noA b,fun b z=>absurd z (noA b),e0.funs,e0.frf⟩,
  rfl,e0.bare,Un.kept hk,⟨_,x.toInCall.ns,fun i y v h1 h2 h3=>?_⟩,fun y c h=>⟨_,x.cell y c h⟩,e0.hok.fresh (Nat.le_refl _),fun y c h=>?_,fun p hp=>absurd (show p∈([]:List (Addr × Obj)) from hp) (by simp),e0.hok.kept hk,?_⟩
 ·exact name_of_addr x.apart (PySem.mem_of_lookup h1) (PySem.mem_of_lookup h2)
 ·have hy:scope.names.lookup y = some .cell∨scope.names.lookup y = some .free:=hy
  rcases hy with hy | hy
  ·exact zOj hy
  ·exact absurd rfl (S.nofree _ (PySem.mem_of_lookup hy))
 ·exact Nat.le_of_lt (x.above y c (PySem.mem_of_lookup h))
 ·have hi:i < vs.length:=by
   unfold zMb at h2
   by_cases hi:i < vs.length
   ·exact hi
   ·rw [List.getElem?_append_right (by simpa using hi)] at h2
    rw [List.getElem?_replicate] at h2
    split at h2 <;> cases h2
  have ha:vs[i]? = some v:=by
   unfold zMb at h2
   rw [List.getElem?_append_left (by simpa using hi),List.getElem?_map] at h2
   cases e:vs[i]? with
   | none=>rw [e] at h2; cases h2
   | some a=>rw [e] at h2; cases h2; rfl
  obtain ⟨u,hu,rv⟩:=r.get ha
  have hp:ps[i]? = some y:=by
   rw [← S.pre,List.getElem?_take_of_lt (by omega)]; exact h1
  have ndP:ps.Nodup:=by rw [← S.pre]; exact S.nd.sublist (List.take_sublist _ _)
  refine ⟨u,rv,?_⟩
  rcases S.par y (List.mem_of_getElem? hp) with k | k
  ·exact .inl ⟨k,zMt ndP hp hu k⟩
  ·obtain ⟨c,e⟩:=zOj (n:=s.heap.objs.size + 1) k
   refine .inr ⟨.inl k,c,e,?_⟩
   have q:=x.cell y c e
   rw [zLs ndP hp hu (by show scope.names.lookup y≠_; rw [k]; decide)] at q
   exact q
 ·exact e0.hok.fresh (Nat.le_of_lt (x.above y c (PySem.mem_of_lookup h)))
 ·unfold zMb
  show _ = N.length
  rw [List.length_append,List.length_map,List.length_replicate]
  omega

theorem fn_of {CX:CXT} {P:Program} {w:World} {K:PySem.W.Frag} {mg:Str→Option Value} {base:Heap} {k:Nat} {f:Addr} {name qual:Str} {params:Arguments} {body:List Stmt} {scope:Scope} {dV kV doc pm cdv ct oc:Value} {an od:Option Addr}
  {osl:Array (Option Value)} {N ps:List Str} {sp:Sp} (lk:K.lookup f = some ⟨oc,od,.func (PySem.W.fnOf name qual params body scope dV kV doc pm an cdv ct),osl⟩) (hcd:PySem.W.codeIn K cdv qual = true) (S:zAx N ps scope)
  (len:∀ vs H Q E,sp vs H Q E→vs.length = ps.length)
  (hbody:∀ (A:Around) (outer:List Env) (s:Shared) (H:Hp) (vs:List V) (Q:VK) (E:XK),Room k (A.deeper (envOfC qual scope s.heap.objs.size f cdv))→sp vs H Q E →
   ∃ t,PSs (cxOf CX P w K mg base N qual scope f cdv A outer s H E) body t∧t { nx:=fun _ H'=>Q .non H',rt:=Q } (zMb N vs) H) :
  FnOk P w K mg base CX (k + 1) f (PySem.W.fnOf name qual params body scope dV kV doc pm an cdv ct) ps sp:=by
 refine ⟨len,fun A outer s H args us vs Q E hr e0 hb r hsp=>?_⟩
 have hl:=len _ _ _ _ hsp
 have KX:K.In s.heap:=e0.mod.kin.keeps fun b o e=>(e0.bs b o e).1
 have lim:s.heap.NoLimit:=e0.mod.nolimit.keeps fun b o e=>(e0.bs b o e).1
 have hkind:∀ y∈ps.zip us,scope.names.lookup y.1 = some .local∨(scope.names.lookup y.1 = some .cell∧((cellsFrom (s.heap.objs.size + 1) scope.names []).lookup y.1).isSome = true):=fun ⟨n,v⟩ hy=>by
  rcases S.par n (List.of_mem_zip hy).1 with q | q
  ·exact .inl q
  ·exact .inr ⟨q,PySem.W.cellsFrom_some _ _ _ (.inl q)⟩
 refine codeAny_call_function hr.depth (KX _ _ lk) rfl S.co S.gen rfl (PySem.W.codeRec_of KX hcd) (hb _ _ _ _ ?_)
 refine wpAny_newFunctionEnv_cells S.kind hkind fun env he s1 x=>?_
 subst he
 refine ⟨lim.keeps x.toInCall.keep,codeAny_func ?_⟩
 obtain ⟨t,ht,hq⟩:=hbody A outer s H vs Q E (hr.deeper _) hsp
 have I:Inv (cxOf CX P w K mg base N qual scope f cdv A outer s H E) [] (zMb N vs) H s1:=zRk S hr.hd e0 hl r x
 refine wpAny_mono (ht [] s1 (zMb N vs) H _ I hq) (fun fl s' hs=>?_) fun e s' hs=>hs
 have fin:∀ {σ':St} {H':Hp} {v:V} {u:Value},Inv (cxOf CX P w K mg base N qual scope f cdv A outer s H E) [] σ' H' s'→RelV v u→Q v H'→CE outer P w H s Q u s' :=
  fun {σ' H' v u} J rv q=>⟨v,H',J.os,J.bare,J.base,J.hok,rv,q⟩
 cases fl with
 | ret u =>
  obtain ⟨v,σ',H',J,rv,q⟩:=hs
  exact fin J rv q
 | next =>
  obtain ⟨σ',H',J,q⟩:=hs
  exact fin (v:=V.non) (u:=Value.none) J rfl q
 | brk =>
  obtain ⟨_,_,_,q⟩:=hs
  exact False.elim q
 | cont =>
  obtain ⟨_,_,_,q⟩:=hs
  exact False.elim q
end L2

namespace L2
open PySem PySem.Spec PyProof.Rows
section
variable {X:Cx} {x:Str} {p pos:Pos} {e:Expr} {es:List Expr} {t:TA} {id T:String} {r:List V→Hp→VK→Prop}

def tCB (r:List V→Hp→VK→Prop) (t:TA):TE:=fun σ H Q=>t σ H fun vs H1=>r vs H1 Q
theorem zAu (hc:zH3 X (.builtin id) r) (hg:Gl X x) (hm:X.mg x = none) (hv:bootBuiltins x = some (.builtin id)) (ha:PA X (e :: es) t) (hn:x ≠ "__name__" := by decide) (hdb:(x == ("__debug__" : Str)) = false:=by decide)
  (he:starEach (e :: es) X.env = (false,eval e X.env) :: starEach es X.env:=by rfl) (hpl:(backTo pos (starEach es X.env)).any (·.1) = false:=by rfl):PE X (.Call (.Name x p) (e :: es) [] pos) (tCB r t):=by
 intro pins s σ H Q I h
 refine wpAny_Call_Name_kw (zKi I hg hm hv ?_ hn hdb)
 exact PyProof.Rows.callWith_builtin1 (thn (ha pos pins s σ H _ I h) fun us s1 ⟨vs,H1,I1,r1,q1⟩=>hc pins s1 σ H1 vs us Q I1 r1 q1) he hpl
theorem zCj (hc:zH3 X (.type T) r) (hg:Gl X x) (hm:X.mg x = none) (hv:bootBuiltins x = some (.type T)) (ha:PA X (e :: es) t) (hn:x ≠ "__name__" := by decide) (hdb:(x == ("__debug__" : Str)) = false:=by decide)
  (he:starEach (e :: es) X.env = (false,eval e X.env) :: starEach es X.env:=by rfl) (hpl:(backTo pos (starEach es X.env)).any (·.1) = false:=by rfl):PE X (.Call (.Name x p) (e :: es) [] pos) (tCB r t):=by
 intro pins s σ H Q I h
 refine wpAny_Call_Name_kw (zKi I hg hm hv ?_ hn hdb)
 exact PyProof.Rows.callWith_type1 (thn (ha pos pins s σ H _ I h) fun us s1 ⟨vs,H1,I1,r1,q1⟩=>hc pins s1 σ H1 vs us Q I1 r1 q1) he hpl
end
end L2

namespace HT
open PySem PyProof.Rows

def lexLt:List Int→List Int→Bool
 | [],[]=>false
 | [],_ :: _=>true
 | _ :: _,[]=>false
 | x :: xs,y :: ys=>if x = y then lexLt xs ys else decide (x < y)
theorem lexLt_cons (x y:Int) (xs ys:List Int):lexLt (x :: xs) (y :: ys) = if x = y then lexLt xs ys else decide (x < y):=rfl
section
open PySem.SeqAt
open PySem.AutoSeq1 (wpAny_loadPart')
open PySem.MeetsSeq PySem.MeetsSeq2 PySem.MeetsSeq3

end

section
variable {prog:Program} {w:World} {A:Around} {E:Value→Shared→Prop} {s:Shared}

def sIx (n d:Nat):Option Int→Nat
 | none=>d
 | some v=>if v < 0 then (v + (n:Int)).toNat else min v.toNat n
theorem sIx_nat (n d k:Nat):sIx n d (some (k:Int)) = min k n:=by
 show (if (k:Int) < 0 then ((k:Int) + (n:Int)).toNat else min (k:Int).toNat n) = min k n
 rw [if_neg (by omega),Int.toNat_natCast]
theorem sIx_le (n d:Nat) (hd:d≤n) (o:Option Int):sIx n d o≤n:=by
 cases o with
 | none=>exact hd
 | some v =>
  show (if v < 0 then (v + (n:Int)).toNat else min v.toNat n)≤n
  by_cases hv:v < 0
  ·rw [if_pos hv]; omega
  ·rw [if_neg hv]; exact Nat.min_le_right _ _
theorem zQ3 (v:Int) (n d:Nat):(if v < 0 then max (v + (n:Int)) 0 else min v (n:Int)) = ((sIx n d (some v):Nat):Int):=by
 show (if v < 0 then max (v + (n:Int)) 0 else min v (n:Int)) = (((if v < 0 then (v + (n:Int)).toNat else min v.toNat n):Nat):Int)
 by_cases hv:v < 0
 ·simp only [if_pos hv]; omega
 ·simp only [if_neg hv]; omega
theorem zPb (lo hi:Option Int) (n:Nat):Builtin.Slice.sliceAdjust lo hi 1 (n:Int) = (((sIx n 0 lo:Nat):Int),((sIx n n hi:Nat):Int)):=by
 have h1:¬ ((1:Int) < 0):=by omega
 unfold Builtin.Slice.sliceAdjust
 simp only [h1,if_false]
 refine Prod.ext ?_ ?_
 ·cases lo with
  | none=>rfl
  | some v=>exact zQ3 v n 0
 ·cases hi with
  | none=>rfl
  | some v=>exact zQ3 v n n
theorem zPm (i j:Nat):Builtin.Slice.slicePlaces (i:Int) (j:Int) 1 = j - i:=by
 unfold Builtin.Slice.slicePlaces
 have h1:(1:Int) > 0:=by omega
 simp only [h1,if_true,Int.ediv_one]
 split <;> omega
theorem zKm {v:Value} {o:Option Int} {Q:Option Int→Shared→Prop} (p:IsPart v o) (h:Q o s):wpAny (model prog w) A (Builtin.Slice.slicePartIndex v) Q E s:=by
 cases p with
 | none=>exact slicePart_none h
 | int i t=>exact slicePart_int h
theorem zIe {sl:Addr} {vl vu:Value} {lo hi:Option Int} {n:Nat} {Q:Int × Int × Nat→Shared→Prop} (hs:s.heap.IsSliceOf sl vl vu .none) (pl:IsPart vl lo) (pu:IsPart vu hi)
  (h:Q (((sIx n 0 lo:Nat):Int),1,sIx n n hi - sIx n 0 lo) s):wpAny (model prog w) A (Builtin.Slice.sliceApplied (.ref sl) (pure (n:Int))) Q E s:=by
 obtain ⟨os,hos,hcs,hds⟩:=id hs
 unfold Builtin.Slice.sliceApplied Builtin.Slice.sliceFields
 refine wpAny_bind (wpAny_bind (wpAny_field hos hds (x:=vl) rfl (wpAny_bind (wpAny_field hos hds (x:=vu) rfl (wpAny_bind (wpAny_field hos hds (x:=.none) rfl (wpAny_pure ?_)))))))
 refine wpAny_bind (slicePart_none ?_)
 show wpAny _ _ (if ((1:Int) == 0) = true then _ else _) _ _ s
 rw [if_neg (by decide)]
 refine wpAny_bind (zKm pl (wpAny_bind (zKm pu (wpAny_bind (wpAny_pure ?_)))))
 show wpAny _ _ (match Builtin.Slice.sliceAdjust lo hi 1 (n:Int) with | (lo,hi)=>pure (lo,(1:Int),Builtin.Slice.slicePlaces lo hi 1)) _ _ s
 rw [zPb lo hi n]
 show wpAny _ _ (pure (((sIx n 0 lo:Nat):Int),(1:Int),Builtin.Slice.slicePlaces ((sIx n 0 lo:Nat):Int) ((sIx n n hi:Nat):Int) 1)) _ _ s
 rw [zPm]
 exact wpAny_pure h
theorem zTs (xs:Array Value) (i k:Nat):((List.range k).filterMap fun (m:Nat)=>xs[((i:Int) + (m:Int) * 1).toNat]?).toArray = ((xs.toList.drop i).take k).toArray:=by
 have e:(fun (m:Nat)=>xs[((i:Int) + (m:Int) * 1).toNat]?) = fun m=>xs[i + m]?:=by
  funext m
  have:((i:Int) + (m:Int) * 1).toNat = i + m:=by omega
  rw [this]
 rw [e]
 have:=pick_run xs i k
 rw [List.filterMap_map] at this
 have e2:((fun x=>xs[x]?) ∘ fun x=>i + x) = fun m=>xs[i + m]?:=rfl
 rw [e2] at this
 rw [this]

theorem getItem_tuple_cut {t sl:Addr} {items:Array Value} {vl vu:Value} {lo hi:Option Int} {Q:Value→Shared→Prop} (ht:IsTup s.heap t items) (hs:s.heap.IsSliceOf sl vl vu .none) (pl:IsPart vl lo) (pu:IsPart vu hi)
  (hw:¬ (sIx items.size 0 lo = 0∧sIx items.size items.size hi = items.size))
  (h:Q (.ref s.heap.objs.size) { s with heap:=s.heap.push { cls:=.type "tuple", data:=.seq ((items.toList.drop (sIx items.size 0 lo)).take (sIx items.size items.size hi - sIx items.size 0 lo)).toArray } })
  (hsz:items.size≤sizeLine):wpAny (model prog w) A (getItem (.ref t) (.ref sl)) Q E s:=by
 have htake:sizeOk (.seq ((items.toList.drop (sIx items.size 0 lo)).take (sIx items.size items.size hi - sIx items.size 0 lo)).toArray):=by
  show ((items.toList.drop (sIx items.size 0 lo)).take (sIx items.size items.size hi - sIx items.size 0 lo)).toArray.size≤sizeLine
  rw [List.size_toArray,List.length_take,List.length_drop,Array.length_toList]
  omega
 have hj:sIx items.size items.size hi≤items.size:=sIx_le _ _ (Nat.le_refl _) hi
 obtain ⟨os,hos,hcs,hds⟩:=id hs
 have hTs:s.TypeIs (.ref sl) "slice" := ⟨os,hos,hcs⟩
 unfold getItem
 try with_reducible refine wpAny_holding ?_
 first | refine wpAny_bind (wpAny_pure ?_) | skip
 refine wpAny_bind (wpAny_sequenceKey ht.typeIs (by decide) ?_)
 refine wpAny_bind (wpAny_callSpecial?_slot (name:=Str.ofString "__getitem__") ht.typeIs PyProof.Rows.slot_tuple_getitem
  (wpAny_call_entry PyProof.Rows.slot_tuple_getitem ht.typeIs entry_tuple_getitem ?_ (args_tuple_getitem _ _)))
 show wpAny _ _ (Builtin.Tuple.tupleItemsOf (.ref t) >>= _) _ _ s
 refine wpAny_bind (tupleItemsOf_ ht ?_)
 refine wpAny_bind (wpAny_typeOf hTs ?_)
 rw [if_pos (by decide)]
 refine wpAny_bind (zIe hs pl pu ?_)
 have hno:¬ ((((sIx items.size 0 lo:Nat):Int) == 0 && (1:Int) == 1 && (sIx items.size items.size hi - sIx items.size 0 lo) == items.size) = true):=by
  intro q
  rw [Bool.and_eq_true,Bool.and_eq_true] at q
  have q1:((sIx items.size 0 lo:Nat):Int) = 0:=eq_of_beq q.1.1
  have q2:sIx items.size items.size hi - sIx items.size 0 lo = items.size:=eq_of_beq q.2
  exact hw ⟨by omega,by omega⟩
 show wpAny _ _ (if (((sIx items.size 0 lo:Nat):Int) == 0 && (1:Int) == 1 && (sIx items.size items.size hi - sIx items.size 0 lo) == items.size) = true then _ else _) _ _ s
 rw [if_neg hno,zTs]
 first
  | exact wpAny_bind (m:=Builtin.Tuple.tupleExact _) (wpAny_newObj_type (wpAny_pure ⟨_,rfl,wpAny_pure h⟩) htake)
  | exact wpAny_bind (m:=Builtin.Tuple.tupleExact _) (wpAny_newObj_type (wpAny_bind (wpAny_pure (wpAny_pure ⟨_,rfl,wpAny_pure h⟩))) htake)
  | exact wpAny_bind (wpAny_bind (m:=Builtin.Tuple.tupleExact _) (wpAny_newObj_type (wpAny_pure (wpAny_pure ⟨_,rfl,wpAny_pure h⟩)) htake))
  | exact wpAny_bind (wpAny_bind (m:=Builtin.Tuple.tupleExact _) (wpAny_newObj_type (wpAny_pure ⟨_,rfl,wpAny_pure h⟩) htake))
end
end HT

namespace L2
open PySem PySem.Spec PyProof.Rows

abbrev TO:=St→Hp→(Option Int→Hp→Prop)→Prop
def PO (X:Cx) (e:Option Expr) (t:TO):Prop :=
 ∀ (pins:List (Addr × Obj)) (s:Shared) (σ:St) (H:Hp) (Q:Option Int→Hp→Prop),Inv X pins σ H s→t σ H Q →
  wpAny (model X.prog X.w) X.A (evalPart e X.env) (fun u s'=>∃ o H',Inv X pins σ H' s'∧IsPart u o∧Q o H') X.xe s
def zVa:TO:=fun _ H Q=>Q none H
def tPart (t:TE):TO:=fun σ H Q=>t σ H fun x H1=>∃ i,x = .int i∧Q (some i) H1

theorem zPr {ns:List Int} : ∀ {us:List Value},Vals (ns.map V.int) us→IntsAre us ns:=by
 induction ns with
 | nil=>intro us r; rw [List.map_nil] at r; cases r; exact .nil
 | cons n ns ih =>
  intro us r
  rw [List.map_cons] at r
  cases r with
  | cons r1 r2 =>
   obtain ⟨t,e⟩:=r1
   subst e
   exact .cons n t (ih r2)

section
variable {X:Cx} {e:Expr} {te:TE} {lo hi:Option Expr} {tl th:TO} {pos p2:Pos}

theorem zB3:PO X none zVa:=by
 intro pins s σ H Q I h
 rw [evalPart_none]
 exact wpAny_pure ⟨none,H,I,.none,h⟩
theorem zB8 (h:PE X e te):PO X (some e) (tPart te):=by
 intro pins s σ H Q I hw
 rw [evalPart_some]
 refine thn (h pins s σ H _ I hw) fun u s1 ⟨x,H1,I1,r1,q1⟩=>?_
 obtain ⟨i,rfl,q⟩:=q1
 obtain ⟨t,rfl⟩:=r1
 exact ⟨some i,H1,I1,.int i t,q⟩

def SlR (X:Cx) (r:V→Option Int→Option Int→Hp→VK→Prop):Prop :=
 ∀ (pins:List (Addr × Obj)) (s:Shared) (σ:St) (H:Hp) (x:V) (v vl vu:Value) (lo hi:Option Int) (sl:Addr) (Q:VK),Inv X pins σ H s→RelV x v→s.heap.IsSliceOf sl vl vu .none→IsPart vl lo→IsPart vu hi→r x lo hi H Q →
  ∃ T id,typeLookup (.type T) "__getitem__" = pure (some (.builtin id))∧s.TypeIs v T∧wpAny (model X.prog X.w) X.A (getItem v (.ref sl)) (EP X pins σ Q) X.xe s
def tSl (r:V→Option Int→Option Int→Hp→VK→Prop) (te:TE) (tl th:TO):TE:=fun σ H Q=>te σ H fun x H1=>tl σ H1 fun l H2=>th σ H2 fun u H3=>r x l u H3 Q
theorem zBs {r:V→Option Int→Option Int→Hp→VK→Prop} (hr:SlR X r) (he:PE X e te) (hl:PO X lo tl) (hu:PO X hi th):PE X (.Subscript e (.Slice lo hi none p2) pos) (tSl r te tl th):=by
 intro pins s σ H Q I h
 refine Subscript_ (thn (he pins s σ H _ I h) fun v s1 ⟨x,H1,I1,r1,q1⟩=>?_)
 refine wpAny_Slice (thn (hl pins s1 σ H1 _ I1 q1) fun vl s2 ⟨l,H2,I2,pl,q2⟩=>thn (hu pins s2 σ H2 _ I2 q2) fun vu s3 ⟨u,H3,I3,pu,q3⟩=>?_)
 rw [evalPart_none]
 refine wpAny_pure ?_
 have I4:Inv X pins σ H3 { s3 with heap:=s3.heap.push { cls:=.type "slice", data:=.fields #[vl,vu,.none] } }:=I3.kept (t':=s3.toks) fun b ob q=>Heap.get?_push_of_some _ q
 obtain ⟨T,id,hT,ht,hg⟩:=hr pins { s3 with heap:=s3.heap.push { cls:=.type "slice", data:=.fields #[vl,vu,.none] } } σ H3 x v vl vu l u s3.heap.objs.size Q I4 r1 (Heap.IsSliceOf.new ..) pl pu q3
 show wpAny (model X.prog X.w) X.A (subscriptTail e (.Slice lo hi none p2) v (.ref s3.heap.objs.size)) (EP X pins σ Q) X.xe { s3 with heap:=s3.heap.push { cls:=.type "slice", data:=.fields #[vl,vu,.none] } }
 exact tail_any (ops:=[.ref s3.heap.objs.size,v]) ht hT hg (by with_unfolding_all rfl)

def cutV (xs:List V) (lo hi:Option Int):List V:=(xs.drop (HT.sIx xs.length 0 lo)).take (HT.sIx xs.length xs.length hi - HT.sIx xs.length 0 lo)
theorem zI4 (xs:List V) (lo hi:Option Int):(cutV xs lo hi).length≤xs.length:=by
 unfold cutV
 rw [List.length_take,List.length_drop]
 omega
def rSlT (K:PySem.W.Frag):V→Option Int→Option Int→Hp→VK→Prop:=fun x lo hi H Q=>∃ a xs,x = .ref a∧SqT K H a xs ∧
 ¬ (HT.sIx xs.length 0 lo = 0∧HT.sIx xs.length xs.length hi = xs.length)∧∀ p,H p = none→Q (.ref p) (upd H p (.tup (cutV xs lo hi)))
theorem sl_tup:SlR X (rSlT X.K):=by
 intro pins s σ H x v vl vu lo hi sl Q I rx hs pl pu h
 obtain ⟨a,xs,rfl,hx,hw,q⟩:=h
 cases rx
 obtain ⟨its,r,ht,hz⟩:=I.tuple hx
 have hlen:its.toArray.size = xs.length:=by rw [List.size_toArray]; exact r.length.symm
 refine ⟨"tuple", _,PyProof.Rows.slot_tuple_getitem.lookup,ht.typeIs,?_⟩
 refine HT.getItem_tuple_cut ht hs pl pu (by rw [hlen]; exact hw) ?_ (by rw [hlen]; exact hz)
 rw [hlen]
 refine ⟨.ref s.heap.objs.size,_,I.laid (t':=s.toks) (o:=.tup (cutV xs lo hi)) (fun b ob q=>Heap.get?_push_of_some _ q) (Nat.le_refl _) ?_,rfl,q _ (I.hok.fresh (Nat.le_refl _))⟩
 exact ⟨Nat.le_trans (zI4 xs lo hi) hz,_,(r.drop (HT.sIx xs.length 0 lo)).take (HT.sIx xs.length xs.length hi - HT.sIx xs.length 0 lo),IsTup.new _ _⟩

end
end L2

namespace L2
open PySem PySem.Spec PyProof.Rows

def ixN (n:Nat) (i:Int):Option Nat:=if 0≤i then (if i < n then some i.toNat else none) else if -(n:Int)≤i then some (i + n).toNat else none
def atI {α:Type} (xs:List α) (i:Int):Option α:=(ixN xs.length i).bind fun j=>xs[j]?
theorem zQm {n:Nat} {i:Int} {j:Nat} (h:ixN n i = some j):seqIndex? i n = some j∧j < n∧-(n:Int)≤i∧i < n:=by
 unfold ixN at h
 by_cases h0:0≤i
 ·rw [if_pos h0] at h
  by_cases h1:i < n
  ·rw [if_pos h1] at h
   have e:i.toNat = j:=Option.some.inj h
   exact ⟨by rw [seqIndex_of h0 h1,e],by omega,by omega,h1⟩
  ·rw [if_neg h1] at h; cases h
 ·rw [if_neg h0] at h
  by_cases h1 : -(n:Int)≤i
  ·rw [if_pos h1] at h
   have e:(i + n).toNat = j:=Option.some.inj h
   exact ⟨by rw [seqIndex_neg (by omega) h1,e],by omega,h1,by omega⟩
  ·rw [if_neg h1] at h; cases h
theorem zQk {α:Type} {xs:List α} {i:Int} {v:α} (h:atI xs i = some v):∃ j,seqIndex? i xs.length = some j∧xs[j]? = some v∧j < xs.length∧-(xs.length:Int)≤i∧i < xs.length:=by
 unfold atI at h
 cases e:ixN xs.length i with
 | none=>rw [e] at h; cases h
 | some j =>
  rw [e] at h
  obtain ⟨h1,h2,h3,h4⟩:=zQm e
  exact ⟨j,h1,h,h2,h3,h4⟩
theorem zK0 {α:Type} {xs:List α} {j:Nat} {v:α} (h:xs[j]? = some v):atI xs (j:Int) = some v:=by
 have hj:j < xs.length:=(List.getElem?_eq_some_iff.mp h).1
 have e:ixN xs.length (j:Int) = some j:=by
  unfold ixN
  rw [if_pos (by omega),if_pos (by omega)]; simp
 unfold atI; rw [e]; exact h
def zUv (b:Expr):Prop:=∀ o i,subscripted b false o i = operate [o,i] (getItem o i)
def IxR (X:Cx) (r:R2):Prop :=
 ∀ (value slice:Expr) (pins:List (Addr × Obj)) (s:Shared) (σ:St) (H:Hp) (x y:V) (v u:Value) (Q:VK),Inv X pins σ H s→RelV x v→RelV y u→r x y H Q →
  subscripted slice false v u = operate [v,u] (getItem v u)→wpAny (model X.prog X.w) X.A (subscriptTail value slice v u) (EP X pins σ Q) X.xe s
def MtR (X:Cx) (id:String) (r:V→List V→Hp→VK→Prop):Prop :=
 ∀ (pins:List (Addr × Obj)) (s:Shared) (σ:St) (H:Hp) (x:V) (xs:List V) (v:Value) (us:List Value) (Q:VK),Inv X pins σ H s→RelV x v→Vals xs us→r x xs H Q →
  wpAny (model X.prog X.w) X.A (call (.builtin id) (v :: us)) (EP X pins σ Q) X.xe s
section
variable {X:Cx} {a b:Expr} {ta tb:TE} {pos:Pos}
theorem zAk {r:R2} (hr:IxR X r) (ha:PE X a ta) (hb:PE X b tb) (hs:zUv b):PE X (.Subscript a b pos) (tOp r ta tb):=by
 intro pins s σ H Q I h
 exact Subscript_ (binT ha hb I h fun v u s2 x y H2 I2 rx ry q=>hr a b pins s2 σ H2 x y v u Q I2 rx ry q (hs _ _))

def rIxL (K:PySem.W.Frag):R2:=fun x y H Q=>∃ p xs i v,x = .ref p∧y = .int i∧SqL K H p xs∧atI xs i = some v∧Q v H
def rIxT (K:PySem.W.Frag):R2:=fun x y H Q=>∃ p xs i v,x = .ref p∧y = .int i∧SqT K H p xs∧atI xs i = some v∧Q v H
theorem zUh:IxR X (rIxL X.K):=by
 intro value slice pins s σ H x y v u Q I rx ry h hs
 obtain ⟨p,xs,i,z,rfl,rfl,hq,he,q⟩:=h
 cases rx
 obtain ⟨t,rfl⟩:=ry
 obtain ⟨its,r,pl,hz⟩:=I.list hq
 obtain ⟨j,h1,h2,h3,h4,h5⟩:=zQk he
 obtain ⟨w,ew,rw'⟩:=r.get h2
 have hl:=r.length
 have hn:=zLq
 have fin:EP X pins σ Q w s:=⟨z,H,I,rw',q⟩
 by_cases h0:0≤i
 ·have hj:i.toNat = j:=by
   rw [seqIndex_of h0 h5] at h1
   exact Option.some.inj h1
  exact item_listR pl.isList h0 (by omega) (by rw [hj]; simpa using ew) fin hs
 ·have hj:(i + (its.toArray.size:Int)).toNat = j:=by
   rw [seqIndex_neg (by omega) h4] at h1
   rw [List.size_toArray,← hl]
   exact Option.some.inj h1
  exact subscriptTail_builtinR (x:=w) pl.isList.typeIs slot_list_getitem.lookup
   (wpAny_getItem_list_neg (Q:=fun r s'=>r = w∧EP X pins σ Q r s') pl.isList (by omega) (by rw [List.size_toArray] <;> omega) (by omega) (by rw [hj]; simpa using ew) ⟨rfl,fin⟩) hs
theorem ix_tup:IxR X (rIxT X.K):=by
 intro value slice pins s σ H x y v u Q I rx ry h hs
 obtain ⟨p,xs,i,z,rfl,rfl,hq,he,q⟩:=h
 cases rx
 obtain ⟨t,rfl⟩:=ry
 obtain ⟨its,r,pl,hz⟩:=I.tuple hq
 obtain ⟨j,h1,h2,h3,h4,h5⟩:=zQk he
 obtain ⟨w,ew,rw'⟩:=r.get h2
 have hl:=r.length
 have hn:=zLq
 have fin:EP X pins σ Q w s:=⟨z,H,I,rw',q⟩
 exact subscriptTail_builtinR (x:=w) pl.typeIs slot_tuple_getitem.lookup
  (getItem_tuple (j:=j) (Q:=fun r s'=>r = w∧EP X pins σ Q r s') pl (by omega) (by omega) (by rw [List.size_toArray,← hl]; exact h1) (by simpa using ew) ⟨rfl,fin⟩) hs
theorem zOu (its:List Value) (n j:Nat) (u:Value):Obj.mapSeq (·.setIfInBounds j u) { cls:=.type "list", data:=.seq its.toArray n } = { cls:=.type "list", data:=.seq (its.set j u).toArray n }:=by
 simp [Obj.mapSeq]
theorem Inv.lst {pins:List (Addr × Obj)} {σ:St} {H:Hp} {s:Shared} {p:Addr} {xs:List V} (I:Inv X pins σ H s) (h:H p = some (.lst xs)) :
  ∃ (its:List Value) (n:Nat),Vals xs its∧s.heap.get? p = some { cls:=.type "list", data:=.seq its.toArray n }∧xs.length≤sizeLine:=by
 obtain ⟨z,its,n,r,e⟩:=I.hok p _ h
 exact ⟨its,n,r,e,z⟩
theorem Inv.lstUpd {pins:List (Addr × Obj)} {σ:St} {H:Hp} {s:Shared} {p:Addr} {xs ys:List V} {its its':List Value} {n n':Nat} {f:Obj→Obj} (I:Inv X pins σ H s) (h:H p = some (.lst xs))
  (ho:s.heap.get? p = some { cls:=.type "list", data:=.seq its.toArray n }) (hf:f { cls:=.type "list", data:=.seq its.toArray n } = { cls:=.type "list", data:=.seq its'.toArray n' }) (r:Vals ys its') (hz:ys.length≤sizeLine) (t:Nat) :
  Inv X pins σ (upd H p (.lst ys)) { s with heap:=s.heap.update p f,toks:=t }:=by
 have e:(s.heap.update p f).get? p = some { cls:=.type "list", data:=.seq its'.toArray n' }:=by
  rw [Heap.get?_update_self f ho (by rw [hf] <;> rfl),hf]
 refine I.write (x:=p) (e:=p) (by rw [h]; trivial) (.inl rfl) (fun b u hb q=>(Heap.get?_update_other _ _ (Ne.symm hb)).trans q) ⟨_,e⟩ ?_
 exact ⟨hz,its',n',r,e⟩
def rSetL:V→V→V→Hp→(Hp→Prop)→Prop:=fun o i v H Q=>∃ p xs k j,o = .ref p∧i = .int k∧H p = some (.lst xs)∧ixN xs.length k = some j∧Q (upd H p (.lst (xs.set j v)))
theorem zGf:PSet X rSetL:=by
 intro pins s σ H o i v ov iv u Q I ro ri rv h
 obtain ⟨p,xs,k,j,rfl,rfl,hp,hj,q⟩:=h
 cases ro
 obtain ⟨t,rfl⟩:=ri
 obtain ⟨its,n,r,ho,hz⟩:=I.lst hp
 obtain ⟨h1,h2,h3,h4⟩:=zQm hj
 have hl:=r.length
 have hn:=zLq
 have I':Inv X pins σ (upd H p (.lst (xs.set j v))) { s with heap:=s.heap.update p (Obj.mapSeq (·.setIfInBounds j u)) } :=
  I.lstUpd hp ho (zOu its n j u) (r.set rv j) (by rw [List.length_set]; exact hz) s.toks
 by_cases h0:0≤k
 ·have hk:k.toNat = j:=by
   rw [seqIndex_of h0 h4] at h1
   exact Option.some.inj h1
  exact PySem.W.ki_setAt ho h0 (by omega) (by rw [List.size_toArray,← hl]; exact h4) (by rw [hk]; exact ⟨_,I',q⟩)
 ·have hk:(k + (its.toArray.size:Int)).toNat = j:=by
   rw [seqIndex_neg (by omega) h3] at h1
   rw [List.size_toArray,← hl]
   exact Option.some.inj h1
  exact PySem.W.ki_setBack ho (by omega) (by rw [List.size_toArray,← hl]; exact h3) (by omega) (by rw [hk]; exact ⟨_,I',q⟩)

theorem zMl (lo hi:Option Int) (n:Nat):(sliceBounds lo hi none n).1 = ((HT.sIx n 0 lo:Nat):Int)∧(sliceBounds lo hi none n).2.1 = ((HT.sIx n n hi:Nat):Int)∧(sliceBounds lo hi none n).2.2 = 1:=by
 refine ⟨?_,?_,rfl⟩
 ·cases lo with
  | none=>simp [sliceBounds,HT.sIx]
  | some i =>
   simp only [sliceBounds,HT.sIx,Option.getD_none,show (1:Int) > 0 by decide,if_true]
   by_cases h:i < 0
   ·simp only [h,if_true] <;> omega
   ·simp only [h,if_false] <;> omega
 ·cases hi with
  | none=>simp [sliceBounds,HT.sIx]
  | some i =>
   simp only [sliceBounds,HT.sIx,Option.getD_none,show (1:Int) > 0 by decide,if_true]
   by_cases h:i < 0
   ·simp only [h,if_true] <;> omega
   ·simp only [h,if_false] <;> omega
theorem zLg (its:List Value) (lo hi:Option Int):slicePick its.toArray lo hi none = ((its.drop (HT.sIx its.length 0 lo)).take (HT.sIx its.length its.length hi - HT.sIx its.length 0 lo)).toArray:=by
 obtain ⟨h1,h2,h3⟩:=zMl lo hi its.toArray.size
 unfold slicePick
 rw [h1,h2,h3]
 simp only [sliceRange_one,pick_run,List.size_toArray] <;> rfl
def rSlL (K:PySem.W.Frag):V→Option Int→Option Int→Hp→VK→Prop:=fun x lo hi H Q=>∃ a xs,x = .ref a∧SqL K H a xs∧∀ p,H p = none→Q (.ref p) (upd H p (.lst (cutV xs lo hi)))
theorem zCt:SlR X (rSlL X.K):=by
 intro pins s σ H x v vl vu lo hi sl Q I rx hs pl pu h
 obtain ⟨a,xs,rfl,hx,q⟩:=h
 cases rx
 obtain ⟨its,r,ht,hz⟩:=I.list hx
 have hlen:=r.length
 refine ⟨"list", _,slot_list_getitem.lookup,ht.isList.typeIs,?_⟩
 refine wpAny_getItem_list_slice ht.isList hs pl pu .none (by simp) ?_ (by rw [List.size_toArray] <;> omega)
 rw [zLg,← hlen]
 refine ⟨.ref s.heap.objs.size,_,I.laid (t':=s.toks) (o:=.lst (cutV xs lo hi)) (fun b ob q=>Heap.get?_push_of_some _ q) (Nat.le_refl _) ?_,rfl,q _ (I.hok.fresh (Nat.le_refl _))⟩
 exact ⟨Nat.le_trans (zI4 xs lo hi) hz,_,0,(r.drop (HT.sIx xs.length 0 lo)).take (HT.sIx xs.length xs.length hi - HT.sIx xs.length 0 lo),Heap.get?_push_size _ rfl⟩

def zLx:V→Bool
 | .non=>true
 | .bl _=>true
 | .int _=>true
 | .str _=>true
 | _=>false
def eqV:V→V→Bool
 | .non,.non=>true
 | .bl a,.bl b=>a == b
 | .bl a,.int b=>(if a then 1 else 0) == b
 | .int a,.bl b=>a == (if b then 1 else 0)
 | .int a,.int b=>a == b
 | .str a,.str b=>a == b
 | _,_=>false
theorem eqAt_V {A:Around} {s:Shared} {y x:V} {u v:Value} (ry:RelV y u) (rx:RelV x v) (fy:zLx y = true) (fx:zLx x = true):SeqAt.EqAt A s u v (eqV y x):=by
 cases y with
 | non =>
  cases ry
  cases x with
  | non=>cases rx; exact SeqAt.EqAt.same _
  | bl b=>cases rx; exact SeqAt.EqAt.none_bool b
  | int b=>obtain ⟨t,rfl⟩:=rx; exact SeqAt.EqAt.none_int b t
  | str b=>obtain ⟨t,rfl⟩:=rx; exact SeqAt.EqAt.none_str b t
  | _=>exact absurd (show false = true from fx) Bool.false_ne_true
 | bl a =>
  cases ry
  cases x with
  | non=>cases rx; exact SeqAt.EqAt.bool_none a
  | bl b=>cases rx; exact SeqAt.EqAt.bool_bool a b
  | int b=>obtain ⟨t,rfl⟩:=rx; exact SeqAt.EqAt.bool_int a b t
  | str b=>obtain ⟨t,rfl⟩:=rx; exact SeqAt.EqAt.bool_str a b t
  | _=>exact absurd (show false = true from fx) Bool.false_ne_true
 | int a =>
  obtain ⟨t',rfl⟩:=ry
  cases x with
  | non=>cases rx; exact SeqAt.EqAt.int_none a t'
  | bl b=>cases rx; exact SeqAt.EqAt.int_bool a t' b
  | int b=>obtain ⟨t,rfl⟩:=rx; exact SeqAt.EqAt.int_int a t' b t
  | str b=>obtain ⟨t,rfl⟩:=rx; exact SeqAt.EqAt.int_str a t' b t
  | _=>exact absurd (show false = true from fx) Bool.false_ne_true
 | str a =>
  obtain ⟨t',rfl⟩:=ry
  cases x with
  | non=>cases rx; exact SeqAt.EqAt.str_none a t'
  | bl b=>cases rx; exact SeqAt.EqAt.str_bool a t' b
  | int b=>obtain ⟨t,rfl⟩:=rx; exact SeqAt.EqAt.str_int a t' b t
  | str b=>obtain ⟨t,rfl⟩:=rx; exact SeqAt.EqAt.str_str a t' b t
  | _=>exact absurd (show false = true from fx) Bool.false_ne_true
 | _=>exact absurd (show false = true from fy) Bool.false_ne_true
def eqU (x:V) (u:Value):Bool:=match u with
 | .none=>eqV .non x
 | .bool b=>eqV (.bl b) x
 | .int i _=>eqV (.int i) x
 | .str z _=>eqV (.str z) x
 | _=>false
theorem zT9 {x y:V} {u:Value} (r:RelV y u) (f:zLx y = true):eqU x u = eqV y x:=by
 cases y with
 | non=>cases r; rfl
 | bl b=>cases r; rfl
 | int i=>obtain ⟨t,rfl⟩:=r; rfl
 | str z=>obtain ⟨t,rfl⟩:=r; rfl
 | _=>exact absurd (show false = true from f) Bool.false_ne_true
theorem zNl {x:V} : ∀ {xs:List V} {us:List Value},Vals xs us→xs.all zLx = true→us.any (eqU x) = xs.any fun y=>eqV y x
 | _,_,.nil,_=>rfl
 | y :: xs,u :: us,.cons r t,f=>by
  rw [List.all_cons,Bool.and_eq_true] at f
  rw [List.any_cons,List.any_cons,zT9 r f.1,zNl t f.2]
theorem zK8 {A:Around} {s:Shared} {x:V} {v:Value} (rx:RelV x v) (fx:zLx x = true):∀ {xs:List V} {us:List Value},Vals xs us→xs.all zLx = true→∀ u∈us,SeqAt.EqAt A s u v (eqU x u)
 | _,_,.nil,_=>fun u hu=>by cases hu
 | y :: xs,u :: us,.cons r t,f=>fun u' hu=>by
  rw [List.all_cons,Bool.and_eq_true] at f
  rcases List.mem_cons.mp hu with rfl | hu
  ·rw [zT9 r f.1]; exact eqAt_V r rx f.1 fx
  ·exact zK8 rx fx t f.2 u' hu
def inV (x:V) (xs:List V):Bool:=xs.any fun y=>eqV y x
def rIn (K:PySem.W.Frag) (neg:Bool):R2:=fun x y H Q=>∃ p xs,y = .ref p∧(SqL K H p xs∨SqT K H p xs)∧zLx x = true∧xs.all zLx = true∧Q (.bl (if neg then !inV x xs else inV x xs)) H
theorem zRa:OpR X (compareOp .In) (rIn X.K false):=by
 intro pins s σ H x y v u Q I rx ry h
 obtain ⟨p,xs,rfl,hq,fx,fs,q⟩:=h
 cases ry
 rcases hq with hq | hq
 ·obtain ⟨its,r,pl,hz⟩:=I.list hq
  refine SeqAt.in_listAt (eqU x) pl.isList (fun w hw=>zK8 rx fx r fs w (by simpa using hw)) ⟨.bl _,H,I,rfl,?_⟩
  rw [show its.toArray.any (eqU x) = its.any (eqU x) by simp,zNl r fs]
  exact q
 ·obtain ⟨its,r,pl,hz⟩:=I.tuple hq
  refine SeqAt.in_tupleAt (eqU x) pl (fun w hw=>zK8 rx fx r fs w (by simpa using hw)) ⟨.bl _,H,I,rfl,?_⟩
  rw [show its.toArray.any (eqU x) = its.any (eqU x) by simp,zNl r fs]
  exact q
theorem zA1:zH3 X (.builtin "len") (fun xs H Q=>∃ p ys,xs = [.ref p]∧(SqL X.K H p ys∨SqT X.K H p ys)∧Q (.int ys.length) H):=by
 intro pins s σ H xs us Q I r h
 obtain ⟨p,ys,rfl,hq,q⟩:=h
 obtain ⟨u,rfl,rx⟩:=zRh r
 cases rx
 have hn:=zLq
 rcases hq with hq | hq
 ·obtain ⟨its,r',pl,hz⟩:=I.list hq
  have hlen:=r'.length
  exact Calls.call_len_list pl.isList (by simp only [List.size_toArray] <;> omega) ⟨.int ys.length,H,I.tok _,⟨s.toks + 1,by rw [List.size_toArray,hlen]⟩,q⟩
 ·obtain ⟨its,r',pl,hz⟩:=I.tuple hq
  have hlen:=r'.length
  exact len_tuple pl (by simp only [List.size_toArray] <;> omega) ⟨.int ys.length,H,I.tok _,⟨s.toks + 1,by rw [List.size_toArray,hlen]⟩,q⟩
theorem zBz:zH3 X (.type "list") (fun xs H Q=>∃ p ys,xs = [.ref p]∧(SqL X.K H p ys∨SqT X.K H p ys)∧∀ l,H l = none→Q (.ref l) (upd H l (.lst ys))):=by
 intro pins s σ H xs us Q I r h
 obtain ⟨p,ys,rfl,hq,q⟩:=h
 obtain ⟨u,rfl,rx⟩:=zRh r
 cases rx
 have fin:∀ (its:List Value),Vals ys its→ys.length≤sizeLine→∀ (h':Heap) (c':Nat),(∀ b o',s.heap.get? b = some o'→h'.get? b = some o') →
   h'.get? s.heap.objs.size = some { cls:=.type "list", dict:=none,data:=.seq its.toArray c',slots:=#[] }→EP X pins σ Q (.ref s.heap.objs.size) { s with heap:=h' }:=fun its r' hz h' c' kp e =>
  ⟨.ref s.heap.objs.size,_,I.laid (t':=s.toks) kp (Nat.le_refl _) (show zDi X.prog X.w _ h' _ (.lst ys) from ⟨hz,its,c',r',e⟩),rfl,q _ (I.hok.fresh (Nat.le_refl _))⟩
 rcases hq with hq | hq
 ·obtain ⟨its,r',pl,hz⟩:=I.list hq
  have hlen:=r'.length
  obtain ⟨o,ho,hc,n,hd⟩:=pl.isList
  exact call_list_seq p (.inl rfl) ho hc hd (fun h' c' kp e=>fin its r' hz h' c' kp e) (by simp only [List.size_toArray] <;> omega)
 ·obtain ⟨its,r',pl,hz⟩:=I.tuple hq
  have hlen:=r'.length
  obtain ⟨o,ho,hc,n,hd⟩:=pl
  exact call_list_seq p (.inr rfl) ho hc hd (fun h' c' kp e=>fin its r' hz h' c' kp e) (by simp only [List.size_toArray] <;> omega)
theorem zLj:zH3 X (.type "tuple") (fun xs H Q=>∃ p ys,xs = [.ref p]∧((SqL X.K H p ys∧∀ l,H l = none→Q (.ref l) (upd H l (.tup ys)))∨(SqT X.K H p ys∧Q (.ref p) H))):=by
 intro pins s σ H xs us Q I r h
 obtain ⟨p,ys,rfl,h⟩:=h
 obtain ⟨u,rfl,rx⟩:=zRh r
 cases rx
 rcases h with ⟨hq,q⟩ | ⟨hq,q⟩
 ·obtain ⟨its,r',pl,hz⟩:=I.list hq
  have hlen:=r'.length
  refine call_tuple_list pl.isList (fun h' kp=>?_) (by simp only [List.size_toArray] <;> omega)
  have I1:Inv X pins σ H { s with heap:=h' }:=I.kept (t':=s.toks) kp
  have I2:Inv X pins σ (upd H h'.objs.size (.tup ys)) { s with heap:=h'.push { cls:=.type "tuple", data:=.seq its.toArray } } :=
   I1.laid (t':=s.toks) (fun b o e=>Heap.get?_push_of_some _ e) (Nat.le_refl _) (show zDi X.prog X.w _ _ _ (.tup ys) from ⟨hz,its,r',IsTup.new _ _⟩)
  exact ⟨.ref h'.objs.size,_,I2,rfl,q _ (I1.hok.fresh (Nat.le_refl _))⟩
 ·obtain ⟨its,r',pl,hz⟩:=I.tuple hq
  exact call_tuple_same pl ⟨.ref p,H,I,rfl,q⟩

def tyV (K:PySem.W.Frag) (T:String) (x:V) (H:Hp):Prop:=match x with
 | .str _=>T = "str"
 | .int _=>T = "int"
 | .ref p=>(T = "list" ∧ ∃ xs,SqL K H p xs)∨(T = "tuple" ∧ ∃ o,K.lookup p = some o∧o.cls = .type "tuple" ∧ o.dict = none) ∨
   (T = "dict" ∧ ((∃ kvs,H p = some (.dK kvs))∨∃ kvs,H p = some (.dT kvs)))∨(T = "set" ∧ ∃ S n,H p = some (.set S n))
 | _=>False
theorem tyV_is {pins:List (Addr × Obj)} {σ:St} {H:Hp} {s:Shared} {T:String} {x:V} {v:Value} (I:Inv X pins σ H s) (r:RelV x v) (ty:tyV X.K T x H) :
  s.TypeIs v T∧∀ a,v = .ref a→∃ ob,s.heap.get? a = some ob∧ob.dict = none:=by
 cases x with
 | str z =>
  obtain ⟨t,rfl⟩:=r
  cases (show T = "str" from ty)
  exact ⟨typeIs_str s z t,fun _ e=>nomatch e⟩
 | int i =>
  obtain ⟨t,rfl⟩:=r
  cases (show T = "int" from ty)
  exact ⟨typeIs_int s i t,fun _ e=>nomatch e⟩
 | ref p =>
  cases r
  rcases ty with ⟨rfl,xs,hq⟩ | ⟨rfl,o,hk,hc,hd⟩ | ⟨rfl,hk⟩ | ⟨rfl,S,n,hk⟩
  ·obtain ⟨its,_,pl,_⟩:=I.list hq
   refine ⟨pl.isList.typeIs,fun a e=>?_⟩
   cases e
   obtain ⟨o,n,e,c,hd,_⟩:=pl
   exact ⟨o,e,hd⟩
  ·refine ⟨⟨o,I.kIn p o hk,hc⟩,fun a e=>?_⟩
   cases e
   exact ⟨o,I.kIn _ o hk,hd⟩
  ·have z:∃ o,s.heap.get? p = some o∧o.ExactDict:=by
    rcases hk with ⟨kvs,hk⟩ | ⟨kvs,hk⟩
    ·obtain ⟨_,_,_,_,o,_,_,e,ex,_⟩:=I.hok p _ hk
     exact ⟨o,e,ex⟩
    ·obtain ⟨_,_,_,_,o,_,_,e,ex,_⟩:=I.hok p _ hk
     exact ⟨o,e,ex⟩
   obtain ⟨o,e,ex⟩:=z
   refine ⟨⟨o,e,ex.1⟩,fun a e2=>?_⟩
   cases e2
   exact ⟨o,e,ex.2.1⟩
  ·obtain ⟨o,_,_,_,e,ex,_⟩:=I.hok p _ hk
   refine ⟨⟨o,e,ex.1⟩,fun a e2=>?_⟩
   cases e2
   exact ⟨o,e,ex.2.1⟩
 | _=>exact False.elim ty
def tBM (K:PySem.W.Frag) (T:String) (r:V→List V→Hp→VK→Prop) (to:TE) (t:TA):TE:=fun σ H Q=>to σ H fun x H1=>tyV K T x H1∧t σ H1 fun xs H2=>r x xs H2 Q
variable {o e:Expr} {es:List Expr} {to:TE} {t:TA} {name:Str} {apos cpos:Pos} {T id:String} {r:V→List V→Hp→VK→Prop}
theorem zU6 (pa:PlainAttrs T) (slot:Slot T name id) (hty:typeOf (.builtin id) = pure (.type "method_descriptor")) (hm:MtR X id r) (ho:PE X o to) (ha:PA X (e :: es) t)
  (hbase:attributeBase o name X.env (eval o X.env) = eval o X.env:=by rfl)
  (hfew:((backTo cpos (starEach (e :: es) X.env)).all (fun x=>!x.1) && (backToKw cpos (keywordEach [] X.env)).all (fun x=>x.1.isSome)
   && decide ((e :: es).length + ([]:List Keyword).length + (if ([]:List Keyword).isEmpty then 0 else 1) < 30)) = true:=by rfl)
  (hline:(apos.endLine == cpos.line) = true:=by rfl) (hs:starEach (e :: es) X.env = (false,eval e X.env) :: starEach es X.env:=by rfl) (hplain:(backTo cpos (starEach es X.env)).any (·.1) = false:=by rfl) :
  PE X (.Call (.Attribute o name apos) (e :: es) [] cpos) (tBM X.K T r to t):=by
 intro pins s σ H Q I h
 refine wpAny_Call_method_late hbase hfew hline rfl (thn (ho pins s σ H _ I h) fun v s1 ⟨x,H1,I1,r1,ty,q1⟩=>?_)
 obtain ⟨h1,h2⟩:=tyV_is I1 r1 ty
 refine ⟨T,id,pa,slot,hty,h1,h2,?_⟩
 have hA:=ha cpos pins s1 σ H1 _ I1 q1
 rw [hs] at hA ⊢
 refine Calls.callWith_builtin (by show (false || (backTo cpos (starEach es X.env)).any (·.1)) = false; rw [hplain] <;> rfl) (Calls.evalArgs_plain ?_)
 exact thn hA fun us s2 ⟨vs,H2,I2,r2,q2⟩=>hm pins s2 σ H2 x vs v us Q I2 r1 r2 q2
end
end L2

namespace L2
open PySem PySem.Spec PyProof.Rows

def MtM (X:Cx) (id:String) (r:V→List V→Hp→VK→Prop):Prop :=
 ∀ (pins:List (Addr × Obj)) (s:Shared) (σ:St) (H:Hp) (x:V) (xs:List V) (v:Value) (us:List Value) (Q:VK),Inv X pins σ H s→RelV x v→Vals xs us→r x xs H Q →
  wpAny (model X.prog X.w) X.A (call (.builtin id) (v :: us)) (EP X pins σ Q) X.xe s

theorem Vals.one:∀ {x:V} {us:List Value},Vals [x] us→∃ u,us = [u]∧RelV x u
 | _,_,.cons r .nil=>⟨_,rfl,r⟩
theorem Vals.two:∀ {x y:V} {us:List Value},Vals [x,y] us→∃ u v,us = [u,v]∧RelV x u∧RelV y v
 | _,_,_,.cons r (.cons q .nil)=>⟨_,_,rfl,r,q⟩
theorem Vals.zero:∀ {us:List Value},Vals [] us→us = []
 | _,.nil=>rfl
section
variable {X:Cx} {pins:List (Addr × Obj)} {σ:St} {H:Hp} {s:Shared} {l b:Addr} {xs ys zs:List V}

theorem Inv.lset {its its':List Value} {n:Nat} {f:Array Value→Array Value} {t':Nat} (I:Inv X pins σ H s) (hH:H l = some (.lst xs))
  (e:s.heap.get? l = some { cls:=.type "list", data:=.seq its.toArray n }) (hf:f its.toArray = its'.toArray) (hv:Vals ys its') (hz:ys.length≤sizeLine) :
  Inv X pins σ (upd H l (.lst ys)) { s with heap:=s.heap.update l (Obj.mapSeq f),toks:=t' }:=by
 have q:=PySem.IsL.update e f
 rw [hf] at q
 refine I.write (x:=l) (e:=l) (by rw [hH]; exact trivial) (.inl rfl) (fun b' u hb hu=>(Heap.get?_update_other s.heap (Obj.mapSeq f) (Ne.symm hb)).trans hu) ⟨_,q⟩ ?_
 exact ⟨hz,its',_,hv,q⟩
theorem Inv.lnew {its:List Value} {t':Nat} (I:Inv X pins σ H s) (hv:Vals ys its) (hz:ys.length≤sizeLine) :
  Inv X pins σ (upd H s.heap.objs.size (.lst ys)) { s with heap:=s.heap.push { cls:=.type "list", data:=.seq its.toArray },toks:=t' } :=
 I.laid (fun _ _ q=>Heap.get?_push_of_some _ q) (Nat.le_refl _) ⟨hz,its,0,hv,Heap.get?_push_size _ rfl⟩
theorem Inv.fresh (I:Inv X pins σ H s):H s.heap.objs.size = none:=I.hok.fresh (Nat.le_refl _)
theorem Inv.lstM (I:Inv X pins σ H s) (hH:H l = some (.lst xs)):xs.length≤sizeLine∧∃ (its:List Value) (n:Nat),Vals xs its∧xs.length = its.length∧s.heap.get? l = some { cls:=.type "list", data:=.seq its.toArray n }:=by
 obtain ⟨z,its,n,r,e⟩:=I.hok l _ hH
 exact ⟨z,its,n,r,r.length,e⟩

theorem zTk {n:Nat} (h:n≤sizeLine):Builtin.List.listTooLong n = false:=by
 unfold Builtin.List.listTooLong
 exact decide_eq_false (by omega)
end

section
variable {X:Cx}

def zU5:V→List V→Hp→VK→Prop:=fun x vs H Q=>∃ l xs y,x = .ref l∧vs = [y]∧H l = some (.lst xs)∧xs.length < sizeLine∧Q .non (upd H l (.lst (xs ++ [y])))
theorem zFl:MtM X "list.append" zU5:=by
 intro pins s σ H x vs v us Q I rx rv h
 obtain ⟨l,xs,y,rfl,rfl,hH,hz,q⟩:=h
 cases rx
 obtain ⟨u,rfl,ru⟩:=rv.one
 obtain ⟨z,its,n,r,hl,e⟩:=I.lstM hH
 refine call_meets F.slot_list_append ⟨_,e,rfl⟩ F.entry_list_append (F.args_list_append_2 _ _) (PySem.list_append l its.toArray n u (by rw [List.size_toArray]; omega)) ⟨e,?_⟩
 refine ⟨.non,_,I.lset (its':=its ++ [u]) hH e (by simp) (r.append (.cons ru .nil)) ?_,rfl,q⟩
 rw [List.length_append,List.length_singleton]
 omega

def zVj:V→List V→Hp→VK→Prop:=fun x vs H Q=>∃ l b xs zs,x = .ref l∧vs = [.ref b]∧H l = some (.lst xs)∧H b = some (.lst zs)∧xs.length + zs.length≤sizeLine∧Q .non (upd H l (.lst (xs ++ zs)))
theorem mt_extend:MtM X "list.extend" zVj:=by
 intro pins s σ H x vs v us Q I rx rv h
 obtain ⟨l,b,xs,zs,rfl,rfl,hH,hB,hz,q⟩:=h
 cases rx
 obtain ⟨u,rfl,ru⟩:=rv.one
 cases ru
 obtain ⟨z,its,n,r,hl,e⟩:=I.lstM hH
 obtain ⟨z2,its2,n2,r2,hl2,e2⟩:=I.lstM hB
 have hsz:its.toArray.size + its2.toArray.size≤sizeLine:=by rw [List.size_toArray,List.size_toArray]; omega
 have hlong:¬ (!its.toArray.isEmpty && Builtin.List.listTooLong (its.toArray.size + its2.toArray.size)) = true:=by
  rw [zTk hsz,Bool.and_false]
  exact Bool.false_ne_true
 refine call_meets F.slot_list_extend ⟨_,e,rfl⟩ F.entry_list_extend (F.args_list_extend_2 _ _)
  (AutoSeq1.list_extend_list_list_0 l its.toArray n b its2.toArray n2 hlong (by rw [List.size_toArray]; omega) (by omega)) ⟨e,e2,?_⟩
 refine ⟨.non,_,I.lset (its':=its ++ its2) hH e (by simp) (r.append r2) ?_,rfl,q⟩
 rw [List.length_append]
 omega

def rCat:R2:=fun x y H Q=>∃ l b xs zs,x = .ref l∧y = .ref b∧H l = some (.lst xs)∧H b = some (.lst zs)∧xs.length + zs.length≤sizeLine∧∀ p,H p = none→Q (.ref p) (upd H p (.lst (xs ++ zs)))
theorem zFr:OpR X (binaryOp .Add) rCat:=by
 intro pins s σ H x y v u Q I rx ry h
 obtain ⟨l,b,xs,zs,rfl,rfl,hH,hB,hz,q⟩:=h
 cases rx
 cases ry
 obtain ⟨z,its,n,r,hl,e⟩:=I.lstM hH
 obtain ⟨z2,its2,n2,r2,hl2,e2⟩:=I.lstM hB
 refine PySem.P.add_list e e2 ?_ (by rw [List.size_toArray,List.size_toArray]; omega)
 have ea:its.toArray ++ its2.toArray = (its ++ its2).toArray:=by simp
 rw [ea]
 exact ⟨.ref _,_,I.lnew (t':=s.toks) (r.append r2) (by rw [List.length_append]; omega),rfl,q _ I.fresh⟩
end

section
variable {prog:Program} {w:World} {A:Around} {E:Value→Shared→Prop} {s:Shared}
set_option maxRecDepth 100000 in
end

section
variable {X:Cx}
end
end L2

namespace Att
open PySem PySem.W PySem.Calls PyProof.Rows

theorem zJl {P:Params} {h:Heap} : ∀ (ns:List Int) (vs:List Value),WellAll P h vs (ns.map WData.int)→IntsAre vs ns:=by
 intro ns
 induction ns with
 | nil =>
  intro vs w
  rw [List.map_nil] at w
  cases w
  exact .nil
 | cons n ns ih =>
  intro vs w
  rw [List.map_cons] at w
  cases w with
  | cons a b =>
   cases a
   exact .cons _ _ (ih _ b)

theorem zR2 {l:OpenLaw} {n:Nat} (hn:l.most = some n) {P:Params} {h:Heap} {args:List WData} {vals:List Value}
  (hpre:l.row.toRowW.claim.pre args = true) (hwl:WellAll P h vals args) :
  ∃ a vs ns,vals = [Value.ref a]∧args = [WData.list (ns.map WData.int)]∧h.get? a = some { cls:=.type "list", data:=.seq vs.toArray }∧IntsAre vs ns∧ns.length≤n:=by
 have hsh:WShape.hasAll [] args [.list .int] = true:=(pre_splitW hpre).1
 have hc:l.pre.holds [] { args:=args } = true:=(pre_splitW hpre).2
 obtain ⟨d,r,rfl,h1,h2⟩:=hasAllW_cons hsh
 obtain rfl:=hasAllW_nil h2
 obtain ⟨xs,rfl,h3⟩:=hasW_list h1
 obtain ⟨ns,rfl⟩:=items_int h3
 have hlen:ns.length≤n:=by
  unfold OpenLaw.pre at hc
  have h4:(WTm.not (.lt (.lit (.int (n:Int))) (.len (.arg 0)))).holds [] { args:=[.list (ns.map .int)] } = true:=by
   have h4:=(holds_andW hc).1
   rw [hn] at h4
   exact h4
  have h5:=condW_of h4 (w_not (w_lt w_lit (w_len_list (w_arg rfl))))
  rw [List.length_map] at h5
  refine Nat.le_of_not_lt fun q=>?_
  have q':(n:Int) < ((ns.length:Nat):Int):=by omega
  first
   | (rw [decide_eq_true q'] at h5; exact absurd h5 (by decide))
   | (simp at h5; omega)
 cases hwl with
 | cons w1 w2 =>
  cases w2
  cases w1 with
  | list ho hall=>exact ⟨_,_,ns,rfl,rfl,ho,zJl ns _ hall,hlen⟩

theorem zRw (l:OpenLaw) (args:List WData):l.row.toRowW.claim.post args (.bool true) args = true :=
 postW_of (r:=l.row.toRowW) (X:=(true == true))
  (show WShape.has [] (.bool true) .bool = true by first | rfl | decide | simp [WShape.has,WShape.arms,WShape.armsAll])
  (show (WTm.eq .res (.lit (.bool true))).value [] { args:=args,res:=some (.bool true),after:=args } = some (.bool (true == true)) from w_eq_bool (w_res rfl) w_lit) rfl

theorem attach_call {l:OpenLaw} {n:Nat} {q:Program} {loose:List Str} {XP:(Str→Option Value)→Heap→Prop} {YP:World→Heap→Prop} {d:DefRec}
  (hn:l.most = some n) (hdf:d.params.defaults = [])
  (call:∀ (w:World) (s₀ s₁:Shared) (mg mb:Str→Option Value) (fa:Addr) (o:Obj) (pm cd doc:Value) (a:Addr) (vs:List Value) (ns:List Int),
   Ground q loose [] XP w s₀ mg mb s₁.heap→YP w s₁.heap →
   s₁.heap.get? fa = some o→o.data = .func (docDef d.name d.params d.body d.scope pm cd doc)→s₁.heap.CodeRec cd d.name→mg d.name = some (.ref fa) →
   s₁.heap.get? a = some { cls:=.type "list", data:=.seq vs.toArray }→IntsAre vs ns→ns.length≤n→s₁.gens = #[] →
   codeAny (model l.prog w) callerA (.call (.ref fa) ⟨[.ref a],[]⟩) (fun r s'=>r = .ok (.ret (.bool true))∧OldK s₁.heap s'.heap∧s'.os = s₁.os∧AllBare s'.gens) s₁) :
  WalkO q loose XP YP l.row.toRowW d [] (fun f vs=>PySem.call f vs):=by
 intro w s₀ s₁ mg mb G Y fa o pm cd doc dV kV ho hd hcd hD hmg hg args vals as hpre hlay hrd hwl hlo
 obtain rfl:dV = .none:=Dflts.none hD hdf
 obtain rfl:kV = .none:=Dflts.noKw hD
 obtain ⟨a,vs,ns,rfl,rfl,hobj,hints,hlen⟩:=zR2 hn hpre hwl
 refine enter_call (codeAny_mono (call w s₀ s₁ mg mb fa o pm cd doc a vs ns G Y ho (fd_plain hd) hcd hmg hobj hints hlen hg) fun r s' hq=>?_)
 obtain ⟨rfl,h2,h3,h4⟩:=hq
 exact ⟨.inl ⟨.bool true,.bool true,[],rfl,fun _=>rfl,.bool true,zRw l _,fun _=>⟨List.Pairwise.nil,fun _ hm=>(nomatch hm)⟩⟩,h2,h3,h4⟩

section
variable {prog:Program} {w:World} {A:Around} {E:Value→Shared→Prop} {s:Shared} {K:Frag}

end
end Att

namespace L2
open PySem PySem.Spec PyProof.Rows

theorem zI5:∀ {vs:List Value} {ns:List Int},IntsAre vs ns→Vals (ns.map V.int) vs
 | _,_,.nil=>.nil
 | _,_,.cons n t h=>.cons ⟨t,rfl⟩ (zI5 h)

def Only (H:Hp):Prop:=∀ b,H b = none∨∃ o xs,H b = some (.frz o (.lst xs))

theorem zS8 {P:Program} {w:World} {K:PySem.W.Frag} {mg mb:Str→Option Value} {CX:CXT} {k:Nat} {fa a:Addr} {fd:FuncData} {x:Str} {sp:Sp} {s₁:Shared} {vs:List Value} {ns:List Int}
  (KX:K.In s₁.heap) (hns:s₁.heap.Ns mainGlobals mg) (hb:s₁.heap.Ns builtinsNs mb) (hbb:∀ x:Str,x ≠ "__name__" → mb x = bootBuiltins x) (hlim:s₁.heap.NoLimit) (hg:s₁.gens = #[])
  (ha:s₁.heap.get? a = some { cls:=.type "list", data:=.seq vs.toArray }) (hi:IntsAre vs ns) (hl:ns.length≤sizeLine) (hr:Room k callerA)
  (F:∀ base:Heap,K.In base→base.Ns mainGlobals mg→FnOk P w K mg base CX k fa fd [x] sp) (hbind:∀ (s:Shared) (u:Value),BindsTo s fd ⟨[u],[]⟩ [(x,u)])
  (hsp:∀ H:Hp,Only H→SqL K H a (ns.map V.int)→sp [.ref a] H (fun v _=>v = .bl true) fun _ _ _=>False)
  (hCX:∀ H e s',CX [] H s₁ (fun _ _ _=>False) e s'→False) :
  codeAny (model P w) callerA (.call (.ref fa) ⟨[.ref a],[]⟩) (fun r s'=>r = .ok (.ret (.bool true))∧OldK s₁.heap s'.heap∧s'.os = s₁.os∧AllBare s'.gens) s₁:=by
 have rv:=zI5 hi
 have lenV:=hi.length
 have core:∀ H:Hp,Only H→SqL K H a (ns.map V.int)→HOk P w H s₁.heap→(∀ b,H b≠none→b = a)→(H a≠none→K.lookup a = none) →
   codeAny (model P w) callerA (.call (.ref fa) ⟨[.ref a],[]⟩) (fun r s'=>r = .ok (.ret (.bool true))∧OldK s₁.heap s'.heap∧s'.os = s₁.os∧AllBare s'.gens) s₁:=by
  intro H hO hS hok hA hK
  have base_of:∀ {b:Addr} {o:Obj},s₁.heap.get? b = some o→H b = none→(hidT s₁.heap H).get? b = some o:=fun e n=>zTr e n
  have noA:∀ {b:Addr} {o:Obj} {es:Array DictEntry} {ep:Nat},s₁.heap.get? b = some o→o.data = .dict es ep→H b = none:=fun {b o es ep} e d=>by
   cases q:H b with
   | none=>rfl
   | some u =>
    have e':b = a:=hA b (by rw [q]; simp)
    subst e'
    rw [ha] at e; cases e
    have d':Data.seq vs.toArray _ = Data.dict es ep:=d
    cases d'
  have nsK:∀ {b:Addr} {m:Str→Option Value},s₁.heap.Ns b m→(hidT s₁.heap H).Ns b m:=fun {b m} ⟨o,es,ep,e,d,r⟩=>⟨o,es,ep,base_of e (noA e d),d,r⟩
  have hKb:K.In (hidT s₁.heap H):=fun b o e=>base_of (KX b o e) (by
   cases q:H b with
   | none=>rfl
   | some u =>
    have e':b = a:=hA b (by rw [q]; simp)
    subst e'
    rw [hK (by rw [q]; simp)] at e; cases e)
  have hM:Mod K mg (hidT s₁.heap H):=⟨hKb,nsK hns,⟨mb,nsK hb,hbb⟩,let ⟨mc,h1,h2⟩:=hlim; ⟨mc,nsK h1,h2⟩⟩
  have e0:Env0 P w K mg (hidT s₁.heap H) callerA [] s₁ H:=⟨rfl,hM,fun b o e=>zUi e,Nat.le_of_eq (zSd _ _),trivial,fun b hb=>absurd (show b∈([]:List Addr) from hb) (by simp),hok,.of_eq hg⟩
  refine codeAny_mono ((F _ hKb (nsK hns)).run callerA [] s₁ H ⟨[.ref a],[]⟩ [.ref a] [.ref a] _ _ hr e0 (hbind s₁ (.ref a)) (.cons rfl .nil) (hsp H hO hS)) fun r s' h=>?_
  cases r with
  | error e=>exact (hCX H e s' h).elim
  | ok fl =>
   cases fl with
   | next=>exact False.elim h
   | brk=>exact False.elim h
   | cont=>exact False.elim h
   | ret u =>
    obtain ⟨v,H',os,bare,un,hok',r',q⟩:=h
    have q':v = .bl true:=q
    subst q'
    obtain rfl:u = Value.bool true:=r'
    refine ⟨rfl,OldK.of_keep fun b o e=>?_,os,bare⟩
    cases q:H b with
    | none=>exact un.keep b o e q (by intro z; exact absurd (show b∈([]:List Addr) from z) (by simp)) (by simp)
    | some u =>
     rcases hO b with z | ⟨ob,xs,z⟩
     ·rw [q] at z; cases z
     ·have z2:=un.frzs b ob _ z
      obtain ⟨e1,_⟩:=hok b _ z
      obtain ⟨e2,_⟩:=hok' b _ z2
      rw [e] at e1; cases e1
      exact e2
 cases hk:K.lookup a with
 | some o =>
  have e:=KX a o hk
  rw [ha] at e
  cases e
  refine core (fun _=>none) (fun _=>.inl rfl) (.inr ⟨_,vs.toArray,_,hk,rfl,rfl,rfl,by rw [List.size_toArray,lenV]; exact hl,by simpa using rv⟩) (fun b u z=>by have z':(none:Option HO) = some u:=z; cases z') (fun b z=>absurd rfl z) fun z=>absurd rfl z
 | none =>
  refine core (fun b=>if b = a then some (.frz { cls:=.type "list", data:=.seq vs.toArray } (.lst (ns.map V.int))) else none) (fun b=>?_) (.inl (.inr ⟨{ cls:=.type "list", data:=.seq vs.toArray },if_pos rfl⟩)) (fun b u z=>?_) (fun b z=>?_) fun _=>hk
  ·by_cases hb:b = a
   ·exact .inr ⟨_,_,if_pos hb⟩
   ·exact .inl (if_neg hb)
  ·by_cases hb:b = a
   ·have z':=(if_pos hb).symm.trans z
    cases z'
    subst hb
    exact ⟨ha,by rw [List.length_map]; exact hl,vs,_,rv,ha⟩
   ·have z':=(if_neg hb).symm.trans z
    cases z'
  ·by_cases hb:b = a
   ·exact hb
   ·exact absurd (if_neg hb) z
end L2

namespace L2
open PySem PySem.Spec PyProof.Rows

end L2

namespace L2
open PySem PySem.Spec PyProof.Rows


abbrev CX0:CXT:=fun _ _ _ _ _ _=>False
abbrev E0:XK:=fun _ _ _=>False
theorem pass0 {X:Cx} : zP9 CX0 X E0:=fun _ _ _ _ _ _ _ h=>h.elim

structure Fun (K:PySem.W.Frag) (x qual:Str) (st:Stmt) (f:Addr) (fd:FuncData):Prop where
 ex:∃ (oc:Value) (od:Option Addr) (kV doc pm:Value) (an:Option Addr) (cdv ct:Value) (osl:Array (Option Value)),
  fd = PySem.W.fnOf x qual (zEs st) (zEd st) (zAn st) .none kV doc pm an cdv ct∧K.lookup f = some ⟨oc,od,.func fd,osl⟩∧PySem.W.codeIn K cdv qual = true
 kp:PySem.W.keepIn K (.ref f) = true
section
variable {P:Program} {w:World} {K:PySem.W.Frag} {mg:Str→Option Value} {base:Heap}
theorem Fun.ok {x qual:Str} {st:Stmt} {f:Addr} {fd:FuncData} {N ps:List Str} {k:Nat} {sp:Sp} (F:Fun K x qual st f fd) (S:zAx N ps (zAn st)) (len:∀ vs H Q E,sp vs H Q E→vs.length = ps.length)
  (hbody:∀ (cdv:Value) (A:Around) (outer:List Env) (s:Shared) (H:Hp) (vs:List V) (Q:VK) (E:XK),Room k (A.deeper (envOfC qual (zAn st) s.heap.objs.size f cdv))→sp vs H Q E →
   ∃ t,PSs (cxOf CX0 P w K mg base N qual (zAn st) f cdv A outer s H E).nox (zEd st) t∧t { nx:=fun _ H'=>Q .non H',rt:=Q } (zMb N vs) H):FnOk P w K mg base CX0 (k + 1) f fd ps sp:=by
 obtain ⟨oc,od,kV,doc,pm,an,cdv,ct,osl,rfl,lk,hcd⟩:=F.ex
 refine fn_of lk hcd S len fun A outer s H vs Q E hr hsp=>?_
 obtain ⟨t,h,q⟩:=hbody cdv A outer s H vs Q E hr hsp
 exact ⟨t,h.nox,q⟩
theorem Fun.binds {x qual:Str} {st:Stmt} {f:Addr} {fd:FuncData} {ps:List Str} (F:Fun K x qual st f fd)
  (h:∀ (kV doc pm:Value) (an:Option Addr) (cdv ct:Value) (us:List Value),us.length = ps.length→bindArgs (PySem.W.fnOf x qual (zEs st) (zEd st) (zAn st) .none kV doc pm an cdv ct) ⟨us,[]⟩ = pure (ps.zip us)):zLn K fd ps []:=by
 obtain ⟨oc,od,kV,doc,pm,an,cdv,ct,osl,rfl,lk,hcd⟩:=F.ex
 exact .all (h kV doc pm an cdv ct)
theorem fun_mk {x qual:Str} {st:Stmt} {f:Addr} {oc:Value} {od an:Option Addr} {osl:Array (Option Value)} {kV doc pm cdv ct:Value} (l:K.lookup f = some ⟨oc,od,.func (PySem.W.fnOf x qual (zEs st) (zEd st) (zAn st) .none kV doc pm an cdv ct),osl⟩)
  (c:PySem.W.codeIn K cdv qual = true) (k:PySem.W.keepIn K (.ref f) = true):Fun K x qual st f (PySem.W.fnOf x qual (zEs st) (zEd st) (zAn st) .none kV doc pm an cdv ct):=⟨⟨oc,od,kV,doc,pm,an,cdv,ct,osl,rfl,l,c⟩,k⟩
end
theorem zA6 {n:Nat} (h:n≤1000):n < sizeLine:=Nat.lt_of_le_of_lt h (by decide)

section
variable {X:Cx}
theorem pv (i:Nat) {x:Str} {pos:Pos} (hN:X.N[i]? = some x:=by rfl) (hv:Vis X.env.scope x:=by first | exact Or.inl rfl | exact Or.inr (Or.inl rfl) | exact Or.inr (Or.inr rfl)) (hd:(x == ("__debug__" : Str)) = false:=by decide)
  (hcd:(x == ("__classdict__" : Str)) = false:=by decide):PE X (.Name x pos) (tVar i):=pe_var hN hv hd hcd
end

theorem iteF {A B:Prop} (h:B):if false = true then A else B:=by
 rw [if_neg Bool.false_ne_true]
 exact h
theorem iteT {A B:Prop} (h:A):if true = true then A else B:=by
 rw [if_pos rfl]
 exact h
def Same (H H':Hp):Prop:=∀ b o,H b = some o→H' b = some o
theorem Same.refl (H:Hp):Same H H:=fun _ _ h=>h
theorem Same.trans {H H1 H2:Hp} (a:Same H H1) (b:Same H1 H2):Same H H2:=fun c o h=>b c o (a c o h)
theorem Same.free {H H':Hp} (e:Same H H') {l:Addr} (h:H' l = Option.none):H l = Option.none:=by
 cases q:H l with
 | none=>rfl
 | some o =>
  rw [e l o q] at h
  cases h
theorem Same.seq {K:PySem.W.Frag} {H H':Hp} {a:Addr} {xs:List V} (e:Same H H') (h:SqL K H a xs):SqL K H' a xs:=by
 rcases h with (h | ⟨o,h⟩) | h
 ·exact .inl (.inl (e _ _ h))
 ·exact .inl (.inr ⟨o,e _ _ h⟩)
 ·exact .inr h

end L2

namespace Sea
def gcdL (ns:List Int):Nat:=ns.foldl (fun g n=>Nat.gcd g n.natAbs) 0
theorem zMj (ns:List Int) (n:Int):gcdL (ns ++ [n]) = Nat.gcd (gcdL ns) n.natAbs:=by
 unfold gcdL
 rw [List.foldl_append]
 rfl
theorem zOf:∀ (ns:List Int) (g:Nat),ns.foldl (fun g n=>Nat.gcd g n.natAbs) g ∣ g∧∀ n∈ns,ns.foldl (fun g n=>Nat.gcd g n.natAbs) g ∣ n.natAbs
 | [],g=>⟨Nat.dvd_refl g,fun _ h=>nomatch h⟩
 | x :: r,g=>by
  obtain ⟨h1,h2⟩:=zOf r (Nat.gcd g x.natAbs)
  refine ⟨Nat.dvd_trans h1 (Nat.gcd_dvd_left _ _),fun n hn=>?_⟩
  rcases List.mem_cons.mp hn with e | e
  ·rw [e]
   exact Nat.dvd_trans h1 (Nat.gcd_dvd_right _ _)
  ·exact h2 n e
theorem zGd {ns:List Int} {n:Int} (h:n∈ns):gcdL ns ∣ n.natAbs:=(zOf ns 0).2 n h
theorem zCw {ns:List Int} {n:Int} (h:n∈ns):(gcdL ns:Int) ∣ n:=Int.ofNat_dvd_left.mpr (zGd h)
theorem zOm {d:Nat} : ∀ (ns:List Int) (g:Nat),d ∣ g→(∀ n∈ns,d ∣ n.natAbs)→d ∣ ns.foldl (fun g n=>Nat.gcd g n.natAbs) g
 | [],_,h,_=>h
 | x :: r,g,h,hr=>zOm r _ (Nat.dvd_gcd h (hr x List.mem_cons_self)) fun n hn=>hr n (List.mem_cons_of_mem _ hn)
theorem zTp {d:Nat} {ns:List Int} (h:∀ n∈ns,d ∣ n.natAbs):d ∣ gcdL ns:=zOm ns 0 (Nat.dvd_zero d) h
theorem zCf {ns:List Int} {n:Int} (h:n∈ns) (h0:n≠0):0 < gcdL ns:=by
 rcases Nat.eq_zero_or_pos (gcdL ns) with e | e
 ·have q:=zGd h
  rw [e,Nat.zero_dvd] at q
  omega
 ·exact e
theorem zGv {ns:List Int} {n:Int} (h:n∈ns) (h0:n≠0):(gcdL ns:Int)≤n.natAbs:=by
 have q:=Nat.le_of_dvd (by omega) (zGd h)
 omega
def lowL (ns:List Int):List Int:=ns.map fun n=>n / (gcdL ns:Int)
theorem zBh {ns:List Int} {n:Int} (h:n∈ns):n / (gcdL ns:Int) * (gcdL ns:Int) = n:=Int.ediv_mul_cancel (zCw h)
theorem zJ1 {ns:List Int} (h:0 < gcdL ns):gcdL (lowL ns) = 1:=by
 have key:gcdL ns * gcdL (lowL ns) ∣ gcdL ns:=by
  refine zTp fun n hn=>?_
  have h1:gcdL (lowL ns) ∣ (n / (gcdL ns:Int)).natAbs:=zGd (List.mem_map.mpr ⟨n,hn,rfl⟩)
  obtain ⟨c,hc⟩:=h1
  have h2:=congrArg Int.natAbs (zBh hn)
  rw [Int.natAbs_mul,Int.natAbs_natCast,hc] at h2
  rw [← h2]
  exact ⟨c,by rw [Nat.mul_comm,Nat.mul_assoc]⟩
 obtain ⟨c,hc⟩:=key
 have h3:gcdL ns * (gcdL (lowL ns) * c) = gcdL ns * 1:=by
  rw [← Nat.mul_assoc,← hc,Nat.mul_one]
 have h4:=Nat.eq_of_mul_eq_mul_left h h3
 exact Nat.dvd_one.mp ⟨c,h4.symm⟩
theorem zOb (x y:Int):gcdL [x,y] = Nat.gcd x.natAbs y.natAbs:=by
 show Nat.gcd (Nat.gcd 0 x.natAbs) y.natAbs = _
 rw [Nat.gcd_zero_left]
theorem zKp (x y z:Int):gcdL [x,y,z] = Nat.gcd (Nat.gcd x.natAbs y.natAbs) z.natAbs:=by
 show Nat.gcd (Nat.gcd (Nat.gcd 0 x.natAbs) y.natAbs) z.natAbs = _
 rw [Nat.gcd_zero_left]
theorem zOs (ns:List Int):gcdL (ns.map fun n=>-n) = gcdL ns:=by
 have key:∀ (l:List Int) (g:Nat),(l.map fun n=>-n).foldl (fun g n=>Nat.gcd g n.natAbs) g = l.foldl (fun g n=>Nat.gcd g n.natAbs) g:=by
  intro l
  induction l with
  | nil=>intro g; rfl
  | cons x r ih =>
   intro g
   show (r.map fun n=>-n).foldl _ (Nat.gcd g (-x).natAbs) = r.foldl _ (Nat.gcd g x.natAbs)
   rw [ih,Int.natAbs_neg]
 exact key ns 0
theorem zLl {a b:Int} (ha:0≤a) (hb:0 < b):Nat.gcd b.toNat (a % b).toNat = Nat.gcd a.toNat b.toNat:=by
 obtain ⟨m,rfl⟩:=Int.eq_ofNat_of_zero_le ha
 obtain ⟨n,rfl⟩:=Int.eq_ofNat_of_zero_le (Int.le_of_lt hb)
 have e:((m:Int) % (n:Int)).toNat = m % n:=by
  rw [← Int.natCast_emod]
  rfl
 show Nat.gcd n ((m:Int) % (n:Int)).toNat = Nat.gcd m n
 rw [e,Nat.gcd_comm m n,Nat.gcd_rec n m,Nat.gcd_comm]
theorem zOl (i:Int):(if i < 0 then -i else i) = (i.natAbs:Int):=by
 split <;> omega
end Sea
namespace Sea
structure zC7 (t b x y:Int):Prop where
 pos:1≤y
 low:Nat.gcd x.natAbs y.natAbs = 1
 eq:x * b = y * t
 xle:x.natAbs≤t.natAbs
 yle:y.natAbs≤b.natAbs
theorem zC5 (n:Int) {g:Int} (hg:0 < g) (h:g ∣ n):(n / g).natAbs≤n.natAbs:=by
 obtain ⟨c,hc⟩:=h
 subst hc
 rw [Int.mul_ediv_cancel_left c (by omega),Int.natAbs_mul]
 exact Nat.le_mul_of_pos_left _ (by omega)
theorem zP0 (t:Int) {b:Int} (hb:b≠0):∃ x y:Int,(lowL (if b < 0 then [t,b].map (fun n=>-n) else [t,b])) = [x,y]∧zC7 t b x y:=by
 have key:∀ (t b:Int),0 < b→∃ x y:Int,lowL [t,b] = [x,y]∧zC7 t b x y:=fun t b hb=>by
  have gp:0 < gcdL [t,b]:=zCf (n:=b) (by simp) (by omega)
  have e1:=zBh (ns:=[t,b]) (n:=t) (by simp)
  have e2:=zBh (ns:=[t,b]) (n:=b) (by simp)
  have gI:(0:Int) < (gcdL [t,b]:Int):=by omega
  refine ⟨t / (gcdL [t,b]:Int),b / (gcdL [t,b]:Int),rfl,?_,?_,?_,zC5 t gI (zCw (by simp)),zC5 b gI (zCw (by simp))⟩
  ·exact Int.ediv_pos_of_pos_of_dvd hb (Int.le_of_lt gI) (zCw (by simp))
  ·have h3:=zJ1 gp
   rw [← zOb]
   exact h3
  ·generalize (gcdL [t,b]:Int) = g at e1 e2
   calc t / g * b = t / g * (b / g * g):=by rw [e2]
    _ = b / g * (t / g * g):=by rw [← Int.mul_assoc,← Int.mul_assoc,Int.mul_comm (t / g)]
    _ = b / g * t:=by rw [e1]
 by_cases h:b < 0
 ·rw [if_pos h]
  obtain ⟨x,y,e,p⟩:=key (-t) (-b) (by omega)
  refine ⟨x,y,e,p.pos,p.low,?_,by have:=p.xle; omega,by have:=p.yle; omega⟩
  have q:=p.eq
  rw [Int.mul_neg,Int.mul_neg] at q
  omega
 ·rw [if_neg h]
  exact key t b (by omega)
end Sea
namespace Sea
theorem zAj (a b:Int) {m n:Nat} (ha:a.natAbs≤m) (hb:b.natAbs≤n):(a * b).natAbs≤m * n:=by
 rw [Int.natAbs_mul]
 exact Nat.mul_le_mul ha hb
theorem big_ok {b:Int} (h:b.natAbs≤10 ^ 40):b.natAbs < 10 ^ 500:=Nat.lt_of_le_of_lt h (by decide +kernel)
end Sea
namespace Sea
theorem zJv {X Y:Int} (h:X≠0∨Y≠0):∃ x y:Int,lowL [X,Y] = [x,y]∧0 < gcdL [X,Y]∧(gcdL [X,Y]≤X.natAbs∨gcdL [X,Y]≤Y.natAbs)∧Nat.gcd x.natAbs y.natAbs = 1∧x * Y - y * X = 0∧0 < x * X + y * Y∧x.natAbs≤X.natAbs∧y.natAbs≤Y.natAbs:=by
 have gp:0 < gcdL [X,Y]:=by
  rcases h with h | h
  ·exact zCf (n:=X) (by simp) h
  ·exact zCf (n:=Y) (by simp) h
 have gI:(0:Int) < (gcdL [X,Y]:Int):=by omega
 have e1:=zBh (ns:=[X,Y]) (n:=X) (by simp)
 have e2:=zBh (ns:=[X,Y]) (n:=Y) (by simp)
 refine ⟨X / (gcdL [X,Y]:Int),Y / (gcdL [X,Y]:Int),rfl,gp,?_,?_,?_,?_,zC5 X gI (zCw (by simp)),zC5 Y gI (zCw (by simp))⟩
 ·rcases h with h | h
  ·exact .inl (Nat.le_of_dvd (by omega) (zGd (by simp)))
  ·exact .inr (Nat.le_of_dvd (by omega) (zGd (by simp)))
 ·rw [← zOb]
  exact zJ1 gp
 ·generalize (gcdL [X,Y]:Int) = g at e1 e2
  generalize X / g = x at e1
  generalize Y / g = y at e2
  rw [← e1,← e2,← Int.mul_assoc,← Int.mul_assoc,Int.mul_comm x y]
  omega
 ·generalize (gcdL [X,Y]:Int) = g at e1 e2 gI
  have f1:0≤X / g * X:=by
   have:X / g * X = X / g * (X / g) * g:=by rw [Int.mul_assoc,e1]
   rw [this]
   exact Int.mul_nonneg (by rw [← Int.natAbs_mul_self]; exact Int.natCast_nonneg _) (Int.le_of_lt gI)
  have f2:0≤Y / g * Y:=by
   have:Y / g * Y = Y / g * (Y / g) * g:=by rw [Int.mul_assoc,e2]
   rw [this]
   exact Int.mul_nonneg (by rw [← Int.natAbs_mul_self]; exact Int.natCast_nonneg _) (Int.le_of_lt gI)
  rcases h with h | h
  ·have:X / g * X≠0:=Int.mul_ne_zero (fun z=>h (by rw [← e1,z,Int.zero_mul])) h
   omega
  ·have:Y / g * Y≠0:=Int.mul_ne_zero (fun z=>h (by rw [← e2,z,Int.zero_mul])) h
   omega
end Sea
namespace Sea
end Sea
namespace Sea
def upL (X Y W:Int):List Int:=if W < 0 then [-X,-Y,-W] else [X,Y,W]
theorem zU1 {X Y W:Int} (h:W≠0):upL (-X) (-Y) (-W) = upL X Y W:=by
 unfold upL
 by_cases c:W < 0
 ·rw [if_pos c,if_neg (by omega)]
 ·rw [if_neg c,if_pos (by omega),Int.neg_neg,Int.neg_neg,Int.neg_neg]
structure zRx (X Y W x y w:Int):Prop where
 pos:1≤w
 low:Nat.gcd (Nat.gcd x.natAbs y.natAbs) w.natAbs = 1
 ex:x * W = X * w
 ey:y * W = Y * w
 xle:x.natAbs≤X.natAbs
 yle:y.natAbs≤Y.natAbs
 wle:w.natAbs≤W.natAbs
theorem zOo {X Y W:Int} (h:0 < W):∃ x y w:Int,lowL [X,Y,W] = [x,y,w]∧zRx X Y W x y w:=by
 have gp:0 < gcdL [X,Y,W]:=zCf (n:=W) (by simp) (by omega)
 have gI:(0:Int) < (gcdL [X,Y,W]:Int):=by omega
 have e1:=zBh (ns:=[X,Y,W]) (n:=X) (by simp)
 have e2:=zBh (ns:=[X,Y,W]) (n:=Y) (by simp)
 have e3:=zBh (ns:=[X,Y,W]) (n:=W) (by simp)
 have lo:=zJ1 gp
 refine ⟨X / (gcdL [X,Y,W]:Int),Y / (gcdL [X,Y,W]:Int),W / (gcdL [X,Y,W]:Int),rfl,Int.ediv_pos_of_pos_of_dvd h (Int.le_of_lt gI) (zCw (by simp)),?_,?_,?_,zC5 X gI (zCw (by simp)),zC5 Y gI (zCw (by simp)),zC5 W gI (zCw (by simp))⟩
 ·rw [← zKp]
  exact lo
 ·generalize (gcdL [X,Y,W]:Int) = g at e1 e3
  generalize X / g = x at e1
  generalize W / g = w at e3
  rw [← e1,← e3,Int.mul_assoc,Int.mul_comm g w]
 ·generalize (gcdL [X,Y,W]:Int) = g at e2 e3
  generalize Y / g = y at e2
  generalize W / g = w at e3
  rw [← e2,← e3,Int.mul_assoc,Int.mul_comm g w]
theorem zIw {X Y W:Int} (h:W≠0):∃ x y w:Int,lowL (upL X Y W) = [x,y,w]∧zRx X Y W x y w:=by
 unfold upL
 by_cases c:W < 0
 ·rw [if_pos c]
  obtain ⟨x,y,w,e,p⟩:=zOo (X:=-X) (Y:=-Y) (W:=-W) (by omega)
  refine ⟨x,y,w,e,p.pos,p.low,?_,?_,by have:=p.xle; omega,by have:=p.yle; omega,by have:=p.wle; omega⟩
  ·have q:=p.ex
   rw [Int.mul_neg,Int.neg_mul] at q
   omega
  ·have q:=p.ey
   rw [Int.mul_neg,Int.neg_mul] at q
   omega
 ·rw [if_neg c]
  exact zOo (by omega)
theorem zK5 {A B C X Y W x y w:Int} (h:W≠0) (p:zRx X Y W x y w) (e:A * X + B * Y = C * W):A * x + B * y = C * w:=by
 refine Int.eq_of_mul_eq_mul_right h ?_
 have e1:(A * x + B * y) * W = A * (x * W) + B * (y * W):=by rw [Int.add_mul,Int.mul_assoc,Int.mul_assoc]
 have e2:A * (X * w) + B * (Y * w) = (A * X + B * Y) * w:=by rw [Int.add_mul,Int.mul_assoc,Int.mul_assoc]
 rw [e1,p.ex,p.ey,e2,e,Int.mul_assoc,Int.mul_comm W w,← Int.mul_assoc]
theorem zQ1 (A1 B1 C1 A2 B2 C2:Int):A1 * (C1 * B2 - B1 * C2) + B1 * (A1 * C2 - C1 * A2) = C1 * (A1 * B2 - B1 * A2):=by
 simp only [Int.mul_sub,Int.mul_comm,Int.mul_left_comm]
 omega
theorem zRe (A1 B1 C1 A2 B2 C2:Int):A2 * (C1 * B2 - B1 * C2) + B2 * (A1 * C2 - C1 * A2) = C2 * (A1 * B2 - B1 * A2):=by
 simp only [Int.mul_sub,Int.mul_comm,Int.mul_left_comm]
 omega
end Sea
namespace Sea
theorem gcd3 (D0 D1 D2:Int):(Nat.gcd ((Nat.gcd D0.natAbs D1.natAbs:Nat):Int).natAbs D2.natAbs:Nat) = gcdL [D0,D1,D2]:=by
 rw [zKp,Int.natAbs_natCast]
end Sea

namespace Sea
theorem zL1 {a b:Int} (h:a≠0∨b≠0):1≤a * a + b * b:=by
 have s1:0≤a * a:=by rw [← Int.natAbs_mul_self]; exact Int.natCast_nonneg _
 have s2:0≤b * b:=by rw [← Int.natAbs_mul_self]; exact Int.natCast_nonneg _
 rcases h with h | h
 ·have:a * a≠0:=Int.mul_ne_zero h h
  omega
 ·have:b * b≠0:=Int.mul_ne_zero h h
  omega
end Sea
namespace Sea
end Sea

namespace Sea
end Sea

namespace L2
open PySem PySem.Spec PyProof.Rows

structure CC where
 C:Addr
 s:Shared
 H:Hp
 fp:List Addr

def zHq (env:Env):List (Str × NameKind)→List (Str × Addr)→List (Str × Addr)
 | [],cs=>cs
 | (n,k) :: r,cs=>zHq env r (if (k == NameKind.free) = true then (n,(env.cells.lookup n).getD 0) :: cs else cs)
theorem zQ4 {scope:Scope} {env:Env} (h:∀ x∈scope.names,x.2 = .free→∃ c,env.cells.lookup x.1 = some c):closureFor scope env = pure (zHq env scope.names []):=by
 simp only [closureFor]
 have key:∀ (names:List (Str × NameKind)) (cs:List (Str × Addr)),(∀ x∈names,x.2 = .free→∃ c,env.cells.lookup x.1 = some c) →
  (forIn names cs (fun (x:Str × NameKind) (r:List (Str × Addr))=>match x with | (name,kind)=>if (kind == NameKind.free) = true then (do let a ← cellOf env name; pure (ForInStep.yield ((name,a) :: r))) else pure (ForInStep.yield r)):Sem (List (Str × Addr))) = pure (zHq env names cs):=by
  intro names
  induction names with
  | nil=>intro cs _; rfl
  | cons x r ih =>
   intro cs hx
   obtain ⟨n,k⟩:=x
   rw [List.forIn_cons]
   have hr:=ih (if (k == NameKind.free) = true then (n,(env.cells.lookup n).getD 0) :: cs else cs) fun y hy=>hx y (List.mem_cons_of_mem _ hy)
   by_cases hk:(k == NameKind.free) = true
   ·obtain ⟨c,hc⟩:=hx (n,k) List.mem_cons_self (by simpa using hk)
    have e:cellOf env n = pure c:=by unfold cellOf; rw [hc]
    rw [if_pos hk] at hr
    have hc':env.cells.lookup n = some c:=hc
    rw [hc'] at hr
    show (((if (k == NameKind.free) = true then (do let a ← cellOf env n; pure (ForInStep.yield ((n,a) :: cs))) else pure (ForInStep.yield cs)):Sem _) >>= _) = _
    rw [if_pos hk,e]
    refine Eq.trans ?_ (hr.trans ?_)
    ·rfl
    ·rw [zHq,if_pos hk,hc']
   ·rw [if_neg hk] at hr
    show (((if (k == NameKind.free) = true then (do let a ← cellOf env n; pure (ForInStep.yield ((n,a) :: cs))) else pure (ForInStep.yield cs)):Sem _) >>= _) = _
    rw [if_neg hk]
    refine Eq.trans ?_ (hr.trans ?_)
    ·rfl
    ·rw [zHq,if_neg hk]
 exact congrArg (fun (z:Sem (List (Str × Addr)))=>z >>= fun cs=>pure cs) (key scope.names [] h)
theorem zFb {env:Env} : ∀ (names:List (Str × NameKind)) (cs:List (Str × Addr)),(∀ x∈names,x.2 = .free→∃ c,env.cells.lookup x.1 = some c) →
  (∀ x c,cs.lookup x = some c→env.cells.lookup x = some c)→∀ x c,(zHq env names cs).lookup x = some c→env.cells.lookup x = some c
 | [],_,_,hc=>hc
 | (n,k) :: r,cs,h,hc=>by
  refine zFb r _ (fun y hy=>h y (List.mem_cons_of_mem _ hy)) fun x c=>?_
  by_cases hk:(k == NameKind.free) = true
  ·rw [if_pos hk]
   obtain ⟨d,hd⟩:=h (n,k) List.mem_cons_self (by simpa using hk)
   have hd':env.cells.lookup n = some d:=hd
   intro e
   rw [List.lookup_cons] at e
   cases hx:x == n with
   | true =>
    rw [hx,hd'] at e
    have ex:x = n:=by simpa using hx
    rw [ex,hd']
    exact e
   | false =>
    rw [hx] at e
    exact hc x c e
  ·rw [if_neg hk]
   exact hc x c
theorem zJo {env:Env} : ∀ (names:List (Str × NameKind)) (cs:List (Str × Addr)) (x:Str),((x,NameKind.free)∈names∨∃ c,cs.lookup x = some c)→∃ c,(zHq env names cs).lookup x = some c
 | [],_,_,h=>h.elim (fun z=>nomatch z) id
 | (n,k) :: r,cs,x,h=>by
  refine zJo r _ x ?_
  by_cases hk:(k == NameKind.free) = true
  ·rw [if_pos hk]
   cases hx:x == n with
   | true=>exact .inr ⟨_,by rw [List.lookup_cons,hx]⟩
   | false =>
    rcases h with h | ⟨c,h⟩
    ·rcases List.mem_cons.mp h with e | e
     ·injection e with e1 _
      subst e1
      simp at hx
     ·exact .inl e
    ·exact .inr ⟨c,by rw [List.lookup_cons,hx]; exact h⟩
  ·rw [if_neg hk]
   rcases h with h | h
   ·rcases List.mem_cons.mp h with e | e
    ·injection e with _ e2
     subst e2
     exact absurd rfl hk
    ·exact .inl e
   ·exact .inr h
theorem zH9 {env:Env} : ∀ {names:List (Str × NameKind)} {x:Str},names.lookup x = some .free →
  (names.map fun (n,k)=>if (k == NameKind.free && env.scope.kind == .function && env.kindOf n == some .cell) then (n,NameKind.cell) else (n,k)).lookup x = some .cell ∨
  (names.map fun (n,k)=>if (k == NameKind.free && env.scope.kind == .function && env.kindOf n == some .cell) then (n,NameKind.cell) else (n,k)).lookup x = some .free
 | [],_,h=>by simp at h
 | (n,k) :: r,x,h=>by
  have ih:=@zH9 env r x
  show List.lookup x ((if (k == NameKind.free && env.scope.kind == .function && env.kindOf n == some .cell) = true then (n,NameKind.cell) else (n,k)) :: _) = _∨List.lookup x ((if (k == NameKind.free && env.scope.kind == .function && env.kindOf n == some .cell) = true then (n,NameKind.cell) else (n,k)) :: _) = _
  by_cases hc:(k == NameKind.free && env.scope.kind == .function && env.kindOf n == some .cell) = true
  ·rw [if_pos hc]
   cases hx:x == n with
   | true=>exact .inl (by rw [List.lookup_cons,hx])
   | false =>
    rw [List.lookup_cons,hx] at h
    rw [List.lookup_cons,hx]
    exact ih h
  ·rw [if_neg hc]
   cases hx:x == n with
   | true =>
    rw [List.lookup_cons,hx] at h
    exact .inr (by rw [List.lookup_cons,hx]; exact h)
   | false =>
    rw [List.lookup_cons,hx] at h
    rw [List.lookup_cons,hx]
    exact ih h
theorem zF2 {env:Env} : ∀ {names:List (Str × NameKind)} {x:Str} {j:NameKind},(∀ y∈names,y.2≠.cell)→(j = .cell∨j = .free) →
  (names.map fun (n,k)=>if (k == NameKind.free && env.scope.kind == .function && env.kindOf n == some .cell) then (n,NameKind.cell) else (n,k)).lookup x = some j→(x,NameKind.free)∈names
 | [],_,_,_,_,h=>by simp at h
 | (n,k) :: r,x,j,hn,hj,h=>by
  have ih:=@zF2 env r x j (fun y hy=>hn y (List.mem_cons_of_mem _ hy)) hj
  have hk0:k≠.cell:=hn (n,k) List.mem_cons_self
  replace h:List.lookup x ((if (k == NameKind.free && env.scope.kind == .function && env.kindOf n == some .cell) = true then (n,NameKind.cell) else (n,k)) :: (r.map fun (n,k)=>if (k == NameKind.free && env.scope.kind == .function && env.kindOf n == some .cell) then (n,NameKind.cell) else (n,k))) = some j:=h
  by_cases hc:(k == NameKind.free && env.scope.kind == .function && env.kindOf n == some .cell) = true
  ·rw [if_pos hc] at h
   have hf:k = .free:=by
    simp only [Bool.and_eq_true] at hc
    simpa using hc.1.1
   cases hx:x == n with
   | true =>
    have ex:x = n:=by simpa using hx
    subst ex
    rw [← hf]
    exact List.mem_cons_self
   | false =>
    rw [List.lookup_cons,hx] at h
    exact List.mem_cons_of_mem _ (ih h)
  ·rw [if_neg hc] at h
   cases hx:x == n with
   | true =>
    rw [List.lookup_cons,hx] at h
    have ex:x = n:=by simpa using hx
    have ek:k = j:=Option.some.inj h
    subst ex
    rcases hj with hj | hj
    ·exact absurd (ek.trans hj) hk0
    ·rw [← hj,← ek]
     exact List.mem_cons_self
   | false =>
    rw [List.lookup_cons,hx] at h
    exact List.mem_cons_of_mem _ (ih h)

def zCq (X:Cx) (N:List Str) (scope:Scope) (c:CC):Cx where
 prog:=X.prog
 w:=X.w
 K:=X.K
 mg:=X.mg
 base:=X.base
 A:=X.A
 N:=N
 s₀:=c.s
 H₀:=c.H
 env:=compEnvC scope (zHq X.env scope.names []) c.C X.env
 outer:=X.stack
 stack:=X.stack
 ex:=c.fp
 fn:=fun _=>false
 calm:=X.calm
 pn:=[]
 xe:=fun _ _=>False

def zMr (X:Cx) (scope:Scope):List (Str × Nat)→Prop
 | []=>True
 | p :: r=>(X.N[p.2]? = some p.1∧scope.names.lookup p.1 = some .free∧(X.env.kindOf p.1 = some .cell∨X.env.kindOf p.1 = some .free))∧zMr X scope r
theorem zMr.mem {X:Cx} {scope:Scope} : ∀ {caps:List (Str × Nat)},zMr X scope caps→∀ p∈caps,X.N[p.2]? = some p.1∧scope.names.lookup p.1 = some .free∧(X.env.kindOf p.1 = some .cell∨X.env.kindOf p.1 = some .free)
 | [],_,_,h=>nomatch h
 | q :: r,h,p,hp=>by
  rcases List.mem_cons.mp hp with e | e
  ·rw [e]; exact h.1
  ·exact zMr.mem h.2 p e
structure zEx (X:Cx) (caps:List (Str × Nat)) (scope:Scope):Prop where
 kind:scope.kind = .function
 nocell:∀ y∈scope.names,y.2≠.cell
 loc:∀ y∈scope.names,y.2 = .local→scope.names.lookup y.1 = some .local
 clos:(scope.names.all fun x=>!(x.2 == .free) || (X.env.cells.lookup x.1).isSome) = true
 cap:zMr X scope caps
theorem zEx.cells {X:Cx} {caps:List (Str × Nat)} {scope:Scope} (S:zEx X caps scope):∀ x∈scope.names,x.2 = .free→∃ c,X.env.cells.lookup x.1 = some c:=fun x hx hf=>by
 have h:=List.all_eq_true.mp S.clos x hx
 rw [hf] at h
 simp only [Bool.or_eq_true] at h
 rcases h with h | h
 ·exact absurd h (by decide)
 ·exact Option.isSome_iff_exists.mp h

def zOt (caps:List (Str × Nat)) (nt:Nat) (σ:St):St:=List.replicate nt none ++ caps.map fun p=>(σ[p.2]?).join

def PIfs (Y:Cx) (ifs:List Expr) (t:TT):Prop :=
 ∀ (pins:List (Addr × Obj)) (s:Shared) (σ:St) (H:Hp) (Q:Bool→Hp→Prop),Inv Y pins σ H s→t σ H Q →
  wpAny (model Y.prog Y.w) Y.A (forIn ifs true fun c r=>if r = true then do let ok ← isTrue c Y.env (eval c Y.env); pure (ForInStep.yield ok) else pure (ForInStep.yield r)) (TP Y pins σ Q) Y.xe s
def tYes:TT:=fun _ H Q=>Q true H
theorem zBg {Y:Cx} : PIfs Y [] tYes:=fun _ _ _ H _ I h=>wpAny_tests_nil ⟨H,I,h⟩
theorem zS5 {Y:Cx} {c:Expr} {t:TT} (h:PT Y c t):PIfs Y [c] t:=fun pins s σ H Q I q=>wpAny_tests_one (h pins s σ H Q I q)

def zJb (J:It) (D:Addr) (g:TG) (tt:TT) (te:TE) (σ0:St) (H1:Hp) (Q:VK):Prop :=
 ∃ W:Nat→Nat→St→List V→Hp→Prop,(∃ m,W 0 m σ0 [] (upd H1 D (.lst [])))∧∀ i m σ ys H,W i m σ ys H→H D = some (.lst ys) ∧
  ((J.stop i H∧Q (.ref D) H)∨(J.go i H∧∃ N:St→List V→Hp→Prop,(∀ σ' zs H',N σ' zs H'→∃ m',m' < m∧W (i + 1) m' σ' zs H')∧∀ x H',J.yld i H x H'→g x σ H' fun σ2 H2=>tt σ2 H2 fun b H3 =>
   if b = true then te σ2 H3 fun y H4=>H4 D = some (.lst ys)∧ys.length < sizeLine∧N σ2 (ys ++ [y]) (upd H4 D (.lst (ys ++ [y]))) else N σ2 ys H3))
def zUt (nt:Nat) (caps:List (Str × Nat)) (wi:TI) (g:CC→TG) (tt:CC→TT) (te:CC→TE):TE:=fun σ H Q =>
 wi σ H fun J H1=>∀ (c:CC) (D:Addr),H1 D = none→zJb J D (g c) (tt c) (te c) (zOt caps nt σ) H1 Q

theorem thnF {α:Type} {t:Sem α} {Q Q':α→Shared→Prop} {M:Model} {A:Around} {E:Value→Shared→Prop} {s:Shared} (h:wpAny M A t Q (fun _ _=>False) s) (hQ:∀ a s,Q a s→Q' a s):wpAny M A t Q' E s:=wpAny_mono h hQ fun _ _ x=>x.elim
theorem Un.same {fs ex:List Addr} {H H':Hp} {h h1 h2:Heap} {C:Addr} (u:Un fs ex H H' h h1) (sb:Heap.SameBut C h1 h2) (hC:h.get? C = none):Un fs ex H H' h h2:=by
 have ne:∀ b o,h.get? b = some o→b≠C:=fun b o e z=>by rw [z,hC] at e; cases e
 refine ⟨fun b o e n hb hx=>(sb.2 b (ne b o e)).trans (u.keep b o e n hb hx),fun b o e n hb hx=>?_,u.free,fun b o e hx=>?_,u.tups,u.frzs,u.tbls⟩
 ·obtain ⟨sl,q⟩:=u.slot b o e n hb hx
  exact ⟨sl,(sb.2 b (ne b o e)).trans q⟩
 ·obtain ⟨o',q⟩:=u.there b o e hx
  exact ⟨o',(sb.2 b (ne b o e)).trans q⟩
theorem HOk.same {P:Program} {w:World} {H:Hp} {h h':Heap} {C:Addr} (k:HOk P w H h) (sb:Heap.SameBut C h h') (hC:H C = none):HOk P w H h':=fun b o e=>by
 refine (k b o e).stay (fun c v hc q=>(sb.2 c ?_).trans q) (fun _ q=>q) fun _ _ q=>q
 rintro rfl
 rcases hc with z | z
 ·rw [z,e] at hC; cases hC
 ·rw [hC] at z; cases z

section
variable {X:Cx} {T:List Str} {caps:List (Str × Nat)} {scope:Scope} {elt target iter:Expr} {ifs:List Expr} {pos:Pos} {wi:TI} {g:CC→TG} {tt:CC→TT} {te:CC→TE}

theorem zKw {pins:List (Addr × Obj)} {σ:St} {H2:Hp} {s2:Shared} {fp:List Addr} {C D:Addr} {h1:Heap} {tk:Nat} {m:Str→Option Value} (S:zEx X caps scope) (I2:Inv X pins σ H2 s2) (f2:∀ b∈fp,FpOk X pins H2 b)
  (hfp:∀ b∈fp,b < s2.heap.objs.size) (hD:s2.heap.objs.size≤D) (hC:s2.heap.objs.size≤C) (hDC:C≠D) (old:∀ b o,s2.heap.get? b = some o→h1.get? b = some o)
  (acc:∃ n,h1.get? D = some { cls:=.type "list", data:=.seq ([]:List Value).toArray n }) (hn:h1.Ns C m) :
  Inv (zCq X (T ++ caps.map (·.1)) scope ⟨C,s2,H2,fp⟩) [] (zOt caps T.length σ) (upd H2 D (.lst [])) { s2 with heap:=h1,toks:=tk }:=by
 have cs:=zFb (env:=X.env) scope.names [] S.cells (fun _ _ z=>by cases z)
 have cellOld:∀ x c,X.env.cells.lookup x = some c→c < s2.heap.objs.size:=fun x c e=>by
  obtain ⟨v,q⟩:=I2.cell x c e
  exact q.lt
 have stkNo:∀ b∈fp,b ∉ frs X.stack:=fun b hb z=>by
  rcases List.mem_cons.mp (I2.stkSub b z) with e | e
  ·exact (f2 b hb).2.1 e
  ·exact (f2 b hb).2.2.1 e
 have fr:H2 D = none:=I2.hok.fresh hD
 refine ⟨⟨I2.ok.mod,S.kind,I2.ok.glob,I2.ok.blt,hC,fun x y c e1 e2=>I2.ok.inj x y c (cs x c e1) (cs y c e2),fun x hx=>?_,fun _ _ z=>absurd (show false = true from z) Bool.false_ne_true,I2.ok.hd,I2.ok.frames,.inl rfl,fun b hb=>⟨?_,fun x c e=>(f2 b hb).2.2.2.2.1 x c (cs x c e)⟩,
  fun b o e=>I2.bs b o e,Nat.le_trans I2.ok.bsz I2.sz,fun b o e hb=>?_,stkNo,I2.stack,I2.stkFree⟩,rfl,I2.bare,?_,⟨m,hn,fun i x v e1 e2 e3=>?_⟩,fun x c e=>?_,?_,fun x c e=>?_,fun p hp=>absurd (show p∈([]:List (Addr × Obj)) from hp) (by simp),?_,?_⟩
 ·have hx':(x,NameKind.free)∈scope.names:=by
   rcases hx with z | z
   ·exact zF2 S.nocell (.inl rfl) z
   ·exact zF2 S.nocell (.inr rfl) z
  exact zJo scope.names [] x (.inl hx')
 ·exact Nat.ne_of_lt (Nat.lt_of_lt_of_le (hfp b hb) hC)
 ·rcases (f2 b hb).2.2.2.1 with z | z
  ·exact I2.ok.noex b o e z
  ·exact absurd (Nat.lt_of_lt_of_le (Heap.lt_size (show X.base.get? b = some o from e)) (Nat.le_trans I2.ok.bsz z)) (Nat.lt_irrefl _)
 ·exact Un.laid old hD fr
 ·have hlt:¬ i < T.length:=fun hi=>by
   unfold zOt at e2
   rw [List.getElem?_append_left (by simpa using hi),List.getElem?_replicate,if_pos hi] at e2
   cases e2
  have hge:T.length≤i:=Nat.le_of_not_lt hlt
  have e1':(T ++ caps.map (·.1))[i]? = some x:=e1
  rw [List.getElem?_append_right hge,List.getElem?_map] at e1'
  unfold zOt at e2
  rw [List.getElem?_append_right (by simpa using hge),List.length_replicate,List.getElem?_map] at e2
  cases hp:caps[i - T.length]? with
  | none=>rw [hp] at e1'; cases e1'
  | some p =>
   rw [hp] at e1' e2
   have ex:p.1 = x:=Option.some.inj e1'
   have ev:(σ[p.2]?).join = some v:=Option.some.inj e2
   obtain ⟨hN,hf,hk⟩:=S.cap.mem p (List.mem_of_getElem? hp)
   have ev':σ[p.2]? = some (some v):=by
    cases hq:σ[p.2]? with
    | none=>rw [hq] at ev; cases ev
    | some o =>
     rw [hq] at ev
     exact congrArg some ev
   obtain ⟨m2,_,hl2⟩:=I2.loc
   obtain ⟨u,ru,l⟩:=hl2 p.2 p.1 v hN ev' (hk.elim (fun z=>.inr (.inl z)) fun z=>.inr (.inr z))
   refine ⟨u,ru,.inr ⟨?_,?_⟩⟩
   ·rw [← ex]
    exact zH9 (env:=X.env) hf
   ·rcases l with ⟨kl,_⟩ | ⟨_,c,ec,hcell⟩
    ·rcases hk with z | z <;> (rw [kl] at z; cases z)
    ·obtain ⟨d,hd⟩:=zJo (env:=X.env) scope.names [] p.1 (.inl (PySem.mem_of_lookup hf))
     have hd':=cs p.1 d hd
     rw [ec] at hd'
     cases hd'
     obtain ⟨o,ho,hod⟩:=hcell
     exact ⟨c,by rw [← ex]; exact hd,o,old c o ho,hod⟩
 ·obtain ⟨v,o,ho,hd⟩:=I2.cell x c (cs x c e)
  exact ⟨v,o,old c o ho,hd⟩
 ·show upd H2 D (.lst []) C = none
  rw [zA5 hDC]
  exact I2.hok.fresh hC
 ·show upd H2 D (.lst []) c = none
  rw [zA5 (Nat.ne_of_lt (Nat.lt_of_lt_of_le (cellOld x c (cs x c e)) hD))]
  exact I2.freeC x c (cs x c e)
 ·obtain ⟨n,e⟩:=acc
  exact I2.hok.laid old hD ⟨Nat.zero_le _,[],n,.nil,e⟩
 ·show (zOt caps T.length σ).length = (T ++ caps.map (·.1)).length
  unfold zOt
  rw [List.length_append,List.length_append,List.length_map,List.length_map,List.length_replicate]

theorem zC2 (S:zEx X caps scope) (hc:X.calm = true) (hi:PI X target iter wi) (hg:∀ c,PG (zCq X (T ++ caps.map (·.1)) scope c) target (g c)) (ht:∀ c,PIfs (zCq X (T ++ caps.map (·.1)) scope c) ifs (tt c)) (he:∀ c,PE (zCq X (T ++ caps.map (·.1)) scope c) elt (te c))
  (hs:∀ x,foldedSetIterable iter X.env x = pure x:=by intro _; rfl):PE X (.ListComp elt [⟨target,iter,ifs,0⟩] scope pos) (zUt T.length caps wi g tt te):=by
 intro pins s σ H Q I h
 rw [eval_ListComp]
 refine wpAny_comprehension_free (use:=none) rfl hs (zQ4 S.cells) S.kind S.loc (thn (hi pins s σ H _ I h) fun v s1 h1=>thn h1 fun itv s2 h2=>?_)
 obtain ⟨it,fp,tn,J,H2,e,I2,TT,st2,f2,q2⟩:=h2
 subst e
 refine wpAny_newObj_type (wpAny_newFunctionEnv S.nocell (by intro y hy; simp at hy) (fun h1 hn hsb=>?_) S.kind)
 dsimp only at hn hsb ⊢
 generalize hg2:s2.heap.push { cls:=.type "list", dict:=none,data:=.seq ([]:List Value).toArray } = G at hn hsb ⊢
 have hCv:G.objs.size = s2.heap.objs.size + 1:=by rw [← hg2,Heap.size_push]
 have hDC:G.objs.size≠s2.heap.objs.size:=by rw [hCv]; exact Nat.succ_ne_self _
 have hCle:s2.heap.objs.size≤G.objs.size:=by rw [hCv]; exact Nat.le_succ _
 have old:∀ b o,s2.heap.get? b = some o→h1.get? b = some o:=fun b o e=>hsb.extBut b o (Nat.ne_of_lt (Nat.lt_of_lt_of_le (Heap.lt_size e) hCle)) (Heap.get?_push_of_some _ (hg2 ▸ Heap.get?_push_of_some _ e))
 have hacc:∃ n,h1.get? s2.heap.objs.size = some { cls:=.type "list", data:=.seq ([]:List Value).toArray n }:=⟨_,hsb.extBut _ _ (Ne.symm hDC) (Heap.get?_push_of_some _ (hg2 ▸ Heap.get?_push_size _ rfl))⟩
 have hfp:∀ b∈fp,b < s2.heap.objs.size:=fun b hb=>by
  obtain ⟨o,e,_⟩:=TT.obj _ _ st2 b hb
  exact Heap.lt_size e
 have cs:=zFb (env:=X.env) scope.names [] S.cells (fun _ _ z=>by cases z)
 have I0:=zKw (T:=T) (tk:=s2.toks + ([]:List (Str × Value)).length) S I2 f2 hfp (Nat.le_refl _) hCle hDC old hacc hn
 have st0:tn 0 h1:=TT.keep _ _ _ st2 fun b _ o e=>old b o e
 obtain ⟨W,⟨m0,w0⟩,turn⟩:=q2 ⟨G.objs.size,s2,H2,fp⟩ s2.heap.objs.size (I2.hok.fresh (Nat.le_refl _))
 have fr0:∀ b∈fp,upd H2 s2.heap.objs.size (.lst []) b = none:=fun b hb=>by
  rw [zA5 (Nat.ne_of_lt (hfp b hb))]
  exact (f2 b hb).1
 have stat:∀ {H':Hp},(∀ b∈fp,H' b = none)→∀ b∈fp,FpOk (zCq X (T ++ caps.map (·.1)) scope ⟨G.objs.size,s2,H2,fp⟩) [] H' b:=fun {H'} hn' b hb =>
  ⟨hn' b hb,Nat.ne_of_lt (Nat.lt_of_lt_of_le (hfp b hb) hCle),I0.ok.exfs b hb,.inl hb,fun x c e=>(f2 b hb).2.2.2.2.1 x c (cs x c e),fun p hp=>absurd (show p∈([]:List (Addr × Obj)) from hp) (by simp)⟩
 have loop:codeAny (model X.prog X.w) X.A (.compLoop (.ListComp elt [⟨target,iter,ifs,0⟩] scope pos) 0 (.ref it) (.ref s2.heap.objs.size) (compEnvC scope (zHq X.env scope.names []) G.objs.size X.env))
   (compPost (model X.prog X.w) X.A X.xe none (EP X pins σ Q) (.ref s2.heap.objs.size) G.objs.size) { s2 with heap:=h1,toks:=s2.toks + ([]:List (Str × Value)).length }:=by
  refine codeAny_loop rfl (fun n s'=>∃ i σ' ys H',Inv (zCq X (T ++ caps.map (·.1)) scope ⟨G.objs.size,s2,H2,fp⟩) [] σ' H' s'∧tn i s'.heap∧(∀ b∈fp,H' b = none)∧W i n σ' ys H') (fun n s3 hI=>?_) m0 ⟨0,_,[],_,I0,st0,fr0,w0⟩
  obtain ⟨i,σ3,ys,H3,I3,st3,fr3,w3⟩:=hI
  show wpAny _ X.A ((compTurn (.ListComp elt [⟨target,iter,ifs,0⟩] scope pos) 0 (.ref it) (.ref s2.heap.objs.size) (compEnvC scope (zHq X.env scope.names []) G.objs.size X.env)).onRaise (fun x=>do noteFrame x (compEnvC scope (zHq X.env scope.names []) G.objs.size X.env); theTreesLotGoes x)) _ _ s3
  refine wpAny_noted ?_
  rw [compTurn_list]
  refine wpAny_bind (wpAny_standAt (wpAny_bind ?_))
  obtain ⟨hD3,turn3⟩:=turn i n σ3 ys H3 w3
  rcases turn3 with ⟨stop,qn⟩ | ⟨go,N,hN,step⟩
  ·refine thnF (TT.done (zCq X (T ++ caps.map (·.1)) scope ⟨G.objs.size,s2,H2,fp⟩) rfl rfl rfl hc i [] s3 σ3 H3 _ I3 (stat fr3) st3 stop) fun r s4 ⟨hr,I4⟩=>?_
   subst hr
   refine wpAny_pure ?_
   show ∃ m,s4.heap.Ns G.objs.size m∧∀ h',Heap.SameBut G.objs.size s4.heap h'→EP X pins σ Q (.ref s2.heap.objs.size) { s4 with heap:=h' }
   obtain ⟨m4,hn4,_⟩:=I4.loc
   refine ⟨m4,hn4,fun h' sb=>⟨.ref s2.heap.objs.size,H3,?_,rfl,qn⟩⟩
   refine I2.call' (s':={ s4 with heap:=h' }) (ch:=fp) I4.os (Un.same I4.base sb (Heap.get?_none_of_le hCle)) (HOk.same I4.hok sb I4.free) I4.bare fun b hb=>?_
   obtain ⟨_,f1,_,f3,f4,f5⟩:=f2 b hb
   exact ⟨f3,f1,f4,f5⟩
  ·refine thnF (TT.item (zCq X (T ++ caps.map (·.1)) scope ⟨G.objs.size,s2,H2,fp⟩) rfl rfl rfl hc i [] s3 σ3 H3 _ I3 (stat fr3) st3 go) fun r s4 ⟨u,hr,h4⟩=>?_
   subst hr
   refine wpAny_bind (thnF h4 fun _ s5 ⟨x,H5,I5,r5,y5,st5,fr5⟩=>?_)
   have I5':=I5.pinned (stat fr5) (TT.obj _ _ st5)
   refine wpAny_bind (thnF (hg _ _ s5 σ3 H5 x u _ I5' r5 (step x H5 y5)) fun _ s6 ⟨σ6,H6,I6,q6⟩=>?_)
   have again:∀ {s7:Shared} {σ7:St} {zs:List V} {H7:Hp},Inv (zCq X (T ++ caps.map (·.1)) scope ⟨G.objs.size,s2,H2,fp⟩) ([] ++ zKs fp s5.heap) σ7 H7 s7→N σ7 zs H7 →
     ∃ m,m < n∧∃ i σ' ys H',Inv (zCq X (T ++ caps.map (·.1)) scope ⟨G.objs.size,s2,H2,fp⟩) [] σ' H' s7∧tn i s7.heap∧(∀ b∈fp,H' b = none)∧W i m σ' ys H':=fun {s7 σ7 zs H7} I7 n7=>by
    obtain ⟨m',hm,w7⟩:=hN σ7 zs H7 n7
    refine ⟨m',hm,i + 1,σ7,zs,H7,I7.unpinned,TT.keep _ _ _ st5 fun b hb o e=>(I7.pin (b,o) (List.mem_append_right _ (List.mem_append_right _ (zEa hb e)))).1,fun b hb=>?_,w7⟩
    obtain ⟨o,e,d⟩:=TT.obj _ _ st5 b hb
    exact (I7.pin (b,o) (List.mem_append_right _ (List.mem_append_right _ (zEa hb e)))).2.1
   refine wpAny_bind (thnF (ht _ _ s6 σ6 H6 _ I6 q6) fun ok s7 ⟨H7,I7,q7⟩=>?_)
   cases ok with
   | false=>exact wpAny_pure ⟨rfl,again I7 q7⟩
   | true =>
    refine wpAny_bind (wpAny_bind (thnF (he _ _ s7 σ6 H7 _ I7 q7) fun y s8 ⟨yv,H8,I8,r8,hD8,hl8,q8⟩=>?_))
    refine wpAny_bind (thnF (zFl _ s8 σ6 H8 (.ref s2.heap.objs.size) [yv] (.ref s2.heap.objs.size) [y] (fun _ H9=>N σ6 (ys ++ [yv]) H9) I8 rfl (.cons r8 .nil) ⟨_,ys,yv,rfl,rfl,hD8,hl8,q8⟩) fun _ s9 ⟨_,H9,I9,_,q9⟩=>?_)
    exact wpAny_pure (wpAny_pure ⟨rfl,again I9 q9⟩)
 exact codeAny_compStart_list loop (TT.self _ 0 _ _ _ st0 loop)
end
end L2

namespace L2
open PySem PySem.Spec PyProof.Rows

theorem zCo:bootBuiltins "len" = some (.builtin "len"):=by decide +kernel
theorem zFh:bootBuiltins "abs" = some (.builtin "abs"):=by decide +kernel
theorem zOk:bootBuiltins "all" = some (.builtin "all"):=by decide +kernel
theorem bt_min:bootBuiltins "min" = some (.builtin "min"):=by decide +kernel
theorem zA4:bootBuiltins "isinstance" = some (.builtin "isinstance"):=by decide +kernel
theorem zQo:bootBuiltins "int" = some (.type "int"):=by decide +kernel
theorem zNt:bootBuiltins "bool" = some (.type "bool"):=by decide +kernel
theorem zT8:bootBuiltins "str" = some (.type "str"):=by decide +kernel
theorem zC6:bootBuiltins "list" = some (.type "list"):=by decide +kernel
theorem zGk:bootBuiltins "tuple" = some (.type "tuple"):=by decide +kernel
theorem bt_zip:bootBuiltins "zip" = some (.type "zip"):=by decide +kernel

def Has (P:Program) (w:World) (K:PySem.W.Frag) (mg:Str→Option Value) (base:Heap) (x:Str) (n:Nat) (ps:List Str) (sp:Sp):Prop :=
 ∃ (f:Addr) (fd:FuncData),FnOk P w K mg base CX0 n f fd ps sp∧zLn K fd ps []∧PySem.W.keepIn K (.ref f) = true∧mg x = some (.ref f)
section
variable {X:Cx} {x:Str} {p pos:Pos} {e:Expr} {es:List Expr} {t:TA} {n:Nat} {ps:List Str} {sp:Sp}
theorem zAh (h:Has X.prog X.w X.K X.mg X.base x n ps sp) (hr:Room n X.A) (hg:Gl X x) (ha:PA X (e :: es) t) (hdb:(x == ("__debug__" : Str)) = false:=by decide)
  (he:starEach (e :: es) X.env = (false,eval e X.env) :: starEach es X.env:=by rfl) (hpl:(backTo pos (starEach es X.env)).any (·.1) = false:=by rfl):PE X (.Call (.Name x p) (e :: es) [] pos) (tCall sp [] E0 t):=by
 obtain ⟨f,fd,F,b,k,m⟩:=h
 exact zUo F hr hg m k b .nil pass0 ha hdb he hpl
end

section
variable {X:Cx}
def zEr (i j:Int):Prop:=0 < j∧j.natAbs < 2 ^ 4096
theorem zCx:OpR X (binaryOp .FloorDiv) (rI zEr fun i j=>.int (i / j)):=opI fun i j _ _ _ _ _ hc q=>by
 have h1:(0:Int) < j:=hc.1
 have h3:j.natAbs.log2 < 9000:=Nat.lt_trans ((Nat.log2_lt (by omega)).mpr hc.2) (by decide)
 exact floordiv_int (by omega) (by rw [Int.fdiv_eq_ediv_of_nonneg i (by omega)]; exact q) (.inl (PyProof.noPylong_of_log2 h3))
theorem zEr.of {i j:Int} (h:0 < j) (h2:j < 10 ^ 600):zEr i j:=by
 refine ⟨h,?_⟩
 have e:(10:Nat) ^ 600 < 2 ^ 4096:=by decide +kernel
 omega
def zPw (i j:Int):Prop:=i.natAbs < 2 ^ 4096∧j.natAbs < 2 ^ 4096
theorem zKl {i:Int} (h:i.natAbs < 2 ^ 4096):Builtin.Int.intBits i≤2 ^ 20:=by
 unfold Builtin.Int.intBits
 split
 ·exact Nat.zero_le _
 ·have q:i.natAbs.log2 < 4096:=by
   rcases Nat.eq_zero_or_pos i.natAbs with h0 | hp
   ·rw [h0]; decide
   ·exact (Nat.log2_lt (Nat.ne_of_gt hp)).mpr h
  have e:(2:Nat) ^ 20 = 1048576:=by decide
  omega
theorem zG1:OpR X (binaryOp .Mult) (rI zPw fun i j=>.int (i * j)):=opI fun _ _ _ _ _ _ _ hc q=>mul_int q (IntMulOk.of_bits (zKl hc.1) (zKl hc.2))

theorem zA8:zH3 X (.builtin "isinstance") (fun xs H Q=>∃ x T t b,xs = [x,.ty T]∧TyOf X.K H x t∧PySem.W.kitOne X.K t (.type T) = some b∧Q (.bl b) H):=by
 intro pins s σ H xs us Q I r h
 obtain ⟨x,T,t,b,rfl,ty,e,q⟩:=h
 obtain ⟨u,v,rfl,ru,rv⟩:=Vals.two r
 cases rv
 exact zQb I ru ty e fun tk=>⟨.bl b,H,I.tok tk,rfl,q⟩

def Sq (K:PySem.W.Frag) (H:Hp) (p:Addr) (xs:List V):Prop:=SqL K H p xs∨SqT K H p xs
inductive RIx (K:PySem.W.Frag) (x y:V) (H:Hp) (Q:VK):Prop where
 | mk (p:Addr) (xs:List V) (i:Int) (v:V) (ex:x = .ref p) (ey:y = .int i) (sq:Sq K H p xs) (at':atI xs i = some v) (q:Q v H)
def rIxA (K:PySem.W.Frag):R2:=fun x y H Q=>RIx K x y H Q
theorem zAg:IxR X (rIxA X.K):=by
 intro value slice pins s σ H x y v u Q I rx ry q hs
 obtain ⟨p,xs,i,z,e1,e2,hq,ha,q⟩:=q
 rcases hq with hq | hq
 ·exact zUh value slice pins s σ H x y v u Q I rx ry ⟨p,xs,i,z,e1,e2,hq,ha,q⟩ hs
 ·exact ix_tup value slice pins s σ H x y v u Q I rx ry ⟨p,xs,i,z,e1,e2,hq,ha,q⟩ hs
def iSeq (K:PySem.W.Frag) (tl:TE):TI:=fun σ H R=>tl σ H fun x H1=>∃ a,x = .ref a∧(((∃ xs,SqL K H1 a xs)∧R (Itl K a) H1)∨((∃ xs,SqT K H1 a xs)∧R (Itt K a) H1))
theorem zCd {tg l:Expr} {tl:TE} (hl:PE X l tl):PI X tg l (iSeq X.K tl):=by
 intro pins s σ H R I h
 refine thn (hl pins s σ H _ I h) fun v s1 ⟨x,H1,I1,r1,q1⟩=>?_
 obtain ⟨a,e,q⟩:=q1
 subst e
 cases r1
 have own:∀ b,b∈[s1.heap.objs.size]→FpOk X pins H1 b:=fun b hb=>by
  rw [List.mem_singleton] at hb
  subst hb
  exact I1.fpOk (Nat.le_refl _) (I1.hok.fresh (Nat.le_refl _))
 rcases q with ⟨⟨xs,hq⟩,q⟩ | ⟨⟨xs,hq⟩,q⟩
 ·obtain ⟨its,rv,p,hz⟩:=I1.list hq
  exact wpAny_pyIter_list p.isList ⟨s1.heap.objs.size,[s1.heap.objs.size],_,_,H1,rfl,I1.kept (t':=s1.toks) fun b o e=>Heap.get?_push_of_some _ e,zMx a _,⟨_,Heap.get?_push_size _ rfl,rfl,rfl⟩,own,q⟩
 ·obtain ⟨its,rv,p,hz⟩:=I1.tuple hq
  exact wpAny_pyIter_tuple (show s1.heap.IsTuple a its.toArray from p) ⟨s1.heap.objs.size,[s1.heap.objs.size],_,_,H1,rfl,I1.kept (t':=s1.toks) fun b o e=>Heap.get?_push_of_some _ e,zOz a _,⟨_,Heap.get?_push_size _ rfl,rfl,rfl⟩,own,q⟩
end

section
variable {K:PySem.W.Frag} {a D:Addr} {xs:List V} {g:TG} {tt:TT} {te:TE} {σ0:St} {H1:Hp} {Q:VK}
theorem zM3 (Pv:Nat→St→List V→Hp→Prop) (h0:Pv 0 σ0 [] (upd H1 D (.lst []))) (hl:∀ i σ ys H,i≤xs.length→Pv i σ ys H→SqL K H a xs∧H D = some (.lst ys))
  (hs:∀ i x σ ys H,xs[i]? = some x→Pv i σ ys H→g x σ H fun σ2 H2=>tt σ2 H2 fun b H3 =>
   if b = true then te σ2 H3 fun y H4=>H4 D = some (.lst ys)∧ys.length < sizeLine∧Pv (i + 1) σ2 (ys ++ [y]) (upd H4 D (.lst (ys ++ [y]))) else Pv (i + 1) σ2 ys H3)
  (hd:∀ σ ys H,Pv xs.length σ ys H→Q (.ref D) H):zJb (Itl K a) D g tt te σ0 H1 Q:=by
 refine ⟨fun i m σ ys H=>m = xs.length - i∧i≤xs.length∧Pv i σ ys H,⟨xs.length,by simp,Nat.zero_le _,h0⟩,?_⟩
 rintro i m σ ys H ⟨rfl,hi,p⟩
 obtain ⟨q,qd⟩:=hl i σ ys H hi p
 refine ⟨qd,?_⟩
 by_cases hlt:i < xs.length
 ·refine .inr ⟨⟨xs,xs[i],q,by simp [hlt]⟩,Pv (i + 1),fun σ' zs H' z=>⟨xs.length - (i + 1),by omega,rfl,hlt,z⟩,fun x H' y=>?_⟩
  obtain ⟨e,y⟩:=y
  subst e
  exact hs i x σ ys _ (y xs q) p
 ·have e:i = xs.length:=by omega
  subst e
  exact .inl ⟨⟨xs,q,Nat.le_refl _⟩,hd σ ys H p⟩
theorem zTl (Pv:Nat→St→List V→Hp→Prop) (h0:Pv 0 σ0 [] (upd H1 D (.lst []))) (hl:∀ i σ ys H,i≤xs.length→Pv i σ ys H→SqT K H a xs∧H D = some (.lst ys))
  (hs:∀ i x σ ys H,xs[i]? = some x→Pv i σ ys H→g x σ H fun σ2 H2=>tt σ2 H2 fun b H3 =>
   if b = true then te σ2 H3 fun y H4=>H4 D = some (.lst ys)∧ys.length < sizeLine∧Pv (i + 1) σ2 (ys ++ [y]) (upd H4 D (.lst (ys ++ [y]))) else Pv (i + 1) σ2 ys H3)
  (hd:∀ σ ys H,Pv xs.length σ ys H→Q (.ref D) H):zJb (Itt K a) D g tt te σ0 H1 Q:=by
 refine ⟨fun i m σ ys H=>m = xs.length - i∧i≤xs.length∧Pv i σ ys H,⟨xs.length,by simp,Nat.zero_le _,h0⟩,?_⟩
 rintro i m σ ys H ⟨rfl,hi,p⟩
 obtain ⟨q,qd⟩:=hl i σ ys H hi p
 refine ⟨qd,?_⟩
 by_cases hlt:i < xs.length
 ·refine .inr ⟨⟨xs,xs[i],q,by simp [hlt]⟩,Pv (i + 1),fun σ' zs H' z=>⟨xs.length - (i + 1),by omega,rfl,hlt,z⟩,fun x H' y=>?_⟩
  obtain ⟨e,y⟩:=y
  subst e
  exact hs i x σ ys _ (y xs q) p
 ·have e:i = xs.length:=by omega
  subst e
  exact .inl ⟨⟨xs,q,Nat.le_refl _⟩,hd σ ys H p⟩
theorem zPf {lo:Int} {n:Nat} (Pv:Nat→St→List V→Hp→Prop) (h0:Pv 0 σ0 [] (upd H1 D (.lst []))) (hl:∀ i σ ys H,i≤n→Pv i σ ys H→H D = some (.lst ys))
  (hs:∀ i σ ys H,i < n→Pv i σ ys H→g (.int (lo + i)) σ H fun σ2 H2=>tt σ2 H2 fun b H3 =>
   if b = true then te σ2 H3 fun y H4=>H4 D = some (.lst ys)∧ys.length < sizeLine∧Pv (i + 1) σ2 (ys ++ [y]) (upd H4 D (.lst (ys ++ [y]))) else Pv (i + 1) σ2 ys H3)
  (hd:∀ σ ys H,Pv n σ ys H→Q (.ref D) H):zJb (Itr lo n) D g tt te σ0 H1 Q:=by
 refine ⟨fun i m σ ys H=>m = n - i∧i≤n∧Pv i σ ys H,⟨n,by simp,Nat.zero_le _,h0⟩,?_⟩
 rintro i m σ ys H ⟨rfl,hi,p⟩
 have qd:=hl i σ ys H hi p
 refine ⟨qd,?_⟩
 by_cases hlt:i < n
 ·refine .inr ⟨hlt,Pv (i + 1),fun σ' zs H' z=>⟨n - (i + 1),by omega,rfl,hlt,z⟩,fun x H' y=>?_⟩
  obtain ⟨e,y⟩:=y
  subst e y
  exact hs i σ ys _ hlt p
 ·have e:i = n:=by omega
  subst e
  exact .inl ⟨Nat.le_refl _,hd σ ys H p⟩
end
section
variable {K:PySem.W.Frag} {a D:Addr} {xs:List V} {g:TG} {te:TE} {σ0:St} {H1:Hp} {Q:VK}
theorem zBx (Pv:Nat→St→List V→Hp→Prop) (h0:Pv 0 σ0 [] (upd H1 D (.lst []))) (hl:∀ i σ ys H,i≤xs.length→Pv i σ ys H→SqL K H a xs∧H D = some (.lst ys))
  (hs:∀ i x σ ys H,xs[i]? = some x→Pv i σ ys H→g x σ H fun σ2 H2=>te σ2 H2 fun y H4=>H4 D = some (.lst ys)∧ys.length < sizeLine∧Pv (i + 1) σ2 (ys ++ [y]) (upd H4 D (.lst (ys ++ [y]))))
  (hd:∀ σ ys H,Pv xs.length σ ys H→Q (.ref D) H):zJb (Itl K a) D g tYes te σ0 H1 Q:=zM3 Pv h0 hl (fun i x σ ys H e p=>hs i x σ ys H e p) hd
theorem zHe (Pv:Nat→St→List V→Hp→Prop) (h0:Pv 0 σ0 [] (upd H1 D (.lst []))) (hl:∀ i σ ys H,i≤xs.length→Pv i σ ys H→SqT K H a xs∧H D = some (.lst ys))
  (hs:∀ i x σ ys H,xs[i]? = some x→Pv i σ ys H→g x σ H fun σ2 H2=>te σ2 H2 fun y H4=>H4 D = some (.lst ys)∧ys.length < sizeLine∧Pv (i + 1) σ2 (ys ++ [y]) (upd H4 D (.lst (ys ++ [y]))))
  (hd:∀ σ ys H,Pv xs.length σ ys H→Q (.ref D) H):zJb (Itt K a) D g tYes te σ0 H1 Q:=zTl Pv h0 hl (fun i x σ ys H e p=>hs i x σ ys H e p) hd
theorem zGw {lo:Int} {n:Nat} (Pv:Nat→St→List V→Hp→Prop) (h0:Pv 0 σ0 [] (upd H1 D (.lst []))) (hl:∀ i σ ys H,i≤n→Pv i σ ys H→H D = some (.lst ys))
  (hs:∀ i σ ys H,i < n→Pv i σ ys H→g (.int (lo + i)) σ H fun σ2 H2=>te σ2 H2 fun y H4=>H4 D = some (.lst ys)∧ys.length < sizeLine∧Pv (i + 1) σ2 (ys ++ [y]) (upd H4 D (.lst (ys ++ [y]))))
  (hd:∀ σ ys H,Pv n σ ys H→Q (.ref D) H):zJb (Itr lo n) D g tYes te σ0 H1 Q:=zPf Pv h0 hl (fun i σ ys H e p=>hs i σ ys H e p) hd
end
end L2

namespace L2
open PySem PySem.Spec PyProof.Rows
theorem zRo:∀ bs:List Bool,(List.range bs.length).all (fun i=>(bs[i]?).getD true) = bs.all id:=by
 intro bs
 rw [Bool.eq_iff_iff,List.all_eq_true,List.all_eq_true]
 constructor
 ·intro h b hb
  obtain ⟨i,hi,e⟩:=List.getElem_of_mem hb
  have q:=h i (List.mem_range.mpr hi)
  rw [List.getElem?_eq_getElem hi,e] at q
  exact q
 ·intro h i hi
  have hi':=List.mem_range.mp hi
  rw [List.getElem?_eq_getElem hi']
  exact h _ (List.getElem_mem hi')
theorem zTg {bs:List Bool} {its:List Value} (r:Vals (bs.map V.bl) its) {i:Nat} {v:Value} (h:its[i]? = some v):v = .bool ((bs[i]?).getD true):=by
 have hl:=r.length
 rw [List.length_map] at hl
 have hi:i < its.length:=(List.getElem?_eq_some_iff.mp h).1
 have hb:i < bs.length:=by omega
 obtain ⟨u,hu,ru⟩:=r.get (i:=i) (x:=.bl bs[i]) (by rw [List.getElem?_map,List.getElem?_eq_getElem hb]; rfl)
 rw [hu] at h
 cases h
 rw [List.getElem?_eq_getElem hb]
 exact ru
section
variable {X:Cx}
theorem zHm (hc:X.calm = true):zH3 X (.builtin "all") (fun xs H Q=>∃ (p:Addr) (bs:List Bool),xs = [.ref p]∧SqL X.K H p (bs.map V.bl)∧Q (.bl (bs.all id)) H):=by
 intro pins s σ H xs us Q I r h
 obtain ⟨p,bs,rfl,hq,q⟩:=h
 obtain ⟨u,rfl,ru⟩:=Vals.one r
 cases ru
 obtain ⟨its,rv,pl,hz⟩:=I.list hq
 have plt:p < s.heap.objs.size:=by
  obtain ⟨_,e,_⟩:=pl.isList
  exact Heap.lt_size e
 refine call_all_walk (wpAny_pyIter_list pl.isList ?_)
 refine ⟨s.heap.objs.size,_,_,_,_,_,fun i=>(bs[i]?).getD true,rfl,Walks.list (A:=X.A.in1) (show X.A.in1.handled = none from I.ok.hd hc) _ p (Nat.ne_of_lt plt) its.toArray,⟨⟨_,Heap.get?_push_size _ rfl,rfl,rfl⟩,Heap.IsList.push pl.isList _⟩,fun i v s Q E hP hQ=>?_,fun h' tk k=>?_⟩
 ·have e:=zTg rv (by simpa using hP)
  subst e
  exact wpAny_truthy_bool hQ
 ·have e:(List.range its.toArray.size).all (fun i=>(bs[i]?).getD true) = bs.all id:=by
   have hl:=rv.length
   rw [List.length_map] at hl
   rw [List.size_toArray,← hl]
   exact zRo bs
  rw [e]
  exact ⟨.bl (bs.all id),H,I.kept (t':=tk) fun b o z=>k b o (fun w=>by rw [List.mem_singleton] at w; exact Nat.lt_irrefl _ (w ▸ Heap.lt_size z)) (Heap.get?_push_of_some _ z),rfl,q⟩
end
end L2

namespace L2
open PySem PySem.Spec PyProof.Rows

def SI (b:Bool) (h:Heap) (i l:Addr) (k:Nat):Prop:=match b with | true=>h.IsListIter i l k | false=>h.IsTupleIter i l k
def SS (b:Bool) (h:Heap) (l:Addr) (its:Array Value):Prop:=match b with | true=>h.IsList l its | false=>h.IsTuple l its
def zLu (b:Bool):String:=match b with | true => "list_iterator" | false => "tuple_iterator"
theorem SI.obj {b:Bool} {h:Heap} {i l:Addr} {k:Nat} (x:SI b h i l k):∃ o,h.get? i = some o∧o.cls = .type (zLu b)∧o.data = .fields #[.ref l,.int k 0]:=by
 cases b <;> exact x
theorem SI.of {b:Bool} {h:Heap} {i l:Addr} {k:Nat} (x:∃ o,h.get? i = some o∧o.cls = .type (zLu b)∧o.data = .fields #[.ref l,.int k 0]):SI b h i l k:=by
 cases b <;> exact x
theorem SI.at {b:Bool} {h h':Heap} {i l:Addr} {k:Nat} (x:SI b h i l k) (e:∀ o,h.get? i = some o→h'.get? i = some o):SI b h' i l k:=by
 obtain ⟨o,ho,r⟩:=x.obj
 exact SI.of ⟨o,e o ho,r⟩
theorem SS.at {b:Bool} {h h':Heap} {l:Addr} {its:Array Value} (x:SS b h l its) (e:∀ o,h.get? l = some o→h'.get? l = some o):SS b h' l its:=by
 cases b <;> (obtain ⟨o,ho,r⟩:=x; exact ⟨o,e o ho,r⟩)
theorem SS.obj {b:Bool} {h:Heap} {l:Addr} {its:Array Value} (x:SS b h l its):∃ o,h.get? l = some o∧o.cls = .type (match b with | true => "list" | false => "tuple"):=by
 cases b <;> (obtain ⟨o,ho,hc,_⟩:=x; exact ⟨o,ho,hc⟩)
section
variable {prog:Program} {w:World} {A:Around} {E:Value→Shared→Prop} {s:Shared}
theorem zSv {i l:Addr} {k:Nat} {its:Array Value} {y:Value} {Q:Value→Shared→Prop} (zi:s.heap.IsTupleIter i l k) (zl:s.heap.IsTuple l its) (zy:its[k]? = some y)
  (zq:∀ h',h'.IsTupleIter i l (k + 1)→Heap.SameBut i s.heap h'→Q y { s with heap:=h' }):wpAny (model prog w) A (Builtin.SmallTypes.nextOf (.ref i)) Q E s:=by
 obtain ⟨ob,zo,zc,zd⟩:=id zi
 obtain ⟨ot,zot,_,nt,zdt⟩:=zl
 unfold Builtin.SmallTypes.nextOf
 refine wpAny_bind (wpAny_callSpecial?_slot (name:=Str.ofString "__next__") zi.typeIs F.slot_tuple_iterator_next (wpAny_call_entry F.slot_tuple_iterator_next zi.typeIs F.entry_tuple_iterator_next ?_ (F.args_tuple_iterator_next_1 _)))
 show wpAny _ _ (field (.ref i) 0 >>= _) _ _ s
 refine wpAny_bind (wpAny_field zo zd (x:=.ref l) rfl ?_)
 show wpAny _ _ (if (Value.ref l == Value.none) = true then _ else _) _ _ s; rw [if_neg (show ¬ ((Value.ref l == Value.none) = true) from Bool.false_ne_true)]
 show wpAny _ _ (field (.ref i) 1 >>= _) _ _ s
 refine wpAny_bind (wpAny_field zo zd (x:=.int k 0) rfl ?_)
 show wpAny _ _ (seqItems? (.ref l) >>= _) _ _ s; refine wpAny_bind (wpAny_seqItems zot zdt ?_)
 simp only [Int.toNat_natCast,zy]
 refine wpAny_bind (wpAny_setField zo zd (by simp) (wpAny_pure ⟨y,rfl,wpAny_pure (zq _ ?_ (Heap.SameBut.update ..))⟩))
 exact ⟨_,Heap.get?_update_self _ zo (Obj.isFreed_of_fields (Obj.data_mapFields zd _)),(Obj.cls_mapFields ..).trans zc,by rw [Obj.data_mapFields zd]; simp [rawInt]⟩
theorem zUj {i l:Addr} {k:Nat} {its:Array Value} {Q:Value→Shared→Prop} (hh:A.handled = none) (zi:s.heap.IsTupleIter i l k) (zl:s.heap.IsTuple l its) (zy:its[k]? = none)
  (zE:∀ h' e,Heap.ExtBut i s.heap h'→(∃ o,h'.get? e = some o∧o.cls = .type "StopIteration")→E (.ref e) { s with heap:=h' }):wpAny (model prog w) A (Builtin.SmallTypes.nextOf (.ref i)) Q E s:=by
 obtain ⟨ob,zo,zc,zd⟩:=id zi
 obtain ⟨ot,zot,_,nt,zdt⟩:=zl
 unfold Builtin.SmallTypes.nextOf
 refine wpAny_bind (wpAny_callSpecial?_slot (name:=Str.ofString "__next__") zi.typeIs F.slot_tuple_iterator_next (wpAny_call_entry F.slot_tuple_iterator_next zi.typeIs F.entry_tuple_iterator_next ?_ (F.args_tuple_iterator_next_1 _)))
 show wpAny _ _ (field (.ref i) 0 >>= _) _ _ s
 refine wpAny_bind (wpAny_field zo zd (x:=.ref l) rfl ?_)
 show wpAny _ _ (if (Value.ref l == Value.none) = true then _ else _) _ _ s; rw [if_neg (show ¬ ((Value.ref l == Value.none) = true) from Bool.false_ne_true)]
 show wpAny _ _ (field (.ref i) 1 >>= _) _ _ s
 refine wpAny_bind (wpAny_field zo zd (x:=.int k 0) rfl ?_)
 show wpAny _ _ (seqItems? (.ref l) >>= _) _ _ s; refine wpAny_bind (wpAny_seqItems zot zdt ?_)
 simp only [Int.toNat_natCast,zy]
 refine wpAny_bind (wpAny_rule (wpAny_bind (wpAny_setField zo zd (by simp) ?_)))
 show wpAny _ _ (newExc (.type "StopIteration") [] >>= _) _ _ _; refine wpAny_bind ?_; simp only [newExc,newTuple]
 refine wpAny_bind (wpAny_newObj_type ?_ (by size_fits)); refine wpAny_bind (m:=firstArgMember _ _) (wpAny_of_eq (a:=Value.none) (by first | rfl | (simp only [firstArgMember]; rfl)) ?_)
 refine wpAny_newObj_type ?_ (by size_fits); simp only [raiseNew]; refine wpAny_bind (wpAny_handled ?_)
 first | rw [show A.in1.handled = none from hh] | rw [hh]
 refine wpAny_bind (wpAny_pure (wpAny_throw ?_)); exact zE _ _ (((Heap.SameBut.update ..).extBut.push _).push _) ⟨_,Heap.get?_push_size _ rfl,rfl⟩
theorem zM7 {b:Bool} {i l:Addr} {k:Nat} {its:Array Value} {y:Value} {Q:Value→Shared→Prop} (zi:SI b s.heap i l k) (zl:SS b s.heap l its) (zy:its[k]? = some y)
  (zq:∀ h',SI b h' i l (k + 1)→Heap.SameBut i s.heap h'→Q y { s with heap:=h' }):wpAny (model prog w) A (Builtin.SmallTypes.nextOf (.ref i)) Q E s:=by
 cases b
 ·exact zSv zi zl zy zq
 ·exact wpAny_nextOf_list_item zi zl zy zq
theorem zUb {b:Bool} {i l:Addr} {k:Nat} {its:Array Value} {Q:Value→Shared→Prop} (hh:A.handled = none) (zi:SI b s.heap i l k) (zl:SS b s.heap l its) (zy:its[k]? = none)
  (zE:∀ h' e,Heap.ExtBut i s.heap h'→(∃ o,h'.get? e = some o∧o.cls = .type "StopIteration")→E (.ref e) { s with heap:=h' }):wpAny (model prog w) A (Builtin.SmallTypes.nextOf (.ref i)) Q E s:=by
 cases b
 ·exact zUj hh zi zl zy zE
 ·exact wpAny_nextOf_list_end hh zi zl zy zE
theorem zT1 {b:Bool} {l:Addr} {its:Array Value} {Q:Value→Shared→Prop} (zl:SS b s.heap l its) (h:Q (.ref s.heap.objs.size) { s with heap:=s.heap.push { cls:=.type (zLu b),data:=.fields #[.ref l,.int 0 0] } }) :
  wpAny (model prog w) A (pyIter (.ref l)) Q E s:=by
 cases b
 ·exact wpAny_pyIter_tuple zl h
 ·exact wpAny_pyIter_list zl h

theorem zRq {b1 b2:Bool} {z TI TO i1 i2 l1 l2:Addr} {k:Nat} {xs ys:Array Value} {x y a b:Value} {Q:Value→Shared→Prop} (D:ZipApart z TI TO i1 i2 l1 l2)
  (hz:IsZip s.heap z TI TO .none) (hI:IsPair s.heap TI (.ref i1) (.ref i2)) (hO:IsPair s.heap TO a b) (h1:SI b1 s.heap i1 l1 k) (h2:SI b2 s.heap i2 l2 k) (g1:SS b1 s.heap l1 xs) (g2:SS b2 s.heap l2 ys)
  (hx:xs[k]? = some x) (hy:ys[k]? = some y)
  (hQ:∀ h',IsZip h' z TI TO (rawInt s.heap.objs.size)→IsPair h' TO x y→SI b1 h' i1 l1 (k + 1)→SI b2 h' i2 l2 (k + 1)→IsPair h' s.heap.objs.size x y →
   (∀ c o,c≠z→c≠TO→c≠i1→c≠i2→s.heap.get? c = some o→h'.get? c = some o)→Q (.ref s.heap.objs.size) { s with heap:=h' }) :
  wpAny (model prog w) A (Builtin.«zip.__next__» ⟨[.ref z],[]⟩) (fun fin s'=>∃ v,fin = .done (.ret v)∧Q v s') E s:=by
 show wpAny _ _ (field (.ref z) 2 >>= _) _ _ _; refine wpAny_bind (wpAny_field hz rfl (x:=.bool false) rfl ?_)
 show wpAny _ _ (field (.ref z) 3 >>= _) _ _ _; refine wpAny_bind (wpAny_field hz rfl (x:=.ref TI) rfl ?_)
 refine wpAny_bind (wpAny_seqItems hI rfl ?_)
 show wpAny _ _ (Builtin.SmallTypes.ownedTupleIsFree (.ref z) >>= _) _ _ _; refine wpAny_bind ?_; unfold Builtin.SmallTypes.ownedTupleIsFree
 refine wpAny_bind (wpAny_field hz rfl (x:=.none) rfl (wpAny_pure ?_)); simp only [if_true]
 refine wpAny_bind (wpAny_rule ?_); refine wpAny_bind (wpAny_field hz rfl (x:=.ref TO) rfl ?_)
 refine wpAny_bind (wpAny_setField_rec hz (by simp) fun k1 z1 s1=>?_); replace z1:IsZip k1 z TI TO .ellipsis:=z1
 refine wpAny_bind ?_; simp only [List.zipIdx_cons,List.zipIdx_nil,List.forIn_cons,List.forIn_nil]
 refine wpAny_bind (wpAny_bind (wpAny_onRaise ?_)); show wpAny _ _ (Builtin.SmallTypes.nextOf (.ref i1) >>= _) _ _ _
 refine wpAny_bind (zM7 (h1.at fun o e=>s1.extBut _ o D.i1z e) (g1.at fun o e=>s1.extBut _ o D.l1z e) hx fun k2 q2 s2=>wpAny_pure ?_)
 have o2:IsPair k2 TO a b:=s2.extBut _ _ D.TOi1 (s1.extBut _ _ D.TOz hO)
 refine wpAny_bind (wpAny_seqItems o2 rfl ?_)
 refine wpAny_bind (wpAny_updateSeq_pair o2 fun k3 o3 s3=>?_); replace o3:IsPair k3 TO x b:=o3
 refine wpAny_bind (wpAny_letGo (wpAny_pure ?_)); refine wpAny_bind (wpAny_bind (wpAny_onRaise ?_)); show wpAny _ _ (Builtin.SmallTypes.nextOf (.ref i2) >>= _) _ _ _
 refine wpAny_bind (zM7 (h2.at fun o e=>s3.extBut _ o D.TOi2.symm (s2.extBut _ o D.i12.symm (s1.extBut _ o D.i2z e))) (g2.at fun o e=>s3.extBut _ o D.l2TO (s2.extBut _ o D.l2i1 (s1.extBut _ o D.l2z e))) hy fun k4 q4 s4=>wpAny_pure ?_)
 have o4:IsPair k4 TO x b:=s4.extBut _ _ D.TOi2 o3
 refine wpAny_bind (wpAny_seqItems o4 rfl ?_)
 refine wpAny_bind (wpAny_updateSeq_pair o4 fun k5 o5 s5=>?_); replace o5:IsPair k5 TO x y:=o5
 refine wpAny_bind (wpAny_letGo (wpAny_pure (wpAny_pure ?_)))
 refine wpAny_bind (wpAny_seqItems o5 rfl ?_); refine wpAny_bind (wpAny_newTuple ?_)
 have hsz:k5.objs.size = s.heap.objs.size:=by rw [s5.1,s4.1,s3.1,s2.1,s1.1]
 have z5:IsZip k5 z TI TO .ellipsis:=s5.extBut _ _ D.TOz.symm (s4.extBut _ _ D.i2z.symm (s3.extBut _ _ D.TOz.symm (s2.extBut _ _ D.i1z.symm z1)))
 have kp:∀ c o,c≠z→c≠TO→c≠i1→c≠i2→s.heap.get? c = some o→k5.get? c = some o:=fun c o c1 c2 c3 c4 e=>s5.extBut _ _ c2 (s4.extBut _ _ c4 (s3.extBut _ _ c2 (s2.extBut _ _ c3 (s1.extBut _ _ c1 e))))
 have a5:SI b1 k5 i1 l1 (k + 1):=q2.at fun o e=>s5.extBut _ o D.TOi1.symm (s4.extBut _ o D.i12 (s3.extBut _ o D.TOi1.symm e))
 have b5:SI b2 k5 i2 l2 (k + 1):=q4.at fun o e=>s5.extBut _ o D.TOi2.symm e
 have zlt:z < k5.objs.size:=Heap.lt_size z5
 show wpAny _ _ (Builtin.SmallTypes.ownedTupleHandOut (.ref z) (.ref k5.objs.size) >>= _) _ _ _; refine wpAny_bind ?_; unfold Builtin.SmallTypes.ownedTupleHandOut
 have z6:IsZip (k5.push { cls:=.type "tuple", data:=.seq #[x,y] }) z TI TO .ellipsis:=Heap.get?_push_of_some _ z5
 refine wpAny_bind (wpAny_setField_rec z6 (by simp) fun k7 z7 s7=>?_); replace z7:IsZip k7 z TI TO (rawInt k5.objs.size):=z7
 refine wpAny_setField_rec z7 (by simp) fun k8 z8 s8=>?_; replace z8:IsZip k8 z TI TO (rawInt k5.objs.size):=z8
 have up:∀ c o,c≠z→k5.get? c = some o→k8.get? c = some o:=fun c o c1 e=>s8.extBut _ _ c1 (s7.extBut _ _ c1 (Heap.get?_push_of_some _ e))
 have t8:IsPair k8 k5.objs.size x y:=s8.extBut _ _ (Nat.ne_of_gt zlt) (s7.extBut _ _ (Nat.ne_of_gt zlt) (Heap.get?_push_size _ rfl))
 rw [hsz] at z8 t8
 refine wpAny_pure ⟨_,rfl,?_⟩; show Q (.ref k5.objs.size) _
 rw [hsz]
 exact hQ k8 z8 (up _ _ D.TOz o5) (a5.at fun o e=>up _ o D.i1z e) (b5.at fun o e=>up _ o D.i2z e) t8 fun c o c1 c2 c3 c4 e=>up c o c1 (kp c o c1 c2 c3 c4 e)
theorem zTd {b1 b2:Bool} {z TI TO i1 i2 l1 l2:Addr} {k:Nat} {xs ys:Array Value} {a b:Value} {Q:Fin→Shared→Prop} (hh:A.handled = none) (D:ZipApart z TI TO i1 i2 l1 l2)
  (hz:IsZip s.heap z TI TO .none) (hI:IsPair s.heap TI (.ref i1) (.ref i2)) (hO:IsPair s.heap TO a b) (h1:SI b1 s.heap i1 l1 k) (h2:SI b2 s.heap i2 l2 k) (g1:SS b1 s.heap l1 xs) (g2:SS b2 s.heap l2 ys)
  (hend:xs[k]? = none∨ys[k]? = none)
  (hE:∀ h' e,(∀ c o,c≠z→c≠TO→c≠i1→c≠i2→s.heap.get? c = some o→h'.get? c = some o)→(∃ o,h'.get? e = some o∧o.cls = .type "StopIteration")→E (.ref e) { s with heap:=h' }) :
  wpAny (model prog w) A (Builtin.«zip.__next__» ⟨[.ref z],[]⟩) Q E s:=by
 show wpAny _ _ (field (.ref z) 2 >>= _) _ _ _; refine wpAny_bind (wpAny_field hz rfl (x:=.bool false) rfl ?_)
 show wpAny _ _ (field (.ref z) 3 >>= _) _ _ _; refine wpAny_bind (wpAny_field hz rfl (x:=.ref TI) rfl ?_)
 refine wpAny_bind (wpAny_seqItems hI rfl ?_)
 show wpAny _ _ (Builtin.SmallTypes.ownedTupleIsFree (.ref z) >>= _) _ _ _; refine wpAny_bind ?_; unfold Builtin.SmallTypes.ownedTupleIsFree
 refine wpAny_bind (wpAny_field hz rfl (x:=.none) rfl (wpAny_pure ?_)); simp only [if_true]
 refine wpAny_bind (wpAny_rule ?_); refine wpAny_bind (wpAny_field hz rfl (x:=.ref TO) rfl ?_)
 refine wpAny_bind (wpAny_setField_rec hz (by simp) fun k1 z1 s1=>?_); replace z1:IsZip k1 z TI TO .ellipsis:=z1
 refine wpAny_bind ?_; simp only [List.zipIdx_cons,List.zipIdx_nil,List.forIn_cons,List.forIn_nil]
 refine wpAny_bind (wpAny_bind (wpAny_onRaise ?_)); show wpAny _ _ (Builtin.SmallTypes.nextOf (.ref i1) >>= _) _ _ _
 cases hx:xs[k]? with
 | none =>
  refine wpAny_bind (zUb hh (h1.at fun o e=>s1.extBut _ o D.i1z e) (g1.at fun o e=>s1.extBut _ o D.l1z e) hx fun k2 e s2 he=>?_)
  obtain ⟨oe,hoe,hce⟩:=he
  have z2:IsZip k2 z TI TO .ellipsis:=s2 _ _ D.i1z.symm z1
  have nez:e≠z:=fun x=>by subst x; rw [z2] at hoe; cases hoe; simp at hce
  refine wpAny_setField_rec z2 (by simp) fun k3 _ s3=>hE k3 e (fun c o c1 _ c3 _ x=>s3.extBut _ _ c1 (s2 _ _ c3 (s1.extBut _ _ c1 x))) ⟨oe,s3.extBut _ _ nez hoe,hce⟩
 | some x =>
  have hy:ys[k]? = none:=by
   rcases hend with h | h
   ·rw [hx] at h; cases h
   ·exact h
  refine wpAny_bind (zM7 (h1.at fun o e=>s1.extBut _ o D.i1z e) (g1.at fun o e=>s1.extBut _ o D.l1z e) hx fun k2 q2 s2=>wpAny_pure ?_)
  have o2:IsPair k2 TO a b:=s2.extBut _ _ D.TOi1 (s1.extBut _ _ D.TOz hO)
  refine wpAny_bind (wpAny_seqItems o2 rfl ?_); refine wpAny_bind (wpAny_updateSeq_pair o2 fun k3 o3 s3=>?_)
  refine wpAny_bind (wpAny_letGo (wpAny_pure ?_)); refine wpAny_bind (wpAny_bind (wpAny_onRaise ?_)); show wpAny _ _ (Builtin.SmallTypes.nextOf (.ref i2) >>= _) _ _ _
  refine wpAny_bind (zUb hh (h2.at fun o e=>s3.extBut _ o D.TOi2.symm (s2.extBut _ o D.i12.symm (s1.extBut _ o D.i2z e))) (g2.at fun o e=>s3.extBut _ o D.l2TO (s2.extBut _ o D.l2i1 (s1.extBut _ o D.l2z e))) hy fun k4 e s4 he=>?_)
  obtain ⟨oe,hoe,hce⟩:=he
  have z4:IsZip k4 z TI TO .ellipsis:=s4 _ _ D.i2z.symm (s3.extBut _ _ D.TOz.symm (s2.extBut _ _ D.i1z.symm z1))
  have nez:e≠z:=fun x=>by subst x; rw [z4] at hoe; cases hoe; simp at hce
  refine wpAny_setField_rec z4 (by simp) fun k5 _ s5=>hE k5 e (fun c o c1 c2 c3 c4 x=>s5.extBut _ _ c1 (s4 _ _ c4 (s3.extBut _ _ c2 (s2.extBut _ _ c3 (s1.extBut _ _ c1 x))))) ⟨oe,s5.extBut _ _ nez hoe,hce⟩
def zVb (b1 b2:Bool) (l1 l2:Addr) (h:Heap):Heap :=
 ((((h.push { cls:=.type (zLu b1),data:=.fields #[.ref l1,.int 0 0] }).push { cls:=.type (zLu b2),data:=.fields #[.ref l2,.int 0 0] }).push { cls:=.type "tuple", data:=.seq #[.ref h.objs.size,.ref (h.objs.size + 1)] }).push { cls:=.type "tuple", data:=.seq #[.none,.none] }).push { cls:=.type "zip", data:=.fields #[.none,.bool false,.bool false,.ref (h.objs.size + 2),.ref (h.objs.size + 3)] }
theorem zTj (b1 b2:Bool) (l1 l2:Addr) (xs ys:Array Value) :
  Meets (Builtin.«zip.__new__» ⟨[.type "zip", .ref l1,.ref l2],[]⟩) (fun _ R s=>SS b1 s.heap l1 xs∧SS b2 s.heap l2 ys ∧
   R (.ok (.ret (.ref (s.heap.objs.size + 4)))) { s with heap:=zVb b1 b2 l1 l2 s.heap }) :=
 .of_wp fun prog w A R s h=>by
  obtain ⟨hp,g,d,tk,os⟩:=s
  obtain ⟨hl1,hl2,h⟩:=h
  have hsub:=sub_zip
  have hL1:SS b1 (Shared.heap ⟨hp,g,d,tk,os⟩) l1 xs:=hl1
  have hL2:SS b2 (Shared.heap ⟨hp.push { cls:=.type (zLu b1),data:=.fields #[.ref l1,.int 0 0] },g,d,tk,os⟩) l2 ys:=SS.at hl2 fun o e=>Heap.get?_push_of_some _ e
  wp_walk using zT1 hL1,zT1 hL2
  refine ⟨_,rfl,?_⟩
  simp only [zVb,Heap.size_push] at h ⊢
  exact h
theorem zSk {b1 b2:Bool} {l1 l2:Addr} {xs ys:Array Value} {Q:Value→Shared→Prop} (hl1:SS b1 s.heap l1 xs) (hl2:SS b2 s.heap l2 ys)
  (h:∀ h',IsZip h' (s.heap.objs.size + 4) (s.heap.objs.size + 2) (s.heap.objs.size + 3) .none→IsPair h' (s.heap.objs.size + 2) (.ref s.heap.objs.size) (.ref (s.heap.objs.size + 1))→IsPair h' (s.heap.objs.size + 3) .none .none →
   SI b1 h' s.heap.objs.size l1 0→SI b2 h' (s.heap.objs.size + 1) l2 0→(∀ c o,s.heap.get? c = some o→h'.get? c = some o)→Q (.ref (s.heap.objs.size + 4)) { s with heap:=h' }) :
  wpAny (model prog w) A (call (.type "zip") [.ref l1,.ref l2]) Q E s:=by
 refine callType_new F.called_zip (by decide) (F.typeCall_zip_2 _ _) (F.newCall_zip_2 _ _) (fun obj=>F.args_object_init_3 obj _ _) F.entry_zip_new (zTj b1 b2 l1 l2 xs ys) ⟨hl1,hl2,?_⟩
 unfold zVb
 generalize e1:s.heap.push { cls:=.type (zLu b1),data:=.fields #[.ref l1,.int 0 0] } = k1
 have n1:k1.objs.size = s.heap.objs.size + 1:=by rw [← e1,Heap.size_push]
 generalize e2:k1.push { cls:=.type (zLu b2),data:=.fields #[.ref l2,.int 0 0] } = k2
 have n2:k2.objs.size = s.heap.objs.size + 2:=by rw [← e2,Heap.size_push,n1]
 generalize e3:k2.push { cls:=.type "tuple", data:=.seq #[.ref s.heap.objs.size,.ref (s.heap.objs.size + 1)] } = k3
 have n3:k3.objs.size = s.heap.objs.size + 3:=by rw [← e3,Heap.size_push,n2]
 generalize e4:k3.push { cls:=.type "tuple", data:=.seq #[.none,.none] } = k4
 have n4:k4.objs.size = s.heap.objs.size + 4:=by rw [← e4,Heap.size_push,n3]
 generalize e5:k4.push { cls:=.type "zip", data:=.fields #[.none,.bool false,.bool false,.ref (s.heap.objs.size + 2),.ref (s.heap.objs.size + 3)] } = k5
 have u5:∀ c o,k4.get? c = some o→k5.get? c = some o:=fun c o q=>e5 ▸ Heap.get?_push_of_some _ q
 have u4:∀ c o,k3.get? c = some o→k5.get? c = some o:=fun c o q=>u5 c o (e4 ▸ Heap.get?_push_of_some _ q)
 have u3:∀ c o,k2.get? c = some o→k5.get? c = some o:=fun c o q=>u4 c o (e3 ▸ Heap.get?_push_of_some _ q)
 have u2:∀ c o,k1.get? c = some o→k5.get? c = some o:=fun c o q=>u3 c o (e2 ▸ Heap.get?_push_of_some _ q)
 have u1:∀ c o,s.heap.get? c = some o→k5.get? c = some o:=fun c o q=>u2 c o (e1 ▸ Heap.get?_push_of_some _ q)
 have g5:IsZip k5 (s.heap.objs.size + 4) (s.heap.objs.size + 2) (s.heap.objs.size + 3) .none:=by
  rw [← n4,← e5]
  exact Heap.get?_push_size _ rfl
 have g4:IsPair k5 (s.heap.objs.size + 3) .none .none:=by
  rw [← n3]
  exact u5 _ _ (by rw [← e4]; exact Heap.get?_push_size _ rfl)
 have g3:IsPair k5 (s.heap.objs.size + 2) (.ref s.heap.objs.size) (.ref (s.heap.objs.size + 1)):=by
  have q:=u4 k2.objs.size _ (by rw [← e3]; exact Heap.get?_push_size _ rfl)
  rw [n2] at q
  exact q
 have g2:SI b2 k5 (s.heap.objs.size + 1) l2 0:=by
  rw [← n1]
  exact SI.of ⟨_,u3 _ _ (by rw [← e2]; exact Heap.get?_push_size _ rfl),rfl,rfl⟩
 have g1:SI b1 k5 s.heap.objs.size l1 0:=SI.of ⟨_,u2 _ _ (by rw [← e1]; exact Heap.get?_push_size _ rfl),rfl,rfl⟩
 exact ⟨⟨_,g5,rfl⟩,h k5 g5 g3 g4 g1 g2 u1⟩
end
end L2

namespace L2
open PySem PySem.Spec PyProof.Rows
def SqB (b:Bool) (K:PySem.W.Frag) (H:Hp) (l:Addr) (xs:List V):Prop:=match b with | true=>SqL K H l xs | false=>SqT K H l xs
theorem Inv.sqB {X:Cx} {pins:List (Addr × Obj)} {σ:St} {H:Hp} {s:Shared} {b:Bool} {l:Addr} {xs:List V} (I:Inv X pins σ H s) (h:SqB b X.K H l xs):∃ its:List Value,Vals xs its∧SS b s.heap l its.toArray∧xs.length≤sizeLine:=by
 cases b with
 | true =>
  obtain ⟨its,r,p,z⟩:=I.list h
  exact ⟨its,r,p.isList,z⟩
 | false =>
  obtain ⟨its,r,p,z⟩:=I.tuple h
  exact ⟨its,r,p,z⟩
theorem Inv.sqB_inj {X:Cx} {pins:List (Addr × Obj)} {σ:St} {H:Hp} {s:Shared} {b:Bool} {l:Addr} {xs ys:List V} (I:Inv X pins σ H s) (h:SqB b X.K H l xs) (h':SqB b X.K H l ys):xs = ys:=by
 cases b with
 | true=>exact I.list_inj h h'
 | false=>exact I.tuple_inj h h'
def Itz (K:PySem.W.Frag) (b1 b2:Bool) (l1 l2:Addr):It :=
 ⟨fun k H=>∃ xs ys x y,SqB b1 K H l1 xs∧SqB b2 K H l2 ys∧xs[k]? = some x∧ys[k]? = some y,
   fun k H v H'=>∃ T x y,v = .ref T∧H T = none∧H' = upd H T (.tup [x,y])∧(∀ xs,SqB b1 K H l1 xs→xs[k]? = some x)∧(∀ ys,SqB b2 K H l2 ys→ys[k]? = some y),
   fun k H=>∃ xs ys,SqB b1 K H l1 xs∧SqB b2 K H l2 ys∧(xs.length≤k∨ys.length≤k)⟩
theorem zTm {P:Program} {w:World} {K:PySem.W.Frag} {elts:List Expr} {kt:Nat} {pt:Pos} {b1 b2:Bool} {z TI TO i1 i2 l1 l2:Addr} (D:ZipApart z TI TO i1 i2 l1 l2) :
  Turn P w K (.Tuple elts kt pt) (Itz K b1 b2 l1 l2) [z,TI,TO,i1,i2] z (fun k h=>IsZip h z TI TO .none∧IsPair h TI (.ref i1) (.ref i2)∧(∃ a b,IsPair h TO a b)∧SI b1 h i1 l1 k∧SI b2 h i2 l2 k) where
 mem:=by simp
 obj:=fun k h st b hb=>by
  obtain ⟨hz,hI,⟨a',b',hO⟩,h1,h2⟩:=st
  obtain ⟨o1,g1,_,d1⟩:=h1.obj
  obtain ⟨o2,g2,_,d2⟩:=h2.obj
  simp only [List.mem_cons,List.not_mem_nil,or_false] at hb
  rcases hb with rfl | rfl | rfl | rfl | rfl
  ·exact ⟨_,hz,fun v e=>by cases e⟩
  ·exact ⟨_,hI,fun v e=>by cases e⟩
  ·exact ⟨_,hO,fun v e=>by cases e⟩
  ·exact ⟨_,g1,fun v e=>by rw [d1] at e; cases e⟩
  ·exact ⟨_,g2,fun v e=>by rw [d2] at e; cases e⟩
 keep:=fun k h h' st kp=>by
  obtain ⟨hz,hI,⟨a',b',hO⟩,h1,h2⟩:=st
  exact ⟨kp z (by simp) _ hz,kp TI (by simp) _ hI,⟨a',b',kp TO (by simp) _ hO⟩,h1.at fun o e=>kp i1 (by simp) o e,h2.at fun o e=>kp i2 (by simp) o e⟩
 item:=by
  intro X hP hw hK hc k pins s σ H E I hf st hg
  subst hP hw hK
  obtain ⟨hz,hI,⟨a',b',hO⟩,h1,h2⟩:=st
  obtain ⟨xs,ys,x,y,q1,q2,hx,hy⟩:=hg
  obtain ⟨its1,r1,p1,_⟩:=I.sqB q1
  obtain ⟨its2,r2,p2,_⟩:=I.sqB q2
  obtain ⟨u1,e1,v1⟩:=r1.get hx
  obtain ⟨u2,e2,v2⟩:=r2.get hy
  have hT:s.TypeIs (.ref z) "zip" := ⟨_,hz,rfl⟩
  have fresh:H s.heap.objs.size = none:=I.hok.fresh (Nat.le_refl _)
  unfold pyNext
  refine wpAny_bind (wpAny_attempt (wpAny_callSpecial?_slot (name:=Str.ofString "__next__") hT F.slot_zip_next (wpAny_call_entry F.slot_zip_next hT F.entry_zip_next (zRq D hz hI hO h1 h2 p1 p2 (by simpa using e1) (by simpa using e2) fun h' z1 o1 j1 j2 t1 kp=>wpAny_pure ?_) (F.args_zip_next_1 _))))
  refine ⟨_,rfl,wpAny_letOwnedTupleGo_zip z1 fun h2' z2 sb=>?_⟩
  have kp2:∀ c o,c ∉ [z,TO,i1,i2]→s.heap.get? c = some o→h2'.get? c = some o:=fun c o hc e=>by
   simp only [List.mem_cons,List.not_mem_nil,or_false,not_or] at hc
   exact sb.extBut c o hc.1 (kp c o hc.1 hc.2.1 hc.2.2.1 hc.2.2.2 e)
  have nH:∀ c∈[z,TO,i1,i2],c∈[z,TI,TO,i1,i2]:=fun c hc=>by
   simp only [List.mem_cons,List.not_mem_nil,or_false] at hc ⊢
   rcases hc with e | e | e | e <;> simp [e]
  have neT:∀ b o,s.heap.get? b = some o→b≠s.heap.objs.size:=fun b o e=>Nat.ne_of_lt (Heap.lt_size e)
  have neH:∀ b o,H b = some o→b ∉ [z,TO,i1,i2]:=fun b o e hb=>by
   rw [(hf b (nH b hb)).1] at e
   cases e
  have upn:∀ b o,H b = some o→upd H s.heap.objs.size (.tup [x,y]) b = some o:=fun b o e=>by
   rw [zA5 (zBr e fresh)]
   exact e
  refine ⟨.ref s.heap.objs.size,upd H s.heap.objs.size (.tup [x,y]),?_,rfl,⟨_,x,y,rfl,fresh,rfl,fun zs hz'=>by rw [I.sqB_inj hz' q1]; exact hx,fun zs hz'=>by rw [I.sqB_inj hz' q2]; exact hy⟩,?_,fun b hb=>?_⟩
  ·refine Inv.step (s:=s) (h':=h2') (g':=s.gens) (d':=s.drawn) (t':=s.toks) (ch:=[z,TO,i1,i2]) I (fun b hb=>?_) (fun b o _ _ hc e _=>kp2 b o hc e) (fun b o _ _ hc e _=>⟨o.slots,kp2 b o hc e⟩) (fun b o _ e n=>?_) (fun b o hc e=>⟨o,kp2 b o hc e⟩)
    (fun b zs e=>upn b _ e) (fun b o zs e=>upn b _ e) (fun b ps e=>⟨#[],by rw [upn b _ e]; simp⟩) (fun m hm=>?_) (fun b o e=>?_) I.bare
   ·obtain ⟨_,f1,_,f3,f4,f5⟩:=hf b (nH b hb)
    exact ⟨f3,f1,f4,f5⟩
   ·rw [zA5 (neT b o e)]
    exact n
   ·obtain ⟨o,es,ep,ho,r⟩:=hm
    refine ⟨o,es,ep,kp2 _ o (fun hb=>?_) ho,r⟩
    exact (hf _ (nH _ hb)).2.1 rfl
   ·by_cases hb:b = s.heap.objs.size
    ·subst hb
     rw [zAc] at e
     cases e
     exact ⟨by show 2≤sizeLine; decide,[u1,u2],.cons v1 (.cons v2 .nil),_,sb.extBut _ _ (Nat.ne_of_gt (Heap.lt_size hz)) t1,rfl,_,rfl⟩
    ·rw [zA5 hb] at e
     refine (I.hok b o e).stay (fun c u hc q=>kp2 c u ?_ q) (fun c q=>upn c _ q) fun c zs q=>upn c _ q
     rcases hc with hc | hc
     ·rw [hc]; exact neH b o e
     ·exact neH c _ hc
  ·exact ⟨z2,sb.extBut _ _ D.TIz (kp _ _ D.TIz D.TITO D.TIi1 D.TIi2 hI),⟨_,_,sb.extBut _ _ D.TOz o1⟩,j1.at fun o e=>sb.extBut _ o D.i1z e,j2.at fun o e=>sb.extBut _ o D.i2z e⟩
  ·obtain ⟨o,e,_⟩:∃ o,s.heap.get? b = some o∧True:=by
    obtain ⟨o1,g1,_⟩:=h1.obj
    obtain ⟨o2,g2,_⟩:=h2.obj
    simp only [List.mem_cons,List.not_mem_nil,or_false] at hb
    rcases hb with rfl | rfl | rfl | rfl | rfl
    ·exact ⟨_,hz,trivial⟩
    ·exact ⟨_,hI,trivial⟩
    ·exact ⟨_,hO,trivial⟩
    ·exact ⟨_,g1,trivial⟩
    ·exact ⟨_,g2,trivial⟩
   rw [zA5 (neT b o e)]
   exact (hf b hb).1
 done:=by
  intro X hP hw hK hc k pins s σ H E I hf st hg
  subst hP hw hK
  obtain ⟨hz,hI,⟨a',b',hO⟩,h1,h2⟩:=st
  obtain ⟨xs,ys,q1,q2,hend⟩:=hg
  obtain ⟨its1,r1,p1,_⟩:=I.sqB q1
  obtain ⟨its2,r2,p2,_⟩:=I.sqB q2
  have hT:s.TypeIs (.ref z) "zip" := ⟨_,hz,rfl⟩
  have hend':its1.toArray[k]? = none∨its2.toArray[k]? = none:=by
   have l1':=r1.length
   have l2':=r2.length
   rcases hend with h | h
   ·exact .inl (Array.getElem?_eq_none (by rw [List.size_toArray]; omega))
   ·exact .inr (Array.getElem?_eq_none (by rw [List.size_toArray]; omega))
  have nH:∀ c∈[z,TO,i1,i2],c∈[z,TI,TO,i1,i2]:=fun c hc=>by
   simp only [List.mem_cons,List.not_mem_nil,or_false] at hc ⊢
   rcases hc with e | e | e | e <;> simp [e]
  have neH:∀ b o,H b = some o→b ∉ [z,TO,i1,i2]:=fun b o e hb=>by
   rw [(hf b (nH b hb)).1] at e
   cases e
  unfold pyNext
  refine wpAny_bind (wpAny_attempt (wpAny_callSpecial?_slot (name:=Str.ofString "__next__") hT F.slot_zip_next (wpAny_call_entry F.slot_zip_next hT F.entry_zip_next (zTd (I.ok.hd hc) D hz hI hO h1 h2 p1 p2 hend' fun h' e kp he=>?_) (F.args_zip_next_1 _))))
  obtain ⟨oe,hoe,hce⟩:=he
  refine wpAny_bind (wpAny_isInstance (T := "StopIteration") (b:=true) ⟨oe,hoe,hce⟩ isSubtype_stop (wpAny_pure ⟨rfl,?_⟩))
  have kp2:∀ c o,c ∉ [z,TO,i1,i2]→s.heap.get? c = some o→h'.get? c = some o:=fun c o hc e=>by
   simp only [List.mem_cons,List.not_mem_nil,or_false,not_or] at hc
   exact kp c o hc.1 hc.2.1 hc.2.2.1 hc.2.2.2 e
  refine I.step (g':=s.gens) (d':=s.drawn) (t':=s.toks) (ch:=[z,TO,i1,i2]) (fun b hb=>?_) (fun b o _ _ hc e _=>kp2 b o hc e) (fun b o _ _ hc e _=>⟨o.slots,kp2 b o hc e⟩) (fun b o _ e n=>n) (fun b o hc e=>⟨o,kp2 b o hc e⟩)
   (fun b zs e=>e) (fun b o zs e=>e) (fun b ps e=>⟨#[],by rw [e]; simp⟩) (fun m hm=>?_) (fun b o e=>?_) I.bare
  ·obtain ⟨_,f1,_,f3,f4,f5⟩:=hf b (nH b hb)
   exact ⟨f3,f1,f4,f5⟩
  ·obtain ⟨o,es,ep,ho,r⟩:=hm
   refine ⟨o,es,ep,kp2 _ o (fun hb=>?_) ho,r⟩
   exact (hf _ (nH _ hb)).2.1 rfl
  ·refine (I.hok b o e).stay (fun c u hc q=>kp2 c u ?_ q) (fun c q=>q) fun c zs q=>q
   rcases hc with hc | hc
   ·rw [hc]; exact neH b o e
   ·exact neH c _ hc
 self:=fun _ _ _ _ _ st h=>wpAny_pyIter_zip st.1 h
section
variable {X:Cx}
def iZip (K:PySem.W.Frag) (ta:TA):TI:=fun σ H R=>ta σ H fun vs H1=>∃ (b1 b2:Bool) (l1 l2:Addr) (xs ys:List V),vs = [.ref l1,.ref l2]∧SqB b1 K H1 l1 xs∧SqB b2 K H1 l2 ys∧R (Itz K b1 b2 l1 l2) H1
theorem zTz {elts:List Expr} {kt:Nat} {pt:Pos} {a b:Expr} {ta:TA} {p pos:Pos} (hg:Gl X "zip") (hm:X.mg "zip" = none) (ha:PA X [a,b] ta) (hs:starEach [a,b] X.env = [(false,eval a X.env),(false,eval b X.env)]:=by rfl) (hs2:starEach [b] X.env = [(false,eval b X.env)]:=by rfl) :
  PI X (.Tuple elts kt pt) (.Call (.Name "zip" p) [a,b] [] pos) (iZip X.K ta):=by
 intro pins s σ H R I h
 refine Call_ (zKi I hg hm bt_zip (PyProof.Rows.callWith_type1 (thn (ha pos pins s σ H _ I h) fun us s1 ⟨vs,H1,I1,r1,q1⟩=>?_) (by rw [hs,hs2]) (by rw [hs2]; rfl)))
 obtain ⟨b1,b2,l1,l2,xs,ys,e,g1,g2,q⟩:=q1
 subst e
 obtain ⟨u1,u2,rfl,v1,v2⟩:=Vals.two r1
 cases v1
 cases v2
 obtain ⟨its1,_,p1,_⟩:=I1.sqB g1
 obtain ⟨its2,_,p2,_⟩:=I1.sqB g2
 have a1:l1 < s1.heap.objs.size:=by
  obtain ⟨o,e,_⟩:=p1.obj
  exact Heap.lt_size e
 have a2:l2 < s1.heap.objs.size:=by
  obtain ⟨o,e,_⟩:=p2.obj
  exact Heap.lt_size e
 refine zSk p1 p2 fun h' hz hI hO j1 j2 kp=>?_
 refine wpAny_pyIter_zip hz ?_
 refine ⟨_,_,_,_,H1,rfl,I1.kept (t':=s1.toks) kp,zTm (zipApart_new a1 a2),⟨hz,hI,⟨_,_,hO⟩,j1,j2⟩,fun b hb=>?_,q⟩
 have hge:s1.heap.objs.size≤b:=by
  simp only [List.mem_cons,List.not_mem_nil,or_false] at hb
  rcases hb with rfl | rfl | rfl | rfl | rfl <;> omega
 exact I1.fpOk hge (I1.hok.fresh hge)
end
section
variable {K:PySem.W.Frag} {b1 b2:Bool} {l1 l2 D:Addr} {xs ys:List V} {g:TG} {tt:TT} {te:TE} {σ0:St} {H1:Hp} {Q:VK}
theorem zSq (Pv:Nat→St→List V→Hp→Prop) (h0:Pv 0 σ0 [] (upd H1 D (.lst []))) (hl:∀ i σ zs H,Pv i σ zs H→SqB b1 K H l1 xs∧SqB b2 K H l2 ys∧H D = some (.lst zs))
  (hs:∀ i x y T σ zs H,xs[i]? = some x→ys[i]? = some y→H T = none→Pv i σ zs H→g (.ref T) σ (upd H T (.tup [x,y])) fun σ2 H2=>tt σ2 H2 fun b H3 =>
   if b = true then te σ2 H3 fun z H4=>H4 D = some (.lst zs)∧zs.length < sizeLine∧Pv (i + 1) σ2 (zs ++ [z]) (upd H4 D (.lst (zs ++ [z]))) else Pv (i + 1) σ2 zs H3)
  (hd:∀ σ zs H,Pv (min xs.length ys.length) σ zs H→Q (.ref D) H):zJb (Itz K b1 b2 l1 l2) D g tt te σ0 H1 Q:=by
 refine ⟨fun i m σ zs H=>m = min xs.length ys.length - i∧i≤min xs.length ys.length∧Pv i σ zs H,⟨_,rfl,Nat.zero_le _,h0⟩,?_⟩
 rintro i m σ zs H ⟨rfl,hi,p⟩
 obtain ⟨q1,q2,qd⟩:=hl i σ zs H p
 refine ⟨qd,?_⟩
 by_cases hlt:i < min xs.length ys.length
 ·have c1:i < xs.length:=by omega
  have c2:i < ys.length:=by omega
  refine .inr ⟨⟨xs,ys,xs[i],ys[i],q1,q2,by simp [c1],by simp [c2]⟩,Pv (i + 1),fun σ' zs' H' z=>⟨min xs.length ys.length - (i + 1),by omega,rfl,hlt,z⟩,fun v H' y=>?_⟩
  obtain ⟨T,x,y,rfl,hT,rfl,y1,y2⟩:=y
  exact hs i x y T σ zs H (y1 xs q1) (y2 ys q2) hT p
 ·have e:i = min xs.length ys.length:=by omega
  subst e
  exact .inl ⟨⟨xs,ys,q1,q2,by omega⟩,hd σ zs H p⟩
theorem zJi (Pv:Nat→St→List V→Hp→Prop) (h0:Pv 0 σ0 [] (upd H1 D (.lst []))) (hl:∀ i σ zs H,Pv i σ zs H→SqB b1 K H l1 xs∧SqB b2 K H l2 ys∧H D = some (.lst zs))
  (hs:∀ i x y T σ zs H,xs[i]? = some x→ys[i]? = some y→H T = none→Pv i σ zs H→g (.ref T) σ (upd H T (.tup [x,y])) fun σ2 H2=>te σ2 H2 fun z H4=>H4 D = some (.lst zs)∧zs.length < sizeLine∧Pv (i + 1) σ2 (zs ++ [z]) (upd H4 D (.lst (zs ++ [z]))))
  (hd:∀ σ zs H,Pv (min xs.length ys.length) σ zs H→Q (.ref D) H):zJb (Itz K b1 b2 l1 l2) D g tYes te σ0 H1 Q:=zSq Pv h0 hl (fun i x y T σ zs H e1 e2 e3 p=>hs i x y T σ zs H e1 e2 e3 p) hd
end
end L2

namespace L2
open PySem PySem.Spec PyProof.Rows
theorem ifD {p A B:Prop} [Decidable p] (h1:p→A) (h2:¬ p→B):if decide p = true then A else B:=by
 by_cases h:p
 ·rw [if_pos (decide_eq_true h)]; exact h1 h
 ·rw [if_neg (by rw [decide_eq_false h]; exact Bool.false_ne_true)]; exact h2 h
theorem ifN {p A B:Prop} [Decidable p] (h1:¬ p→A) (h2:p→B):if (!decide p) = true then A else B:=by
 by_cases h:p
 ·rw [if_neg (by rw [decide_eq_true h]; exact Bool.false_ne_true)]; exact h2 h
 ·rw [if_pos (by rw [decide_eq_false h]; rfl)]; exact h1 h
theorem ifE {x y:Int} {A B:Prop} (h1:x = y→A) (h2:x≠y→B):if decide (V.int x = V.int y) = true then A else B :=
 ifD (fun h=>h1 (V.int.inj h)) fun h=>h2 fun e=>h (congrArg V.int e)
theorem ifNe {x y:Int} {A B:Prop} (h1:x≠y→A) (h2:x = y→B):if (!decide (V.int x = V.int y)) = true then A else B :=
 ifN (fun h=>h1 fun e=>h (congrArg V.int e)) fun h=>h2 (V.int.inj h)
theorem decI {x y:Int} (h:x = y):decide (V.int x = V.int y) = true:=decide_eq_true (congrArg V.int h)
theorem zAd {H:Hp} {p:Addr} (h:H p = none) (o:HO):Same H (upd H p o):=fun b u q=>by rw [zA5 (zBr q h)]; exact q
theorem Sq.same {K:PySem.W.Frag} {H H':Hp} {a:Addr} {xs:List V} (h:Sq K H a xs) (e:Same H H'):Sq K H' a xs:=by
 rcases h with h | h
 ·exact .inl (e.seq h)
 ·refine .inr ?_
  rcases h with h | h
  ·rcases h with h | ⟨o,h⟩
   ·exact .inl (.inl (e _ _ h))
   ·exact .inl (.inr ⟨o,e _ _ h⟩)
  ·exact .inr h
theorem zB7 {ns:List Int} {i:Nat} {x:V} (h:(ns.map V.int)[i]? = some x):∃ n,ns[i]? = some n∧x = .int n:=by
 rw [List.getElem?_map] at h
 cases e:ns[i]? with
 | none=>rw [e] at h; cases h
 | some n=>rw [e] at h; exact ⟨n,rfl,(Option.some.inj h).symm⟩
theorem zBn {α:Type} {l:List α} {i:Nat} {x:α} (h:l[i]? = some x):l.take (i + 1) = l.take i ++ [x]:=by
 rw [List.take_succ,h]; rfl
theorem small {n:Nat} (h:n≤1000):n≤sizeLine:=Nat.le_of_lt (zA6 h)
end L2
namespace L2
open PySem PySem.Spec PyProof.Rows
theorem SqT.same {K:PySem.W.Frag} {H H':Hp} {a:Addr} {xs:List V} (h:SqT K H a xs) (e:Same H H'):SqT K H' a xs:=by
 rcases h with h | h
 ·rcases h with h | ⟨o,h⟩
  ·exact .inl (.inl (e _ _ h))
  ·exact .inl (.inr ⟨o,e _ _ h⟩)
 ·exact .inr h
theorem zNe (K:PySem.W.Frag):PySem.W.kitOne K (.type "int") (.type "int") = some true:=rfl
theorem zLv (K:PySem.W.Frag):PySem.W.kitOne K (.type "int") (.type "bool") = some false:=rfl
theorem zF8 (K:PySem.W.Frag):PySem.W.kitOne K (.type "tuple") (.type "tuple") = some true:=rfl
end L2
namespace L2
open PySem PySem.Spec PyProof.Rows
def zSx (t:TT):Prop:=∀ (σ:St) (H:Hp) (Q Q':Bool→Hp→Prop),(∀ b H1,Q b H1→Q' b H1)→t σ H Q→t σ H Q'
def zLo (t:TE):Prop:=∀ (σ:St) (H:Hp) (Q Q':VK),(∀ b H1,Q b H1→Q' b H1)→t σ H Q→t σ H Q'
def zS9 (t:TA):Prop:=∀ (σ:St) (H:Hp) (Q Q':List V→Hp→Prop),(∀ b H1,Q b H1→Q' b H1)→t σ H Q→t σ H Q'
def MonoR (r:R2):Prop:=∀ (x y:V) (H:Hp) (Q Q':VK),(∀ b H1,Q b H1→Q' b H1)→r x y H Q→r x y H Q'
def MonoC (r:List V→Hp→VK→Prop):Prop:=∀ (xs:List V) (H:Hp) (Q Q':VK),(∀ b H1,Q b H1→Q' b H1)→r xs H Q→r xs H Q'
theorem zL6 {i:Nat} : zLo (tVar i):=fun _ _ _ _ hq ⟨v,e,z⟩=>⟨v,e,hq _ _ z⟩
theorem mo_c {v:V} : zLo (tC v):=fun _ _ _ _ hq z=>hq _ _ z
theorem zUp {r:R2} {ta tb:TE} (hr:MonoR r) (ha:zLo ta) (hb:zLo tb):zLo (tOp r ta tb):=fun σ _ _ _ hq z=>ha σ _ _ _ (fun _ _ z=>hb σ _ _ _ (fun _ _ z=>hr _ _ _ _ _ hq z) z) z
theorem zUx {g:Int→Int→V} : MonoR (rI0 g):=fun _ _ _ _ _ hq ⟨i,j,e1,e2,z⟩=>⟨i,j,e1,e2,hq _ _ z⟩
theorem zNc {t:TE} (h:zLo t):zSx (zQq t):=fun σ _ _ _ hq z=>h σ _ _ _ (fun _ _ ⟨k,e,z⟩=>⟨k,e,hq _ _ z⟩) z
theorem mo_and {t u:TT} (h:zSx t) (h':zSx u):zSx (tAnd t u):=fun σ _ _ _ hq z=>h σ _ _ _ (fun b _ z=>by
 cases b with
 | true=>exact h' σ _ _ _ hq z
 | false=>exact hq _ _ z) z
theorem zTx:zS9 tNil:=fun _ _ _ _ hq z=>hq _ _ z
theorem zRt {te:TE} {ta:TA} (h:zLo te) (h':zS9 ta):zS9 (tCons te ta):=fun σ _ _ _ hq z=>h σ _ _ _ (fun _ _ z=>h' σ _ _ _ (fun _ _ z=>hq _ _ z) z) z
theorem mo_cb {r:List V→Hp→VK→Prop} {t:TA} (hr:MonoC r) (h:zS9 t):zLo (tCB r t):=fun σ _ _ _ hq z=>h σ _ _ _ (fun _ _ z=>hr _ _ _ _ hq z) z
theorem zT0 {K:PySem.W.Frag} : MonoC (fun xs H Q=>∃ p ys,xs = [.ref p]∧(SqL K H p ys∨SqT K H p ys)∧Q (.int ys.length) H):=fun _ _ _ _ hq ⟨p,ys,e,s,z⟩=>⟨p,ys,e,s,hq _ _ z⟩
theorem zJu (ns:List Int) (lo hi:Option Int):cutV (ns.map V.int) lo hi = ((ns.drop (HT.sIx ns.length 0 lo)).take (HT.sIx ns.length ns.length hi - HT.sIx ns.length 0 lo)).map V.int:=by
 unfold cutV
 rw [List.length_map,List.map_take,List.map_drop]
end L2
namespace L2
open PySem PySem.Spec PyProof.Rows
end L2

namespace L2
open PySem PySem.Spec PyProof.Rows
theorem zT7 {A:Around} {s:Shared} {xs ys:List Int} {us ws:List Value} (r1:Vals (xs.map V.int) us) (r2:Vals (ys.map V.int) ws):∀ j (h1:j < us.toArray.size) (h2:j < ws.toArray.size),
  SeqAt.EqAt A s us.toArray[j] ws.toArray[j] (decide (xs[j]? = ys[j]?)):=fun j h1 h2=>by
 have l1:=r1.length
 have l2:=r2.length
 rw [List.length_map] at l1 l2
 have g1:j < us.length:=by simpa using h1
 have g2:j < ws.length:=by simpa using h2
 have k1:j < xs.length:=by omega
 have k2:j < ys.length:=by omega
 obtain ⟨u,hu,t,ru⟩:=r1.get (i:=j) (x:=.int xs[j]) (by rw [List.getElem?_map,List.getElem?_eq_getElem k1]; rfl)
 obtain ⟨w,hw,t',rw'⟩:=r2.get (i:=j) (x:=.int ys[j]) (by rw [List.getElem?_map,List.getElem?_eq_getElem k2]; rfl)
 have e1:us.toArray[j] = .int xs[j] t:=by
  have z:=List.getElem?_eq_getElem g1
  rw [hu] at z
  rw [List.getElem_toArray,← Option.some.inj z,ru]
 have e2:ws.toArray[j] = .int ys[j] t':=by
  have z:=List.getElem?_eq_getElem g2
  rw [hw] at z
  rw [List.getElem_toArray,← Option.some.inj z,rw']
 rw [e1,e2]
 have e3:decide (xs[j]? = ys[j]?) = (xs[j] == ys[j]):=by
  rw [List.getElem?_eq_getElem k1,List.getElem?_eq_getElem k2]
  by_cases h:xs[j] = ys[j]
  ·rw [h]; simp
  ·rw [decide_eq_false (fun z=>h (Option.some.inj z))]
   exact (beq_eq_false_iff_ne.mpr h).symm
 rw [e3]
 exact SeqAt.EqAt.int_int _ _ _ _
theorem zQ0 {xs ys:List Int} : ((List.range (min xs.length ys.length)).all (fun j=>decide (xs[j]? = ys[j]?)) && xs.length == ys.length) = decide (xs = ys):=by
 by_cases h:xs = ys
 ·subst h
  rw [decide_eq_true rfl,Bool.and_eq_true]
  exact ⟨List.all_eq_true.mpr fun j _=>decide_eq_true rfl,by simp⟩
 ·rw [decide_eq_false h,Bool.and_eq_false_iff]
  by_cases hl:xs.length = ys.length
  ·left
   rw [Bool.eq_false_iff]
   intro z
   apply h
   rw [List.all_eq_true] at z
   refine List.ext_getElem? fun j=>?_
   by_cases hj:j < xs.length
   ·exact of_decide_eq_true (z j (List.mem_range.mpr (by omega)))
   ·rw [List.getElem?_eq_none (by omega),List.getElem?_eq_none (by omega)]
  ·right
   exact beq_eq_false_iff_ne.mpr hl
section
variable {X:Cx}
def rEqT (K:PySem.W.Frag) (neg:Bool):R2:=fun x y H Q=>∃ (a b:Addr) (xs ys:List Int),x = .ref a∧y = .ref b∧SqT K H a (xs.map V.int)∧SqT K H b (ys.map V.int)∧Q (.bl (if neg then !decide (xs = ys) else decide (xs = ys))) H
theorem zN6 (hu:X.A.units < cLine):OpR X (compareOp .Eq) (rEqT X.K false):=by
 intro pins s σ H x y v u Q I rx ry h
 obtain ⟨a,b,xs,ys,rfl,rfl,h1,h2,q⟩:=h
 cases rx
 cases ry
 obtain ⟨us,r1,p1,_⟩:=I.tuple h1
 obtain ⟨ws,r2,p2,_⟩:=I.tuple h2
 refine SeqAt.eq_tupleAt (e:=fun j=>decide (xs[j]? = ys[j]?)) (show s.heap.IsTuple a us.toArray from p1) (show s.heap.IsTuple b ws.toArray from p2) hu (zT7 r1 r2) ?_
 have l1:=r1.length
 have l2:=r2.length
 rw [List.length_map] at l1 l2
 rw [List.size_toArray,List.size_toArray,← l1,← l2,zQ0]
 exact ⟨.bl (decide (xs = ys)),H,I,rfl,q⟩
end
end L2
namespace L2
open PySem
theorem zBw {rows:List Int} {P:Int→Prop} (bd:∀ x∈rows,P x) {k:Int} (k0:0≤k) (k1:k < rows.length):∃ v:Int,atI (rows.map V.int) k = some (.int v)∧P v:=by
 have hk:k.toNat < rows.length:=by omega
 refine ⟨rows[k.toNat],?_,bd _ (List.getElem_mem hk)⟩
 have q:atI (rows.map V.int) ((k.toNat:Nat):Int) = some (.int rows[k.toNat]):=zK0 (by rw [List.getElem?_map,List.getElem?_eq_getElem hk] <;> rfl)
 rw [show ((k.toNat:Nat):Int) = k from by omega] at q
 exact q
end L2
namespace L2
theorem zPw.of {i j:Int} (hi:i.natAbs≤10 ^ 100) (hj:j.natAbs≤10 ^ 100):zPw i j :=
 ⟨Nat.lt_of_le_of_lt hi (by decide +kernel),Nat.lt_of_le_of_lt hj (by decide +kernel)⟩
end L2

namespace L2
open PySem PySem.Spec PyProof.Rows
section
variable {X:Cx} {T:List Str} {caps:List (Str × Nat)} {scope:Scope} {elt target iter:Expr} {ifs:List Expr} {pos cpos:Pos} {wi:TI} {g:CC→TG} {tt:CC→TT} {te:CC→TE}
theorem zTq (S:zEx X caps scope) (hc:X.calm = true) (hi:PI X target iter wi) (hg:∀ c,PG (zCq X (T ++ caps.map (·.1)) scope c) target (g c)) (ht:∀ c,PIfs (zCq X (T ++ caps.map (·.1)) scope c) ifs (tt c)) (he:∀ c,PE (zCq X (T ++ caps.map (·.1)) scope c) elt (te c))
  {use:Option (Value→Sem Unit)} {Qv:Value→Shared→Prop} {pins:List (Addr × Obj)} {s:Shared} {σ:St} {H:Hp} {Q:VK} (I:Inv X pins σ H s) (h:zUt T.length caps wi g tt te σ H Q)
  (hfin:∀ (D C:Addr) (s4:Shared) (H3:Hp),Inv X pins σ H3 s4→Q (.ref D) H3→∀ m,s4.heap.Ns C m→H3 C = none→C≠X.env.locals→X.s₀.heap.objs.size≤C→(∀ x c,X.env.cells.lookup x = some c→c≠C)→(∀ p∈X.pn ++ pins,p.1≠C)→compPost (model X.prog X.w) X.A X.xe use Qv (.ref D) C (.ok .next) s4)
  (hs:∀ x,foldedSetIterable iter X.env x = pure x:=by intro _; rfl) :
  wpAny (model X.prog X.w) X.A (comprehension (.ListComp elt [⟨target,iter,ifs,0⟩] scope pos) scope X.env cpos (newList []) false (eval iter X.env) use) Qv X.xe s:=by
 refine wpAny_comprehension_free (use:=use) rfl hs (zQ4 S.cells) S.kind S.loc (thn (hi pins s σ H _ I h) fun v s1 h1=>thn h1 fun itv s2 h2=>?_)
 obtain ⟨it,fp,tn,J,H2,e,I2,TT,st2,f2,q2⟩:=h2
 subst e
 refine wpAny_newObj_type (wpAny_newFunctionEnv S.nocell (by intro y hy; simp at hy) (fun h1 hn hsb=>?_) S.kind)
 dsimp only at hn hsb ⊢
 generalize hg2:s2.heap.push { cls:=.type "list", dict:=none,data:=.seq ([]:List Value).toArray } = G at hn hsb ⊢
 have hCv:G.objs.size = s2.heap.objs.size + 1:=by rw [← hg2,Heap.size_push]
 have hDC:G.objs.size≠s2.heap.objs.size:=by rw [hCv]; exact Nat.succ_ne_self _
 have hCle:s2.heap.objs.size≤G.objs.size:=by rw [hCv]; exact Nat.le_succ _
 have old:∀ b o,s2.heap.get? b = some o→h1.get? b = some o:=fun b o e=>hsb.extBut b o (Nat.ne_of_lt (Nat.lt_of_lt_of_le (Heap.lt_size e) hCle)) (Heap.get?_push_of_some _ (hg2 ▸ Heap.get?_push_of_some _ e))
 have hacc:∃ n,h1.get? s2.heap.objs.size = some { cls:=.type "list", data:=.seq ([]:List Value).toArray n }:=⟨_,hsb.extBut _ _ (Ne.symm hDC) (Heap.get?_push_of_some _ (hg2 ▸ Heap.get?_push_size _ rfl))⟩
 have hfp:∀ b∈fp,b < s2.heap.objs.size:=fun b hb=>by
  obtain ⟨o,e,_⟩:=TT.obj _ _ st2 b hb
  exact Heap.lt_size e
 have cs:=zFb (env:=X.env) scope.names [] S.cells (fun _ _ z=>by cases z)
 have I0:=zKw (T:=T) (tk:=s2.toks + ([]:List (Str × Value)).length) S I2 f2 hfp (Nat.le_refl _) hCle hDC old hacc hn
 have st0:tn 0 h1:=TT.keep _ _ _ st2 fun b _ o e=>old b o e
 obtain ⟨W,⟨m0,w0⟩,turn⟩:=q2 ⟨G.objs.size,s2,H2,fp⟩ s2.heap.objs.size (I2.hok.fresh (Nat.le_refl _))
 have fr0:∀ b∈fp,upd H2 s2.heap.objs.size (.lst []) b = none:=fun b hb=>by
  rw [zA5 (Nat.ne_of_lt (hfp b hb))]
  exact (f2 b hb).1
 have stat:∀ {H':Hp},(∀ b∈fp,H' b = none)→∀ b∈fp,FpOk (zCq X (T ++ caps.map (·.1)) scope ⟨G.objs.size,s2,H2,fp⟩) [] H' b:=fun {H'} hn' b hb =>
  ⟨hn' b hb,Nat.ne_of_lt (Nat.lt_of_lt_of_le (hfp b hb) hCle),I0.ok.exfs b hb,.inl hb,fun x c e=>(f2 b hb).2.2.2.2.1 x c (cs x c e),fun p hp=>absurd (show p∈([]:List (Addr × Obj)) from hp) (by simp)⟩
 have loop:codeAny (model X.prog X.w) X.A (.compLoop (.ListComp elt [⟨target,iter,ifs,0⟩] scope pos) 0 (.ref it) (.ref s2.heap.objs.size) (compEnvC scope (zHq X.env scope.names []) G.objs.size X.env))
   (compPost (model X.prog X.w) X.A X.xe use Qv (.ref s2.heap.objs.size) G.objs.size) { s2 with heap:=h1,toks:=s2.toks + ([]:List (Str × Value)).length }:=by
  refine codeAny_loop rfl (fun n s'=>∃ i σ' ys H',Inv (zCq X (T ++ caps.map (·.1)) scope ⟨G.objs.size,s2,H2,fp⟩) [] σ' H' s'∧tn i s'.heap∧(∀ b∈fp,H' b = none)∧W i n σ' ys H') (fun n s3 hI=>?_) m0 ⟨0,_,[],_,I0,st0,fr0,w0⟩
  obtain ⟨i,σ3,ys,H3,I3,st3,fr3,w3⟩:=hI
  show wpAny _ X.A ((compTurn (.ListComp elt [⟨target,iter,ifs,0⟩] scope pos) 0 (.ref it) (.ref s2.heap.objs.size) (compEnvC scope (zHq X.env scope.names []) G.objs.size X.env)).onRaise (fun x=>do noteFrame x (compEnvC scope (zHq X.env scope.names []) G.objs.size X.env); theTreesLotGoes x)) _ _ s3
  refine wpAny_noted ?_
  rw [compTurn_list]
  refine wpAny_bind (wpAny_standAt (wpAny_bind ?_))
  obtain ⟨hD3,turn3⟩:=turn i n σ3 ys H3 w3
  rcases turn3 with ⟨stop,qn⟩ | ⟨go,N,hN,step⟩
  ·refine thnF (TT.done (zCq X (T ++ caps.map (·.1)) scope ⟨G.objs.size,s2,H2,fp⟩) rfl rfl rfl hc i [] s3 σ3 H3 _ I3 (stat fr3) st3 stop) fun r s4 ⟨hr,I4⟩=>?_
   subst hr
   refine wpAny_pure ?_
   obtain ⟨m4,hn4,_⟩:=I4.loc
   have J4:Inv X pins σ H3 s4:=by
    refine I2.call' (s':=s4) (ch:=fp) I4.os I4.base I4.hok I4.bare fun b hb=>?_
    obtain ⟨_,f1,_,f3,f4,f5⟩:=f2 b hb
    exact ⟨f3,f1,f4,f5⟩
   refine hfin _ G.objs.size s4 H3 J4 qn m4 hn4 I4.free (Nat.ne_of_gt (Nat.lt_of_lt_of_le I2.lt hCle)) (Nat.le_trans I2.sz hCle) (fun x c e z=>?_) (fun p hp z=>?_)
   ·obtain ⟨v,qq⟩:=I2.cell x c e
    exact absurd (Nat.lt_of_lt_of_le qq.lt (by rw [z]; exact hCle)) (Nat.lt_irrefl _)
   ·exact absurd (Nat.lt_of_lt_of_le (Heap.lt_size (I2.pin p hp).1) (by rw [z]; exact hCle)) (Nat.lt_irrefl _)
  ·refine thnF (TT.item (zCq X (T ++ caps.map (·.1)) scope ⟨G.objs.size,s2,H2,fp⟩) rfl rfl rfl hc i [] s3 σ3 H3 _ I3 (stat fr3) st3 go) fun r s4 ⟨u,hr,h4⟩=>?_
   subst hr
   refine wpAny_bind (thnF h4 fun _ s5 ⟨x,H5,I5,r5,y5,st5,fr5⟩=>?_)
   have I5':=I5.pinned (stat fr5) (TT.obj _ _ st5)
   refine wpAny_bind (thnF (hg _ _ s5 σ3 H5 x u _ I5' r5 (step x H5 y5)) fun _ s6 ⟨σ6,H6,I6,q6⟩=>?_)
   have again:∀ {s7:Shared} {σ7:St} {zs:List V} {H7:Hp},Inv (zCq X (T ++ caps.map (·.1)) scope ⟨G.objs.size,s2,H2,fp⟩) ([] ++ zKs fp s5.heap) σ7 H7 s7→N σ7 zs H7 →
     ∃ m,m < n∧∃ i σ' ys H',Inv (zCq X (T ++ caps.map (·.1)) scope ⟨G.objs.size,s2,H2,fp⟩) [] σ' H' s7∧tn i s7.heap∧(∀ b∈fp,H' b = none)∧W i m σ' ys H':=fun {s7 σ7 zs H7} I7 n7=>by
    obtain ⟨m',hm,w7⟩:=hN σ7 zs H7 n7
    refine ⟨m',hm,i + 1,σ7,zs,H7,I7.unpinned,TT.keep _ _ _ st5 fun b hb o e=>(I7.pin (b,o) (List.mem_append_right _ (List.mem_append_right _ (zEa hb e)))).1,fun b hb=>?_,w7⟩
    obtain ⟨o,e,d⟩:=TT.obj _ _ st5 b hb
    exact (I7.pin (b,o) (List.mem_append_right _ (List.mem_append_right _ (zEa hb e)))).2.1
   refine wpAny_bind (thnF (ht _ _ s6 σ6 H6 _ I6 q6) fun ok s7 ⟨H7,I7,q7⟩=>?_)
   cases ok with
   | false=>exact wpAny_pure ⟨rfl,again I7 q7⟩
   | true =>
    refine wpAny_bind (wpAny_bind (thnF (he _ _ s7 σ6 H7 _ I7 q7) fun y s8 ⟨yv,H8,I8,r8,hD8,hl8,q8⟩=>?_))
    refine wpAny_bind (thnF (zFl _ s8 σ6 H8 (.ref s2.heap.objs.size) [yv] (.ref s2.heap.objs.size) [y] (fun _ H9=>N σ6 (ys ++ [yv]) H9) I8 rfl (.cons r8 .nil) ⟨_,ys,yv,rfl,rfl,hD8,hl8,q8⟩) fun _ s9 ⟨_,H9,I9,_,q9⟩=>?_)
    exact wpAny_pure (wpAny_pure ⟨rfl,again I9 q9⟩)
 exact codeAny_compStart_list loop (TT.self _ 0 _ _ _ st0 loop)
theorem zD7 {i:Nat} {y:Str} {py spos:Pos} (hN:X.N.Nodup) (hy:X.N[i]? = some y) (hloc:X.env.scope.names.lookup y = some .local) (S:zEx X caps scope) (hc:X.calm = true) (hi:PI X target iter wi) (hg:∀ c,PG (zCq X (T ++ caps.map (·.1)) scope c) target (g c)) (ht:∀ c,PIfs (zCq X (T ++ caps.map (·.1)) scope c) ifs (tt c)) (he:∀ c,PE (zCq X (T ++ caps.map (·.1)) scope c) elt (te c))
  (hsw:swapsWith (.ListComp elt [⟨target,iter,ifs,0⟩] scope pos) (some (.Name y py)) spos.line X.env = pure true:=by rfl) (hs:∀ x,foldedSetIterable iter X.env x = pure x:=by intro _; rfl) :
  PS X (.Assign [.Name y py] (.ListComp elt [⟨target,iter,ifs,0⟩] scope pos) spos) (tAsg (zUt T.length caps wi g tt te) (zU7 i)):=by
 intro pins s σ H D I h
 rw [exec_Assign_Name_used _ _ _ _ hsw]
 refine wpAny_bind (wpAny_standAt (wpAny_bind ?_))
 show wpAny _ X.A (do let _ ← comprehension (.ListComp elt [⟨target,iter,ifs,0⟩] scope pos) scope X.env _ (newList []) false (eval iter X.env) (some (assign (.Name y py) X.env))) _ _ s
 refine wpAny_bind (wpAny_mono (zTq (Qv:=fun _ s'=>SP X pins D .next s') S hc hi hg ht he I h (fun D' C s4 H3 J4 q4 m4 hn4 hC hL hS hcell hpin=>?_) hs) (fun _ s' hq=>wpAny_pure (wpAny_pure hq)) fun _ _ e=>e)
 show wpAny (model X.prog X.w) X.A (assign (.Name y py) X.env (.ref D')) (fun _ s''=>∃ m,s''.heap.Ns C m∧∀ h',Heap.SameBut C s''.heap h'→SP X pins D .next { s'' with heap:=h' }) X.xe s4
 refine wpAny_assign_Name (zMs J4 hN hy (.inl hloc) (v:=.ref D') rfl (fun s5 J5 hb=>?_) (.inr hloc))
 obtain ⟨a,sb,ha⟩:=hb
 have hCa:C≠a:=by
  rcases ha with z | z
  ·rw [z]; exact hL
  ·exact fun e=>hcell y a z e.symm
 refine ⟨m4,hn4.sameBut sb hCa,fun h' sb'=>⟨_,H3,?_,q4⟩⟩
 exact J5.turned (t':=s5.toks) (fun b o hb e=>(sb'.2 b hb).trans e) hC hL (.inr hS) hcell hpin
end
end L2

namespace L2
open PySem PySem.Spec PyProof.Rows
theorem zM0:bootBuiltins "enumerate" = some (.type "enumerate"):=by decide +kernel
def Ite (K:PySem.W.Frag) (l:Addr):It :=
 ⟨fun k H=>∃ xs x,SqL K H l xs∧xs[k]? = some x,
   fun k H v H'=>∃ T x,v = .ref T∧H T = none∧H' = upd H T (.tup [.int k,x])∧∀ xs,SqL K H l xs→xs[k]? = some x,
   fun k H=>∃ xs,SqL K H l xs∧xs.length≤k⟩
theorem zRb {P:Program} {w:World} {K:PySem.W.Frag} {elts:List Expr} {kt:Nat} {pt:Pos} {e it l:Addr} (hne:e≠it) :
  Turn P w K (.Tuple elts kt pt) (Ite K l) [e,it] e (fun k h=>(∃ old,IsEnum h e it k old)∧h.IsListIter it l k) where
 mem:=by simp
 obj:=fun k h st b hb=>by
  obtain ⟨⟨old,he⟩,h1⟩:=st
  obtain ⟨o1,g1,_,d1⟩:=h1
  simp only [List.mem_cons,List.not_mem_nil,or_false] at hb
  rcases hb with rfl | rfl
  ·exact ⟨_,he,fun v z=>by cases z⟩
  ·exact ⟨_,g1,fun v z=>by rw [d1] at z; cases z⟩
 keep:=fun k h h' st kp=>by
  obtain ⟨⟨old,he⟩,h1⟩:=st
  exact ⟨⟨old,kp e (by simp) _ he⟩,h1.at fun o z=>kp it (by simp) o z⟩
 item:=by
  intro X hP hw hK hc k pins s σ H E I hf st hg
  subst hP hw hK
  obtain ⟨⟨old,he⟩,h1⟩:=st
  obtain ⟨xs,x,q1,hx⟩:=hg
  obtain ⟨its,r1,p1,_⟩:=I.list q1
  obtain ⟨u1,e1,v1⟩:=r1.get hx
  have fresh:H s.heap.objs.size = none:=I.hok.fresh (Nat.le_refl _)
  refine wpAny_pyNext_enum_item he h1 p1.isList (by simpa using e1) hne fun h' z1 j1 t1 _ kp=>?_
  refine ⟨_,rfl,wpAny_letOwnedTupleGo_enum z1 fun h2' z2 sb=>?_⟩
  have kp2:∀ c o,c ∉ [e,it]→s.heap.get? c = some o→h2'.get? c = some o:=fun c o hc q=>by
   simp only [List.mem_cons,List.not_mem_nil,or_false,not_or] at hc
   exact sb.extBut c o hc.1 (kp c o hc.1 hc.2 q)
  have neT:∀ b o,s.heap.get? b = some o→b≠s.heap.objs.size:=fun b o q=>Nat.ne_of_lt (Heap.lt_size q)
  have neH:∀ b o,H b = some o→b ∉ [e,it]:=fun b o q hb=>by
   rw [(hf b hb).1] at q
   cases q
  have upn:∀ b o,H b = some o→upd H s.heap.objs.size (.tup [.int k,x]) b = some o:=fun b o q=>by
   rw [zA5 (zBr q fresh)]
   exact q
  refine ⟨.ref s.heap.objs.size,upd H s.heap.objs.size (.tup [.int k,x]),?_,rfl,⟨_,x,rfl,fresh,rfl,fun zs hz'=>by rw [I.list_inj hz' q1]; exact hx⟩,?_,fun b hb=>?_⟩
  ·refine Inv.step (s:=s) (h':=h2') (g':=s.gens) (d':=s.drawn) (t':=s.toks + 1) (ch:=[e,it]) I (fun b hb=>?_) (fun b o _ _ hc q _=>kp2 b o hc q) (fun b o _ _ hc q _=>⟨o.slots,kp2 b o hc q⟩) (fun b o _ q n=>?_) (fun b o hc q=>⟨o,kp2 b o hc q⟩)
    (fun b zs q=>upn b _ q) (fun b o zs q=>upn b _ q) (fun b ps q=>⟨#[],by rw [upn b _ q]; simp⟩) (fun m hm=>?_) (fun b o q=>?_) I.bare
   ·obtain ⟨_,f1,_,f3,f4,f5⟩:=hf b hb
    exact ⟨f3,f1,f4,f5⟩
   ·rw [zA5 (neT b o q)]
    exact n
   ·obtain ⟨o,es,ep,ho,r⟩:=hm
    refine ⟨o,es,ep,kp2 _ o (fun hb=>?_) ho,r⟩
    exact (hf _ hb).2.1 rfl
   ·by_cases hb:b = s.heap.objs.size
    ·subst hb
     rw [zAc] at q
     cases q
     exact ⟨by show 2≤sizeLine; decide,[_,u1],.cons ⟨_,rfl⟩ (.cons v1 .nil),_,sb.extBut _ _ (Nat.ne_of_gt (Heap.lt_size he)) t1,rfl,_,rfl⟩
    ·rw [zA5 hb] at q
     refine (I.hok b o q).stay (fun c u hc z=>kp2 c u ?_ z) (fun c z=>upn c _ z) fun c zs z=>upn c _ z
     rcases hc with hc | hc
     ·rw [hc]; exact neH b o q
     ·exact neH c _ hc
  ·exact ⟨⟨_,z2⟩,j1.at fun o z=>sb.extBut _ o (Ne.symm hne) z⟩
  ·obtain ⟨o,q,_⟩:∃ o,s.heap.get? b = some o∧True:=by
    obtain ⟨o1,g1,_⟩:=h1
    simp only [List.mem_cons,List.not_mem_nil,or_false] at hb
    rcases hb with rfl | rfl
    ·exact ⟨_,he,trivial⟩
    ·exact ⟨_,g1,trivial⟩
   rw [zA5 (neT b o q)]
   exact (hf b hb).1
 done:=by
  intro X hP hw hK hc k pins s σ H E I hf st hg
  subst hP hw hK
  obtain ⟨⟨old,he⟩,h1⟩:=st
  obtain ⟨xs,q1,hend⟩:=hg
  obtain ⟨its,r1,p1,_⟩:=I.list q1
  have l1':=r1.length
  refine wpAny_pyNext_enum_end (I.ok.hd hc) he h1 p1.isList (Array.getElem?_eq_none (by rw [List.size_toArray]; omega)) fun h' eb=>⟨rfl,?_⟩
  obtain ⟨f0,f1,f2,f3,f4,f5⟩:=hf it (by simp)
  exact I.turned (t':=s.toks) (fun b o hb q=>eb b o hb q) f0 f1 f3 f4 f5
 self:=fun _ _ _ _ _ st h=>by
  obtain ⟨⟨old,he⟩,_⟩:=st
  exact wpAny_pyIter_enum he h
section
variable {X:Cx}
def iEnum (K:PySem.W.Frag) (ta:TA):TI:=fun σ H R=>ta σ H fun vs H1=>∃ (l:Addr) (xs:List V),vs = [.ref l]∧H1 l = some (.lst xs)∧R (Ite K l) H1
theorem zRn {elts:List Expr} {kt:Nat} {pt:Pos} {a:Expr} {ta:TA} {p pos:Pos} (hg:Gl X "enumerate") (hm:X.mg "enumerate" = none) (ha:PA X [a] ta) (hs:starEach [a] X.env = [(false,eval a X.env)]:=by rfl) :
  PI X (.Tuple elts kt pt) (.Call (.Name "enumerate" p) [a] [] pos) (iEnum X.K ta):=by
 intro pins s σ H R I h
 refine Call_ (zKi I hg hm zM0 (PyProof.Rows.callWith_type1 (thn (ha pos pins s σ H _ I h) fun us s1 ⟨vs,H1,I1,r1,q1⟩=>?_) hs rfl))
 obtain ⟨l,xs,e,hl,q⟩:=q1
 subst e
 obtain ⟨u1,rfl,v1⟩:=Vals.one r1
 cases v1
 obtain ⟨_,its,n,_,_,eo⟩:=I1.lstM hl
 refine call_enumerate_1 eo fun h' he hi _ kp=>?_
 refine wpAny_pyIter_enum he ?_
 refine ⟨_,_,_,_,H1,rfl,I1.kept (t':=s1.toks) kp,zRb (Nat.succ_ne_self _),⟨⟨_,he⟩,hi⟩,fun b hb=>?_,q⟩
 have hge:s1.heap.objs.size≤b:=by
  simp only [List.mem_cons,List.not_mem_nil,or_false] at hb
  rcases hb with rfl | rfl <;> omega
 exact I1.fpOk hge (I1.hok.fresh hge)
end
section
variable {K:PySem.W.Frag} {l D:Addr} {xs:List V} {g:TG} {tt:TT} {te:TE} {σ0:St} {H1:Hp} {Q:VK}
theorem zQt (Pv:Nat→St→List V→Hp→Prop) (h0:Pv 0 σ0 [] (upd H1 D (.lst []))) (hl:∀ i σ zs H,Pv i σ zs H→SqL K H l xs∧H D = some (.lst zs))
  (hs:∀ i x T σ zs H,xs[i]? = some x→H T = none→Pv i σ zs H→g (.ref T) σ (upd H T (.tup [.int i,x])) fun σ2 H2=>tt σ2 H2 fun b H3 =>
   if b = true then te σ2 H3 fun z H4=>H4 D = some (.lst zs)∧zs.length < sizeLine∧Pv (i + 1) σ2 (zs ++ [z]) (upd H4 D (.lst (zs ++ [z]))) else Pv (i + 1) σ2 zs H3)
  (hd:∀ σ zs H,Pv xs.length σ zs H→Q (.ref D) H):zJb (Ite K l) D g tt te σ0 H1 Q:=by
 refine ⟨fun i m σ zs H=>m = xs.length - i∧i≤xs.length∧Pv i σ zs H,⟨_,rfl,Nat.zero_le _,h0⟩,?_⟩
 rintro i m σ zs H ⟨rfl,hi,p⟩
 obtain ⟨q1,qd⟩:=hl i σ zs H p
 refine ⟨qd,?_⟩
 by_cases hlt:i < xs.length
 ·refine .inr ⟨⟨xs,xs[i],q1,by simp [hlt]⟩,Pv (i + 1),fun σ' zs' H' z=>⟨xs.length - (i + 1),by omega,rfl,hlt,z⟩,fun v H' y=>?_⟩
  obtain ⟨T,x,rfl,hT,rfl,y1⟩:=y
  exact hs i x T σ zs H (y1 xs q1) hT p
 ·have e:i = xs.length:=by omega
  subst e
  exact .inl ⟨⟨xs,q1,Nat.le_refl _⟩,hd σ zs H p⟩
theorem zSy {tb:TS} {E:Ends} {σ:St} {H:Hp} (Pv:Nat→St→Hp→Prop) (h0:Pv 0 σ H) (hl:∀ i σ H,Pv i σ H→SqL K H l xs)
  (hs:∀ i x T σ H,xs[i]? = some x→H T = none→Pv i σ H→g (.ref T) σ (upd H T (.tup [.int i,x])) fun σ2 H2=>tb { E with nx:=Pv (i + 1),ct:=Pv (i + 1),bk:=E.nx } σ2 H2) (hd:∀ σ H,Pv xs.length σ H→E.nx σ H) :
  ∃ W:Nat→Nat→St→Hp→Prop,(∃ m,W 0 m σ H)∧∀ i m σ H,W i m σ H →
   ((Ite K l).stop i H∧E.nx σ H)∨((Ite K l).go i H∧∃ N:St→Hp→Prop,(∀ σ' H',N σ' H'→∃ m',m' < m∧W (i + 1) m' σ' H')∧∀ x H',(Ite K l).yld i H x H'→g x σ H' fun σ2 H2=>tb { E with nx:=N,ct:=N,bk:=E.nx } σ2 H2):=by
 refine ⟨fun i m σ H=>m = xs.length - i∧i≤xs.length∧Pv i σ H,⟨_,rfl,Nat.zero_le _,h0⟩,?_⟩
 rintro i m σ H ⟨rfl,hi,p⟩
 have q1:=hl i σ H p
 by_cases hlt:i < xs.length
 ·refine .inr ⟨⟨xs,xs[i],q1,by simp [hlt]⟩,Pv (i + 1),fun σ' H' z=>⟨xs.length - (i + 1),by omega,rfl,hlt,z⟩,fun v H' y=>?_⟩
  obtain ⟨T,x,rfl,hT,rfl,y1⟩:=y
  exact hs i x T σ H (y1 xs q1) hT p
 ·have e:i = xs.length:=by omega
  subst e
  exact .inl ⟨⟨xs,q1,Nat.le_refl _⟩,hd σ H p⟩
end
end L2

namespace L2
open PySem PySem.Spec PyProof.Rows
theorem zJp {xs:List V} {us:List Value} (r:Vals xs us):∀ is:List Nat,Vals (is.filterMap fun i=>xs[i]?) (is.filterMap fun i=>us[i]?)
 | []=>.nil
 | i :: is=>by
  cases e:xs[i]? with
  | none =>
   rw [List.filterMap_cons_none e,List.filterMap_cons_none (Vals.none_of r e)]
   exact zJp r is
  | some x =>
   obtain ⟨u,eu,ru⟩:=r.get e
   rw [List.filterMap_cons_some e,List.filterMap_cons_some eu]
   exact .cons ru (zJp r is)
theorem zSp {xs:List V} {is:List Nat} {y:V} (h:y∈is.filterMap fun i=>xs[i]?):y∈xs:=by
 obtain ⟨i,_,e⟩:=List.mem_filterMap.mp h
 exact List.mem_of_getElem? e
theorem zSb (its:List Value) (lo hi st:Option Int):slicePick its.toArray lo hi st = ((sliceRange (sliceBounds lo hi st its.length).1 (sliceBounds lo hi st its.length).2.1 (sliceBounds lo hi st its.length).2.2).filterMap fun i=>its[i]?).toArray:=by
 unfold slicePick
 simp only [List.size_toArray,List.getElem?_toArray]
section
variable {X:Cx} {e:Expr} {te:TE} {lo hi:Option Expr} {st:Expr} {tl th ts:TO} {pos p2:Pos}
def tSlS (K:PySem.W.Frag) (te:TE) (tl th ts:TO):TE:=fun σ H Q=>te σ H fun x H1=>tl σ H1 fun l H2=>th σ H2 fun u H3=>ts σ H3 fun k H4 =>
 ∃ a xs,x = .ref a∧SqL K H4 a xs∧k≠some 0∧∀ p ys,H4 p = none→(∀ y∈ys,y∈xs)→ys.length≤xs.length→Q (.ref p) (upd H4 p (.lst ys))
theorem zRu (he:PE X e te) (hl:PO X lo tl) (hu:PO X hi th) (hk:PO X (some st) ts):PE X (.Subscript e (.Slice lo hi (some st) p2) pos) (tSlS X.K te tl th ts):=by
 intro pins s σ H Q I h
 refine Subscript_ (thn (he pins s σ H _ I h) fun v s1 ⟨x,H1,I1,r1,q1⟩=>?_)
 refine wpAny_Slice (thn (hl pins s1 σ H1 _ I1 q1) fun vl s2 ⟨l,H2,I2,pl,q2⟩=>thn (hu pins s2 σ H2 _ I2 q2) fun vu s3 ⟨u,H3,I3,pu,q3⟩=>thn (hk pins s3 σ H3 _ I3 q3) fun vk s4 ⟨k,H4,I4,pk,q4⟩=>?_)
 obtain ⟨a,xs,rfl,hx,h0,q⟩:=q4
 cases r1
 have I5:Inv X pins σ H4 { s4 with heap:=s4.heap.push { cls:=.type "slice", data:=.fields #[vl,vu,vk] } }:=I4.kept (t':=s4.toks) fun b ob q=>Heap.get?_push_of_some _ q
 obtain ⟨its,r,ht,hz⟩:=I5.list hx
 have hlen:=r.length
 show wpAny (model X.prog X.w) X.A (subscriptTail e (.Slice lo hi (some st) p2) (.ref a) (.ref s4.heap.objs.size)) (EP X pins σ Q) X.xe { s4 with heap:=s4.heap.push { cls:=.type "slice", data:=.fields #[vl,vu,vk] } }
 refine tail_any (ops:=[.ref a,.ref s4.heap.objs.size]) ht.isList.typeIs slot_list_getitem.lookup ?_ (by with_unfolding_all rfl)
 refine wpAny_getItem_list_slice ht.isList (Heap.IsSliceOf.new ..) pl pu pk h0 ?_ (by rw [List.size_toArray] <;> omega)
 have rp:=zJp r (sliceRange (sliceBounds l u k its.length).1 (sliceBounds l u k its.length).2.1 (sliceBounds l u k its.length).2.2)
 have hz2:=slicePick_size_le its.toArray l u k
 rw [zSb,List.size_toArray,List.size_toArray] at hz2
 have hsz:=Nat.le_trans (Nat.le_of_eq rp.length) (Nat.le_trans hz2 (Nat.le_of_eq hlen.symm))
 rw [zSb]
 refine ⟨.ref _,_,I5.laid (t':=s4.toks) (o:=.lst _) (fun b ob q=>Heap.get?_push_of_some _ q) (Nat.le_refl _) ?_,rfl,q _ _ (I5.hok.fresh (Nat.le_refl _)) (fun y hy=>zSp hy) hsz⟩
 exact ⟨Nat.le_trans hsz hz,_,0,rp,Heap.get?_push_size _ rfl⟩
end
theorem zLa:∀ {rs:List Addr} {us:List Value},Vals (rs.map V.ref) us→us = rs.map Value.ref
 | [],_,r=>by cases r; rfl
 | a :: rs,_,r=>by
  cases r with
  | cons r1 r2 =>
   cases r1
   rw [zLa r2]
   rfl
section
variable {X:Cx}
theorem zMw (n:Nat):(List.range n).all (fun _=>true) = true:=List.all_eq_true.mpr fun _ _=>rfl
end
theorem Same.putNew {H H4:Hp} {D:Addr} {o:HO} (s:Same H H4) (h:H D = none):Same H (upd H4 D o):=fun b u q=>by
 rw [zA5 (zBr q h)]
 exact s _ _ q
abbrev Pr:=Addr × Int × Int
abbrev zBq (ps:List Pr):List V:=(ps.map (·.1)).map V.ref
def PrOk (H:Hp) (M:Nat) (ps:List Pr):Prop:=∀ t∈ps,H t.1 = some (.tup [.int t.2.1,.int t.2.2])∧t.2.1.natAbs≤M∧t.2.2.natAbs≤M
theorem zCn (ps:List Pr):(zBq ps).length = ps.length:=by simp [zBq]
theorem zKc (ps qs:List Pr):zBq (ps ++ qs) = zBq ps ++ zBq qs:=by simp [zBq]
end L2
namespace L2
open PySem PySem.Spec PyProof.Rows
theorem zHy:∀ {xs ys:List Int},xs.map V.int = ys.map V.int→xs = ys
 | [],[],_=>rfl
 | [],_ :: _,h=>nomatch h
 | _ :: _,[],h=>nomatch h
 | x :: xs,y :: ys,h=>by
  rw [List.map_cons,List.map_cons] at h
  injection h with h1 h2
  rw [V.int.inj h1,zHy h2]
section
variable {X:Cx}
theorem zMm {pins:List (Addr × Obj)} {s:Shared} {σ:St} {H:Hp} (I:Inv X pins σ H s) {A:Around} (hu:A.units < cLine) {a b:Addr} {xs ys:List Int} (h1:H a = some (.tup (xs.map V.int))) (h2:H b = some (.tup (ys.map V.int))) :
  SeqAt.EqAt A s (.ref a) (.ref b) (decide (xs = ys)):=by
 by_cases e:a = b
 ·subst e
  rw [h1] at h2
  have z:xs = ys:=zHy (by injection (Option.some.inj h2))
  rw [decide_eq_true z]
  exact SeqAt.EqAt.same _
 ·obtain ⟨us,r1,p1,_⟩:=I.tuple (SqT.of h1)
  obtain ⟨ws,r2,p2,_⟩:=I.tuple (SqT.of h2)
  have q:=SeqAt.RcAt.tuples (A:=A) (s:=s) (l:=a) (b:=b) (items:=us.toArray) (items2:=ws.toArray) (e:=fun j=>decide (xs[j]? = ys[j]?)) p1 p2 hu (zT7 r1 r2)
  have l1:=r1.length
  have l2:=r2.length
  rw [List.length_map] at l1 l2
  rw [List.size_toArray,List.size_toArray,← l1,← l2,zQ0] at q
  exact SeqAt.EqAt.of_refs e q
end
end L2

namespace PySem.W
open PySem PySem.Calls PyProof.Rows
def zD3 {α:Type} (n:Nat) (lt:Nat→Nat→Bool):KasT α→(α→Prop)→Prop
 | .ret a,Q=>Q a
 | .ask i j k,Q=>i < n∧j < n∧zD3 n lt (k (lt i j)) Q
theorem zD3.bind {α β:Type} {n:Nat} {lt:Nat→Nat→Bool} {f:α→KasT β} {Q:β→Prop} : ∀ {t:KasT α},zD3 n lt t (fun a=>zD3 n lt (f a) Q)→zD3 n lt (t.bind f) Q
 | .ret _,h=>h
 | .ask _ _ _,h=>⟨h.1,h.2.1,zD3.bind h.2.2⟩
theorem zD3.wp {α:Type} {n:Nat} {lt:Nat→Nat→Bool} {cmp:Nat→Nat→(Bool→Shared→Prop)→Shared→Prop} {P:α→Prop} {Q:α→Shared→Prop} {s:Shared}
  (hc:∀ i j (C:Bool→Shared→Prop),i < n→j < n→C (lt i j) s→cmp i j C s) (hq:∀ a,P a→Q a s):∀ {t:KasT α},zD3 n lt t P→t.kasWp cmp Q s
 | .ret a,h=>hq a h
 | .ask i j _,h=>hc i j _ h.1 h.2.1 (zD3.wp hc hq h.2.2)
section
variable {O:KeyOrd} (key:Nat→O.α)
def KP (p:Array Nat) (i:Nat):O.α:=key (p.getD i 0)
def SoT (p:Array Nat) (k:Nat):Prop:=∀ i j,i≤j→j < k→O.kle (KP key p i) (KP key p j)
def NiT (p:Array Nat) (k:Nat):Prop:=∀ i j,i≤j→j < k→O.kle (KP key p j) (KP key p i)
structure PIn (n:Nat) (p:Array Nat):Prop where
 perm:p.Perm (List.toArray (List.range n))
variable {key} {n:Nat}
theorem PIn.size {p:Array Nat} (h:PIn n p):p.size = n:=by rw [h.perm.size_eq]; simp
theorem PIn.lt {p:Array Nat} (h:PIn n p) {i:Nat} (hi:i < n):p.getD i 0 < n:=by
 have hs:=h.size
 have e:p.getD i 0 = p[i]'(by omega):=by simp [Array.getD,show i < p.size by omega]
 rw [e]
 have hm:p[i]'(by omega)∈p.toList:=by simp
 have:=(Array.perm_iff_toList_perm.mp h.perm).mem_iff.mp hm
 simpa using this
theorem PIn.rev {p:Array Nat} (h:PIn n p) (i j:Nat):PIn n (kas_rev p i j):=⟨(mirror_perm _ _ _ _).trans h.perm⟩
theorem PIn.bub {p:Array Nat} (h:PIn n p) (i j:Nat):PIn n (bubble p i j):=⟨(bubble_perm _ _ _).trans h.perm⟩
theorem zG7 {p q:Array Nat} {i j:Nat} (h:p[i]? = q[j]?):KP key p i = KP key q j:=by
 unfold KP; rw [Array.getD_eq_getD_getElem?,Array.getD_eq_getD_getElem?,h]
theorem zT6 {p:Array Nat} {src d:Nat} (hs:src < p.size) (hd:d≤src) (k:Nat) :
  KP key (bubble p src d) k = if k = src - d then KP key p src else if src - d < k∧k≤src then KP key p (k - 1) else KP key p k:=by
 have e:=getElem?_bubble hs d hd k
 split
 ·rename_i h; rw [if_pos h] at e; exact zG7 e
 ·rename_i h
  rw [if_neg h] at e
  split
  ·rename_i h2; rw [if_pos h2] at e; exact zG7 e
  ·rename_i h2; rw [if_neg h2] at e; exact zG7 e
theorem zR9 {p:Array Nat} {i j:Nat} (hj:j≤p.size) (k:Nat):KP key (kas_rev p i j) k = if i≤k∧k < j then KP key p (i + j - 1 - k) else KP key p k:=by
 have e:=getElem?_mirror_all (i:=i) hj k
 split
 ·rename_i h; rw [if_pos h] at e; exact zG7 e
 ·rename_i h; rw [if_neg h] at e; exact zG7 e
theorem zFq {p:Array Nat} {i j:Nat} (hj:j≤p.size) (he:∀ k,i≤k→k < j→KP key p k = KP key p (j - 1)) (k:Nat):KP key (kas_rev p i j) k = KP key p k:=by
 rw [zR9 hj]
 split
 ·rw [he _ (by omega) (by omega),he k (by omega) (by omega)]
 ·rfl
abbrev ltK (key:Nat→O.α) (i j:Nat):Bool:=O.blt (key i) (key j)

theorem zUs {p:Array Nat} : SoT key p 1:=by
 intro i j hij hj
 have e:i = j:=by omega
 subst e
 exact KeyOrd.kle_refl _
theorem zNv {p:Array Nat} (hp:PIn n p) {Q:Nat→Prop} : ∀ (f a:Nat),1≤a→a + f≤n→SoT key p a →
  (∀ m,a≤m→m≤a + f→SoT key p m→(m = a + f∨O.klt (KP key p m) (KP key p (m - 1)))→Q m)→zD3 n (ltK key) (kas_asc p f a) Q
 | 0,a,_,_,hs,q=>q a (Nat.le_refl _) (by omega) hs (.inl rfl)
 | f + 1,a,h1,hn,hs,q=>by
  refine ⟨hp.lt (by omega),hp.lt (by omega),?_⟩
  dsimp only
  by_cases hl:ltK key (p.getD a 0) (p.getD (a - 1) 0) = true
  ·rw [if_pos hl]
   exact q a (Nat.le_refl _) (by omega) hs (.inr hl)
  ·rw [if_neg hl]
   refine zNv hp f (a + 1) (by omega) (by omega) (fun i j hij hj=>?_) fun m m1 m2 hm ho=>q m (by omega) (by omega) hm (ho.imp (by omega) id)
   by_cases hja:j < a
   ·exact hs i j hij hja
   ·have hj':j = a:=by omega
    subst hj'
    by_cases hi:i = j
    ·subst hi; exact KeyOrd.kle_refl _
    ·exact KeyOrd.kle_trans (hs i (j - 1) (by omega) (by omega)) (KeyOrd.kle_of_not_klt hl)

theorem zMu {p:Array Nat} (hp:PIn n p) {m:Nat} {Q:Nat × Array Nat→Prop} (h1:1≤m) (hm:m≤n) (hs:NiT key p m)
  (q:∀ k p',PIn n p'→1≤k→k≤n→SoT key p' k→Q (k,p')):zD3 n (ltK key) (kas_tail3 m n p) Q:=by
 have hz:m≤p.size:=by rw [hp.size]; exact hm
 refine zD3.bind (zNv (hp.rev 0 m) (n - m) m h1 (by omega) (fun i j hij hj=>?_) fun k k1 k2 hk _=>q k _ (hp.rev 0 m) (by omega) (by omega) hk)
 rw [zR9 hz,zR9 hz,if_pos (by omega),if_pos (by omega)]
 exact hs _ _ (by omega) (by omega)

theorem zIs {Q:Array Nat × Nat × Nat→Prop} : ∀ (f:Nat) (p:Array Nat) (a e:Nat),PIn n p→1≤a→a + f = n→NiT key p a→e + 1≤a→(∀ i,a - (e + 1)≤i→i < a→KP key p i = KP key p (a - 1)) →
  (∀ p' m e',PIn n p'→1≤m→m≤n→NiT key p' m→e' + 1≤m→(∀ i,m - (e' + 1)≤i→i < m→KP key p' i = KP key p' (m - 1))→Q (p',m,e'))→zD3 n (ltK key) (kas_desc f p a e) Q
 | 0,p,a,e,hp,h1,hf,hs,he,heq,q=>q p a e hp h1 (by omega) hs he heq
 | f + 1,p,a,e,hp,h1,hf,hs,he,heq,q=>by
  have hz:a≤p.size:=by rw [hp.size]; omega
  refine ⟨hp.lt (by omega),hp.lt (by omega),?_⟩
  dsimp only
  by_cases hl:ltK key (p.getD a 0) (p.getD (a - 1) 0) = true
  ·rw [if_pos hl]
   have step:∀ p',(∀ k,KP key p' k = KP key p k)→NiT key p' (a + 1):=by
    intro p' hk i j hij hj
    rw [hk,hk]
    by_cases hja:j < a
    ·exact hs i j hij hja
    ·have hj':j = a:=by omega
     subst hj'
     by_cases hi:i = j
     ·subst hi; exact KeyOrd.kle_refl _
     ·exact KeyOrd.kle_trans (KeyOrd.kle_of_klt hl) (hs i (j - 1) (by omega) (by omega))
   split
   ·exact zIs f _ (a + 1) 0 (hp.rev _ _) (by omega) (by omega) (step _ (zFq hz heq)) (by omega) (fun i i1 i2=>by congr 1; omega) q
   ·exact zIs f p (a + 1) 0 hp (by omega) (by omega) (step _ fun _=>rfl) (by omega) (fun i i1 i2=>by congr 1; omega) q
  ·rw [if_neg hl]
   refine ⟨hp.lt (by omega),hp.lt (by omega),?_⟩
   dsimp only
   by_cases hg:ltK key (p.getD (a - 1) 0) (p.getD a 0) = true
   ·rw [if_pos hg]
    exact q p a e hp h1 (by omega) hs he heq
   ·rw [if_neg hg]
    have ee:KP key p a = KP key p (a - 1):=KeyOrd.kle_antisymm (KeyOrd.kle_of_not_klt hg) (KeyOrd.kle_of_not_klt hl)
    refine zIs f p (a + 1) (e + 1) hp (by omega) (by omega) (fun i j hij hj=>?_) (by omega) (fun i i1 i2=>?_) q
    ·by_cases hja:j < a
     ·exact hs i j hij hja
     ·have hj':j = a:=by omega
      subst hj'
      by_cases hi:i = j
      ·subst hi; exact KeyOrd.kle_refl _
      ·rw [ee]; exact hs i (j - 1) (by omega) (by omega)
    ·rw [show a + 1 - 1 = a by omega]
     by_cases hi:i = a
     ·rw [hi]
     ·rw [ee]; exact heq i (by omega) (by omega)

theorem zH8 {p:Array Nat} (hp:PIn n p) {m:Nat} {Q:Nat × Array Nat→Prop} (hm:m + 1≤n) (hs:NiT key p (m + 1))
  (q:∀ k p',PIn n p'→1≤k→k≤n→SoT key p' k→Q (k,p')):zD3 n (ltK key) (kas_descPart m n p) Q:=by
 refine zD3.bind (zIs (n - (m + 1)) p (m + 1) 0 hp (by omega) (by omega) hs (by omega) (fun i i1 i2=>by congr 1; omega) fun p' k e hp' k1 k2 hs' he heq=>?_)
 have hz:k≤p'.size:=by rw [hp'.size]; exact k2
 dsimp only
 split
 ·refine zMu (hp'.rev _ _) k1 k2 (fun i j hij hj=>?_) q
  rw [zFq hz heq,zFq hz heq]
  exact hs' i j hij hj
 ·exact zMu hp' k1 k2 hs' q

theorem zRj {p:Array Nat} (hp:PIn n p) {Q:Nat × Array Nat→Prop} (hn:1≤n)
  (q:∀ k p',PIn n p'→1≤k→k≤n→SoT key p' k→Q (k,p')):zD3 n (ltK key) (kas_count n p) Q:=by
 refine zD3.bind (zNv hp (n - 1) 1 (Nat.le_refl _) (by omega) zUs fun m m1 m2 hm ho=>?_)
 have hz:m≤p.size:=by rw [hp.size]; omega
 by_cases hmn:m = n
 ·rw [if_pos (by simpa using hmn)]
  exact q m p hp m1 (by omega) hm
 ·rw [if_neg (by simpa using hmn)]
  have hlt:O.klt (KP key p m) (KP key p (m - 1)):=ho.resolve_left (by omega)
  split
  ·refine ⟨hp.lt (by omega),hp.lt (by omega),?_⟩
   dsimp only
   by_cases hr:ltK key (p.getD 0 0) (p.getD (m - 1) 0) = true
   ·rw [if_pos hr]
    exact q m p hp m1 (by omega) hm
   ·rw [if_neg hr]
    have hall:∀ k,0≤k→k < m→KP key p k = KP key p (m - 1):=by
     intro k _ hk
     have a1:=hm 0 k (by omega) hk
     have a2:=hm k (m - 1) (by omega) (by omega)
     exact KeyOrd.kle_antisymm a2 (KeyOrd.kle_trans (KeyOrd.kle_of_not_klt hr) a1)
    refine zH8 (hp.rev _ _) (by omega) (fun i j hij hj=>?_) q
    rw [zFq hz hall,zFq hz hall]
    by_cases hjm:j < m
    ·rw [hall i (by omega) (by omega),hall j (by omega) hjm]; exact KeyOrd.kle_refl _
    ·have hj':j = m:=by omega
     subst hj'
     by_cases hi:i = j
     ·subst hi; exact KeyOrd.kle_refl _
     ·rw [hall i (by omega) (by omega)]; exact KeyOrd.kle_of_klt hlt
  ·have hm1:m = 1:=by omega
   subst hm1
   refine zH8 hp (by omega) (fun i j hij hj=>?_) q
   by_cases hi:i = j
   ·subst hi; exact KeyOrd.kle_refl _
   ·have hi0:i = 0:=by omega
    have hj1:j = 1:=by omega
    subst hi0; subst hj1
    exact KeyOrd.kle_of_klt hlt

theorem zJh {p:Array Nat} (hp:PIn n p) {k:Nat} (hk:k < n) (hs:SoT key p k) {Q:Nat→Prop}
  (q:∀ l,l≤k→(∀ i,i < l→O.kle (KP key p i) (KP key p k))→(∀ i,l≤i→i < k→O.klt (KP key p k) (KP key p i))→Q l):∀ (f l r:Nat),l≤r→r≤k→r - l≤f →
   (∀ i,i < l→O.kle (KP key p i) (KP key p k))→(∀ i,r≤i→i < k→O.klt (KP key p k) (KP key p i))→zD3 n (ltK key) (kas_place p k f l r) Q
 | 0,l,r,h1,h2,h3,lo,hi=>q l (by omega) lo (by rw [show l = r by omega]; exact hi)
 | f + 1,l,r,h1,h2,h3,lo,hi=>by
  show zD3 n (ltK key) (if l ≥ r then _ else _) Q
  by_cases hlr:l ≥ r
  ·rw [if_pos hlr]
   exact q l (by omega) lo (by rw [show l = r by omega]; exact hi)
  ·rw [if_neg hlr]
   refine ⟨hp.lt hk,hp.lt (by omega),?_⟩
   dsimp only
   by_cases hl:ltK key (p.getD k 0) (p.getD ((l + r) / 2) 0) = true
   ·rw [if_pos hl]
    exact zJh hp hk hs q f l ((l + r) / 2) (by omega) (by omega) (by omega) lo fun i i1 i2=>KeyOrd.klt_of_klt_of_kle hl (hs _ _ i1 i2)
   ·rw [if_neg hl]
    exact zJh hp hk hs q f ((l + r) / 2 + 1) r (by omega) h2 (by omega) (fun i i1=>KeyOrd.kle_trans (hs i ((l + r) / 2) (by omega) (by omega)) (KeyOrd.kle_of_not_klt hl)) hi

theorem zQn {Q:Array Nat→Prop} (q:∀ p',PIn n p'→SoT key p' n→Q p'):∀ (f:Nat) (p:Array Nat) (k:Nat),PIn n p→k + f = n→SoT key p k→zD3 n (ltK key) (kas_bin f p k) Q
 | 0,p,k,hp,h,hs=>q p hp (by rw [← h]; exact hs)
 | f + 1,p,k,hp,h,hs=>by
  have hks:k < p.size:=by rw [hp.size]; omega
  refine zD3.bind (zJh hp (by omega) hs (fun l hl lo hi=>?_) k 0 k (by omega) (by omega) (by omega) (fun i hi=>absurd hi (by omega)) (fun i h1 h2=>absurd h2 (by omega)))
  refine zQn q f _ (k + 1) (hp.bub _ _) (by omega) fun i j hij hj=>?_
  rw [zT6 hks (by omega),zT6 hks (by omega),show k - (k - l) = l by omega]
  repeat' split
  all_goals first
   | (exfalso; omega)
   | exact KeyOrd.kle_refl _
   | exact lo _ (by omega)
   | exact KeyOrd.kle_of_klt (hi _ (by omega) (by omega))
   | exact hs _ _ (by omega) (by omega)

theorem zSs {Q:Array Nat→Prop} (hn:2≤n) (q:∀ p',PIn n p'→SoT key p' n→Q p'):zD3 n (ltK key) (kas_sort n) Q:=by
 refine zD3.bind (zRj ⟨Array.Perm.refl _⟩ (by omega) fun k p hp k1 k2 hs=>?_)
 dsimp only
 split
 ·rw [show max k 1 = k by omega]
  exact zQn q (n - k) p k hp (by omega) hs
 ·exact q p hp (by rw [show n = k by omega]; exact hs)
end
end PySem.W

namespace PySem.W
open PySem PySem.Calls PyProof.Rows
section
variable {prog:Program} {w:World} {A:Around} {E:Value→Shared→Prop} {s:Shared}
def zEu (h:Heap) (a:Addr) (vs:List Value):Heap:=((h.update a (Obj.mapSeq fun _=>#[])).push (seqObj "tuple" vs.toArray 0)).push (seqObj "list" #[] 0)
theorem zNw {h:Heap} {a b:Addr} {vs:List Value} (hb:b≠a) {o:Obj} (e:h.get? b = some o):(zEu h a vs).get? b = some o:=by
 unfold zEu
 refine Heap.get?_push_of_some _ (Heap.get?_push_of_some _ ?_)
 rw [Heap.get?_update_ne _ _ _ _ hb]
 exact e
theorem zO5 {a:Addr} {vs:List Value} {n:Nat} {κ:SortKind} {G:List Value→Prop} {P:PySem.Fin→Shared→Prop} (ho:s.heap.get? a = some (seqObj "list" vs.toArray n)) (h64:vs.length < 64)
  (hk:2≤vs.length→∀ Q:SortKind→Shared→Prop,Q κ { s with heap:=zEu s.heap a vs }→wpAny (model prog w) A (keyKind' vs.toArray) Q E { s with heap:=zEu s.heap a vs })
  (ask:2≤vs.length→(kas_sort vs.length).kasWp (kas_ask prog w A κ vs) (fun p s'=>s' = { s with heap:=zEu s.heap a vs }∧G (p.toList.map fun i=>vs.getD i Value.none)) { s with heap:=zEu s.heap a vs })
  (few:vs.length < 2→G vs)
  (h:∀ out:List Value,out.length = vs.length→G out→P (.done (.ret .none)) { s with heap:=sortedHeap s.heap a vs out.toArray }) :
  wpAny (model prog w) A (Builtin.«list.sort» ⟨[.ref a],[]⟩) P E s:=by
 have ha:a < s.heap.objs.size:=Heap.lt_size ho
 obtain ⟨e1,ho1⟩:∃ e1,(s.heap.update a (Obj.mapSeq fun _=>(#[]:Array Value))).get? a = some (seqObj "list" #[] e1):=⟨_,get?_update_seq ho fun _=>#[]⟩
 have ho3:(zEu s.heap a vs).get? a = some (seqObj "list" #[] e1):=Heap.get?_push_of_some _ (Heap.get?_push_of_some _ ho1)
 rw [list_sort_plain]
 refine wpAny_bind (listItems_at ho rfl ?_)
 refine wpAny_bind (listUpdate_at ho rfl ?_ (by rw [List.size_toArray,sizeLine_eq]; omega) (Nat.zero_le _))
 refine wpAny_bind (seqEpoch_at ho1 rfl ?_)
 refine wpAny_bind (wpAny_newTuple ?_ (by show vs.length≤_; rw [sizeLine_eq]; omega))
 refine wpAny_bind (wpAny_newList ?_ (Nat.zero_le _))
 refine wpAny_holding ?_
 show wpAny (model prog w) A _ P E { s with heap:=zEu s.heap a vs }
 dsimp only
 by_cases h2:vs.toArray.size < 2
 ·rw [if_pos h2,if_pos h2]
  rw [List.size_toArray] at h2
  refine wpAny_bind (wpAny_pure ?_)
  rw [StateT.run_pure]
  refine wpAny_bind (wpAny_pure ?_)
  dsimp only
  refine wpAny_bind (seqEpoch_at ho3 rfl ?_)
  have hout:(vs.toArray.zip vs.toArray).map (·.2) = vs.toArray:=by
   apply Array.toList_inj.mp
   rw [Array.toList_map,Array.toList_zip]
   exact List.map_snd_zip (Nat.le_refl _)
  refine wpAny_bind (listUpdate_at ho3 rfl ?_ (Nat.zero_le _) (by
   refine Nat.le_trans (Nat.le_of_eq ((congrArg Array.size hout).trans List.size_toArray)) ?_
   rw [sizeLine_eq]; omega))
  simp only [bne_self_eq_false,Bool.false_eq_true,if_false]
  refine wpAny_pure ?_
  have hq:=h vs rfl (few h2)
  rw [← hout] at hq
  exact hq
 ·rw [if_neg h2,if_neg h2]
  rw [List.size_toArray] at h2
  have h2':2≤vs.length:=by omega
  refine wpAny_bind (hk h2' _ ?_)
  refine wpAny_bind (wpAny_mono (kat_run (E:=E) (Q:=fun st' s'=>s' = { s with heap:=zEu s.heap a vs }∧∃ p:Array Nat,p.size = vs.length∧arrOf st' = p.map (kas_item (vs.toArray.zip vs.toArray))∧failedOf st' = none∧G (p.toList.map fun i=>vs.getD i Value.none))
   rfl h2' h64 (fun p' st' s' a1 a2 a3 a4=>⟨a4.1,p',a1,a2,a3,a4.2⟩) (ask h2')) ?_ fun _ _ e=>e)
  rintro ⟨⟨⟩,st'⟩ s' ⟨rfl,p,hp,har,hf,hg⟩
  dsimp only
  have hout:=kat_snds rfl har
  have hsz:(p.toList.map fun i=>vs.getD i Value.none).length = vs.length:=by rw [List.length_map,Array.length_toList,hp]
  rw [hout]
  refine wpAny_bind (seqEpoch_at ho3 rfl ?_)
  refine wpAny_bind (listUpdate_at ho3 rfl ?_ (Nat.zero_le _) (by rw [List.size_toArray,hsz,sizeLine_eq]; omega))
  rw [hf]
  simp only [bne_self_eq_false,Bool.false_eq_true,if_false]
  exact wpAny_pure (h _ hsz hg)
def zGt (h:Heap) (vs:List Value):Heap:=((h.push (seqObj "list" #[] 0)).update h.objs.size (Obj.mapSeq (· ++ vs.toArray))).push (seqObj "list" vs.toArray 0)
theorem zNb {h:Heap} {b:Addr} {vs:List Value} {o:Obj} (e:h.get? b = some o):(zGt h vs).get? b = some o:=by
 have hlt:b < h.objs.size:=Heap.lt_size e
 unfold zGt
 refine Heap.get?_push_of_some _ ?_
 rw [Heap.get?_update_ne _ _ _ _ (Nat.ne_of_lt hlt),Heap.get?_push_ne _ _ _ (Nat.ne_of_lt hlt)]
 exact e
theorem zP8 {l:Addr} {vs:List Value} {κ:SortKind} {G:List Value→Prop} {Q:Value→Shared→Prop} (hl:s.heap.IsList l vs.toArray) (h64:vs.length < 64)
  (hk:2≤vs.length→∀ s':Shared,(∀ b o,s.heap.get? b = some o→s'.heap.get? b = some o)→∀ (E':Value→Shared→Prop) (Q:SortKind→Shared→Prop),Q κ s'→wpAny (model prog w) A.in1.in1 (keyKind' vs.toArray) Q E' s')
  (ask:2≤vs.length→∀ s':Shared,(∀ b o,s.heap.get? b = some o→s'.heap.get? b = some o)→(kas_sort vs.length).kasWp (kas_ask prog w A.in1.in1 κ vs) (fun p s''=>s'' = s'∧G (p.toList.map fun i=>vs.getD i Value.none)) s')
  (few:vs.length < 2→G vs)
  (h:∀ out:List Value,out.length = vs.length→G out→Q (.ref (s.heap.objs.size + 1)) { s with heap:=sortedAll s.heap vs out.toArray }) :
  wpAny (model prog w) A (call (.builtin "sorted") [.ref l]) Q E s:=by
 refine Calls.call_function_entry kind_sorted plain_sorted entry_sorted (args_sorted1 _) ?_
 unfold Builtin.«sorted»
 refine wpAny_bind (m:=checkCount "sorted" 1 1 _) (wpAny_pure ?_)
 refine wpAny_bind (collect_list hl ?_ (by rw [sizeLine_eq]; omega))
 refine wpAny_bind (wpAny_newList ?_ (by rw [sizeLine_eq]; omega))
 have hsz:((s.heap.push (seqObj "list" #[] 0)).update s.heap.objs.size (Obj.mapSeq (· ++ vs.toArray))).objs.size = s.heap.objs.size + 1:=by
  rw [Heap.size_update,size_push']
 have hoL:(zGt s.heap vs).get? (s.heap.objs.size + 1) = some (seqObj "list" vs.toArray 0):=by
  unfold zGt
  rw [← hsz]; exact Heap.get?_push_size _ rfl
 have keep:∀ b o,s.heap.get? b = some o→(zEu (zGt s.heap vs) (s.heap.objs.size + 1) vs).get? b = some o:=fun b o e=>by
  have hlt:b < s.heap.objs.size:=Heap.lt_size e
  exact zNw (Nat.ne_of_lt (Nat.lt_succ_of_lt hlt)) (zNb e)
 show wpAny _ _ _ _ _ { s with heap:=zGt s.heap vs }
 rw [hsz]
 refine wpAny_bind (wpAny_holding (wpAny_call_entry slot_list_sort ⟨_,hoL,rfl⟩ entry_list_sort ?body (args_list_sort _)))
 case body =>
  exact zO5 (s:={ s with heap:=zGt s.heap vs }) hoL h64 (fun h2 Q' hq=>hk h2 _ keep _ Q' hq) (fun h2=>ask h2 _ keep) few fun out hz hg=>⟨_,rfl,wpAny_pure ⟨_,rfl,h out hz hg⟩⟩
end
end PySem.W

namespace L2
open PySem PySem.Spec PyProof.Rows PySem.W
theorem zL2:∀ a:List Int,HT.lexLt a a = false
 | []=>rfl
 | x :: xs=>by rw [HT.lexLt_cons,if_pos rfl]; exact zL2 xs
theorem zOr:∀ a b c:List Int,HT.lexLt a b = true→HT.lexLt b c = true→HT.lexLt a c = true
 | [],[],_,h,_=>nomatch h
 | [],_ :: _,[],_,h=>nomatch h
 | [],_ :: _,_ :: _,_,_=>rfl
 | _ :: _,[],_,h,_=>nomatch h
 | _ :: _,_ :: _,[],_,h=>nomatch h
 | x :: xs,y :: ys,z :: zs,h1,h2=>by
  rw [HT.lexLt_cons] at h1 h2 ⊢
  by_cases e1:x = y
  ·rw [if_pos e1] at h1
   by_cases e2:y = z
   ·rw [if_pos e2] at h2
    rw [if_pos (e1.trans e2)]
    exact zOr xs ys zs h1 h2
   ·rw [if_neg e2] at h2
    rw [if_neg (by omega),e1]
    exact h2
  ·rw [if_neg e1] at h1
   have g1:=of_decide_eq_true h1
   by_cases e2:y = z
   ·rw [if_neg (by omega),← e2]
    exact h1
   ·rw [if_neg e2] at h2
    have g2:=of_decide_eq_true h2
    rw [if_neg (by omega)]
    exact decide_eq_true (by omega)
theorem zN9:∀ a b c:List Int,HT.lexLt a c = true→HT.lexLt a b = true∨HT.lexLt b c = true
 | [],_,[],h=>nomatch h
 | [],[],_ :: _,_=>.inr rfl
 | [],_ :: _,_ :: _,_=>.inl rfl
 | _ :: _,_,[],h=>nomatch h
 | _ :: _,[],_ :: _,_=>.inr rfl
 | x :: xs,y :: ys,z :: zs,h=>by
  rw [HT.lexLt_cons] at h ⊢
  rw [HT.lexLt_cons]
  by_cases e1:x = y
  ·by_cases e2:y = z
   ·rw [if_pos (e1.trans e2)] at h
    rw [if_pos e1,if_pos e2]
    exact zN9 xs ys zs h
   ·rw [if_neg (by omega)] at h
    right
    rw [if_neg e2,← e1]
    exact h
  ·by_cases e2:y = z
   ·rw [if_neg (by omega)] at h
    left
    rw [if_neg e1,e2]
    exact h
   ·rw [if_neg e1,if_neg e2]
    by_cases g:x < y
    ·exact .inl (decide_eq_true g)
    ·right
     by_cases e3:x = z
     ·exact decide_eq_true (by omega)
     ·rw [if_neg e3] at h
      have:=of_decide_eq_true h
      exact decide_eq_true (by omega)
theorem zMp:∀ a b:List Int,HT.lexLt a b = false→HT.lexLt b a = false→a = b
 | [],[],_,_=>rfl
 | [],_ :: _,h,_=>nomatch h
 | _ :: _,[],_,h=>nomatch h
 | x :: xs,y :: ys,h1,h2=>by
  rw [HT.lexLt_cons] at h1 h2
  by_cases e:x = y
  ·rw [if_pos e] at h1
   rw [if_pos e.symm] at h2
   rw [e,zMp xs ys h1 h2]
  ·rw [if_neg e] at h1
   rw [if_neg (fun z=>e z.symm)] at h2
   have g1:=of_decide_eq_false h1
   have g2:=of_decide_eq_false h2
   omega
def ordL:KeyOrd where
 α:=List Int
 blt:=HT.lexLt
 irrefl:=zL2
 trans:=zOr
 negTrans:=zN9
 total:=zMp
def TupN (h:Heap) (v:Value) (ns:List Int):Prop:=∃ (a:Addr) (o:Obj) (n:Nat) (its:List Value),v = .ref a∧h.get? a = some o∧o.cls = .type "tuple" ∧ o.data = .seq its.toArray n∧Vals (ns.map V.int) its
theorem TupN.keep {h h':Heap} {v:Value} {t:List Int} (e:TupN h v t) (k:∀ b o,h.get? b = some o→h'.get? b = some o):TupN h' v t:=by
 obtain ⟨a,o,n,its,e1,e2,e3⟩:=e
 exact ⟨a,o,n,its,e1,k _ _ e2,e3⟩
section
variable {prog:Program} {w:World} {A:Around} {E:Value→Shared→Prop} {s:Shared}
theorem zOa {C:Bool→Shared→Prop} : ∀ {ns ms:List Int} {us ws:List Value} (_:Vals (ns.map V.int) us) (_:Vals (ms.map V.int) ws) (_:ns.length = ms.length) (i:Nat) (_:C (HT.lexLt ns ms) s),KatLex prog w A true false C (us.zip ws) i s
 | [],[],_,_,r1,r2,_,i,h=>by
  cases r1
  cases r2
  exact kat_nil h
 | [],_ :: _,_,_,_,_,hl,_,_=>nomatch hl
 | _ :: _,[],_,_,_,_,hl,_,_=>nomatch hl
 | x :: xs,y :: ys,_,_,r1,r2,hl,i,h=>by
  cases r1 with
  | cons p1 q1 =>
   cases r2 with
   | cons p2 q2 =>
    obtain ⟨t,rfl⟩:=p1
    obtain ⟨t',rfl⟩:=p2
    rw [List.zip_cons_cons]
    refine kat_cons (wpAny_eqBool_int ?_)
    rw [HT.lexLt_cons] at h
    by_cases e:x = y
    ·rw [if_pos e] at h
     rw [show (x == y) = true from by simpa using e]
     exact kat_yes (zOa q1 q2 (by simpa using hl) (i + 1) h)
    ·rw [if_neg e] at h
     rw [show (x == y) = false from by simpa using e]
     refine kat_no ?_
     cases i with
     | zero=>exact oneLt_int h
     | succ i=>exact kat_one _ _ (wpAny_lt_int h)
theorem zU2 {u v:Value} {a b:List Int} {C:Bool→Shared→Prop} (hu:TupN s.heap u a) (hv:TupN s.heap v b) (hl:a.length = b.length) (h:C (HT.lexLt a b) s):wpAny (model prog w) A (keyLt' (tuples' true) u v) C E s:=by
 obtain ⟨p,o,n,us,rfl,ho,_,hd,r1⟩:=hu
 obtain ⟨q,o',n',ws,rfl,ho',_,hd',r2⟩:=hv
 refine kat_lt ho hd ho' hd' ?_
 have l1:=r1.length
 have l2:=r2.length
 rw [List.length_map] at l1 l2
 rw [show decide (us.toArray.size < ws.toArray.size) = false from decide_eq_false (by rw [List.size_toArray,List.size_toArray]; omega)]
 exact zOa r1 r2 hl 0 h
theorem zP7 {h:Heap} : ∀ (vs:List Value),(∀ v∈vs,∃ x xs,TupN h v (x :: xs))→∃ fs:List Value,KatTups h vs fs∧fs.length = vs.length∧∀ v∈fs,∃ i t,v = Value.int i t
 | [],_=>⟨[],.nil,rfl,fun _ hv=>absurd hv (List.not_mem_nil)⟩
 | v :: vs,hv=>by
  obtain ⟨fs,a1,a2,a3⟩:=zP7 vs fun u hu=>hv u (.tail _ hu)
  obtain ⟨x,xs,p,o,n,its,rfl,ho,hc,hd,r⟩:=hv v (.head _)
  cases r with
  | cons p1 q1 =>
   obtain ⟨t,rfl⟩:=p1
   refine ⟨.int x t :: fs,KatTups.cons ho hc hd rfl a1,by rw [List.length_cons,List.length_cons,a2],fun u hu=>?_⟩
   rcases List.mem_cons.mp hu with rfl | hu
   ·exact ⟨_,_,rfl⟩
   ·exact a3 u hu
theorem zNa {l:Addr} {vs:List Value} {ks:List (List Int)} {m:Nat} {Q:Value→Shared→Prop} (hl:s.heap.IsList l vs.toArray) (h64:vs.length < 64) (hT:∀ i,i < vs.length→TupN s.heap (vs.getD i Value.none) (ks.getD i [])∧(ks.getD i []).length = m + 1)
  (h:∀ is:List Nat,is.Perm (List.range vs.length)→(is.map fun i=>ks.getD i []).Pairwise (fun a b=>HT.lexLt b a = false) →
   Q (.ref (s.heap.objs.size + 1)) { s with heap:=sortedAll s.heap vs (is.map fun i=>vs.getD i Value.none).toArray }) :
  wpAny (model prog w) A (call (.builtin "sorted") [.ref l]) Q E s:=by
 refine zP8 (κ:=tuples' true) (G:=fun out=>∃ is:List Nat,is.Perm (List.range vs.length)∧(is.map fun i=>ks.getD i []).Pairwise (fun a b=>HT.lexLt b a = false)∧out = is.map fun i=>vs.getD i Value.none)
  hl h64 (fun h2 s' kp E' Q' hq=>?_) (fun h2 s' kp=>?_) (fun h2=>?_) fun out hz ⟨is,p1,p2,e⟩=>by rw [e]; exact h is p1 p2
 ·obtain ⟨fs,a1,a2,a3⟩:=zP7 (h:=s'.heap) vs fun v hv=>by
   obtain ⟨i,hi,rfl⟩:=List.getElem_of_mem hv
   obtain ⟨e,en⟩:=hT i hi
   have e':=e.keep kp
   rw [show vs.getD i Value.none = vs[i] by simp [hi]] at e'
   cases ek:ks.getD i [] with
   | nil=>rw [ek] at en; cases en
   | cons x xs=>rw [ek] at e'; exact ⟨x,xs,e'⟩
  refine kat_kind (T:=Value.type "int") a1 (by omega) (fun v hv=>?_) rfl (by first | exact hq | (rw [show (Value.type "int" != Value.type "tuple") = true from by first | decide | simp]; exact hq))
  obtain ⟨i,t,rfl⟩:=a3 v hv
  exact .now
 ·refine zD3.wp (n:=vs.length) (lt:=ltK (O:=ordL) fun i=>ks.getD i []) (fun i j C hi hj hc=>?_) (fun p hp=>⟨rfl,hp⟩) (zSs (O:=ordL) (key:=fun i=>ks.getD i []) h2 fun p hp hs=>?_)
  ·exact zU2 ((hT i hi).1.keep kp) ((hT j hj).1.keep kp) (by rw [(hT i hi).2,(hT j hj).2]) hc
  ·refine ⟨p.toList,by simpa using Array.perm_iff_toList_perm.mp hp.perm,?_,rfl⟩
   rw [List.pairwise_map,List.pairwise_iff_getElem]
   intro i j hi hj hij
   have hi':i < p.size:=by simpa using hi
   have hj':j < p.size:=by simpa using hj
   have q:=hs i j (Nat.le_of_lt hij) (by rw [← hp.size]; exact hj')
   unfold KP at q
   rw [show p.getD i 0 = p.toList[i] by simp [Array.getD,hi'],show p.getD j 0 = p.toList[j] by simp [Array.getD,hj']] at q
   exact q
 ·refine ⟨List.range vs.length,.refl _,?_,?_⟩
  ·rw [List.pairwise_map,List.pairwise_iff_getElem]
   intro i j hi hj hij
   rw [List.length_range] at hj
   omega
  ·refine List.ext_getElem (by simp) fun i h1 h3=>?_
   rw [List.getElem_map,List.getElem_range]
   simp [h1]
end
theorem zKa {α β:Type} (f:α→β) (d:α) (e:β) (xs:List α):((List.range xs.length).map fun i=>f (xs.getD i d)) = xs.map f:=by
 refine List.ext_getElem (by simp) fun i h1 h2=>?_
 have hi:i < xs.length:=by simpa using h1
 rw [List.getElem_map,List.getElem_range,List.getElem_map]
 simp [hi]
theorem zFo:∀ rs:List Addr,Vals (rs.map V.ref) (rs.map Value.ref)
 | []=>.nil
 | _ :: rs=>.cons rfl (zFo rs)
section
variable {X:Cx}
theorem zJc:bootBuiltins "sorted" = some (.builtin "sorted"):=by decide +kernel
theorem zL7:zH3 X (.builtin "sorted") (fun xs H Q=>∃ (l:Addr) (ts:List (Addr × List Int)) (m:Nat),xs = [.ref l]∧SqL X.K H l ((ts.map (·.1)).map V.ref)∧ts.length < 64∧(∀ t∈ts,H t.1 = some (.tup (t.2.map V.int))∧t.2.length = m + 1) ∧
  ∀ (p:Addr) (us:List (Addr × List Int)),H p = none→us.Perm ts→us.Pairwise (fun a b=>HT.lexLt b.2 a.2 = false)→Q (.ref p) (upd H p (.lst ((us.map (·.1)).map V.ref)))):=by
 intro pins s σ H xs us Q I r h
 obtain ⟨l,ts,m,rfl,hq,h64,hts,q⟩:=h
 obtain ⟨u,rfl,ru⟩:=Vals.one r
 cases ru
 obtain ⟨its,rv,pl,hz⟩:=I.list hq
 have ei:=zLa rv
 subst ei
 have hn:((ts.map (·.1)).map Value.ref).length = ts.length:=by rw [List.length_map,List.length_map]
 refine zNa (ks:=ts.map (·.2)) (m:=m) pl.isList (by rw [hn]; exact h64) (fun i hi=>?_) fun is hp hs=>?_
 ·rw [hn] at hi
  have ht:=hts ts[i] (List.getElem_mem hi)
  have e1:((ts.map (·.1)).map Value.ref).getD i Value.none = Value.ref ts[i].1:=by simp [hi]
  have e2:(ts.map (·.2)).getD i [] = ts[i].2:=by simp [hi]
  rw [e1,e2]
  refine ⟨?_,ht.2⟩
  obtain ⟨its,r1,⟨o,e,c,n,d⟩,_⟩:=I.tuple (SqT.of ht.1)
  exact ⟨_,o,n,its,rfl,e,c,d,r1⟩
 ·rw [hn] at hp
  have lt:∀ i∈is,i < ts.length:=fun i hi=>List.mem_range.mp (hp.mem_iff.mp hi)
  let d:Addr × List Int:=(0,[])
  have pm:(is.map fun i=>ts.getD i d).Perm ts:=by
   have z:=hp.map fun i=>ts.getD i d
   have e:=zKa (fun t:Addr × List Int=>t) d d ts
   rw [show (List.range ts.length).map (fun i=>ts.getD i d) = ts from by simpa using e] at z
   exact z
  have e1:(is.map fun i=>((ts.map (·.1)).map Value.ref).getD i Value.none) = ((is.map fun i=>ts.getD i d).map (·.1)).map Value.ref:=by
   simp only [List.map_map]
   refine List.map_congr_left fun i hi=>?_
   have:=lt i hi
   simp [this]
  have e2:(is.map fun i=>(ts.map (·.2)).getD i []) = (is.map fun i=>ts.getD i d).map (·.2):=by
   rw [List.map_map]
   refine List.map_congr_left fun i hi=>?_
   have:=lt i hi
   simp [this]
  rw [e2,List.pairwise_map] at hs
  rw [e1]
  obtain ⟨e,at'⟩:=sortedAll_at s.heap ((ts.map (·.1)).map Value.ref) (((is.map fun i=>ts.getD i d).map (·.1)).map Value.ref).toArray
  have fr:H (s.heap.objs.size + 1) = none:=I.hok.fresh (Nat.le_succ _)
  refine ⟨.ref (s.heap.objs.size + 1),_,I.laid (t':=s.toks) (a:=s.heap.objs.size + 1) (o:=.lst (((is.map fun i=>ts.getD i d).map (·.1)).map V.ref)) (fun b ob q=>sortedAll_old q) (Nat.le_succ _) ?_,rfl,q _ _ fr pm hs⟩
  refine ⟨?_,_,e,zFo _,at'⟩
  rw [List.length_map,List.length_map,pm.length_eq]
  exact Nat.le_trans (Nat.le_of_lt h64) (by rw [sizeLine_eq]; decide)
end
end L2
namespace L2
open PySem PySem.Spec PyProof.Rows
section
variable {X:Cx}
end
end L2

namespace Sea
open PySem L2
end Sea

namespace L2
open PySem PySem.Spec PyProof.Rows
section
variable {κ:Type} [DecidableEq κ]
def valV (kvs:List (κ × V)) (k:κ):Option V:=(kvs.find? fun kv=>decide (kv.1 = k)).map (·.2)
def putK (kvs:List (κ × V)) (k:κ) (v:V):List (κ × V) :=
 if (kvs.any fun kv=>decide (kv.1 = k)) = true then kvs.map (fun kv=>if kv.1 = k then (kv.1,v) else kv) else kvs ++ [(k,v)]
theorem zOg {p:κ × V} {r:List (κ × V)} {k:κ} (e:p.1 = k):valV (p :: r) k = some p.2:=by simp [valV,List.find?_cons,e]
theorem zOn {p:κ × V} {r:List (κ × V)} {k:κ} (e:¬ p.1 = k):valV (p :: r) k = valV r k:=by simp [valV,List.find?_cons,e]
theorem zOq (k:κ):∀ kvs:List (κ × V),(kvs.any fun kv=>decide (kv.1 = k)) = (valV kvs k).isSome
 | []=>rfl
 | p :: r=>by
  rw [List.any_cons]
  by_cases e:p.1 = k
  ·simp only [zOg e,decide_eq_true e,Bool.true_or,Option.isSome_some]
  ·rw [zOn e,decide_eq_false e,Bool.false_or]; exact zOq k r
theorem zJe (kvs:List (κ × V)) (k:κ) (v:V):(putK kvs k v).length≤kvs.length + 1:=by
 unfold putK
 split
 ·rw [List.length_map]; omega
 ·rw [List.length_append,List.length_cons,List.length_nil]; omega
theorem RelO.isSome_eq {o:Option V} {u:Option Value} (r:RelO o u):o.isSome = u.isSome:=by
 cases o with
 | none=>cases u with
  | none=>rfl
  | some _=>exact (show False from r).elim
 | some _=>cases u with
  | none=>exact (show False from r).elim
  | some _=>rfl
theorem KV.any {kvs:List (κ × V)} {vs:List (κ × Value)} (r:KV kvs vs) (k:κ):(kvs.any fun kv=>decide (kv.1 = k)) = vs.any fun kv=>decide (kv.1 = k):=by
 unfold KV at r
 induction r with
 | nil=>rfl
 | cons h t ih=>rw [List.any_cons,List.any_cons,ih,h.1]
theorem KV.repl {kvs:List (κ × V)} {vs:List (κ × Value)} (r:KV kvs vs) (k:κ) {y:V} {u:Value} (ry:RelV y u) :
  KV (kvs.map fun kv=>if kv.1 = k then (kv.1,y) else kv) (vs.map fun kv=>if kv.1 = k then (kv.1,u) else kv):=by
 unfold KV at r ⊢
 induction r with
 | nil=>exact .nil
 | @cons p q ps qs h t ih =>
  rw [List.map_cons,List.map_cons]
  refine .cons ?_ ih
  obtain ⟨h1,h2⟩:=h
  by_cases e:p.1 = k
  ·rw [if_pos e,if_pos (h1.symm.trans e)]; exact ⟨h1,ry⟩
  ·rw [if_neg e,if_neg (fun z=>e (h1.trans z))]; exact ⟨h1,h2⟩
theorem KV.put {kvs:List (κ × V)} {vs:List (κ × Value)} (r:KV kvs vs) (k:κ) {y:V} {u:Value} (ry:RelV y u):KV (putK kvs k y) (stored vs k u):=by
 unfold putK stored
 rw [r.any k]
 by_cases e:(vs.any fun kv=>decide (kv.1 = k)) = true
 ·rw [if_pos e,if_pos e]; exact r.repl k ry
 ·rw [if_neg e,if_neg e]; exact Paired.snoc r ⟨rfl,ry⟩
theorem KV.length {kvs:List (κ × V)} {vs:List (κ × Value)} (r:KV kvs vs):kvs.length = vs.length:=Paired.length r
end


theorem kV_is {P:Program} {w:World} {k:Key} {u:Value} (r:RelV (kV k) u):(zDb P w).is k u = true:=by
 cases k with
 | inl i=>obtain ⟨t,e⟩:=(show ∃ t,u = Value.int i t from r); subst e; exact zNj P w i t
 | inr x=>obtain ⟨t,e⟩:=(show ∃ t,u = Value.str x t from r); subst e; exact zNm P w x t
theorem zM2 {P:Program} {w:World} : ∀ {ks:List Key} {us:List Value},Vals (ks.map kV) us→ItemsAre (zDb P w) ks us
 | [],_,r=>by rw [List.map_nil] at r; cases r; exact .nil
 | k :: ks,_,r=>by
  rw [List.map_cons] at r
  cases r with
  | cons h t=>exact .cons (kV_is h) (zM2 t)

abbrev KT (H:Hp):List (List Key × V)→List (List Key × Addr × Value)→Prop:=Paired fun p q=>p.1 = q.1∧H q.2.1 = some (.tup (p.1.map kV))∧RelV p.2 q.2.2
theorem KT.val {H:Hp} {kvs:List (List Key × V)} {xs:List (List Key × Addr × Value)} (r:KT H kvs xs) (k:List Key):RelO (valV kvs k) ((atKey xs k).map (·.2)):=by
 induction r with
 | nil=>exact True.intro
 | @cons p q ps qs h t ih =>
  obtain ⟨h1,_,h2⟩:=h
  by_cases e:p.1 = k
  ·have e':q.1 = k:=h1.symm.trans e
   have b:atKey (q :: qs) k = some q.2:=by simp [atKey,List.find?_cons,e']
   rw [zOg e,b]; exact h2
  ·have e':¬ q.1 = k:=fun z=>e (h1.trans z)
   have b:atKey (q :: qs) k = atKey qs k:=by simp [atKey,List.find?_cons,e']
   rw [zOn e,b]; exact ih
theorem KT.repl {H:Hp} {kvs:List (List Key × V)} {xs:List (List Key × Addr × Value)} (r:KT H kvs xs) (k:List Key) {y:V} {u:Value} (ry:RelV y u) :
  KT H (kvs.map fun kv=>if kv.1 = k then (kv.1,y) else kv) (xs.map (putAt k u)):=by
 induction r with
 | nil=>exact .nil
 | @cons p q ps qs h t ih =>
  rw [List.map_cons,List.map_cons]
  refine .cons ?_ ih
  obtain ⟨h1,h2,h3⟩:=h
  unfold putAt
  by_cases e:p.1 = k
  ·rw [if_pos e,if_pos (h1.symm.trans e)]; exact ⟨h1,h2,ry⟩
  ·rw [if_neg e,if_neg (fun z=>e (h1.trans z))]; exact ⟨h1,h2,h3⟩
theorem KT.put {H:Hp} {kvs:List (List Key × V)} {xs:List (List Key × Addr × Value)} (r:KT H kvs xs) (k:List Key) {b:Addr} {y:V} {u:Value} (hb:H b = some (.tup (k.map kV))) (ry:RelV y u) :
  KT H (putK kvs k y) (storedH xs k b u):=by
 have e:(kvs.any fun kv=>decide (kv.1 = k)) = (atKey xs k).isSome:=by
  rw [zOq,(r.val k).isSome_eq,Option.isSome_map]
 unfold putK storedH
 rw [e]
 by_cases q:(atKey xs k).isSome = true
 ·rw [if_pos q,if_pos q]; exact r.repl k ry
 ·rw [if_neg q,if_neg q]; exact Paired.snoc r ⟨rfl,hb,ry⟩
theorem KT.keeps {H H':Hp} {kvs:List (List Key × V)} {xs:List (List Key × Addr × Value)} (r:KT H kvs xs) (ht:∀ b ys,H b = some (.tup ys)→H' b = some (.tup ys)):KT H' kvs xs :=
 Paired.mapP r fun _ _ z=>⟨z.1,ht _ _ z.2.1,z.2.2⟩

section
variable {P:Program} {w:World} {H:Hp} {h:Heap} {a:Addr}
theorem rd_of {u:HO} (ok:HOk P w H h) (e:Rd H a u):zDi P w H h a u:=e.ok ok
theorem dk_rd {kvs:List (Key × V)} (ok:HOk P w H h) (e:Rd H a (.dK kvs)):kvs.length≤sizeLine∧(a == sysModules) = false∧∃ vs,KV kvs vs∧h.DictOf (zDb P w) a vs :=
 show zDi P w H h a (.dK kvs) from rd_of ok e
theorem dk_of {kvs:List (Key × V)} (ok:HOk P w H h) (e:H a = some (.dK kvs)):kvs.length≤sizeLine∧(a == sysModules) = false∧∃ vs,KV kvs vs∧h.DictOf (zDb P w) a vs:=dk_rd ok (.inl e)
theorem zT3 {ks:List Key} (ok:HOk P w H h) (e:H a = some (.tup (ks.map kV))):(tupleKind (zDb P w)).is h ks a:=by
 obtain ⟨_,its,r,o,h1,h2,n,h3⟩:=(show zDi P w H h a (.tup (ks.map kV)) from ok a _ e)
 exact ⟨o,its.toArray,n,h1,h2,h3,by simpa using zM2 r⟩
theorem dt_rd {kvs:List (List Key × V)} (ok:HOk P w H h) (e:Rd H a (.dT kvs)):kvs.length≤sizeLine∧(a == sysModules) = false ∧
  ∃ xs,KT H kvs xs∧h.DictOfH (tupleKind (zDb P w)) a xs:=by
 obtain ⟨z,y,xs,r,o,es,ep,h1,h2,h3,h4,h5⟩:=(show zDi P w H h a (.dT kvs) from rd_of ok e)
 refine ⟨z,y,xs,r,o,es,ep,h1,h2,h3,h4,fun x hx=>?_,h5⟩
 have all:∀ {l:List (List Key × V)} {m:List (List Key × Addr × Value)},KT H l m→∀ x∈m,(tupleKind (zDb P w)).is h x.1 x.2.1:=by
  intro l m q
  induction q with
  | nil=>intro x hx; exact nomatch hx
  | @cons p q ps qs hq t ih =>
   intro x hx
   rcases List.mem_cons.mp hx with e | hx
   ·subst e
    exact zT3 ok (by rw [← hq.1]; exact hq.2.1)
   ·exact ih x hx
 exact all r x hx
theorem dt_of {kvs:List (List Key × V)} (ok:HOk P w H h) (e:H a = some (.dT kvs)):kvs.length≤sizeLine∧(a == sysModules) = false ∧
  ∃ xs,KT H kvs xs∧h.DictOfH (tupleKind (zDb P w)) a xs:=dt_rd ok (.inl e)
end

def DPut (H:Hp) (a:Addr) (y v:V) (H':Hp):Prop :=
 (∃ kvs k,H a = some (.dK kvs)∧y = kV k∧kvs.length < sizeLine∧H' = upd H a (.dK (putK kvs k v))) ∨
 ∃ kvs k b,H a = some (.dT kvs)∧y = .ref b∧H b = some (.tup (k.map kV))∧kvs.length < sizeLine∧H' = upd H a (.dT (putK kvs k v))
theorem DPut.t {H:Hp} {a b:Addr} {kvs:List (List Key × V)} {k:List Key} {v:V} (e:H a = some (.dT kvs)) (eb:H b = some (.tup (k.map kV))) (hl:kvs.length < sizeLine) :
  DPut H a (.ref b) v (upd H a (.dT (putK kvs k v))):=.inr ⟨kvs,k,b,e,rfl,eb,hl,rfl⟩


section
variable {X:Cx} {pins:List (Addr × Obj)} {σ:St} {H:Hp} {s:Shared} {a:Addr} {y v:V} {u r:Value} {o:Option V} {A:Around} {E:Value→Shared→Prop}

theorem Inv.big (I:Inv X pins σ H s):sysModules < s.heap.objs.size:=by
 have h:mainGlobals < s.heap.objs.size:=(I.mod.glob.keeps I.bk).lt
 exact Nat.lt_trans (by decide) h

theorem zQ8 {h':Heap} {t':Nat} {ob:HO} (I:Inv X pins σ H s) (mu:Mut (H a)) (hs:Heap.SameBut a s.heap h') (he:∃ q,h'.get? a = some q) (new:zDi X.prog X.w (upd H a ob) h' a ob) :
  Inv X pins σ (upd H a ob) { s with heap:=h',toks:=t' } :=
 I.write (x:=a) (e:=a) mu (.inl rfl) (fun b q hb z=>(hs.2 b hb).trans z) he new
theorem dk_new {P:Program} {w:World} {H':Hp} {h':Heap} {kvs:List (Key × V)} {vs:List (Key × Value)} (z:kvs.length≤sizeLine) (hd:(a == sysModules) = false) (rel:KV kvs vs) (dd:h'.DictOf (zDb P w) a vs) :
  zDi P w H' h' a (.dK kvs):=⟨z,hd,vs,rel,dd⟩
theorem zQc {H':Hp} {Q:Unit→Shared→Prop} (hu:A.units + 1 < cLine) (I:Inv X pins σ H s) (g:DPut H a y v H') (ry:RelV y u) (rv:RelV v r) (h:∀ s',Inv X pins σ H' s'→Q () s') :
  wpAny (model X.prog X.w) A (setItem (.ref a) u r) Q E s:=by
 rcases g with ⟨kvs,k,e,ey,l,eH⟩ | ⟨kvs,k,b,e,ey,eb,l,eH⟩
 ·subst ey eH
  obtain ⟨z,hd,vs,rel,dd⟩:=dk_of I.hok e
  have hz:vs.length≤sizeLine:=by rw [← rel.length]; exact z
  have hl:(putK kvs k v).length≤sizeLine:=by have:=zJe kvs k v; omega
  refine wpAny_setItem_pairs (hsz:=hz) (kV_is ry) dd fun h' dd' hs=>h _ ?_
  have he:∃ q,h'.get? a = some q:=let ⟨q,_,_,hq,_⟩:=dd'; ⟨q,hq⟩
  exact zQ8 I (by rw [e]; exact True.intro) hs he (dk_new hl hd (rel.put k rv) dd')
 ·subst ey eH
  cases (show u = Value.ref b from ry)
  obtain ⟨z,hd,xs,rel,dd⟩:=dt_of I.hok e
  have hz:xs.length≤sizeLine:=by rw [← Paired.length rel]; exact z
  have hl:(putK kvs k v).length≤sizeLine:=by have:=zJe kvs k v; omega
  refine wpAny_setItem_heap (hsz:=hz) (tupleKind_room_in1 hu) (zT3 I.hok eb) dd fun h' dd' hs=>h _ ?_
  obtain ⟨q,es,ep,hq,h2,h3,h4,_,h5⟩:=dd'
  refine zQ8 I (by rw [e]; exact True.intro) hs ⟨q,hq⟩ ⟨hl,hd,_,(rel.put k eb rv).keeps fun c ys ec=>?_,q,es,ep,hq,h2,h3,h4,h5⟩
  rw [zA5 (zHh ec e (fun z=>nomatch z))]
  exact ec
end

section
variable {X:Cx} {pins:List (Addr × Obj)} {σ:St} {H:Hp} {s:Shared} {a:Addr} {kvs:List (Key × V)} {k:Key} {u:Value} {A:Around} {E:Value→Shared→Prop}
end


def sDPut (td ty tv:TE):TS:=fun D σ H=>tv σ H fun v H1=>td σ H1 fun x H2=>ty σ H2 fun y H3=>∃ a H4,x = .ref a∧DPut H3 a y v H4∧D.nx σ H4
section
variable {X:Cx} {o i e value:Expr} {pos pos' tpos:Pos} {td ty tv:TE}
theorem zSg (hu:X.A.units + 1 < cLine) (ho:PE X o td) (hi:PE X i ty) (hv:PE X value tv) (hs:swapsWith value (some (.Subscript o i pos')) pos.line X.env = pure false) :
  PS X (.Assign [.Subscript o i pos'] value pos) (sDPut td ty tv):=by
 intro pins s σ H D I h
 refine wpAny_Assign_Subscript (thn (hv pins s σ H _ I h) fun r s1 ⟨v,H1,I1,rv,q1⟩=>thn (ho pins s1 σ H1 _ I1 q1) fun u s2 ⟨x,H2,I2,rx,q2⟩=>thn (hi pins s2 σ H2 _ I2 q2) fun iv s3 ⟨y,H3,I3,ry,a,H4,ex,g,q3⟩=>?_) hs
 subst ex
 obtain rfl:u = Value.ref a:=rx
 exact zQc hu I3 g ry rv fun s4 I4=>⟨σ,H4,I4,q3⟩
end


theorem zTn {P:Program} {w:World} {H:Hp} (h:Heap) (hb:sysModules < h.objs.size):zDi P w H (h.push { cls:=.type "dict", data:=.dict #[] }) h.objs.size (.dT []) :=
 ⟨Nat.zero_le _,beq_eq_false_iff_ne.mpr (Ne.symm (Nat.ne_of_lt hb)),[],.nil,_,#[],0,Heap.get?_push_size _ rfl,⟨rfl,rfl,rfl⟩,rfl,rfl,List.nodup_nil⟩
def tDNewT:TE:=fun _ H Q=>∀ p,H p = none→Q (.ref p) (upd H p (.dT []))
section
variable {X:Cx} {pos:Pos}
theorem zOi:PE X (.Dict [] [] pos) tDNewT:=fun pins s σ H Q I h =>
 wpAny_Dict_empty ⟨.ref s.heap.objs.size,_,I.laid (a:=s.heap.objs.size) (o:=.dT []) (t':=s.toks) (fun _ _ q=>Heap.get?_push_of_some _ q) (Nat.le_refl _) (zTn s.heap I.big),rfl,h _ (I.hok.fresh (Nat.le_refl _))⟩
end

end L2

namespace L2
open PySem PySem.Spec PyProof.Rows
def RawD (h:Heap) (a:Addr) (rows:Array DictEntry) (age:Nat):Prop:=∃ ob,h.get? a = some ob∧ob.ExactDict∧ob.data = .dict rows age
theorem RawD.at {h h':Heap} {a:Addr} {rows:Array DictEntry} {age:Nat} (x:RawD h a rows age) (e:∀ ob,h.get? a = some ob→h'.get? a = some ob):RawD h' a rows age:=let ⟨ob,g,r⟩:=x; ⟨ob,e _ g,r⟩
theorem RawD.typeIs {z:Shared} {a:Addr} {rows:Array DictEntry} {age:Nat} (x:RawD z.heap a rows age):z.TypeIs (.ref a) "dict" := let ⟨ob,g,c,_⟩:=x; ⟨ob,g,c.1⟩
section
variable {prog:Program} {w:World} {A:Around} {E:Value→Shared→Prop} {z:Shared} {it a:Addr} {rows:Array DictEntry} {age k:Nat}
theorem zTh {R:Value→Shared→Prop} (hs:(a == sysModules) = false) (x:RawD z.heap a rows age) (hR:R (.ref z.heap.objs.size) { z with heap:=z.heap.push { cls:=.type "dict_keyiterator", data:=.fields #[.ref a,.int 0 0,.int rows.size 0,.int age 0] } }) :
  wpAny (model prog w) A (pyIter (.ref a)) R E z:=by
 have ty:=x.typeIs
 obtain ⟨ob,g,_,dat⟩:=x
 refine wpAny_pyIter_slot ty F.slot_dict_iter (wpAny_call_entry F.slot_dict_iter ty F.entry_dict_iter ?walk (F.args_dict_iter_1 _))
 case walk =>
  unfold Builtin.«dict.__iter__» Builtin.Dict.dictSlotNone
  refine wpAny_bind (wpAny_bind (wpAny_notOrdered_dict ty (show wpAny _ _ (pure (Value.ref a)) _ _ z from wpAny_pure ?_)))
  show wpAny _ _ (Builtin.Dict.showsAll a >>= _) _ _ z
  unfold Builtin.Dict.showsAll
  rw [if_neg (by rw [hs]; decide)]
  refine wpAny_bind (wpAny_pure (wpAny_bind (wpAny_dictEntries g dat (wpAny_bind (wpAny_dictEpoch g dat ?_)))))
  refine wpAny_bind (wpAny_newObj_type (wpAny_pure ⟨_,rfl, "dict_keyiterator", _,⟨_,Heap.get?_push_size _ rfl,rfl⟩,F.slot_dict_keyiterator_next.lookup,?_⟩))
  simpa [rawInt] using hR
theorem zS0 {R:Option Value→Shared→Prop} (ki:z.heap.IsKeyIter it a k rows.size age) (x:RawD z.heap a rows age) (hk:k < rows.size)
  (hR:∀ h',h'.IsKeyIter it a (k + 1) rows.size age→Heap.SameBut it z.heap h'→R (some rows[k].key) { z with heap:=h' }):wpAny (model prog w) A (pyNext (.ref it)) R E z:=by
 have ty:=ki.typeIs
 obtain ⟨oi,gi,ci,di⟩:=id ki
 obtain ⟨ob,g,_,dat⟩:=x
 unfold pyNext
 refine wpAny_bind (wpAny_attempt (wpAny_callSpecial?_slot (name:=Str.ofString "__next__") ty F.slot_dict_keyiterator_next (wpAny_call_entry F.slot_dict_keyiterator_next ty F.entry_dict_keyiterator_next ?walk (F.args_dict_keyiterator_next_1 _))))
 case walk =>
  refine wpAny_bind (wpAny_pure (wpAny_bind (wpAny_bind ?_)))
  first | refine wpAny_bind (wpAny_typeNameOfWhole_keyiter ty (wpAny_pure (wpAny_bind (wpAny_fieldsOf gi di ?_)))) | refine wpAny_bind (wpAny_typeNameOf_keyiter ty (wpAny_pure (wpAny_bind (wpAny_fieldsOf gi di ?_))))
  simp only [show Builtin.Dict_items.ownsTuple "dict_keyiterator" = false by decide,Bool.false_eq_true,if_false]
  show wpAny _ _ (if (Value.ref a == Value.none) = true then _ else _) _ _ z
  rw [if_neg (show ¬ ((Value.ref a == Value.none) = true) from Bool.false_ne_true)]
  refine wpAny_bind (wpAny_pure (wpAny_bind (wpAny_dictEntries g dat ?_)))
  rw [if_neg (by simp)]
  refine wpAny_bind (wpAny_pure (wpAny_bind (wpAny_dictEpoch g dat ?_)))
  rw [if_neg (by simp)]
  refine wpAny_pure ?_
  simp only [show ¬ ((k:Int) < 0) from by omega,if_false,Int.toNat_natCast,Array.getElem?_eq_getElem hk]
  refine wpAny_bind ?_
  first | refine wpAny_bind (wpAny_typeNameOfWhole_keyiter ty (wpAny_pure (wpAny_bind (wpAny_isOneOf_keyiter ty ?_)))) | refine wpAny_bind (wpAny_typeNameOf_keyiter ty (wpAny_pure (wpAny_bind (wpAny_isOneOf_keyiter ty ?_))))
  show wpAny _ _ (setField (.ref it) 1 (rawInt ((k:Int) + 1)) >>= _) _ _ z
  refine wpAny_bind (wpAny_setField gi di (by simp) ?_)
  have ki':(z.heap.update it (Obj.mapFields (·.setIfInBounds 1 (rawInt ((k:Int) + 1))))).IsKeyIter it a (k + 1) rows.size age :=
   ⟨_,Heap.get?_update_self _ gi (Obj.isFreed_of_fields (Obj.data_mapFields di _)),(Obj.cls_mapFields ..).trans ci,by rw [Obj.data_mapFields di]; simp [rawInt]⟩
  refine wpAny_bind (wpAny_holding (wpAny_bind (wpAny_isOneOf_keyiter (s:={ z with heap:=z.heap.update it (Obj.mapFields (·.setIfInBounds 1 (rawInt ((k:Int) + 1)))) }) ki'.typeIs ?_)))
  show wpAny _ _ (pure rows[k].key) _ _ _
  exact wpAny_pure (wpAny_pure ⟨_,rfl,wpAny_pure (hR _ ki' (Heap.SameBut.update ..))⟩)
theorem zUy {R:Option Value→Shared→Prop} (hh:A.handled = none) (ki:z.heap.IsKeyIter it a k rows.size age) (x:RawD z.heap a rows age) (hk:rows.size≤k)
  (hR:∀ h',Heap.ExtBut it z.heap h'→R none { z with heap:=h' }):wpAny (model prog w) A (pyNext (.ref it)) R E z:=by
 have ty:=ki.typeIs
 obtain ⟨oi,gi,ci,di⟩:=id ki
 obtain ⟨ob,g,_,dat⟩:=x
 unfold pyNext
 refine wpAny_bind (wpAny_attempt (wpAny_callSpecial?_slot (name:=Str.ofString "__next__") ty F.slot_dict_keyiterator_next (wpAny_call_entry F.slot_dict_keyiterator_next ty F.entry_dict_keyiterator_next ?walk (F.args_dict_keyiterator_next_1 _))))
 case walk =>
  refine wpAny_bind (wpAny_pure (wpAny_bind (wpAny_bind ?_)))
  first | refine wpAny_bind (wpAny_typeNameOfWhole_keyiter ty (wpAny_pure (wpAny_bind (wpAny_fieldsOf gi di ?_)))) | refine wpAny_bind (wpAny_typeNameOf_keyiter ty (wpAny_pure (wpAny_bind (wpAny_fieldsOf gi di ?_))))
  simp only [show Builtin.Dict_items.ownsTuple "dict_keyiterator" = false by decide,Bool.false_eq_true,if_false]
  show wpAny _ _ (if (Value.ref a == Value.none) = true then _ else _) _ _ z
  rw [if_neg (show ¬ ((Value.ref a == Value.none) = true) from Bool.false_ne_true)]
  refine wpAny_bind (wpAny_pure (wpAny_bind (wpAny_dictEntries g dat ?_)))
  rw [if_neg (by simp)]
  refine wpAny_bind (wpAny_pure (wpAny_bind (wpAny_dictEpoch g dat ?_)))
  rw [if_neg (by simp)]
  refine wpAny_pure ?_
  simp only [show ¬ ((k:Int) < 0) from by omega,if_false,Int.toNat_natCast,Array.getElem?_eq_none hk]
  refine wpAny_bind ?_
  first | refine wpAny_bind (wpAny_typeNameOfWhole_keyiter ty (wpAny_pure ?_)) | refine wpAny_bind (wpAny_typeNameOf_keyiter ty (wpAny_pure ?_))
  show wpAny _ _ (setField (.ref it) 0 .none >>= _) _ _ z
  refine wpAny_bind (wpAny_setField gi di (by simp) (show wpAny _ _ (newExc (.type "StopIteration") [] >>= _) _ _ _ from wpAny_bind ?_))
  simp only [newExc,newTuple]
  refine wpAny_bind (wpAny_newObj_type (wpAny_bind (m:=firstArgMember _ _) (wpAny_of_eq (a:=Value.none) (by first | rfl | (simp only [firstArgMember]; rfl)) (wpAny_newObj_type ?_ (by size_fits)))) (by size_fits))
  simp only [raiseNew]
  refine wpAny_bind (wpAny_handled ?_)
  rw [show A.in1.handled = none from hh]
  refine wpAny_bind (wpAny_pure (wpAny_throw ?_))
  refine wpAny_bind (wpAny_isInstance (T := "StopIteration") (b:=true) ⟨_,Heap.get?_push_size _ rfl,rfl⟩ isSubtype_stop ?_)
  exact wpAny_pure (hR _ (((Heap.SameBut.update ..).extBut.push _).push _))
theorem zQi (hh:A.handled = none) (hne:a≠it):Walks prog w A it [it,a] [it] rows.size (fun i v=>∃ h:i < rows.size,v = rows[i].key) (fun i h=>h.IsKeyIter it a i rows.size age∧RawD h a rows age) where
 sub:=fun b hb=>by simp at hb; simp [hb]
 frame:=fun _ _ _ st hk=>⟨st.1.at fun o e=>hk it (by simp) o e,st.2.at fun o e=>hk a (by simp) o e⟩
 item:=fun i s Q E hi st hQ=>zS0 st.1 st.2 hi fun h' ki' hs' =>
  hQ _ h' s.toks ⟨hi,rfl⟩ ⟨ki',st.2.at fun o e=>hs'.extBut a o hne e⟩ fun b o hb e=>hs'.extBut b o (fun h=>hb (by simp [h])) e
 done:=fun s Q E st hQ=>zUy hh st.1 st.2 (Nat.le_refl _) fun h' he'=>hQ h' s.toks fun b o hb e=>he' b o (fun h=>hb (by simp [h])) e
 self:=fun _ _ _ _ st hQ=>wpAny_pyIter_keyiter st.1 hQ
theorem zUc (hs:(a == sysModules) = false):PySem.W.KdlSrc prog w "dict" a a rows.size (fun i v=>∃ h:i < rows.size,v = rows[i].key) (fun h=>RawD h a rows age) where
 type:=fun _ x=>x.typeIs
 there:=fun _ x=>let ⟨_,g,_⟩:=x; ⟨Heap.lt_size g,Heap.lt_size g⟩
 keep:=fun _ _ x hk=>x.at fun o e=>hk a (.inl rfl) o e
 notList:=by decide
 notTuple:=by decide
 hint:=fun _ _ _ _ x hq=>PySem.W.kdl_hint_dict x.typeIs hq
 iter:=fun _ s hh x=>⟨_,_,(fun _ _ hq=>zTh hs x hq),zQi hh (let ⟨_,g,_⟩:=x; Nat.ne_of_lt (Heap.lt_size g)),⟨⟨_,Heap.get?_push_size _ rfl,rfl,rfl⟩,x.at fun o e=>Heap.get?_push_of_some _ e⟩⟩
end
section
variable {X:Cx}
theorem zIb (hc:X.calm = true):zH3 X (.type "list") (fun xs H Q=>∃ (d:Addr) (kvs:List (List Key × V)),xs = [.ref d]∧H d = some (.dT kvs) ∧
  ∀ (p:Addr) (ts:List (Addr × List Key)),H p = none→ts.map (·.2) = kvs.map (·.1)→(∀ t∈ts,H t.1 = some (.tup (t.2.map kV)))→Q (.ref p) (upd H p (.lst ((ts.map (·.1)).map V.ref)))):=by
 intro pins s σ H xs us Q I r h
 obtain ⟨d,kvs,rfl,hd,q⟩:=h
 obtain ⟨u,rfl,ru⟩:=Vals.one r
 cases ru
 obtain ⟨hz,hsm,ys,rel,ob,es,age,g,ex,dat,hes,hjunk⟩:=dt_of I.hok hd
 have hsz:es.size = ys.length:=size_of_entries hes
 have hlen:kvs.length = ys.length:=Paired.length rel
 refine PySem.W.kdl_call (zUc (rows:=es) (age:=age) hsm) (show X.A.handled = none from I.ok.hd hc) ⟨ob,g,ex,dat⟩ (by rw [hsz,← hlen]; exact hz) fun h' tk acc c keep at' its=>?_
 have eqs:acc.toList = ((ys.map fun y=>(y.2.1,y.1)).map (·.1)).map Value.ref:=by
  refine List.ext_getElem? fun j=>?_
  by_cases hj:j < ys.length
  ·have ja:j < acc.size:=by rw [its.1,hsz]; exact hj
   obtain ⟨hj',e⟩:=its.2 j acc[j] (by simp [ja])
   have ek:=entry_at hes j
   rw [Array.getElem?_eq_getElem hj',List.getElem?_eq_getElem hj,Option.map_some] at ek
   have ev:es[j].key = Value.ref ys[j].2.1:=by rw [Option.some.inj ek]; rfl
   rw [Array.getElem?_toList,Array.getElem?_eq_getElem ja,e,ev,List.getElem?_map,List.getElem?_map,List.getElem?_map,List.getElem?_eq_getElem hj]
   rfl
  ·rw [List.getElem?_eq_none (by rw [Array.length_toList,its.1,hsz]; omega),List.getElem?_eq_none (by simp; omega)]
 have props:(ys.map fun y=>(y.2.1,y.1)).map (·.2) = kvs.map (·.1)∧∀ t∈ys.map (fun y=>(y.2.1,y.1)),H t.1 = some (.tup (t.2.map kV)):=by
  clear hes hsz hlen q eqs hd hz hjunk
  induction rel with
  | nil=>exact ⟨rfl,fun t ht=>nomatch ht⟩
  | @cons p y ps zs hp t ih =>
   refine ⟨by rw [List.map_cons,List.map_cons,List.map_cons,ih.1,hp.1],fun t' ht'=>?_⟩
   rcases List.mem_cons.mp ht' with e | ht'
   ·subst e
    show H y.2.1 = some (.tup (y.1.map kV))
    rw [← hp.1]
    exact hp.2.1
   ·exact ih.2 t' ht'
 have fr:H s.heap.objs.size = none:=I.hok.fresh (Nat.le_refl _)
 refine ⟨.ref s.heap.objs.size,_,I.laid (t':=tk) (a:=s.heap.objs.size) (o:=.lst (((ys.map fun y=>(y.2.1,y.1)).map (·.1)).map V.ref)) keep (Nat.le_refl _) ?_,rfl,q _ _ fr props.1 props.2⟩
 refine ⟨by rw [List.length_map,List.length_map,List.length_map,← hlen]; exact hz,_,c,zFo _,?_⟩
 rw [← eqs,Array.toArray_toList]
 exact at'
end
end L2

namespace Sea
open PySem L2
abbrev Sd:=Addr × Int × Int × Int
abbrev zAo (ss:List Sd):List V:=(ss.map (·.1)).map V.ref
def SdOk (H:Hp) (ss:List Sd):Prop:=∀ t∈ss,H t.1 = some (.tup [.int t.2.1,.int t.2.2.1,.int t.2.2.2])∧(t.2.1≠0∨t.2.2.1≠0)∧t.2.1.natAbs≤10 ^ 9∧t.2.2.1.natAbs≤10 ^ 9∧t.2.2.2.natAbs≤10 ^ 13
theorem SdOk.same {H H':Hp} {ss:List Sd} (h:SdOk H ss) (s:Same H H'):SdOk H' ss:=fun t ht=>⟨s _ _ (h t ht).1,(h t ht).2⟩
theorem zAm (ss:List Sd):(zAo ss).length = ss.length:=by simp [zAo]
theorem zBv {ss:List Sd} {i:Nat} {v:V} (h:(zAo ss)[i]? = some v):∃ t,ss[i]? = some t∧v = .ref t.1∧i < ss.length:=by
 rw [List.getElem?_map,List.getElem?_map] at h
 cases e:ss[i]? with
 | none=>rw [e] at h; cases h
 | some t=>rw [e] at h; exact ⟨t,rfl,(Option.some.inj h).symm,(List.getElem?_eq_some_iff.mp e).1⟩
theorem zBf {ss:List Sd} {i:Nat} {k:Int} (e:k = i) (h:i < ss.length):∃ t,t∈ss∧ss[i]? = some t∧atI (zAo ss) k = some (.ref t.1):=by
 refine ⟨ss[i],List.getElem_mem h,List.getElem?_eq_getElem h,?_⟩
 rw [e]
 exact zK0 (by rw [List.getElem?_map,List.getElem?_map,List.getElem?_eq_getElem h] <;> rfl)
def wayB (ss:List Sd) (x y:Int):Bool:=ss.all fun t=>decide (t.2.1 * x + t.2.2.1 * y≤0)
def WK (ss:List Sd) (n:Nat) (k:List Int):Prop:=∃ j t,j < n∧ss[j]? = some t∧((k = lowL [-t.2.2.1,t.2.1]∧wayB ss (-t.2.2.1) t.2.1 = true)∨(k = lowL [t.2.2.1,-t.2.1]∧wayB ss t.2.2.1 (-t.2.1) = true))
theorem zUd (ss:List Sd) (k:List Int):¬ WK ss 0 k:=fun ⟨_,_,h,_⟩=>absurd h (Nat.not_lt_zero _)
theorem zUr {ss:List Sd} {n:Nat} {t:Sd} (h:ss[n]? = some t) (k:List Int):WK ss (n + 1) k↔WK ss n k∨(k = lowL [-t.2.2.1,t.2.1]∧wayB ss (-t.2.2.1) t.2.1 = true)∨(k = lowL [t.2.2.1,-t.2.1]∧wayB ss t.2.2.1 (-t.2.1) = true):=by
 constructor
 ·rintro ⟨j,u,hj,hu,r⟩
  by_cases e:j = n
  ·subst e
   rw [h] at hu
   cases hu
   exact .inr r
  ·exact .inl ⟨j,u,by omega,hu,r⟩
 ·rintro (⟨j,u,hj,hu,r⟩ | r)
  ·exact ⟨j,u,by omega,hu,r⟩
  ·exact ⟨n,t,by omega,h,r⟩
theorem zS3 {ss:List Sd} {x y g:Int} (hg:0 < g):wayB ss (x * g) (y * g) = wayB ss x y:=by
 unfold wayB
 congr 1
 funext t
 refine decide_eq_decide.mpr ?_
 have e:t.2.1 * (x * g) + t.2.2.1 * (y * g) = (t.2.1 * x + t.2.2.1 * y) * g:=by rw [Int.add_mul,Int.mul_assoc,Int.mul_assoc]
 rw [e]
 constructor
 ·intro h
  by_cases c:t.2.1 * x + t.2.2.1 * y≤0
  ·exact c
  ·have:=Int.mul_pos (show 0 < t.2.1 * x + t.2.2.1 * y by omega) hg
   omega
 ·intro h
  have:=Int.mul_nonneg (show 0≤-(t.2.1 * x + t.2.2.1 * y) by omega) (Int.le_of_lt hg)
  rw [Int.neg_mul] at this
  omega
theorem gcd2 {x y:Int} (n:x≠0∨y≠0) (m0:x.natAbs≤10 ^ 9) (m1:y.natAbs≤10 ^ 9):0 < gcdL [x,y]∧(gcdL [x,y]:Int) < 10 ^ 600:=by
 have gp:0 < gcdL [x,y]:=by
  rcases n with n | n
  ·exact zCf (n:=x) (by simp) n
  ·exact zCf (n:=y) (by simp) n
 have z:(gcdL [x,y]:Int)≤10 ^ 9:=by
  rcases n with n | n
  ·have:=zGv (ns:=[x,y]) (n:=x) (by simp) n
   omega
  ·have:=zGv (ns:=[x,y]) (n:=y) (by simp) n
   omega
 exact ⟨gp,Int.lt_of_le_of_lt z (by decide +kernel)⟩
theorem zM9 {ss:List Sd} {x y:Int} (gp:0 < gcdL [x,y]):wayB ss (x / (gcdL [x,y]:Int)) (y / (gcdL [x,y]:Int)) = wayB ss x y:=by
 have gI:(0:Int) < (gcdL [x,y]:Int):=by omega
 have e1:=zBh (ns:=[x,y]) (n:=x) (by simp)
 have e2:=zBh (ns:=[x,y]) (n:=y) (by simp)
 have z:=zS3 (ss:=ss) (x:=x / (gcdL [x,y]:Int)) (y:=y / (gcdL [x,y]:Int)) gI
 rw [e1,e2] at z
 exact z.symm
def keyI (ns:List Int):List Key:=ns.map Sum.inl
theorem zI8 (ns:List Int):(keyI ns).map kV = ns.map V.int:=by
 unfold keyI
 rw [List.map_map]
 rfl
theorem zTc {a b:List Int} (h:keyI a = keyI b):a = b:=by
 have z:=congrArg (List.map kV) h
 rw [zI8,zI8] at z
 exact zHy z
structure TabK (kvs:List (List Key × V)) (ks:List (List Int)):Prop where
 keys:kvs.map (·.1) = ks.map keyI
 nodup:ks.Nodup
theorem TabK.nil:TabK [] []:=⟨rfl,List.nodup_nil⟩
theorem TabK.put {kvs:List (List Key × V)} {ks:List (List Int)} (h:TabK kvs ks) (k:List Int) (v:V):∃ ks',TabK (putK kvs (keyI k) v) ks'∧(∀ x,x∈ks'↔x∈ks∨x = k)∧ks'.length≤ks.length + 1:=by
 have hm:∀ kv∈kvs,∃ x∈ks,kv.1 = keyI x:=fun kv hkv=>by
  have z:kv.1∈ks.map keyI:=by rw [← h.keys]; exact List.mem_map_of_mem hkv
  obtain ⟨x,hx,e⟩:=List.mem_map.mp z
  exact ⟨x,hx,e.symm⟩
 unfold putK
 by_cases c:(kvs.any fun kv=>decide (kv.1 = keyI k)) = true
 ·rw [if_pos c]
  obtain ⟨kv,hkv,e⟩:=List.any_eq_true.mp c
  obtain ⟨x,hx,ex⟩:=hm kv hkv
  have exk:x = k:=zTc (ex.symm.trans (of_decide_eq_true e))
  refine ⟨ks,⟨?_,h.nodup⟩,fun y=>⟨.inl,fun z=>z.elim id fun z=>by rw [z,← exk]; exact hx⟩,Nat.le_succ _⟩
  rw [List.map_map,← h.keys]
  refine List.map_congr_left fun a _=>?_
  show (if a.1 = keyI k then (a.1,v) else a).1 = a.1
  split <;> rfl
 ·rw [if_neg c]
  have nk:k ∉ ks:=fun hk=>c (by
   have z:keyI k∈kvs.map (·.1):=by rw [h.keys]; exact List.mem_map_of_mem hk
   obtain ⟨kv,hkv,e⟩:=List.mem_map.mp z
   exact List.any_eq_true.mpr ⟨kv,hkv,decide_eq_true e⟩)
  refine ⟨ks ++ [k],⟨by rw [List.map_append,List.map_append,h.keys]; rfl,?_⟩,fun y=>by rw [List.mem_append,List.mem_singleton],by rw [List.length_append]; exact Nat.le_refl _⟩
  rw [List.nodup_append]
  refine ⟨h.nodup,by simp,fun a ha b hb=>?_⟩
  rw [List.mem_singleton] at hb
  intro e
  exact nk (hb ▸ e ▸ ha)
theorem TabK.len {kvs:List (List Key × V)} {ks:List (List Int)} (h:TabK kvs ks):kvs.length = ks.length:=by
 have z:=congrArg List.length h.keys
 rwa [List.length_map,List.length_map] at z
theorem TabK.refs {H:Hp} {kvs:List (List Key × V)} {ks:List (List Int)} {ts:List (Addr × List Key)} (h:TabK kvs ks) (e:ts.map (·.2) = kvs.map (·.1)) (ht:∀ t∈ts,H t.1 = some (.tup (t.2.map kV))) :
  ∃ us:List (Addr × List Int),us.map (·.1) = ts.map (·.1)∧us.map (·.2) = ks∧∀ u∈us,H u.1 = some (.tup (u.2.map V.int)):=by
 rw [h.keys] at e
 clear h
 induction ts generalizing ks with
 | nil =>
  cases ks with
  | nil=>exact ⟨[],rfl,rfl,fun u hu=>nomatch hu⟩
  | cons k ks=>exact absurd e (by simp)
 | cons t ts ih =>
  cases ks with
  | nil=>exact absurd e (by simp)
  | cons k ks =>
   rw [List.map_cons,List.map_cons] at e
   injection e with e1 e2
   obtain ⟨us,h1,h2,h3⟩:=ih e2 fun t' ht'=>ht t' (List.mem_cons_of_mem _ ht')
   refine ⟨(t.1,k) :: us,by rw [List.map_cons,List.map_cons,h1],by rw [List.map_cons,h2],fun u hu=>?_⟩
   rcases List.mem_cons.mp hu with rfl | hu
   ·have z:=ht t (List.mem_cons_self ..)
    rw [e1,zI8] at z
    exact z
   ·exact h3 u hu
structure WaysAt (H:Hp) (l:Addr) (ss:List Sd) (us:List (Addr × List Int)):Prop where
 at':H l = some (.lst ((us.map (·.1)).map V.ref))
 all:∀ u∈us,H u.1 = some (.tup (u.2.map V.int))
 rises:(us.map (·.2)).Pairwise (fun a b=>HT.lexLt b a = false)
 nodup:(us.map (·.2)).Nodup
 mem:∀ k,k∈us.map (·.2)↔WK ss ss.length k
 few:us.length≤80
structure SdSt (H0:Hp) (D:Addr) (ss:List Sd) (H:Hp):Prop where
 same:Same H0 H
 new:H0 D = none
 at':H D = some (.lst (zAo ss))
 all:SdOk H ss
theorem SdSt.app {H0 H H2:Hp} {D p:Addr} {ss:List Sd} {a b c:Int} (P:SdSt H0 D ss H) (s:Same H H2) (hp:H p = none) (ep:H2 p = some (.tup [.int a,.int b,.int c])) (n:a≠0∨b≠0) (ma:a.natAbs≤10 ^ 9) (mb:b.natAbs≤10 ^ 9) (mc:c.natAbs≤10 ^ 13) :
  SdSt H0 D (ss ++ [(p,a,b,c)]) (upd H2 D (.lst (zAo ss ++ [.ref p]))):=by
 have npD:p≠D:=fun e=>by rw [e,P.at'] at hp; cases hp
 refine ⟨(P.same.trans s).putNew P.new,P.new,by rw [zAc]; simp [zAo],fun t ht=>?_⟩
 rcases List.mem_append.mp ht with h | h
 ·obtain ⟨h1,h2⟩:=P.all t h
  refine ⟨?_,h2⟩
  rw [zA5 (zHh h1 P.at' (by intro z; cases z))]
  exact s _ _ h1
 ·rw [List.mem_singleton] at h
  subst h
  refine ⟨?_,n,ma,mb,mc⟩
  show upd H2 D _ p = _
  rw [zA5 npD]
  exact ep
theorem cutS {ok:Addr→List Sd→Hp→Prop} {G:Prop} {R:Addr→List Sd→Hp→Prop} (h1:(∀ D ss H,ok D ss H→R D ss H)→G) (h2:∀ D ss H,ok D ss H→R D ss H):G:=h1 h2
end Sea

namespace Sea
open PySem L2
theorem cm_l {i j:Int} (h:i.natAbs≤10 ^ 18):CMul i j:=.inl ⟨by omega,by omega⟩
theorem cm_r {i j:Int} (h:j.natAbs≤10 ^ 18):CMul i j:=.inr ⟨by omega,by omega⟩
abbrev P3:=Int × Int × Int
abbrev zBt (qs:List (Addr × P3)):List V:=(qs.map (·.1)).map V.ref
def zJ8 (H:Hp) (qs:List (Addr × P3)):Prop:=∀ t∈qs,H t.1 = some (.tup [.int t.2.1,.int t.2.2.1,.int t.2.2.2])∧0 < t.2.2.2∧Nat.gcd (Nat.gcd t.2.1.natAbs t.2.2.1.natAbs) t.2.2.2.natAbs = 1
theorem zJ8.same {H H':Hp} {qs:List (Addr × P3)} (h:zJ8 H qs) (s:Same H H'):zJ8 H' qs:=fun t ht=>⟨s _ _ (h t ht).1,(h t ht).2⟩
def sv (t p:P3):Int:=t.1 * p.1 + t.2.1 * p.2.1 - t.2.2 * p.2.2
def tn (e s:P3):Int:=e.1 * s.2.1 - e.2.1 * s.1
def dl (e p q:P3):Int:=e.1 * (p.2.1 * q.2.2 - q.2.1 * p.2.2) - e.2.1 * (p.1 * q.2.2 - q.1 * p.2.2)
theorem zT4 (a b u v X Y:Int):(a * a + b * b) * (u * X + v * Y) = (a * Y - b * X) * (a * v - b * u) + (a * X + b * Y) * (a * u + b * v):=by
 simp only [Int.mul_sub,Int.sub_mul,Int.mul_add,Int.add_mul,Int.mul_comm,Int.mul_left_comm]
 omega
theorem zK9 (s p q:P3):sv s p * q.2.2 - sv s q * p.2.2 = s.1 * (p.1 * q.2.2 - q.1 * p.2.2) + s.2.1 * (p.2.1 * q.2.2 - q.2.1 * p.2.2):=by
 unfold sv
 simp only [Int.mul_sub,Int.sub_mul,Int.add_mul,Int.mul_add,Int.mul_comm,Int.mul_left_comm]
 omega
theorem zQl {e p q:P3} (hp:sv e p = 0) (hq:sv e q = 0) (s:P3):(e.1 * e.1 + e.2.1 * e.2.1) * (sv s p * q.2.2 - sv s q * p.2.2) = dl e p q * tn e s:=by
 have z:=zK9 e p q
 rw [hp,hq,Int.zero_mul,Int.zero_mul,Int.sub_self] at z
 rw [zK9 s p q,zT4,← z,Int.zero_mul,Int.add_zero]
 rfl
theorem zNo {x y h:Int} (hh:h * h = 1):(x * h) * (y * h) = x * y:=by
 have e:(x * h) * (y * h) = x * y * (h * h):=by simp only [Int.mul_comm,Int.mul_left_comm]
 rw [e,hh,Int.mul_one]
theorem zPt {e p q:P3} {h:Int} (hh:h * h = 1) (hN:0 < e.1 * e.1 + e.2.1 * e.2.1) (hp:sv e p = 0) (hq:sv e q = 0) (pw:0 < p.2.2) (qw:0 < q.2.2) (s:P3) (hs:(dl e p q * h) * (tn e s * h)≤0) (hv:sv s q≤0):sv s p≤0:=by
 have k:=zQl hp hq s
 rw [← zNo (x:=dl e p q) (y:=tn e s) hh] at k
 rw [← k] at hs
 have h1:sv s p * q.2.2 - sv s q * p.2.2≤0:=by
  by_cases c:sv s p * q.2.2 - sv s q * p.2.2≤0
  ·exact c
  ·have:=Int.mul_pos hN (show 0 < sv s p * q.2.2 - sv s q * p.2.2 by omega)
   omega
 have h2:sv s q * p.2.2≤0:=by
  have:=Int.mul_nonneg (show 0≤-sv s q by omega) (Int.le_of_lt pw)
  rw [Int.neg_mul] at this
  omega
 by_cases c:sv s p≤0
 ·exact c
 ·have:=Int.mul_pos (show 0 < sv s p by omega) qw
  omega
theorem dl_ge {e p q s:P3} {h:Int} (hh:h * h = 1) (hN:0 < e.1 * e.1 + e.2.1 * e.2.1) (hp:sv e p = 0) (hq:sv e q = 0) (pw:0 < p.2.2) (h0:sv s p = 0) (hv:sv s q≤0) (ht:0 < tn e s * h):0≤dl e p q * h:=by
 have k:=zQl hp hq s
 rw [h0,Int.zero_mul,← zNo (x:=dl e p q) (y:=tn e s) hh] at k
 have h2:0≤-sv s q * p.2.2:=Int.mul_nonneg (by omega) (Int.le_of_lt pw)
 rw [Int.neg_mul] at h2
 have h3:=Int.mul_nonneg (Int.le_of_lt hN) (show 0≤0 - sv s q * p.2.2 by omega)
 rw [k] at h3
 by_cases c:0≤dl e p q * h
 ·exact c
 ·have:=Int.mul_pos (show 0 < -(dl e p q * h) by omega) ht
  rw [Int.neg_mul] at this
  omega
theorem dl_le {e p q s:P3} {h:Int} (hh:h * h = 1) (hN:0 < e.1 * e.1 + e.2.1 * e.2.1) (hp:sv e p = 0) (hq:sv e q = 0) (pw:0 < p.2.2) (h0:sv s p = 0) (hv:0 < sv s q) (ht:0 < tn e s * h):dl e p q * h≤0:=by
 have k:=zQl hp hq s
 rw [h0,Int.zero_mul,← zNo (x:=dl e p q) (y:=tn e s) hh] at k
 have h2:=Int.mul_pos hv pw
 have h3:=Int.mul_nonneg (Int.le_of_lt hN) (show 0≤sv s q * p.2.2 by omega)
 have h4:(e.1 * e.1 + e.2.1 * e.2.1) * (0 - sv s q * p.2.2) = -((e.1 * e.1 + e.2.1 * e.2.1) * (sv s q * p.2.2)):=by rw [Int.zero_sub,Int.mul_neg]
 rw [h4] at k
 by_cases c:dl e p q * h≤0
 ·exact c
 ·have:=Int.mul_pos (show 0 < dl e p q * h by omega) ht
  omega
def pt3 (l:List Int):P3:=match l with
 | [x,y,w]=>(x,y,w)
 | _=>(0,0,1)
def crL (e s:P3):List Int:=lowL (upL (e.2.2 * s.2.1 - e.2.1 * s.2.2) (e.1 * s.2.2 - e.2.2 * s.1) (e.1 * s.2.1 - e.2.1 * s.1))
def ftL (t:P3):List Int:=lowL (upL (t.1 * t.2.2) (t.2.1 * t.2.2) (t.1 * t.1 + t.2.1 * t.2.1))
structure zT5 (l:List Int) (p:P3):Prop where
 list:l = [p.1,p.2.1,p.2.2]
 pos:0 < p.2.2
 low:Nat.gcd (Nat.gcd p.1.natAbs p.2.1.natAbs) p.2.2.natAbs = 1
theorem zEv {e s:P3} (h:tn e s≠0):zT5 (crL e s) (pt3 (crL e s))∧sv e (pt3 (crL e s)) = 0∧sv s (pt3 (crL e s)) = 0:=by
 obtain ⟨x,y,w,el,sp⟩:=zIw (X:=e.2.2 * s.2.1 - e.2.1 * s.2.2) (Y:=e.1 * s.2.2 - e.2.2 * s.1) (W:=e.1 * s.2.1 - e.2.1 * s.1) h
 have e1:crL e s = [x,y,w]:=el
 rw [e1]
 refine ⟨⟨rfl,by have:=sp.pos; show 0 < w; omega,sp.low⟩,?_,?_⟩
 ·have z:=zK5 (A:=e.1) (B:=e.2.1) (C:=e.2.2) h sp (zQ1 e.1 e.2.1 e.2.2 s.1 s.2.1 s.2.2)
  show e.1 * x + e.2.1 * y - e.2.2 * w = 0
  omega
 ·have z:=zK5 (A:=s.1) (B:=s.2.1) (C:=s.2.2) h sp (zRe e.1 e.2.1 e.2.2 s.1 s.2.1 s.2.2)
  show s.1 * x + s.2.1 * y - s.2.2 * w = 0
  omega
theorem zEk {t:P3} (h:t.1≠0∨t.2.1≠0):0 < t.1 * t.1 + t.2.1 * t.2.1:=zL1 h
theorem zR7 {t:P3} (h:t.1≠0∨t.2.1≠0):zT5 (ftL t) (pt3 (ftL t))∧sv t (pt3 (ftL t)) = 0:=by
 have hw:=zEk h
 obtain ⟨x,y,w,el,sp⟩:=zIw (X:=t.1 * t.2.2) (Y:=t.2.1 * t.2.2) (W:=t.1 * t.1 + t.2.1 * t.2.1) (by omega)
 have e1:ftL t = [x,y,w]:=el
 rw [e1]
 refine ⟨⟨rfl,by have:=sp.pos; show 0 < w; omega,sp.low⟩,?_⟩
 have z:=zK5 (A:=t.1) (B:=t.2.1) (C:=t.2.2) (show t.1 * t.1 + t.2.1 * t.2.1≠0 by omega) sp (by simp only [Int.mul_add,Int.mul_comm,Int.mul_left_comm])
 show t.1 * x + t.2.1 * y - t.2.2 * w = 0
 omega
def inW (ss:List Sd) (p:P3):Prop:=∀ t∈ss,sv t.2 p≤0
def zId (ss:List Sd) (e:P3) (h:Int):Option Nat→Prop
 | none=>∀ t∈ss,tn e t.2 * h≤0
 | some j=>∃ t,ss[j]? = some t∧0 < tn e t.2 * h∧∀ u∈ss,0 < tn e u.2 * h→sv u.2 (pt3 (crL e t.2))≤0
theorem zB2 {x h:Int} (h0:0 < x * h):x≠0:=fun z=>by rw [z,Int.zero_mul] at h0; exact absurd h0 (by decide)
theorem zMa {ss:List Sd} {e z:P3} {h:Int} {j:Nat} {t:Sd} (hh:h * h = 1) (hN:0 < e.1 * e.1 + e.2.1 * e.2.1) (hz:sv e z = 0) (zw:0 < z.2.2) (wz:inW ss z) (gt:ss[j]? = some t) (h0:0 < tn e t.2 * h) (ha:∀ u∈ss,0 < tn e u.2 * h→sv u.2 (pt3 (crL e t.2))≤0):inW ss (pt3 (crL e t.2)):=fun u hu=>by
 obtain ⟨sp,c1,c2⟩:=zEv (zB2 h0)
 by_cases hp:0 < tn e u.2 * h
 ·exact ha u hu hp
 ·have d0:=dl_ge hh hN c1 hz sp.pos c2 (wz t (List.mem_of_getElem? gt)) h0
  refine zPt hh hN c1 hz sp.pos zw u.2 ?_ (wz u hu)
  have:=Int.mul_nonneg d0 (show 0≤-(tn e u.2 * h) by omega)
  rw [Int.mul_neg] at this
  omega
theorem zL9 {ss:List Sd} {e z p:P3} (hN:0 < e.1 * e.1 + e.2.1 * e.2.1) (hz:sv e z = 0) (zw:0 < z.2.2) (wz:inW ss z) (hp:sv e p = 0) (pw:0 < p.2.2) (n1:zId ss e 1 none) (n2:zId ss e (-1) none):inW ss p:=fun u hu=>by
 have e1:=n1 u hu
 have e2:=n2 u hu
 rw [Int.mul_one] at e1
 have e0:tn e u.2 = 0:=by
  rw [Int.mul_neg,Int.mul_one] at e2
  omega
 refine zPt (h:=1) (by decide) hN hp hz pw zw u.2 ?_ (wz u hu)
 rw [e0,Int.zero_mul,Int.mul_zero]
 exact Int.le_refl _
theorem zRl (t p z:P3) (b a:Int):sv t (b * p.1 + a * z.1,b * p.2.1 + a * z.2.1,b * p.2.2 + a * z.2.2) = b * sv t p + a * sv t z:=by
 unfold sv
 simp only [Int.mul_sub,Int.mul_add,Int.mul_comm,Int.mul_left_comm]
 omega
theorem zQz {ss:List Sd} {e p z:P3} (wp:inW ss p) (wz:inW ss z) (pw:0 < p.2.2) (zw:0 < z.2.2) (hp:0 < sv e p) (hz:sv e z≤0):∃ m:P3,sv e m = 0∧0 < m.2.2∧inW ss m:=by
 refine ⟨(-sv e z * p.1 + sv e p * z.1,-sv e z * p.2.1 + sv e p * z.2.1,-sv e z * p.2.2 + sv e p * z.2.2),?_,?_,fun t ht=>?_⟩
 ·rw [zRl,Int.neg_mul,Int.mul_comm (sv e p)]
  omega
 ·have h1:=Int.mul_nonneg (show 0≤-sv e z by omega) (Int.le_of_lt pw)
  have h2:=Int.mul_pos hp zw
  show 0 < -sv e z * p.2.2 + sv e p * z.2.2
  omega
 ·rw [zRl]
  have h1:=Int.mul_nonneg (show 0≤-sv e z by omega) (show 0≤-sv t.2 p by have:=wp t ht; omega)
  have h2:=Int.mul_nonneg (Int.le_of_lt hp) (show 0≤-sv t.2 z by have:=wz t ht; omega)
  rw [Int.mul_neg] at h1 h2
  omega
end Sea

namespace L2
open PySem PySem.Spec PyProof.Rows
section
variable {X:Cx} {pos:Pos}
def tPar3 (i j k:Nat) (ta:TA):TS:=fun D σ H=>ta σ H fun vs H1=>∃ u v w,vs = [u,v,w]∧D.nx (((σ.set i (some u)).set j (some v)).set k (some w)) H1
theorem zVg {i j k:Nat} {x y z:Str} {a b c:Expr} {ta:TA} {px py pz pt:Pos} {kt k2 pt2} (hc:X.calm = true) (hN:X.N.Nodup) (hi:X.N[i]? = some x) (hj:X.N[j]? = some y) (hk:X.N[k]? = some z) (hij:i≠j) (hik:i≠k) (hjk:j≠k)
  (hx:X.env.scope.names.lookup x = some .local) (hy:X.env.scope.names.lookup y = some .local) (hz:X.env.scope.names.lookup z = some .local) (ha:PA X [a,b,c] ta)
  (hw:swappedStores [.Tuple [.Name x px,.Name y py,.Name z pz] kt pt] (.Tuple [a,b,c] k2 pt2) X.env = pure (some [x,y,z]))
  (hs:swapsWithSole [.Tuple [.Name x px,.Name y py,.Name z pz] kt pt] (.Tuple [a,b,c] k2 pt2) pos.line X.env = pure false:=by rfl) :
  PS X (.Assign [.Tuple [.Name x px,.Name y py,.Name z pz] kt pt] (.Tuple [a,b,c] k2 pt2) pos) (tPar3 i j k ta):=by
 intro pins s σ H D I h
 rw [exec_Assign_arm]
 refine wpAny_bind (wpAny_standAt ?_)
 rw [hs]
 refine wpAny_bind (wpAny_pure ?_)
 rw [if_neg (by decide)]
 refine wpAny_bind (Tuple_ (thn (ha _ pins s σ H _ I h) fun us s1 ⟨vs,H1,I1,r1,q1⟩=>?_))
 obtain ⟨u,v,t,e1,q1⟩:=q1
 subst e1
 obtain ⟨u1,u2,u3,rfl,ru,rv,rt⟩:∃ u1 u2 u3,us = [u1,u2,u3]∧RelV u u1∧RelV v u2∧RelV t u3:=by
  cases r1 with
  | cons p q =>
   cases q with
   | cons p' q' =>
    cases q' with
    | cons p'' q'' =>
     cases q''
     exact ⟨_,_,_,rfl,p,p',p''⟩
 refine wpAny_newObj_type ?_ (by show 3≤sizeLine; decide)
 have I2:Inv X pins σ H1 { s1 with heap:=s1.heap.push { cls:=.type "tuple", data:=.seq [u1,u2,u3].toArray } }:=I1.kept (t':=s1.toks) fun b o e=>Heap.get?_push_of_some _ e
 rw [hw]
 refine wpAny_bind (wpAny_pure ?_)
 show wpAny (model X.prog X.w) X.A (do rule "assign.swapped-stores"; let items ← unpackItems (.ref s1.heap.objs.size) 3 none; assignInOrder [fun v=>bindName X.env z v,fun v=>bindName X.env y v,fun v=>bindName X.env x v] items.reverse; pure Flow.next) _ _ _
 refine wpAny_bind (wpAny_rule (wpAny_bind (unpackItems_tuple (items:=#[u1,u2,u3]) (I.ok.hd hc) (IsTup.new s1.heap _) fun h' hx'=>?_)))
 have I3:=I2.kept (h':=h') (t':=s1.toks) fun b o e=>hx' b o (Nat.ne_of_lt (Heap.lt_size e)) e
 show wpAny _ _ (assignInOrder [fun v=>bindName X.env z v,fun v=>bindName X.env y v,fun v=>bindName X.env x v] [u3,u2,u1] >>= fun _=>pure Flow.next) _ _ _
 refine wpAny_bind (assignInOrder_cons (wpAny_bindName (zFd I3 hN hk (.inl hz) rt (fun s2 I4=>?_) (.inr hz))))
 refine assignInOrder_cons (wpAny_bindName (zFd I4 hN hj (.inl hy) rv (fun s3 I5=>?_) (.inr hy)))
 refine assignInOrder_cons (wpAny_bindName (zFd I5 hN hi (.inl hx) ru (fun s4 I6=>assignInOrder_nil (wpAny_pure ?_)) (.inr hx)))
 rw [List.set_comm (some t) (some v) (Ne.symm hjk),List.set_comm (some t) (some u) (Ne.symm hik),List.set_comm (some v) (some u) (Ne.symm hij)] at I6
 exact ⟨_,H1,I6,q1⟩
def rNeE (K:PySem.W.Frag):R2:=fun x y H Q=>∃ (a b:Addr) (rs:List Addr),x = .ref a∧y = .ref b∧SqL K H a (rs.map V.ref)∧SqL K H b []∧Q (.bl (!rs.isEmpty)) H
theorem op_neE (hu:X.A.units < cLine):OpR X (compareOp .NotEq) (rNeE X.K):=by
 intro pins s σ H x y v u Q I rx ry h
 obtain ⟨a,b,rs,rfl,rfl,h1,h2,q⟩:=h
 cases rx
 cases ry
 obtain ⟨us,r1,p1,_⟩:=I.list h1
 obtain ⟨ws,r2,p2,_⟩:=I.list h2
 have e1:=zLa r1
 have e2:=Vals.zero r2
 subst e1 e2
 cases rs with
 | nil =>
  refine SeqAt.RcNeAt.lists (e:=fun _=>true) p1.isList p2.isList rfl hu (fun j g _=>absurd g (by simp)) X.prog X.w _ _ ?_
  exact ⟨.bl false,H,I,rfl,q⟩
 | cons r rs =>
  refine SeqAt.RcNeAt.lists_lengths p1.isList p2.isList (by simp) hu X.prog X.w _ _ ?_
  exact ⟨.bl true,H,I,rfl,q⟩
end
end L2
namespace Sea
open PySem L2
theorem zVi (ss:List Sd) (n:Nat):cutV (zAo ss) (some (n:Int)) none = zAo (ss.drop n):=by
 unfold cutV
 rw [HT.sIx_nat (zAo ss).length 0 n,show HT.sIx (zAo ss).length (zAo ss).length none = (zAo ss).length from rfl,List.take_of_length_le (by rw [List.length_drop] <;> omega)]
 rw [zAm]
 simp only [zAo,← List.map_drop]
 congr 2
 by_cases h:n≤ss.length
 ·rw [Nat.min_eq_left h]
 ·rw [Nat.min_eq_right (by omega),List.drop_length,List.drop_eq_nil_of_le (by omega)]
theorem zH1 (ss:List Sd):zAo ss = ss.map fun t=>V.ref t.1:=by simp [zAo]
theorem zVd {e s:P3} (h:tn e s≠0):crL e s = crL s e:=by
 unfold crL
 have e1:s.2.2 * e.2.1 - s.2.1 * e.2.2 = -(e.2.2 * s.2.1 - e.2.1 * s.2.2):=by rw [Int.mul_comm s.2.2,Int.mul_comm s.2.1]; omega
 have e2:s.1 * e.2.2 - s.2.2 * e.1 = -(e.1 * s.2.2 - e.2.2 * s.1):=by rw [Int.mul_comm s.1,Int.mul_comm s.2.2]; omega
 have e3:s.1 * e.2.1 - s.2.1 * e.1 = -(e.1 * s.2.1 - e.2.1 * s.1):=by rw [Int.mul_comm s.1,Int.mul_comm s.2.1]; omega
 rw [e1,e2,e3,zU1 (show e.1 * s.2.1 - e.2.1 * s.1≠0 from h)]
end Sea

namespace Sea
open PySem L2
theorem zU4 (e p q:P3):dl e p q = -dl e q p:=by
 unfold dl
 simp only [Int.mul_sub]
 omega
def Cor (ss:List Sd) (P:P3):Prop:=∃ t∈ss,∃ u∈ss,tn t.2 u.2≠0∧P = pt3 (crL t.2 u.2)∧inW ss P
def zMn (ss:List Sd) (e:P3) (h:Int) (qs:List P3):Prop:=zId ss e h none∨∃ (j:Nat) (t:Sd),ss[j]? = some t∧0 < tn e t.2 * h∧(∀ u∈ss,0 < tn e u.2 * h→sv u.2 (pt3 (crL e t.2))≤0)∧pt3 (crL e t.2)∈qs
theorem zMn.app {ss:List Sd} {e:P3} {h:Int} {qs rs:List P3} (f:zMn ss e h qs):zMn ss e h (qs ++ rs):=by
 rcases f with f | ⟨j,t,g,p,a,m⟩
 ·exact .inl f
 ·exact .inr ⟨j,t,g,p,a,List.mem_append_left _ m⟩
theorem zSn {e s:P3} (h:tn e s≠0) (b1:e.1.natAbs≤10 ^ 9) (b2:e.2.1.natAbs≤10 ^ 9) (b3:e.2.2.natAbs≤10 ^ 13) (c1:s.1.natAbs≤10 ^ 9) (c2:s.2.1.natAbs≤10 ^ 9) (c3:s.2.2.natAbs≤10 ^ 13) :
  (pt3 (crL e s)).1.natAbs≤10 ^ 40∧(pt3 (crL e s)).2.1.natAbs≤10 ^ 40∧(pt3 (crL e s)).2.2.natAbs≤10 ^ 40:=by
 obtain ⟨x,y,w,el,sp⟩:=zIw (X:=e.2.2 * s.2.1 - e.2.1 * s.2.2) (Y:=e.1 * s.2.2 - e.2.2 * s.1) (W:=e.1 * s.2.1 - e.2.1 * s.1) h
 have e1:crL e s = [x,y,w]:=el
 rw [e1]
 have z1:=zAj e.2.2 s.2.1 b3 c2
 have z2:=zAj e.2.1 s.2.2 b2 c3
 have z3:=zAj e.1 s.2.2 b1 c3
 have z4:=zAj e.2.2 s.1 b3 c1
 have z5:=zAj e.1 s.2.1 b1 c2
 have z6:=zAj e.2.1 s.1 b2 c1
 have x1:=sp.xle
 have x2:=sp.yle
 have x3:=sp.wle
 refine ⟨?_,?_,?_⟩
 ·show x.natAbs≤10 ^ 40
  omega
 ·show y.natAbs≤10 ^ 40
  omega
 ·show w.natAbs≤10 ^ 40
  omega
end Sea

namespace Sea
open PySem L2
def absI (x:Int):Int:=if x < 0 then -x else x
def zBl (a b:Int):Int:=absI a + absI b
theorem zE1 {a b:Int} (h:a≠0∨b≠0):0 < zBl a b:=by
 unfold zBl absI
 split <;> split <;> omega
theorem par {e1 e2 s1 s2:Int} (h:e1 * s2 = e2 * s1) (hs:e2 * s2≤0):absI e2 * s1 + absI s2 * e1 = 0:=by
 unfold absI
 rw [Int.mul_comm e1 s2] at h
 by_cases c:e2 < 0
 ·rw [if_pos c]
  by_cases d:s2 < 0
  ·have:=Int.mul_pos_of_neg_of_neg c d
   omega
  ·rw [if_neg d,Int.neg_mul]
   omega
 ·rw [if_neg c]
  by_cases d:s2 < 0
  ·rw [if_pos d,Int.neg_mul]
   omega
  ·rw [if_neg d]
   have z:e2 * s2 = 0:=by
    have:=Int.mul_nonneg (show 0≤e2 by omega) (show 0≤s2 by omega)
    omega
   rcases Int.mul_eq_zero.mp z with z | z
   ·rw [z,Int.zero_mul] at h
    rw [z,Int.zero_mul,h]
    rfl
   ·rw [z,Int.zero_mul] at h
    rw [z,Int.zero_mul,← h]
    rfl
theorem zKb {x y:Int} (h:x + y < 0) (hp:0≤x * y):x≤0∧y≤0:=by
 by_cases cx:x≤0
 ·by_cases cy:y≤0
  ·exact ⟨cx,cy⟩
  ·by_cases c0:x = 0
   ·omega
   ·have:=Int.mul_neg_of_neg_of_pos (show x < 0 by omega) (show 0 < y by omega)
    omega
 ·by_cases cy:y < 0
  ·have:=Int.mul_neg_of_pos_of_neg (show 0 < x by omega) cy
   omega
  ·omega
theorem sq_nn (x:Int):0≤x * x:=by
 by_cases h:0≤x
 ·exact Int.mul_nonneg h h
 ·exact Int.le_of_lt (Int.mul_pos_of_neg_of_neg (by omega) (by omega))
theorem zSt {e s f P:P3} (ht:tn e s = 0) (hN:0 < e.1 * e.1 + e.2.1 * e.2.1) (he:e.1≠0∨e.2.1≠0) (fw:0 < f.2.2) (pw:0 < P.2.2) (h1:sv e f = 0) (h2:0 < sv s f) (h3:sv s P≤0) (h4:0 < sv e P) :
  zBl e.1 e.2.1 * s.1 + zBl s.1 s.2.1 * e.1 = 0∧zBl e.1 e.2.1 * s.2.1 + zBl s.1 s.2.1 * e.2.1 = 0∧zBl e.1 e.2.1 * s.2.2 + zBl s.1 s.2.1 * e.2.2 < 0:=by
 have d1:=zK9 e P f
 have d2:=zK9 s P f
 rw [h1,Int.zero_mul] at d1
 have p1:=Int.mul_pos h4 fw
 have p2:=Int.mul_pos h2 pw
 have p3:sv s P * f.2.2≤0:=by
  have:=Int.mul_nonneg (show 0≤-sv s P by omega) (Int.le_of_lt fw)
  rw [Int.neg_mul] at this
  omega
 have k:=zT4 e.1 e.2.1 s.1 s.2.1 (P.1 * f.2.2 - f.1 * P.2.2) (P.2.1 * f.2.2 - f.2.1 * P.2.2)
 rw [← d1,← d2,show e.1 * s.2.1 - e.2.1 * s.1 = 0 from ht,Int.mul_zero,Int.zero_add] at k
 have n1:(e.1 * e.1 + e.2.1 * e.2.1) * (sv s P * f.2.2 - sv s f * P.2.2) < 0:=Int.mul_neg_of_pos_of_neg hN (by omega)
 rw [k] at n1
 have dot:e.1 * s.1 + e.2.1 * s.2.1 < 0:=by
  by_cases c:e.1 * s.1 + e.2.1 * s.2.1 < 0
  ·exact c
  ·have:=Int.mul_nonneg (show 0≤sv e P * f.2.2 - 0 by omega) (show 0≤e.1 * s.1 + e.2.1 * s.2.1 by omega)
   omega
 have cr:e.1 * s.2.1 = e.2.1 * s.1:=by unfold tn at ht; omega
 have pr:0≤(e.1 * s.1) * (e.2.1 * s.2.1):=by
  have e0:(e.1 * s.1) * (e.2.1 * s.2.1) = (e.1 * s.2.1) * (e.2.1 * s.1):=by simp only [Int.mul_comm,Int.mul_left_comm]
  rw [e0,← cr]
  exact sq_nn _
 obtain ⟨o1,o2⟩:=zKb dot pr
 have a1:=par (e1:=e.1) (e2:=e.1) (s1:=s.1) (s2:=s.1) rfl o1
 have a2:=par (e1:=e.1) (e2:=e.2.1) (s1:=s.1) (s2:=s.2.1) cr o2
 have a3:=par (e1:=e.2.1) (e2:=e.1) (s1:=s.2.1) (s2:=s.1) cr.symm o1
 have a4:=par (e1:=e.2.1) (e2:=e.2.1) (s1:=s.2.1) (s2:=s.2.1) rfl o2
 have z1:zBl e.1 e.2.1 * s.1 + zBl s.1 s.2.1 * e.1 = 0:=by
  unfold zBl
  rw [Int.add_mul,Int.add_mul]
  omega
 have z2:zBl e.1 e.2.1 * s.2.1 + zBl s.1 s.2.1 * e.2.1 = 0:=by
  unfold zBl
  rw [Int.add_mul,Int.add_mul]
  omega
 refine ⟨z1,z2,?_⟩
 have up:=zE1 he
 generalize zBl e.1 e.2.1 = u at z1 z2 up ⊢
 generalize zBl s.1 s.2.1 = v at z1 z2 ⊢
 have q:(u * s.2.2 + v * e.2.2) * f.2.2 = (u * s.1 + v * e.1) * f.1 + (u * s.2.1 + v * e.2.1) * f.2.1 - u * sv s f - v * sv e f:=by
  unfold sv
  simp only [Int.mul_sub,Int.mul_add,Int.add_mul,Int.mul_comm,Int.mul_left_comm]
  omega
 rw [z1,z2,h1,Int.zero_mul,Int.zero_mul,Int.mul_zero] at q
 have q2:=Int.mul_pos up h2
 by_cases c:u * s.2.2 + v * e.2.2 < 0
 ·exact c
 ·have:=Int.mul_nonneg (show 0≤u * s.2.2 + v * e.2.2 by omega) (Int.le_of_lt fw)
  omega
structure zTo (ss:List Sd) (j:Nat) (e:Sd) (P:P3):Prop where
 at':ss[j]? = some e
 pos:0 < P.2.2
 ahead:inW (ss.take j) P
 out:0 < sv e.2 P
 no:∀ z:P3,sv e.2 z = 0→0 < z.2.2→¬ inW (ss.take j) z
theorem zTo.none {ss:List Sd} {j:Nat} {e:Sd} {P:P3} (S:zTo ss j e P) (z:P3) (zw:0 < z.2.2):¬ inW ss z:=fun wz=>by
 obtain ⟨m,m1,m2,m3⟩:=zQz S.ahead (fun u hu=>wz u (List.mem_of_mem_take hu)) S.pos zw S.out (wz e (List.mem_of_getElem? S.at'))
 exact S.no m m1 m2 m3
theorem zL0 {e p f s:P3} (hN:0 < e.1 * e.1 + e.2.1 * e.2.1) (hp:sv e p = 0) (hf:sv e f = 0) (pw:0 < p.2.2) (fw:0 < f.2.2) (ht:tn e s = 0) (hs:sv s f≤0):sv s p≤0:=by
 refine zPt (h:=1) (by decide) hN hp hf pw fw s ?_ hs
 rw [ht,Int.zero_mul,Int.mul_zero]
 exact Int.le_refl _
theorem zIp {x h:Int} : x * -h = -(x * h):=Int.mul_neg _ _
theorem zOe {ss:List Sd} {e f:P3} {h:Int} (hh:h * h = 1) (hN:0 < e.1 * e.1 + e.2.1 * e.2.1) (hf:sv e f = 0) (fw:0 < f.2.2) (no:∀ z:P3,sv e z = 0→0 < z.2.2→¬ inW ss z) (bes:∀ t∈ss,tn e t.2 = 0→sv t.2 f≤0) {r:Option Nat} (n:zId ss e h none) (o:zId ss e (-h) r):False:=by
 cases r with
 | none =>
  refine no f hf fw fun t ht=>bes t ht ?_
  have a:=n t ht
  have b:=o t ht
  rw [zIp] at b
  have z:tn e t.2 * h = 0:=by omega
  rcases Int.mul_eq_zero.mp z with z | z
  ·exact z
  ·rw [z] at hh
   exact absurd hh (by decide)
 | some j =>
  obtain ⟨t,gt,hp,ha⟩:=o
  obtain ⟨sp,c1,c2⟩:=zEv (zB2 hp)
  refine no _ c1 sp.pos fun u hu=>?_
  by_cases c:0 < tn e u.2 * -h
  ·exact ha u hu c
  ·have a:=n u hu
   rw [zIp] at c
   have z:tn e u.2 * h = 0:=by omega
   rcases Int.mul_eq_zero.mp z with z | z
   ·exact zL0 hN c1 hf sp.pos fw z (bes u hu z)
   ·rw [z] at hh
    exact absurd hh (by decide)
theorem three {ss:List Sd} {e f P:P3} {a b:Sd} {h:Int} (hh:h * h = 1) (hN:0 < e.1 * e.1 + e.2.1 * e.2.1) (hf:sv e f = 0) (fw:0 < f.2.2) (no:∀ z:P3,sv e z = 0→0 < z.2.2→¬ inW ss z) (bes:∀ t∈ss,tn e t.2 = 0→sv t.2 f≤0)
  (ma:a∈ss) (mb:b∈ss) (ha:0 < tn e a.2 * h) (hb:0 < tn e b.2 * -h) (ta:∀ u∈ss,0 < tn e u.2 * h→sv u.2 (pt3 (crL e a.2))≤0) (tb:∀ u∈ss,0 < tn e u.2 * -h→sv u.2 (pt3 (crL e b.2))≤0)
  (pw:0 < P.2.2) (wP:inW ss P) (oP:0 < sv e P) :
  0 < tn b.2 e * h∧0 < tn e a.2 * h∧0 < tn a.2 b.2 * h∧(tn b.2 e * a.2.2.2 + tn e a.2 * b.2.2.2 + tn a.2 b.2 * e.2.2) * h < 0:=by
 obtain ⟨sa,a1,a2⟩:=zEv (zB2 ha)
 obtain ⟨sb,b1,b2⟩:=zEv (zB2 hb)
 have hh' : -h * -h = 1:=by rw [Int.neg_mul_neg]; exact hh
 have outb:0 < sv b.2 (pt3 (crL e a.2)):=by
  by_cases c:0 < sv b.2 (pt3 (crL e a.2))
  ·exact c
  ·refine absurd ?_ (no _ a1 sa.pos)
   have d:=dl_ge hh' hN b1 a1 sb.pos b2 (show sv b.2 (pt3 (crL e a.2))≤0 by omega) hb
   intro u hu
   by_cases c1:0 < tn e u.2 * h
   ·exact ta u hu c1
   ·by_cases c2:0 < tn e u.2 * -h
    ·refine zPt hh' hN a1 b1 sa.pos sb.pos u.2 ?_ (tb u hu c2)
     rw [zU4,Int.neg_mul] 
     have:=Int.mul_nonneg d (Int.le_of_lt c2)
     rw [Int.neg_mul]
     omega
    ·rw [zIp] at c2
     have z:tn e u.2 * h = 0:=by omega
     rcases Int.mul_eq_zero.mp z with z | z
     ·exact zL0 hN a1 hf sa.pos fw z (bes u hu z)
     ·rw [z] at hh
      exact absurd hh (by decide)
 have A:0 < tn b.2 e * h:=by
  rw [zIp] at hb
  have z:tn b.2 e = -tn e b.2:=by unfold tn; rw [Int.mul_comm b.2.1,Int.mul_comm b.2.2.1]; omega
  rw [z,Int.neg_mul]
  omega
 have S:∀ z:P3,tn b.2 e * sv a.2 z + tn e a.2 * sv b.2 z + tn a.2 b.2 * sv e z = -((tn b.2 e * a.2.2.2 + tn e a.2 * b.2.2.2 + tn a.2 b.2 * e.2.2) * z.2.2):=fun z=>by
  unfold tn sv
  simp only [Int.mul_sub,Int.sub_mul,Int.mul_add,Int.add_mul,Int.mul_comm,Int.mul_left_comm]
  omega
 have k1:=S (pt3 (crL e a.2))
 rw [a1,a2,Int.mul_zero,Int.mul_zero,Int.zero_add,Int.add_zero] at k1
 have k2:=S P
 generalize tn b.2 e * a.2.2.2 + tn e a.2 * b.2.2.2 + tn a.2 b.2 * e.2.2 = M at k1 k2 ⊢
 have m1:M * h < 0:=by
  have p:=Int.mul_pos ha outb
  have e1:tn e a.2 * h * sv b.2 (pt3 (crL e a.2)) = -(M * h * (pt3 (crL e a.2)).2.2):=by
   rw [Int.mul_right_comm,k1,Int.neg_mul,Int.mul_right_comm]
  rw [e1] at p
  by_cases c:M * h < 0
  ·exact c
  ·have:=Int.mul_nonneg (show 0≤M * h by omega) (Int.le_of_lt sa.pos)
   omega
 refine ⟨A,ha,?_,m1⟩
 have e2:tn b.2 e * h * sv a.2 P + tn e a.2 * h * sv b.2 P + tn a.2 b.2 * h * sv e P = -(M * h * P.2.2):=by
  have z:(tn b.2 e * sv a.2 P + tn e a.2 * sv b.2 P + tn a.2 b.2 * sv e P) * h = -(M * P.2.2) * h:=by rw [k2]
  rw [Int.neg_mul,Int.mul_right_comm M] at z
  rw [← z,Int.add_mul,Int.add_mul,Int.mul_right_comm,Int.mul_right_comm (tn e a.2),Int.mul_right_comm (tn a.2 b.2)]
 have x1:=Int.mul_nonneg (Int.le_of_lt A) (show 0≤-sv a.2 P by have:=wP a ma; omega)
 have x2:=Int.mul_nonneg (Int.le_of_lt ha) (show 0≤-sv b.2 P by have:=wP b mb; omega)
 have x3:=Int.mul_pos (show 0 < -(M * h) by omega) pw
 rw [Int.mul_neg] at x1 x2
 rw [Int.neg_mul] at x3
 by_cases c:0 < tn a.2 b.2 * h
 ·exact c
 ·have:=Int.mul_nonneg (show 0≤-(tn a.2 b.2 * h) by omega) (Int.le_of_lt oP)
  rw [Int.neg_mul] at this
  omega
theorem zB4 {x h:Int} (hh:h = 1∨h = -1) (hx:0 < x * h):absI x = x * h:=by
 unfold absI
 rcases hh with rfl | rfl
 ·rw [if_neg (by omega)]
  omega
 ·rw [if_pos (by omega)]
  omega
theorem zPk (a b e:P3):tn b e * a.1 + tn e a * b.1 + tn a b * e.1 = 0∧tn b e * a.2.1 + tn e a * b.2.1 + tn a b * e.2.1 = 0:=by
 unfold tn
 constructor
 ·simp only [Int.sub_mul,Int.mul_sub,Int.mul_comm,Int.mul_left_comm]
  omega
 ·simp only [Int.sub_mul,Int.mul_sub,Int.mul_comm,Int.mul_left_comm]
  omega
def zLc (ss:List Sd) (cs:List (Int × Int)):Prop :=
 (∃ (i j:Nat) (u v:Int) (s t:Sd),cs = [((i:Int),u),((j:Int),v)]∧i < j∧ss[i]? = some s∧ss[j]? = some t∧0 < u∧0 < v∧u≤10 ^ 19∧v≤10 ^ 19 ∧
  u * s.2.1 + v * t.2.1 = 0∧u * s.2.2.1 + v * t.2.2.1 = 0∧u * s.2.2.2 + v * t.2.2.2 < 0) ∨
 ∃ (i j k:Nat) (u v x:Int) (s t r:Sd),cs = [((i:Int),u),((j:Int),v),((k:Int),x)]∧i < j∧j < k∧ss[i]? = some s∧ss[j]? = some t∧ss[k]? = some r∧0 < u∧0 < v∧0 < x∧u≤10 ^ 19∧v≤10 ^ 19∧x≤10 ^ 19 ∧
  u * s.2.1 + v * t.2.1 + x * r.2.1 = 0∧u * s.2.2.1 + v * t.2.2.1 + x * r.2.2.1 = 0∧u * s.2.2.2 + v * t.2.2.2 + x * r.2.2.2 < 0
theorem z_of {x g:Int} (hg:0 < g) (h:x * g = 0):x = 0:=by
 rcases Int.mul_eq_zero.mp h with z | z
 ·exact z
 ·omega
theorem n_of {x g:Int} (hg:0 < g) (h:x * g < 0):x < 0:=by
 by_cases c:x < 0
 ·exact c
 ·have:=Int.mul_nonneg (show 0≤x by omega) (Int.le_of_lt hg)
  omega
theorem zT2 {ws:List Int} {n:Int} (h:n∈ws) (h0:0 < n) (hb:n≤10 ^ 30):0 < gcdL ws∧(gcdL ws:Int) < 10 ^ 600:=by
 refine ⟨zCf h (by omega),?_⟩
 have h1:=zGv h (show n≠0 by omega)
 exact Int.lt_of_le_of_lt (show (gcdL ws:Int)≤10 ^ 30 by omega) (by decide +kernel)
theorem zJz {ws:List Int} {n:Int} (h:n∈ws) (h0:0 < n):0 < n / (gcdL ws:Int)∧n / (gcdL ws:Int)≤n:=by
 have gp:=zCf h (show n≠0 by omega)
 have e:=zBh h
 have p:0 < n / (gcdL ws:Int):=by
  by_cases c:0 < n / (gcdL ws:Int)
  ·exact c
  ·have:=Int.mul_nonneg (show 0≤-(n / (gcdL ws:Int)) by omega) (show (0:Int)≤(gcdL ws:Int) by omega)
   rw [Int.neg_mul] at this
   omega
 refine ⟨p,?_⟩
 have:=Int.mul_le_mul_of_nonneg_left (show (1:Int)≤(gcdL ws:Int) by omega) (Int.le_of_lt p)
 omega
theorem zR8 {ss:List Sd} {i j:Nat} {s t:Sd} {U V:Int} (hij:i < j) (gs:ss[i]? = some s) (gt:ss[j]? = some t) (hU:0 < U) (hV:0 < V) (bU:U≤10 ^ 19) (bV:V≤10 ^ 19)
  (z1:U * s.2.1 + V * t.2.1 = 0) (z2:U * s.2.2.1 + V * t.2.2.1 = 0) (z3:U * s.2.2.2 + V * t.2.2.2 < 0):zLc ss ([(i:Int),(j:Int)].zip (lowL [U,V])):=by
 have mU:U∈[U,V]:=by simp
 have mV:V∈[U,V]:=by simp
 have gp:(0:Int) < (gcdL [U,V]:Int):=by have:=zCf mU (show U≠0 by omega); omega
 have pU:=zJz mU hU
 have pV:=zJz mV hV
 have eU:=zBh mU
 have eV:=zBh mV
 have sum:∀ a b:Int,(U / (gcdL [U,V]:Int) * a + V / (gcdL [U,V]:Int) * b) * (gcdL [U,V]:Int) = U * a + V * b:=fun a b=>by
  rw [Int.add_mul,Int.mul_right_comm,eU,Int.mul_right_comm,eV]
 refine .inl ⟨i,j,U / (gcdL [U,V]:Int),V / (gcdL [U,V]:Int),s,t,rfl,hij,gs,gt,pU.1,pV.1,Int.le_trans pU.2 bU,Int.le_trans pV.2 bV,?_,?_,?_⟩
 ·exact z_of gp (by rw [sum]; exact z1)
 ·exact z_of gp (by rw [sum]; exact z2)
 ·exact n_of gp (by rw [sum]; exact z3)
theorem zNf {ss:List Sd} {i j k:Nat} {s t r:Sd} {U V X:Int} (hij:i < j) (hjk:j < k) (gs:ss[i]? = some s) (gt:ss[j]? = some t) (gr:ss[k]? = some r) (hU:0 < U) (hV:0 < V) (hX:0 < X) (bU:U≤10 ^ 19) (bV:V≤10 ^ 19) (bX:X≤10 ^ 19)
  (z1:U * s.2.1 + V * t.2.1 + X * r.2.1 = 0) (z2:U * s.2.2.1 + V * t.2.2.1 + X * r.2.2.1 = 0) (z3:U * s.2.2.2 + V * t.2.2.2 + X * r.2.2.2 < 0):zLc ss ([(i:Int),(j:Int),(k:Int)].zip (lowL [U,V,X])):=by
 have mU:U∈[U,V,X]:=by simp
 have mV:V∈[U,V,X]:=by simp
 have mX:X∈[U,V,X]:=by simp
 have gp:(0:Int) < (gcdL [U,V,X]:Int):=by have:=zCf mU (show U≠0 by omega); omega
 have pU:=zJz mU hU
 have pV:=zJz mV hV
 have pX:=zJz mX hX
 have eU:=zBh mU
 have eV:=zBh mV
 have eX:=zBh mX
 have sum:∀ a b c:Int,(U / (gcdL [U,V,X]:Int) * a + V / (gcdL [U,V,X]:Int) * b + X / (gcdL [U,V,X]:Int) * c) * (gcdL [U,V,X]:Int) = U * a + V * b + X * c:=fun a b c=>by
  rw [Int.add_mul,Int.add_mul,Int.mul_right_comm,eU,Int.mul_right_comm,eV,Int.mul_right_comm,eX]
 refine .inr ⟨i,j,k,U / (gcdL [U,V,X]:Int),V / (gcdL [U,V,X]:Int),X / (gcdL [U,V,X]:Int),s,t,r,rfl,hij,hjk,gs,gt,gr,pU.1,pV.1,pX.1,Int.le_trans pU.2 bU,Int.le_trans pV.2 bV,Int.le_trans pX.2 bX,?_,?_,?_⟩
 ·exact z_of gp (by rw [sum]; exact z1)
 ·exact z_of gp (by rw [sum]; exact z2)
 ·exact n_of gp (by rw [sum]; exact z3)
def goB (ss:List Sd):List (Int × Int)→Int→P3→Bool
 | [],_,T=>decide ([T.1,T.2.1] = [0,0]) && decide (T.2.2 < 0)
 | c :: cs,last,T=>if last < c.1∧c.1 < ss.length∧1≤c.2 then
   match ss[c.1.toNat]? with
   | some t=>goB ss cs c.1 (T.1 + c.2 * t.2.1,T.2.1 + c.2 * t.2.2.1,T.2.2 + c.2 * t.2.2.2)
   | none=>false
  else false
def zF7 (ss:List Sd) (cs:List (Int × Int)):Bool:=decide (2≤cs.length) && (decide (cs.length≤3) && goB ss cs (-1) (0,0,0))
theorem zFe {ss:List Sd} {n w last:Int} {t:Sd} {T:P3} {cs:List (Int × Int)} (h1:last < n) (h2:n < ss.length) (h3:1≤w) (g:ss[n.toNat]? = some t):goB ss ((n,w) :: cs) last T = goB ss cs n (T.1 + w * t.2.1,T.2.1 + w * t.2.2.1,T.2.2 + w * t.2.2.2):=by
 rw [goB,if_pos ⟨h1,h2,h3⟩]
 show (match ss[n.toNat]? with | some t=>goB ss cs n (T.1 + w * t.2.1,T.2.1 + w * t.2.2.1,T.2.2 + w * t.2.2.2) | none=>false) = _
 rw [g]
theorem zTy {ss:List Sd} {n w last:Int} {T:P3} {cs:List (Int × Int)} (h:¬ (last < n∧n < ss.length∧1≤w)):goB ss ((n,w) :: cs) last T = false:=by
 rw [goB,if_neg h]
theorem zLc.b {ss:List Sd} {cs:List (Int × Int)} (h:zLc ss cs):zF7 ss cs = true:=by
 rcases h with ⟨i,j,u,v,s,t,rfl,hij,gs,gt,hu,hv,_,_,z1,z2,z3⟩ | ⟨i,j,k,u,v,x,s,t,r,rfl,hij,hjk,gs,gt,gr,hu,hv,hx,_,_,_,z1,z2,z3⟩
 ·have hi:=(List.getElem?_eq_some_iff.mp gs).1
  have hj:=(List.getElem?_eq_some_iff.mp gt).1
  unfold zF7
  rw [zFe (t:=s) (by omega) (by omega) (by omega) (by rw [Int.toNat_natCast]; exact gs),zFe (t:=t) (by omega) (by omega) (by omega) (by rw [Int.toNat_natCast]; exact gt),goB]
  show (decide (2≤2) && (decide (2≤3) && (decide ([0 + u * s.2.1 + v * t.2.1,0 + u * s.2.2.1 + v * t.2.2.1] = [0,0]) && decide (0 + u * s.2.2.2 + v * t.2.2.2 < 0)))) = true
  rw [Int.zero_add,Int.zero_add,Int.zero_add,z1,z2,decide_eq_true z3]
  rfl
 ·have hi:=(List.getElem?_eq_some_iff.mp gs).1
  have hj:=(List.getElem?_eq_some_iff.mp gt).1
  have hk:=(List.getElem?_eq_some_iff.mp gr).1
  unfold zF7
  rw [zFe (t:=s) (by omega) (by omega) (by omega) (by rw [Int.toNat_natCast]; exact gs),zFe (t:=t) (by omega) (by omega) (by omega) (by rw [Int.toNat_natCast]; exact gt),zFe (t:=r) (by omega) (by omega) (by omega) (by rw [Int.toNat_natCast]; exact gr),goB]
  show (decide (2≤3) && (decide (3≤3) && (decide ([0 + u * s.2.1 + v * t.2.1 + x * r.2.1,0 + u * s.2.2.1 + v * t.2.2.1 + x * r.2.2.1] = [0,0]) && decide (0 + u * s.2.2.2 + v * t.2.2.2 + x * r.2.2.2 < 0)))) = true
  rw [Int.zero_add,Int.zero_add,Int.zero_add,z1,z2,decide_eq_true z3]
  rfl
theorem zLc.range {ss:List Sd} {cs:List (Int × Int)} (h:zLc ss cs):(cs.length = 2∨cs.length = 3)∧∀ c∈cs,0≤c.1∧c.1 < ss.length:=by
 rcases h with ⟨i,j,u,v,s,t,rfl,_,gs,gt,_⟩ | ⟨i,j,k,u,v,x,s,t,r,rfl,_,_,gs,gt,gr,_⟩
 ·have h1:=(List.getElem?_eq_some_iff.mp gs).1
  have h2:=(List.getElem?_eq_some_iff.mp gt).1
  refine ⟨.inl rfl,fun c hc=>?_⟩
  simp only [List.mem_cons,List.not_mem_nil,or_false] at hc
  rcases hc with rfl | rfl
  ·exact ⟨by show (0:Int)≤(i:Int); omega,by show (i:Int) < _; omega⟩
  ·exact ⟨by show (0:Int)≤(j:Int); omega,by show (j:Int) < _; omega⟩
 ·have h1:=(List.getElem?_eq_some_iff.mp gs).1
  have h2:=(List.getElem?_eq_some_iff.mp gt).1
  have h3:=(List.getElem?_eq_some_iff.mp gr).1
  refine ⟨.inr rfl,fun c hc=>?_⟩
  simp only [List.mem_cons,List.not_mem_nil,or_false] at hc
  rcases hc with rfl | rfl | rfl
  ·exact ⟨by show (0:Int)≤(i:Int); omega,by show (i:Int) < _; omega⟩
  ·exact ⟨by show (0:Int)≤(j:Int); omega,by show (j:Int) < _; omega⟩
  ·exact ⟨by show (0:Int)≤(k:Int); omega,by show (k:Int) < _; omega⟩
def Cand (ss:List Sd) (P:P3):Prop:=P = (0,0,1)∨(∃ t∈ss,P = pt3 (ftL t.2))∨∃ t∈ss,∃ u∈ss,tn t.2 u.2≠0∧P = pt3 (crL t.2 u.2)
theorem zEw {e:P3} {h:Int} (hh:h * h = 1) (hN:0 < e.1 * e.1 + e.2.1 * e.2.1):∀ ss:List Sd,(∀ t∈ss,tn e t.2 * h≤0)∨∃ t∈ss,0 < tn e t.2 * h∧∀ u∈ss,0 < tn e u.2 * h→sv u.2 (pt3 (crL e t.2))≤0
 | []=>.inl fun _ h=>nomatch h
 | s :: ss=>by
  by_cases hs:0 < tn e s.2 * h
  ·obtain ⟨sp1,r1,r2⟩:=zEv (zB2 hs)
   rcases zEw hh hN ss with n | ⟨t,mt,ht,a⟩
   ·refine .inr ⟨s,List.mem_cons_self ..,hs,fun u hu hp=>?_⟩
    rcases List.mem_cons.mp hu with rfl | hu
    ·exact Int.le_of_eq r2
    ·have:=n u hu
     omega
   ·obtain ⟨sp0,q1,q2⟩:=zEv (zB2 ht)
    by_cases hin:sv s.2 (pt3 (crL e t.2))≤0
    ·refine .inr ⟨t,List.mem_cons_of_mem _ mt,ht,fun u hu hp=>?_⟩
     rcases List.mem_cons.mp hu with rfl | hu
     ·exact hin
     ·exact a u hu hp
    ·have d1:=dl_le hh hN r1 q1 sp1.pos r2 (show 0 < sv s.2 (pt3 (crL e t.2)) by omega) hs
     refine .inr ⟨s,List.mem_cons_self ..,hs,fun u hu hp=>?_⟩
     rcases List.mem_cons.mp hu with rfl | hu
     ·exact Int.le_of_eq r2
     ·refine zPt hh hN r1 q1 sp1.pos sp0.pos u.2 ?_ (a u hu hp)
      have:=Int.mul_nonneg (show 0≤-(dl e (pt3 (crL e s.2)) (pt3 (crL e t.2)) * h) by omega) (Int.le_of_lt hp)
      rw [Int.neg_mul] at this
      omega
  ·rcases zEw hh hN ss with n | ⟨t,mt,ht,a⟩
   ·refine .inl fun u hu=>?_
    rcases List.mem_cons.mp hu with rfl | hu
    ·omega
    ·exact n u hu
   ·refine .inr ⟨t,List.mem_cons_of_mem _ mt,ht,fun u hu hp=>?_⟩
    rcases List.mem_cons.mp hu with rfl | hu
    ·exact absurd hp hs
    ·exact a u hu hp
theorem zMh {ss:List Sd} {e:P3} (he:e.1≠0∨e.2.1≠0) {m:P3} (hm:sv e m = 0) (mw:0 < m.2.2) (wm:inW ss m):∃ P:P3,0 < P.2.2∧inW ss P∧sv e P = 0∧(P = pt3 (ftL e)∨∃ t∈ss,tn e t.2≠0∧P = pt3 (crL e t.2)):=by
 have hN:=zEk he
 obtain ⟨sf,f1⟩:=zR7 he
 have one:∀ h:Int,h * h = 1→(∀ t∈ss,tn e t.2 * h≤0)∨∃ P:P3,0 < P.2.2∧inW ss P∧sv e P = 0∧(P = pt3 (ftL e)∨∃ t∈ss,tn e t.2≠0∧P = pt3 (crL e t.2)):=fun h hh=>by
  rcases zEw hh hN ss with n | ⟨t,mt,ht,a⟩
  ·exact .inl n
  ·obtain ⟨sp,c1,c2⟩:=zEv (zB2 ht)
   obtain ⟨j,gj⟩:=List.getElem?_of_mem mt
   exact .inr ⟨pt3 (crL e t.2),sp.pos,zMa hh hN hm mw wm gj ht a,c1,.inr ⟨t,mt,zB2 ht,rfl⟩⟩
 rcases one 1 (by decide) with n1 | r
 ·rcases one (-1) (by decide) with n2 | r
  ·exact ⟨pt3 (ftL e),sf.pos,zL9 hN hm mw wm f1 sf.pos n1 n2,f1,.inl rfl⟩
  ·exact r
 ·exact r
theorem Cand.cons {ss:List Sd} {P:P3} (s:Sd) (h:Cand ss P):Cand (s :: ss) P:=by
 rcases h with h | ⟨t,ht,h⟩ | ⟨t,ht,u,hu,h⟩
 ·exact .inl h
 ·exact .inr (.inl ⟨t,List.mem_cons_of_mem _ ht,h⟩)
 ·exact .inr (.inr ⟨t,List.mem_cons_of_mem _ ht,u,List.mem_cons_of_mem _ hu,h⟩)
theorem zQu:∀ {ss:List Sd},(∀ t∈ss,t.2.1≠0∨t.2.2.1≠0)→∀ z:P3,0 < z.2.2→inW ss z→∃ P:P3,Cand ss P∧0 < P.2.2∧inW ss P
 | [],_,_,_,_=>⟨(0,0,1),.inl rfl,by decide,fun _ h=>nomatch h⟩
 | s :: ss,hn,z,zw,wz=>by
  obtain ⟨P,cP,pw,wP⟩:=zQu (fun t ht=>hn t (List.mem_cons_of_mem _ ht)) z zw fun t ht=>wz t (List.mem_cons_of_mem _ ht)
  by_cases hin:sv s.2 P≤0
  ·refine ⟨P,cP.cons s,pw,fun t ht=>?_⟩
   rcases List.mem_cons.mp ht with rfl | ht
   ·exact hin
   ·exact wP t ht
  ·obtain ⟨m,m1,m2,m3⟩:=zQz wP (fun t ht=>wz t (List.mem_cons_of_mem _ ht)) pw zw (show 0 < sv s.2 P by omega) (wz s (List.mem_cons_self ..))
   obtain ⟨R,rw',wR,oR,cR⟩:=zMh (hn s (List.mem_cons_self ..)) m1 m2 m3
   refine ⟨R,?_,rw',fun t ht=>?_⟩
   ·rcases cR with h | ⟨t,ht,h1,h2⟩
    ·exact .inr (.inl ⟨s,List.mem_cons_self ..,h⟩)
    ·exact .inr (.inr ⟨s,List.mem_cons_self ..,t,List.mem_cons_of_mem _ ht,h1,h2⟩)
   ·rcases List.mem_cons.mp ht with rfl | ht
    ·exact Int.le_of_eq oR
    ·exact wR t ht
end Sea

namespace L2
open PySem PySem.Spec PyProof.Rows PySem.W
section
variable {X:Cx}
theorem zMo:zH3 X (.builtin "sorted") (fun xs H Q=>∃ (l:Addr) (ns:List Int),xs = [.ref l]∧SqL X.K H l (ns.map V.int)∧ns.length < 64 ∧
  ∀ (p:Addr) (ms:List Int),H p = none→ms.Perm ns→ms.Pairwise (·≤·)→Q (.ref p) (upd H p (.lst (ms.map V.int)))):=by
 intro pins s σ H xs us Q I r h
 obtain ⟨l,ns,rfl,hq,h64,q⟩:=h
 obtain ⟨u,rfl,ru⟩:=Vals.one r
 cases ru
 obtain ⟨its,rv,pl,hz⟩:=I.list hq
 have hn:=rv.length
 rw [List.length_map] at hn
 refine sorted_ints (ns:=ns) pl.isList (zPr rv) (by omega) fun out ms a1 a2 a3=>?_
 obtain ⟨e,at'⟩:=sortedAll_at s.heap its out
 have fr:H (s.heap.objs.size + 1) = none:=I.hok.fresh (Nat.le_succ _)
 refine ⟨.ref (s.heap.objs.size + 1),_,I.laid (t':=s.toks) (a:=s.heap.objs.size + 1) (o:=.lst (ms.map V.int)) (fun b ob q=>sortedAll_old q) (Nat.le_succ _) ?_,rfl,q _ ms fr a2 a3⟩
 refine ⟨?_,out.toList,e,zI5 a1,by simpa using at'⟩
 rw [List.length_map,a2.length_eq]
 exact Nat.le_trans (Nat.le_of_lt h64) (by rw [sizeLine_eq]; decide)
end
theorem zQp {ns:List Int} {i:Nat} {k:Int} (e:k = i) (h:i < ns.length):∃ n,ns[i]? = some n∧atI (ns.map V.int) k = some (.int n):=by
 refine ⟨ns[i],List.getElem?_eq_getElem h,?_⟩
 rw [e]
 exact zK0 (by rw [List.getElem?_map,List.getElem?_eq_getElem h] <;> rfl)
theorem zPj {a b:Int} {ms:List Int} (h:ms.Perm [a,b]) (s:ms.Pairwise (·≤·)):(ms = [a,b]∧a≤b)∨(ms = [b,a]∧b≤a):=by
 match ms,h,s,h.length_eq with
 | [c,d],h,s,_ =>
  have le:c≤d:=by simpa using s
  have mc:c∈[a,b]:=h.mem_iff.mp (List.mem_cons_self ..)
  rw [List.mem_cons,List.mem_singleton] at mc
  rcases mc with rfl | rfl
  ·have z:=List.perm_cons c |>.mp h
   have e:=List.perm_singleton.mp z
   cases e
   exact .inl ⟨rfl,le⟩
  ·have z:=List.perm_cons c |>.mp (h.trans (List.Perm.swap c a []))
   have e:=List.perm_singleton.mp z
   cases e
   exact .inr ⟨rfl,le⟩
theorem zG5 (K:PySem.W.Frag):PySem.W.kitOne K (.type "list") (.type "list") = some true:=rfl
def PrAt (H:Hp) (cs:List Pr):Prop:=∀ t∈cs,H t.1 = some (.tup [.int t.2.1,.int t.2.2])
theorem PrAt.same {H H':Hp} {cs:List Pr} (h:PrAt H cs) (s:Same H H'):PrAt H' cs:=fun t ht=>s _ _ (h t ht)
end L2

namespace Sea
open PySem L2
theorem flat {a b x y u v:Int} (hn:a≠0∨b≠0) (h1:a * x + b * y = 0) (h2:a * u + b * v = 0):x * v - y * u = 0:=by
 have e1:a * (x * v - y * u) = (a * x + b * y) * v - (a * u + b * v) * y:=by
  simp only [Int.mul_sub,Int.add_mul,Int.mul_add,Int.mul_comm,Int.mul_left_comm]
  omega
 have e2:b * (x * v - y * u) = (a * u + b * v) * x - (a * x + b * y) * u:=by
  simp only [Int.mul_sub,Int.add_mul,Int.mul_add,Int.mul_comm,Int.mul_left_comm]
  omega
 rw [h1,h2,Int.zero_mul,Int.zero_mul,Int.sub_self] at e1 e2
 rcases hn with h | h
 ·exact (Int.mul_eq_zero.mp e1).resolve_left h
 ·exact (Int.mul_eq_zero.mp e2).resolve_left h
theorem zTb {x y u v:Int} (h1:Nat.gcd x.natAbs y.natAbs = 1) (h2:Nat.gcd u.natAbs v.natAbs = 1) (h:x * v - y * u = 0) (hp:0 < x * u + y * v):x = u∧y = v:=by
 have e:x.natAbs * v.natAbs = y.natAbs * u.natAbs:=by
  rw [← Int.natAbs_mul,← Int.natAbs_mul]
  congr 1
  omega
 have d1:x.natAbs ∣ u.natAbs:=Nat.Coprime.dvd_of_dvd_mul_left (m:=y.natAbs) h1 (by rw [← e]; exact Nat.dvd_mul_right _ _)
 have d2:u.natAbs ∣ x.natAbs:=Nat.Coprime.dvd_of_dvd_mul_right (n:=v.natAbs) h2 (by rw [e]; exact Nat.dvd_mul_left _ _)
 have h1':Nat.gcd y.natAbs x.natAbs = 1:=by rw [Nat.gcd_comm]; exact h1
 have h2':Nat.gcd v.natAbs u.natAbs = 1:=by rw [Nat.gcd_comm]; exact h2
 have d3:y.natAbs ∣ v.natAbs:=Nat.Coprime.dvd_of_dvd_mul_left (m:=x.natAbs) h1' (by rw [e]; exact Nat.dvd_mul_right _ _)
 have d4:v.natAbs ∣ y.natAbs:=Nat.Coprime.dvd_of_dvd_mul_right (n:=u.natAbs) h2' (by rw [← e]; exact Nat.dvd_mul_left _ _)
 have ex:=Nat.dvd_antisymm d1 d2
 have ey:=Nat.dvd_antisymm d3 d4
 have sx:x = u∨x = -u:=by omega
 have sy:y = v∨y = -v:=by omega
 have q1:0≤u * u:=by
  by_cases c:0≤u
  ·exact Int.mul_nonneg c c
  ·exact Int.le_of_lt (Int.mul_pos_of_neg_of_neg (by omega) (by omega))
 have q2:0≤v * v:=by
  by_cases c:0≤v
  ·exact Int.mul_nonneg c c
  ·exact Int.le_of_lt (Int.mul_pos_of_neg_of_neg (by omega) (by omega))
 rcases sx with rfl | rfl
 ·rcases sy with rfl | rfl
  ·exact ⟨rfl,rfl⟩
  ·rw [Int.neg_mul,Int.mul_comm v] at h
   have z:x * v = 0:=by omega
   rcases Int.mul_eq_zero.mp z with z | z
   ·rw [z,Int.zero_mul,Int.neg_mul] at hp
    omega
   ·rw [z]
    exact ⟨rfl,rfl⟩
 ·rcases sy with rfl | rfl
  ·rw [Int.neg_mul,Int.mul_comm y] at h
   have z:u * y = 0:=by omega
   rcases Int.mul_eq_zero.mp z with z | z
   ·rw [z]
    exact ⟨rfl,rfl⟩
   ·rw [z,Int.zero_mul,Int.neg_mul] at hp
    omega
  ·rw [Int.neg_mul,Int.neg_mul] at hp
   omega
structure zC3 (ss:List Sd) (x y:Int):Prop where
 low:Nat.gcd x.natAbs y.natAbs = 1
 way:∀ t∈ss,t.2.1 * x + t.2.2.1 * y≤0
 edge:∃ t∈ss,(t.2.1≠0∨t.2.2.1≠0)∧t.2.1 * x + t.2.2.1 * y = 0
theorem zJg {a b p q:Int} (h:a * p + b * q = 0) (hp:p≤0) (hq:q≤0) (hab:0 < a * b):p = 0∧q = 0:=by
 have ha:a≠0:=fun z=>by rw [z,Int.zero_mul] at hab; omega
 have hb:b≠0:=fun z=>by rw [z,Int.mul_zero] at hab; omega
 by_cases c:0 < a
 ·have cb:0 < b:=by
   by_cases d:0 < b
   ·exact d
   ·have:=Int.mul_neg_of_pos_of_neg c (show b < 0 by omega)
    omega
  have z1:=Int.mul_nonneg (Int.le_of_lt c) (show 0≤-p by omega)
  have z2:=Int.mul_nonneg (Int.le_of_lt cb) (show 0≤-q by omega)
  rw [Int.mul_neg] at z1 z2
  exact ⟨(Int.mul_eq_zero.mp (show a * p = 0 by omega)).resolve_left ha,(Int.mul_eq_zero.mp (show b * q = 0 by omega)).resolve_left hb⟩
 ·have cb:b < 0:=by
   by_cases d:b < 0
   ·exact d
   ·have:=Int.mul_neg_of_neg_of_pos (show a < 0 by omega) (show 0 < b by omega)
    omega
  have z1:=Int.mul_nonneg (show 0≤-a by omega) (show 0≤-p by omega)
  have z2:=Int.mul_nonneg (show 0≤-b by omega) (show 0≤-q by omega)
  rw [Int.neg_mul_neg] at z1 z2
  exact ⟨(Int.mul_eq_zero.mp (show a * p = 0 by omega)).resolve_left ha,(Int.mul_eq_zero.mp (show b * q = 0 by omega)).resolve_left hb⟩
theorem rel3 (a b x1 y1 x2 y2 x3 y3:Int):(x2 * y3 - y2 * x3) * (a * x1 + b * y1) + (x3 * y1 - y3 * x1) * (a * x2 + b * y2) + (x1 * y2 - y1 * x2) * (a * x3 + b * y3) = 0:=by
 simp only [Int.mul_sub,Int.sub_mul,Int.add_mul,Int.mul_add,Int.mul_comm,Int.mul_left_comm]
 omega
theorem zN7 {x y:Int} (h:Nat.gcd x.natAbs y.natAbs = 1):x≠0∨y≠0:=by
 by_cases c:x = 0
 ·right
  intro z
  rw [c,z] at h
  exact absurd h (by decide)
 ·exact .inl c
theorem zC3.contra {ss:List Sd} {x1 y1 x2 y2 x3 y3:Int} (w1:zC3 ss x1 y1) (w2:zC3 ss x2 y2) (w3:zC3 ss x3 y3) (h:x1 * y2 - y1 * x2 = 0) (hn:x1 * x2 + y1 * y2 < 0):x1 * y3 - y1 * x3 = 0:=by
 obtain ⟨t,mt,nt,et⟩:=w3.edge
 have p1:=w1.way t mt
 have p2:=w2.way t mt
 have hN:=zL1 (zN7 w1.low)
 have e:(x1 * x1 + y1 * y1) * (t.2.1 * x2 + t.2.2.1 * y2) = (x1 * x2 + y1 * y2) * (t.2.1 * x1 + t.2.2.1 * y1) + (x1 * y2 - y1 * x2) * (t.2.2.1 * x1 - t.2.1 * y1):=by
  simp only [Int.mul_sub,Int.sub_mul,Int.add_mul,Int.mul_add,Int.mul_comm,Int.mul_left_comm]
  omega
 rw [h,Int.zero_mul,Int.add_zero] at e
 have z1:=Int.mul_nonneg (show 0≤x1 * x1 + y1 * y1 by omega) (show 0≤-(t.2.1 * x2 + t.2.2.1 * y2) by omega)
 have z2:=Int.mul_nonneg (show 0≤-(x1 * x2 + y1 * y2) by omega) (show 0≤-(t.2.1 * x1 + t.2.2.1 * y1) by omega)
 rw [Int.mul_neg] at z1
 rw [Int.neg_mul_neg] at z2
 have z:t.2.1 * x1 + t.2.2.1 * y1 = 0:=(Int.mul_eq_zero.mp (show (x1 * x2 + y1 * y2) * (t.2.1 * x1 + t.2.2.1 * y1) = 0 by omega)).resolve_left (by omega)
 exact flat nt z et
theorem dot_ne {x y u v:Int} (h:x * v - y * u = 0) (n1:x≠0∨y≠0) (n2:u≠0∨v≠0):x * u + y * v≠0:=fun z=>by
 have e:(x * x + y * y) * (u * u + v * v) = (x * u + y * v) * (x * u + y * v) + (x * v - y * u) * (x * v - y * u):=by
  simp only [Int.mul_sub,Int.sub_mul,Int.add_mul,Int.mul_add,Int.mul_comm,Int.mul_left_comm]
  omega
 rw [h,z,Int.zero_mul,Int.add_zero] at e
 have q1:=zL1 n1
 have q2:=zL1 n2
 have:=Int.mul_pos (show 0 < x * x + y * y by omega) (show 0 < u * u + v * v by omega)
 omega
theorem zC3.same {ss:List Sd} {x1 y1 x2 y2:Int} (w1:zC3 ss x1 y1) (w2:zC3 ss x2 y2) (d:¬ (x1 = x2∧y1 = y2)) (h:x1 * y2 - y1 * x2 = 0):x1 * x2 + y1 * y2 < 0:=by
 have:=dot_ne h (zN7 w1.low) (zN7 w2.low)
 by_cases c:0 < x1 * x2 + y1 * y2
 ·exact absurd (zTb w1.low w2.low h c) d
 ·omega
theorem zPg {ss:List Sd} {x1 y1 x2 y2 x3 y3:Int} (w1:zC3 ss x1 y1) (w2:zC3 ss x2 y2) (w3:zC3 ss x3 y3) (d12:¬ (x1 = x2∧y1 = y2)) (d13:¬ (x1 = x3∧y1 = y3)) (d23:¬ (x2 = x3∧y2 = y3)):False:=by
 have par:∀ {x1 y1 x2 y2 x3 y3:Int},zC3 ss x1 y1→zC3 ss x2 y2→zC3 ss x3 y3→¬ (x1 = x2∧y1 = y2)→¬ (x1 = x3∧y1 = y3)→¬ (x2 = x3∧y2 = y3)→x1 * y2 - y1 * x2≠0:=fun {x1 y1 x2 y2 x3 y3} w1 w2 w3 d12 d13 d23 h=>by
  have n12:=w1.same w2 d12 h
  have h13:=w1.contra w2 w3 h n12
  have n13:=w1.same w3 d13 h13
  have hN:=zL1 (zN7 w1.low)
  have e:(x1 * x1 + y1 * y1) * (x2 * x3 + y2 * y3) = (x1 * x2 + y1 * y2) * (x1 * x3 + y1 * y3) + (x1 * y2 - y1 * x2) * (x1 * y3 - y1 * x3):=by
   simp only [Int.mul_sub,Int.sub_mul,Int.add_mul,Int.mul_add,Int.mul_comm,Int.mul_left_comm]
   omega
  have e2:(x1 * x1 + y1 * y1) * (x2 * y3 - y2 * x3) = (x1 * x2 + y1 * y2) * (x1 * y3 - y1 * x3) - (x1 * y2 - y1 * x2) * (x1 * x3 + y1 * y3):=by
   simp only [Int.mul_sub,Int.sub_mul,Int.add_mul,Int.mul_add,Int.mul_comm,Int.mul_left_comm]
   omega
  rw [h,h13,Int.zero_mul,Int.add_zero] at e
  rw [h,h13,Int.zero_mul,Int.mul_zero,Int.sub_self] at e2
  have z:=(Int.mul_eq_zero.mp e2).resolve_left (by omega)
  have n23:=w2.same w3 d23 z
  have p:=Int.mul_pos_of_neg_of_neg n12 n13
  have q:=Int.mul_neg_of_pos_of_neg (show 0 < x1 * x1 + y1 * y1 by omega) n23
  omega
 have sw:∀ x y u v:Int,x * v - y * u = -(u * y - v * x):=fun x y u v=>by rw [Int.mul_comm u,Int.mul_comm v]; omega
 have a0:x2 * y3 - y2 * x3≠0:=par w2 w3 w1 d23 (fun z=>d12 ⟨z.1.symm,z.2.symm⟩) (fun z=>d13 ⟨z.1.symm,z.2.symm⟩)
 have b0:x3 * y1 - y3 * x1≠0:=par w3 w1 w2 (fun z=>d13 ⟨z.1.symm,z.2.symm⟩) (fun z=>d23 ⟨z.1.symm,z.2.symm⟩) d12
 have c0:x1 * y2 - y1 * x2≠0:=par w1 w2 w3 d12 d13 d23
 obtain ⟨t1,m1,n1,e1⟩:=w1.edge
 obtain ⟨t2,m2,n2,e2⟩:=w2.edge
 obtain ⟨t3,m3,n3,e3⟩:=w3.edge
 have r1:=rel3 t1.2.1 t1.2.2.1 x1 y1 x2 y2 x3 y3
 have r2:=rel3 t2.2.1 t2.2.2.1 x1 y1 x2 y2 x3 y3
 have r3:=rel3 t3.2.1 t3.2.2.1 x1 y1 x2 y2 x3 y3
 rw [e1,Int.mul_zero,Int.zero_add] at r1
 rw [e2,Int.mul_zero,Int.add_zero] at r2
 rw [e3,Int.mul_zero,Int.add_zero] at r3
 have k1:¬ 0 < (x3 * y1 - y3 * x1) * (x1 * y2 - y1 * x2):=fun p=>by
  have z:=zJg r1 (w2.way t1 m1) (w3.way t1 m1) p
  exact c0 (flat n1 e1 z.1)
 have k2:¬ 0 < (x2 * y3 - y2 * x3) * (x1 * y2 - y1 * x2):=fun p=>by
  have z:=zJg r2 (w1.way t2 m2) (w3.way t2 m2) p
  exact c0 (flat n2 z.1 e2)
 have k3:¬ 0 < (x2 * y3 - y2 * x3) * (x3 * y1 - y3 * x1):=fun p=>by
  have z:=zJg r3 (w1.way t3 m3) (w2.way t3 m3) p
  exact c0 (flat n3 z.1 z.2)
 generalize x2 * y3 - y2 * x3 = a at *
 generalize x3 * y1 - y3 * x1 = b at *
 generalize x1 * y2 - y1 * x2 = c at *
 have sg:∀ {p q:Int},p≠0→q≠0→¬ 0 < p * q→(0 < p∧q < 0)∨(p < 0∧0 < q):=fun {p q} hp hq h=>by
  by_cases cp:0 < p
  ·by_cases cq:0 < q
   ·exact absurd (Int.mul_pos cp cq) h
   ·exact .inl ⟨cp,by omega⟩
  ·by_cases cq:0 < q
   ·exact .inr ⟨by omega,cq⟩
   ·exact absurd (Int.mul_pos_of_neg_of_neg (by omega) (by omega)) h
 have s1:=sg b0 c0 k1
 have s2:=sg a0 c0 k2
 have s3:=sg a0 b0 k3
 omega
theorem WK.dir {ss:List Sd} {n:Nat} {k:List Int} (hn:∀ t∈ss,t.2.1≠0∨t.2.2.1≠0) (h:WK ss n k):∃ x y:Int,k = [x,y]∧zC3 ss x y:=by
 obtain ⟨j,t,_,gt,h⟩:=h
 have mt:=List.mem_of_getElem? gt
 have nt:=hn t mt
 have one:∀ X Y:Int,(X≠0∨Y≠0)→t.2.1 * X + t.2.2.1 * Y = 0→k = lowL [X,Y]→wayB ss X Y = true→∃ x y:Int,k = [x,y]∧zC3 ss x y:=fun X Y nXY e ek hw=>by
  obtain ⟨x,y,exy,gp,_,low,_⟩:=zJv nXY
  have ex:x = X / (gcdL [X,Y]:Int)∧y = Y / (gcdL [X,Y]:Int):=by
   have z:[X / (gcdL [X,Y]:Int),Y / (gcdL [X,Y]:Int)] = [x,y]:=exy
   cases z
   exact ⟨rfl,rfl⟩
  refine ⟨x,y,ek.trans exy,low,fun u hu=>?_,t,mt,nt,?_⟩
  ·have z:=zM9 (ss:=ss) gp
   rw [hw,← ex.1,← ex.2] at z
   exact of_decide_eq_true (List.all_eq_true.mp z u hu)
  ·have g0:(0:Int) < (gcdL [X,Y]:Int):=by omega
   have eX:=zBh (ns:=[X,Y]) (n:=X) (by simp)
   have eY:=zBh (ns:=[X,Y]) (n:=Y) (by simp)
   rw [← ex.1] at eX
   rw [← ex.2] at eY
   have z:(t.2.1 * x + t.2.2.1 * y) * (gcdL [X,Y]:Int) = 0:=by
    rw [Int.add_mul,Int.mul_assoc,Int.mul_assoc,eX,eY]
    exact e
   rcases Int.mul_eq_zero.mp z with z | z
   ·exact z
   ·omega
 rcases h with ⟨e,hw⟩ | ⟨e,hw⟩
 ·exact one _ _ (by omega) (by rw [Int.mul_neg,Int.mul_comm t.2.2.1]; omega) e hw
 ·exact one _ _ (by omega) (by rw [Int.mul_neg,Int.mul_comm t.2.2.1]; omega) e hw
theorem zTe {ss:List Sd} {n:Nat} {ks:List (List Int)} (hn:∀ t∈ss,t.2.1≠0∨t.2.2.1≠0) (nd:ks.Nodup) (h:∀ k∈ks,WK ss n k):ks.length≤2:=by
 match ks,nd,h with
 | [],_,_=>exact Nat.zero_le _
 | [_],_,_=>exact (by decide:1≤2)
 | [_,_],_,_=>exact Nat.le_refl 2
 | a :: b :: c :: r,nd,h =>
  obtain ⟨x1,y1,rfl,w1⟩:=(h a (by simp)).dir hn
  obtain ⟨x2,y2,rfl,w2⟩:=(h b (by simp)).dir hn
  obtain ⟨x3,y3,rfl,w3⟩:=(h c (by simp)).dir hn
  simp only [List.nodup_cons,List.mem_cons,not_or] at nd
  exact (zPg w1 w2 w3 (fun z=>nd.1.1 (by rw [z.1,z.2])) (fun z=>nd.1.2.1 (by rw [z.1,z.2])) (fun z=>nd.2.1.1 (by rw [z.1,z.2]))).elim
end Sea

namespace Sea
open PySem L2
def dt (s g:P3):Int:=s.1 * g.1 + s.2.1 * g.2.1
theorem zG0 (s t:P3):tn s t = -tn t s:=by
 unfold tn
 rw [Int.mul_comm s.1,Int.mul_comm s.2.1]
 omega
theorem zN3 (s:P3):tn s s = 0:=by
 unfold tn
 rw [Int.mul_comm]
 omega
theorem zRm (t e g:P3):tn t e * (g.1 * g.1 + g.2.1 * g.2.1) = tn t g * dt e g + tn g e * dt t g:=by
 unfold tn dt
 simp only [Int.mul_sub,Int.sub_mul,Int.mul_add,Int.add_mul,Int.mul_comm,Int.mul_left_comm]
 omega
theorem pluck (t u e g:P3):tn t u * tn e g = tn t e * tn u g + tn t g * tn e u:=by
 unfold tn
 simp only [Int.mul_sub,Int.sub_mul,Int.mul_comm,Int.mul_left_comm]
 omega
theorem zDf {x y:Int} (h:0 < x * y) (hy:0 < y):0 < x:=by
 by_cases c:0 < x
 ·exact c
 ·have:=Int.mul_nonneg (show 0≤-x by omega) (Int.le_of_lt hy)
  rw [Int.neg_mul] at this
  omega
theorem zKy {α:Type} {p q:α→Bool} : ∀ {l:List α},(∀ a∈l,p a = true→q a = true)→(∃ a∈l,q a = true∧p a = false)→l.countP p < l.countP q
 | [],_,⟨_,h,_⟩=>nomatch h
 | x :: l,h,⟨a,ha,q1,p1⟩=>by
  have le:l.countP p≤l.countP q:=List.countP_mono_left fun b hb=>h b (List.mem_cons_of_mem _ hb)
  rw [List.countP_cons,List.countP_cons]
  rcases List.mem_cons.mp ha with rfl | ha
  ·rw [q1,p1]
   simp
   omega
  ·have z:=zKy (fun b hb=>h b (List.mem_cons_of_mem _ hb)) ⟨a,ha,q1,p1⟩
   by_cases hx:p x = true
   ·rw [hx,h x (List.mem_cons_self ..) hx]
    omega
   ·have hx':p x = false:=by simpa using hx
    rw [hx',if_neg (by decide)]
    omega
structure zN2 (ss:List Sd) (g:P3):Prop where
 nz:∀ t∈ss,t.2.1≠0∨t.2.2.1≠0
 gz:g.1≠0∨g.2.1≠0
 ways:∀ t∈ss,∀ h:Int,(h = 1∨h = -1)→(∀ s∈ss,tn t.2 s.2 * h≤0)→tn t.2 g * h≤0
 lead:¬ ∀ s∈ss,dt s.2 g≤0
 one:∀ t∈ss,tn t.2 g = 0→0 < dt t.2 g→∀ P:P3,0 < P.2.2→sv t.2 P = 0→¬ inW ss P
theorem zN2.right {ss:List Sd} {g:P3} (B:zN2 ss g) (two:∀ t∈ss,0 < tn t.2 g→∃ e∈ss,0 < tn t.2 e.2∧(∀ u∈ss,0 < tn t.2 u.2→sv u.2 (pt3 (crL t.2 e.2))≤0)∧¬ (0 < tn g e.2∧inW ss (pt3 (crL t.2 e.2)))) :
  ∀ (n:Nat) (t:Sd),t∈ss→0 < tn t.2 g→ss.countP (fun u=>decide (0 < tn u.2 g) && decide (0 < tn t.2 u.2)) < n→∀ P:P3,0 < P.2.2→sv t.2 P = 0→inW ss P→False
 | 0,_,_,_,h,_,_,_,_=>absurd h (Nat.not_lt_zero _)
 | n + 1,t,mt,ht,hc,P,pw,oP,wP=>by
  have hN:=zEk (B.nz t mt)
  obtain ⟨e,me,he,ha,hno⟩:=two t mt ht
  obtain ⟨j,gj⟩:=List.getElem?_of_mem me
  have w1:=zMa (h:=1) (by decide) hN oP pw wP gj (by omega) (fun u hu hp=>ha u hu (by omega))
  obtain ⟨sp,c1,c2⟩:=zEv (show tn t.2 e.2≠0 by omega)
  have hge:¬ 0 < tn g e.2:=fun z=>hno ⟨z,w1⟩
  have an:=zG0 g e.2
  by_cases h0:tn g e.2 = 0
  ·have k:=zRm t.2 e.2 g
   rw [h0,Int.zero_mul,Int.add_zero] at k
   have p:=Int.mul_pos he (zEk B.gz)
   rw [k,Int.mul_comm] at p
   exact B.one e me (by omega) (zDf p ht) _ sp.pos c2 w1
  ·have heg:0 < tn e.2 g:=by omega
   refine zN2.right B two n e me heg (Nat.lt_of_lt_of_le (zKy (q:=fun u=>decide (0 < tn u.2 g) && decide (0 < tn t.2 u.2)) (fun u hu hp=>?_) ⟨e,me,?_,?_⟩) (Nat.le_of_lt_succ hc)) _ sp.pos c2 w1
   ·rw [Bool.and_eq_true,decide_eq_true_iff,decide_eq_true_iff] at hp ⊢
    refine ⟨hp.1,?_⟩
    have k:=pluck t.2 u.2 e.2 g
    have p1:=Int.mul_pos he hp.1
    have p2:=Int.mul_pos ht hp.2
    exact zDf (y:=tn e.2 g) (by omega) heg
   ·rw [decide_eq_true heg,decide_eq_true he]
    rfl
   ·rw [decide_eq_false (p:=0 < tn e.2 e.2) (by rw [zN3]; decide),Bool.and_false]
theorem zN2.left {ss:List Sd} {g:P3} (B:zN2 ss g) (rt:∀ t∈ss,0 < tn t.2 g→∀ P:P3,0 < P.2.2→sv t.2 P = 0→inW ss P→False) :
  ∀ (n:Nat) (t:Sd),t∈ss→0 < tn g t.2→ss.countP (fun u=>decide (0 < tn g u.2) && decide (0 < tn u.2 t.2)) < n→∀ P:P3,0 < P.2.2→sv t.2 P = 0→inW ss P→False
 | 0,_,_,_,h,_,_,_,_=>absurd h (Nat.not_lt_zero _)
 | n + 1,t,mt,ht,hc,P,pw,oP,wP=>by
  have hN:=zEk (B.nz t mt)
  have at':=zG0 t.2 g
  rcases zEw (h:=-1) (by decide) hN ss with no | ⟨e,me,he,ha⟩
  ·have:=B.ways t mt (-1) (.inr rfl) no
   omega
  ·obtain ⟨j,gj⟩:=List.getElem?_of_mem me
   have w1:=zMa (h:=-1) (by decide) hN oP pw wP gj he ha
   obtain ⟨sp,c1,c2⟩:=zEv (zB2 he)
   have a1:=zG0 t.2 e.2
   have a2:=zG0 g e.2
   have het:0 < tn e.2 t.2:=by omega
   by_cases h1:0 < tn e.2 g
   ·exact rt e me h1 _ sp.pos c2 w1
   ·by_cases h0:tn e.2 g = 0
    ·have k:=zRm e.2 t.2 g
     rw [h0,Int.zero_mul,Int.zero_add] at k
     have p:=Int.mul_pos het (zEk B.gz)
     rw [k,Int.mul_comm] at p
     exact B.one e me h0 (zDf p ht) _ sp.pos c2 w1
    ·have hge:0 < tn g e.2:=by omega
     refine zN2.left B rt n e me hge (Nat.lt_of_lt_of_le (zKy (q:=fun u=>decide (0 < tn g u.2) && decide (0 < tn u.2 t.2)) (fun u hu hp=>?_) ⟨e,me,?_,?_⟩) (Nat.le_of_lt_succ hc)) _ sp.pos c2 w1
     ·rw [Bool.and_eq_true,decide_eq_true_iff,decide_eq_true_iff] at hp ⊢
      refine ⟨hp.1,?_⟩
      have k:=pluck u.2 t.2 e.2 g
      have p1:=Int.mul_pos hp.2 ht
      have p2:=Int.mul_pos hp.1 het
      have e1:tn u.2 t.2 * tn g e.2 = tn u.2 e.2 * tn g t.2 + tn g u.2 * tn e.2 t.2:=by
       have b1:=zG0 e.2 g
       have b2:=zG0 u.2 g
       rw [b1,at',b2,Int.mul_neg,Int.mul_neg,Int.neg_mul] at k
       omega
      exact zDf (y:=tn g e.2) (by omega) hge
     ·rw [decide_eq_true hge,decide_eq_true het]
      rfl
     ·rw [decide_eq_false (p:=0 < tn e.2 e.2) (by rw [zN3]; decide),Bool.and_false]
theorem no_far {ss:List Sd} {g:P3} (B:zN2 ss g) (two:∀ t∈ss,0 < tn t.2 g→∃ e∈ss,0 < tn t.2 e.2∧(∀ u∈ss,0 < tn t.2 u.2→sv u.2 (pt3 (crL t.2 e.2))≤0)∧¬ (0 < tn g e.2∧inW ss (pt3 (crL t.2 e.2))))
  {z:P3} (zw:0 < z.2.2) (wz:inW ss z):False:=by
 have rt:∀ t∈ss,0 < tn t.2 g→∀ P:P3,0 < P.2.2→sv t.2 P = 0→inW ss P→False:=fun t mt ht=>B.right two _ t mt ht (Nat.lt_succ_self _)
 have lf:∀ t∈ss,0 < tn g t.2→∀ P:P3,0 < P.2.2→sv t.2 P = 0→inW ss P→False:=fun t mt ht=>B.left rt _ t mt ht (Nat.lt_succ_self _)
 let e0:P3:=(g.2.1 * z.2.2,-(g.1 * z.2.2),g.2.1 * z.1 - g.1 * z.2.1)
 have o0:sv e0 z = 0:=by
  show g.2.1 * z.2.2 * z.1 + -(g.1 * z.2.2) * z.2.1 - (g.2.1 * z.1 - g.1 * z.2.1) * z.2.2 = 0
  simp only [Int.sub_mul,Int.mul_sub,Int.neg_mul,Int.mul_neg,Int.mul_comm,Int.mul_left_comm]
  omega
 have t0:∀ t:P3,tn e0 t = dt t g * z.2.2:=fun t=>by
  show g.2.1 * z.2.2 * t.2.1 - -(g.1 * z.2.2) * t.1 = (t.1 * g.1 + t.2.1 * g.2.1) * z.2.2
  simp only [Int.add_mul,Int.mul_add,Int.neg_mul,Int.mul_neg,Int.mul_comm,Int.mul_left_comm]
  omega
 have n0:e0.1≠0∨e0.2.1≠0:=by
  rcases B.gz with h | h
  ·right
   show -(g.1 * z.2.2)≠0
   have:=Int.mul_ne_zero h (show z.2.2≠0 by omega)
   omega
  ·left
   exact Int.mul_ne_zero h (by omega)
 have hN:=zEk n0
 rcases zEw (h:=1) (by decide) hN ss with no | ⟨t,mt,ht,ha⟩
 ·refine B.lead fun s hs=>?_
  have:=no s hs
  rw [t0,Int.mul_one] at this
  by_cases c:dt s.2 g≤0
  ·exact c
  ·have:=Int.mul_pos (show 0 < dt s.2 g by omega) zw
   omega
 ·obtain ⟨j,gj⟩:=List.getElem?_of_mem mt
  have w1:=zMa (h:=1) (by decide) hN o0 zw wz gj ht ha
  obtain ⟨sp,c1,c2⟩:=zEv (zB2 ht)
  have hd:0 < dt t.2 g:=by
   rw [t0,Int.mul_one] at ht
   exact zDf ht zw
  have an:=zG0 g t.2
  by_cases h1:0 < tn t.2 g
  ·exact rt t mt h1 _ sp.pos c2 w1
  ·by_cases h0:tn t.2 g = 0
   ·exact B.one t mt h0 hd _ sp.pos c2 w1
   ·exact lf t mt (by omega) _ sp.pos c2 w1
end Sea

namespace L2
open PySem PySem.Spec PyProof.Rows PySem.W
def TupF (h:Heap) (v:Value) (x:Int):Prop:=∃ (a:Addr) (o:Obj) (n:Nat) (t:Tok) (rest:List Value),v = .ref a∧h.get? a = some o∧o.cls = .type "tuple" ∧ o.data = .seq (Value.int x t :: rest).toArray n
theorem TupF.keep {h h':Heap} {v:Value} {x:Int} (e:TupF h v x) (k:∀ b o,h.get? b = some o→h'.get? b = some o):TupF h' v x:=by
 obtain ⟨a,o,n,t,r,e1,e2,e3⟩:=e
 exact ⟨a,o,n,t,r,e1,k _ _ e2,e3⟩
theorem zS6:kas_sort 2 = .ask 1 0 fun c=>if c = true then .ret #[1,0] else .ret #[0,1]:=by
 have e:kas_sort 2 = .ask 1 0 fun c=>match c with | true=>.ret #[1,0] | false=>.ret #[0,1]:=by
  unfold kas_sort
  show KasT.ask 1 0 _ = _
  congr 1
  funext c
  cases c <;> rfl
 rw [e]
 congr 1
 funext c
 cases c <;> rfl
section
variable {prog:Program} {w:World} {A:Around} {E:Value→Shared→Prop} {s:Shared}
theorem zRd {u v:Value} {x y:Int} {C:Bool→Shared→Prop} (hu:TupF s.heap u x) (hv:TupF s.heap v y) (hn:x≠y) (h:C (decide (x < y)) s):wpAny (model prog w) A (keyLt' (tuples' true) u v) C E s:=by
 obtain ⟨p,o,n,t,us,rfl,ho,_,hd⟩:=hu
 obtain ⟨q,o',n',t',ws,rfl,ho',_,hd'⟩:=hv
 refine kat_lt ho hd ho' hd' ?_
 show KatLex prog w A true _ C ((Value.int x t,Value.int y t') :: us.zip ws) 0 s
 refine kat_cons (wpAny_eqBool_int ?_)
 rw [show (x == y) = false from by simpa using hn]
 exact kat_no (oneLt_int h)
theorem zPx {l:Addr} {u v:Value} {x y:Int} {Q:Value→Shared→Prop} (hl:s.heap.IsList l [u,v].toArray) (hu:TupF s.heap u x) (hv:TupF s.heap v y) (hn:x≠y)
  (h:Q (.ref (s.heap.objs.size + 1)) { s with heap:=sortedAll s.heap [u,v] (if y < x then [v,u] else [u,v]).toArray }) :
  wpAny (model prog w) A (call (.builtin "sorted") [.ref l]) Q E s:=by
 refine zP8 (κ:=tuples' true) (G:=fun out=>out = if y < x then [v,u] else [u,v]) hl (by show 2 < 64; decide) (fun h2 s' kp E' Q' hq=>?_) (fun h2 s' kp=>?_) (fun h2=>absurd (show 2 < 2 from h2) (by decide)) fun out hz e=>by rw [e]; exact h
 ·have hu':=hu.keep kp
  have hv':=hv.keep kp
  obtain ⟨p,o,n,t,us,e1,ho,hc,hd⟩:=hu'
  obtain ⟨q,o',n',t',ws,e2,ho',hc',hd'⟩:=hv'
  have a1:KatTups s'.heap [u,v] [.int x t,.int y t']:=by
   rw [e1,e2]
   exact KatTups.cons ho hc hd rfl (KatTups.cons ho' hc' hd' rfl .nil)
  refine kat_kind (T:=Value.type "int") a1 (by show 0 < 2; decide) (fun z hz=>?_) rfl (by first | exact hq | (rw [show (Value.type "int" != Value.type "tuple") = true from by first | decide | simp]; exact hq))
  rcases List.mem_cons.mp hz with rfl | hz
  ·exact .now
  ·rw [List.mem_singleton] at hz
   rw [hz]
   exact .now
 ·rw [show [u,v].length = 2 from rfl,zS6]
  show kas_ask prog w A.in1.in1 (tuples' true) [u,v] 1 0 _ s'
  refine zRd (hv.keep kp) (hu.keep kp) (fun z=>hn z.symm) ?_
  by_cases c:y < x
  ·rw [decide_eq_true c,if_pos c]
   exact ⟨rfl,rfl⟩
  ·rw [decide_eq_false c,if_neg c]
   exact ⟨rfl,rfl⟩
end
section
variable {X:Cx}
theorem zMy:zH3 X (.builtin "sorted") (fun xs H Q=>∃ (l a b:Addr) (x y:Int) (us ws:List V),xs = [.ref l]∧SqL X.K H l [.ref a,.ref b]∧H a = some (.tup (.int x :: us))∧H b = some (.tup (.int y :: ws))∧x≠y ∧
  ∀ p:Addr,H p = none→Q (.ref p) (upd H p (.lst (if y < x then [.ref b,.ref a] else [.ref a,.ref b])))):=by
 intro pins s σ H xs us Q I r h
 obtain ⟨l,a,b,x,y,us',ws',rfl,hq,ha,hb,hn,q⟩:=h
 obtain ⟨u,rfl,ru⟩:=Vals.one r
 cases ru
 obtain ⟨its,rv,pl,hz⟩:=I.list hq
 have ei:=zLa (rs:=[a,b]) rv
 subst ei
 have tf:∀ {a:Addr} {x:Int} {us:List V},H a = some (.tup (.int x :: us))→TupF s.heap (.ref a) x:=fun {a x us} ha=>by
  obtain ⟨its,r1,⟨o,e,c,n,d⟩,_⟩:=I.tuple (SqT.of ha)
  cases r1 with
  | cons p1 q1 =>
   obtain ⟨t,rfl⟩:=p1
   exact ⟨_,o,n,t,_,rfl,e,c,d⟩
 refine zPx (u:=.ref a) (v:=.ref b) pl.isList (tf ha) (tf hb) hn ?_
 have fr:H (s.heap.objs.size + 1) = none:=I.hok.fresh (Nat.le_succ _)
 by_cases c:y < x
 ·rw [if_pos c]
  have q':=q _ fr
  rw [if_pos c] at q'
  obtain ⟨e,at'⟩:=sortedAll_at s.heap [.ref a,.ref b] [Value.ref b,Value.ref a].toArray
  exact ⟨.ref (s.heap.objs.size + 1),_,I.laid (t':=s.toks) (a:=s.heap.objs.size + 1) (o:=.lst [.ref b,.ref a]) (fun b ob q=>sortedAll_old q) (Nat.le_succ _) ⟨(by show 2≤sizeLine; rw [sizeLine_eq]; decide),_,e,zFo [b,a],at'⟩,rfl,q'⟩
 ·rw [if_neg c]
  have q':=q _ fr
  rw [if_neg c] at q'
  obtain ⟨e,at'⟩:=sortedAll_at s.heap [.ref a,.ref b] [Value.ref a,Value.ref b].toArray
  exact ⟨.ref (s.heap.objs.size + 1),_,I.laid (t':=s.toks) (a:=s.heap.objs.size + 1) (o:=.lst [.ref a,.ref b]) (fun b ob q=>sortedAll_old q) (Nat.le_succ _) ⟨(by show 2≤sizeLine; rw [sizeLine_eq]; decide),_,e,zFo [a,b],at'⟩,rfl,q'⟩
def tOrT (K:PySem.W.Frag) (ta tb:TE):TE:=fun σ H Q=>ta σ H fun x H1=>∃ k,TruV K x H1 k∧if k = true then Q x H1 else tb σ H1 Q
theorem pe_orT {a b:Expr} {rest:List Expr} {pos:Pos} {ta tb:TE} (ha:PE X a ta) (hb:PE X (.BoolOp .Or (b :: rest) pos) tb):PE X (.BoolOp .Or (a :: b :: rest) pos) (tOrT X.K ta tb):=by
 intro pins s σ H Q I h
 refine BoolOp_or (thn (ha pins s σ H _ I h) fun v s1 ⟨x,H1,I1,r1,q1⟩=>?_)
 obtain ⟨k,tk,q1⟩:=q1
 refine thn (tru_ok pins s1 σ H1 x v (fun c H2=>H2 = H1∧c = k) I1 r1 ⟨k,tk,rfl,rfl⟩) fun c s2 ⟨H2,I2,e,ec⟩=>?_
 subst e ec
 cases c with
 | false=>exact hb pins s2 σ H2 Q I2 q1
 | true=>exact ⟨x,H2,I2,r1,q1⟩
end
theorem ifSf {a b:Str} {A B:Prop} (h:a≠b) (hB:B):if decide (V.str a = V.str b) = true then A else B:=by
 rw [decide_eq_false (fun z=>h (by injection z))]
 exact hB
theorem ifSt {a:Str} {A B:Prop} (hA:A):if decide (V.str a = V.str a) = true then A else B:=by
 rw [decide_eq_true rfl]
 exact hA
end L2

namespace Sea
open PySem L2
def Far (ss:List Sd) (g P:P3) (ws:List (Int × Int × Int)):Prop :=
 (∃ (i:Nat) (p q:Int) (s:Sd),ws = [((i:Int),p,q)]∧ss[i]? = some s∧0 < p∧0 < q∧p≤10 ^ 19∧q≤10 ^ 19∧Nat.gcd p.natAbs q.natAbs = 1∧p * s.2.1 = q * g.1∧p * s.2.2.1 = q * g.2.1∧sv s.2 P = 0) ∨
 ∃ (i j:Nat) (p q p' q':Int) (s t:Sd),ws = [((i:Int),p,q),((j:Int),p',q')]∧i < j∧ss[i]? = some s∧ss[j]? = some t∧(0 < p∧0 < q∧p≤10 ^ 19∧q≤10 ^ 19∧Nat.gcd p.natAbs q.natAbs = 1)∧(0 < p'∧0 < q'∧p'≤10 ^ 19∧q'≤10 ^ 19∧Nat.gcd p'.natAbs q'.natAbs = 1) ∧
  p * s.2.1 * q' + p' * t.2.1 * q = q * q' * g.1∧p * s.2.2.1 * q' + p' * t.2.2.1 * q = q * q' * g.2.1∧sv s.2 P = 0∧sv t.2 P = 0
theorem zS7 (x:Int):absI (-x) = absI x:=by
 unfold absI
 split <;> split <;> omega
theorem zS2 {s g:P3} (ht:tn s g = 0) (hd:0 < dt s g):zBl g.1 g.2.1 * s.1 = zBl s.1 s.2.1 * g.1∧zBl g.1 g.2.1 * s.2.1 = zBl s.1 s.2.1 * g.2.1:=by
 have cr:g.1 * s.2.1 = g.2.1 * s.1:=by
  unfold tn at ht
  rw [Int.mul_comm g.1,Int.mul_comm g.2.1]
  rw [Int.mul_comm s.1,Int.mul_comm s.2.1] at ht
  rw [Int.mul_comm s.2.1 g.1,Int.mul_comm s.1 g.2.1]
  omega
 have pr:0≤(g.1 * -s.1) * (g.2.1 * -s.2.1):=by
  have e0:(g.1 * -s.1) * (g.2.1 * -s.2.1) = (g.1 * s.2.1) * (g.2.1 * s.1):=by
   simp only [Int.mul_neg,Int.neg_mul,Int.neg_neg,Int.mul_comm,Int.mul_left_comm]
  rw [e0,← cr]
  exact sq_nn _
 obtain ⟨o1,o2⟩:=zKb (show g.1 * -s.1 + g.2.1 * -s.2.1 < 0 by
  unfold dt at hd
  rw [Int.mul_neg,Int.mul_neg,Int.mul_comm g.1,Int.mul_comm g.2.1]
  omega) pr
 have cn:g.1 * -s.2.1 = g.2.1 * -s.1:=by rw [Int.mul_neg,Int.mul_neg,cr]
 have a1:=par (e1:=g.1) (e2:=g.1) (s1:=-s.1) (s2:=-s.1) rfl o1
 have a2:=par (e1:=g.1) (e2:=g.2.1) (s1:=-s.1) (s2:=-s.2.1) cn o2
 have a3:=par (e1:=g.2.1) (e2:=g.1) (s1:=-s.2.1) (s2:=-s.1) cn.symm o1
 have a4:=par (e1:=g.2.1) (e2:=g.2.1) (s1:=-s.2.1) (s2:=-s.2.1) rfl o2
 rw [zS7,Int.mul_neg] at a1 a2 a3 a4
 unfold zBl
 constructor
 ·rw [Int.add_mul,Int.add_mul]
  omega
 ·rw [Int.add_mul,Int.add_mul]
  omega
theorem zR3 {x y k:Int} (hk:k≠0) (h:x * k = y * k):x = y:=Int.eq_of_mul_eq_mul_right hk h
theorem zLm {t b x y:Int} (pt:zC7 t b x y) (ht:0 < t) (hb:0 < b):0 < x∧0 < y:=by
 have hy:=pt.pos
 refine ⟨?_,by omega⟩
 have e:=pt.eq
 have p:=Int.mul_pos (show 0 < y by omega) ht
 rw [← e] at p
 exact zDf p hb
theorem zVh {ss:List Sd} {g P:P3} {i:Nat} {s:Sd} {x y:Int} (gs:ss[i]? = some s) (ns:s.2.1≠0∨s.2.2.1≠0) (ng:g.1≠0∨g.2.1≠0) (ht:tn s.2 g = 0) (hd:0 < dt s.2 g) (pt:zC7 (zBl g.1 g.2.1) (zBl s.2.1 s.2.2.1) x y) (b1:zBl g.1 g.2.1≤10 ^ 19) (b2:zBl s.2.1 s.2.2.1≤10 ^ 19) (on:sv s.2 P = 0):Far ss g P [((i:Int),x,y)]:=by
 obtain ⟨e1,e2⟩:=zS2 ht hd
 have pS:=zE1 ns
 have pG:=zE1 ng
 obtain ⟨px,py⟩:=zLm pt pG pS
 have xl:=pt.xle
 have yl:=pt.yle
 have e:=pt.eq
 refine .inl ⟨i,x,y,s,rfl,gs,px,py,by omega,by omega,pt.low,?_,?_,on⟩
 ·refine zR3 (k:=zBl s.2.1 s.2.2.1) (by omega) ?_
  rw [Int.mul_right_comm,e,Int.mul_assoc,show zBl g.1 g.2.1 * s.2.1 = zBl s.2.1 s.2.2.1 * g.1 from e1,Int.mul_assoc,Int.mul_comm g.1]
 ·refine zR3 (k:=zBl s.2.1 s.2.2.1) (by omega) ?_
  rw [Int.mul_right_comm,e,Int.mul_assoc,show zBl g.1 g.2.1 * s.2.2.1 = zBl s.2.1 s.2.2.1 * g.2.1 from e2,Int.mul_assoc,Int.mul_comm g.2.1]
theorem zS1 (s t g:P3):tn g t * s.1 + tn s g * t.1 = tn s t * g.1∧tn g t * s.2.1 + tn s g * t.2.1 = tn s t * g.2.1:=by
 unfold tn
 constructor
 ·simp only [Int.sub_mul,Int.mul_sub,Int.mul_comm,Int.mul_left_comm]
  omega
 ·simp only [Int.sub_mul,Int.mul_sub,Int.mul_comm,Int.mul_left_comm]
  omega
theorem zR0 {p q p' q' A B W a b c:Int} (hW:W≠0) (h1:p * W = q * A) (h2:p' * W = q' * B) (h:A * a + B * b = W * c):p * a * q' + p' * b * q = q * q' * c:=by
 refine zR3 hW ?_
 have e:(p * a * q' + p' * b * q) * W = p * W * (a * q') + p' * W * (b * q):=by
  simp only [Int.add_mul,Int.mul_add,Int.mul_comm,Int.mul_left_comm]
 rw [e,h1,h2]
 have e2:q * A * (a * q') + q' * B * (b * q) = q * q' * (A * a + B * b):=by
  simp only [Int.mul_add,Int.add_mul,Int.mul_comm,Int.mul_left_comm]
 rw [e2,h]
 simp only [Int.mul_comm,Int.mul_left_comm]
theorem zUe {ss:List Sd} {g P:P3} {i j:Nat} {s t:Sd} {p q p' q':Int} (gs:ss[i]? = some s) (gt:ss[j]? = some t) (hW:0 < tn s.2 t.2) (hA:0 < tn g t.2) (hB:0 < tn s.2 g) (p1:zC7 (tn g t.2) (tn s.2 t.2) p q) (p2:zC7 (tn s.2 g) (tn s.2 t.2) p' q')
  (bA:tn g t.2≤10 ^ 19) (bB:tn s.2 g≤10 ^ 19) (bW:tn s.2 t.2≤10 ^ 19) (o1:sv s.2 P = 0) (o2:sv t.2 P = 0) (hij:i≠j):Far ss g P (if j < i then [((j:Int),p',q'),((i:Int),p,q)] else [((i:Int),p,q),((j:Int),p',q')]):=by
 obtain ⟨c1,c2⟩:=zS1 s.2 t.2 g
 obtain ⟨a1,a2⟩:=zLm p1 hA hW
 obtain ⟨a3,a4⟩:=zLm p2 hB hW
 have x1:=p1.xle
 have x2:=p1.yle
 have x3:=p2.xle
 have x4:=p2.yle
 have k1:=zR0 (show tn s.2 t.2≠0 by omega) p1.eq p2.eq c1
 have k2:=zR0 (show tn s.2 t.2≠0 by omega) p1.eq p2.eq c2
 have w1:0 < p∧0 < q∧p≤10 ^ 19∧q≤10 ^ 19∧Nat.gcd p.natAbs q.natAbs = 1:=⟨a1,a2,by omega,by omega,p1.low⟩
 have w2:0 < p'∧0 < q'∧p'≤10 ^ 19∧q'≤10 ^ 19∧Nat.gcd p'.natAbs q'.natAbs = 1:=⟨a3,a4,by omega,by omega,p2.low⟩
 by_cases c:j < i
 ·rw [if_pos c]
  refine .inr ⟨j,i,p',q',p,q,t,s,rfl,c,gt,gs,w2,w1,?_,?_,o2,o1⟩
  ·rw [Int.mul_comm q' q]
   have z:p * s.2.1 * q' + p' * t.2.1 * q = q * q' * g.1:=k1
   omega
  ·rw [Int.mul_comm q' q]
   have z:p * s.2.2.1 * q' + p' * t.2.2.1 * q = q * q' * g.2.1:=k2
   omega
 ·rw [if_neg c]
  exact .inr ⟨i,j,p,q,p',q',s,t,rfl,by omega,gs,gt,w1,w2,k1,k2,o1,o2⟩
def sumW (o:Int × Int) (p q n:Int):Int × Int:=(o.1 * q + n * p * o.2,o.2 * q)
def zC4 (ss:List Sd) (g:P3):List (Int × Int × Int)→Int→Int × Int→Int × Int→Int × Int→Option (Int × Int)
 | [],_,A,B,C=>if A.1 = g.1 * A.2∧B.1 = g.2.1 * B.2 then some C else none
 | u :: ws,last,A,B,C=>if last < u.1∧u.1 < ss.length∧1≤u.2.1∧1≤u.2.2 then
   match ss[u.1.toNat]? with
   | some t=>zC4 ss g ws u.1 (sumW A u.2.1 u.2.2 t.2.1) (sumW B u.2.1 u.2.2 t.2.2.1) (sumW C u.2.1 u.2.2 t.2.2.2)
   | none=>none
  else none
def zEg (ss:List Sd) (g:P3) (ws:List (Int × Int × Int)):Option (Int × Int):=if ws.length≤2 then zC4 ss g ws (-1) (0,1) (0,1) (0,1) else none
theorem zDs {ss:List Sd} {g:P3} {n p q last:Int} {t:Sd} {A B C:Int × Int} {ws:List (Int × Int × Int)} (h1:last < n) (h2:n < ss.length) (h3:1≤p) (h4:1≤q) (gt:ss[n.toNat]? = some t) :
  zC4 ss g ((n,p,q) :: ws) last A B C = zC4 ss g ws n (sumW A p q t.2.1) (sumW B p q t.2.2.1) (sumW C p q t.2.2.2):=by
 rw [zC4,if_pos ⟨h1,h2,h3,h4⟩]
 show (match ss[n.toNat]? with | some t=>zC4 ss g ws n (sumW A p q t.2.1) (sumW B p q t.2.2.1) (sumW C p q t.2.2.2) | none=>none) = _
 rw [gt]
theorem zKf {ss:List Sd} {g:P3} {n p q last:Int} {A B C:Int × Int} {ws:List (Int × Int × Int)} (h:¬ (last < n∧n < ss.length∧1≤p∧1≤q)):zC4 ss g ((n,p,q) :: ws) last A B C = none:=by
 rw [zC4,if_neg h]
theorem zQ2 {a b c x y w:Int} (h:a * x + b * y - c * w = 0):a * x + b * y = c * w:=by omega
theorem Far.bound {ss:List Sd} {g P:P3} {ws:List (Int × Int × Int)} (h:Far ss g P ws) (sm:∀ t∈ss,t.2.2.2.natAbs≤10 ^ 13):∃ x y:Int,zEg ss g ws = some (x,y)∧(g.1 * P.1 + g.2.1 * P.2.1) * y = x * P.2.2∧x.natAbs≤10 ^ 60∧y.natAbs≤10 ^ 60:=by
 rcases h with ⟨i,p,q,s,rfl,gs,hp,hq,bp,bq,_,e1,e2,on⟩ | ⟨i,j,p,q,p',q',s,t,rfl,hij,gs,gt,⟨hp,hq,bp,bq,_⟩,⟨hp',hq',bp',bq',_⟩,e1,e2,o1,o2⟩
 ·have hi:=(List.getElem?_eq_some_iff.mp gs).1
  refine ⟨0 * q + s.2.2.2 * p * 1,1 * q,?_,?_,?_,?_⟩
  ·unfold zEg
   rw [if_pos (by show 1≤2; decide),zDs (t:=s) (by omega) (by omega) (by omega) (by omega) (by rw [Int.toNat_natCast]; exact gs),zC4]
   show (if 0 * q + s.2.1 * p * 1 = g.1 * (1 * q)∧0 * q + s.2.2.1 * p * 1 = g.2.1 * (1 * q) then some (0 * q + s.2.2.2 * p * 1,1 * q) else none) = _
   rw [if_pos]
   constructor
   ·rw [Int.zero_mul,Int.zero_add,Int.mul_one,Int.one_mul,Int.mul_comm s.2.1,Int.mul_comm g.1]
    exact e1
   ·rw [Int.zero_mul,Int.zero_add,Int.mul_one,Int.one_mul,Int.mul_comm s.2.2.1,Int.mul_comm g.2.1]
    exact e2
  ·have o:=zQ2 (show s.2.1 * P.1 + s.2.2.1 * P.2.1 - s.2.2.2 * P.2.2 = 0 from on)
   have z:(g.1 * P.1 + g.2.1 * P.2.1) * (1 * q) = (q * g.1) * P.1 + (q * g.2.1) * P.2.1:=by
    simp only [Int.one_mul,Int.mul_one,Int.add_mul,Int.mul_add,Int.mul_comm,Int.mul_left_comm]
   rw [z,← e1,← e2]
   have z2:p * s.2.1 * P.1 + p * s.2.2.1 * P.2.1 = p * (s.2.1 * P.1 + s.2.2.1 * P.2.1):=by
    simp only [Int.mul_add,Int.mul_comm,Int.mul_left_comm]
   rw [z2,o,Int.zero_mul,Int.zero_add,Int.mul_one]
   simp only [Int.mul_comm,Int.mul_left_comm]
  ·have z:=zAj s.2.2.2 p (sm s (List.mem_of_getElem? gs)) (show p.natAbs≤10 ^ 19 by omega)
   omega
  ·omega
 ·have hi:=(List.getElem?_eq_some_iff.mp gs).1
  have hj:=(List.getElem?_eq_some_iff.mp gt).1
  refine ⟨(0 * q + s.2.2.2 * p * 1) * q' + t.2.2.2 * p' * (1 * q),1 * q * q',?_,?_,?_,?_⟩
  ·unfold zEg
   rw [if_pos (by show 2≤2; decide),zDs (t:=s) (by omega) (by omega) (by omega) (by omega) (by rw [Int.toNat_natCast]; exact gs),zDs (t:=t) (by omega) (by omega) (by omega) (by omega) (by rw [Int.toNat_natCast]; exact gt),zC4]
   show (if (0 * q + s.2.1 * p * 1) * q' + t.2.1 * p' * (1 * q) = g.1 * (1 * q * q')∧(0 * q + s.2.2.1 * p * 1) * q' + t.2.2.1 * p' * (1 * q) = g.2.1 * (1 * q * q') then some ((0 * q + s.2.2.2 * p * 1) * q' + t.2.2.2 * p' * (1 * q),1 * q * q') else none) = _
   rw [if_pos]
   constructor
   ·rw [Int.zero_mul,Int.zero_add,Int.mul_one,Int.one_mul,Int.mul_comm s.2.1,Int.mul_comm t.2.1,Int.mul_comm g.1]
    exact e1
   ·rw [Int.zero_mul,Int.zero_add,Int.mul_one,Int.one_mul,Int.mul_comm s.2.2.1,Int.mul_comm t.2.2.1,Int.mul_comm g.2.1]
    exact e2
  ·have oa:=zQ2 (show s.2.1 * P.1 + s.2.2.1 * P.2.1 - s.2.2.2 * P.2.2 = 0 from o1)
   have ob:=zQ2 (show t.2.1 * P.1 + t.2.2.1 * P.2.1 - t.2.2.2 * P.2.2 = 0 from o2)
   have z:(g.1 * P.1 + g.2.1 * P.2.1) * (1 * q * q') = (q * q' * g.1) * P.1 + (q * q' * g.2.1) * P.2.1:=by
    simp only [Int.one_mul,Int.mul_one,Int.add_mul,Int.mul_add,Int.mul_comm,Int.mul_left_comm]
   rw [z,← e1,← e2]
   have z2:(p * s.2.1 * q' + p' * t.2.1 * q) * P.1 + (p * s.2.2.1 * q' + p' * t.2.2.1 * q) * P.2.1 = p * q' * (s.2.1 * P.1 + s.2.2.1 * P.2.1) + p' * q * (t.2.1 * P.1 + t.2.2.1 * P.2.1):=by
    simp only [Int.mul_add,Int.add_mul,Int.mul_comm,Int.mul_left_comm]
    omega
   rw [z2,oa,ob,Int.zero_mul,Int.zero_add,Int.mul_one,Int.one_mul]
   simp only [Int.add_mul,Int.mul_add,Int.mul_comm,Int.mul_left_comm]
  ·have z1:=zAj s.2.2.2 p (sm s (List.mem_of_getElem? gs)) (show p.natAbs≤10 ^ 19 by omega)
   have z2:=zAj (s.2.2.2 * p) q' z1 (show q'.natAbs≤10 ^ 19 by omega)
   have z3:=zAj t.2.2.2 p' (sm t (List.mem_of_getElem? gt)) (show p'.natAbs≤10 ^ 19 by omega)
   have z4:=zAj (t.2.2.2 * p') q z3 (show q.natAbs≤10 ^ 19 by omega)
   rw [Int.zero_mul,Int.zero_add,Int.mul_one,Int.one_mul]
   omega
  ·have z:=zAj q q' (show q.natAbs≤10 ^ 19 by omega) (show q'.natAbs≤10 ^ 19 by omega)
   rw [Int.one_mul]
   omega
theorem Far.low {ss:List Sd} {g P:P3} {ws:List (Int × Int × Int)} (h:Far ss g P ws):ws.length≤2∧∀ u∈ws,Nat.gcd u.2.1.natAbs u.2.2.natAbs = 1∧u.1.natAbs≤ss.length∧u.2.1.natAbs≤10 ^ 19∧u.2.2.natAbs≤10 ^ 19:=by
 rcases h with ⟨i,p,q,s,rfl,gs,hp,hq,bp,bq,lo,_⟩ | ⟨i,j,p,q,p',q',s,t,rfl,hij,gs,gt,⟨hp,hq,bp,bq,lo⟩,⟨hp',hq',bp',bq',lo'⟩,_⟩
 ·have hi:=(List.getElem?_eq_some_iff.mp gs).1
  refine ⟨(by show 1≤2; decide),fun u hu=>?_⟩
  rw [List.mem_singleton] at hu
  subst hu
  exact ⟨lo,(by show (i:Int).natAbs≤_; omega),(by show p.natAbs≤_; omega),(by show q.natAbs≤_; omega)⟩
 ·have hi:=(List.getElem?_eq_some_iff.mp gs).1
  have hj:=(List.getElem?_eq_some_iff.mp gt).1
  refine ⟨(by show 2≤2; decide),fun u hu=>?_⟩
  rcases List.mem_cons.mp hu with rfl | hu
  ·exact ⟨lo,(by show (i:Int).natAbs≤_; omega),(by show p.natAbs≤_; omega),(by show q.natAbs≤_; omega)⟩
  ·rw [List.mem_singleton] at hu
   subst hu
   exact ⟨lo',(by show (j:Int).natAbs≤_; omega),(by show p'.natAbs≤_; omega),(by show q'.natAbs≤_; omega)⟩
theorem zTf {t:P3} (h:t.1≠0∨t.2.1≠0) (b1:t.1.natAbs≤10 ^ 9) (b2:t.2.1.natAbs≤10 ^ 9) (b3:t.2.2.natAbs≤10 ^ 13):(pt3 (ftL t)).1.natAbs≤10 ^ 40∧(pt3 (ftL t)).2.1.natAbs≤10 ^ 40∧(pt3 (ftL t)).2.2.natAbs≤10 ^ 40:=by
 have hw:=zEk h
 obtain ⟨x,y,w,el,sp⟩:=zIw (X:=t.1 * t.2.2) (Y:=t.2.1 * t.2.2) (W:=t.1 * t.1 + t.2.1 * t.2.1) (by omega)
 have e1:ftL t = [x,y,w]:=el
 rw [e1]
 have z1:=zAj t.1 t.2.2 b1 b3
 have z2:=zAj t.2.1 t.2.2 b2 b3
 have z3:=zAj t.1 t.1 b1 b1
 have z4:=zAj t.2.1 t.2.1 b2 b2
 have x1:=sp.xle
 have x2:=sp.yle
 have x3:=sp.wle
 refine ⟨?_,?_,?_⟩
 ·show x.natAbs≤10 ^ 40
  omega
 ·show y.natAbs≤10 ^ 40
  omega
 ·show w.natAbs≤10 ^ 40
  omega
theorem Cand.small {ss:List Sd} {P:P3} (c:Cand ss P) (sm:∀ t∈ss,(t.2.1≠0∨t.2.2.1≠0)∧t.2.1.natAbs≤10 ^ 9∧t.2.2.1.natAbs≤10 ^ 9∧t.2.2.2.natAbs≤10 ^ 13):P.1.natAbs≤10 ^ 40∧P.2.1.natAbs≤10 ^ 40∧P.2.2.natAbs≤10 ^ 40:=by
 rcases c with rfl | ⟨t,mt,rfl⟩ | ⟨t,mt,u,mu,h,rfl⟩
 ·exact ⟨by decide,by decide,by decide⟩
 ·obtain ⟨n,b1,b2,b3⟩:=sm t mt
  exact zTf n b1 b2 b3
 ·obtain ⟨_,b1,b2,b3⟩:=sm t mt
  obtain ⟨_,d1,d2,d3⟩:=sm u mu
  exact zSn h b1 b2 b3 d1 d2 d3
def Sz (o:Int × Int):Prop:=o.1.natAbs≤10 ^ 100∧o.2.natAbs≤10 ^ 100
def Sz40 (p q:Int):Prop:=p.natAbs≤10 ^ 40∧q.natAbs≤10 ^ 40
def Sz13 (n:Int):Prop:=n.natAbs≤10 ^ 13
theorem Sz40.up {p q:Int} (h:Sz40 p q):p.natAbs≤10 ^ 100∧q.natAbs≤10 ^ 100:=⟨Nat.le_trans h.1 (by decide),Nat.le_trans h.2 (by decide)⟩
theorem Sz13.up {n:Int} (h:Sz13 n):n.natAbs≤10 ^ 100:=Nat.le_trans (show n.natAbs≤10 ^ 13 from h) (by decide)
theorem zHx {o:Int × Int} {p q n:Int} (h:o = (0,1)) (hb:Sz40 p q) (hn:Sz13 n):Sz (sumW o p q n):=by
 subst h
 have z:=zAj n p hn hb.1
 have hq:=hb.2
 show (0 * q + n * p * 1).natAbs≤10 ^ 100∧(1 * q).natAbs≤10 ^ 100
 rw [Int.zero_mul,Int.zero_add,Int.mul_one,Int.one_mul]
 exact ⟨Nat.le_trans z (by decide),Nat.le_trans hq (by decide)⟩
end Sea

namespace L2
open PySem PySem.Spec PyProof.Rows
section
variable {prog:Program} {w:World} {A:Around} {E:Value→Shared→Prop}
end
section
variable {X:Cx} {pos:Pos}
theorem zQd (hc:X.calm = true):zH3 X (.builtin "min") (fun xs H Q=>∃ (p:Addr) (i j:Int),xs = [.ref p]∧SqT X.K H p [.int i,.int j]∧Q (.int (if j < i then j else i)) H):=by
 intro pins s σ H xs us Q I r h
 obtain ⟨p,i,j,rfl,hq,q⟩:=h
 obtain ⟨u,rfl,r1⟩:=zRh r
 cases r1
 obtain ⟨its,rv,pt,hz⟩:=I.tuple hq
 obtain ⟨u1,u2,rfl,⟨t,rfl⟩,⟨t',rfl⟩⟩:=zVf rv
 have hT:s.heap.IsTuple p (intItems #[(i,t),(j,t')]):=by
  have z:s.heap.IsTuple p [Value.int i t,Value.int j t'].toArray:=pt
  simpa [intItems] using z
 have hlt:p < s.heap.objs.size:=by obtain ⟨o,ho,_⟩:=hT; exact Heap.lt_size ho
 refine call_min_walk (wpAny_pyIter_tuple hT ?_)
 refine ⟨_,[_,p],[_],_,_,_,_,rfl,Walks.tuple (A:=X.A.in1) (I.ok.hd hc) _ p (Nat.ne_of_lt hlt) (intItems #[(i,t),(j,t')]),
  ⟨⟨_,Heap.get?_push_size _ rfl,rfl,rfl⟩,hT.push _⟩,fun c hc=>?_,by simp [intItems],CmpOf.ints_lt (numAt #[(i,t),(j,t')]) (fun _ _=>intItems_at),fun v h' tk hP hk=>?_⟩
 ·show c < (s.heap.push _).objs.size
  rw [Heap.size_push]
  rcases List.mem_cons.mp hc with rfl | hc
  ·exact Nat.lt_succ_self _
  ·rcases List.mem_cons.mp hc with rfl | hc
   ·exact Nat.lt_succ_of_lt hlt
   ·cases hc
 ·have hold:∀ c o,s.heap.get? c = some o→h'.get? c = some o:=fun c o e=>by
   refine hk c o (fun hm=>?_) (Heap.get?_push_of_some _ e)
   rcases List.mem_cons.mp hm with e1 | hm
   ·have:=Heap.lt_size e
    rw [e1] at this
    exact Nat.lt_irrefl _ this
   ·cases hm
  have hP':(intItems #[(i,t),(j,t')])[argBest (fun a b=>decide (numAt #[(i,t),(j,t')] a < numAt #[(i,t),(j,t')] b)) 1]? = some v:=by
   have hsz2:(intItems #[(i,t),(j,t')]).size - 1 = 1:=by simp [intItems]
   rw [← hsz2]
   exact hP
  refine ⟨.int (if j < i then j else i),H,I.kept (t':=tk) hold,?_,q⟩
  by_cases hba:j < i
  ·have e:argBest (fun a b=>decide (numAt #[(i,t),(j,t')] a < numAt #[(i,t),(j,t')] b)) 1 = 1:=by simp [argBest,numAt,hba]
   rw [e] at hP'
   rw [if_pos hba]
   exact ⟨t',by simpa [intItems] using hP'.symm⟩
  ·have e:argBest (fun a b=>decide (numAt #[(i,t),(j,t')] a < numAt #[(i,t),(j,t')] b)) 1 = 0:=by simp [argBest,numAt,hba]
   rw [e] at hP'
   rw [if_neg hba]
   exact ⟨t,by simpa [intItems] using hP'.symm⟩
def rEqV2 (K:PySem.W.Frag):R2:=fun x y H Q=>∃ (a b p1 p2 q1 q2:Addr) (x1 x2 y1 y2:List Int),x = .ref a∧y = .ref b∧SqL K H a [.ref p1,.ref p2]∧SqL K H b [.ref q1,.ref q2] ∧
 H p1 = some (.tup (x1.map V.int))∧H p2 = some (.tup (x2.map V.int))∧H q1 = some (.tup (y1.map V.int))∧H q2 = some (.tup (y2.map V.int))∧Q (.bl (decide (x1 = y1) && decide (x2 = y2))) H
theorem zVe (hu:X.A.units + 64 < cLine):OpR X (compareOp .Eq) (rEqV2 X.K):=by
 intro pins s σ H x y v u Q I rx ry h
 obtain ⟨a,b,p1,p2,q1,q2,x1,x2,y1,y2,rfl,rfl,h1,h2,e1,e2,f1,f2,q⟩:=h
 cases rx
 cases ry
 obtain ⟨us,r1,k1,_⟩:=I.list h1
 obtain ⟨ws,r2,k2,_⟩:=I.list h2
 obtain ⟨u1,u2,rfl,g1,g2⟩:=zVf r1
 obtain ⟨w1,w2,rfl,g3,g4⟩:=zVf r2
 cases g1
 cases g2
 cases g3
 cases g4
 have z1:=zMm I (A:=X.A.in1) (show X.A.units + 1 < cLine by omega) e1 f1
 have z2:=zMm I (A:=X.A.in1) (show X.A.units + 1 < cLine by omega) e2 f2
 refine SeqAt.eq_listAt (e:=fun j=>if j = 0 then decide (x1 = y1) else decide (x2 = y2)) k1.isList k2.isList rfl (show X.A.units < cLine by omega) (fun j g _=>?_) ?_
 ·match j,g with
  | 0,_=>exact z1
  | 1,_=>exact z2
  | j + 2,g=>exact absurd g (by simp)
 ·refine ⟨.bl (decide (x1 = y1) && decide (x2 = y2)),H,I,?_,q⟩
  show Value.bool ((List.range 2).all _) = _
  rw [show List.range 2 = [0,1] from rfl,List.all_cons,List.all_cons,List.all_nil,Bool.and_true]
  rfl
end
end L2

namespace Sea
open PySem L2
def awB (N:Nat):List (Int × Int)→Int→Bool
 | [],_=>true
 | c :: cs,least=>if least≤c.1∧c.1 < N∧1≤c.2 then awB N cs (c.1 + 1) else false
def zFj (ss:List Sd) (f:Sd→Int) (n:Int):Int:=match ss[n.toNat]? with
 | some t=>f t
 | none=>0
def sumF (ss:List Sd) (f:Sd→Int):List (Int × Int)→Int→Int
 | [],T=>T
 | c :: cs,T=>sumF ss f cs (T + c.2 * zFj ss f c.1)
def fAt (k:Int) (t:Sd):Int:=if k = 0 then t.2.1 else if k = 1 then t.2.2.1 else t.2.2.2
theorem zM5 {ss:List Sd} : ∀ (cs:List (Int × Int)) (last:Int) (T:P3),-1≤last→goB ss cs last T = (awB ss.length cs (last + 1) && (decide ([sumF ss (fAt 0) cs T.1,sumF ss (fAt 1) cs T.2.1] = [0,0]) && decide (sumF ss (fAt 2) cs T.2.2 < 0)))
 | [],_,_,_=>rfl
 | (n,v) :: cs,last,T,hl=>by
  by_cases h:last < n∧n < ss.length∧1≤v
  ·obtain ⟨h1,h2,h3⟩:=h
   have hn:n.toNat < ss.length:=by omega
   have g:ss[n.toNat]? = some ss[n.toNat]:=List.getElem?_eq_getElem hn
   rw [zFe h1 h2 h3 g,zM5 cs n _ (by omega)]
   have e:awB ss.length ((n,v) :: cs) (last + 1) = awB ss.length cs (n + 1):=by
    rw [awB,if_pos ⟨show last + 1≤n by omega,h2,h3⟩]
   have s:∀ f:Sd→Int,zFj ss f n = f ss[n.toNat]:=fun f=>by
    unfold zFj
    rw [g]
   rw [e,sumF,sumF,sumF,s,s,s]
   rfl
  ·rw [zTy h,awB,if_neg (fun z=>h ⟨by have:last + 1≤n:=z.1; omega,z.2⟩)]
   rfl
theorem zMq {N:Nat} : ∀ {cs:List (Int × Int)} {least:Int},0≤least→awB N cs least = true→∀ c∈cs,0≤c.1∧c.1 < N
 | [],_,_,_,_,h=>nomatch h
 | a :: cs,least,hl,h,c,hc=>by
  rw [awB] at h
  split at h
  ·rename_i hh
   rcases List.mem_cons.mp hc with e | e
   ·rw [e]
    exact ⟨by have:=hh.1; omega,hh.2.1⟩
   ·exact zMq (least:=a.1 + 1) (by have:=hh.1; omega) h c e
  ·cases h
theorem zGg {t b x y:Int} (hb:b = 1) (p:zC7 t b x y):x = t∧y = 1:=by
 subst hb
 have h1:=p.pos
 have h2:=p.yle
 have hy:y = 1:=by
  have:(1:Int).natAbs = 1:=rfl
  omega
 have h3:=p.eq
 rw [hy] at h3
 exact ⟨by omega,hy⟩
theorem zKu {ps:List Pr} {i:Nat} {v:V} (h:(zBq ps)[i]? = some v):∃ t,ps[i]? = some t∧v = .ref t.1∧i < ps.length:=by
 unfold zBq at h
 rw [List.getElem?_map,List.getElem?_map] at h
 cases e:ps[i]? with
 | none=>rw [e] at h; cases h
 | some t =>
  rw [e] at h
  cases h
  exact ⟨t,rfl,rfl,(List.getElem?_eq_some_iff.mp e).1⟩
theorem zO9 (a b:Int):decide ([a,b] = [(0:Int),0]) = (decide (a = 0) && decide (b = 0)):=by
 rw [← Bool.decide_and]
 exact decide_eq_decide.mpr ⟨fun z=>⟨(List.cons.inj z).1,(List.cons.inj (List.cons.inj z).2).1⟩,fun z=>by rw [z.1,z.2]⟩
theorem zQx {α β:Type} {f:α→β} {ws:List α} {i:Nat} {t:α} (h:ws[i]? = some t):(ws.drop i).map f = f t :: (ws.drop (i + 1)).map f:=by
 obtain ⟨hi,e⟩:=List.getElem?_eq_some_iff.mp h
 rw [List.drop_eq_getElem_cons hi,e]
 rfl
structure PrSt (H0:Hp) (D:Addr) (cs:List Pr) (H:Hp):Prop where
 same:Same H0 H
 new:H0 D = none
 at':H D = some (.lst (zBq cs))
 all:PrAt H cs
theorem PrSt.app {H0 H H2:Hp} {D p:Addr} {cs:List Pr} {a b:Int} (P:PrSt H0 D cs H) (s:Same H H2) (hp:H p = none) (ep:H2 p = some (.tup [.int a,.int b])) :
  PrSt H0 D (cs ++ [(p,a,b)]) (upd H2 D (.lst (zBq cs ++ [.ref p]))):=by
 have npD:p≠D:=fun e=>by rw [e,P.at'] at hp; cases hp
 refine ⟨(P.same.trans s).putNew P.new,P.new,by rw [zAc,zKc]; rfl,fun t ht=>?_⟩
 rcases List.mem_append.mp ht with h | h
 ·have h1:=P.all t h
  rw [zA5 (zHh h1 P.at' (by intro z; cases z))]
  exact s _ _ h1
 ·rw [List.mem_singleton] at h
  subst h
  show upd H2 D _ p = _
  rw [zA5 npD]
  exact ep
theorem by3 (a b c v:Int):∃ x:Int,atI [V.int a,V.int b,V.int c] (v % 3) = some (.int x):=by
 have cc:v % 3 = 0∨v % 3 = 1∨v % 3 = 2:=by omega
 rcases cc with e | e | e
 ·exact ⟨a,by rw [e]; rfl⟩
 ·exact ⟨b,by rw [e]; rfl⟩
 ·exact ⟨c,by rw [e]; rfl⟩
end Sea

namespace Sea
open PySem L2
theorem zIy {a b:Int} {m n:Nat} (h1:a.natAbs≤m) (h2:b.natAbs≤n):zBl a b≤((m + n:Nat):Int):=by
 unfold zBl absI
 split <;> split <;> omega
structure PIb (t:TE) (σ:St) (i:Int) (n:Nat):Prop where
 rd:∀ (H:Hp) (Q:VK),Q (.int i) H→t σ H Q
 le:i.natAbs≤n
section
variable {σ:St} {ta tb:TE} {i j:Int} {m n:Nat}
end
abbrev rwRefs (xs:List (Addr × List Pr)):List V:=(xs.map (·.1)).map V.ref
structure Leads (G:Hp) (lo:Addr) (M:Nat) (xs:List (Addr × List Pr)):Prop where
 at':G lo = some (.lst (rwRefs xs))
 all:∀ u∈xs,u.1≠lo∧G u.1 = some (.lst (zBq u.2))∧PrOk G M u.2
end Sea

namespace Sea
open PySem L2
structure Rel (b x y:Int) (P P':P3):Prop where
 pos:0 < P.2.2
 pos':0 < P'.2.2
 ex:(b * P.1 + x * P.2.2) * P'.2.2 = P'.1 * P.2.2
 ey:(b * P.2.1 + y * P.2.2) * P'.2.2 = P'.2.1 * P.2.2
section
variable {b x y:Int}
theorem zL3 {p q p' q':Int} (h:p' * q = q' * p) (hq:1≤q) (hq':1≤q') (l:Nat.gcd p.natAbs q.natAbs = 1) (l':Nat.gcd p'.natAbs q'.natAbs = 1):p' = p∧q' = q:=by
 have d1:q.natAbs ∣ q'.natAbs * p.natAbs:=by rw [← Int.natAbs_mul,← h,Int.natAbs_mul]; exact Nat.dvd_mul_left _ _
 have d2:q'.natAbs ∣ p'.natAbs * q.natAbs:=by rw [← Int.natAbs_mul,h,Int.natAbs_mul]; exact Nat.dvd_mul_right _ _
 have e1:=Nat.Coprime.dvd_of_dvd_mul_right (Nat.Coprime.symm l) d1
 have e2:=Nat.Coprime.dvd_of_dvd_mul_left (Nat.Coprime.symm l') d2
 have eq:q' = q:=by
  have:=Nat.dvd_antisymm e1 e2
  omega
 refine ⟨?_,eq⟩
 rw [eq,Int.mul_comm] at h
 exact Int.eq_of_mul_eq_mul_left (by omega) h
end
end Sea

namespace L2
open PySem PySem.Spec PyProof.Rows
inductive Deep (K:PySem.W.Frag) (H:Hp):Nat→V→V→Bool→Prop where
 | same (n:Nat) (a:Addr):Deep K H n (.ref a) (.ref a) true
 | int (n:Nat) (i j:Int):Deep K H n (.int i) (.int j) (i == j)
 | str (n:Nat) (i j:Str):Deep K H n (.str i) (.str j) (i == j)
 | lst {n:Nat} {a b:Addr} {xs ys:List V} {e:Nat→Bool} (ne:a≠b) (ha:SqL K H a xs) (hb:SqL K H b ys) (hl:xs.length = ys.length) (he:∀ (j:Nat) (h1:j < xs.length) (h2:j < ys.length),Deep K H n xs[j] ys[j] (e j)):Deep K H (n + 1) (.ref a) (.ref b) ((List.range xs.length).all e)
 | lstN {n:Nat} {a b:Addr} {xs ys:List V} (ne:a≠b) (ha:SqL K H a xs) (hb:SqL K H b ys) (hl:xs.length≠ys.length):Deep K H (n + 1) (.ref a) (.ref b) false
 | tup {n:Nat} {a b:Addr} {xs ys:List V} {e:Nat→Bool} (ne:a≠b) (ha:SqT K H a xs) (hb:SqT K H b ys) (he:∀ (j:Nat) (h1:j < xs.length) (h2:j < ys.length),Deep K H n xs[j] ys[j] (e j)):Deep K H (n + 1) (.ref a) (.ref b) ((List.range (min xs.length ys.length)).all e && xs.length == ys.length)
section
variable {X:Cx} {pins:List (Addr × Obj)} {σ:St} {H:Hp} {s:Shared}
theorem Vals.at {xs:List V} {us:List Value} (r:Vals xs us) {j:Nat} (h1:j < xs.length) (h2:j < us.length):RelV xs[j] us[j]:=by
 obtain ⟨u,e,ru⟩:=r.get (List.getElem?_eq_getElem h1)
 rw [List.getElem?_eq_getElem h2] at e
 cases e
 exact ru
theorem Deep.at (I:Inv X pins σ H s) {n:Nat} {x y:V} {r:Bool} (d:Deep X.K H n x y r):∀ {A:Around} {u v:Value},A.units + n < cLine→RelV x u→RelV y v→SeqAt.EqAt A s u v r∧(u≠v→(∃ a,x = .ref a)→SeqAt.RcAt A s u v r):=by
 induction d with
 | same n a =>
  intro A u v hu rx ry
  cases rx
  cases ry
  exact ⟨SeqAt.EqAt.same _,fun h=>absurd rfl h⟩
 | int n i j =>
  intro A u v hu rx ry
  obtain ⟨t,rfl⟩:=rx
  obtain ⟨t',rfl⟩:=ry
  exact ⟨SeqAt.EqAt.int_int _ _ _ _,fun _ ⟨a,e⟩=>nomatch e⟩
 | str n i j =>
  intro A u v hu rx ry
  obtain ⟨t,rfl⟩:=rx
  obtain ⟨t',rfl⟩:=ry
  exact ⟨SeqAt.EqAt.str_str _ _ _ _,fun _ ⟨a,e⟩=>nomatch e⟩
 | lst ne ha hb hl he ih =>
  intro A u v hu rx ry
  cases rx
  cases ry
  obtain ⟨us,r1,k1,_⟩:=I.list ha
  obtain ⟨ws,r2,k2,_⟩:=I.list hb
  have l1:=r1.length
  have l2:=r2.length
  have z:=SeqAt.RcAt.lists (A:=A) (s:=s) k1.isList k2.isList (by rw [List.size_toArray,List.size_toArray]; omega) (by omega) (fun j h1 h2=>(ih j (by simpa [l1] using h1) (by simpa [l2] using h2) (A:=A.in1) (show A.units + 1 + _ < cLine by omega) (r1.at _ (by simpa using h1)) (r2.at _ (by simpa using h2))).1)
  rw [List.size_toArray,← l1] at z
  exact ⟨SeqAt.EqAt.of_refs ne z,fun _ _=>z⟩
 | lstN ne ha hb hl =>
  intro A u v hu rx ry
  cases rx
  cases ry
  obtain ⟨us,r1,k1,_⟩:=I.list ha
  obtain ⟨ws,r2,k2,_⟩:=I.list hb
  have l1:=r1.length
  have l2:=r2.length
  have z:=SeqAt.RcAt.lists_lengths (A:=A) (s:=s) k1.isList k2.isList (by rw [List.size_toArray,List.size_toArray,bne_iff_ne]; omega) (by omega)
  exact ⟨SeqAt.EqAt.of_refs ne z,fun _ _=>z⟩
 | tup ne ha hb he ih =>
  intro A u v hu rx ry
  cases rx
  cases ry
  obtain ⟨us,r1,k1,_⟩:=I.tuple ha
  obtain ⟨ws,r2,k2,_⟩:=I.tuple hb
  have l1:=r1.length
  have l2:=r2.length
  have z:=SeqAt.RcAt.tuples (A:=A) (s:=s) (show s.heap.IsTuple _ us.toArray from k1) (show s.heap.IsTuple _ ws.toArray from k2) (by omega) (fun j h1 h2=>(ih j (by simpa [l1] using h1) (by simpa [l2] using h2) (A:=A.in1) (show A.units + 1 + _ < cLine by omega) (r1.at _ (by simpa using h1)) (r2.at _ (by simpa using h2))).1)
  rw [List.size_toArray,List.size_toArray,← l1,← l2] at z
  exact ⟨SeqAt.EqAt.of_refs ne z,fun _ _=>z⟩
def rEqD (K:PySem.W.Frag):R2:=fun x y H Q=>∃ (a b:Addr) (r:Bool),x = .ref a∧y = .ref b∧a≠b∧Deep K H 8 (.ref a) (.ref b) r∧Q (.bl r) H
theorem op_eqD (hu:X.A.units + 64 < cLine):OpR X (compareOp .Eq) (rEqD X.K):=by
 intro pins s σ H x y v u Q I rx ry h
 obtain ⟨a,b,r,rfl,rfl,ne,d,q⟩:=h
 cases rx
 cases ry
 refine (Deep.at I d (A:=X.A) (by omega) rfl rfl).2 (fun e=>ne (by injection e)) ⟨a,rfl⟩ X.prog X.w _ _ ?_
 exact ⟨.bl r,H,I,rfl,q⟩
end
end L2

namespace L2
open PySem PySem.Spec PyProof.Rows
section
variable {X:Cx}
theorem op_one {op:Value→Value→Sem Value} {r1 r2:R2} (h1:OpR X op r1) (h2:OpR X op r2):OpR X op (fun x y H Q=>r1 x y H Q∨r2 x y H Q):=by
 intro pins s σ H x y v u Q I rx ry h
 rcases h with h | h
 ·exact h1 pins s σ H x y v u Q I rx ry h
 ·exact h2 pins s σ H x y v u Q I rx ry h
end
end L2

namespace Sea
open PySem L2
def awF (N:Nat):List (Int × Int × Int)→Int→Bool
 | [],_=>true
 | c :: cs,least=>if least≤c.1∧c.1 < N∧1≤c.2.1∧1≤c.2.2 then awF N cs (c.1 + 1) else false
def sumQ (ss:List Sd) (f:Sd→Int):List (Int × Int × Int)→Int × Int→Int × Int
 | [],T=>T
 | c :: cs,T=>sumQ ss f cs (sumW T c.2.1 c.2.2 (zFj ss f c.1))
theorem zG3 {ss:List Sd} {g:P3} : ∀ (ws:List (Int × Int × Int)) (last:Int) (A B C:Int × Int),-1≤last→zC4 ss g ws last A B C = if awF ss.length ws (last + 1) = true∧(sumQ ss (fAt 0) ws A).1 = g.1 * (sumQ ss (fAt 0) ws A).2∧(sumQ ss (fAt 1) ws B).1 = g.2.1 * (sumQ ss (fAt 1) ws B).2 then some (sumQ ss (fAt 2) ws C) else none
 | [],last,A,B,C,_=>by
  show (if A.1 = g.1 * A.2∧B.1 = g.2.1 * B.2 then some C else none) = if awF ss.length [] (last + 1) = true∧A.1 = g.1 * A.2∧B.1 = g.2.1 * B.2 then some C else none
  have e:awF ss.length [] (last + 1) = true:=rfl
  simp only [e,true_and]
 | (n,p,q) :: ws,last,A,B,C,hl=>by
  by_cases h:last < n∧n < ss.length∧1≤p∧1≤q
  ·obtain ⟨h1,h2,h3,h4⟩:=h
   have gt:ss[n.toNat]? = some ss[n.toNat]:=List.getElem?_eq_getElem (by omega)
   rw [zDs h1 h2 h3 h4 gt,zG3 ws n _ _ _ (by omega)]
   have ea:awF ss.length ((n,p,q) :: ws) (last + 1) = awF ss.length ws (n + 1):=by
    rw [awF,if_pos ⟨by show last + 1≤n; omega,h2,h3,h4⟩]
   have es:∀ (k:Int) (T:Int × Int),sumQ ss (fAt k) ((n,p,q) :: ws) T = sumQ ss (fAt k) ws (sumW T p q (fAt k ss[n.toNat])):=fun k T=>by
    rw [sumQ]
    unfold zFj
    dsimp only
    rw [gt]
   rw [ea,es,es,es]
   rfl
  ·rw [zKf h,if_neg]
   rintro ⟨z,_⟩
   rw [awF] at z
   split at z
   ·next c=>exact h ⟨by have:=c.1; dsimp only at this; omega,c.2⟩
   ·cases z
theorem zIc {ss:List Sd} {g:P3} (ws:List (Int × Int × Int)):zEg ss g ws = if ws.length≤2∧awF ss.length ws 0 = true∧(sumQ ss (fAt 0) ws (0,1)).1 = g.1 * (sumQ ss (fAt 0) ws (0,1)).2∧(sumQ ss (fAt 1) ws (0,1)).1 = g.2.1 * (sumQ ss (fAt 1) ws (0,1)).2 then some (sumQ ss (fAt 2) ws (0,1)) else none:=by
 unfold zEg
 by_cases h:ws.length≤2
 ·rw [if_pos h,zG3 ws (-1) _ _ _ (by decide)]
  simp only [h,true_and]
  rfl
 ·rw [if_neg h,if_neg fun z=>h z.1]
theorem zUw {x y N B:Int} (hB:B≠0) (pos:1≤y) (low:Nat.gcd x.natAbs y.natAbs = 1) (eq:x * B = y * N):zC7 N B x y:=by
 have dy:y.natAbs ∣ x.natAbs * B.natAbs:=by rw [← Int.natAbs_mul,eq,Int.natAbs_mul]; exact Nat.dvd_mul_right _ _
 have d1:=Nat.Coprime.dvd_of_dvd_mul_left (Nat.Coprime.symm low) dy
 have dx:x.natAbs ∣ y.natAbs * N.natAbs:=by rw [← Int.natAbs_mul,← eq,Int.natAbs_mul]; exact Nat.dvd_mul_right _ _
 have d2:=Nat.Coprime.dvd_of_dvd_mul_left low dx
 refine ⟨pos,low,eq,?_,Nat.le_of_dvd (by omega) d1⟩
 by_cases h:N = 0
 ·subst h
  rw [Int.mul_zero] at eq
  rcases Int.mul_eq_zero.mp eq with z | z
  ·rw [z]; exact Nat.le_refl _
  ·exact absurd z hB
 ·exact Nat.le_of_dvd (by omega) d2
theorem zQa {N B x y p q s x2 y2 x3 y3:Int} (p1:zC7 N B x y) (p2:zC7 (p * s) (q * 1) x2 y2) (p3:zC7 (x * y2 + x2 * y) (y * y2) x3 y3) (hB:B * q≠0):zC7 (N * q + s * p * B) (B * q) x3 y3:=by
 have e1:=p1.eq
 have e2:=p2.eq
 have e3:=p3.eq
 have n1:=p1.pos
 have n2:=p2.pos
 refine zUw hB p3.pos p3.low ?_
 have z:(y * y2) * (x3 * (B * q)) = (y * y2) * (y3 * (N * q + s * p * B)):=by
  rw [Int.mul_one] at e2
  have a1:(y * y2) * (x3 * (B * q)) = x3 * (y * y2) * (B * q):=by grind
  rw [a1,e3]
  have a2:y3 * (x * y2 + x2 * y) * (B * q) = y3 * (x * B * (y2 * q) + x2 * q * (y * B)):=by grind
  rw [a2,e1,e2]
  grind
 exact Int.eq_of_mul_eq_mul_left (Int.mul_ne_zero (by omega) (by omega)) z
abbrev ones (cs:List (Int × Int)):List (Int × Int × Int):=cs.map fun c=>(c.1,c.2,1)
theorem zTu (N:Nat):∀ (cs:List (Int × Int)) (least:Int),awF N (ones cs) least = awB N cs least
 | [],_=>rfl
 | c :: cs,least=>by
  show (if least≤c.1∧c.1 < N∧1≤c.2∧(1:Int)≤1 then awF N (ones cs) (c.1 + 1) else false) = awB N (c :: cs) least
  rw [awB,zTu N cs]
  by_cases h:least≤c.1∧c.1 < N∧1≤c.2
  ·rw [if_pos h,if_pos ⟨h.1,h.2.1,h.2.2,by decide⟩]
  ·rw [if_neg h,if_neg fun z=>h ⟨z.1,z.2.1,z.2.2.1⟩]
theorem zR1 (ss:List Sd) (f:Sd→Int):∀ (cs:List (Int × Int)) (T:Int),sumQ ss f (ones cs) (T,1) = (sumF ss f cs T,1)
 | [],_=>rfl
 | c :: cs,T=>by
  show sumQ ss f (ones cs) (sumW (T,1) c.2 1 (zFj ss f c.1)) = (sumF ss f cs (T + c.2 * zFj ss f c.1),1)
  rw [← zR1 ss f cs]
  unfold sumW
  dsimp only
  rw [Int.mul_one,Int.mul_one,Int.mul_one,Int.mul_comm (zFj ss f c.1)]
end Sea

namespace L2
open PySem PySem.Spec PyProof.Rows
section
variable {X:Cx}
def zRp (i j:Int):Prop:=CMul i j∨zPw i j
theorem zNg:OpR X (binaryOp .Mult) (rI zRp fun i j=>.int (i * j)):=by
 intro pins s σ H x y v u Q I rx ry h
 obtain ⟨i,j,ex,ey,c,q⟩:=h
 rcases c with c | c
 ·exact zA0 pins s σ H x y v u Q I rx ry ⟨i,j,ex,ey,c,q⟩
 ·exact zG1 pins s σ H x y v u Q I rx ry ⟨i,j,ex,ey,c,q⟩
def rEqNT (K:PySem.W.Frag):R2:=fun x y H Q=>∃ (b:Addr) (xs:List V),x = .non∧y = .ref b∧SqT K H b xs∧Q (.bl false) H
theorem zU8 (hu:X.A.units < cLine):OpR X (compareOp .Eq) (rEqNT X.K):=by
 intro pins s σ H x y v u Q I rx ry h
 obtain ⟨b,xs,rfl,rfl,h1,q⟩:=h
 cases rx
 cases ry
 obtain ⟨us,r1,p1,_⟩:=I.tuple h1
 exact SeqAt.RcAt.none_tuple (show s.heap.IsTuple b us.toArray from p1) hu X.prog X.w _ _ ⟨.bl false,H,I,rfl,q⟩
end
end L2

namespace L2
open PySem PySem.Spec PyProof.Rows
theorem walk_of2 {l:PySem.W.OpenLaw} {n k:Nat} {q:Program} {loose:List Str} {XP:(Str→Option Value)→Heap→Prop} {YP:World→Heap→Prop} {d:DefRec} {KK:Params→PySem.W.Frag} {K:PySem.W.Frag} {sp:Sp} {x:Str}
  (hn:l.most = some n) (hn2:n≤sizeLine) (hdf:d.params.defaults = []) (hr:Room k callerA)
  (hY:∀ (w:World) (h:Heap),YP w h→(KK w.params).In h) (sub:∀ (p:Params) (h:Heap),(KK p).In h→K.In h)
  (F:∀ (w:World) (mg:Str→Option Value) (fa:Addr) (h:Heap),(KK w.params).In h→h.Ns mainGlobals mg→mg d.name = some (.ref fa) →
   ∃ fd:FuncData,(∀ (s:Shared) (u:Value),BindsTo s fd ⟨[u],[]⟩ [(x,u)]) ∧
    ∀ base:Heap,K.In base→base.Ns mainGlobals mg→FnOk l.prog w K mg base CX0 k fa fd [x] sp)
  (hsp:∀ (H:Hp) (a:Addr) (ns:List Int),ns.length≤n→SqL K H a (ns.map V.int)→sp [.ref a] H (fun v _=>v = .bl true) fun _ _ _=>False) :
  PySem.W.WalkO q loose XP YP l.row.toRowW d [] (fun f vs=>PySem.call f vs):=by
 refine Att.attach_call hn hdf fun w s₀ s₁ mg mb fa o pm cd doc a vs ns G Y ho hd hcd hmg hobj hints hlen hg=>?_
 have KX:=hY w _ Y
 obtain ⟨fd,hb,hF⟩:=F w mg fa _ KX G.T.g hmg
 exact zS8 (sub _ _ KX) G.T.g G.T.b G.T.builtins G.T.nolimit hg hobj hints (Nat.le_trans hlen hn2) hr hF hb (fun H hO hS=>hsp H a ns hlen hS) fun H e s' z=>z
theorem zUf {e:Addr × Obj} {K:PySem.W.Frag} {h:Heap} (n:List.lookup e.1 K = none) (X:PySem.W.Frag.In (e :: K) h):PySem.W.Frag.In K h:=fun a o q=>X a o (by
 rw [List.lookup_cons]
 by_cases z:a = e.1
 ·rw [z,n] at q
  cases q
 ·rw [beq_eq_false_iff_ne.mpr z]
  exact q)
end L2

-- LAW
namespace Sea
open PySem L2
structure Zs (mg:Str→Option Value):Prop where
 abs:mg "abs" = none
 all:mg "all" = none
 bool:mg "bool" = none
 enumerate:mg "enumerate" = none
 int:mg "int" = none
 isinstance:mg "isinstance" = none
 len:mg "len" = none
 list:mg "list" = none
 min:mg "min" = none
 range:mg "range" = none
 sorted:mg "sorted" = none
 str:mg "str" = none
 tuple:mg "tuple" = none
 zip:mg "zip" = none
theorem zBd:zAx ["numbers", "shared", "number", "rest", "smaller"] ["numbers"] (zAn zCm):=⟨rfl,rfl,rfl,by decide +kernel,rfl,by decide +kernel,by decide +kernel⟩
theorem zJq:zAx ["numbers", "shared"] ["numbers"] (zAn zGb):=⟨rfl,rfl,rfl,by decide +kernel,rfl,by decide +kernel,by decide +kernel⟩
theorem zMi:zAx ["numbers"] ["numbers"] (zAn zE8):=⟨rfl,rfl,rfl,by decide +kernel,rfl,by decide +kernel,by decide +kernel⟩
theorem zR6:zAx ["top", "bottom"] ["top", "bottom"] (zAn zIx):=⟨rfl,rfl,rfl,by decide +kernel,rfl,by decide +kernel,by decide +kernel⟩
theorem zQv:zAx ["one", "other"] ["one", "other"] (zAn zIo):=⟨rfl,rfl,rfl,by decide +kernel,rfl,by decide +kernel,by decide +kernel⟩
theorem zO8:zAx ["one", "other"] ["one", "other"] (zAn zHr):=⟨rfl,rfl,rfl,by decide +kernel,rfl,by decide +kernel,by decide +kernel⟩
theorem zOy:zAx ["one", "other"] ["one", "other"] (zAn zHt):=⟨rfl,rfl,rfl,by decide +kernel,rfl,by decide +kernel,by decide +kernel⟩
theorem zSh:zAx ["x", "y", "w"] ["x", "y", "w"] (zAn zIh):=⟨rfl,rfl,rfl,by decide +kernel,rfl,by decide +kernel,by decide +kernel⟩
theorem zQ5:zAx ["one", "other"] ["one", "other"] (zAn zIk):=⟨rfl,rfl,rfl,by decide +kernel,rfl,by decide +kernel,by decide +kernel⟩
theorem zPn:zAx ["one", "other"] ["one", "other"] (zAn zHs):=⟨rfl,rfl,rfl,by decide +kernel,rfl,by decide +kernel,by decide +kernel⟩
theorem zP3:zAx ["direction"] ["direction"] (zAn zHn):=⟨rfl,rfl,rfl,by decide +kernel,rfl,by decide +kernel,by decide +kernel⟩
theorem zN1:zAx ["side", "spot"] ["side", "spot"] (zAn zGj):=⟨rfl,rfl,rfl,by decide +kernel,rfl,by decide +kernel,by decide +kernel⟩
theorem zPo:zAx ["side", "spot"] ["side", "spot"] (zAn zHd):=⟨rfl,rfl,rfl,by decide +kernel,rfl,by decide +kernel,by decide +kernel⟩
theorem zD2:zAx ["one", "other", "w", "x", "y"] ["one", "other"] (zAn zEo):=⟨rfl,rfl,rfl,by decide +kernel,rfl,by decide +kernel,by decide +kernel⟩
theorem zHc:zAx ["sides", "place", "side"] ["sides", "place"] (zAn zEj):=⟨rfl,rfl,rfl,by decide +kernel,rfl,by decide +kernel,by decide +kernel⟩
theorem zRy:zAx ["side"] ["side"] (zAn zIr):=⟨rfl,rfl,rfl,by decide +kernel,rfl,by decide +kernel,by decide +kernel⟩
theorem zB0:zAx ["sides", "edge", "hand", "found", "place", "number", "side"] ["sides", "edge", "hand"] (zAn zEq):=⟨rfl,rfl,rfl,by decide +kernel,rfl,by decide +kernel,by decide +kernel⟩
theorem zGs:zAx ["sides", "edge", "numbers"] ["sides", "edge"] (zAn zD0):=⟨rfl,rfl,rfl,by decide +kernel,rfl,by decide +kernel,by decide +kernel⟩
theorem zE4:zAx ["sides", "edge", "place"] ["sides", "edge"] (zAn zCz):=⟨rfl,rfl,rfl,by decide +kernel,rfl,by decide +kernel,by decide +kernel⟩
theorem zFa:zAx ["sides", "place", "number"] ["sides"] (zAn zGa):=⟨rfl,rfl,rfl,by decide +kernel,rfl,by decide +kernel,by decide +kernel⟩
theorem zJ9:zAx ["sides"] ["sides"] (zAn zDw):=⟨rfl,rfl,rfl,by decide +kernel,rfl,by decide +kernel,by decide +kernel⟩
theorem zJj:zAx ["sides", "direction", "side"] ["sides", "direction"] (zAn zGc):=⟨rfl,rfl,rfl,by decide +kernel,rfl,by decide +kernel,by decide +kernel⟩
theorem zHg:zAx ["sides", "found", "side", "direction"] ["sides"] (zAn zIi):=⟨rfl,rfl,rfl,by decide +kernel,rfl,by decide +kernel,by decide +kernel⟩
theorem zP6:zAx ["direction"] ["direction"] (zAn zIg):=⟨rfl,rfl,rfl,by decide +kernel,rfl,by decide +kernel,by decide +kernel⟩
theorem zIa:zAx ["numbers", "weights", "least"] ["numbers", "weights"] (zAn zE9):=⟨rfl,rfl,rfl,by decide +kernel,rfl,by decide +kernel,by decide +kernel⟩
theorem zBe:zAx ["sides", "last", "edge", "numbers", "one", "other", "weights"] ["sides", "last"] (zAn zCh):=⟨rfl,rfl,rfl,by decide +kernel,rfl,by decide +kernel,by decide +kernel⟩
theorem zE0:zAx ["sides", "last", "edge", "number", "side"] ["sides"] (zAn zG8):=⟨rfl,rfl,rfl,by decide +kernel,rfl,by decide +kernel,by decide +kernel⟩
theorem zFu:zAx ["sides", "direction", "way"] ["sides", "direction"] (zAn zDj):=⟨rfl,rfl,rfl,by decide +kernel,rfl,by decide +kernel,by decide +kernel⟩
theorem zDc:zAx ["sides", "direction", "number", "side", "place"] ["sides", "direction"] (zAn zDo):=⟨rfl,rfl,rfl,by decide +kernel,rfl,by decide +kernel,by decide +kernel⟩
theorem zBo:zAx ["sides", "numbers", "direction", "one", "other", "whole", "shares"] ["sides", "numbers", "direction"] (zAn zCc):=⟨rfl,rfl,rfl,by decide +kernel,rfl,by decide +kernel,by decide +kernel⟩
theorem zCi:zAx ["sides", "direction", "number", "one", "end", "place"] ["sides", "direction"] (zAn zDr):=⟨rfl,rfl,rfl,by decide +kernel,rfl,by decide +kernel,by decide +kernel⟩
theorem zH2:zAx ["sides", "direction", "shown", "way"] ["sides", "direction"] (zAn zHl):=⟨rfl,rfl,rfl,by decide +kernel,rfl,by decide +kernel,by decide +kernel⟩
theorem zC1:zAx ["sides", "weights", "least", "pair"] ["sides", "weights"] (zAn zDa):=⟨rfl,rfl,rfl,by decide +kernel,rfl,by decide +kernel,by decide +kernel⟩
theorem zE6:zAx ["sides", "weights", "at", "total", "pair"] ["sides", "weights", "at"] (zAn zGh):=⟨rfl,rfl,rfl,by decide +kernel,rfl,by decide +kernel,by decide +kernel⟩
theorem zO0:zAx ["sides", "weights", "direction"] ["sides", "weights", "direction"] (zAn zHj):=⟨rfl,rfl,rfl,by decide +kernel,rfl,by decide +kernel,by decide +kernel⟩
theorem zPs:zAx ["sides", "weights", "direction"] ["sides", "weights", "direction"] (zAn zHi):=⟨rfl,rfl,rfl,by decide +kernel,rfl,by decide +kernel,by decide +kernel⟩
theorem zF5:zAx ["sides", "paper", "weights"] ["sides", "paper"] (zAn zDl):=⟨rfl,rfl,rfl,by decide +kernel,rfl,by decide +kernel,by decide +kernel⟩
theorem zJn:zAx ["sides", "place"] ["sides", "place"] (zAn zDn):=⟨rfl,rfl,rfl,by decide +kernel,rfl,by decide +kernel,by decide +kernel⟩
theorem zJ2:zAx ["sides", "direction", "way"] ["sides", "direction", "way"] (zAn zD6):=⟨rfl,rfl,rfl,by decide +kernel,rfl,by decide +kernel,by decide +kernel⟩
theorem zK4:zAx ["sides", "direction", "place", "weights"] ["sides", "direction", "place", "weights"] (zAn zEp):=⟨rfl,rfl,rfl,by decide +kernel,rfl,by decide +kernel,by decide +kernel⟩
theorem zJy:zAx ["sides", "direction", "paper"] ["sides", "direction", "paper"] (zAn zDk):=⟨rfl,rfl,rfl,by decide +kernel,rfl,by decide +kernel,by decide +kernel⟩
theorem zBb:zAx ["_law_d", "_law_weights", "_law_rows", "_law_at", "_law_way_here", "_law_number", "_law_top", "_law_bottom"] ["_law_d", "_law_weights"] (zAn zC0):=⟨rfl,rfl,rfl,by decide +kernel,rfl,by decide +kernel,by decide +kernel⟩
theorem zB6:zAx ["_law_d", "_law_place", "_law_x", "_law_y", "_law_w", "_law_by", "_law_menu"] ["_law_d", "_law_place"] (zAn zDz):=⟨rfl,rfl,rfl,by decide +kernel,rfl,by decide +kernel,by decide +kernel⟩
theorem zOx:zAx ["_law_number"] ["_law_number"] (zAn zHp):=⟨rfl,rfl,rfl,by decide +kernel,rfl,by decide +kernel,by decide +kernel⟩
theorem zCl:zAx ["_law_script", "_law_many", "_law_rows", "_law_mix", "_law_cell", "_law_rest"] ["_law_script", "_law_many"] (zAn zG4):=⟨rfl,rfl,rfl,by decide +kernel,rfl,by decide +kernel,by decide +kernel⟩
theorem zPz:zAx ["_law_some", "_law_sides_here"] ["_law_some", "_law_sides_here"] (zAn zHo):=⟨rfl,rfl,rfl,by decide +kernel,rfl,by decide +kernel,by decide +kernel⟩
theorem zIm:zAx ["_law_one", "_law_two", "_law_wide", "_law_x", "_law_y"] ["_law_one", "_law_two", "_law_wide"] (zAn zKz):=⟨rfl,rfl,rfl,by decide +kernel,rfl,by decide +kernel,by decide +kernel⟩
theorem zE5:zAx ["_law_d", "_law_a", "_law_b", "_law_c"] ["_law_d"] (zAn zIq):=⟨rfl,rfl,rfl,by decide +kernel,rfl,by decide +kernel,by decide +kernel⟩
theorem zD8:zAx ["_law_some", "_law_many", "_law_rows", "_law_x", "_law_y"] ["_law_some", "_law_many"] (zAn zHu):=⟨rfl,rfl,rfl,by decide +kernel,rfl,by decide +kernel,by decide +kernel⟩
theorem zRz:zAx ["_law_told", "_law_due"] ["_law_told", "_law_due"] (zAn zG2):=⟨rfl,rfl,rfl,by decide +kernel,rfl,by decide +kernel,by decide +kernel⟩
theorem zNd:zAx ["_law_paper"] ["_law_paper"] (zAn zGi):=⟨rfl,rfl,rfl,by decide +kernel,rfl,by decide +kernel,by decide +kernel⟩
theorem zPc:zAx ["_law_found"] ["_law_found"] (zAn zG9):=⟨rfl,rfl,rfl,by decide +kernel,rfl,by decide +kernel,by decide +kernel⟩
theorem zL5:zAx ["_law_found", "_law_many"] ["_law_found", "_law_many"] (zAn zFg):=⟨rfl,rfl,rfl,by decide +kernel,rfl,by decide +kernel,by decide +kernel⟩
theorem zBi:zAx ["_law_sides_here", "_law_paper", "_law_last", "_law_total", "_law_pair", "_law_a", "_law_b", "_law_c"] ["_law_sides_here", "_law_paper"] (zAn zEl):=⟨rfl,rfl,rfl,by decide +kernel,rfl,by decide +kernel,by decide +kernel⟩
theorem zIt:zAx ["_law_one", "_law_other"] ["_law_one", "_law_other"] (zAn zLh):=⟨rfl,rfl,rfl,by decide +kernel,rfl,by decide +kernel,by decide +kernel⟩
theorem zF1:zAx ["_law_x", "_law_y", "_law_w", "_law_by"] ["_law_x", "_law_y", "_law_w"] (zAn zFf):=⟨rfl,rfl,rfl,by decide +kernel,rfl,by decide +kernel,by decide +kernel⟩
theorem zM4:zAx ["_law_one", "_law_other", "_law_by"] ["_law_one", "_law_other"] (zAn zIl):=⟨rfl,rfl,rfl,by decide +kernel,rfl,by decide +kernel,by decide +kernel⟩
theorem zIv:zAx ["_law_sides_here", "_law_place", "_law_x", "_law_y", "_law_w"] ["_law_sides_here", "_law_place"] (zAn zLi):=⟨rfl,rfl,rfl,by decide +kernel,rfl,by decide +kernel,by decide +kernel⟩
theorem zBy:zAx ["_law_sides_here", "_law_found", "_law_at", "_law_one", "_law_other", "_law_place"] ["_law_sides_here"] (zAn zDm):=⟨rfl,rfl,rfl,by decide +kernel,rfl,by decide +kernel,by decide +kernel⟩
theorem zRv:zAx ["_law_sides_here"] ["_law_sides_here"] (zAn zIj):=⟨rfl,rfl,rfl,by decide +kernel,rfl,by decide +kernel,by decide +kernel⟩
theorem zGn:zAx ["_law_sides_here", "_law_place"] ["_law_sides_here"] (zAn zD1):=⟨rfl,rfl,rfl,by decide +kernel,rfl,by decide +kernel,by decide +kernel⟩
theorem zNn:zAx ["_law_one", "_law_weight", "_law_number"] ["_law_one", "_law_weight", "_law_number"] (zAn zGe):=⟨rfl,rfl,rfl,by decide +kernel,rfl,by decide +kernel,by decide +kernel⟩
theorem zD9:zAx ["_law_sides_here", "_law_direction", "_law_weights", "_law_last", "_law_total", "_law_pair"] ["_law_sides_here", "_law_direction", "_law_weights"] (zAn zHf):=⟨rfl,rfl,rfl,by decide +kernel,rfl,by decide +kernel,by decide +kernel⟩
theorem zBm:zAx ["_law_sides_here", "_law_direction", "_law_paper", "_law_x", "_law_y", "_law_w", "_law_top"] ["_law_sides_here", "_law_direction", "_law_paper"] (zAn zDp):=⟨rfl,rfl,rfl,by decide +kernel,rfl,by decide +kernel,by decide +kernel⟩
theorem zF0:zAx ["_law_d", "_law_paper", "_law_rows", "_law_x", "_law_y", "_law_menu"] ["_law_d", "_law_paper"] (zAn zI0):=⟨rfl,rfl,rfl,by decide +kernel,rfl,by decide +kernel,by decide +kernel⟩
theorem zFi:zAx ["_law_script", "_law_some", "_law_sides_here", "_law_one", "_law_paper", "_law_k", "_law_handed", "_law_found"] ["_law_script"] (zAn zNk):=⟨rfl,rfl,rfl,by decide +kernel,rfl,by decide +kernel,by decide +kernel⟩
section
variable {P:Program} {w:World} {mg:Str→Option Value} {base:Heap} {f:Addr} {fd:FuncData}
def zEn (K:PySem.W.Frag):Sp:=fun vs H Q _=>∃ (a:Addr) (ns:List Int),vs = [.ref a]∧Sq K H a (ns.map V.int)∧Q (.int (gcdL ns)) H
theorem zHb (F:Fun K "common_factor" "common_factor" zCm f fd) (Z:Zs mg):FnOk P w K mg base CX0 1 f fd ["numbers"] (zEn K):=by
 refine F.ok zBd (fun vs H Q E h=>?_) (fun cdv A outer s H vs Q E hr h=>?_)
 ·obtain ⟨a,ns,rfl,_⟩:=h
  rfl
 obtain ⟨a,ns,rfl,hS,q⟩:=h
 refine ⟨_,(zAf (zAy (i:=1) zBd.nd rfl (Or.inl rfl) zAb)
   (zAf (zCv PassesOwn.never rfl (zCd (pv 0)) (zAr (i:=2) zBd.nd rfl (Or.inl rfl)) (zAf (zAy (i:=3) zBd.nd rfl (Or.inl rfl) (zAu zCy rfl Z.abs zFh (zAa (pv 2) zAe)))
   (zAi (zIu PassesOwn.never (zAs zMk (pv 3) zAb (zAt _)) (zAf (zAy (i:=4) zBd.nd rfl (Or.inl rfl) (zAl zA7 (pv 1) (pv 3)))
   (zAf (zAy (i:=1) zBd.nd rfl (Or.inl rfl) (pv 3))
   (zAi (zAy (i:=3) zBd.nd rfl (Or.inl rfl) (pv 4)))))))))
   (zAi (zAq (pv 1))))),?_⟩
 try dsimp only [L2.cxOf]
 have mono:∀ (σ:St) (H:Hp) (Q Q':Bool→Hp→Prop),(∀ b H1,Q b H1→Q' b H1)→zQq (tOp rNe (tVar 3) (tC (.int 0))) σ H Q→zQq (tOp rNe (tVar 3) (tC (.int 0))) σ H Q':=fun σ H Q Q' hq z=>by
  obtain ⟨v,hv,hs,k,hk,z⟩:=z
  exact ⟨v,hv,hs,k,hk,hq _ _ z⟩
 rcases hS with hS | hS
 ·refine ⟨_,rfl,a,rfl,.inl ⟨⟨_,hS⟩,zCg (K:=K) (a:=a) (xs:=ns.map V.int) (fun i σ H'=>H' = H∧∃ (u v z:Option V),σ = [some (.ref a),some (.int (gcdL (ns.take i))),u,v,z]) ⟨rfl,none,none,none,rfl⟩ (fun i σ H' _ ⟨e,_⟩=>by rw [e]; exact hS) ?_ ?_⟩⟩
  ·rintro i x σ H' hi ⟨rfl,u,v,z,rfl⟩
   obtain ⟨n,hn,rfl⟩:=zB7 hi
   refine ⟨_,rfl,n,rfl,?_⟩
   refine zHv (fun σ H1=>H1 = H'∧∃ (g r:Int) (y:Option V),σ = [some (.ref a),some (.int g),some (.int n),some (.int r),y]∧0≤g∧0≤r∧Nat.gcd g.toNat r.toNat = gcdL (ns.take (i + 1)))
    (fun σ _=>match σ with | [_,_,_,some (.int r),_]=>r.toNat | _=>0) ⟨rfl,_,_,_,rfl,Int.natCast_nonneg _,by split <;> omega,?_⟩ ?_ mono
   ·rw [zBn hn,zMj,zOl]; rfl
   ·rintro σ H1 ⟨rfl,g,r,y,rfl,h1,h2,h3⟩
    refine ⟨_,rfl,rfl,_,rfl,?_⟩
    refine ifNe (fun hr0=>?_) (fun hr0=>?_)
    ·refine ⟨_,rfl,_,rfl,_,_,rfl,rfl,(by show (0:Int) < r; omega),_,rfl,_,rfl,⟨rfl,_,_,_,rfl,h2,Int.emod_nonneg g hr0,?_⟩,?_⟩
     ·rw [zLl h1 (by omega)]; exact h3
     ·have h4:=Int.emod_lt_of_pos g (show 0 < r by omega)
      show (g % r).toNat < r.toNat
      omega
    ·subst hr0
     have h5:g = ((gcdL (ns.take (i + 1)):Nat):Int):=by
      rw [← h3]
      show g = ((Nat.gcd g.toNat 0:Nat):Int)
      rw [Nat.gcd_zero_right]
      omega
     exact ⟨rfl,some (.int n),some (.int 0),y,by rw [h5]⟩
  ·rintro σ H' ⟨rfl,u,v,z,rfl⟩
   refine ⟨_,rfl,?_⟩
   rw [List.length_map,List.take_length]
   exact q
 ·refine ⟨_,rfl,a,rfl,.inr ⟨⟨_,hS⟩,zUz (K:=K) (a:=a) (xs:=ns.map V.int) (fun i σ H'=>H' = H∧∃ (u v z:Option V),σ = [some (.ref a),some (.int (gcdL (ns.take i))),u,v,z]) ⟨rfl,none,none,none,rfl⟩ (fun i σ H' _ ⟨e,_⟩=>by rw [e]; exact hS) ?_ ?_⟩⟩
  ·rintro i x σ H' hi ⟨rfl,u,v,z,rfl⟩
   obtain ⟨n,hn,rfl⟩:=zB7 hi
   refine ⟨_,rfl,n,rfl,?_⟩
   refine zHv (fun σ H1=>H1 = H'∧∃ (g r:Int) (y:Option V),σ = [some (.ref a),some (.int g),some (.int n),some (.int r),y]∧0≤g∧0≤r∧Nat.gcd g.toNat r.toNat = gcdL (ns.take (i + 1)))
    (fun σ _=>match σ with | [_,_,_,some (.int r),_]=>r.toNat | _=>0) ⟨rfl,_,_,_,rfl,Int.natCast_nonneg _,by split <;> omega,?_⟩ ?_ mono
   ·rw [zBn hn,zMj,zOl]; rfl
   ·rintro σ H1 ⟨rfl,g,r,y,rfl,h1,h2,h3⟩
    refine ⟨_,rfl,rfl,_,rfl,?_⟩
    refine ifNe (fun hr0=>?_) (fun hr0=>?_)
    ·refine ⟨_,rfl,_,rfl,_,_,rfl,rfl,(by show (0:Int) < r; omega),_,rfl,_,rfl,⟨rfl,_,_,_,rfl,h2,Int.emod_nonneg g hr0,?_⟩,?_⟩
     ·rw [zLl h1 (by omega)]; exact h3
     ·have h4:=Int.emod_lt_of_pos g (show 0 < r by omega)
      show (g % r).toNat < r.toNat
      omega
    ·subst hr0
     have h5:g = ((gcdL (ns.take (i + 1)):Nat):Int):=by
      rw [← h3]
      show g = ((Nat.gcd g.toNat 0:Nat):Int)
      rw [Nat.gcd_zero_right]
      omega
     exact ⟨rfl,some (.int n),some (.int 0),y,by rw [h5]⟩
  ·rintro σ H' ⟨rfl,u,v,z,rfl⟩
   refine ⟨_,rfl,?_⟩
   rw [List.length_map,List.take_length]
   exact q
def zDh (K:PySem.W.Frag):Sp:=fun vs H Q _=>∃ (a:Addr) (ns:List Int),vs = [.ref a]∧Sq K H a (ns.map V.int)∧ns.length≤1000∧0 < gcdL ns∧(gcdL ns:Int) < 10 ^ 600 ∧
 ∀ (p:Addr) (H':Hp),Same H H'→H p = none→H' p = some (.tup ((lowL ns).map V.int))→Q (.ref p) H'
theorem zNs (F:Fun K "lowest" "lowest" zGb f fd) (Z:Zs mg) (h_p_common_factor:Has P w K mg base "common_factor" 1 ["numbers"] (zEn K)):FnOk P w K mg base CX0 2 f fd ["numbers"] (zDh K):=by
 refine F.ok zJq (fun vs H Q E h=>?_) (fun cdv A outer s H vs Q E hr h=>?_)
 ·obtain ⟨a,ns,rfl,_⟩:=h
  rfl
 obtain ⟨a,ns,rfl,hS,hl,hg,hg2,q⟩:=h
 refine ⟨_,(zAf (zAy (i:=1) zJq.nd rfl (Or.inr rfl) (zAh h_p_common_factor (hr.mono (by decide)) rfl (zAa (pv 0) zAe)))
   (zAi (zAq (zCj zLj rfl Z.tuple zGk (zAa (zC2 (T:=["number"]) (caps:=[("shared", 1)]) ⟨rfl,by decide +kernel,by decide +kernel,rfl,⟨⟨rfl,rfl,Or.inl rfl⟩,True.intro⟩⟩ rfl (zCd (pv 0)) (fun _=>(zAr (i:=0) (show (["number", "shared"]:List Str).Nodup by decide +kernel) rfl (Or.inl rfl))) (fun _=>zBg) (fun _=>(zAl zCx (pv 0) (pv 1)))) zAe))))),?_⟩
 try dsimp only [L2.cxOf]
 refine ⟨_,rfl,a,ns,rfl,hS,?_⟩
 have fin:∀ (D:Addr) (H':Hp),H D = none→Same H H'→H' D = some (.lst ((lowL ns).map V.int))→∀ l,H' l = none→Q (.ref l) (upd H' l (.tup ((lowL ns).map V.int))):=fun D H' hD hs e l hl =>
  q l _ (hs.trans (zAd hl _)) (hs.free hl) zAc
 have len:∀ i,((ns.take i).map fun n=>V.int (n / (gcdL ns:Int))).length < sizeLine:=fun i=>zA6 (by rw [List.length_map,List.length_take]; omega)
 rcases hS with hS | hS
 ·refine ⟨_,rfl,a,rfl,.inl ⟨⟨_,hS⟩,fun c D hD=>zBx (K:=K) (a:=a) (xs:=ns.map V.int) (fun i σ ys H'=>H' = upd H D (.lst ys)∧ys = (ns.take i).map (fun n=>V.int (n / (gcdL ns:Int)))∧∃ u,σ = [u,some (.int (gcdL ns))])
   ⟨rfl,rfl,none,rfl⟩ (fun i σ ys H' _ ⟨e,_⟩=>by rw [e]; exact ⟨(zAd hD _).seq hS,zAc⟩) ?_ ?_⟩⟩
  ·rintro i x σ ys H' hi ⟨rfl,rfl,u,rfl⟩
   obtain ⟨n,hn,rfl⟩:=zB7 hi
   refine ⟨_,rfl,_,rfl,_,_,rfl,rfl,zEr.of (by omega) hg2,zAc,len i,?_⟩
   refine ⟨zGx,?_,_,rfl⟩
   rw [zBn hn,List.map_append]
   rfl
  ·rintro σ ys H' ⟨rfl,rfl,u,rfl⟩
   rw [List.length_map,List.take_length]
   have e:(ns.map fun n=>V.int (n / (gcdL ns:Int))) = (lowL ns).map V.int:=by unfold lowL; rw [List.map_map]; rfl
   rw [e]
   exact ⟨D,_,rfl,.inl ⟨SqL.of zAc,fin D _ hD (zAd hD _) zAc⟩⟩
 ·refine ⟨_,rfl,a,rfl,.inr ⟨⟨_,hS⟩,fun c D hD=>zHe (K:=K) (a:=a) (xs:=ns.map V.int) (fun i σ ys H'=>H' = upd H D (.lst ys)∧ys = (ns.take i).map (fun n=>V.int (n / (gcdL ns:Int)))∧∃ u,σ = [u,some (.int (gcdL ns))])
   ⟨rfl,rfl,none,rfl⟩ (fun i σ ys H' _ ⟨e,_⟩=>by rw [e]; exact ⟨SqT.same hS (zAd hD _),zAc⟩) ?_ ?_⟩⟩
  ·rintro i x σ ys H' hi ⟨rfl,rfl,u,rfl⟩
   obtain ⟨n,hn,rfl⟩:=zB7 hi
   refine ⟨_,rfl,_,rfl,_,_,rfl,rfl,zEr.of (by omega) hg2,zAc,len i,?_⟩
   refine ⟨zGx,?_,_,rfl⟩
   rw [zBn hn,List.map_append]
   rfl
  ·rintro σ ys H' ⟨rfl,rfl,u,rfl⟩
   rw [List.length_map,List.take_length]
   have e:(ns.map fun n=>V.int (n / (gcdL ns:Int))) = (lowL ns).map V.int:=by unfold lowL; rw [List.map_map]; rfl
   rw [e]
   exact ⟨D,_,rfl,.inl ⟨SqL.of zAc,fin D _ hD (zAd hD _) zAc⟩⟩
def zEm (K:PySem.W.Frag):Sp:=fun vs H Q _=>∃ (a:Addr) (ns:List Int) (l:Int),vs = [.ref a]∧Sq K H a (ns.map V.int)∧ns.length≤1000∧atI (ns.map V.int) (-1) = some (.int l)∧l∈ns∧l≠0∧l.natAbs < 10 ^ 500 ∧
 ∀ (p:Addr) (H':Hp),Same H H'→H p = none→H' p = some (.tup ((lowL (if l < 0 then ns.map (fun n=>-n) else ns)).map V.int))→Q (.ref p) H'
theorem zMd (F:Fun K "upright" "upright" zE8 f fd) (Z:Zs mg) (h_p_lowest:Has P w K mg base "lowest" 2 ["numbers"] (zDh K)):FnOk P w K mg base CX0 3 f fd ["numbers"] (zEm K):=by
 refine F.ok zMi (fun vs H Q E h=>?_) (fun cdv A outer s H vs Q E hr h=>?_)
 ·obtain ⟨a,ns,l,rfl,_⟩:=h
  rfl
 obtain ⟨a,ns,l,rfl,hS,hl,hat,hm,h0,hb,q⟩:=h
 refine ⟨_,(zAf (zA9 (zAs zFk (zAk zAg (pv 0) (zEi zCp zAb) (fun _ _=>rfl)) zAb (zAt _)) (zAi (zAq (zAh h_p_lowest (hr.mono (by decide)) rfl (zAa (zC2 (T:=["number"]) (caps:=[]) ⟨rfl,by decide +kernel,by decide +kernel,rfl,True.intro⟩ rfl (zCd (pv 0)) (fun _=>(zAr (i:=0) (show (["number"]:List Str).Nodup by decide +kernel) rfl (Or.inl rfl))) (fun _=>zBg) (fun _=>(zEi zCp (pv 0)))) zAe)))) zAv)
   (zAi (zAq (zAh h_p_lowest (hr.mono (by decide)) rfl (zAa (pv 0) zAe))))),?_⟩
 try dsimp only [L2.cxOf]
 refine ⟨_,rfl,_,rfl,a,_,_,_,rfl,rfl,hS,hat,_,_,rfl,rfl,_,rfl,?_⟩
 have gp:0 < gcdL ns:=zCf hm h0
 have gb:(gcdL ns:Int) < 10 ^ 600:=by
  have h1:=zGv hm h0
  have h2:(10:Nat) ^ 500 < 10 ^ 600:=by decide +kernel
  have h3:((10:Int) ^ 600) = ((10 ^ 600:Nat):Int):=by rw [Int.natCast_pow]; rfl
  rw [h3]
  omega
 refine ifD (fun hneg=>?_) (fun hneg=>?_)
 ·have len:∀ i,((ns.take i).map fun n=>V.int (-n)).length < sizeLine:=fun i=>zA6 (by rw [List.length_map,List.length_take]; omega)
  have fin:∀ (D:Addr) (H':Hp),H D = none→Same H H'→H' D = some (.lst ((ns.map fun n=>-n).map V.int))→zDh K [.ref D] H' Q E0:=fun D H' hD hs e=>by
   refine ⟨D,ns.map fun n=>-n,rfl,.inl (SqL.of e),by rw [List.length_map]; exact hl,by rw [zOs]; exact gp,by rw [zOs]; exact gb,fun p H2 s2 hp e2=>?_⟩
   exact q p H2 (hs.trans s2) (hs.free hp) (by rw [if_pos hneg]; exact e2)
  rcases hS with hS | hS
  ·refine ⟨_,rfl,a,rfl,.inl ⟨⟨_,hS⟩,fun c D hD=>zBx (K:=K) (a:=a) (xs:=ns.map V.int) (fun i σ ys H'=>H' = upd H D (.lst ys)∧ys = (ns.take i).map (fun n=>V.int (-n))∧∃ u,σ = [u])
    ⟨rfl,rfl,none,rfl⟩ (fun i σ ys H' _ ⟨e,_⟩=>by rw [e]; exact ⟨(zAd hD _).seq hS,zAc⟩) ?_ ?_⟩⟩
   ·rintro i x σ ys H' hi ⟨rfl,rfl,u,rfl⟩
    obtain ⟨n,hn,rfl⟩:=zB7 hi
    refine ⟨_,rfl,_,rfl,zAc,len i,?_⟩
    refine ⟨zGx,?_,_,rfl⟩
    rw [zBn hn,List.map_append]
    rfl
   ·rintro σ ys H' ⟨rfl,rfl,u,rfl⟩
    rw [List.length_map,List.take_length]
    have e:(ns.map fun n=>V.int (-n)) = (ns.map fun n=>-n).map V.int:=by rw [List.map_map]; rfl
    rw [e]
    exact fin D _ hD (zAd hD _) zAc
  ·refine ⟨_,rfl,a,rfl,.inr ⟨⟨_,hS⟩,fun c D hD=>zHe (K:=K) (a:=a) (xs:=ns.map V.int) (fun i σ ys H'=>H' = upd H D (.lst ys)∧ys = (ns.take i).map (fun n=>V.int (-n))∧∃ u,σ = [u])
    ⟨rfl,rfl,none,rfl⟩ (fun i σ ys H' _ ⟨e,_⟩=>by rw [e]; exact ⟨SqT.same hS (zAd hD _),zAc⟩) ?_ ?_⟩⟩
   ·rintro i x σ ys H' hi ⟨rfl,rfl,u,rfl⟩
    obtain ⟨n,hn,rfl⟩:=zB7 hi
    refine ⟨_,rfl,_,rfl,zAc,len i,?_⟩
    refine ⟨zGx,?_,_,rfl⟩
    rw [zBn hn,List.map_append]
    rfl
   ·rintro σ ys H' ⟨rfl,rfl,u,rfl⟩
    rw [List.length_map,List.take_length]
    have e:(ns.map fun n=>V.int (-n)) = (ns.map fun n=>-n).map V.int:=by rw [List.map_map]; rfl
    rw [e]
    exact fin D _ hD (zAd hD _) zAc
 ·refine ⟨_,rfl,a,ns,rfl,hS,hl,gp,gb,fun p H2 s2 hp e2=>?_⟩
  exact q p H2 s2 hp (by rw [if_neg hneg]; exact e2)
def zC8 (K:PySem.W.Frag):Sp:=fun vs H Q _=>∃ (t b:Int),vs = [.int t,.int b]∧b≠0∧b.natAbs < 10 ^ 500 ∧
 ∀ (p:Addr) (x y:Int) (H':Hp),Same H H'→H p = none→H' p = some (.tup [.int x,.int y])→zC7 t b x y→Q (.ref p) H'
theorem zSl (F:Fun K "part" "part" zIx f fd) (Z:Zs mg) (h_p_upright:Has P w K mg base "upright" 3 ["numbers"] (zEm K)):FnOk P w K mg base CX0 4 f fd ["top", "bottom"] (zC8 K):=by
 refine F.ok zR6 (fun vs H Q E h=>?_) (fun cdv A outer s H vs Q E hr h=>?_)
 ·obtain ⟨t,b,rfl,_⟩:=h
  rfl
 obtain ⟨t,b,rfl,hb,hb2,q⟩:=h
 refine ⟨_,(zAi (zAq (zAh h_p_upright (hr.mono (by decide)) rfl (zAa (zAz (zAa (pv 0) (zAa (pv 1) zAe))) zAe)))),?_⟩
 try dsimp only [L2.cxOf]
 refine ⟨_,rfl,_,rfl,(by show 2≤sizeLine; decide),fun p hp=>⟨p,[t,b],b,rfl,.inr (SqT.of zAc),by show 2≤1000; decide,rfl,by simp,hb,hb2,fun r H2 s2 hr2 e2=>?_⟩⟩
 obtain ⟨x,y,exy,hxy⟩:=zP0 t hb
 rw [exy] at e2
 exact q r x y H2 ((zAd hp _).trans s2) ((zAd hp _).free hr2) e2 hxy
def spTwoE (K:PySem.W.Frag) (R:Int→Int→Int→Int→Hp→VK→Prop):Sp:=fun vs H Q _=>∃ (a b:Addr) (x1 y1 x2 y2:Int),vs = [.ref a,.ref b]∧SqT K H a [.int x1,.int y1]∧SqT K H b [.int x2,.int y2] ∧
 1≤y1∧1≤y2∧((y1 = 1∧y2 = 1)∨(x1.natAbs≤10 ^ 200∧y1.natAbs≤10 ^ 200∧x2.natAbs≤10 ^ 200∧y2.natAbs≤10 ^ 200))∧R x1 y1 x2 y2 H Q
def zLr (K:PySem.W.Frag):Sp:=spTwoE K fun x1 y1 x2 y2 H Q=>∀ (p:Addr) (x y:Int) (H':Hp),Same H H'→H p = none→H' p = some (.tup [.int x,.int y])→zC7 (x1 * y2 + x2 * y1) (y1 * y2) x y→Q (.ref p) H'
theorem zU0 {x y:Int} (h:y = 1∨(x.natAbs≤10 ^ 200∧y.natAbs≤10 ^ 200)):zRp x y:=by
 rcases h with rfl | ⟨h1,h2⟩
 ·exact .inl (.inr ⟨by decide,by decide⟩)
 ·exact .inr ⟨Nat.lt_of_le_of_lt h1 (by decide +kernel),Nat.lt_of_le_of_lt h2 (by decide +kernel)⟩
theorem zR5 (F:Fun K "plus" "plus" zIo f fd) (Z:Zs mg) (h_p_part:Has P w K mg base "part" 4 ["top", "bottom"] (zC8 K)):FnOk P w K mg base CX0 5 f fd ["one", "other"] (zLr K):=by
 refine F.ok zQv (fun vs H Q E h=>?_) (fun cdv A outer s H vs Q E hr h=>?_)
 ·obtain ⟨a,b,x1,y1,x2,y2,rfl,_⟩:=h
  rfl
 obtain ⟨a,b,x1,y1,x2,y2,rfl,ha,hb,p1,p2,sz,q⟩:=h
 refine ⟨_,(zAi (zAq (zAh h_p_part (hr.mono (by decide)) rfl (zAa (zAl zBc (zAl zNg (zAk zAg (pv 0) zAb (fun _ _=>rfl)) (zAk zAg (pv 1) zAb (fun _ _=>rfl))) (zAl zNg (zAk zAg (pv 1) zAb (fun _ _=>rfl)) (zAk zAg (pv 0) zAb (fun _ _=>rfl)))) (zAa (zAl zNg (zAk zAg (pv 0) zAb (fun _ _=>rfl)) (zAk zAg (pv 1) zAb (fun _ _=>rfl))) zAe))))),?_⟩
 try dsimp only [L2.cxOf]
 have c1:zRp x1 y2:=zU0 (sz.imp (fun z=>z.2) fun z=>⟨z.1,z.2.2.2⟩)
 have c2:zRp x2 y1:=zU0 (sz.imp (fun z=>z.1) fun z=>⟨z.2.2.1,z.2.1⟩)
 have c3:zRp y1 y2:=zU0 (sz.imp (fun z=>z.2) fun z=>⟨z.2.1,z.2.2.2⟩)
 have nb:(y1 * y2).natAbs < 10 ^ 500:=by
  rcases sz with ⟨rfl,rfl⟩ | ⟨_,z1,_,z2⟩
  ·decide +kernel
  ·exact Nat.lt_of_le_of_lt (zAj _ _ z1 z2) (by decide +kernel)
 refine ⟨_,rfl,a,_,_,.int x1,rfl,rfl,.inr ha,rfl,_,rfl,b,_,_,.int y2,rfl,rfl,.inr hb,rfl,_,_,rfl,rfl,c1,
  _,rfl,b,_,_,.int x2,rfl,rfl,.inr hb,rfl,_,rfl,a,_,_,.int y1,rfl,rfl,.inr ha,rfl,_,_,rfl,rfl,c2,_,_,rfl,rfl,
  _,rfl,a,_,_,.int y1,rfl,rfl,.inr ha,rfl,_,rfl,b,_,_,.int y2,rfl,rfl,.inr hb,rfl,_,_,rfl,rfl,c3,
  _,_,rfl,Int.mul_ne_zero (by omega) (by omega),nb,fun p x y H' sH hp ep po=>?_⟩
 exact q p x y H' sH hp ep po
def zKk (K:PySem.W.Frag):Sp:=fun vs H Q _=>∃ (a b:Addr) (x1 y1 x2:Int),vs = [.ref a,.ref b]∧SqT K H a [.int x1,.int y1]∧SqT K H b [.int x2,.int 1]∧1≤y1∧y1.natAbs≤10 ^ 200∧x2.natAbs≤10 ^ 13 ∧
 ∀ (p:Addr) (x y:Int) (H':Hp),Same H H'→H p = none→H' p = some (.tup [.int x,.int y])→zC7 (x1 * x2) (y1 * 1) x y→Q (.ref p) H'
theorem zOv (F:Fun K "times" "times" zHr f fd) (Z:Zs mg) (h_p_part:Has P w K mg base "part" 4 ["top", "bottom"] (zC8 K)):FnOk P w K mg base CX0 5 f fd ["one", "other"] (zKk K):=by
 refine F.ok zO8 (fun vs H Q E h=>?_) (fun cdv A outer s H vs Q E hr h=>?_)
 ·obtain ⟨a,b,x1,y1,x2,rfl,_⟩:=h
  rfl
 obtain ⟨a,b,x1,y1,x2,rfl,ha,hb,p1,m1,m2,q⟩:=h
 refine ⟨_,(zAi (zAq (zAh h_p_part (hr.mono (by decide)) rfl (zAa (zAl zA0 (zAk zAg (pv 0) zAb (fun _ _=>rfl)) (zAk zAg (pv 1) zAb (fun _ _=>rfl))) (zAa (zAl zA0 (zAk zAg (pv 0) zAb (fun _ _=>rfl)) (zAk zAg (pv 1) zAb (fun _ _=>rfl))) zAe))))),?_⟩
 try dsimp only [L2.cxOf]
 refine ⟨_,rfl,a,_,_,.int x1,rfl,rfl,.inr ha,rfl,_,rfl,b,_,_,.int x2,rfl,rfl,.inr hb,rfl,_,_,rfl,rfl,cm_r (Nat.le_trans m2 (by decide)),
  _,rfl,a,_,_,.int y1,rfl,rfl,.inr ha,rfl,_,rfl,b,_,_,.int 1,rfl,rfl,.inr hb,rfl,_,_,rfl,rfl,.inr ⟨by decide,by decide⟩,
  _,_,rfl,by omega,by rw [Int.mul_one]; exact Nat.lt_of_le_of_lt m1 (by decide +kernel),fun p x y H' sH hp ep po=>?_⟩
 exact q p x y H' sH hp ep po
def spOne (K:PySem.W.Frag) (R:Int→Int→Hp→VK→Prop):Sp:=fun vs H Q _=>∃ (a b:Addr) (x1 x2:Int),vs = [.ref a,.ref b]∧SqT K H a [.int x1,.int 1]∧SqT K H b [.int x2,.int 1]∧R x1 x2 H Q
theorem mul1s {x:Int} : CMul x 1:=.inr ⟨by decide,by decide⟩
def zKv (K:PySem.W.Frag):Sp:=spOne K fun x1 x2 H Q=>Q (.bl (decide (x1 < x2))) H
theorem zO3 (F:Fun K "below" "below" zHt f fd) (Z:Zs mg)  : FnOk P w K mg base CX0 1 f fd ["one", "other"] (zKv K):=by
 refine F.ok zOy (fun vs H Q E h=>?_) (fun cdv A outer s H vs Q E hr h=>?_)
 ·obtain ⟨a,b,x1,x2,rfl,_⟩:=h
  rfl
 obtain ⟨a,b,x1,x2,rfl,ha,hb,q⟩:=h
 refine ⟨_,(zAi (zAq (zCa zFk (zAl zA0 (zAk zAg (pv 0) zAb (fun _ _=>rfl)) (zAk zAg (pv 1) zAb (fun _ _=>rfl))) (zAl zA0 (zAk zAg (pv 1) zAb (fun _ _=>rfl)) (zAk zAg (pv 0) zAb (fun _ _=>rfl))) (zAt _)))),?_⟩
 try dsimp only [L2.cxOf]
 refine ⟨_,rfl,a,_,_,.int x1,rfl,rfl,.inr ha,rfl,_,rfl,b,_,_,.int 1,rfl,rfl,.inr hb,rfl,_,_,rfl,rfl,mul1s,
  _,rfl,b,_,_,.int x2,rfl,rfl,.inr hb,rfl,_,rfl,a,_,_,.int 1,rfl,rfl,.inr ha,rfl,_,_,rfl,rfl,mul1s,_,_,rfl,rfl,?_⟩
 rw [Int.mul_one,Int.mul_one]
 exact q
def zI7 (K:PySem.W.Frag):Sp:=fun vs H Q _=>∃ (X Y W:Int),vs = [.int X,.int Y,.int W]∧W≠0∧W.natAbs < 10 ^ 500∧∀ (p:Addr) (H':Hp),Same H H'→H p = none→H' p = some (.tup ((lowL (upL X Y W)).map V.int))→Q (.ref p) H'
theorem zSf (F:Fun K "spot" "spot" zIh f fd) (Z:Zs mg) (h_p_upright:Has P w K mg base "upright" 3 ["numbers"] (zEm K)):FnOk P w K mg base CX0 4 f fd ["x", "y", "w"] (zI7 K):=by
 refine F.ok zSh (fun vs H Q E h=>?_) (fun cdv A outer s H vs Q E hr h=>?_)
 ·obtain ⟨X,Y,W,rfl,_⟩:=h
  rfl
 obtain ⟨X,Y,W,rfl,hw,hw2,q⟩:=h
 refine ⟨_,(zAi (zAq (zAh h_p_upright (hr.mono (by decide)) rfl (zAa (zAz (zAa (pv 0) (zAa (pv 1) (zAa (pv 2) zAe)))) zAe)))),?_⟩
 try dsimp only [L2.cxOf]
 refine ⟨_,rfl,_,rfl,_,rfl,(by show 3≤sizeLine; decide),fun p hp=>⟨p,[X,Y,W],W,rfl,.inr (SqT.of zAc),by show 3≤1000; decide,rfl,by simp,hw,hw2,fun r H2 s2 hr2 e2=>?_⟩⟩
 exact q r H2 ((zAd hp _).trans s2) ((zAd hp _).free hr2) e2
def spTurn (K:PySem.W.Frag):Sp:=fun vs H Q _=>∃ (a b:Addr) (us ws:List V) (x1 y1 x2 y2:Int),vs = [.ref a,.ref b]∧Sq K H a us∧Sq K H b ws∧atI us 0 = some (.int x1)∧atI us 1 = some (.int y1)∧atI ws 0 = some (.int x2)∧atI ws 1 = some (.int y2) ∧
 x1.natAbs≤10 ^ 18∧y1.natAbs≤10 ^ 18∧Q (.int (x1 * y2 - y1 * x2)) H
def zDt (K:PySem.W.Frag):Sp:=spTurn K
theorem zSc (F:Fun K "turn" "turn" zIk f fd) (Z:Zs mg)  : FnOk P w K mg base CX0 1 f fd ["one", "other"] (zDt K):=by
 refine F.ok zQ5 (fun vs H Q E h=>?_) (fun cdv A outer s H vs Q E hr h=>?_)
 ·obtain ⟨a,b,us,ws,x1,y1,x2,y2,rfl,_⟩:=h
  rfl
 obtain ⟨a,b,us,ws,x1,y1,x2,y2,rfl,ha,hb,u0,u1,w0,w1,m1,m2,q⟩:=h
 refine ⟨_,(zAi (zAq (zAl zCe (zAl zA0 (zAk zAg (pv 0) zAb (fun _ _=>rfl)) (zAk zAg (pv 1) zAb (fun _ _=>rfl))) (zAl zA0 (zAk zAg (pv 0) zAb (fun _ _=>rfl)) (zAk zAg (pv 1) zAb (fun _ _=>rfl)))))),?_⟩
 try dsimp only [L2.cxOf]
 exact ⟨_,rfl,a,_,_,.int x1,rfl,rfl,ha,u0,_,rfl,b,_,_,.int y2,rfl,rfl,hb,w1,_,_,rfl,rfl,cm_l (by omega),
  _,rfl,a,_,_,.int y1,rfl,rfl,ha,u1,_,rfl,b,_,_,.int x2,rfl,rfl,hb,w0,_,_,rfl,rfl,cm_l (by omega),_,_,rfl,rfl,q⟩
def zDd (K:PySem.W.Frag):Sp:=fun vs H Q _=>∃ (a b:Addr) (us ws:List V) (x1 y1 x2 y2:Int),vs = [.ref a,.ref b]∧Sq K H a us∧Sq K H b ws∧atI us 0 = some (.int x1)∧atI us 1 = some (.int y1)∧atI ws 0 = some (.int x2)∧atI ws 1 = some (.int y2) ∧
 x1.natAbs≤10 ^ 18∧y1.natAbs≤10 ^ 18∧Q (.int (x1 * x2 + y1 * y2)) H
theorem zP1 (F:Fun K "along" "along" zHs f fd) (Z:Zs mg)  : FnOk P w K mg base CX0 1 f fd ["one", "other"] (zDd K):=by
 refine F.ok zPn (fun vs H Q E h=>?_) (fun cdv A outer s H vs Q E hr h=>?_)
 ·obtain ⟨a,b,us,ws,x1,y1,x2,y2,rfl,_⟩:=h
  rfl
 obtain ⟨a,b,us,ws,x1,y1,x2,y2,rfl,ha,hb,u0,u1,w0,w1,m1,m2,q⟩:=h
 refine ⟨_,(zAi (zAq (zAl zBc (zAl zA0 (zAk zAg (pv 0) zAb (fun _ _=>rfl)) (zAk zAg (pv 1) zAb (fun _ _=>rfl))) (zAl zA0 (zAk zAg (pv 0) zAb (fun _ _=>rfl)) (zAk zAg (pv 1) zAb (fun _ _=>rfl)))))),?_⟩
 try dsimp only [L2.cxOf]
 exact ⟨_,rfl,a,_,_,.int x1,rfl,rfl,ha,u0,_,rfl,b,_,_,.int x2,rfl,rfl,hb,w0,_,_,rfl,rfl,cm_l (by omega),
  _,rfl,a,_,_,.int y1,rfl,rfl,ha,u1,_,rfl,b,_,_,.int y2,rfl,rfl,hb,w1,_,_,rfl,rfl,cm_l (by omega),_,_,rfl,rfl,q⟩
def zH0 (K:PySem.W.Frag):Sp:=zDh K
theorem zPi (F:Fun K "plain" "plain" zHn f fd) (Z:Zs mg) (h_p_lowest:Has P w K mg base "lowest" 2 ["numbers"] (zDh K)):FnOk P w K mg base CX0 3 f fd ["direction"] (zH0 K):=by
 refine F.ok zP3 (fun vs H Q E h=>?_) (fun cdv A outer s H vs Q E hr h=>?_)
 ·obtain ⟨a,ns,rfl,_⟩:=h
  rfl
 obtain ⟨a,ns,rfl,h⟩:=h
 exact ⟨_,(zAi (zAq (zAh h_p_lowest (hr.mono (by decide)) rfl (zAa (pv 0) zAe)))),⟨_,rfl,a,ns,rfl,h⟩⟩
def zTv (K:PySem.W.Frag) (R:Int→Int→Int→Int→Int→Int→Hp→VK→Prop):Sp:=fun vs H Q _=>∃ (a b:Addr) (A B C x y z:Int),vs = [.ref a,.ref b]∧Sq K H a [.int A,.int B,.int C]∧Sq K H b [.int x,.int y,.int z]∧A.natAbs≤10 ^ 18∧B.natAbs≤10 ^ 18∧C.natAbs≤10 ^ 18∧R A B C x y z H Q
def zJr (K:PySem.W.Frag):Sp:=zTv K fun A B C x y z H Q=>Q (.int (A * x + B * y - C * z)) H
theorem zN0 (F:Fun K "beyond" "beyond" zGj f fd) (Z:Zs mg)  : FnOk P w K mg base CX0 1 f fd ["side", "spot"] (zJr K):=by
 refine F.ok zN1 (fun vs H Q E h=>?_) (fun cdv A outer s H vs Q E hr h=>?_)
 ·obtain ⟨a,b,A,B,C,x,y,z,rfl,_⟩:=h
  rfl
 obtain ⟨a,b,A',B,C,x,y,z,rfl,ha,hb,m1,m2,m3,q⟩:=h
 refine ⟨_,(zAi (zAq (zAl zCe (zAl zBc (zAl zA0 (zAk zAg (pv 0) zAb (fun _ _=>rfl)) (zAk zAg (pv 1) zAb (fun _ _=>rfl))) (zAl zA0 (zAk zAg (pv 0) zAb (fun _ _=>rfl)) (zAk zAg (pv 1) zAb (fun _ _=>rfl)))) (zAl zA0 (zAk zAg (pv 0) zAb (fun _ _=>rfl)) (zAk zAg (pv 1) zAb (fun _ _=>rfl)))))),?_⟩
 try dsimp only [L2.cxOf]
 exact ⟨_,rfl,a,_,_,.int A',rfl,rfl,ha,rfl,_,rfl,b,_,_,.int x,rfl,rfl,hb,rfl,_,_,rfl,rfl,cm_l (by omega),_,rfl,a,_,_,.int B,rfl,rfl,ha,rfl,_,rfl,b,_,_,.int y,rfl,rfl,hb,rfl,_,_,rfl,rfl,cm_l (by omega),_,_,rfl,rfl,_,rfl,a,_,_,.int C,rfl,rfl,ha,rfl,_,rfl,b,_,_,.int z,rfl,rfl,hb,rfl,_,_,rfl,rfl,cm_l (by omega),_,_,rfl,rfl,q⟩
def zE3 (K:PySem.W.Frag):Sp:=zTv K fun A B C x y z H Q=>Q (.bl (decide (A * x + B * y - C * z≤0))) H
theorem zO1 (F:Fun K "holds" "holds" zHd f fd) (Z:Zs mg) (h_p_beyond:Has P w K mg base "beyond" 1 ["side", "spot"] (zJr K)):FnOk P w K mg base CX0 2 f fd ["side", "spot"] (zE3 K):=by
 refine F.ok zPo (fun vs H Q E h=>?_) (fun cdv A outer s H vs Q E hr h=>?_)
 ·obtain ⟨a,b,A,B,C,x,y,z,rfl,_⟩:=h
  rfl
 obtain ⟨a,b,A',B,C,x,y,z,rfl,ha,hb,m1,m2,m3,q⟩:=h
 refine ⟨_,(zAi (zAq (zCa zQj (zAh h_p_beyond (hr.mono (by decide)) rfl (zAa (pv 0) (zAa (pv 1) zAe))) zAb (zAt _)))),?_⟩
 try dsimp only [L2.cxOf]
 exact ⟨_,rfl,_,rfl,a,b,A',B,C,x,y,z,rfl,ha,hb,m1,m2,m3,_,_,rfl,rfl,q⟩
def zD4 (K:PySem.W.Frag):Sp:=fun vs H Q _=>∃ (a b:Addr) (A1 B1 C1 A2 B2 C2:Int),vs = [.ref a,.ref b]∧Sq K H a [.int A1,.int B1,.int C1]∧Sq K H b [.int A2,.int B2,.int C2] ∧
 A1.natAbs≤10 ^ 18∧B1.natAbs≤10 ^ 18∧C1.natAbs≤10 ^ 18∧A2.natAbs≤10 ^ 18∧B2.natAbs≤10 ^ 18 ∧
 (A1 * B2 - B1 * A2 = 0→Q .non H)∧(A1 * B2 - B1 * A2≠0→∀ (p:Addr) (H':Hp),Same H H'→H p = none→H' p = some (.tup ((lowL (upL (C1 * B2 - B1 * C2) (A1 * C2 - C1 * A2) (A1 * B2 - B1 * A2))).map V.int))→Q (.ref p) H')
theorem zLf (F:Fun K "crossing" "crossing" zEo f fd) (Z:Zs mg) (h_p_upright:Has P w K mg base "upright" 3 ["numbers"] (zEm K)) (h_p_turn:Has P w K mg base "turn" 1 ["one", "other"] (zDt K)):FnOk P w K mg base CX0 4 f fd ["one", "other"] (zD4 K):=by
 refine F.ok zD2 (fun vs H Q E h=>?_) (fun cdv A outer s H vs Q E hr h=>?_)
 ·obtain ⟨a,b,A1,B1,C1,A2,B2,C2,rfl,_⟩:=h
  rfl
 obtain ⟨a,b,A1,B1,C1,A2,B2,C2,rfl,ha,hb,m1,m2,m3,m4,m5,q0,q⟩:=h
 refine ⟨_,(zAf (zAy (i:=2) zD2.nd rfl (Or.inl rfl) (zAh h_p_turn (hr.mono (by decide)) rfl (zAa (pv 0) (zAa (pv 1) zAe))))
   (zAf (zA9 (zAs zBu (pv 2) zAb (zAt _)) (zAi (zAq zBp)) zAv)
   (zAf (zAy (i:=3) zD2.nd rfl (Or.inl rfl) (zAl zCe (zAl zA0 (zAk zAg (pv 0) zAb (fun _ _=>rfl)) (zAk zAg (pv 1) zAb (fun _ _=>rfl))) (zAl zA0 (zAk zAg (pv 0) zAb (fun _ _=>rfl)) (zAk zAg (pv 1) zAb (fun _ _=>rfl)))))
   (zAf (zAy (i:=4) zD2.nd rfl (Or.inl rfl) (zAl zCe (zAl zA0 (zAk zAg (pv 0) zAb (fun _ _=>rfl)) (zAk zAg (pv 1) zAb (fun _ _=>rfl))) (zAl zA0 (zAk zAg (pv 0) zAb (fun _ _=>rfl)) (zAk zAg (pv 1) zAb (fun _ _=>rfl)))))
   (zAi (zAq (zAh h_p_upright (hr.mono (by decide)) rfl (zAa (zAz (zAa (pv 3) (zAa (pv 4) (zAa (pv 2) zAe)))) zAe)))))))),?_⟩
 try dsimp only [L2.cxOf]
 refine ⟨_,rfl,_,rfl,a,b,_,_,A1,B1,A2,B2,rfl,ha,hb,rfl,rfl,rfl,rfl,m1,m2,?_⟩
 refine ⟨_,rfl,rfl,_,rfl,?_⟩
 refine ifE (fun hw=>q0 hw) (fun hw=>?_)
 have z1:=zAj A1 B2 m1 m5
 have z2:=zAj B1 A2 m2 m4
 have z0:(10:Nat) ^ 18 * 10 ^ 18 = 10 ^ 36:=by decide
 have z3:(10:Nat) ^ 36 + 10 ^ 36≤10 ^ 40:=by decide
 refine ⟨_,rfl,a,_,_,.int C1,rfl,rfl,ha,rfl,_,rfl,b,_,_,.int B2,rfl,rfl,hb,rfl,_,_,rfl,rfl,cm_l (by omega),_,rfl,a,_,_,.int B1,rfl,rfl,ha,rfl,_,rfl,b,_,_,.int C2,rfl,rfl,hb,rfl,_,_,rfl,rfl,cm_l (by omega),_,_,rfl,rfl,?_⟩
 refine ⟨_,rfl,a,_,_,.int A1,rfl,rfl,ha,rfl,_,rfl,b,_,_,.int C2,rfl,rfl,hb,rfl,_,_,rfl,rfl,cm_l (by omega),_,rfl,a,_,_,.int C1,rfl,rfl,ha,rfl,_,rfl,b,_,_,.int A2,rfl,rfl,hb,rfl,_,_,rfl,rfl,cm_l (by omega),_,_,rfl,rfl,?_⟩
 refine ⟨_,rfl,_,rfl,_,rfl,(by show 3≤sizeLine; decide),fun p hp=>⟨p,[C1 * B2 - B1 * C2,A1 * C2 - C1 * A2,A1 * B2 - B1 * A2],A1 * B2 - B1 * A2,rfl,.inr (SqT.of zAc),by show 3≤1000; decide,rfl,by simp,hw,big_ok (by omega),fun r H2 s2 hr2 e2=>?_⟩⟩
 exact q hw r H2 ((zAd hp _).trans s2) ((zAd hp _).free hr2) e2
def inWB (ss:List Sd) (p:P3):Bool:=ss.all fun t=>decide (sv t.2 p≤0)
theorem zDq {ss:List Sd} {p:P3} : inWB ss p = true↔inW ss p:=by
 unfold inWB inW
 rw [List.all_eq_true]
 exact ⟨fun h t ht=>of_decide_eq_true (h t ht),fun h t ht=>decide_eq_true (h t ht)⟩
def zDx (K:PySem.W.Frag):Sp:=fun vs H Q _=>∃ (l p:Addr) (ss:List Sd) (P:P3),vs = [.ref l,.ref p]∧SqL K H l (zAo ss)∧SdOk H ss∧Sq K H p [.int P.1,.int P.2.1,.int P.2.2]∧Q (.bl (inWB ss P)) H
theorem zLd (F:Fun K "in_water" "in_water" zEj f fd) (Z:Zs mg) (h_p_holds:Has P w K mg base "holds" 2 ["side", "spot"] (zE3 K)):FnOk P w K mg base CX0 3 f fd ["sides", "place"] (zDx K):=by
 refine F.ok zHc (fun vs H Q E h=>?_) (fun cdv A outer s H vs Q E hr h=>?_)
 ·obtain ⟨l,p,ss,P,rfl,_⟩:=h
  rfl
 obtain ⟨l,p,ss,P,rfl,hl,ok,hp,q⟩:=h
 refine ⟨_,(zAf (zCv PassesOwn.never rfl (zCd (pv 0)) (zAr (i:=2) zHc.nd rfl (Or.inl rfl)) (zAi (zA9 (zCr (zB5 (zAh h_p_holds (hr.mono (by decide)) rfl (zAa (pv 2) (zAa (pv 1) zAe))))) (zAi (zAq zE2)) zAv)))
   (zAi (zAq zE2))),?_⟩
 try dsimp only [L2.cxOf]
 refine ⟨_,rfl,l,rfl,.inl ⟨⟨_,hl⟩,zCg (K:=K) (a:=l) (xs:=zAo ss) (fun i σ H'=>H = H'∧(∀ j t,j < i→ss[j]? = some t→sv t.2 P≤0)∧∃ u2:Option V,σ = [some (.ref l),some (.ref p),u2])
  ⟨rfl,fun j t hj=>absurd hj (Nat.not_lt_zero _),none,rfl⟩ (fun i σ H' _ ⟨e,_⟩=>by rw [← e]; exact hl) ?_ ?_⟩⟩
 ·rintro i v σ H' hi ⟨rfl,hall,u2,rfl⟩
  obtain ⟨t,gt,rfl,hil⟩:=zBv hi
  obtain ⟨et,_,b1,b2,b3⟩:=ok t (List.mem_of_getElem? gt)
  refine ⟨_,rfl,_,rfl,t.1,p,t.2.1,t.2.2.1,t.2.2.2,P.1,P.2.1,P.2.2,rfl,.inr (SqT.of et),hp,by omega,by omega,by omega,_,rfl,?_⟩
  refine ifN (fun hpos=>?_) (fun hneg=>?_)
  ·have e:inWB ss P = false:=by
    unfold inWB
    rw [Bool.eq_false_iff]
    intro z
    exact hpos (of_decide_eq_true (List.all_eq_true.mp z t (List.mem_of_getElem? gt)))
   rw [e] at q
   exact q
  ·refine ⟨rfl,fun j t' hj ht'=>?_,_,rfl⟩
   by_cases e:j = i
   ·rw [e,gt] at ht'
    cases ht'
    exact hneg
   ·exact hall j t' (by omega) ht'
 ·rintro σ H' ⟨rfl,hall,u2,rfl⟩
  have e:inWB ss P = true:=zDq.mpr fun t ht=>by
   obtain ⟨j,hj,ej⟩:=List.getElem_of_mem ht
   exact hall j t (by rw [zAm]; exact hj) (by rw [List.getElem?_eq_getElem hj,ej])
  rw [e] at q
  exact q
def zI9 (K:PySem.W.Frag):Sp:=fun vs H Q _=>∃ (a:Addr) (t:P3),vs = [.ref a]∧Sq K H a [.int t.1,.int t.2.1,.int t.2.2]∧(t.1≠0∨t.2.1≠0)∧t.1.natAbs≤10 ^ 9∧t.2.1.natAbs≤10 ^ 9 ∧
 ∀ (p:Addr) (H':Hp),Same H H'→H p = none→H' p = some (.tup ((ftL t).map V.int))→Q (.ref p) H'
theorem zQ9 (F:Fun K "foot" "foot" zIr f fd) (Z:Zs mg) (h_p_spot:Has P w K mg base "spot" 4 ["x", "y", "w"] (zI7 K)) (h_p_along:Has P w K mg base "along" 1 ["one", "other"] (zDd K)):FnOk P w K mg base CX0 5 f fd ["side"] (zI9 K):=by
 refine F.ok zRy (fun vs H Q E h=>?_) (fun cdv A outer s H vs Q E hr h=>?_)
 ·obtain ⟨a,t,rfl,_⟩:=h
  rfl
 obtain ⟨a,t,rfl,ha,hn,b1,b2,q⟩:=h
 refine ⟨_,(zAi (zAq (zAh h_p_spot (hr.mono (by decide)) rfl (zAa (zAl zA0 (zAk zAg (pv 0) zAb (fun _ _=>rfl)) (zAk zAg (pv 0) zAb (fun _ _=>rfl))) (zAa (zAl zA0 (zAk zAg (pv 0) zAb (fun _ _=>rfl)) (zAk zAg (pv 0) zAb (fun _ _=>rfl))) (zAa (zAh h_p_along (hr.mono (by decide)) rfl (zAa (pv 0) (zAa (pv 0) zAe))) zAe)))))),?_⟩
 try dsimp only [L2.cxOf]
 have pos:=zEk hn
 have z1:=zAj t.1 t.1 b1 b1
 have z2:=zAj t.2.1 t.2.1 b2 b2
 refine ⟨_,rfl,a,_,_,.int t.1,rfl,rfl,ha,rfl,_,rfl,a,_,_,.int t.2.2,rfl,rfl,ha,rfl,_,_,rfl,rfl,cm_l (by omega),
  _,rfl,a,_,_,.int t.2.1,rfl,rfl,ha,rfl,_,rfl,a,_,_,.int t.2.2,rfl,rfl,ha,rfl,_,_,rfl,rfl,cm_l (by omega),
  _,rfl,_,rfl,a,a,_,_,t.1,t.2.1,t.1,t.2.1,rfl,ha,ha,rfl,rfl,rfl,rfl,by omega,by omega,
  t.1 * t.2.2,t.2.1 * t.2.2,t.1 * t.1 + t.2.1 * t.2.1,rfl,by omega,Nat.lt_of_le_of_lt (show (t.1 * t.1 + t.2.1 * t.2.1).natAbs≤10 ^ 40 by omega) (by decide +kernel),fun p H' s' hp ep=>q p H' s' hp ep⟩
def optV:Option Nat→V
 | none=>.non
 | some j=>.int j
theorem zDy {ss:List Sd} {i:Nat} {t u:Sd} (gt:ss[i]? = some t) (hu:u∈ss.take (i + 1)):u∈ss.take i∨u = t:=by
 rw [zBn gt] at hu
 rcases List.mem_append.mp hu with h | h
 ·exact .inl h
 ·exact .inr (List.mem_singleton.mp h)
theorem zOh {ss:List Sd} {i j:Nat} {t:Sd} (h:(ss.take i)[j]? = some t):(ss.take (i + 1))[j]? = some t:=by
 rw [List.getElem?_take] at h ⊢
 split at h
 ·rw [if_pos (by omega)]
  exact h
 ·cases h
def zLw (ss:List Sd) (e:P3) (h:Int) (H:Hp) (x y:V):Prop:=(x = .non∧y = .non∧zId ss e h none)∨∃ (j:Nat) (t:Sd) (p:Addr),x = .int j∧y = .ref p∧H p = some (.tup ((crL e t.2).map V.int))∧ss[j]? = some t∧0 < tn e t.2 * h∧∀ u∈ss,0 < tn e u.2 * h→sv u.2 (pt3 (crL e t.2))≤0
theorem zLw.skip {ss:List Sd} {e:P3} {h:Int} {H:Hp} {x y:V} {i:Nat} {t:Sd} (S:zLw (ss.take i) e h H x y) (gt:ss[i]? = some t) (hn:¬ 0 < tn e t.2 * h):zLw (ss.take (i + 1)) e h H x y:=by
 rcases S with ⟨e1,e2,S⟩ | ⟨j,u,p,e1,e2,ep,gu,hu,ha⟩
 ·refine .inl ⟨e1,e2,fun v hv=>?_⟩
  rcases zDy gt hv with hv | rfl
  ·exact S v hv
  ·omega
 ·refine .inr ⟨j,u,p,e1,e2,ep,zOh gu,hu,fun v hv hp=>?_⟩
  rcases zDy gt hv with hv | rfl
  ·exact ha v hv hp
  ·exact absurd hp hn
theorem zLw.keep {ss:List Sd} {e:P3} {h:Int} {H H':Hp} {x y:V} (S:zLw ss e h H x y) (s:Same H H'):zLw ss e h H' x y:=by
 rcases S with S | ⟨j,u,p,e1,e2,ep,r⟩
 ·exact .inl S
 ·exact .inr ⟨j,u,p,e1,e2,s _ _ ep,r⟩
def zD5 (K:PySem.W.Frag):Sp:=fun vs H Q _=>∃ (l a:Addr) (ss:List Sd) (e:P3) (h:Int),vs = [.ref l,.ref a,.int h]∧SqL K H l (zAo ss)∧SdOk H ss∧ss.length≤1000∧Sq K H a [.int e.1,.int e.2.1,.int e.2.2]∧(e.1≠0∨e.2.1≠0)∧e.1.natAbs≤10 ^ 9∧e.2.1.natAbs≤10 ^ 9∧e.2.2.natAbs≤10 ^ 13∧(h = 1∨h = -1) ∧
 ∀ (r:Option Nat) (H':Hp),Same H H'→zId ss e h r→Q (optV r) H'
theorem zK6 (F:Fun K "edge_end" "edge_end" zEq f fd) (Z:Zs mg) (h_p_turn:Has P w K mg base "turn" 1 ["one", "other"] (zDt K)) (h_p_holds:Has P w K mg base "holds" 2 ["side", "spot"] (zE3 K)) (h_p_crossing:Has P w K mg base "crossing" 4 ["one", "other"] (zD4 K)):FnOk P w K mg base CX0 5 f fd ["sides", "edge", "hand"] (zD5 K):=by
 refine F.ok zB0 (fun vs H Q E h=>?_) (fun cdv A outer s H vs Q E hr h=>?_)
 ·obtain ⟨l,a,ss,e,h,rfl,_⟩:=h
  rfl
 obtain ⟨l,a,ss,e,hd,rfl,hl,ok,hlen,ha,hn,b1,b2,b3,h1,q⟩:=h
 have hh:hd * hd = 1:=by rcases h1 with rfl | rfl <;> rfl
 have hN:=zEk hn
 refine ⟨_,(zAf (zAy (i:=3) zB0.nd rfl (Or.inl rfl) zBp)
   (zAf (zAy (i:=4) zB0.nd rfl (Or.inl rfl) zBp)
   (zAf (zCv PassesOwn.never rfl (zC9 rfl Z.range (zAa (zAu zA1 rfl Z.len zCo (zAa (pv 0) zAe)) zAe)) (zAr (i:=5) zB0.nd rfl (Or.inl rfl)) (zAf (zAy (i:=6) zB0.nd rfl (Or.inl rfl) (zAk zAg (pv 0) (pv 5) (fun _ _=>rfl)))
   (zAi (zA9 (PW.pt (zFm (zAs zHa (zAl zA0 (zAh h_p_turn (hr.mono (by decide)) rfl (zAa (pv 1) (zAa (pv 6) zAe))) (pv 2)) zAb (zAt _)) (zEe (PW.pt (zEt (zAs zMf (pv 4) zBp (zAt _)) (zDv (zCr (zB5 (zAh h_p_holds (hr.mono (by decide)) rfl (zAa (pv 6) (zAa (pv 4) zAe))))))))))) (zAf (zAy (i:=3) zB0.nd rfl (Or.inl rfl) (pv 5))
   (zAi (zAy (i:=4) zB0.nd rfl (Or.inl rfl) (zAh h_p_crossing (hr.mono (by decide)) rfl (zAa (pv 1) (zAa (pv 6) zAe)))))) zAv))))
   (zAi (zAq (pv 3)))))),?_⟩
 try dsimp only [L2.cxOf]
 refine ⟨_,rfl,l,_,rfl,.inl hl,_,rfl,(by rw [zAm]; omega),(by rw [zAm]; omega),zEy (lo:=0) (n:=(((zAo ss).length:Nat):Int).toNat) (fun i σ H'=>Same H H'∧∃ (x y:V) (u5 u6:Option V),zLw (ss.take i) e hd H' x y∧σ = [some (.ref l),some (.ref a),some (.int hd),some x,some y,u5,u6])
  ⟨Same.refl _,.non,.non,none,none,.inl ⟨rfl,rfl,fun t ht=>nomatch ht⟩,rfl⟩ ?_ ?_⟩
 ·rintro i σ H' hi ⟨sH,x,y,u5,u6,S,rfl⟩
  have hil:i < ss.length:=by rw [Int.toNat_natCast,zAm] at hi; exact hi
  obtain ⟨t,mt,gt,at'⟩:=zBf (ss:=ss) (i:=i) (k:=0 + (i:Int)) (by omega) hil
  obtain ⟨et0,nt,c1,c2,c3⟩:=ok t mt
  have et:Sq K H' t.1 [.int t.2.1,.int t.2.2.1,.int t.2.2.2]:=.inr (SqT.of (sH _ _ et0))
  have hae:=ha.same sH
  have z1:=zAj e.1 t.2.2.1 b1 c2
  have z2:=zAj e.2.1 t.2.1 b2 c1
  refine ⟨_,rfl,_,rfl,l,_,_,_,rfl,rfl,.inl (sH.seq hl),at',?_⟩
  refine ⟨_,rfl,_,rfl,a,t.1,_,_,e.1,e.2.1,t.2.1,t.2.2.1,rfl,hae,et,rfl,rfl,rfl,rfl,by omega,by omega,_,rfl,_,_,rfl,rfl,.inl ⟨by omega,by omega⟩,_,_,rfl,rfl,_,rfl,?_⟩
  refine ifD (fun hpos=>?_) (fun hneg=>?_)
  ·have hpos':0 < tn e t.2 * hd:=hpos
   have put:∀ (H2:Hp) (p:Addr),Same H' H2→H2 p = some (.tup ((crL e t.2).map V.int))→(∀ u∈ss.take i,0 < tn e u.2 * hd→sv u.2 (pt3 (crL e t.2))≤0)→zLw (ss.take (i + 1)) e hd H2 (.int (0 + (i:Int))) (.ref p):=fun H2 p s2 ep hb=>by
    refine .inr ⟨i,t,p,by rw [Int.zero_add],rfl,ep,?_,hpos',fun u hu hp=>?_⟩
    ·rw [List.getElem?_take,if_pos (by omega)]
     exact gt
    ·rcases zDy gt hu with hu | rfl
     ·exact hb u hu hp
     ·exact Int.le_of_eq (zEv (zB2 hpos')).2.2
   rcases S with ⟨rfl,rfl,S⟩ | ⟨j,u,p,rfl,rfl,ep,gu,hu,hb⟩
   ·refine ⟨_,rfl,rfl,_,rfl,?_⟩
    refine iteT ?_
    refine ⟨_,rfl,_,rfl,_,rfl,a,t.1,e.1,e.2.1,e.2.2,t.2.1,t.2.2.1,t.2.2.2,rfl,hae,et,by omega,by omega,by omega,by omega,by omega,fun z=>absurd z (zB2 hpos'),fun _ p2 H2 s2 hp2 ep2=>?_⟩
    exact ⟨sH.trans s2,_,_,_,_,put H2 p2 s2 ep2 fun v hv hp=>by have:=S v hv; omega,rfl⟩
   ·obtain ⟨sp0,q1,q2⟩:=zEv (zB2 hu)
    refine ⟨_,rfl,rfl,_,rfl,?_⟩
    refine iteF ?_
    have ep3:Sq K H' p [.int (pt3 (crL e u.2)).1,.int (pt3 (crL e u.2)).2.1,.int (pt3 (crL e u.2)).2.2]:=.inr (SqT.of (by rw [ep]; rw [sp0.list]; rfl))
    refine ⟨_,rfl,_,rfl,t.1,p,t.2.1,t.2.2.1,t.2.2.2,_,_,_,rfl,et,ep3,by omega,by omega,by omega,_,rfl,?_⟩
    refine ifN (fun hout=>?_) (fun hin=>?_)
    ·have hout':0 < sv t.2 (pt3 (crL e u.2)):=by
      have:¬ sv t.2 (pt3 (crL e u.2))≤0:=hout
      omega
     refine ⟨_,rfl,_,rfl,_,rfl,a,t.1,e.1,e.2.1,e.2.2,t.2.1,t.2.2.1,t.2.2.2,rfl,hae,et,by omega,by omega,by omega,by omega,by omega,fun z=>absurd z (zB2 hpos'),fun _ p2 H2 s2 hp2 ep2=>?_⟩
     obtain ⟨sp1,r1,r2⟩:=zEv (zB2 hpos')
     have d1:=dl_le hh hN r1 q1 sp1.pos r2 hout' hpos'
     refine ⟨sH.trans s2,_,_,_,_,put H2 p2 s2 ep2 fun v hv hp=>?_,rfl⟩
     refine zPt hh hN r1 q1 sp1.pos sp0.pos v.2 ?_ (hb v hv hp)
     have:=Int.mul_nonneg (show 0≤-(dl e (pt3 (crL e t.2)) (pt3 (crL e u.2)) * hd) by omega) (Int.le_of_lt hp)
     rw [Int.neg_mul] at this
     omega
    ·refine ⟨sH,_,_,_,_,.inr ⟨j,u,p,rfl,rfl,ep,zOh gu,hu,fun v hv hp=>?_⟩,rfl⟩
     rcases zDy gt hv with hv | rfl
     ·exact hb v hv hp
     ·exact hin
  ·refine iteF ?_
   exact ⟨sH,x,y,_,_,S.skip gt hneg,rfl⟩
 ·rintro σ H' ⟨sH,x,y,u5,u6,S,rfl⟩
  rw [Int.toNat_natCast,zAm,List.take_length] at S
  rcases S with ⟨rfl,rfl,S⟩ | ⟨j,u,p,rfl,rfl,ep,gu,hu,hb⟩
  ·exact ⟨_,rfl,q none H' sH S⟩
  ·exact ⟨_,rfl,q (some j) H' sH ⟨u,gu,hu,hb⟩⟩
structure EndsOk (ss:List Sd) (e:P3) (qs:List (Addr × P3)):Prop where
 each:∀ q∈qs,∃ (h:Int) (j:Nat) (t:Sd),h * h = 1∧ss[j]? = some t∧0 < tn e t.2 * h∧(∀ u∈ss,0 < tn e u.2 * h→sv u.2 (pt3 (crL e t.2))≤0)∧q.2 = pt3 (crL e t.2)
 none:qs = []→zId ss e 1 none∧zId ss e (-1) none
 full:zMn ss e 1 (qs.map (·.2))∧zMn ss e (-1) (qs.map (·.2))
def zGp (K:PySem.W.Frag):Sp:=fun vs H Q _=>∃ (l a:Addr) (ss:List Sd) (e:P3),vs = [.ref l,.ref a]∧SqL K H l (zAo ss)∧SdOk H ss∧ss.length≤1000∧Sq K H a [.int e.1,.int e.2.1,.int e.2.2]∧(e.1≠0∨e.2.1≠0)∧e.1.natAbs≤10 ^ 9∧e.2.1.natAbs≤10 ^ 9∧e.2.2.natAbs≤10 ^ 13 ∧
 ∀ (D:Addr) (qs:List (Addr × P3)) (H':Hp),Same H H'→H D = none→H' D = some (.lst (zBt qs))→zJ8 H' qs→qs.length≤2→EndsOk ss e qs→Q (.ref D) H'
theorem zJ3 (F:Fun K "edge_ends" "edge_ends" zD0 f fd) (Z:Zs mg) (h_p_crossing:Has P w K mg base "crossing" 4 ["one", "other"] (zD4 K)) (h_p_edge_end:Has P w K mg base "edge_end" 5 ["sides", "edge", "hand"] (zD5 K)):FnOk P w K mg base CX0 6 f fd ["sides", "edge"] (zGp K):=by
 refine F.ok zGs (fun vs H Q E h=>?_) (fun cdv A outer s H vs Q E hr h=>?_)
 ·obtain ⟨l,a,ss,e,rfl,_⟩:=h
  rfl
 obtain ⟨l,a,ss,e,rfl,hl,ok,hlen,ha,hn,b1,b2,b3,q⟩:=h
 refine ⟨_,(zAf (zAy (i:=2) zGs.nd rfl (Or.inl rfl) (zCb (zAa (zAh h_p_edge_end (hr.mono (by decide)) rfl (zAa (pv 0) (zAa (pv 1) (zAa (zEi zCp zAb) zAe)))) (zAa (zAh h_p_edge_end (hr.mono (by decide)) rfl (zAa (pv 0) (zAa (pv 1) (zAa zAb zAe)))) zAe))))
   (zAi (zAq (zC2 (T:=["number"]) (caps:=[("edge", 1),("sides", 0)]) ⟨rfl,by decide +kernel,by decide +kernel,rfl,⟨⟨rfl,rfl,Or.inl rfl⟩,⟨rfl,rfl,Or.inl rfl⟩,True.intro⟩⟩ rfl (zCd (pv 2)) (fun _=>(zAr (i:=0) (show (["number", "edge", "sides"]:List Str).Nodup by decide +kernel) rfl (Or.inl rfl))) (fun _=>(zS5 (zAs zHz (pv 0) zBp (zAt _)))) (fun _=>(zAh h_p_crossing (hr.mono (by decide)) rfl (zAa (pv 1) (zAa (zAk zAg (pv 2) (pv 0) (fun _ _=>rfl)) zAe)))))))),?_⟩
 try dsimp only [L2.cxOf]
 refine ⟨_,rfl,_,rfl,_,rfl,l,a,ss,e,-1,rfl,hl,ok,hlen,ha,hn,b1,b2,b3,.inr rfl,fun r1 H1 s1 k1=>?_⟩
 refine ⟨_,rfl,_,rfl,l,a,ss,e,1,rfl,s1.seq hl,ok.same s1,hlen,ha.same s1,hn,b1,b2,b3,.inl rfl,fun r2 H2 s2 k2=>?_⟩
 refine ⟨(by show 2≤sizeLine; decide),fun nl hnl=>?_⟩
 have snl:Same H2 (upd H2 nl (.lst [optV r1,optV r2])):=zAd hnl _
 have enl:upd H2 nl (.lst [optV r1,optV r2]) nl = some (.lst [optV r1,optV r2]):=zAc
 generalize upd H2 nl (.lst [optV r1,optV r2]) = H3 at snl enl ⊢
 have s3:=(s1.trans s2).trans snl
 have one:∀ (i:Nat) (v:V),[optV r1,optV r2][i]? = some v→(v = .non∧((i = 0∧zId ss e (-1) none)∨(i = 1∧zId ss e 1 none)))∨∃ (j:Nat) (t:Sd) (h:Int),v = .int j∧((i = 0∧h = -1)∨(i = 1∧h = 1))∧h * h = 1∧ss[j]? = some t∧0 < tn e t.2 * h∧∀ u∈ss,0 < tn e u.2 * h→sv u.2 (pt3 (crL e t.2))≤0:=fun i v hv=>by
  match i,hv with
  | 0,hv =>
   cases hv
   cases r1 with
   | none=>exact .inl ⟨rfl,.inl ⟨rfl,k1⟩⟩
   | some j=>obtain ⟨t,g,p,r⟩:=k1; exact .inr ⟨j,t,-1,rfl,.inl ⟨rfl,rfl⟩,rfl,g,p,r⟩
  | 1,hv =>
   cases hv
   cases r2 with
   | none=>exact .inl ⟨rfl,.inr ⟨rfl,k2⟩⟩
   | some j=>obtain ⟨t,g,p,r⟩:=k2; exact .inr ⟨j,t,1,rfl,.inr ⟨rfl,rfl⟩,rfl,g,p,r⟩
 refine ⟨_,rfl,nl,rfl,.inl ⟨⟨_,SqL.of enl⟩,fun c D hD=>zM3 (K:=K) (a:=nl) (xs:=[optV r1,optV r2]) (fun i σ ys H'=>Same H3 H'∧H' D = some (.lst ys)∧(∃ qs:List (Addr × P3),ys = zBt qs∧qs.length≤i∧zJ8 H' qs∧(∀ q∈qs,∃ (h:Int) (j:Nat) (t:Sd),h * h = 1∧ss[j]? = some t∧0 < tn e t.2 * h∧(∀ u∈ss,0 < tn e u.2 * h→sv u.2 (pt3 (crL e t.2))≤0)∧q.2 = pt3 (crL e t.2)) ∧
   ((0 < i→zMn ss e (-1) (qs.map (·.2)))∧(1 < i→zMn ss e 1 (qs.map (·.2)))))∧∃ u0:Option V,σ = [u0,some (.ref a),some (.ref l)])
  ⟨zAd hD _,zAc,⟨[],rfl,Nat.le_refl _,(fun t ht=>nomatch ht),(fun t ht=>nomatch ht),⟨fun z=>absurd z (Nat.not_lt_zero _),fun z=>absurd z (Nat.not_lt_zero _)⟩⟩,none,rfl⟩ (fun i σ ys H' _ ⟨e1,e2,_⟩=>⟨SqL.of (e1 _ _ enl),e2⟩) ?_ ?_⟩⟩
 ·rintro i v σ ys H' hi ⟨sH,eD,⟨qs,rfl,hq,okq,each,non⟩,u0,rfl⟩
  have hi2:i < 2:=(List.getElem?_eq_some_iff.mp hi).1
  rcases one i v hi with ⟨rfl,hcase⟩ | ⟨j,t,h,rfl,hih,hh,gt,hp,hb⟩
  ·refine ⟨_,rfl,rfl,_,rfl,?_⟩
   refine iteF ?_
   refine ⟨sH,eD,⟨qs,rfl,by omega,okq,each,?_⟩,_,rfl⟩
   rcases hcase with ⟨rfl,k⟩ | ⟨rfl,k⟩
   ·exact ⟨fun _=>.inl k,fun z'=>absurd z' (by decide)⟩
   ·exact ⟨fun _=>non.1 (by decide),fun _=>.inl k⟩
  ·refine ⟨_,rfl,rfl,_,rfl,?_⟩
   refine iteT ?_
   have hj:j < ss.length:=(List.getElem?_eq_some_iff.mp gt).1
   obtain ⟨t',mt,gt',at'⟩:=zBf (ss:=ss) (i:=j) (k:=(j:Int)) rfl hj
   rw [gt] at gt'
   cases gt'
   obtain ⟨et0,_,c1,c2,c3⟩:=ok t mt
   have s3H:=s3.trans sH
   refine ⟨_,rfl,_,rfl,_,rfl,l,_,_,_,rfl,rfl,.inl (s3H.seq hl),at',a,t.1,e.1,e.2.1,e.2.2,t.2.1,t.2.2.1,t.2.2.2,rfl,ha.same s3H,.inr (SqT.of (s3H _ _ et0)),by omega,by omega,by omega,by omega,by omega,fun z=>absurd z (zB2 hp),fun _ p H5 s5 hp5 ep5=>?_⟩
   obtain ⟨sp,_,_⟩:=zEv (zB2 hp)
   have ep5':H5 p = some (.tup [.int (pt3 (crL e t.2)).1,.int (pt3 (crL e t.2)).2.1,.int (pt3 (crL e t.2)).2.2]):=by
    have z:H5 p = some (.tup ((crL e t.2).map V.int)):=ep5
    rw [z,sp.list]
    rfl
   have npD:p≠D:=fun z=>by rw [z,eD] at hp5; cases hp5
   refine ⟨s5 _ _ eD,zA6 (by simp only [List.length_map]; omega),(sH.trans s5).putNew hD,zAc,⟨qs ++ [(p,pt3 (crL e t.2))],by simp [zBt],by rw [List.length_append]; show qs.length + 1≤i + 1; omega,fun u hu=>?_,fun u hu=>?_,?_⟩,_,rfl⟩
   ·rcases List.mem_append.mp hu with hu | hu
    ·obtain ⟨g1,g2⟩:=okq u hu
     exact ⟨by rw [zA5 (zHh (s5 _ _ g1) (s5 _ _ eD) (by intro z; cases z))]; exact s5 _ _ g1,g2⟩
    ·rw [List.mem_singleton] at hu
     subst hu
     refine ⟨?_,sp.pos,sp.low⟩
     show upd H5 D _ p = _
     rw [zA5 npD]
     exact ep5'
   ·rcases List.mem_append.mp hu with hu | hu
    ·exact each u hu
    ·rw [List.mem_singleton] at hu
     subst hu
     exact ⟨h,j,t,hh,gt,hp,hb,rfl⟩
   ·have me:zMn ss e h ((qs ++ [(p,pt3 (crL e t.2))]).map (·.2)):=.inr ⟨j,t,gt,hp,hb,by rw [List.map_append]; exact List.mem_append_right _ (List.mem_singleton.mpr rfl)⟩
    rcases hih with ⟨rfl,rfl⟩ | ⟨rfl,rfl⟩
    ·exact ⟨fun _=>me,fun z'=>absurd z' (by decide)⟩
    ·exact ⟨fun _=>by rw [List.map_append]; exact (non.1 (by decide)).app,fun _=>me⟩
 ·rintro σ ys H' ⟨sH,eD,⟨qs,rfl,hq,okq,each,non⟩,u0,rfl⟩
  have f1:=non.2 (by show 1 < 2; decide)
  have f2:=non.1 (by show 0 < 2; decide)
  refine q D qs H' (s3.trans sH) (s3.free hD) eD okq hq ⟨each,fun z=>?_,f1,f2⟩
  rw [z] at f1 f2
  refine ⟨?_,?_⟩
  ·rcases f1 with f | ⟨_,_,_,_,_,m⟩
   ·exact f
   ·exact nomatch m
  ·rcases f2 with f | ⟨_,_,_,_,_,m⟩
   ·exact f
   ·exact nomatch m
def SpAt (H:Hp) (p:Addr) (P:P3):Prop:=H p = some (.tup [.int P.1,.int P.2.1,.int P.2.2])∧0 < P.2.2∧Nat.gcd (Nat.gcd P.1.natAbs P.2.1.natAbs) P.2.2.natAbs = 1
theorem SpAt.same {H H':Hp} {p:Addr} {P:P3} (h:SpAt H p P) (s:Same H H'):SpAt H' p P:=⟨s _ _ h.1,h.2⟩
def zDg (K:PySem.W.Frag):Sp:=fun vs H Q _=>∃ (l a:Addr) (ss:List Sd) (e:P3),vs = [.ref l,.ref a]∧SqL K H l (zAo ss)∧SdOk H ss∧ss.length≤900∧Sq K H a [.int e.1,.int e.2.1,.int e.2.2]∧(e.1≠0∨e.2.1≠0)∧e.1.natAbs≤10 ^ 9∧e.2.1.natAbs≤10 ^ 9∧e.2.2.natAbs≤10 ^ 13 ∧
 (∀ H',Same H H'→(∀ z:P3,sv e z = 0→0 < z.2.2→¬ inW ss z)→Q .non H') ∧
 ∀ (p:Addr) (P:P3) (H':Hp),Same H H'→SpAt H' p P→inW ss P→sv e P = 0→(P = pt3 (ftL e)∨∃ t∈ss,tn e t.2≠0∧P = pt3 (crL e t.2))→Q (.ref p) H'
theorem zH5 (F:Fun K "spot_on_edge" "spot_on_edge" zCz f fd) (Z:Zs mg) (h_p_edge_ends:Has P w K mg base "edge_ends" 6 ["sides", "edge"] (zGp K)) (h_p_foot:Has P w K mg base "foot" 5 ["side"] (zI9 K)) (h_p_in_water:Has P w K mg base "in_water" 3 ["sides", "place"] (zDx K)):FnOk P w K mg base CX0 7 f fd ["sides", "edge"] (zDg K):=by
 refine F.ok zE4 (fun vs H Q E h=>?_) (fun cdv A outer s H vs Q E hr h=>?_)
 ·obtain ⟨l,a,ss,e,rfl,_⟩:=h
  rfl
 obtain ⟨l,a,ss,e,rfl,hl,ok,hlen,ha,hn,b1,b2,b3,qn,q⟩:=h
 have hN:=zEk hn
 refine ⟨_,(zAf (zCv PassesOwn.never rfl (zCd (zAl zFr (zAh h_p_edge_ends (hr.mono (by decide)) rfl (zAa (pv 0) (zAa (pv 1) zAe))) (zCb (zAa (zAh h_p_foot (hr.mono (by decide)) rfl (zAa (pv 1) zAe)) zAe)))) (zAr (i:=2) zE4.nd rfl (Or.inl rfl)) (zAi (zA9 (zB5 (zAh h_p_in_water (hr.mono (by decide)) rfl (zAa (pv 0) (zAa (pv 2) zAe)))) (zAi (zAq (pv 2))) zAv)))
   (zAi (zAq zBp))),?_⟩
 try dsimp only [L2.cxOf]
 refine ⟨_,rfl,_,rfl,l,a,ss,e,rfl,hl,ok,by omega,ha,hn,b1,b2,b3,fun D qs H1 s1 hD eD okq hq ends=>?_⟩
 refine ⟨_,rfl,a,e,rfl,ha.same s1,hn,b1,b2,fun fp H2 s2 hfp efp=>?_⟩
 obtain ⟨sf,f1⟩:=zR7 hn
 have efp':H2 fp = some (.tup [.int (pt3 (ftL e)).1,.int (pt3 (ftL e)).2.1,.int (pt3 (ftL e)).2.2]):=by
  rw [efp,sf.list]
  rfl
 refine ⟨(by show 1≤sizeLine; decide),fun fl hfl=>?_⟩
 have sfl:Same H2 (upd H2 fl (.lst [.ref fp])):=zAd hfl _
 have efl:upd H2 fl (.lst [.ref fp]) fl = some (.lst [.ref fp]):=zAc
 generalize upd H2 fl (.lst [.ref fp]) = H3 at sfl efl ⊢
 refine ⟨D,fl,_,_,rfl,rfl,sfl _ _ (s2 _ _ eD),efl,small (by simp only [List.length_map]; show qs.length + 1≤1000; omega),fun L hL=>?_⟩
 have sL:Same H3 (upd H3 L (.lst (zBt qs ++ [.ref fp]))):=zAd hL _
 have eL:upd H3 L (.lst (zBt qs ++ [.ref fp])) L = some (.lst (zBt (qs ++ [(fp,pt3 (ftL e))]))):=by rw [zAc]; simp [zBt]
 generalize upd H3 L (.lst (zBt qs ++ [.ref fp])) = H4 at sL eL ⊢
 have s24:=sfl.trans sL
 have s14:=s2.trans s24
 have s04:=s1.trans s14
 have okA:zJ8 H4 (qs ++ [(fp,pt3 (ftL e))]):=fun u hu=>by
  rcases List.mem_append.mp hu with hu | hu
  ·exact okq.same s14 u hu
  ·rw [List.mem_singleton] at hu
   subst hu
   exact ⟨s24 _ _ efp',sf.pos,sf.low⟩
 refine ⟨L,rfl,.inl ⟨⟨_,SqL.of eL⟩,zCg (K:=K) (a:=L) (xs:=zBt (qs ++ [(fp,pt3 (ftL e))])) (fun i σ H'=>H4 = H'∧(∀ j u,j < i→(qs ++ [(fp,pt3 (ftL e))])[j]? = some u→¬ inW ss u.2)∧∃ u2:Option V,σ = [some (.ref l),some (.ref a),u2])
  ⟨rfl,fun j t hj=>absurd hj (Nat.not_lt_zero _),none,rfl⟩ (fun i σ H' _ ⟨e1,_⟩=>by rw [← e1]; exact SqL.of eL) ?_ ?_⟩⟩
 ·rintro i v σ H' hi ⟨rfl,hall,u2,rfl⟩
  rw [List.getElem?_map,List.getElem?_map] at hi
  cases gu:(qs ++ [(fp,pt3 (ftL e))])[i]? with
  | none=>rw [gu] at hi; cases hi
  | some u =>
   rw [gu] at hi
   cases hi
   obtain ⟨eu,pu,lu⟩:=okA u (List.mem_of_getElem? gu)
   refine ⟨_,rfl,_,rfl,l,u.1,ss,u.2,rfl,s04.seq hl,ok.same s04,.inr (SqT.of eu),_,rfl,?_⟩
   by_cases hw:inWB ss u.2 = true
   ·rw [hw]
    refine iteT ?_
    have on:sv e u.2 = 0∧(u.2 = pt3 (ftL e)∨∃ t∈ss,tn e t.2≠0∧u.2 = pt3 (crL e t.2)):=by
     rcases List.mem_append.mp (List.mem_of_getElem? gu) with hu | hu
     ·obtain ⟨h,j,t,_,gt,hp,_,eq⟩:=ends.each u hu
      rw [eq]
      exact ⟨(zEv (zB2 hp)).2.1,.inr ⟨t,List.mem_of_getElem? gt,zB2 hp,rfl⟩⟩
     ·rw [List.mem_singleton] at hu
      rw [hu]
      exact ⟨f1,.inl rfl⟩
    exact ⟨_,rfl,q u.1 u.2 _ s04 ⟨eu,pu,lu⟩ (zDq.mp hw) on.1 on.2⟩
   ·have hw':inWB ss u.2 = false:=by simpa using hw
    rw [hw']
    refine iteF ?_
    refine ⟨rfl,fun j t hj ht=>?_,_,rfl⟩
    by_cases ej:j = i
    ·rw [ej,gu] at ht
     cases ht
     exact fun z=>hw (zDq.mpr z)
    ·exact hall j t (by omega) ht
 ·rintro σ H' ⟨rfl,hall,u2,rfl⟩
  refine qn _ s04 fun z hz zw wz=>?_
  have nin:∀ u∈qs ++ [(fp,pt3 (ftL e))],¬ inW ss u.2:=fun u hu=>by
   obtain ⟨j,hj,ej⟩:=List.getElem_of_mem hu
   exact hall j u (by simp only [List.length_map]; exact hj) (by rw [List.getElem?_eq_getElem hj,ej])
  cases qs with
  | nil =>
   obtain ⟨n1,n2⟩:=ends.none rfl
   exact nin (fp,pt3 (ftL e)) (by simp) (zL9 hN hz zw wz f1 sf.pos n1 n2)
  | cons u us =>
   obtain ⟨h,j,t,hh,gt,hp,hb,eq⟩:=ends.each u (List.mem_cons_self ..)
   refine nin u (by simp) ?_
   rw [eq]
   exact zMa hh hN hz zw wz gt hp hb
theorem zNq (ss:List Sd) (n:Nat):cutV (zAo ss) none (some (n:Int)) = zAo (ss.take n):=by
 unfold cutV
 rw [show HT.sIx (zAo ss).length 0 none = 0 from rfl,HT.sIx_nat (zAo ss).length (zAo ss).length n,List.drop_zero,Nat.sub_zero]
 rw [zAm]
 simp only [zAo,← List.map_take]
 congr 2
 rw [List.take_eq_take_iff]
 omega
def zGz (K:PySem.W.Frag):Sp:=fun vs H Q _=>∃ (l:Addr) (ss:List Sd),vs = [.ref l]∧SqL K H l (zAo ss)∧SdOk H ss∧ss.length≤900 ∧
 (∀ (t:Addr) (j:Nat) (e:Sd) (P:P3) (H':Hp),Same H H'→H' t = some (.tup [.non,.int j])→zTo ss j e P→Q (.ref t) H') ∧
 ∀ (t p:Addr) (P:P3) (H':Hp),Same H H'→H' t = some (.tup [.ref p,.non])→SpAt H' p P→inW ss P→Cand ss P→Q (.ref t) H'
theorem zNz (F:Fun K "sought" "sought" zGa f fd) (Z:Zs mg) (h_p_holds:Has P w K mg base "holds" 2 ["side", "spot"] (zE3 K)) (h_p_spot_on_edge:Has P w K mg base "spot_on_edge" 7 ["sides", "edge"] (zDg K)) (h_p_spot:Has P w K mg base "spot" 4 ["x", "y", "w"] (zI7 K)):FnOk P w K mg base CX0 8 f fd ["sides"] (zGz K):=by
 refine F.ok zFa (fun vs H Q E h=>?_) (fun cdv A outer s H vs Q E hr h=>?_)
 ·obtain ⟨l,ss,rfl,_⟩:=h
  rfl
 obtain ⟨l,ss,rfl,hl,ok,hlen,qn,q⟩:=h
 refine ⟨_,(zAf (zAy (i:=1) zFa.nd rfl (Or.inl rfl) (zAh h_p_spot (hr.mono (by decide)) rfl (zAa zAb (zAa zAb (zAa zAb zAe)))))
   (zAf (zCv PassesOwn.never rfl (zC9 rfl Z.range (zAa (zAu zA1 rfl Z.len zCo (zAa (pv 0) zAe)) zAe)) (zAr (i:=2) zFa.nd rfl (Or.inl rfl)) (zAi (zA9 (zCr (zB5 (zAh h_p_holds (hr.mono (by decide)) rfl (zAa (zAk zAg (pv 0) (pv 2) (fun _ _=>rfl)) (zAa (pv 1) zAe))))) (zAf (zAy (i:=1) zFa.nd rfl (Or.inl rfl) (zAh h_p_spot_on_edge (hr.mono (by decide)) rfl (zAa (zBs zCt (pv 0) zB3 (zB8 (pv 2))) (zAa (zAk zAg (pv 0) (pv 2) (fun _ _=>rfl)) zAe))))
   (zAi (zA9 (zAs zMf (pv 1) zBp (zAt _)) (zAi (zAq (zAz (zAa zBp (zAa (pv 2) zAe))))) zAv))) zAv)))
   (zAi (zAq (zAz (zAa (pv 1) (zAa zBp zAe))))))),?_⟩
 try dsimp only [L2.cxOf]
 refine ⟨0,0,1,rfl,by decide,by decide +kernel,fun p0 H1 s1 hp0 ep0=>?_⟩
 have ep0':SpAt H1 p0 (0,0,1):=⟨ep0,by decide,by decide⟩
 refine ⟨_,rfl,l,_,rfl,.inl (s1.seq hl),_,rfl,(by rw [zAm]; omega),(by rw [zAm]; omega),zEy (lo:=0) (n:=(((zAo ss).length:Nat):Int).toNat) (fun i σ H'=>Same H H'∧∃ (p:Addr) (P:P3) (u2:Option V),SpAt H' p P∧inW (ss.take i) P∧Cand ss P∧σ = [some (.ref l),some (.ref p),u2])
  ⟨s1,p0,(0,0,1),none,ep0',(fun t ht=>nomatch ht),.inl rfl,rfl⟩ ?_ ?_⟩
 ·rintro i σ H' hi ⟨sH,p,P,u2,ep,wp,cp,rfl⟩
  have hil:i < ss.length:=by rw [Int.toNat_natCast,zAm] at hi; exact hi
  obtain ⟨t,mt,gt,at'⟩:=zBf (ss:=ss) (i:=i) (k:=0 + (i:Int)) (by omega) hil
  obtain ⟨et0,nt,c1,c2,c3⟩:=ok t mt
  have et:Sq K H' t.1 [.int t.2.1,.int t.2.2.1,.int t.2.2.2]:=.inr (SqT.of (sH _ _ et0))
  refine ⟨_,rfl,_,rfl,l,_,_,_,rfl,rfl,.inl (sH.seq hl),at',_,rfl,t.1,p,t.2.1,t.2.2.1,t.2.2.2,P.1,P.2.1,P.2.2,rfl,et,.inr (SqT.of ep.1),by omega,by omega,by omega,_,rfl,?_⟩
  refine ifN (fun hout=>?_) (fun hin=>?_)
  ·have hout':0 < sv t.2 P:=by
    have:¬ sv t.2 P≤0:=hout
    omega
   refine ⟨_,rfl,_,rfl,_,rfl,l,_,rfl,sH.seq hl,fun c hc=>?_⟩
   rw [show (0:Int) + (i:Int) = ((i:Nat):Int) from Int.zero_add _,zNq]
   have sc:=zAd hc (.lst (zAo (ss.take i)))
   have ec:upd H' c (.lst (zAo (ss.take i))) c = some (.lst (zAo (ss.take i))):=zAc
   generalize upd H' c (.lst (zAo (ss.take i))) = H2 at sc ec ⊢
   have sH2:=sH.trans sc
   rw [show (0:Int) + (i:Int) = ((i:Nat):Int) from Int.zero_add _] at at'
   refine ⟨_,rfl,_,rfl,l,_,_,_,rfl,rfl,.inl (sH2.seq hl),at',c,t.1,ss.take i,t.2,rfl,SqL.of ec,(fun u hu=>ok.same sH2 u (List.mem_of_mem_take hu)),by rw [List.length_take]; omega,et.same sc,nt,c1,c2,c3,fun H3 s3 no=>?_,fun p3 P3' H3 s3 ep3 wp3 on3 cd3=>?_⟩
   ·refine ⟨_,rfl,rfl,_,rfl,?_⟩
    refine iteT ?_
    refine ⟨_,rfl,(by show 2≤sizeLine; decide),fun tt htt=>?_⟩
    exact qn tt i t P _ ((sH2.trans s3).trans (zAd htt _)) zAc ⟨gt,ep.2.1,wp,hout',no⟩
   ·refine ⟨_,rfl,rfl,_,rfl,?_⟩
    refine iteF ?_
    refine ⟨sH2.trans s3,p3,P3',_,ep3,fun u hu=>?_,?_,rfl⟩
    ·rw [zBn gt] at hu
     rcases List.mem_append.mp hu with hu | hu
     ·exact wp3 u hu
     ·rw [List.mem_singleton] at hu
      rw [hu,on3]
      exact Int.le_refl _
    ·rcases cd3 with h | ⟨u,hu,ht,h⟩
     ·exact .inr (.inl ⟨t,mt,h⟩)
     ·exact .inr (.inr ⟨t,mt,u,List.mem_of_mem_take hu,ht,h⟩)
  ·refine ⟨sH,p,P,_,ep,fun u hu=>?_,cp,rfl⟩
   rw [zBn gt] at hu
   rcases List.mem_append.mp hu with hu | hu
   ·exact wp u hu
   ·rw [List.mem_singleton] at hu
    rw [hu]
    exact hin
 ·rintro σ H' ⟨sH,p,P,u2,ep,wp,cp,rfl⟩
  rw [Int.toNat_natCast,zAm,List.take_length] at wp
  refine ⟨_,rfl,(by show 2≤sizeLine; decide),fun tt htt=>?_⟩
  have st:=zAd htt (.tup [.ref p,.non])
  exact q tt p P _ (sH.trans st) zAc (ep.same st) wp cp
def zGl (K:PySem.W.Frag):Sp:=fun vs H Q _=>∃ (l:Addr) (ss:List Sd),vs = [.ref l]∧SqL K H l (zAo ss)∧SdOk H ss∧ss.length≤900 ∧
 (∀ H':Hp,Same H H'→(∀ z:P3,0 < z.2.2→¬ inW ss z)→Q .non H') ∧
 ∀ (p:Addr) (P:P3) (H':Hp),Same H H'→SpAt H' p P→inW ss P→Cand ss P→Q (.ref p) H'
theorem zJ5 (F:Fun K "some_spot" "some_spot" zDw f fd) (Z:Zs mg) (h_p_sought:Has P w K mg base "sought" 8 ["sides"] (zGz K)):FnOk P w K mg base CX0 9 f fd ["sides"] (zGl K):=by
 refine F.ok zJ9 (fun vs H Q E h=>?_) (fun cdv A outer s H vs Q E hr h=>?_)
 ·obtain ⟨l,ss,rfl,_⟩:=h
  rfl
 obtain ⟨l,ss,rfl,hl,ok,hlen,qn,q⟩:=h
 refine ⟨_,(zAi (zAq (zAk zAg (zAh h_p_sought (hr.mono (by decide)) rfl (zAa (pv 0) zAe)) zAb (fun _ _=>rfl)))),?_⟩
 try dsimp only [L2.cxOf]
 refine ⟨_,rfl,l,ss,rfl,hl,ok,hlen,fun t j e P H' sH et st=>?_,fun t p P H' sH et ep wp cp=>?_⟩
 ·exact ⟨t,_,_,.non,rfl,rfl,.inr (SqT.of et),rfl,qn H' sH st.none⟩
 ·exact ⟨t,_,_,.ref p,rfl,rfl,.inr (SqT.of et),rfl,q p P H' sH ep wp cp⟩
def zFc (K:PySem.W.Frag):Sp:=fun vs H Q _=>∃ (l d:Addr) (ss:List Sd) (x y:Int),vs = [.ref l,.ref d]∧SqL K H l (zAo ss)∧SdOk H ss∧Sq K H d [.int x,.int y]∧Q (.bl (wayB ss x y)) H
theorem zN4 (F:Fun K "is_way" "is_way" zGc f fd) (Z:Zs mg) (h_p_along:Has P w K mg base "along" 1 ["one", "other"] (zDd K)):FnOk P w K mg base CX0 2 f fd ["sides", "direction"] (zFc K):=by
 refine F.ok zJj (fun vs H Q E h=>?_) (fun cdv A outer s H vs Q E hr h=>?_)
 ·obtain ⟨l,d,ss,x,y,rfl,_⟩:=h
  rfl
 obtain ⟨l,d,ss,x,y,rfl,hl,ok,hd,q⟩:=h
 refine ⟨_,(zAf (zCv PassesOwn.never rfl (zCd (pv 0)) (zAr (i:=2) zJj.nd rfl (Or.inl rfl)) (zAi (zA9 (zAs zHa (zAh h_p_along (hr.mono (by decide)) rfl (zAa (pv 2) (zAa (pv 1) zAe))) zAb (zAt _)) (zAi (zAq zE2)) zAv)))
   (zAi (zAq zE2))),?_⟩
 try dsimp only [L2.cxOf]
 refine ⟨_,rfl,l,rfl,.inl ⟨⟨_,hl⟩,zCg (K:=K) (a:=l) (xs:=zAo ss) (fun i σ H'=>H' = H∧(∀ j t,j < i→ss[j]? = some t→t.2.1 * x + t.2.2.1 * y≤0)∧∃ u2:Option V,σ = [some (.ref l),some (.ref d),u2])
  ⟨rfl,fun j t hj=>absurd hj (Nat.not_lt_zero _),none,rfl⟩ (fun i σ H' _ ⟨e,_⟩=>by rw [e]; exact hl) ?_ ?_⟩⟩
 ·rintro i v σ H' hi ⟨rfl,hall,u2,rfl⟩
  obtain ⟨t,gt,rfl,hil⟩:=zBv hi
  obtain ⟨et,_,b1,b2,_⟩:=ok t (List.mem_of_getElem? gt)
  refine ⟨_,rfl,_,rfl,t.1,d,_,_,t.2.1,t.2.2.1,x,y,rfl,.inr (SqT.of et),hd,rfl,rfl,rfl,rfl,by omega,by omega,_,_,rfl,rfl,_,rfl,?_⟩
  refine ifD (fun hpos=>?_) (fun hneg=>?_)
  ·have e:wayB ss x y = false:=by
    unfold wayB
    rw [Bool.eq_false_iff]
    intro z
    have z2:=of_decide_eq_true (List.all_eq_true.mp z t (List.mem_of_getElem? gt))
    omega
   rw [e] at q
   exact q
  ·refine ⟨rfl,fun j t' hj ht'=>?_,_,rfl⟩
   by_cases e:j = i
   ·rw [e,gt] at ht'
    cases ht'
    omega
   ·exact hall j t' (by omega) ht'
 ·rintro σ H' ⟨rfl,hall,u2,rfl⟩
  have e:wayB ss x y = true:=by
   unfold wayB
   rw [List.all_eq_true]
   intro t ht
   obtain ⟨j,hj,ej⟩:=List.getElem_of_mem ht
   exact decide_eq_true (hall j t (by rw [zAm]; exact hj) (by rw [List.getElem?_eq_getElem hj,ej]))
  rw [e] at q
  exact q
def zMc (K:PySem.W.Frag):Sp:=fun vs H Q _=>∃ (l:Addr) (ss:List Sd),vs = [.ref l]∧SqL K H l (zAo ss)∧SdOk H ss∧ss.length≤400 ∧
 ∀ (p:Addr) (us:List (Addr × List Int)) (H':Hp),Same H H'→H p = none→WaysAt H' p ss us→Q (.ref p) H'
theorem zRs (F:Fun K "ways" "ways" zIi f fd) (Z:Zs mg) (h_p_is_way:Has P w K mg base "is_way" 2 ["sides", "direction"] (zFc K)) (h_p_plain:Has P w K mg base "plain" 3 ["direction"] (zH0 K)):FnOk P w K mg base CX0 4 f fd ["sides"] (zMc K):=by
 refine F.ok zHg (fun vs H Q E h=>?_) (fun cdv A outer s H vs Q E hr h=>?_)
 ·obtain ⟨l,ss,rfl,_⟩:=h
  rfl
 obtain ⟨l,ss,rfl,hl,ok,h31,q⟩:=h
 have nz:∀ t∈ss,t.2.1≠0∨t.2.2.1≠0:=fun t ht=>(ok t ht).2.1
 have hu1:=Nat.lt_of_le_of_lt (Nat.add_le_add_left (show 1≤64 by decide) _) hr.units
 refine ⟨_,(zAf (zAy (i:=1) zHg.nd rfl (Or.inl rfl) zOi)
   (zAf (zCv PassesOwn.never rfl (zCd (pv 0)) (zAr (i:=2) zHg.nd rfl (Or.inl rfl)) (zAi (zCv PassesOwn.never rfl (zJm (zCb (zAa (zAz (zAa (zEi zCp (zAk zAg (pv 2) zAb (fun _ _=>rfl))) (zAa (zAk zAg (pv 2) zAb (fun _ _=>rfl)) zAe))) (zAa (zAz (zAa (zAk zAg (pv 2) zAb (fun _ _=>rfl)) (zAa (zEi zCp (zAk zAg (pv 2) zAb (fun _ _=>rfl))) zAe))) zAe)))) (zAr (i:=3) zHg.nd rfl (Or.inl rfl)) (zAi (zA9 (zB5 (zAh h_p_is_way (hr.mono (by decide)) rfl (zAa (pv 0) (zAa (pv 3) zAe)))) (zAi (zSg hu1 (pv 1) (zAh h_p_plain (hr.mono (by decide)) rfl (zAa (pv 3) zAe)) zE2 rfl)) zAv)))))
   (zAi (zAq (zAu zL7 rfl Z.sorted zJc (zAa (zCj (zIb rfl) rfl Z.list zC6 (zAa (pv 1) zAe)) zAe)))))),?_⟩
 try dsimp only [L2.cxOf]
 refine fun d hd=>?_
 have two:∀ k,WK ss ss.length k→k.length = 1 + 1:=fun k ⟨_,t,_,_,h⟩=>by
  rcases h with ⟨e,_⟩ | ⟨e,_⟩ <;> rw [e] <;> rfl
 refine ⟨_,rfl,l,rfl,.inl ⟨⟨_,(zAd hd _).seq hl⟩,zCg (K:=K) (a:=l) (xs:=zAo ss) (fun i σ H'=>Same H H'∧(∃ kvs ks,H' d = some (.dT kvs)∧TabK kvs ks∧ks.length≤2 * i∧∀ k,k∈ks↔WK ss i k)∧∃ u2 u3:Option V,σ = [some (.ref l),some (.ref d),u2,u3])
  ⟨zAd hd _,⟨[],[],zAc,.nil,Nat.le_refl _,fun k=>⟨(fun z=>nomatch z),fun z=>absurd z (zUd ss k)⟩⟩,none,none,rfl⟩ (fun i σ H' _ ⟨e,_⟩=>e.seq hl) ?_ ?_⟩⟩
 ·rintro i v σ H' hi ⟨sH,⟨kvs,ks,eD,tk,hks,mem⟩,u2,u3,rfl⟩
  obtain ⟨t,gt,rfl,hil⟩:=zBv hi
  obtain ⟨et0,nt,b1,b2,_⟩:=ok t (List.mem_of_getElem? gt)
  have et:=sH _ _ et0
  have st:Sq K H' t.1 [.int t.2.1,.int t.2.2.1,.int t.2.2.2]:=.inr (SqT.of et)
  refine ⟨_,rfl,t.1,_,_,.int t.2.2.1,rfl,rfl,st,rfl,_,rfl,_,rfl,t.1,_,_,.int t.2.1,rfl,rfl,st,rfl,(by show 2≤sizeLine; decide),fun p1 hp1=>?_⟩
  have sp1:Same H' (upd H' p1 (.tup [.int (-t.2.2.1),.int t.2.1])):=zAd hp1 _
  have ep1:upd H' p1 (.tup [.int (-t.2.2.1),.int t.2.1]) p1 = some (.tup [.int (-t.2.2.1),.int t.2.1]):=zAc
  generalize upd H' p1 (.tup [.int (-t.2.2.1),.int t.2.1]) = G1 at sp1 ep1 ⊢
  have st1:=st.same sp1
  refine ⟨_,rfl,t.1,_,_,.int t.2.2.1,rfl,rfl,st1,rfl,_,rfl,t.1,_,_,.int t.2.1,rfl,rfl,st1,rfl,_,rfl,(by show 2≤sizeLine; decide),fun p2 hp2=>?_⟩
  have sp2:Same G1 (upd G1 p2 (.tup [.int t.2.2.1,.int (-t.2.1)])):=zAd hp2 _
  have ep2:upd G1 p2 (.tup [.int t.2.2.1,.int (-t.2.1)]) p2 = some (.tup [.int t.2.2.1,.int (-t.2.1)]):=zAc
  generalize upd G1 p2 (.tup [.int t.2.2.1,.int (-t.2.1)]) = G2 at sp2 ep2 ⊢
  refine ⟨(by show 2≤sizeLine; decide),fun pl hpl=>?_⟩
  have spl:Same G2 (upd G2 pl (.lst [.ref p1,.ref p2])):=zAd hpl _
  have epl:upd G2 pl (.lst [.ref p1,.ref p2]) pl = some (.lst [.ref p1,.ref p2]):=zAc
  have sAll:=(sp1.trans sp2).trans spl
  have ep1':=spl _ _ (sp2 _ _ ep1)
  have ep2':=spl _ _ ep2
  have eD':=sAll _ _ eD
  generalize upd G2 pl (.lst [.ref p1,.ref p2]) = G3 at spl epl sAll ep1' ep2' eD' ⊢
  have npl:pl≠d:=fun z=>by rw [z] at epl; rw [epl] at eD'; cases eD'
  refine ⟨pl,rfl,⟨_,SqL.of epl⟩,zCg (K:=K) (a:=pl) (xs:=[.ref p1,.ref p2]) (fun j σ H'=>Same H H'∧H' pl = some (.lst [.ref p1,.ref p2])∧H' p1 = some (.tup [.int (-t.2.2.1),.int t.2.1])∧H' p2 = some (.tup [.int t.2.2.1,.int (-t.2.1)]) ∧
    (∃ kvs ks,H' d = some (.dT kvs)∧TabK kvs ks∧ks.length≤2 * i + j∧∀ k,k∈ks↔WK ss i k∨(0 < j∧k = lowL [-t.2.2.1,t.2.1]∧wayB ss (-t.2.2.1) t.2.1 = true)∨(1 < j∧k = lowL [t.2.2.1,-t.2.1]∧wayB ss t.2.2.1 (-t.2.1) = true))∧∃ u3:Option V,σ = [some (.ref l),some (.ref d),some (.ref t.1),u3])
   ⟨sH.trans sAll,epl,ep1',ep2',⟨kvs,ks,eD',tk,by omega,fun k=>(mem k).trans ⟨.inl,fun z=>by
    rcases z with z | ⟨z,_⟩ | ⟨z,_⟩
    ·exact z
    ·exact absurd z (Nat.not_lt_zero _)
    ·exact absurd z (Nat.not_lt_zero _)⟩⟩,_,rfl⟩ (fun i σ H' _ ⟨_,e,_⟩=>SqL.of e) ?_ ?_⟩
  ·rintro j v σ H4 hj ⟨s4,e4l,e41,e42,⟨kvs,ks,eD4,tk,hks4,mem⟩,u3,rfl⟩
   have hj2:j < 2:=(List.getElem?_eq_some_iff.mp hj).1
   obtain ⟨pj,X,Y,rfl,epj,hXY,hn,bX,bY⟩:∃ (pj:Addr) (X Y:Int),v = .ref pj∧H4 pj = some (.tup [.int X,.int Y])∧((j = 0∧X = -t.2.2.1∧Y = t.2.1)∨(j = 1∧X = t.2.2.1∧Y = -t.2.1))∧(X≠0∨Y≠0)∧X.natAbs≤10 ^ 9∧Y.natAbs≤10 ^ 9:=by
    match j,hj with
    | 0,h=>cases h; exact ⟨p1,_,_,rfl,e41,.inl ⟨rfl,rfl,rfl⟩,by omega,by omega,by omega⟩
    | 1,h=>cases h; exact ⟨p2,_,_,rfl,e42,.inr ⟨rfl,rfl,rfl⟩,by omega,by omega,by omega⟩
   have step:∀ k,(k = lowL [X,Y]∧wayB ss X Y = true)∨(WK ss i k∨(0 < j∧k = lowL [-t.2.2.1,t.2.1]∧wayB ss (-t.2.2.1) t.2.1 = true)∨(1 < j∧k = lowL [t.2.2.1,-t.2.1]∧wayB ss t.2.2.1 (-t.2.1) = true)) ↔
     WK ss i k∨(0 < j + 1∧k = lowL [-t.2.2.1,t.2.1]∧wayB ss (-t.2.2.1) t.2.1 = true)∨(1 < j + 1∧k = lowL [t.2.2.1,-t.2.1]∧wayB ss t.2.2.1 (-t.2.1) = true):=fun k=>by
    rcases hXY with ⟨rfl,rfl,rfl⟩ | ⟨rfl,rfl,rfl⟩
    ·constructor
     ·rintro (h | h | h | h)
      ·exact .inr (.inl ⟨by decide,h⟩)
      ·exact .inl h
      ·exact absurd h.1 (by decide)
      ·exact absurd h.1 (by decide)
     ·rintro (h | h | h)
      ·exact .inr (.inl h)
      ·exact .inl h.2
      ·exact absurd h.1 (by decide)
    ·constructor
     ·rintro (h | h | h | h)
      ·exact .inr (.inr ⟨by decide,h⟩)
      ·exact .inl h
      ·exact .inr (.inl ⟨by decide,h.2⟩)
      ·exact absurd h.1 (by decide)
     ·rintro (h | h | h)
      ·exact .inr (.inl h)
      ·exact .inr (.inr (.inl ⟨by decide,h.2⟩))
      ·exact .inl h.2
   obtain ⟨gp,g6⟩:=gcd2 hn bX bY
   refine ⟨_,rfl,_,rfl,l,pj,ss,X,Y,rfl,s4.seq hl,ok.same s4,.inr (SqT.of epj),_,rfl,?_⟩
   by_cases hw:wayB ss X Y = true
   ·rw [hw]
    refine iteT ?_
    refine ⟨_,rfl,_,rfl,pj,[X,Y],rfl,.inr (SqT.of epj),by show 2≤1000; decide,gp,g6,fun pk G5 s5 hpk epk=>?_⟩
    have eD5:=s5 _ _ eD4
    obtain ⟨ks',tk',mem',len'⟩:=tk.put (lowL [X,Y]) (.bl true)
    have kl:=tk.len
    refine ⟨d,_,rfl,DPut.t eD5 (by rw [zI8]; exact epk) (by rw [kl]; exact Nat.lt_of_le_of_lt (Nat.le_trans hks4 (show 2 * i + j≤1000 by omega)) (by decide)),?_⟩
    have keepT:∀ (b:Addr) (xs:List V),G5 b = some (.tup xs)→upd G5 d (.dT (putK kvs (keyI (lowL [X,Y])) (.bl true))) b = some (.tup xs):=fun b xs e=>by
     rw [zA5 (zHh e eD5 (by intro z; cases z))]
     exact e
    refine ⟨(s4.trans s5).putNew hd,?_,keepT _ _ (s5 _ _ e41),keepT _ _ (s5 _ _ e42),⟨_,ks',zAc,tk',by omega,fun k=>?_⟩,_,rfl⟩
    ·rw [zA5 npl]
     exact s5 _ _ e4l
    ·rw [mem' k,← step k,← mem k]
     constructor
     ·rintro (h | h)
      ·exact .inr h
      ·exact .inl ⟨h,hw⟩
     ·rintro (h | h)
      ·exact .inr h.1
      ·exact .inl h
   ·have hw':wayB ss X Y = false:=by simpa using hw
    rw [hw']
    refine iteF ?_
    refine ⟨s4,e4l,e41,e42,⟨kvs,ks,eD4,tk,by omega,fun k=>?_⟩,_,rfl⟩
    rw [mem k,← step k]
    constructor
    ·exact .inr
    ·rintro (h | h)
     ·exact absurd h.2 hw
     ·exact h
  ·rintro σ H4 ⟨s4,_,_,_,⟨kvs,ks,eD4,tk,hks4,mem⟩,u3,rfl⟩
   refine ⟨s4,⟨kvs,ks,eD4,tk,by show ks.length≤2 * (i + 1); have:ks.length≤2 * i + 2:=hks4; omega,fun k=>?_⟩,_,_,rfl⟩
   rw [mem k,zUr gt]
   constructor
   ·rintro (h | h | h)
    ·exact .inl h
    ·exact .inr (.inl h.2)
    ·exact .inr (.inr h.2)
   ·rintro (h | h | h)
    ·exact .inl h
    ·exact .inr (.inl ⟨by show 0 < 2; decide,h⟩)
    ·exact .inr (.inr ⟨by show 1 < 2; decide,h⟩)
 ·rintro σ H' ⟨sH,⟨kvs,ks,eD,tk,hks,mem⟩,u2,u3,rfl⟩
  rw [zAm] at hks mem
  refine ⟨_,rfl,d,kvs,rfl,eD,fun p1 ts hp1 ets hts=>?_⟩
  have sp1:=zAd hp1 (.lst ((ts.map (·.1)).map V.ref))
  obtain ⟨us,u1,u2,u3⟩:=tk.refs ets hts
  have few2:=zTe nz tk.nodup fun k hk=>(mem k).mp hk
  refine ⟨p1,us,1,rfl,by rw [u1]; exact SqL.of zAc,by have z:=congrArg List.length u2; rw [List.length_map] at z; omega,fun t ht=>⟨sp1 _ _ (u3 t ht),?_⟩,fun p2 us2 hp2 pm ri=>?_⟩
  ·have z:t.2∈ks:=by rw [← u2]; exact List.mem_map_of_mem ht
   exact two t.2 ((mem _).mp z)
  have sp2:=zAd hp2 (.lst ((us2.map (·.1)).map V.ref))
  have pm2:(us2.map (·.2)).Perm ks:=by rw [← u2]; exact pm.map _
  refine q p2 us2 _ (((sH).trans sp1).trans sp2) ((sH).free (sp1.free hp2)) ⟨zAc,fun u hu=>sp2 _ _ (sp1 _ _ (u3 u (pm.mem_iff.mp hu))),List.pairwise_map.mpr ri,pm2.nodup_iff.mpr tk.nodup,fun k=>(pm2.mem_iff).trans (mem k),by have z:=pm2.length_eq; rw [List.length_map] at z; omega⟩
def zJf (K:PySem.W.Frag):Sp:=fun vs H Q _=>∃ (a:Addr) (us:List V) (x y:Int),vs = [.ref a]∧Sq K H a us∧atI us 0 = some (.int x)∧atI us 1 = some (.int y)∧Q (.int (zBl x y)) H
theorem zQg (F:Fun K "span" "span" zIg f fd) (Z:Zs mg)  : FnOk P w K mg base CX0 1 f fd ["direction"] (zJf K):=by
 refine F.ok zP6 (fun vs H Q E h=>?_) (fun cdv A outer s H vs Q E hr h=>?_)
 ·obtain ⟨a,us,x,y,rfl,_⟩:=h
  rfl
 obtain ⟨a,us,x,y,rfl,ha,h0,h1,q⟩:=h
 refine ⟨_,(zAi (zAq (zAl zBc (zAu zCy rfl Z.abs zFh (zAa (zAk zAg (pv 0) zAb (fun _ _=>rfl)) zAe)) (zAu zCy rfl Z.abs zFh (zAa (zAk zAg (pv 0) zAb (fun _ _=>rfl)) zAe))))),?_⟩
 try dsimp only [L2.cxOf]
 exact ⟨_,rfl,a,_,_,.int x,rfl,rfl,ha,h0,_,rfl,_,rfl,a,_,_,.int y,rfl,rfl,ha,h1,_,rfl,_,_,rfl,rfl,q⟩
def zFn (K:PySem.W.Frag):Sp:=fun vs H Q _=>∃ (a b:Addr) (ns ws:List Int),vs = [.ref a,.ref b]∧SqL K H a (ns.map V.int)∧SqL K H b (ws.map V.int)∧ns.length = ws.length∧ws.length≤900∧0 < gcdL ws∧(gcdL ws:Int) < 10 ^ 600 ∧
 ∀ (D:Addr) (cs:List Pr) (H':Hp),Same H H'→H D = none→H' D = some (.lst (zBq cs))→PrAt H' cs→cs.map (·.2) = ns.zip (lowL ws)→Q (.ref D) H'
theorem zLy (F:Fun K "weighed" "weighed" zE9 f fd) (Z:Zs mg) (h_p_lowest:Has P w K mg base "lowest" 2 ["numbers"] (zDh K)):FnOk P w K mg base CX0 3 f fd ["numbers", "weights"] (zFn K):=by
 refine F.ok zIa (fun vs H Q E h=>?_) (fun cdv A outer s H vs Q E hr h=>?_)
 ·obtain ⟨a,b,ns,ws,rfl,_⟩:=h
  rfl
 obtain ⟨a,b,ns,ws,rfl,ha,hb,hn,hl,hg,hg2,q⟩:=h
 refine ⟨_,(zAf (zAy (i:=2) zIa.nd rfl (Or.inr rfl) (zAh h_p_lowest (hr.mono (by decide)) rfl (zAa (pv 1) zAe)))
   (zAi (zAq (zC2 (T:=["at"]) (caps:=[("least", 2),("numbers", 0)]) ⟨rfl,by decide +kernel,by decide +kernel,rfl,⟨⟨rfl,rfl,Or.inl rfl⟩,⟨rfl,rfl,Or.inl rfl⟩,True.intro⟩⟩ rfl (zC9 rfl Z.range (zAa (zAu zA1 rfl Z.len zCo (zAa (pv 0) zAe)) zAe)) (fun _=>(zAr (i:=0) (show (["at", "least", "numbers"]:List Str).Nodup by decide +kernel) rfl (Or.inl rfl))) (fun _=>zBg) (fun _=>(zAz (zAa (zAk zAg (pv 2) (pv 0) (fun _ _=>rfl)) (zAa (zAk zAg (pv 1) (pv 0) (fun _ _=>rfl)) zAe)))))))),?_⟩
 try dsimp only [L2.cxOf]
 refine ⟨_,rfl,b,ws,rfl,.inl hb,by omega,hg,hg2,fun p H1 s1 hp ep=>?_⟩
 have hlow:(lowL ws).length = ws.length:=by unfold lowL; rw [List.length_map]
 have ha1:=s1.seq ha
 refine ⟨_,rfl,a,_,rfl,.inl ha1,_,rfl,(by rw [List.length_map]; omega),(by rw [List.length_map]; omega),fun cc D hD=>zGw (lo:=0) (n:=(((ns.map V.int).length:Nat):Int).toNat) (fun i σ ys G=>Same H1 G∧G D = some (.lst ys)∧(∃ cs:List Pr,ys = zBq cs∧PrAt G cs∧cs.map (·.2) = (ns.zip (lowL ws)).take i)∧∃ u0:Option V,σ = [u0,some (.ref p),some (.ref a)])
  ⟨zAd hD _,zAc,⟨[],rfl,(fun t ht=>nomatch ht),rfl⟩,none,rfl⟩ (fun i σ ys G _ ⟨_,e,_⟩=>e) ?_ ?_⟩
 ·rintro i σ ys G hi ⟨sG,eD,⟨cs,rfl,okc,mc⟩,u0,rfl⟩
  rw [Int.toNat_natCast,List.length_map] at hi
  have lc:cs.length≤i:=by
   have z:=congrArg List.length mc
   rw [List.length_map,List.length_take] at z
   omega
  obtain ⟨n,gn,an⟩:=zQp (ns:=ns) (i:=i) (k:=0 + (i:Int)) (by omega) hi
  obtain ⟨m,gm,am⟩:=zQp (ns:=lowL ws) (i:=i) (k:=0 + (i:Int)) (by omega) (by omega)
  refine ⟨_,rfl,_,rfl,a,_,_,_,rfl,rfl,.inl (sG.seq ha1),an,_,rfl,_,rfl,p,_,_,_,rfl,rfl,.inr (SqT.of (sG _ _ ep)),am,(by show 2≤sizeLine; decide),fun t ht=>?_⟩
  have st:=zAd ht (.tup [.int n,.int m])
  have ntD:t≠D:=fun z=>by rw [z,eD] at ht; cases ht
  refine ⟨st _ _ eD,zA6 (by rw [zCn]; omega),(sG.trans st).putNew hD,zAc,⟨cs ++ [(t,n,m)],by simp [zBq],fun u hu=>?_,?_⟩,_,rfl⟩
  ·rcases List.mem_append.mp hu with hu | hu
   ·rw [zA5 (zHh (st _ _ (okc u hu)) (st _ _ eD) (by intro z; cases z))]
    exact st _ _ (okc u hu)
   ·rw [List.mem_singleton] at hu
    subst hu
    show upd _ D _ t = _
    rw [zA5 ntD]
    exact zAc
  ·rw [List.map_append,mc,zBn (x:=(n,m)) (by rw [List.getElem?_zip_eq_some]; exact ⟨gn,gm⟩)]
   rfl
 ·rintro σ ys G ⟨sG,eD,⟨cs,rfl,okc,mc⟩,u0,rfl⟩
  rw [Int.toNat_natCast,List.length_map,List.take_of_length_le (by rw [List.length_zip]; omega)] at mc
  exact q D cs G (s1.trans sG) (s1.free hD) eD okc mc
theorem zP5 {a b c d:Int} (ha:a.natAbs≤10 ^ 9) (hb:b.natAbs≤10 ^ 9) (hc:c.natAbs≤10 ^ 9) (hd:d.natAbs≤10 ^ 9):absI (a * b - c * d)≤10 ^ 19:=by
 have z1:=zAj a b ha hb
 have z2:=zAj c d hc hd
 unfold absI
 split <;> omega
def zEb (K:PySem.W.Frag):Sp:=fun vs H Q _=>∃ (l:Addr) (ss:List Sd) (j:Nat) (e:Sd) (P:P3),vs = [.ref l,.int j]∧SqL K H l (zAo ss)∧SdOk H ss∧ss.length≤900∧zTo ss j e P∧(∀ t∈ss.take j,tn e.2 t.2 = 0→sv t.2 (pt3 (ftL e.2))≤0) ∧
 ∀ (D:Addr) (cs:List Pr) (H':Hp),Same H H'→H D = none→H' D = some (.lst (zBq cs))→PrAt H' cs→zLc ss (cs.map (·.2))→Q (.ref D) H'
theorem zGu (F:Fun K "clash_of_three" "clash_of_three" zCh f fd) (Z:Zs mg) (h_p_weighed:Has P w K mg base "weighed" 3 ["numbers", "weights"] (zFn K)) (h_p_turn:Has P w K mg base "turn" 1 ["one", "other"] (zDt K)) (h_p_edge_end:Has P w K mg base "edge_end" 5 ["sides", "edge", "hand"] (zD5 K)):FnOk P w K mg base CX0 6 f fd ["sides", "last"] (zEb K):=by
 refine F.ok zBe (fun vs H Q E h=>?_) (fun cdv A outer s H vs Q E hr h=>?_)
 ·obtain ⟨l,ss,j,e,P,rfl,_⟩:=h
  rfl
 obtain ⟨l,ss,j,e,P,rfl,hl,ok,hlen,st,bes,q⟩:=h
 have hj:j < ss.length:=(List.getElem?_eq_some_iff.mp st.at').1
 obtain ⟨e',me,ge,at'⟩:=zBf (ss:=ss) (i:=j) (k:=(j:Int)) rfl hj
 rw [st.at'] at ge
 cases ge
 obtain ⟨ee,ne,c1,c2,c3⟩:=ok e me
 have hN:=zEk ne
 obtain ⟨sf,f1⟩:=zR7 ne
 refine ⟨_,(zAf (zAy (i:=2) zBe.nd rfl (Or.inl rfl) (zAk zAg (pv 0) (pv 1) (fun _ _=>rfl)))
   (zAf (zAy (i:=3) zBe.nd rfl (Or.inl rfl) (zAu zMo rfl Z.sorted zJc (zAa (zCb (zAa (zAh h_p_edge_end (hr.mono (by decide)) rfl (zAa (zBs zCt (pv 0) zB3 (zB8 (pv 1))) (zAa (pv 2) (zAa (zEi zCp zAb) zAe)))) (zAa (zAh h_p_edge_end (hr.mono (by decide)) rfl (zAa (zBs zCt (pv 0) zB3 (zB8 (pv 1))) (zAa (pv 2) (zAa zAb zAe)))) zAe))) zAe)))
   (zAf (zAy (i:=4) zBe.nd rfl (Or.inl rfl) (zAk zAg (pv 0) (zAk zAg (pv 3) zAb (fun _ _=>rfl)) (fun _ _=>rfl)))
   (zAf (zAy (i:=5) zBe.nd rfl (Or.inl rfl) (zAk zAg (pv 0) (zAk zAg (pv 3) zAb (fun _ _=>rfl)) (fun _ _=>rfl)))
   (zAf (zAy (i:=6) zBe.nd rfl (Or.inl rfl) (zCb (zAa (zAu zCy rfl Z.abs zFh (zAa (zAh h_p_turn (hr.mono (by decide)) rfl (zAa (pv 5) (zAa (pv 2) zAe))) zAe)) (zAa (zAu zCy rfl Z.abs zFh (zAa (zAh h_p_turn (hr.mono (by decide)) rfl (zAa (pv 2) (zAa (pv 4) zAe))) zAe)) (zAa (zAu zCy rfl Z.abs zFh (zAa (zAh h_p_turn (hr.mono (by decide)) rfl (zAa (pv 4) (zAa (pv 5) zAe))) zAe)) zAe)))))
   (zAi (zAq (zAh h_p_weighed (hr.mono (by decide)) rfl (zAa (zAl zFr (pv 3) (zCb (zAa (pv 1) zAe))) (zAa (pv 6) zAe)))))))))),?_⟩
 try dsimp only [L2.cxOf]
 refine ⟨_,rfl,_,rfl,l,_,_,_,rfl,rfl,.inl hl,at',?_⟩
 refine ⟨_,rfl,_,rfl,_,rfl,l,_,rfl,hl,fun c hc=>?_⟩
 rw [zNq]
 have sc:=zAd hc (.lst (zAo (ss.take j)))
 have ec:upd H c (.lst (zAo (ss.take j))) c = some (.lst (zAo (ss.take j))):=zAc
 generalize upd H c (.lst (zAo (ss.take j))) = H1 at sc ec ⊢
 refine ⟨_,rfl,_,rfl,c,e.1,ss.take j,e.2,-1,rfl,SqL.of ec,(fun u hu=>ok.same sc u (List.mem_of_mem_take hu)),by rw [List.length_take]; omega,.inr (SqT.of (sc _ _ ee)),ne,c1,c2,c3,.inr rfl,fun r1 H2 s2 k1=>?_⟩
 have sH2:=sc.trans s2
 refine ⟨_,rfl,_,rfl,_,rfl,l,_,rfl,sH2.seq hl,fun d hd=>?_⟩
 rw [zNq]
 have sd:=zAd hd (.lst (zAo (ss.take j)))
 have ed:upd H2 d (.lst (zAo (ss.take j))) d = some (.lst (zAo (ss.take j))):=zAc
 generalize upd H2 d (.lst (zAo (ss.take j))) = H3 at sd ed ⊢
 have sH3:=sH2.trans sd
 refine ⟨_,rfl,d,e.1,ss.take j,e.2,1,rfl,SqL.of ed,(fun u hu=>ok.same sH3 u (List.mem_of_mem_take hu)),by rw [List.length_take]; omega,.inr (SqT.of (sH3 _ _ ee)),ne,c1,c2,c3,.inl rfl,fun r2 H4 s4 k2=>?_⟩
 have sH4:=sH3.trans s4
 obtain ⟨i1,rfl⟩:∃ i1,r1 = some i1:=by
  cases r1 with
  | some i1=>exact ⟨i1,rfl⟩
  | none=>exact (zOe (h:=-1) (by decide) hN f1 sf.pos st.no bes k1 (show zId (ss.take j) e.2 (- -1) r2 from k2)).elim
 obtain ⟨i2,rfl⟩:∃ i2,r2 = some i2:=by
  cases r2 with
  | some i2=>exact ⟨i2,rfl⟩
  | none=>exact (zOe (h:=1) (by decide) hN f1 sf.pos st.no bes k2 k1).elim
 obtain ⟨a,ga,ha,ta⟩:=k1
 obtain ⟨b,gb,hb,tb⟩:=k2
 refine ⟨(by show 2≤sizeLine; decide),fun nl hnl=>?_⟩
 have snl:Same H4 (upd H4 nl (.lst [optV (some i1),optV (some i2)])):=zAd hnl _
 have enl:upd H4 nl (.lst [optV (some i1),optV (some i2)]) nl = some (.lst ([(i1:Int),(i2:Int)].map V.int)):=zAc
 generalize upd H4 nl (.lst [optV (some i1),optV (some i2)]) = H5 at snl enl ⊢
 have sH5:=sH4.trans snl
 refine ⟨nl,[(i1:Int),(i2:Int)],rfl,SqL.of enl,(by show 2 < 64; decide),fun sn ms hsn pm pw=>?_⟩
 have di:i1≠i2:=fun z=>by
  rw [z,gb] at ga
  cases ga
  omega
 obtain ⟨x,y,s1,t1,h,rfl,hxy,gx,gy,h1,hs1,ht1,as1,at1⟩:∃ (x y:Nat) (s1 t1:Sd) (h:Int),ms = [(x:Int),(y:Int)]∧x < y∧(ss.take j)[x]? = some s1∧(ss.take j)[y]? = some t1∧(h = 1∨h = -1)∧0 < tn e.2 s1.2 * h∧0 < tn e.2 t1.2 * -h ∧
   (∀ u∈ss.take j,0 < tn e.2 u.2 * h→sv u.2 (pt3 (crL e.2 s1.2))≤0)∧(∀ u∈ss.take j,0 < tn e.2 u.2 * -h→sv u.2 (pt3 (crL e.2 t1.2))≤0):=by
  rcases zPj pm pw with ⟨rfl,le⟩ | ⟨rfl,le⟩
  ·exact ⟨i1,i2,a,b,-1,rfl,by omega,ga,gb,.inr rfl,ha,hb,ta,tb⟩
  ·exact ⟨i2,i1,b,a,1,rfl,by omega,gb,ga,.inl rfl,hb,ha,tb,ta⟩
 have hh:h * h = 1:=by rcases h1 with rfl | rfl <;> rfl
 obtain ⟨A1,A2,A3,A4⟩:=three hh hN f1 sf.pos st.no bes (List.mem_of_getElem? gx) (List.mem_of_getElem? gy) hs1 ht1 as1 at1 st.pos st.ahead st.out
 have gx':ss[x]? = some s1∧x < j:=by
  rw [List.getElem?_take] at gx
  split at gx
  ·exact ⟨gx,by omega⟩
  ·cases gx
 have gy':ss[y]? = some t1∧y < j:=by
  rw [List.getElem?_take] at gy
  split at gy
  ·exact ⟨gy,by omega⟩
  ·cases gy
 obtain ⟨_,mx,gx2,atx⟩:=zBf (ss:=ss) (i:=x) (k:=(x:Int)) rfl (by omega)
 rw [gx'.1] at gx2
 cases gx2
 obtain ⟨_,my,gy2,aty⟩:=zBf (ss:=ss) (i:=y) (k:=(y:Int)) rfl (by omega)
 rw [gy'.1] at gy2
 cases gy2
 obtain ⟨es,ns,d1,d2,d3⟩:=ok s1 mx
 obtain ⟨et,nt,g1,g2,g3⟩:=ok t1 my
 have ssn:Same H5 (upd H5 sn (.lst ([(x:Int),(y:Int)].map V.int))):=zAd hsn _
 have esn:upd H5 sn (.lst ([(x:Int),(y:Int)].map V.int)) sn = some (.lst ([(x:Int),(y:Int)].map V.int)):=zAc
 generalize upd H5 sn (.lst ([(x:Int),(y:Int)].map V.int)) = H6 at ssn esn ⊢
 have sH6:=sH5.trans ssn
 have hl6:Sq K H6 l (zAo ss):=.inl (sH6.seq hl)
 have ee6:Sq K H6 e.1 [.int e.2.1,.int e.2.2.1,.int e.2.2.2]:=.inr (SqT.of (sH6 _ _ ee))
 have es6:Sq K H6 s1.1 [.int s1.2.1,.int s1.2.2.1,.int s1.2.2.2]:=.inr (SqT.of (sH6 _ _ es))
 have et6:Sq K H6 t1.1 [.int t1.2.1,.int t1.2.2.1,.int t1.2.2.2]:=.inr (SqT.of (sH6 _ _ et))
 refine ⟨_,rfl,_,rfl,sn,_,_,.int (x:Int),rfl,rfl,.inl (SqL.of esn),rfl,l,_,_,_,rfl,rfl,hl6,atx,?_⟩
 refine ⟨_,rfl,_,rfl,sn,_,_,.int (y:Int),rfl,rfl,.inl (SqL.of esn),rfl,l,_,_,_,rfl,rfl,hl6,aty,?_⟩
 refine ⟨_,rfl,_,rfl,t1.1,e.1,_,_,t1.2.1,t1.2.2.1,e.2.1,e.2.2.1,rfl,et6,ee6,rfl,rfl,rfl,rfl,by omega,by omega,_,rfl,
  _,rfl,_,rfl,e.1,s1.1,_,_,e.2.1,e.2.2.1,s1.2.1,s1.2.2.1,rfl,ee6,es6,rfl,rfl,rfl,rfl,by omega,by omega,_,rfl,
  _,rfl,_,rfl,s1.1,t1.1,_,_,s1.2.1,s1.2.2.1,t1.2.1,t1.2.2.1,rfl,es6,et6,rfl,rfl,rfl,rfl,by omega,by omega,_,rfl,(by show 3≤sizeLine; decide),fun wl hwl=>?_⟩
 refine ⟨_,rfl,_,rfl,(by show 1≤sizeLine; decide),fun ol hol=>?_⟩
 have swl:=zAd hwl (.lst ([absI (tn t1.2 e.2),absI (tn e.2 s1.2),absI (tn s1.2 t1.2)].map V.int))
 have sol:=zAd hol (.lst [.int (j:Int)])
 refine ⟨sn,ol,_,_,rfl,rfl,sol _ _ (swl _ _ esn),zAc,small (by show 2 + 1≤1000; decide),fun nc hnc=>?_⟩
 have snc:=zAd hnc (.lst ([(x:Int),(y:Int),(j:Int)].map V.int))
 have pU:0 < absI (tn t1.2 e.2):=by rw [zB4 h1 A1]; exact A1
 have pV:0 < absI (tn e.2 s1.2):=by rw [zB4 h1 A2]; exact A2
 have pX:0 < absI (tn s1.2 t1.2):=by rw [zB4 h1 A3]; exact A3
 have bU:absI (tn t1.2 e.2)≤10 ^ 19:=zP5 g1 c2 g2 c1
 have bV:absI (tn e.2 s1.2)≤10 ^ 19:=zP5 c1 d2 c2 d1
 have bX:absI (tn s1.2 t1.2)≤10 ^ 19:=zP5 d1 g2 d2 g1
 have gk:=zT2 (ws:=[absI (tn t1.2 e.2),absI (tn e.2 s1.2),absI (tn s1.2 t1.2)]) (List.mem_cons_self ..) pU (by omega)
 refine ⟨_,rfl,nc,wl,[(x:Int),(y:Int),(j:Int)],[absI (tn t1.2 e.2),absI (tn e.2 s1.2),absI (tn s1.2 t1.2)],rfl,SqL.of zAc,SqL.of (snc _ _ (sol _ _ zAc)),rfl,(by show 3≤900; decide),gk.1,gk.2,fun D cs H' s' hD eD okc mc=>?_⟩
 have sAll:=((swl.trans sol).trans snc).trans s'
 have sBack:=(swl.trans sol).trans snc
 refine q D cs H' (sH6.trans sAll) (sH6.free (sBack.free hD)) eD okc ?_
 rw [mc]
 obtain ⟨w1,w2⟩:=zPk s1.2 t1.2 e.2
 have f:∀ a b c:Int,tn t1.2 e.2 * h * a + tn e.2 s1.2 * h * b + tn s1.2 t1.2 * h * c = (tn t1.2 e.2 * a + tn e.2 s1.2 * b + tn s1.2 t1.2 * c) * h:=fun a b c=>by
  rw [Int.add_mul,Int.add_mul,Int.mul_right_comm,Int.mul_right_comm (tn e.2 s1.2),Int.mul_right_comm (tn s1.2 t1.2)]
 refine zNf hxy gy'.2 gx'.1 gy'.1 st.at' pU pV pX bU bV bX ?_ ?_ ?_
 ·rw [zB4 h1 A1,zB4 h1 A2,zB4 h1 A3,f]
  have w1':tn t1.2 e.2 * s1.2.1 + tn e.2 s1.2 * t1.2.1 + tn s1.2 t1.2 * e.2.1 = 0:=w1
  rw [w1',Int.zero_mul]
 ·rw [zB4 h1 A1,zB4 h1 A2,zB4 h1 A3,f]
  have w2':tn t1.2 e.2 * s1.2.2.1 + tn e.2 s1.2 * t1.2.2.1 + tn s1.2 t1.2 * e.2.2.1 = 0:=w2
  rw [w2',Int.zero_mul]
 ·rw [zB4 h1 A1,zB4 h1 A2,zB4 h1 A3,f]
  exact A4
def zKg (K:PySem.W.Frag):Sp:=fun vs H Q _=>∃ (l:Addr) (ss:List Sd),vs = [.ref l]∧SqL K H l (zAo ss)∧SdOk H ss∧ss.length≤900 ∧
 (∀ (P:P3) (H':Hp),Same H H'→0 < P.2.2→inW ss P→Cand ss P→Q .non H') ∧
 ∀ (D:Addr) (cs:List Pr) (H':Hp),Same H H'→H D = none→H' D = some (.lst (zBq cs))→PrAt H' cs→zLc ss (cs.map (·.2))→Q (.ref D) H'
theorem zPh (F:Fun K "clash" "clash" zG8 f fd) (Z:Zs mg) (h_p_clash_of_three:Has P w K mg base "clash_of_three" 6 ["sides", "last"] (zEb K)) (h_p_turn:Has P w K mg base "turn" 1 ["one", "other"] (zDt K)) (h_p_holds:Has P w K mg base "holds" 2 ["side", "spot"] (zE3 K)) (h_p_foot:Has P w K mg base "foot" 5 ["side"] (zI9 K)) (h_p_weighed:Has P w K mg base "weighed" 3 ["numbers", "weights"] (zFn K)) (h_p_span:Has P w K mg base "span" 1 ["direction"] (zJf K)) (h_p_sought:Has P w K mg base "sought" 8 ["sides"] (zGz K)):FnOk P w K mg base CX0 9 f fd ["sides"] (zKg K):=by
 refine F.ok zE0 (fun vs H Q E h=>?_) (fun cdv A outer s H vs Q E hr h=>?_)
 ·obtain ⟨l,ss,rfl,_⟩:=h
  rfl
 obtain ⟨l,ss,rfl,hl,ok,hlen,qn,q⟩:=h
 refine ⟨_,(zAf (zAy (i:=1) zE0.nd rfl (Or.inl rfl) (zAk zAg (zAh h_p_sought (hr.mono (by decide)) rfl (zAa (pv 0) zAe)) zAb (fun _ _=>rfl)))
   (zAf (zA9 (zAs zMf (pv 1) zBp (zAt _)) (zAi (zAq zBp)) zAv)
   (zAf (zAy (i:=2) zE0.nd rfl (Or.inl rfl) (zAk zAg (pv 0) (pv 1) (fun _ _=>rfl)))
   (zAf (zCv PassesOwn.never rfl (zC9 rfl Z.range (zAa (pv 1) zAe)) (zAr (i:=3) zE0.nd rfl (Or.inl rfl)) (zAf (zAy (i:=4) zE0.nd rfl (Or.inl rfl) (zAk zAg (pv 0) (pv 3) (fun _ _=>rfl)))
   (zAi (zA9 (PW.pt (zFm (zAs zBu (zAh h_p_turn (hr.mono (by decide)) rfl (zAa (pv 2) (zAa (pv 4) zAe))) zAb (zAt _)) (zEe (zCr (zB5 (zAh h_p_holds (hr.mono (by decide)) rfl (zAa (pv 4) (zAa (zAh h_p_foot (hr.mono (by decide)) rfl (zAa (pv 2) zAe)) zAe)))))))) (zAi (zAq (zAh h_p_weighed (hr.mono (by decide)) rfl (zAa (zCb (zAa (pv 3) (zAa (pv 1) zAe))) (zAa (zCb (zAa (zAh h_p_span (hr.mono (by decide)) rfl (zAa (pv 2) zAe)) (zAa (zAh h_p_span (hr.mono (by decide)) rfl (zAa (pv 4) zAe)) zAe))) zAe))))) zAv))))
   (zAi (zAq (zAh h_p_clash_of_three (hr.mono (by decide)) rfl (zAa (pv 0) (zAa (pv 1) zAe))))))))),?_⟩
 try dsimp only [L2.cxOf]
 refine ⟨_,rfl,l,ss,rfl,hl,ok,hlen,fun t j e P H1 s1 et st=>?_,fun t p P H1 s1 et ep wp cp=>?_⟩
 ·refine ⟨t,_,_,.int j,rfl,rfl,.inr (SqT.of et),rfl,?_⟩
  refine ⟨_,rfl,rfl,_,rfl,?_⟩
  refine iteF ?_
  have hj:j < ss.length:=(List.getElem?_eq_some_iff.mp st.at').1
  obtain ⟨e',me,ge,at'⟩:=zBf (ss:=ss) (i:=j) (k:=(j:Int)) rfl hj
  rw [st.at'] at ge
  cases ge
  obtain ⟨ee,ne,c1,c2,c3⟩:=ok e me
  have hN:=zEk ne
  obtain ⟨sf,f1⟩:=zR7 ne
  refine ⟨_,rfl,_,rfl,l,_,_,_,rfl,rfl,.inl (s1.seq hl),at',?_⟩
  refine ⟨_,rfl,_,rfl,(by omega),(by omega),zEy (lo:=0) (n:=((j:Nat):Int).toNat) (fun i σ H'=>Same H1 H'∧(∀ u∈ss.take i,tn e.2 u.2 = 0→sv u.2 (pt3 (ftL e.2))≤0)∧∃ u3 u4:Option V,σ = [some (.ref l),some (.int j),some (.ref e.1),u3,u4])
   ⟨Same.refl _,(fun t ht=>nomatch ht),none,none,rfl⟩ ?_ ?_⟩
  ·rintro i σ H' hi ⟨sH,bes,u3,u4,rfl⟩
   rw [Int.toNat_natCast] at hi
   obtain ⟨u,mu,gu,atu⟩:=zBf (ss:=ss) (i:=i) (k:=0 + (i:Int)) (by omega) (by omega)
   obtain ⟨eu0,nu,d1,d2,d3⟩:=ok u mu
   have s0:=s1.trans sH
   have eu:Sq K H' u.1 [.int u.2.1,.int u.2.2.1,.int u.2.2.2]:=.inr (SqT.of (s0 _ _ eu0))
   have ee':Sq K H' e.1 [.int e.2.1,.int e.2.2.1,.int e.2.2.2]:=.inr (SqT.of (s0 _ _ ee))
   refine ⟨_,rfl,_,rfl,l,_,_,_,rfl,rfl,.inl (s0.seq hl),atu,?_⟩
   refine ⟨_,rfl,_,rfl,e.1,u.1,_,_,e.2.1,e.2.2.1,u.2.1,u.2.2.1,rfl,ee',eu,rfl,rfl,rfl,rfl,by omega,by omega,rfl,_,rfl,?_⟩
   refine ifE (fun h0=>?_) (fun h0=>?_)
   ·have h0':tn e.2 u.2 = 0:=h0
    refine ⟨_,rfl,_,rfl,e.1,e.2,rfl,ee',ne,c1,c2,fun fp H2 s2 hfp efp=>?_⟩
    have efp':H2 fp = some (.tup [.int (pt3 (ftL e.2)).1,.int (pt3 (ftL e.2)).2.1,.int (pt3 (ftL e.2)).2.2]):=by
     rw [efp,sf.list]
     rfl
    refine ⟨u.1,fp,u.2.1,u.2.2.1,u.2.2.2,(pt3 (ftL e.2)).1,(pt3 (ftL e.2)).2.1,(pt3 (ftL e.2)).2.2,rfl,eu.same s2,.inr (SqT.of efp'),by omega,by omega,by omega,_,rfl,?_⟩
    refine ifN (fun hout=>?_) (fun hin=>?_)
    ·have hout':0 < sv u.2 (pt3 (ftL e.2)):=by
      have:¬ sv u.2 (pt3 (ftL e.2))≤0:=hout
      omega
     obtain ⟨z1,z2,z3⟩:=zSt h0' hN ne sf.pos st.pos f1 hout' (st.ahead u (List.mem_of_getElem? (i:=i) (by rw [List.getElem?_take,if_pos hi]; exact gu))) st.out
     refine ⟨_,rfl,_,rfl,(by show 2≤sizeLine; decide),fun nl hnl=>?_⟩
     have snl:=zAd hnl (.lst ([0 + (i:Int),(j:Int)].map V.int))
     refine ⟨_,rfl,e.1,_,e.2.1,e.2.2.1,rfl,(ee'.same s2).same snl,rfl,rfl,_,rfl,u.1,_,u.2.1,u.2.2.1,rfl,(eu.same s2).same snl,rfl,rfl,(by show 2≤sizeLine; decide),fun wl hwl=>?_⟩
     have swl:=zAd hwl (.lst ([zBl e.2.1 e.2.2.1,zBl u.2.1 u.2.2.1].map V.int))
     have pU:=zE1 ne
     have pV:=zE1 nu
     have bU:zBl e.2.1 e.2.2.1≤10 ^ 19:=Int.le_trans (zIy c1 c2) (by decide)
     have bV:zBl u.2.1 u.2.2.1≤10 ^ 19:=Int.le_trans (zIy d1 d2) (by decide)
     have gk:=zT2 (ws:=[zBl e.2.1 e.2.2.1,zBl u.2.1 u.2.2.1]) (List.mem_cons_self ..) pU (by omega)
     refine ⟨nl,wl,[0 + (i:Int),(j:Int)],[zBl e.2.1 e.2.2.1,zBl u.2.1 u.2.2.1],rfl,SqL.of (swl _ _ zAc),SqL.of zAc,rfl,(by show 2≤900; decide),gk.1,gk.2,fun D cs H5 s5 hD eD okc mc=>?_⟩
     have sB:=(s0.trans s2).trans (snl.trans swl)
     refine q D cs H5 (sB.trans s5) (sB.free hD) eD okc ?_
     rw [mc,Int.zero_add]
     exact zR8 hi gu st.at' pU pV bU bV z1 z2 z3
    ·refine ⟨sH.trans s2,fun v hv hz=>?_,_,_,rfl⟩
     rcases zDy gu hv with hv | rfl
     ·exact bes v hv hz
     ·exact hin
   ·refine iteF ?_
    refine ⟨sH,fun v hv hz=>?_,_,_,rfl⟩
    rcases zDy gu hv with hv | rfl
    ·exact bes v hv hz
    ·exact absurd hz h0
  ·rintro σ H' ⟨sH,bes,u3,u4,rfl⟩
   rw [Int.toNat_natCast] at bes
   have s0:=s1.trans sH
   exact ⟨_,rfl,_,rfl,l,ss,j,e,P,rfl,s0.seq hl,ok.same s0,hlen,st,bes,fun D cs H5 s5 hD eD okc cl=>q D cs H5 (s0.trans s5) (s0.free hD) eD okc cl⟩
 ·refine ⟨t,_,_,.non,rfl,rfl,.inr (SqT.of et),rfl,?_⟩
  refine ⟨_,rfl,rfl,_,rfl,?_⟩
  refine iteT ?_
  exact qn P H1 s1 ep.2.1 wp cp
theorem zVc {x y:Int} (n:x≠0∨y≠0) (m0:x.natAbs≤2 * 10 ^ 9) (m1:y.natAbs≤2 * 10 ^ 9):0 < gcdL [x,y]∧(gcdL [x,y]:Int) < 10 ^ 600:=by
 have lt:∀ z:Int,z∈[x,y]→z≠0→z.natAbs≤2 * 10 ^ 9→0 < gcdL [x,y]∧(gcdL [x,y]:Int) < 10 ^ 600:=fun z hz h0 hb=>by
  refine ⟨zCf hz h0,?_⟩
  have h1:=zGv hz h0
  exact Int.lt_of_le_of_lt (show (gcdL [x,y]:Int)≤10 ^ 30 by omega) (by decide +kernel)
 rcases n with h | h
 ·exact lt x (by simp) h m0
 ·exact lt y (by simp) h m1
theorem zLe {ss:List Sd} {x y:Int} : wayB ss x y = true↔∀ t∈ss,t.2.1 * x + t.2.2.1 * y≤0:=by
 unfold wayB
 rw [List.all_eq_true]
 exact ⟨fun h t ht=>of_decide_eq_true (h t ht),fun h t ht=>decide_eq_true (h t ht)⟩
theorem zSj {X Y x y a b:Int} (n:X≠0∨Y≠0) (e:lowL [X,Y] = [x,y]):(a * x + b * y) * (gcdL [X,Y]:Int) = a * X + b * Y:=by
 have z:[X / (gcdL [X,Y]:Int),Y / (gcdL [X,Y]:Int)] = [x,y]:=e
 cases z
 rw [Int.add_mul,Int.mul_assoc,Int.mul_assoc,zBh (ns:=[X,Y]) (n:=X) (by simp),zBh (ns:=[X,Y]) (n:=Y) (by simp)]
def NoWay (ss:List Sd) (g:P3):Prop:=∀ t∈ss,∀ h:Int,(h = 1∨h = -1)→(∀ s∈ss,tn t.2 s.2 * h≤0)→tn t.2 g * h≤0
def zFx (K:PySem.W.Frag):Sp:=fun vs H Q _=>∃ (l a:Addr) (ss:List Sd) (g:P3),vs = [.ref l,.ref a]∧SqL K H l (zAo ss)∧SdOk H ss∧ss.length≤400∧Sq K H a [.int g.1,.int g.2.1]∧(g.1≠0∨g.2.1≠0)∧g.1.natAbs≤2 * 10 ^ 9∧g.2.1.natAbs≤2 * 10 ^ 9 ∧
 (∀ H':Hp,Same H H'→NoWay ss g→(¬ ∀ s∈ss,dt s.2 g≤0)→Q .non H') ∧
 ∀ (p:Addr) (x y:Int) (H':Hp),Same H H'→H' p = some (.tup [.int x,.int y])→Nat.gcd x.natAbs y.natAbs = 1→0 < g.1 * x + g.2.1 * y→wayB ss x y = true→x.natAbs≤2 * 10 ^ 9→y.natAbs≤2 * 10 ^ 9→Q (.ref p) H'
theorem zJx (F:Fun K "way_onward" "way_onward" zDj f fd) (Z:Zs mg) (h_p_ways:Has P w K mg base "ways" 4 ["sides"] (zMc K)) (h_p_plain:Has P w K mg base "plain" 3 ["direction"] (zH0 K)) (h_p_along:Has P w K mg base "along" 1 ["one", "other"] (zDd K)) (h_p_is_way:Has P w K mg base "is_way" 2 ["sides", "direction"] (zFc K)):FnOk P w K mg base CX0 5 f fd ["sides", "direction"] (zFx K):=by
 refine F.ok zFu (fun vs H Q E h=>?_) (fun cdv A outer s H vs Q E hr h=>?_)
 ·obtain ⟨l,a,ss,g,rfl,_⟩:=h
  rfl
 obtain ⟨l,a,ss,g,rfl,hl,ok,hlen,ha,gz,m1,m2,qn,q⟩:=h
 have nz:∀ t∈ss,t.2.1≠0∨t.2.2.1≠0:=fun t ht=>(ok t ht).2.1
 refine ⟨_,(zAf (zCv PassesOwn.never rfl (zCd (zAl zFr (zAh h_p_ways (hr.mono (by decide)) rfl (zAa (pv 0) zAe)) (zCb (zAa (zAh h_p_plain (hr.mono (by decide)) rfl (zAa (pv 1) zAe)) zAe)))) (zAr (i:=2) zFu.nd rfl (Or.inl rfl)) (zAi (zA9 (PW.pt (zFm (zAs zHa (zAh h_p_along (hr.mono (by decide)) rfl (zAa (pv 1) (zAa (pv 2) zAe))) zAb (zAt _)) (zEe (zB5 (zAh h_p_is_way (hr.mono (by decide)) rfl (zAa (pv 0) (zAa (pv 2) zAe))))))) (zAi (zAq (pv 2))) zAv)))
   (zAi (zAq zBp))),?_⟩
 try dsimp only [L2.cxOf]
 refine ⟨_,rfl,l,ss,rfl,hl,ok,hlen,fun p us H1 s1 hp W=>?_⟩
 obtain ⟨gp,g6⟩:=zVc gz m1 m2
 refine ⟨_,rfl,a,[g.1,g.2.1],rfl,ha.same s1,by show 2≤1000; decide,gp,g6,fun dp H2 s2 hdp edp=>?_⟩
 obtain ⟨gx,gy,exy,_,_,glow,_,gdot,gxl,gyl⟩:=zJv gz
 rw [exy] at edp
 refine ⟨(by show 1≤sizeLine; decide),fun ol hol=>?_⟩
 have sol:=zAd hol (.lst [.ref dp])
 have wf:=W.few
 refine ⟨p,ol,_,_,rfl,rfl,sol _ _ (s2 _ _ W.at'),zAc,small (by simp only [List.length_map]; show us.length + 1≤1000; omega),fun c hc=>?_⟩
 have sc:=zAd hc (.lst ((us.map (·.1)).map V.ref ++ [.ref dp]))
 have ec:upd (upd H2 ol (.lst [.ref dp])) c (.lst ((us.map (·.1)).map V.ref ++ [.ref dp])) c = some (.lst (((us ++ [(dp,[gx,gy])]).map (·.1)).map V.ref)):=by rw [zAc]; simp
 have s12:Same H1 (upd (upd H2 ol (.lst [.ref dp])) c (.lst ((us.map (·.1)).map V.ref ++ [.ref dp]))):=s2.trans (sol.trans sc)
 have edp':=(sol.trans sc) _ _ edp
 generalize upd (upd H2 ol (.lst [.ref dp])) c (.lst ((us.map (·.1)).map V.ref ++ [.ref dp])) = H3 at sc ec s12 edp' ⊢
 have s3:=s1.trans s12
 have each:∀ u∈us ++ [(dp,[gx,gy])],∃ x y:Int,u.2 = [x,y]∧H3 u.1 = some (.tup [.int x,.int y])∧Nat.gcd x.natAbs y.natAbs = 1∧x.natAbs≤2 * 10 ^ 9∧y.natAbs≤2 * 10 ^ 9:=fun u hu=>by
  rcases List.mem_append.mp hu with hu | hu
  ·have mk:u.2∈us.map (·.2):=List.mem_map_of_mem hu
   have wk:=(W.mem u.2).mp mk
   obtain ⟨x,y,e,ew⟩:=wk.dir nz
   have z:=s12 _ _ (W.all u hu)
   rw [e] at z
   obtain ⟨j,t,_,gt,hk⟩:=wk
   obtain ⟨_,nt,c1,c2,_⟩:=ok t (List.mem_of_getElem? gt)
   have bd:x.natAbs≤2 * 10 ^ 9∧y.natAbs≤2 * 10 ^ 9:=by
    rcases hk with ⟨hk,_⟩ | ⟨hk,_⟩
    ·obtain ⟨x',y',e',_,_,_,_,_,l1,l2⟩:=zJv (X:=-t.2.2.1) (Y:=t.2.1) (by omega)
     rw [e,e'] at hk
     cases hk
     omega
    ·obtain ⟨x',y',e',_,_,_,_,_,l1,l2⟩:=zJv (X:=t.2.2.1) (Y:=-t.2.1) (by omega)
     rw [e,e'] at hk
     cases hk
     omega
   exact ⟨x,y,e,z,ew.low,bd.1,bd.2⟩
  ·rw [List.mem_singleton] at hu
   subst hu
   exact ⟨gx,gy,rfl,edp',glow,by omega,by omega⟩
 refine ⟨c,rfl,.inl ⟨⟨_,SqL.of ec⟩,zCg (K:=K) (a:=c) (xs:=((us ++ [(dp,[gx,gy])]).map (·.1)).map V.ref) (fun i σ H'=>H3 = H'∧(∀ j u x y,j < i→(us ++ [(dp,[gx,gy])])[j]? = some u→u.2 = [x,y]→0 < g.1 * x + g.2.1 * y→wayB ss x y = true→False)∧∃ u2:Option V,σ = [some (.ref l),some (.ref a),u2])
  ⟨rfl,fun j u x y hj=>absurd hj (Nat.not_lt_zero _),none,rfl⟩ (fun i σ H' _ ⟨e,_⟩=>by rw [← e]; exact SqL.of ec) ?_ ?_⟩⟩
 ·rintro i v σ H' hi ⟨rfl,hall,u2,rfl⟩
  rw [List.getElem?_map,List.getElem?_map] at hi
  cases gu:(us ++ [(dp,[gx,gy])])[i]? with
  | none=>rw [gu] at hi; cases hi
  | some u =>
   rw [gu] at hi
   cases hi
   obtain ⟨x,y,exy',eu,lu,bx,by'⟩:=each u (List.mem_of_getElem? gu)
   have keep:(¬ (0 < g.1 * x + g.2.1 * y∧wayB ss x y = true))→∀ j u' x' y',j < i + 1→(us ++ [(dp,[gx,gy])])[j]? = some u'→u'.2 = [x',y']→0 < g.1 * x' + g.2.1 * y'→wayB ss x' y' = true→False:=fun hno j u' x' y' hj gu' e' h1 h2=>by
    by_cases ej:j = i
    ·rw [ej,gu] at gu'
     cases gu'
     rw [exy'] at e'
     cases e'
     exact hno ⟨h1,h2⟩
    ·exact hall j u' x' y' (by omega) gu' e' h1 h2
   refine ⟨_,rfl,_,rfl,a,u.1,_,_,g.1,g.2.1,x,y,rfl,ha.same s3,.inr (SqT.of eu),rfl,rfl,rfl,rfl,by omega,by omega,_,_,rfl,rfl,_,rfl,?_⟩
   refine ifD (fun hpos=>?_) (fun hneg=>?_)
   ·refine ⟨_,rfl,_,rfl,l,u.1,ss,x,y,rfl,s3.seq hl,ok.same s3,.inr (SqT.of eu),_,rfl,?_⟩
    by_cases hw:wayB ss x y = true
    ·rw [hw]
     refine iteT ?_
     exact ⟨_,rfl,q u.1 x y _ s3 eu lu hpos hw bx by'⟩
    ·have hw':wayB ss x y = false:=by simpa using hw
     rw [hw']
     refine iteF ?_
     exact ⟨rfl,keep (fun z=>hw z.2),_,rfl⟩
   ·refine iteF ?_
    exact ⟨rfl,keep (fun z=>hneg z.1),_,rfl⟩
 ·rintro σ H' ⟨rfl,hall,u2,rfl⟩
  have none':∀ u∈us ++ [(dp,[gx,gy])],∀ x y,u.2 = [x,y]→0 < g.1 * x + g.2.1 * y→wayB ss x y = true→False:=fun u hu x y e h1 h2=>by
   obtain ⟨j,hj,ej⟩:=List.getElem_of_mem hu
   exact hall j u x y (by simp only [List.length_map]; exact hj) (by rw [List.getElem?_eq_getElem hj,ej]) e h1 h2
  refine qn _ s3 (fun t mt h hh hall'=>?_) (fun hall'=>?_)
  ·have nt:=nz t mt
   have key:∀ X Y:Int,(X≠0∨Y≠0)→wayB ss X Y = true→lowL [X,Y]∈us.map (·.2)→g.1 * X + g.2.1 * Y≤0:=fun X Y n hw hm=>by
    obtain ⟨x,y,e,gp',_⟩:=zJv n
    obtain ⟨u,hu,eu⟩:=List.mem_map.mp hm
    have sc':=zSj (a:=g.1) (b:=g.2.1) n e
    by_cases c:g.1 * X + g.2.1 * Y≤0
    ·exact c
    ·rw [← sc'] at c
     have p1:0 < g.1 * x + g.2.1 * y:=zDf (y:=(gcdL [X,Y]:Int)) (by omega) (by omega)
     have z:=zM9 (ss:=ss) gp'
     have e2:[X / (gcdL [X,Y]:Int),Y / (gcdL [X,Y]:Int)] = [x,y]:=e
     cases e2
     rw [hw] at z
     exact (none' u (List.mem_append_left _ hu) _ _ (eu.trans e) p1 z).elim
   have gj:=List.getElem?_of_mem mt
   obtain ⟨j,gj⟩:=gj
   have hj:=(List.getElem?_eq_some_iff.mp gj).1
   rcases hh with rfl | rfl
   ·have hw:wayB ss (-t.2.2.1) t.2.1 = true:=zLe.mpr fun s hs=>by
     have z:=hall' s hs
     unfold tn at z
     rw [Int.mul_neg,Int.mul_comm s.2.1,Int.mul_comm s.2.2.1]
     omega
    have z:=key _ _ (by omega) hw ((W.mem _).mpr ⟨j,t,hj,gj,.inl ⟨rfl,hw⟩⟩)
    unfold tn
    rw [Int.mul_neg,Int.mul_comm g.1,Int.mul_comm g.2.1] at z
    omega
   ·have hw:wayB ss t.2.2.1 (-t.2.1) = true:=zLe.mpr fun s hs=>by
     have z:=hall' s hs
     unfold tn at z
     rw [Int.mul_neg,Int.mul_comm s.2.1,Int.mul_comm s.2.2.1]
     omega
    have z:=key _ _ (by omega) hw ((W.mem _).mpr ⟨j,t,hj,gj,.inr ⟨rfl,hw⟩⟩)
    unfold tn
    rw [Int.mul_neg,Int.mul_comm g.1,Int.mul_comm g.2.1] at z
    omega
  ·have hw:wayB ss g.1 g.2.1 = true:=zLe.mpr hall'
   have z:=zM9 (ss:=ss) gp
   have e2:[g.1 / (gcdL [g.1,g.2.1]:Int),g.2.1 / (gcdL [g.1,g.2.1]:Int)] = [gx,gy]:=exy
   cases e2
   rw [hw] at z
   refine none' (dp,_) (List.mem_append_right _ (List.mem_singleton.mpr rfl)) _ _ rfl ?_ z
   rw [Int.mul_comm g.1,Int.mul_comm g.2.1]
   exact gdot
abbrev Wt:=Addr × Int × Addr × Int × Int
abbrev zAp (ws:List Wt):List V:=(ws.map (·.1)).map V.ref
def WtAt (H:Hp) (ws:List Wt):Prop:=∀ t∈ws,H t.1 = some (.tup [.int t.2.1,.ref t.2.2.1])∧H t.2.2.1 = some (.tup [.int t.2.2.2.1,.int t.2.2.2.2])
theorem WtAt.same {H H':Hp} {ws:List Wt} (h:WtAt H ws) (s:Same H H'):WtAt H' ws:=fun t ht=>⟨s _ _ (h t ht).1,s _ _ (h t ht).2⟩
abbrev wtN (ws:List Wt):List (Int × Int × Int):=ws.map fun t=>(t.2.1,t.2.2.2)
def FarQ (H:Hp) (ss:List Sd) (g:P3) (Q:VK):Prop:=∀ (f p D:Addr) (P:P3) (ws:List Wt) (H':Hp),Same H H'→H' f = some (.tup [.str "far", .ref p,.ref D])→SpAt H' p P→inW ss P→Cand ss P→H D = none→H' D = some (.lst (zAp ws))→WtAt H' ws→Far ss g P (wtN ws)→Q (.ref f) H'
def zF3 (K:PySem.W.Frag):Sp:=fun vs H Q _=>∃ (l a:Addr) (ss:List Sd) (g:P3),vs = [.ref l,.ref a]∧SqL K H l (zAo ss)∧SdOk H ss∧ss.length≤400∧Sq K H a [.int g.1,.int g.2.1]∧(g.1≠0∨g.2.1≠0)∧g.1.natAbs≤2 * 10 ^ 9∧g.2.1.natAbs≤2 * 10 ^ 9 ∧
 (∀ H':Hp,Same H H'→(∀ t∈ss,tn t.2 g = 0→0 < dt t.2 g→∀ P:P3,0 < P.2.2→sv t.2 P = 0→¬ inW ss P)→Q .non H')∧FarQ H ss g Q
theorem zI1 (F:Fun K "far_by_one" "far_by_one" zDo f fd) (Z:Zs mg) (h_p_turn:Has P w K mg base "turn" 1 ["one", "other"] (zDt K)) (h_p_along:Has P w K mg base "along" 1 ["one", "other"] (zDd K)) (h_p_part:Has P w K mg base "part" 4 ["top", "bottom"] (zC8 K)) (h_p_span:Has P w K mg base "span" 1 ["direction"] (zJf K)) (h_p_spot_on_edge:Has P w K mg base "spot_on_edge" 7 ["sides", "edge"] (zDg K)):FnOk P w K mg base CX0 8 f fd ["sides", "direction"] (zF3 K):=by
 refine F.ok zDc (fun vs H Q E h=>?_) (fun cdv A outer s H vs Q E hr h=>?_)
 ·obtain ⟨l,a,ss,g,rfl,_⟩:=h
  rfl
 obtain ⟨l,a,ss,g,rfl,hl,ok,hlen,ha,gz,m1,m2,qn,q⟩:=h
 refine ⟨_,(zAf (zCv PassesOwn.never rfl (zC9 rfl Z.range (zAa (zAu zA1 rfl Z.len zCo (zAa (pv 0) zAe)) zAe)) (zAr (i:=2) zDc.nd rfl (Or.inl rfl)) (zAf (zAy (i:=3) zDc.nd rfl (Or.inl rfl) (zAk zAg (pv 0) (pv 2) (fun _ _=>rfl)))
   (zAi (zA9 (PW.pt (zFm (zAs zBu (zAh h_p_turn (hr.mono (by decide)) rfl (zAa (pv 3) (zAa (pv 1) zAe))) zAb (zAt _)) (zEe (zAs zHa (zAh h_p_along (hr.mono (by decide)) rfl (zAa (pv 3) (zAa (pv 1) zAe))) zAb (zAt _))))) (zAf (zAy (i:=4) zDc.nd rfl (Or.inl rfl) (zAh h_p_spot_on_edge (hr.mono (by decide)) rfl (zAa (pv 0) (zAa (pv 3) zAe))))
   (zAi (zA9 (zAs zHz (pv 4) zBp (zAt _)) (zAi (zAq (zAz (zAa zCu (zAa (pv 4) (zAa (zCb (zAa (zAz (zAa (pv 2) (zAa (zAh h_p_part (hr.mono (by decide)) rfl (zAa (zAh h_p_span (hr.mono (by decide)) rfl (zAa (pv 1) zAe)) (zAa (zAh h_p_span (hr.mono (by decide)) rfl (zAa (pv 3) zAe)) zAe))) zAe))) zAe)) zAe)))))) zAv))) zAv))))
   (zAi (zAq zBp))),?_⟩
 try dsimp only [L2.cxOf]
 refine ⟨_,rfl,l,_,rfl,.inl hl,_,rfl,(by rw [zAm]; omega),(by rw [zAm]; omega),zEy (lo:=0) (n:=(((zAo ss).length:Nat):Int).toNat) (fun i σ H'=>Same H H'∧(∀ t∈ss.take i,tn t.2 g = 0→0 < dt t.2 g→∀ P:P3,0 < P.2.2→sv t.2 P = 0→¬ inW ss P)∧∃ u2 u3 u4:Option V,σ = [some (.ref l),some (.ref a),u2,u3,u4])
  ⟨Same.refl _,(fun t ht=>nomatch ht),none,none,none,rfl⟩ ?_ ?_⟩
 ·rintro i σ H' hi ⟨sH,bes,u2,u3,u4,rfl⟩
  have hil:i < ss.length:=by rw [Int.toNat_natCast,zAm] at hi; exact hi
  obtain ⟨t,mt,gt,at'⟩:=zBf (ss:=ss) (i:=i) (k:=0 + (i:Int)) (by omega) hil
  obtain ⟨et0,nt,c1,c2,c3⟩:=ok t mt
  have et:Sq K H' t.1 [.int t.2.1,.int t.2.2.1,.int t.2.2.2]:=.inr (SqT.of (sH _ _ et0))
  have ha':=ha.same sH
  refine ⟨_,rfl,_,rfl,l,_,_,_,rfl,rfl,.inl (sH.seq hl),at',?_⟩
  refine ⟨_,rfl,_,rfl,t.1,a,_,_,t.2.1,t.2.2.1,g.1,g.2.1,rfl,et,ha',rfl,rfl,rfl,rfl,by omega,by omega,rfl,_,rfl,?_⟩
  have skip:∀ H2:Hp,Same H' H2→(tn t.2 g = 0→0 < dt t.2 g→∀ P:P3,0 < P.2.2→sv t.2 P = 0→¬ inW ss P)→(∀ u∈ss.take (i + 1),tn u.2 g = 0→0 < dt u.2 g→∀ P:P3,0 < P.2.2→sv u.2 P = 0→¬ inW ss P):=fun H2 _ hno u hu=>by
   rcases zDy gt hu with hu | rfl
   ·exact bes u hu
   ·exact hno
  refine ifE (fun h0=>?_) (fun h0=>?_)
  ·refine ⟨_,rfl,_,rfl,t.1,a,_,_,t.2.1,t.2.2.1,g.1,g.2.1,rfl,et,ha',rfl,rfl,rfl,rfl,by omega,by omega,_,_,rfl,rfl,_,rfl,?_⟩
   refine ifD (fun h1=>?_) (fun h1=>?_)
   ·have h0':tn t.2 g = 0:=h0
    have h1':0 < dt t.2 g:=h1
    refine ⟨_,rfl,_,rfl,l,t.1,ss,t.2,rfl,sH.seq hl,ok.same sH,by omega,et,nt,c1,c2,c3,fun H2 s2 no=>?_,fun p P H2 s2 ep wp on cd=>?_⟩
    ·refine ⟨_,rfl,rfl,_,rfl,?_⟩
     refine iteF ?_
     exact ⟨sH.trans s2,skip H2 s2 (fun _ _ P pw oP wP=>no P oP pw wP),_,_,_,rfl⟩
    ·refine ⟨_,rfl,rfl,_,rfl,?_⟩
     refine iteT ?_
     have pS:=zE1 nt
     have bS:zBl t.2.1 t.2.2.1≤10 ^ 19:=Int.le_trans (zIy c1 c2) (by decide)
     have bG:zBl g.1 g.2.1≤10 ^ 19:=Int.le_trans (zIy m1 m2) (by decide)
     refine ⟨_,rfl,_,rfl,_,rfl,a,_,g.1,g.2.1,rfl,ha'.same s2,rfl,rfl,_,rfl,t.1,_,t.2.1,t.2.2.1,rfl,et.same s2,rfl,rfl,zBl g.1 g.2.1,zBl t.2.1 t.2.2.1,rfl,by omega,Nat.lt_of_le_of_lt (show (zBl t.2.1 t.2.2.1).natAbs≤10 ^ 40 by omega) (by decide +kernel),fun pp x y H3 s3 hpp epp pt=>?_⟩
     refine ⟨(by show 2≤sizeLine; decide),fun pr hpr=>?_⟩
     have spr:=zAd hpr (.tup [.int (0 + (i:Int)),.ref pp])
     refine ⟨(by show 1≤sizeLine; decide),fun D hD=>?_⟩
     have sD:=zAd hD (.lst [.ref pr])
     refine ⟨(by show 3≤sizeLine; decide),fun ft hft=>?_⟩
     have sft:=zAd hft (.tup [.str "far", .ref p,.ref D])
     have s23:=s2.trans s3
     have sAll:=(spr.trans sD).trans sft
     refine q ft p D P [(pr,(i:Int),pp,x,y)] _ ((sH.trans s23).trans sAll) zAc (ep.same (s3.trans sAll)) wp ?_ ((sH.trans s23).free (spr.free hD)) (sft _ _ zAc) (fun u hu=>?_) (zVh gt nt gz h0' h1' pt bG bS on)
     ·rcases cd with h | ⟨v,hv,ht,h⟩
      ·exact .inr (.inl ⟨t,mt,h⟩)
      ·exact .inr (.inr ⟨t,mt,v,hv,ht,h⟩)
     ·rw [List.mem_singleton] at hu
      subst hu
      refine ⟨?_,sAll _ _ epp⟩
      refine sft _ _ (sD _ _ ?_)
      rw [zAc,Int.zero_add]
   ·refine ⟨sH,skip H' (Same.refl _) (fun _ z=>absurd z h1),_,_,_,rfl⟩
  ·refine iteF ?_
   exact ⟨sH,skip H' (Same.refl _) (fun z=>absurd z h0),_,_,_,rfl⟩
 ·rintro σ H' ⟨sH,bes,u2,u3,u4,rfl⟩
  rw [Int.toNat_natCast,zAm,List.take_length] at bes
  exact qn H' sH bes
theorem zKx {s t:P3} {m n:Nat} (a1:s.1.natAbs≤m) (a2:s.2.1.natAbs≤m) (b1:t.1.natAbs≤n) (b2:t.2.1.natAbs≤n):(tn s t).natAbs≤m * n + m * n:=by
 have z1:=zAj s.1 t.2.1 a1 b2
 have z2:=zAj s.2.1 t.1 a2 b1
 unfold tn
 omega
def zEf (K:PySem.W.Frag):Sp:=fun vs H Q _=>∃ (l n a:Addr) (ss:List Sd) (g P:P3) (i j:Nat) (s t:Sd),vs = [.ref l,.ref n,.ref a]∧SqL K H l (zAo ss)∧SdOk H ss∧SqL K H n [.int i,.int j]∧Sq K H a [.int g.1,.int g.2.1]∧g.1.natAbs≤2 * 10 ^ 9∧g.2.1.natAbs≤2 * 10 ^ 9 ∧
 ss[i]? = some s∧ss[j]? = some t∧0 < tn s.2 t.2∧0 < tn g t.2∧0 < tn s.2 g∧sv s.2 P = 0∧sv t.2 P = 0 ∧
 ∀ (D:Addr) (ws:List Wt) (H':Hp),Same H H'→H D = none→H' D = some (.lst (zAp ws))→WtAt H' ws→Far ss g P (wtN ws)→Q (.ref D) H'
theorem zGy (F:Fun K "weights_of_two" "weights_of_two" zCc f fd) (Z:Zs mg) (h_p_part:Has P w K mg base "part" 4 ["top", "bottom"] (zC8 K)) (h_p_turn:Has P w K mg base "turn" 1 ["one", "other"] (zDt K)):FnOk P w K mg base CX0 5 f fd ["sides", "numbers", "direction"] (zEf K):=by
 refine F.ok zBo (fun vs H Q E h=>?_) (fun cdv A outer s H vs Q E hr h=>?_)
 ·obtain ⟨l,n,a,ss,g,P,i,j,s,t,rfl,_⟩:=h
  rfl
 obtain ⟨l,n,a,ss,g,P,i,j,s,t,rfl,hl,ok,hn,ha,m1,m2,gs,gt,hW,hA,hB,o1,o2,q⟩:=h
 have hi:=(List.getElem?_eq_some_iff.mp gs).1
 have hj:=(List.getElem?_eq_some_iff.mp gt).1
 obtain ⟨_,ms,gs2,ats⟩:=zBf (ss:=ss) (i:=i) (k:=(i:Int)) rfl hi
 rw [gs] at gs2
 cases gs2
 obtain ⟨_,mt,gt2,att⟩:=zBf (ss:=ss) (i:=j) (k:=(j:Int)) rfl hj
 rw [gt] at gt2
 cases gt2
 obtain ⟨es0,ns,c1,c2,c3⟩:=ok s ms
 obtain ⟨et0,nt,d1,d2,d3⟩:=ok t mt
 have es:Sq K H s.1 [.int s.2.1,.int s.2.2.1,.int s.2.2.2]:=.inr (SqT.of es0)
 have et:Sq K H t.1 [.int t.2.1,.int t.2.2.1,.int t.2.2.2]:=.inr (SqT.of et0)
 have hij:i≠j:=fun z=>by
  rw [z,gt] at gs
  cases gs
  rw [zN3] at hW
  omega
 have bW:=zKx (s:=s.2) (t:=t.2) c1 c2 d1 d2
 have bA:=zKx (s:=g) (t:=t.2) m1 m2 d1 d2
 have bB:=zKx (s:=s.2) (t:=g) c1 c2 m1 m2
 have big:(tn s.2 t.2).natAbs < 10 ^ 500:=Nat.lt_of_le_of_lt (show (tn s.2 t.2).natAbs≤10 ^ 40 by omega) (by decide +kernel)
 refine ⟨_,(zAf (zAy (i:=3) zBo.nd rfl (Or.inl rfl) (zAk zAg (pv 0) (zAk zAg (pv 1) zAb (fun _ _=>rfl)) (fun _ _=>rfl)))
   (zAf (zAy (i:=4) zBo.nd rfl (Or.inl rfl) (zAk zAg (pv 0) (zAk zAg (pv 1) zAb (fun _ _=>rfl)) (fun _ _=>rfl)))
   (zAf (zAy (i:=5) zBo.nd rfl (Or.inl rfl) (zAh h_p_turn (hr.mono (by decide)) rfl (zAa (pv 3) (zAa (pv 4) zAe))))
   (zAf (zAy (i:=6) zBo.nd rfl (Or.inl rfl) (zCb (zAa (zAh h_p_part (hr.mono (by decide)) rfl (zAa (zAh h_p_turn (hr.mono (by decide)) rfl (zAa (pv 2) (zAa (pv 4) zAe))) (zAa (pv 5) zAe))) (zAa (zAh h_p_part (hr.mono (by decide)) rfl (zAa (zAh h_p_turn (hr.mono (by decide)) rfl (zAa (pv 3) (zAa (pv 2) zAe))) (zAa (pv 5) zAe))) zAe))))
   (zAi (zAq (zAu zMy rfl Z.sorted zJc (zAa (zCb (zAa (zAz (zAa (zAk zAg (pv 1) zAb (fun _ _=>rfl)) (zAa (zAk zAg (pv 6) zAb (fun _ _=>rfl)) zAe))) (zAa (zAz (zAa (zAk zAg (pv 1) zAb (fun _ _=>rfl)) (zAa (zAk zAg (pv 6) zAb (fun _ _=>rfl)) zAe))) zAe))) zAe)))))))),?_⟩
 try dsimp only [L2.cxOf]
 refine ⟨_,rfl,_,rfl,n,_,_,.int (i:Int),rfl,rfl,.inl hn,rfl,l,_,_,_,rfl,rfl,.inl hl,ats,?_⟩
 refine ⟨_,rfl,_,rfl,n,_,_,.int (j:Int),rfl,rfl,.inl hn,rfl,l,_,_,_,rfl,rfl,.inl hl,att,?_⟩
 refine ⟨_,rfl,_,rfl,s.1,t.1,_,_,s.2.1,s.2.2.1,t.2.1,t.2.2.1,rfl,es,et,rfl,rfl,rfl,rfl,by omega,by omega,?_⟩
 refine ⟨_,rfl,_,rfl,a,t.1,_,_,g.1,g.2.1,t.2.1,t.2.2.1,rfl,ha,et,rfl,rfl,rfl,rfl,by omega,by omega,_,rfl,tn g t.2,tn s.2 t.2,rfl,by omega,big,fun p1 x1 y1 H1 s1 hp1 ep1 pt1=>?_⟩
 refine ⟨_,rfl,_,rfl,s.1,a,_,_,s.2.1,s.2.2.1,g.1,g.2.1,rfl,es.same s1,ha.same s1,rfl,rfl,rfl,rfl,by omega,by omega,_,rfl,tn s.2 g,tn s.2 t.2,rfl,by omega,big,fun p2 x2 y2 H2 s2 hp2 ep2 pt2=>?_⟩
 refine ⟨(by show 2≤sizeLine; decide),fun sl hsl=>?_⟩
 have ssl:=zAd hsl (.lst [.ref p1,.ref p2])
 have esl:upd H2 sl (.lst [.ref p1,.ref p2]) sl = some (.lst [.ref p1,.ref p2]):=zAc
 generalize upd H2 sl (.lst [.ref p1,.ref p2]) = H3 at ssl esl ⊢
 have s03:=(s1.trans s2).trans ssl
 have hn3:=s03.seq hn
 refine ⟨_,rfl,n,_,_,.int (i:Int),rfl,rfl,.inl hn3,rfl,_,rfl,sl,_,_,.ref p1,rfl,rfl,.inl (SqL.of esl),rfl,(by show 2≤sizeLine; decide),fun a1 ha1=>?_⟩
 have sa1:=zAd ha1 (.tup [.int (i:Int),.ref p1])
 refine ⟨_,rfl,n,_,_,.int (j:Int),rfl,rfl,.inl (sa1.seq hn3),rfl,_,rfl,sl,_,_,.ref p2,rfl,rfl,.inl (SqL.of (sa1 _ _ esl)),rfl,(by show 2≤sizeLine; decide),fun a2 ha2=>?_⟩
 have sa2:=zAd ha2 (.tup [.int (j:Int),.ref p2])
 refine ⟨(by show 2≤sizeLine; decide),fun tl htl=>?_⟩
 have stl:=zAd htl (.lst [.ref a1,.ref a2])
 refine ⟨tl,a1,a2,(i:Int),(j:Int),_,_,rfl,SqL.of zAc,stl _ _ (sa2 _ _ zAc),stl _ _ zAc,by omega,fun D hD=>?_⟩
 have sD:=zAd hD (.lst (if (j:Int) < (i:Int) then [.ref a2,.ref a1] else [.ref a1,.ref a2]))
 have s37:=((sa1.trans sa2).trans stl).trans sD
 have w1:=s37 _ _ (ssl _ _ (s2 _ _ ep1))
 have w2:=s37 _ _ (ssl _ _ ep2)
 have v1:=sD _ _ (stl _ _ (sa2 _ _ (zAc (H:=H3) (a:=a1) (o:=.tup [.int (i:Int),.ref p1]))))
 have v2:=sD _ _ (stl _ _ (zAc (H:=upd H3 a1 (.tup [.int (i:Int),.ref p1])) (a:=a2) (o:=.tup [.int (j:Int),.ref p2])))
 have fr:=zUe (P:=P) gs gt hW hA hB pt1 pt2 (by omega) (by omega) (by omega) o1 o2 hij
 have frD:H D = none:=s03.free (sa1.free (sa2.free (stl.free hD)))
 by_cases c:j < i
 ·have c':(j:Int) < (i:Int):=by omega
  rw [if_pos c] at fr
  refine q D [(a2,(j:Int),p2,x2,y2),(a1,(i:Int),p1,x1,y1)] _ (s03.trans s37) frD (by rw [zAc,if_pos c']; rfl) (fun u hu=>?_) fr
  rcases List.mem_cons.mp hu with rfl | hu
  ·exact ⟨v2,w2⟩
  ·rw [List.mem_singleton] at hu
   subst hu
   exact ⟨v1,w1⟩
 ·have c':¬ (j:Int) < (i:Int):=by omega
  rw [if_neg c] at fr
  refine q D [(a1,(i:Int),p1,x1,y1),(a2,(j:Int),p2,x2,y2)] _ (s03.trans s37) frD (by rw [zAc,if_neg c']; rfl) (fun u hu=>?_) fr
  rcases List.mem_cons.mp hu with rfl | hu
  ·exact ⟨v1,w1⟩
  ·rw [List.mem_singleton] at hu
   subst hu
   exact ⟨v2,w2⟩
def zUk (ss:List Sd) (g:P3) (rs:List Sd):Prop:=∀ t∈rs,0 < tn t.2 g→∃ e∈ss,0 < tn t.2 e.2∧(∀ u∈ss,0 < tn t.2 u.2→sv u.2 (pt3 (crL t.2 e.2))≤0)∧¬ (0 < tn g e.2∧inW ss (pt3 (crL t.2 e.2)))
def zF6 (K:PySem.W.Frag):Sp:=fun vs H Q _=>∃ (l a:Addr) (ss:List Sd) (g:P3),vs = [.ref l,.ref a]∧SqL K H l (zAo ss)∧SdOk H ss∧ss.length≤400∧Sq K H a [.int g.1,.int g.2.1]∧g.1.natAbs≤2 * 10 ^ 9∧g.2.1.natAbs≤2 * 10 ^ 9∧NoWay ss g ∧
 (∀ H':Hp,Same H H'→zUk ss g ss→Q .non H')∧FarQ H ss g Q
theorem zI3 (F:Fun K "far_by_two" "far_by_two" zDr f fd) (Z:Zs mg) (h_p_turn:Has P w K mg base "turn" 1 ["one", "other"] (zDt K)) (h_p_in_water:Has P w K mg base "in_water" 3 ["sides", "place"] (zDx K)) (h_p_weights_of_two:Has P w K mg base "weights_of_two" 5 ["sides", "numbers", "direction"] (zEf K)) (h_p_crossing:Has P w K mg base "crossing" 4 ["one", "other"] (zD4 K)) (h_p_edge_end:Has P w K mg base "edge_end" 5 ["sides", "edge", "hand"] (zD5 K)):FnOk P w K mg base CX0 6 f fd ["sides", "direction"] (zF6 K):=by
 refine F.ok zCi (fun vs H Q E h=>?_) (fun cdv A outer s H vs Q E hr h=>?_)
 ·obtain ⟨l,a,ss,g,rfl,_⟩:=h
  rfl
 obtain ⟨l,a,ss,g,rfl,hl,ok,hlen,ha,m1,m2,nw,qn,q⟩:=h
 refine ⟨_,(zAf (zCv PassesOwn.never rfl (zC9 rfl Z.range (zAa (zAu zA1 rfl Z.len zCo (zAa (pv 0) zAe)) zAe)) (zAr (i:=2) zCi.nd rfl (Or.inl rfl)) (zAf (zAy (i:=3) zCi.nd rfl (Or.inl rfl) (zAk zAg (pv 0) (pv 2) (fun _ _=>rfl)))
   (zAi (zA9 (zAs zHa (zAh h_p_turn (hr.mono (by decide)) rfl (zAa (pv 3) (zAa (pv 1) zAe))) zAb (zAt _)) (zAf (zAy (i:=4) zCi.nd rfl (Or.inl rfl) (zAh h_p_edge_end (hr.mono (by decide)) rfl (zAa (pv 0) (zAa (pv 3) (zAa zAb zAe)))))
   (zAf (zAy (i:=5) zCi.nd rfl (Or.inl rfl) (zAh h_p_crossing (hr.mono (by decide)) rfl (zAa (pv 3) (zAa (zAk zAg (pv 0) (pv 4) (fun _ _=>rfl)) zAe))))
   (zAi (zA9 (PW.pt (zFm (zAs zHa (zAh h_p_turn (hr.mono (by decide)) rfl (zAa (pv 1) (zAa (zAk zAg (pv 0) (pv 4) (fun _ _=>rfl)) zAe))) zAb (zAt _)) (zEe (zB5 (zAh h_p_in_water (hr.mono (by decide)) rfl (zAa (pv 0) (zAa (pv 5) zAe))))))) (zAi (zAq (zAz (zAa zCu (zAa (pv 5) (zAa (zAh h_p_weights_of_two (hr.mono (by decide)) rfl (zAa (pv 0) (zAa (zCb (zAa (pv 2) (zAa (pv 4) zAe))) (zAa (pv 1) zAe)))) zAe)))))) zAv)))) zAv))))
   (zAi (zAq zBp))),?_⟩
 try dsimp only [L2.cxOf]
 refine ⟨_,rfl,l,_,rfl,.inl hl,_,rfl,(by rw [zAm]; omega),(by rw [zAm]; omega),zEy (lo:=0) (n:=(((zAo ss).length:Nat):Int).toNat) (fun i σ H'=>Same H H'∧zUk ss g (ss.take i)∧∃ u2 u3 u4 u5:Option V,σ = [some (.ref l),some (.ref a),u2,u3,u4,u5])
  ⟨Same.refl _,(fun t ht=>nomatch ht),none,none,none,none,rfl⟩ ?_ ?_⟩
 ·rintro i σ H' hi ⟨sH,bes,u2,u3,u4,u5,rfl⟩
  have hil:i < ss.length:=by rw [Int.toNat_natCast,zAm] at hi; exact hi
  obtain ⟨t,mt,gt,at'⟩:=zBf (ss:=ss) (i:=i) (k:=0 + (i:Int)) (by omega) hil
  obtain ⟨et0,nt,c1,c2,c3⟩:=ok t mt
  have et:Sq K H' t.1 [.int t.2.1,.int t.2.2.1,.int t.2.2.2]:=.inr (SqT.of (sH _ _ et0))
  have ha':=ha.same sH
  refine ⟨_,rfl,_,rfl,l,_,_,_,rfl,rfl,.inl (sH.seq hl),at',?_⟩
  refine ⟨_,rfl,_,rfl,t.1,a,_,_,t.2.1,t.2.2.1,g.1,g.2.1,rfl,et,ha',rfl,rfl,rfl,rfl,by omega,by omega,_,_,rfl,rfl,_,rfl,?_⟩
  refine ifD (fun h0=>?_) (fun h0=>?_)
  ·have h0':0 < tn t.2 g:=h0
   refine ⟨_,rfl,_,rfl,l,t.1,ss,t.2,1,rfl,sH.seq hl,ok.same sH,by omega,et,nt,c1,c2,c3,.inl rfl,fun r H1 s1 k1=>?_⟩
   cases r with
   | none =>
    have:=nw t mt 1 (.inl rfl) k1
    omega
   | some j =>
    obtain ⟨e,ge,he,hb⟩:=k1
    have he':0 < tn t.2 e.2:=by omega
    have hj:=(List.getElem?_eq_some_iff.mp ge).1
    obtain ⟨_,me,ge2,ate⟩:=zBf (ss:=ss) (i:=j) (k:=(j:Int)) rfl hj
    rw [ge] at ge2
    cases ge2
    obtain ⟨ee0,ne,d1,d2,d3⟩:=ok e me
    have sH1:=sH.trans s1
    have ee:Sq K H1 e.1 [.int e.2.1,.int e.2.2.1,.int e.2.2.2]:=.inr (SqT.of (sH1 _ _ ee0))
    have et1:=et.same s1
    refine ⟨_,rfl,_,rfl,_,rfl,l,_,_,_,rfl,rfl,.inl (sH1.seq hl),ate,t.1,e.1,t.2.1,t.2.2.1,t.2.2.2,e.2.1,e.2.2.1,e.2.2.2,rfl,et1,ee,by omega,by omega,by omega,by omega,by omega,fun z=>absurd z (show tn t.2 e.2≠0 by omega),fun _ p H2 s2 hp ep=>?_⟩
    obtain ⟨sp,o1,o2⟩:=zEv (show tn t.2 e.2≠0 by omega)
    have ep':SpAt H2 p (pt3 (crL t.2 e.2)):=by
     refine ⟨?_,sp.pos,sp.low⟩
     have z:H2 p = some (.tup ((crL t.2 e.2).map V.int)):=ep
     rw [z,sp.list]
     rfl
    have sH2:=sH1.trans s2
    have keep:¬ (0 < tn g e.2∧inW ss (pt3 (crL t.2 e.2)))→zUk ss g (ss.take (i + 1)):=fun hno u hu hg=>by
     rcases zDy gt hu with hu | rfl
     ·exact bes u hu hg
     ·exact ⟨e,me,he',fun v hv hp=>hb v hv (by omega),hno⟩
    refine ⟨_,rfl,_,rfl,_,rfl,l,_,_,_,rfl,rfl,.inl (sH2.seq hl),ate,a,e.1,_,_,g.1,g.2.1,e.2.1,e.2.2.1,rfl,ha.same sH2,ee.same s2,rfl,rfl,rfl,rfl,by omega,by omega,_,_,rfl,rfl,_,rfl,?_⟩
    refine ifD (fun h1=>?_) (fun h1=>?_)
    ·have h1':0 < tn g e.2:=h1
     refine ⟨_,rfl,_,rfl,l,p,ss,pt3 (crL t.2 e.2),rfl,sH2.seq hl,ok.same sH2,.inr (SqT.of ep'.1),_,rfl,?_⟩
     by_cases hw:inWB ss (pt3 (crL t.2 e.2)) = true
     ·rw [hw]
      refine iteT ?_
      refine ⟨_,rfl,_,rfl,_,rfl,_,rfl,(by show 2≤sizeLine; decide),fun nl hnl=>?_⟩
      have snl:=zAd hnl (.lst [.int (0 + (i:Int)),.int (j:Int)])
      have enl:upd H2 nl (.lst [.int (0 + (i:Int)),.int (j:Int)]) nl = some (.lst [.int (i:Int),.int (j:Int)]):=by rw [zAc,Int.zero_add]
      have sH3:=sH2.trans snl
      refine ⟨_,rfl,l,nl,a,ss,g,pt3 (crL t.2 e.2),i,j,t,e,rfl,sH3.seq hl,ok.same sH3,SqL.of enl,ha.same sH3,m1,m2,gt,ge,he',h1',h0',o1,o2,fun D ws H4 s4 hD eD okw fr=>?_⟩
      refine ⟨(by show 3≤sizeLine; decide),fun ft hft=>?_⟩
      have sft:=zAd hft (.tup [.str "far", .ref p,.ref D])
      refine q ft p D (pt3 (crL t.2 e.2)) ws _ ((sH3.trans s4).trans sft) zAc ((ep'.same (snl.trans s4)).same sft) (zDq.mp hw) (.inr (.inr ⟨t,mt,e,me,by omega,rfl⟩)) (sH3.free hD) (sft _ _ eD) (okw.same sft) fr
     ·have hw':inWB ss (pt3 (crL t.2 e.2)) = false:=by simpa using hw
      rw [hw']
      refine iteF ?_
      exact ⟨sH2,keep (fun z=>hw (zDq.mpr z.2)),_,_,_,_,rfl⟩
    ·refine iteF ?_
     exact ⟨sH2,keep (fun z=>h1 z.1),_,_,_,_,rfl⟩
  ·refine ⟨sH,fun u hu hg=>?_,_,_,_,_,rfl⟩
   rcases zDy gt hu with hu | rfl
   ·exact bes u hu hg
   ·exact absurd hg h0
 ·rintro σ H' ⟨sH,bes,u2,u3,u4,u5,rfl⟩
  rw [Int.toNat_natCast,zAm,List.take_length] at bes
  exact qn H' sH bes
inductive Pp where
 | no (D:Addr) (cs:List Pr)
 | op (p:Addr) (x y:Int)
 | fa (p D:Addr) (P:P3) (ws:List Wt)
def PpAt (H:Hp) (t:Addr):Pp→Prop
 | .no D cs=>H t = some (.tup [.str "none", .ref D])∧H D = some (.lst (zBq cs))∧PrAt H cs
 | .op p x y=>H t = some (.tup [.str "open", .ref p])∧H p = some (.tup [.int x,.int y])
 | .fa p D P ws=>H t = some (.tup [.str "far", .ref p,.ref D])∧H p = some (.tup [.int P.1,.int P.2.1,.int P.2.2])∧H D = some (.lst (zAp ws))∧WtAt H ws
def PpSz (n mW mP:Nat):Pp→Prop
 | .no _ cs=>cs.length≤n
 | .op _ _ _=>True
 | .fa _ _ P ws=>P.1.natAbs≤mP∧P.2.1.natAbs≤mP∧P.2.2.natAbs≤mP∧ws.length≤n∧∀ t∈ws,t.2.2.2.1.natAbs≤mW∧t.2.2.2.2.natAbs≤mW
def zNx (ss:List Sd) (g:P3):Pp→Prop
 | .no _ cs=>zF7 ss (cs.map (·.2)) = true
 | .op _ x y=>0 < g.1 * x + g.2.1 * y∧wayB ss x y = true∧∃ z:P3,0 < z.2.2∧inW ss z
 | .fa _ _ P ws=>1≤P.2.2∧inWB ss P = true∧∃ N B,zEg ss g (wtN ws) = some (N,B)∧(g.1 * P.1 + g.2.1 * P.2.1) * B = N * P.2.2
theorem PpAt.same {H H':Hp} {t:Addr} {pp:Pp} (h:PpAt H t pp) (s:Same H H'):PpAt H' t pp:=by
 cases pp with
 | no D cs=>exact ⟨s _ _ h.1,s _ _ h.2.1,h.2.2.same s⟩
 | op p x y=>exact ⟨s _ _ h.1,s _ _ h.2⟩
 | fa p D P ws=>exact ⟨s _ _ h.1,s _ _ h.2.1,s _ _ h.2.2.1,h.2.2.2.same s⟩
theorem zRi {H:Hp} {ss:List Sd} {g:P3} {Q:VK} (ok:∀ t∈ss,(t.2.1≠0∨t.2.2.1≠0)∧t.2.1.natAbs≤10 ^ 9∧t.2.2.1.natAbs≤10 ^ 9∧t.2.2.2.natAbs≤10 ^ 13) (h:∀ (t:Addr) (pp:Pp) (H':Hp),Same H H'→PpAt H' t pp→zNx ss g pp→PpSz 3 (10 ^ 20) (10 ^ 40) pp→Q (.ref t) H') :
  (∀ (t D:Addr) (cs:List Pr) (H':Hp),Same H H'→H' t = some (.tup [.str "none", .ref D])→H D = none→H' D = some (.lst (zBq cs))→PrAt H' cs→zLc ss (cs.map (·.2))→Q (.ref t) H') ∧
  (∀ (t p:Addr) (x y:Int) (Z:P3) (H':Hp),Same H H'→H' t = some (.tup [.str "open", .ref p])→H' p = some (.tup [.int x,.int y])→Nat.gcd x.natAbs y.natAbs = 1→0 < g.1 * x + g.2.1 * y→wayB ss x y = true→x.natAbs≤2 * 10 ^ 9→y.natAbs≤2 * 10 ^ 9→0 < Z.2.2→inW ss Z→Cand ss Z→Q (.ref t) H')∧FarQ H ss g Q:=by
 refine ⟨fun t D cs H' s e1 _ e2 okc cl=>?_,fun t p x y Z H' s e1 e2 _ pos hw _ _ zw wz _=>?_,fun t p D P ws H' s e1 sp wp cp _ eD okw fr=>?_⟩
 ·have n3:=cl.range.1
  rw [List.length_map] at n3
  exact h t (.no D cs) H' s ⟨e1,e2,okc⟩ cl.b (show cs.length≤3 by omega)
 ·exact h t (.op p x y) H' s ⟨e1,e2⟩ ⟨pos,hw,Z,zw,wz⟩ trivial
 ·obtain ⟨fl,flo⟩:=fr.low
  obtain ⟨N,B,hbF,hval,_,_⟩:=fr.bound fun u hu=>(ok u hu).2.2.2
  obtain ⟨sx,sy,sw⟩:=cp.small ok
  have nw:(wtN ws).length = ws.length:=List.length_map _
  refine h t (.fa p D P ws) H' s ⟨e1,sp.1,eD,okw⟩ ⟨sp.2.1,zDq.mpr wp,N,B,hbF,hval⟩ ⟨sx,sy,sw,by omega,fun u hu=>?_⟩
  have z:=flo (u.2.1,u.2.2.2) (List.mem_map_of_mem hu)
  exact ⟨Nat.le_trans z.2.2.1 (by decide),Nat.le_trans z.2.2.2 (by decide)⟩
def zKo (K:PySem.W.Frag):Sp:=fun vs H Q _=>∃ (l a:Addr) (ss:List Sd) (g:P3),vs = [.ref l,.ref a]∧SqL K H l (zAo ss)∧SdOk H ss∧ss.length≤400∧Sq K H a [.int g.1,.int g.2.1]∧(g.1≠0∨g.2.1≠0)∧g.1.natAbs≤2 * 10 ^ 9∧g.2.1.natAbs≤2 * 10 ^ 9 ∧
 ∀ (t:Addr) (pp:Pp) (H':Hp),Same H H'→PpAt H' t pp→zNx ss g pp→PpSz 3 (10 ^ 20) (10 ^ 40) pp→Q (.ref t) H'
theorem zPq (F:Fun K "reach" "reach" zHl f fd) (Z:Zs mg) (h_p_far_by_one:Has P w K mg base "far_by_one" 8 ["sides", "direction"] (zF3 K)) (h_p_far_by_two:Has P w K mg base "far_by_two" 6 ["sides", "direction"] (zF6 K)) (h_p_way_onward:Has P w K mg base "way_onward" 5 ["sides", "direction"] (zFx K)) (h_p_clash:Has P w K mg base "clash" 9 ["sides"] (zKg K)):FnOk P w K mg base CX0 10 f fd ["sides", "direction"] (zKo K):=by
 refine F.ok zH2 (fun vs H Q E h=>?_) (fun cdv A outer s H vs Q E hr h=>?_)
 ·obtain ⟨l,a,ss,g,rfl,_⟩:=h
  rfl
 obtain ⟨l,a,ss,g,rfl,hl,ok,hlen,ha,gz,m1,m2,qr⟩:=h
 obtain ⟨qc,qo,qf⟩:=zRi (fun t ht=>(ok t ht).2) qr
 have nz:∀ t∈ss,t.2.1≠0∨t.2.2.1≠0:=fun t ht=>(ok t ht).2.1
 refine ⟨_,(zAf (zAy (i:=2) zH2.nd rfl (Or.inl rfl) (zAh h_p_clash (hr.mono (by decide)) rfl (zAa (pv 0) zAe)))
   (zAf (zA9 (zAs zHz (pv 2) zBp (zAt _)) (zAi (zAq (zAz (zAa zCu (zAa (pv 2) zAe))))) zAv)
   (zAf (zAy (i:=3) zH2.nd rfl (Or.inl rfl) (zAh h_p_way_onward (hr.mono (by decide)) rfl (zAa (pv 0) (zAa (pv 1) zAe))))
   (zAf (zA9 (zAs zHz (pv 3) zBp (zAt _)) (zAi (zAq (zAz (zAa zCu (zAa (pv 3) zAe))))) zAv)
   (zAi (zAq (pe_orT (zAh h_p_far_by_one (hr.mono (by decide)) rfl (zAa (pv 0) (zAa (pv 1) zAe))) (zGo (zAh h_p_far_by_two (hr.mono (by decide)) rfl (zAa (pv 0) (zAa (pv 1) zAe))))))))))),?_⟩
 try dsimp only [L2.cxOf]
 refine ⟨_,rfl,l,ss,rfl,hl,ok,by omega,fun P0 H1 s1 pw wp cp=>?_,fun D cs H1 s1 hD eD okc cl=>?_⟩
 ·refine ⟨_,rfl,rfl,_,rfl,?_⟩
  refine iteF ?_
  refine ⟨_,rfl,_,rfl,l,a,ss,g,rfl,s1.seq hl,ok.same s1,hlen,ha.same s1,gz,m1,m2,fun H2 s2 nw nl=>?_,fun p x y H2 s2 ep low pos hw bx by'=>?_⟩
  ·refine ⟨_,rfl,rfl,_,rfl,?_⟩
   refine iteF ?_
   have s12:=s1.trans s2
   refine ⟨_,rfl,_,rfl,l,a,ss,g,rfl,s12.seq hl,ok.same s12,hlen,ha.same s12,gz,m1,m2,fun H3 s3 b1=>?_,fun ft p D P ws H3 s3 ef ep wP cP hD eD okw fr=>?_⟩
   ·refine ⟨false,rfl,?_⟩
    refine iteF ?_
    have s13:=s12.trans s3
    refine ⟨_,rfl,_,rfl,l,a,ss,g,rfl,s13.seq hl,ok.same s13,hlen,ha.same s13,m1,m2,nw,fun H4 s4 b2=>?_,fun ft p D P ws H4 s4 ef ep wP cP hD eD okw fr=>?_⟩
    ·exact (no_far ⟨nz,gz,nw,nl,b1⟩ b2 pw wp).elim
    ·exact qf ft p D P ws H4 (s13.trans s4) ef ep wP cP (s13.free hD) eD okw fr
   ·refine ⟨true,.inr (.inl ⟨_,SqT.of ef,rfl⟩),?_⟩
    refine iteT ?_
    exact qf ft p D P ws H3 (s12.trans s3) ef ep wP cP (s12.free hD) eD okw fr
  ·refine ⟨_,rfl,rfl,_,rfl,?_⟩
   refine iteT ?_
   refine ⟨_,rfl,(by show 2≤sizeLine; decide),fun t ht=>?_⟩
   have st:=zAd ht (.tup [.str "open", .ref p])
   exact qo t p x y P0 _ ((s1.trans s2).trans st) zAc (st _ _ ep) low pos hw bx by' pw wp cp
 ·refine ⟨_,rfl,rfl,_,rfl,?_⟩
  refine iteT ?_
  refine ⟨_,rfl,(by show 2≤sizeLine; decide),fun t ht=>?_⟩
  have st:=zAd ht (.tup [.str "none", .ref D])
  exact qc t D cs _ (s1.trans st) zAc hD (st _ _ eD) (okc.same st) cl
theorem zA2 (ws:List Wt):(zAp ws).length = ws.length:=by simp
theorem zHw {ws:List Wt} {i:Nat} {v:V} (h:(zAp ws)[i]? = some v):∃ t,ws[i]? = some t∧v = .ref t.1∧i < ws.length:=by
 unfold zAp at h
 rw [List.getElem?_map,List.getElem?_map] at h
 cases e:ws[i]? with
 | none=>rw [e] at h; cases h
 | some t =>
  rw [e] at h
  cases h
  exact ⟨t,rfl,rfl,(List.getElem?_eq_some_iff.mp e).1⟩
def zDu (K:PySem.W.Frag):Sp:=fun vs H Q _=>∃ (l W:Addr) (ss:List Sd) (ws:List Wt),vs = [.ref l,.ref W]∧SqL K H l (zAo ss)∧SqL K H W (zAp ws)∧WtAt H ws∧Q (.bl (awF ss.length (wtN ws) 0)) H
theorem zIf (F:Fun K "are_weights" "are_weights" zDa f fd) (Z:Zs mg):FnOk P w K mg base CX0 1 f fd ["sides", "weights"] (zDu K):=by
 refine F.ok zC1 (fun vs H Q E h=>?_) (fun cdv A outer s H vs Q E hr h=>?_)
 ·obtain ⟨l,W,ss,ws,rfl,_⟩:=h
  rfl
 obtain ⟨l,W,ss,ws,rfl,hl,hW,ok,q⟩:=h
 refine ⟨_,(zAf (zAy (i:=2) zC1.nd rfl (Or.inl rfl) zAb)
   (zAf (zCv PassesOwn.never rfl (zCd (pv 1)) (zAr (i:=3) zC1.nd rfl (Or.inl rfl)) (zAf (zA9 (PW.pt (zEt (zAs zFk (zAk zAg (pv 3) zAb (fun _ _=>rfl)) (pv 2) (zAt _)) (zEt (zAs op_ge (zAk zAg (pv 3) zAb (fun _ _=>rfl)) (zAu zA1 rfl Z.len zCo (zAa (pv 0) zAe)) (zAt _)) (zDv (zAs zFk (zAu (zQd rfl) rfl Z.min bt_min (zAa (zAk zAg (pv 3) zAb (fun _ _=>rfl)) zAe)) zAb (zAt _)))))) (zAi (zAq zE2)) zAv)
   (zAi (zAy (i:=2) zC1.nd rfl (Or.inl rfl) (zAl zBc (zAk zAg (pv 3) zAb (fun _ _=>rfl)) zAb)))))
   (zAi (zAq zE2)))),?_⟩
 try dsimp only [L2.cxOf]
 refine ⟨_,rfl,W,rfl,.inl ⟨⟨_,hW⟩,zCg (K:=K) (a:=W) (xs:=zAp ws) (fun i σ H'=>H' = H∧∃ (least:Int) (u3:Option V),awF ss.length (wtN ws) 0 = awF ss.length (wtN (ws.drop i)) least∧σ = [some (.ref l),some (.ref W),some (.int least),u3])
  ⟨rfl,0,none,rfl,rfl⟩ (fun i σ H' _ ⟨e,_⟩=>by rw [e]; exact hW) ?_ ?_⟩⟩
 ·rintro i v σ H' hi ⟨rfl,least,u3,he,rfl⟩
  obtain ⟨t,gt,rfl,hil⟩:=zHw hi
  obtain ⟨e1,e2⟩:=ok t (List.mem_of_getElem? gt)
  rw [show wtN (ws.drop i) = (t.2.1,t.2.2.2) :: wtN (ws.drop (i + 1)) from zQx gt,awF] at he
  dsimp only at he
  have sq:Sq K H' t.1 [.int t.2.1,.ref t.2.2.1]:=.inr (SqT.of e1)
  refine ⟨_,rfl,t.1,_,_,.int t.2.1,rfl,rfl,sq,rfl,_,rfl,_,_,rfl,rfl,_,rfl,?_⟩
  refine ifD (fun h1=>?_) (fun h1=>?_)
  ·rw [if_neg (fun z=>by have:=z.1; omega)] at he
   rw [he] at q
   exact iteT q
  refine ⟨_,rfl,t.1,_,_,.int t.2.1,rfl,rfl,sq,rfl,_,rfl,l,_,rfl,.inl hl,_,_,rfl,rfl,_,rfl,?_⟩
  rw [zAm]
  refine ifD (fun h2=>?_) (fun h2=>?_)
  ·rw [if_neg (fun z=>by have:=z.2.1; omega)] at he
   rw [he] at q
   exact iteT q
  refine ⟨_,rfl,t.1,_,_,.ref t.2.2.1,rfl,rfl,sq,rfl,t.2.2.1,t.2.2.2.1,t.2.2.2.2,rfl,SqT.of e2,_,_,rfl,rfl,_,rfl,?_⟩
  refine ifD (fun h3=>?_) (fun h3=>?_)
  ·rw [if_neg (fun z=>by have:=z.2.2.1; have:=z.2.2.2; split at h3 <;> omega)] at he
   rw [he] at q
   exact q
  rw [if_pos ⟨by omega,by omega,by split at h3 <;> omega,by split at h3 <;> omega⟩] at he
  refine ⟨_,rfl,t.1,_,_,.int t.2.1,rfl,rfl,sq,rfl,_,_,rfl,rfl,?_⟩
  exact ⟨rfl,_,_,he,rfl⟩
 ·rintro σ H' ⟨rfl,least,u3,he,rfl⟩
  rw [zA2,List.drop_length] at he
  rw [he] at q
  exact q
def WtSz (ws:List Wt):Prop:=(∀ t∈ws,t.2.2.2.2 = 1)∨(ws.length≤2∧∀ t∈ws,t.2.2.2.1.natAbs≤10 ^ 60∧t.2.2.2.2.natAbs≤10 ^ 60)
def zE7 (K:PySem.W.Frag):Sp:=fun vs H Q _=>∃ (l W:Addr) (k:Int) (ss:List Sd) (ws:List Wt),vs = [.ref l,.ref W,.int k]∧SqL K H l (zAo ss)∧SdOk H ss∧SqL K H W (zAp ws)∧WtAt H ws∧WtSz ws∧0≤k∧k < 3∧(∀ t∈ws,0≤t.2.1∧t.2.1 < ss.length∧1≤t.2.2.2.2) ∧
 ∀ (p:Addr) (x y:Int) (H':Hp),Same H H'→H p = none→H' p = some (.tup [.int x,.int y])→1≤(sumQ ss (fAt k) (wtN ws) (0,1)).2→zC7 (sumQ ss (fAt k) (wtN ws) (0,1)).1 (sumQ ss (fAt k) (wtN ws) (0,1)).2 x y→Q (.ref p) H'
theorem at3 {k a b c:Int} (h0:0≤k) (h3:k < 3):atI [V.int a,V.int b,V.int c] k = some (.int (if k = 0 then a else if k = 1 then b else c)):=by
 have cc:k = 0∨k = 1∨k = 2:=by omega
 rcases cc with e | e | e <;> (rw [e]; rfl)
def zSu (ws:List Wt) (i:Nat) (N B:Int):Prop:=((∀ t∈ws,t.2.2.2.2 = 1)∧B = 1)∨(ws.length≤2∧(∀ t∈ws,t.2.2.2.1.natAbs≤10 ^ 60∧t.2.2.2.2.natAbs≤10 ^ 60)∧N.natAbs≤10 ^ (90 * i)∧B.natAbs≤10 ^ (90 * i))
theorem zSu.step {ws:List Wt} {i:Nat} {N B s:Int} {t:Wt} (h:zSu ws i N B) (ht:t∈ws) (hi:i < ws.length) (hs:s.natAbs≤10 ^ 13):zSu ws (i + 1) (sumW (N,B) t.2.2.2.1 t.2.2.2.2 s).1 (sumW (N,B) t.2.2.2.1 t.2.2.2.2 s).2:=by
 unfold sumW
 dsimp only
 rcases h with ⟨h1,rfl⟩ | ⟨h1,h2,h3,h4⟩
 ·exact .inl ⟨h1,by rw [h1 t ht]; rfl⟩
 ·refine .inr ⟨h1,h2,?_,?_⟩
  ·obtain ⟨b1,b2⟩:=h2 t ht
   have z1:=zAj N t.2.2.2.2 h3 b2
   have z2:=zAj (s * t.2.2.2.1) B (zAj s t.2.2.2.1 hs b1) h4
   refine Nat.le_trans (Int.natAbs_add_le _ _) (Nat.le_trans (Nat.add_le_add z1 z2) ?_)
   have c:i = 0∨i = 1:=by omega
   rcases c with rfl | rfl <;> decide +kernel
  ·obtain ⟨b1,b2⟩:=h2 t ht
   refine Nat.le_trans (zAj B t.2.2.2.2 h4 b2) ?_
   have c:i = 0∨i = 1:=by omega
   rcases c with rfl | rfl <;> decide +kernel
theorem zNp (F:Fun K "sum_at" "sum_at" zGh f fd) (Z:Zs mg) (h_p_plus:Has P w K mg base "plus" 5 ["one", "other"] (zLr K)) (h_p_times:Has P w K mg base "times" 5 ["one", "other"] (zKk K)) (h_p_part:Has P w K mg base "part" 4 ["top", "bottom"] (zC8 K)):FnOk P w K mg base CX0 6 f fd ["sides", "weights", "at"] (zE7 K):=by
 refine F.ok zE6 (fun vs H Q E h=>?_) (fun cdv A outer s H vs Q E hr h=>?_)
 ·obtain ⟨l,W,k,ss,ws,rfl,_⟩:=h
  rfl
 obtain ⟨l,W,k,ss,ws,rfl,hl,ok,hW,okw,wsz,k0,k3,rg,q⟩:=h
 refine ⟨_,(zAf (zAy (i:=3) zE6.nd rfl (Or.inl rfl) (zAh h_p_part (hr.mono (by decide)) rfl (zAa zAb (zAa zAb zAe))))
   (zAf (zCv PassesOwn.never rfl (zCd (pv 1)) (zAr (i:=4) zE6.nd rfl (Or.inl rfl)) (zAi (zAy (i:=3) zE6.nd rfl (Or.inl rfl) (zAh h_p_plus (hr.mono (by decide)) rfl (zAa (pv 3) (zAa (zAh h_p_times (hr.mono (by decide)) rfl (zAa (zAk zAg (pv 4) zAb (fun _ _=>rfl)) (zAa (zAh h_p_part (hr.mono (by decide)) rfl (zAa (zAk zAg (zAk zAg (pv 0) (zAk zAg (pv 4) zAb (fun _ _=>rfl)) (fun _ _=>rfl)) (pv 2) (fun _ _=>rfl)) (zAa zAb zAe))) zAe))) zAe))))))
   (zAi (zAq (pv 3))))),?_⟩
 try dsimp only [L2.cxOf]
 refine ⟨0,1,rfl,by decide,by decide +kernel,fun p0 x0 y0 H0 s0 hp0 ep0 po0=>?_⟩
 refine ⟨_,rfl,W,rfl,.inl ⟨⟨_,s0.seq hW⟩,zCg (K:=K) (a:=W) (xs:=zAp ws) (fun i σ H'=>Same H H'∧∃ (p:Addr) (x y N B:Int) (u4:Option V),H p = none∧H' p = some (.tup [.int x,.int y])∧zC7 N B x y∧1≤B∧zSu ws i N B∧sumQ ss (fAt k) (wtN ws) (0,1) = sumQ ss (fAt k) (wtN (ws.drop i)) (N,B)∧σ = [some (.ref l),some (.ref W),some (.int k),some (.ref p),u4])
  ⟨s0,p0,x0,y0,0,1,none,hp0,ep0,po0,by decide,(wsz.imp (fun z=>⟨z,rfl⟩) fun z=>⟨z.1,z.2,by decide,by decide⟩),rfl,rfl⟩ (fun i σ H' _ ⟨e,_⟩=>e.seq hW) ?_ ?_⟩⟩
 ·rintro i v σ H' hi ⟨sH,p,x,y,N,B,u4,hp,ep,po,bp,sz,he,rfl⟩
  obtain ⟨t,gt,rfl,hil⟩:=zHw hi
  have mt:=List.mem_of_getElem? gt
  obtain ⟨w1,w2⟩:=(okw.same sH) t mt
  obtain ⟨r0,r1,r2⟩:=rg t mt
  rw [show wtN (ws.drop i) = (t.2.1,t.2.2.2) :: wtN (ws.drop (i + 1)) from zQx gt,sumQ] at he
  dsimp only at he
  obtain ⟨sd,msd,gsd,asd⟩:=zBf (ss:=ss) (i:=t.2.1.toNat) (k:=t.2.1) (by omega) (by omega)
  obtain ⟨es,_,b1,b2,b3⟩:=(ok.same sH) sd msd
  have sq:Sq K H' t.1 [.int t.2.1,.ref t.2.2.1]:=.inr (SqT.of w1)
  have ef:zFj ss (fAt k) t.2.1 = fAt k sd:=by
   unfold zFj
   rw [gsd]
  rw [ef] at he
  refine ⟨_,rfl,_,rfl,t.1,_,_,.ref t.2.2.1,rfl,rfl,sq,rfl,_,rfl,_,rfl,t.1,_,_,.int t.2.1,rfl,rfl,sq,rfl,l,_,_,.ref sd.1,rfl,rfl,.inl (sH.seq hl),asd,_,rfl,sd.1,_,_,.int (fAt k sd),rfl,rfl,.inr (SqT.of es),at3 k0 k3,fAt k sd,1,rfl,by decide,by decide +kernel,fun p1 x1 y1 H1 s1 hp1 ep1 po1=>?_⟩
  obtain ⟨e1,e2⟩:=zGg rfl po1
  rw [e1,e2] at ep1
  clear e1 e2 po1
  have bf:(fAt k sd).natAbs≤10 ^ 13:=by
   unfold fAt
   split
   ·omega
   ·split <;> omega
  have sz':=sz.step mt hil bf
  have bq:t.2.2.2.2.natAbs≤10 ^ 200:=by
   rcases sz with ⟨z,_⟩ | ⟨_,z,_⟩
   ·rw [z t mt]; decide
   ·exact Nat.le_trans (z t mt).2 (by decide +kernel)
  refine ⟨t.2.2.1,p1,t.2.2.2.1,t.2.2.2.2,fAt k sd,rfl,SqT.of (s1 _ _ w2),SqT.of ep1,r2,bq,bf,fun p2 x2 y2 H2 s2 hp2 ep2 po2=>?_⟩
  refine ⟨p,p2,x,y,x2,y2,rfl,SqT.of (s2 _ _ (s1 _ _ ep)),SqT.of ep2,po.pos,po2.pos,?_,fun p3 x3 y3 H3 s3 hp3 ep3 po3=>?_⟩
  ·rcases sz with ⟨z,rfl⟩ | ⟨n2,z,zN,zB⟩
   ·refine .inl ⟨(zGg rfl po).2,(zGg (by rw [z t mt]; rfl) po2).2⟩
   ·have c:i = 0∨i = 1:=by omega
    have pw:10 ^ (90 * i)≤10 ^ 200:=by rcases c with rfl | rfl <;> decide +kernel
    refine .inr ⟨Nat.le_trans po.xle (Nat.le_trans zN pw),Nat.le_trans po.yle (Nat.le_trans zB pw),Nat.le_trans po2.xle (Nat.le_trans (zAj _ _ (z t mt).1 bf) (by decide +kernel)),Nat.le_trans po2.yle ?_⟩
    rw [Int.mul_one]
    exact bq
  have s13:=(s1.trans s2).trans s3
  have bp':1≤B * t.2.2.2.2:=by have:=Int.mul_pos (show 0 < B by omega) (show 0 < t.2.2.2.2 by omega); omega
  exact ⟨sH.trans s13,p3,x3,y3,_,_,_,sH.free (s1.free (s2.free hp3)),ep3,zQa po po2 po3 (by omega),bp',sz',he,rfl⟩
 ·rintro σ H' ⟨sH,p,x,y,N,B,u4,hp,ep,po,bp,sz,he,rfl⟩
  rw [zA2,List.drop_length] at he
  have he:sumQ ss (fAt k) (wtN ws) (0,1) = (N,B):=he
  refine ⟨_,rfl,q p x y H' sH hp ep ?_ ?_⟩
  ·rw [he]; exact bp
  ·rw [he]; exact po
def zH4 (K:PySem.W.Frag):Sp:=fun vs H Q _=>∃ (l W d:Addr) (ss:List Sd) (ws:List Wt) (g1 g2:Int),vs = [.ref l,.ref W,.ref d]∧SqL K H l (zAo ss)∧SdOk H ss∧SqL K H W (zAp ws)∧WtAt H ws∧WtSz ws∧(∀ t∈ws,0≤t.2.1∧t.2.1 < ss.length∧1≤t.2.2.2.2)∧SqT K H d [.int g1,.int g2] ∧
 ∀ H':Hp,Same H H'→Q (.bl (decide ((sumQ ss (fAt 0) (wtN ws) (0,1)).1 = g1 * (sumQ ss (fAt 0) (wtN ws) (0,1)).2) && decide ((sumQ ss (fAt 1) (wtN ws) (0,1)).1 = g2 * (sumQ ss (fAt 1) (wtN ws) (0,1)).2))) H'
theorem zO6 (F:Fun K "makes" "makes" zHj f fd) (Z:Zs mg) (h_p_sum_at:Has P w K mg base "sum_at" 6 ["sides", "weights", "at"] (zE7 K)) (h_p_part:Has P w K mg base "part" 4 ["top", "bottom"] (zC8 K)):FnOk P w K mg base CX0 7 f fd ["sides", "weights", "direction"] (zH4 K):=by
 refine F.ok zO0 (fun vs H Q E h=>?_) (fun cdv A outer s H vs Q E hr h=>?_)
 ·obtain ⟨l,W,d,ss,ws,g1,g2,rfl,_⟩:=h
  rfl
 obtain ⟨l,W,d,ss,ws,g1,g2,rfl,hl,ok,hW,okw,wsz,rg,hd,q⟩:=h
 have hu64:=hr.units
 refine ⟨_,(zAi (zAq (zCa (zVe hu64) (zC2 (T:=["at"]) (caps:=[("sides", 0),("weights", 1)]) ⟨rfl,by decide +kernel,by decide +kernel,rfl,⟨⟨rfl,rfl,Or.inl rfl⟩,⟨rfl,rfl,Or.inl rfl⟩,True.intro⟩⟩ rfl (zC9 rfl Z.range (zAa zAb zAe)) (fun _=>(zAr (i:=0) (show (["at", "sides", "weights"]:List Str).Nodup by decide +kernel) rfl (Or.inl rfl))) (fun _=>zBg) (fun _=>(zAh h_p_sum_at (hr.mono (by decide)) rfl (zAa (pv 1) (zAa (pv 2) (zAa (pv 0) zAe)))))) (zC2 (T:=["number"]) (caps:=[]) ⟨rfl,by decide +kernel,by decide +kernel,rfl,True.intro⟩ rfl (zCd (pv 2)) (fun _=>(zAr (i:=0) (show (["number"]:List Str).Nodup by decide +kernel) rfl (Or.inl rfl))) (fun _=>zBg) (fun _=>(zAh h_p_part (hr.mono (by decide)) rfl (zAa (pv 0) (zAa zAb zAe))))) (zAt _)))),?_⟩
 try dsimp only [L2.cxOf]
 refine ⟨2,rfl,by decide,by decide,fun cc D hD=>zGw (lo:=0) (n:=2) (fun i σ ys G=>Same H G∧G D = some (.lst ys)∧(∃ ps:List Addr,ys = ps.map V.ref∧ps.length = i∧∀ (j:Nat) (p:Addr),ps[j]? = some p→∃ x y:Int,G p = some (.tup ([x,y].map V.int))∧1≤(sumQ ss (fAt (j:Int)) (wtN ws) (0,1)).2∧zC7 (sumQ ss (fAt (j:Int)) (wtN ws) (0,1)).1 (sumQ ss (fAt (j:Int)) (wtN ws) (0,1)).2 x y)∧∃ u0:Option V,σ = [u0,some (.ref l),some (.ref W)])
  ⟨zAd hD _,zAc,⟨[],rfl,rfl,(fun j p h=>nomatch h)⟩,none,rfl⟩ (fun i σ ys G _ ⟨_,e,_⟩=>e) ?_ ?_⟩
 ·rintro i σ ys G hi ⟨sG,eD,⟨ps,rfl,np,hps⟩,u0,rfl⟩
  refine ⟨_,rfl,_,rfl,_,rfl,l,W,0 + (i:Int),ss,ws,rfl,sG.seq hl,ok.same sG,sG.seq hW,okw.same sG,wsz,by omega,by omega,rg,fun p x y G2 s2 hp ep bp po=>?_⟩
  have npD:p≠D:=fun e=>by rw [e,eD] at hp; cases hp
  refine ⟨s2 _ _ eD,zA6 (by rw [List.length_map]; omega),(sG.trans s2).putNew hD,zAc,⟨ps ++ [p],by rw [List.map_append]; rfl,by rw [List.length_append,np]; rfl,fun j p' hj=>?_⟩,_,rfl⟩
  rcases Nat.lt_or_ge j ps.length with h | h
  ·rw [List.getElem?_append_left h] at hj
   obtain ⟨x',y',z,z2⟩:=hps j p' hj
   exact ⟨x',y',by rw [zA5 (zHh z eD (by intro z; cases z))]; exact s2 _ _ z,z2⟩
  ·rw [List.getElem?_append_right h] at hj
   have ej:j = i:=by
    have:=(List.getElem?_eq_some_iff.mp hj).1
    have e1:[p].length = 1:=rfl
    omega
   rw [ej,np,Nat.sub_self] at hj
   cases hj
   rw [Int.zero_add] at bp po
   rw [ej]
   exact ⟨x,y,by rw [zA5 npD]; exact ep,bp,po⟩
 rintro σ ys G ⟨sG,eD,⟨ps,rfl,np,hps⟩,u0,rfl⟩
 obtain ⟨p1,p2,rfl⟩:∃ p1 p2,ps = [p1,p2]:=by
  match ps,np with
  | [p1,p2],_=>exact ⟨p1,p2,rfl⟩
 obtain ⟨x1,y1,h1,bp1,po1⟩:=hps 0 p1 rfl
 obtain ⟨x2,y2,h2,bp2,po2⟩:=hps 1 p2 rfl
 refine ⟨_,rfl,d,rfl,.inr ⟨⟨_,hd.same sG⟩,fun c2 D2 hD2=>zHe (K:=K) (a:=d) (xs:=[.int g1,.int g2]) (fun i σ ys G2=>Same G G2∧G2 D2 = some (.lst ys)∧(∃ qs:List Addr,ys = qs.map V.ref∧qs.length = i∧∀ (j:Nat) (p:Addr),qs[j]? = some p→G2 p = some (.tup ([if j = 0 then g1 else g2,1].map V.int)))∧∃ u0:Option V,σ = [u0])
  ⟨zAd hD2 _,zAc,⟨[],rfl,rfl,(fun j p h=>nomatch h)⟩,none,rfl⟩ (fun i σ ys G2 _ ⟨e,e2,_⟩=>⟨(hd.same sG).same e,e2⟩) ?_ ?_⟩⟩
 ·rintro i x σ ys G2 hi ⟨s2,eD2,⟨qs,rfl,nq,hqs⟩,u0,rfl⟩
  have ex:x = .int (if i = 0 then g1 else g2)∧i < 2:=by
   have hi2:i < 2:=(List.getElem?_eq_some_iff.mp hi).1
   match i,hi with
   | 0,h=>exact ⟨(Option.some.inj h).symm,hi2⟩
   | 1,h=>exact ⟨(Option.some.inj h).symm,hi2⟩
  obtain ⟨rfl,hi2⟩:=ex
  refine ⟨_,rfl,if i = 0 then g1 else g2,1,rfl,by decide,by decide +kernel,fun p x3 y3 G3 s3 hp ep po=>?_⟩
  obtain ⟨e1,e2⟩:=zGg rfl po
  rw [e1,e2] at ep
  have npD:p≠D2:=fun e=>by rw [e,eD2] at hp; cases hp
  refine ⟨s3 _ _ eD2,zA6 (by rw [List.length_map]; omega),(s2.trans s3).putNew hD2,zAc,⟨qs ++ [p],by rw [List.map_append]; rfl,by rw [List.length_append,nq]; rfl,fun j p' hj=>?_⟩,_,rfl⟩
  rcases Nat.lt_or_ge j qs.length with h | h
  ·rw [List.getElem?_append_left h] at hj
   have z:=hqs j p' hj
   rw [zA5 (zHh z eD2 (by intro z; cases z))]
   exact s3 _ _ z
  ·rw [List.getElem?_append_right h] at hj
   have ej:j = i:=by
    have:=(List.getElem?_eq_some_iff.mp hj).1
    have e1:[p].length = 1:=rfl
    omega
   rw [ej,nq,Nat.sub_self] at hj
   cases hj
   rw [zA5 npD,ej]
   exact ep
 rintro σ ys G2 ⟨s2,eD2,⟨qs,rfl,nq,hqs⟩,u0,rfl⟩
 obtain ⟨q1,q2,rfl⟩:∃ q1 q2,qs = [q1,q2]:=by
  match qs,nq with
  | [q1,q2],_=>exact ⟨q1,q2,rfl⟩
 refine ⟨D,D2,p1,p2,q1,q2,_,_,_,_,rfl,rfl,SqL.of (s2 _ _ eD),SqL.of eD2,s2 _ _ h1,s2 _ _ h2,hqs 0 q1 rfl,hqs 1 q2 rfl,?_⟩
 have one:∀ {N B x y g:Int},1≤B→zC7 N B x y→decide ([x,y] = [g,1]) = decide (N = g * B):=fun {N B x y g} hB po=>decide_eq_decide.mpr ⟨fun z=>by
   injection z with z1 z2
   injection z2 with z2 _
   have e:=po.eq
   rw [z1,z2,Int.one_mul] at e
   exact e.symm,fun z=>by
   have e:=po.eq
   have u:=zL3 (p:=g) (q:=1) (p':=x) (q':=y) (by
    rw [Int.mul_one]
    rw [z] at e
    exact Int.eq_of_mul_eq_mul_right (show B≠0 by omega) (by rw [e,Int.mul_assoc])) (by decide) po.pos (by simp) po.low
   rw [u.1,u.2]⟩
 rw [show (if (0:Nat) = 0 then g1 else g2) = g1 from rfl,show (if (1:Nat) = 0 then g1 else g2) = g2 from rfl,one bp1 po1,one bp2 po2]
 exact q G2 (sG.trans s2)
theorem zMe {N:Nat} : ∀ {cs:List (Int × Int × Int)} {least:Int},0≤least→awF N cs least = true→∀ c∈cs,0≤c.1∧c.1 < N∧1≤c.2.2
 | [],_,_,_=>fun c hc=>nomatch hc
 | c :: cs,least,h0,h=>by
  rw [awF] at h
  split at h
  ·next z =>
   intro d hd
   rcases List.mem_cons.mp hd with rfl | hd
   ·exact ⟨by omega,z.2.1,z.2.2.2⟩
   ·exact zMe (by omega) h d hd
  ·cases h
def zKe (K:PySem.W.Frag):Sp:=fun vs H Q _=>∃ (l W d:Addr) (ss:List Sd) (ws:List Wt) (g:P3),vs = [.ref l,.ref W,.ref d]∧SqL K H l (zAo ss)∧SdOk H ss∧SqL K H W (zAp ws)∧WtAt H ws∧(∀ t∈ws,t.2.2.2.1.natAbs≤10 ^ 60∧t.2.2.2.2.natAbs≤10 ^ 60)∧SqT K H d [.int g.1,.int g.2.1]∧(g.1≠0∨g.2.1≠0) ∧
 (∀ H':Hp,Same H H'→zEg ss g (wtN ws) = none→Q .non H') ∧
 ∀ (p:Addr) (N B x y:Int) (H':Hp),Same H H'→H p = none→H' p = some (.tup [.int x,.int y])→zEg ss g (wtN ws) = some (N,B)→1≤B→zC7 N B x y→Q (.ref p) H'
theorem zPv (F:Fun K "shown" "shown" zHi f fd) (Z:Zs mg) (h_p_sum_at:Has P w K mg base "sum_at" 6 ["sides", "weights", "at"] (zE7 K)) (h_p_makes:Has P w K mg base "makes" 7 ["sides", "weights", "direction"] (zH4 K)) (h_p_are_weights:Has P w K mg base "are_weights" 1 ["sides", "weights"] (zDu K)):FnOk P w K mg base CX0 8 f fd ["sides", "weights", "direction"] (zKe K):=by
 refine F.ok zPs (fun vs H Q E h=>?_) (fun cdv A outer s H vs Q E hr h=>?_)
 ·obtain ⟨l,W,d,ss,ws,g,rfl,_⟩:=h
  rfl
 obtain ⟨l,W,d,ss,ws,g,rfl,hl,ok,hW,okw,wsz,hd,gz,qn,q⟩:=h
 have hu:=hr.units0
 rw [zIc] at qn q
 refine ⟨_,(zAf (zA9 (PW.pt (zEt (zAs (zN6 hu) (pv 2) (zAz (zAa zAb (zAa zAb zAe))) (zAt _)) (zEt (zAs zHa (zAu zA1 rfl Z.len zCo (zAa (pv 1) zAe)) zAb (zAt _)) (zDv (zCr (zB5 (zAh h_p_are_weights (hr.mono (by decide)) rfl (zAa (pv 0) (zAa (pv 1) zAe))))))))) (zAi (zAq zBp)) zAv)
   (zAf (zA9 (zCr (zB5 (zAh h_p_makes (hr.mono (by decide)) rfl (zAa (pv 0) (zAa (pv 1) (zAa (pv 2) zAe)))))) (zAi (zAq zBp)) zAv)
   (zAi (zAq (zAh h_p_sum_at (hr.mono (by decide)) rfl (zAa (pv 0) (zAa (pv 1) (zAa zAb zAe)))))))),?_⟩
 try dsimp only [L2.cxOf]
 refine ⟨_,rfl,(by show 2≤sizeLine; decide),fun z hz=>?_⟩
 have sz:=zAd hz (.tup [.int 0,.int 0])
 have ez:upd H z (.tup [.int 0,.int 0]) z = some (.tup [.int 0,.int 0]):=zAc
 generalize upd H z (.tup [.int 0,.int 0]) = H1 at sz ez ⊢
 refine ⟨d,z,[g.1,g.2.1],[0,0],rfl,rfl,hd.same sz,SqT.of ez,_,rfl,?_⟩
 rw [decide_eq_false (show ¬ [g.1,g.2.1] = [0,0] from fun e=>by injection e with e1 e2; injection e2 with e2 _; omega)]
 refine iteF ?_
 refine ⟨_,rfl,W,_,rfl,.inl (sz.seq hW),_,_,rfl,rfl,_,rfl,?_⟩
 rw [zA2]
 refine ifD (fun h1=>?_) (fun h1=>?_)
 ·refine iteT ?_
  exact qn H1 sz (if_neg fun c=>by have:=c.1; simp only [List.length_map] at this; omega)
 refine ⟨_,rfl,_,rfl,l,W,ss,ws,rfl,sz.seq hl,sz.seq hW,okw.same sz,_,rfl,?_⟩
 cases hb:awF ss.length (wtN ws) 0 with
 | false =>
  refine iteT ?_
  exact qn H1 sz (if_neg fun c=>by rw [hb] at c; cases c.2.1)
 | true =>
  refine iteF ?_
  have n2:ws.length≤2:=by omega
  have rg:∀ t∈ws,0≤t.2.1∧t.2.1 < ss.length∧1≤t.2.2.2.2:=fun t ht=>zMe (Int.le_refl 0) hb (t.2.1,t.2.2.2) (List.mem_map_of_mem (f:=fun t:Wt=>(t.2.1,t.2.2.2)) ht)
  refine ⟨_,rfl,_,rfl,_,rfl,l,W,d,ss,ws,g.1,g.2.1,rfl,sz.seq hl,ok.same sz,sz.seq hW,okw.same sz,.inr ⟨n2,wsz⟩,rg,hd.same sz,fun H2 s2=>⟨_,rfl,?_⟩⟩
  cases hm:(decide ((sumQ ss (fAt 0) (wtN ws) (0,1)).1 = g.1 * (sumQ ss (fAt 0) (wtN ws) (0,1)).2) && decide ((sumQ ss (fAt 1) (wtN ws) (0,1)).1 = g.2.1 * (sumQ ss (fAt 1) (wtN ws) (0,1)).2)) with
  | false =>
   refine iteT ?_
   exact qn H2 (sz.trans s2) (if_neg fun c=>by rw [decide_eq_true c.2.2.1,decide_eq_true c.2.2.2] at hm; cases hm)
  | true =>
   refine iteF ?_
   rw [Bool.and_eq_true] at hm
   have c1:=of_decide_eq_true hm.1
   have c2:=of_decide_eq_true hm.2
   have s12:=sz.trans s2
   refine ⟨_,rfl,_,rfl,l,W,2,ss,ws,rfl,s12.seq hl,ok.same s12,s12.seq hW,okw.same s12,.inr ⟨n2,wsz⟩,by decide,by decide,rg,fun p x y H3 s3 hp ep bp po=>?_⟩
   exact q p _ _ x y H3 (s12.trans s3) (s12.free hp) ep (if_pos ⟨by simp only [List.length_map]; exact n2,hb,c1,c2⟩) bp po
def zFw (K:PySem.W.Frag):Sp:=fun vs H Q _=>∃ (l D:Addr) (ss:List Sd) (cs:List Pr),vs = [.ref l,.ref D]∧SqL K H l (zAo ss)∧SdOk H ss∧SqL K H D (zBq cs)∧PrAt H cs∧cs.length≤900 ∧
 ∀ H':Hp,Same H H'→Q (.bl (zF7 ss (cs.map (·.2)))) H'
theorem zJk (F:Fun K "good_clash" "good_clash" zDl f fd) (Z:Zs mg) (h_p_below:Has P w K mg base "below" 1 ["one", "other"] (zKv K)) (h_p_part:Has P w K mg base "part" 4 ["top", "bottom"] (zC8 K)) (h_p_sum_at:Has P w K mg base "sum_at" 6 ["sides", "weights", "at"] (zE7 K)) (h_p_are_weights:Has P w K mg base "are_weights" 1 ["sides", "weights"] (zDu K)) (h_p_makes:Has P w K mg base "makes" 7 ["sides", "weights", "direction"] (zH4 K)):FnOk P w K mg base CX0 8 f fd ["sides", "paper"] (zFw K):=by
 refine F.ok zF5 (fun vs H Q E h=>?_) (fun cdv A outer s H vs Q E hr h=>?_)
 ·obtain ⟨l,D,ss,cs,rfl,_⟩:=h
  rfl
 obtain ⟨l,D,ss,cs,rfl,hl,ok,hD,okc,h900,q⟩:=h
 have nr:=zCn cs
 unfold zF7 at q
 rw [List.length_map] at q
 refine ⟨_,(zAf (zA9 (PW.pt (zEt (zAs zFk (zAu zA1 rfl Z.len zCo (zAa (pv 1) zAe)) zAb (zAt _)) (zDv (zAs zHa (zAu zA1 rfl Z.len zCo (zAa (pv 1) zAe)) zAb (zAt _))))) (zAi (zAq zE2)) zAv)
   (zAf (zD7 (T:=["pair"]) (caps:=[]) (i:=2) zF5.nd rfl rfl ⟨rfl,by decide +kernel,by decide +kernel,rfl,True.intro⟩ rfl (zCd (pv 1)) (fun _=>(zAr (i:=0) (show (["pair"]:List Str).Nodup by decide +kernel) rfl (Or.inl rfl))) (fun _=>zBg) (fun _=>(zAz (zAa (zAk zAg (pv 0) zAb (fun _ _=>rfl)) (zAa (zAz (zAa (zAk zAg (pv 0) zAb (fun _ _=>rfl)) (zAa zAb zAe))) zAe)))))
   (zAf (zA9 (PW.pt (zEt (zCr (zB5 (zAh h_p_are_weights (hr.mono (by decide)) rfl (zAa (pv 0) (zAa (pv 2) zAe))))) (zDv (zCr (zB5 (zAh h_p_makes (hr.mono (by decide)) rfl (zAa (pv 0) (zAa (pv 2) (zAa (zAz (zAa zAb (zAa zAb zAe))) zAe))))))))) (zAi (zAq zE2)) zAv)
   (zAi (zAq (zAh h_p_below (hr.mono (by decide)) rfl (zAa (zAh h_p_sum_at (hr.mono (by decide)) rfl (zAa (pv 0) (zAa (pv 2) (zAa zAb zAe)))) (zAa (zAh h_p_part (hr.mono (by decide)) rfl (zAa zAb (zAa zAb zAe))) zAe)))))))),?_⟩
 try dsimp only [L2.cxOf]
 refine ⟨_,rfl,D,_,rfl,.inl hD,_,_,rfl,rfl,_,rfl,?_⟩
 rw [nr]
 refine ifD (fun h1=>?_) (fun h1=>?_)
 ·refine iteT ?_
  rw [show decide (2≤cs.length) = false from decide_eq_false (by omega)] at q
  exact q H (Same.refl _)
 refine ⟨_,rfl,D,_,rfl,.inl hD,_,_,rfl,rfl,_,rfl,?_⟩
 rw [nr]
 refine ifD (fun h2=>?_) (fun h2=>?_)
 ·rw [show decide (2≤cs.length) = true from decide_eq_true (by omega),show decide (cs.length≤3) = false from decide_eq_false (by omega)] at q
  exact q H (Same.refl _)
 rw [show decide (2≤cs.length) = true from decide_eq_true (by omega),show decide (cs.length≤3) = true from decide_eq_true (by omega),Bool.true_and,Bool.true_and,zM5 _ _ _ (by decide)] at q
 refine ⟨_,rfl,D,rfl,.inl ⟨⟨_,hD⟩,fun cc W hW=>zBx (K:=K) (a:=D) (xs:=zBq cs) (fun i σ ys G=>Same H G∧G W = some (.lst ys)∧(∃ ws:List Wt,ys = zAp ws∧WtAt G ws∧wtN ws = ones ((cs.take i).map (·.2)))∧∃ u0:Option V,σ = [u0])
  ⟨zAd hW _,zAc,⟨[],rfl,(fun t ht=>nomatch ht),rfl⟩,none,rfl⟩ (fun i σ ys G _ ⟨e,e2,_⟩=>⟨e.seq hD,e2⟩) ?_ ?_⟩⟩
 ·rintro i x σ ys G hi ⟨sG,eW,⟨ws,rfl,okw,mw⟩,u0,rfl⟩
  obtain ⟨t,gt,rfl,hil⟩:=zKu hi
  have et:=sG _ _ (okc t (List.mem_of_getElem? gt))
  have sq:Sq K G t.1 [.int t.2.1,.int t.2.2]:=.inr (SqT.of et)
  have nw:ws.length≤i:=by
   have z:=congrArg List.length mw
   simp only [List.length_map,List.length_take] at z
   omega
  refine ⟨_,rfl,t.1,_,_,.int t.2.1,rfl,rfl,sq,rfl,_,rfl,t.1,_,_,.int t.2.2,rfl,rfl,sq,rfl,(by show 2≤sizeLine; decide),fun p1 hp1=>?_⟩
  have s1:Same G (upd G p1 (.tup [.int t.2.2,.int 1])):=zAd hp1 _
  have e1:upd G p1 (.tup [.int t.2.2,.int 1]) p1 = some (.tup [.int t.2.2,.int 1]):=zAc
  generalize upd G p1 (.tup [.int t.2.2,.int 1]) = G1 at s1 e1 ⊢
  refine ⟨(by show 2≤sizeLine; decide),fun p2 hp2=>?_⟩
  have s2:Same G1 (upd G1 p2 (.tup [.int t.2.1,.ref p1])):=zAd hp2 _
  have e2:upd G1 p2 (.tup [.int t.2.1,.ref p1]) p2 = some (.tup [.int t.2.1,.ref p1]):=zAc
  generalize upd G1 p2 (.tup [.int t.2.1,.ref p1]) = G2 at s2 e2 ⊢
  have eW2:=s2 _ _ (s1 _ _ eW)
  have keep:∀ (b:Addr) (xs:List V) (o:HO),G2 b = some (.tup xs)→upd G2 W o b = some (.tup xs):=fun b xs o e=>by
   rw [zA5 (zHh e eW2 (by intro z; cases z))]
   exact e
  refine ⟨eW2,zA6 (by rw [zA2]; omega),(sG.trans (s1.trans s2)).putNew hW,zAc,⟨ws ++ [(p2,t.2.1,p1,t.2.2,1)],by simp,fun u hu=>?_,?_⟩,_,rfl⟩
  ·rcases List.mem_append.mp hu with h | h
   ·obtain ⟨z1,z2⟩:=(okw.same (s1.trans s2)) u h
    exact ⟨keep _ _ _ z1,keep _ _ _ z2⟩
   ·rw [List.mem_singleton] at h
    subst h
    exact ⟨keep _ _ _ e2,keep _ _ _ (s2 _ _ e1)⟩
  ·show (ws ++ [(p2,t.2.1,p1,t.2.2,(1:Int))]).map _ = _
   rw [List.map_append,zBn gt,List.map_append]
   unfold ones at mw ⊢
   rw [List.map_append,← mw]
   rfl
 rintro σ ys G ⟨sG,eW,⟨ws,rfl,okw,mw⟩,u0,rfl⟩
 rw [nr,List.take_length] at mw
 have hl':=sG.seq hl
 have ok':=ok.same sG
 have one:∀ t∈ws,t.2.2.2.2 = 1:=fun t ht=>by
  have z:(t.2.1,t.2.2.2)∈ones (cs.map (·.2)):=by rw [← mw]; exact List.mem_map_of_mem (f:=fun t:Wt=>(t.2.1,t.2.2.2)) ht
  obtain ⟨c,_,e⟩:=List.mem_map.mp z
  exact (congrArg (fun u:Int × Int × Int=>u.2.2) e).symm
 have aw:awF ss.length (wtN ws) 0 = awB ss.length (cs.map (·.2)) 0:=by rw [mw,zTu]
 have sm:∀ k:Int,sumQ ss (fAt k) (wtN ws) (0,1) = (sumF ss (fAt k) (cs.map (·.2)) 0,1):=fun k=>by rw [mw,zR1]
 refine ⟨_,rfl,_,rfl,l,W,ss,ws,rfl,hl',SqL.of eW,okw,_,rfl,?_⟩
 rw [aw]
 cases hb:awB ss.length (cs.map (·.2)) 0 with
 | false =>
  refine iteT ?_
  have z:=q G sG
  rw [show (-1:Int) + 1 = 0 by decide,hb] at z
  exact iteT z
 | true =>
  refine iteF ?_
  have rg:∀ t∈ws,0≤t.2.1∧t.2.1 < ss.length∧1≤t.2.2.2.2:=fun t ht=>by
   have z:(t.2.1,t.2.2.2)∈ones (cs.map (·.2)):=by rw [← mw]; exact List.mem_map_of_mem (f:=fun t:Wt=>(t.2.1,t.2.2.2)) ht
   obtain ⟨c,hc,e⟩:=List.mem_map.mp z
   have r:=zMq (Int.le_refl 0) hb c hc
   have e1:c.1 = t.2.1:=congrArg (fun u:Int × Int × Int=>u.1) e
   rw [e1] at r
   exact ⟨r.1,r.2,by rw [one t ht]; decide⟩
  rw [show (-1:Int) + 1 = 0 by decide,hb,Bool.true_and] at q
  refine ⟨_,rfl,_,rfl,(by show 2≤sizeLine; decide),fun d hd=>?_⟩
  have sd:Same G (upd G d (.tup [.int 0,.int 0])):=zAd hd _
  have ed:upd G d (.tup [.int 0,.int 0]) d = some (.tup [.int 0,.int 0]):=zAc
  generalize upd G d (.tup [.int 0,.int 0]) = G1 at sd ed ⊢
  refine ⟨l,W,d,ss,ws,0,0,rfl,sd.seq hl',ok'.same sd,SqL.of (sd _ _ eW),okw.same sd,.inl one,rg,SqT.of ed,fun G2 s2=>⟨_,rfl,?_⟩⟩
  rw [sm,sm]
  dsimp only
  rw [Int.zero_mul]
  simp only [zO9] at q
  cases hm:(decide (sumF ss (fAt 0) (cs.map (·.2)) 0 = 0) && decide (sumF ss (fAt 1) (cs.map (·.2)) 0 = 0)) with
  | false =>
   have z:=q G2 (sG.trans (sd.trans s2))
   rw [hm] at z
   exact iteT z
  | true =>
   refine iteF ?_
   rw [hm,Bool.true_and] at q
   have s12:=sd.trans s2
   refine ⟨_,rfl,_,rfl,l,W,2,ss,ws,rfl,s12.seq hl',ok'.same s12,SqL.of (s12 _ _ eW),okw.same s12,.inl one,by decide,by decide,rg,fun p x0 y0 G3 s3 hp ep bp po=>?_⟩
   rw [sm] at po
   obtain ⟨e3,e4⟩:=zGg rfl po
   rw [e3,e4] at ep
   refine ⟨0,1,rfl,by decide,by decide +kernel,fun p4 x y G4 s4 hp4 ep4 po=>?_⟩
   obtain ⟨e1,e2⟩:=zGg rfl po
   rw [e1,e2] at ep4
   exact ⟨p,p4,_,0,rfl,SqT.of (s4 _ _ ep),SqT.of ep4,q G4 (sG.trans (s12.trans (s3.trans s4)))⟩
def zFy (K:PySem.W.Frag):Sp:=fun vs H Q _=>∃ (l p:Addr) (ss:List Sd) (P:P3),vs = [.ref l,.ref p]∧SqL K H l (zAo ss)∧SdOk H ss∧SqT K H p [.int P.1,.int P.2.1,.int P.2.2]∧Q (.bl (decide (1≤P.2.2) && inWB ss P)) H
theorem zI2 (F:Fun K "good_place" "good_place" zDn f fd) (Z:Zs mg) (h_p_in_water:Has P w K mg base "in_water" 3 ["sides", "place"] (zDx K)):FnOk P w K mg base CX0 4 f fd ["sides", "place"] (zFy K):=by
 refine F.ok zJn (fun vs H Q E h=>?_) (fun cdv A outer s H vs Q E hr h=>?_)
 ·obtain ⟨l,p,ss,P,rfl,_⟩:=h
  rfl
 obtain ⟨l,p,ss,P,rfl,hl,ok,hp,q⟩:=h
 refine ⟨_,(zAi (zAq (zF4 (zCa op_ge (zAk zAg (pv 1) zAb (fun _ _=>rfl)) zAb (zAt _)) (zGo (zAh h_p_in_water (hr.mono (by decide)) rfl (zAa (pv 0) (zAa (pv 1) zAe))))))),?_⟩
 try dsimp only [L2.cxOf]
 refine ⟨_,rfl,p,_,_,.int P.2.2,rfl,rfl,.inr hp,rfl,_,_,rfl,rfl,_,rfl,?_⟩
 refine ifD (fun h1=>?_) (fun h1=>?_)
 ·rw [decide_eq_true h1,Bool.true_and] at q
  exact ⟨_,rfl,_,rfl,l,p,ss,P,rfl,hl,ok,.inr hp,q⟩
 ·rw [decide_eq_false h1] at q
  exact q
def zGr (K:PySem.W.Frag):Sp:=fun vs H Q _=>∃ (l d p:Addr) (ss:List Sd) (g:P3) (x y:Int),vs = [.ref l,.ref d,.ref p]∧SqL K H l (zAo ss)∧SdOk H ss∧ss.length≤900∧SqT K H d [.int g.1,.int g.2.1]∧g.1.natAbs≤10 ^ 18∧g.2.1.natAbs≤10 ^ 18∧SqT K H p [.int x,.int y] ∧
 ∀ (b:Bool) (H':Hp),Same H H'→(b = true↔0 < g.1 * x + g.2.1 * y∧wayB ss x y = true∧∃ z:P3,0 < z.2.2∧inW ss z)→Q (.bl b) H'
theorem zJ7 (F:Fun K "good_open" "good_open" zD6 f fd) (Z:Zs mg) (h_p_along:Has P w K mg base "along" 1 ["one", "other"] (zDd K)) (h_p_is_way:Has P w K mg base "is_way" 2 ["sides", "direction"] (zFc K)) (h_p_some_spot:Has P w K mg base "some_spot" 9 ["sides"] (zGl K)):FnOk P w K mg base CX0 10 f fd ["sides", "direction", "way"] (zGr K):=by
 refine F.ok zJ2 (fun vs H Q E h=>?_) (fun cdv A outer s H vs Q E hr h=>?_)
 ·obtain ⟨l,d,p,ss,g,x,y,rfl,_⟩:=h
  rfl
 obtain ⟨l,d,p,ss,g,x,y,rfl,hl,ok,hn,hd,b1,b2,hp,q⟩:=h
 refine ⟨_,(zAi (zAq (zF4 (zCa zHa (zAh h_p_along (hr.mono (by decide)) rfl (zAa (pv 1) (zAa (pv 2) zAe))) zAb (zAt _)) (zF4 (zAh h_p_is_way (hr.mono (by decide)) rfl (zAa (pv 0) (zAa (pv 2) zAe))) (zGo (zCa zHz (zAh h_p_some_spot (hr.mono (by decide)) rfl (zAa (pv 0) zAe)) zBp (zAt _))))))),?_⟩
 try dsimp only [L2.cxOf]
 refine ⟨_,rfl,_,rfl,d,p,_,_,g.1,g.2.1,x,y,rfl,.inr hd,.inr hp,rfl,rfl,rfl,rfl,b1,b2,_,_,rfl,rfl,_,rfl,?_⟩
 refine ifD (fun h1=>?_) (fun h1=>?_)
 ·refine ⟨_,rfl,_,rfl,l,p,ss,x,y,rfl,hl,ok,.inr hp,_,rfl,?_⟩
  cases hw:wayB ss x y with
  | true =>
   refine iteT ?_
   refine ⟨_,rfl,l,ss,rfl,hl,ok,hn,fun H1 s1 no=>?_,fun p1 P1 H1 s1 ap wp _=>?_⟩
   ·exact ⟨rfl,q _ H1 s1 ⟨(fun z=>nomatch z),fun ⟨_,_,z,zw,wz⟩=>absurd wz (no z zw)⟩⟩
   ·exact ⟨rfl,q _ H1 s1 ⟨fun _=>⟨h1,hw,P1,ap.2.1,wp⟩,fun _=>rfl⟩⟩
  | false =>
   refine iteF ?_
   exact q _ H (Same.refl _) ⟨(fun z=>nomatch z),fun ⟨_,z,_⟩=>by rw [hw] at z; cases z⟩
 ·exact q _ H (Same.refl _) ⟨(fun z=>nomatch z),fun ⟨z,_⟩=>absurd z h1⟩
def zHk (K:PySem.W.Frag):Sp:=fun vs H Q _=>∃ (l d p W:Addr) (ss:List Sd) (g P:P3) (ws:List Wt),vs = [.ref l,.ref d,.ref p,.ref W]∧SqL K H l (zAo ss)∧SdOk H ss∧SqT K H d [.int g.1,.int g.2.1]∧(g.1≠0∨g.2.1≠0)∧g.1.natAbs≤10 ^ 18∧g.2.1.natAbs≤10 ^ 18∧SqT K H p [.int P.1,.int P.2.1,.int P.2.2]∧P.2.2.natAbs≤10 ^ 200∧SqL K H W (zAp ws)∧WtAt H ws∧(∀ t∈ws,t.2.2.2.1.natAbs≤10 ^ 60∧t.2.2.2.2.natAbs≤10 ^ 60) ∧
 ∀ (b:Bool) (H':Hp),Same H H'→(b = true↔1≤P.2.2∧inWB ss P = true∧∃ N B,zEg ss g (wtN ws) = some (N,B)∧(g.1 * P.1 + g.2.1 * P.2.1) * B = N * P.2.2)→Q (.bl b) H'
theorem zK3 (F:Fun K "good_far" "good_far" zEp f fd) (Z:Zs mg) (h_p_shown:Has P w K mg base "shown" 8 ["sides", "weights", "direction"] (zKe K)) (h_p_part:Has P w K mg base "part" 4 ["top", "bottom"] (zC8 K)) (h_p_along:Has P w K mg base "along" 1 ["one", "other"] (zDd K)) (h_p_good_place:Has P w K mg base "good_place" 4 ["sides", "place"] (zFy K)):FnOk P w K mg base CX0 9 f fd ["sides", "direction", "place", "weights"] (zHk K):=by
 refine F.ok zK4 (fun vs H Q E h=>?_) (fun cdv A outer s H vs Q E hr h=>?_)
 ·obtain ⟨l,d,p,W,ss,g,P,ws,rfl,_⟩:=h
  rfl
 obtain ⟨l,d,p,W,ss,g,P,ws,rfl,hl,ok,hd,gz,b1,b2,hp,bw,hW,okw,wsz,q⟩:=h
 have hu:=hr.units0
 refine ⟨_,(zAf (zA9 (zCr (zB5 (zAh h_p_good_place (hr.mono (by decide)) rfl (zAa (pv 0) (zAa (pv 2) zAe))))) (zAi (zAq zE2)) zAv)
   (zAi (zAq (zCa (op_one (zU8 hu) (zN6 hu)) (zAh h_p_shown (hr.mono (by decide)) rfl (zAa (pv 0) (zAa (pv 3) (zAa (pv 1) zAe)))) (zAh h_p_part (hr.mono (by decide)) rfl (zAa (zAh h_p_along (hr.mono (by decide)) rfl (zAa (pv 1) (zAa (pv 2) zAe))) (zAa (zAk zAg (pv 2) zAb (fun _ _=>rfl)) zAe))) (zAt _))))),?_⟩
 try dsimp only [L2.cxOf]
 refine ⟨_,rfl,_,rfl,l,p,ss,P,rfl,hl,ok,hp,_,rfl,?_⟩
 cases hb:(decide (1≤P.2.2) && inWB ss P) with
 | false =>
  refine iteT ?_
  exact q _ H (Same.refl _) ⟨(fun z=>nomatch z),fun ⟨z1,z2,_⟩=>by rw [decide_eq_true z1,z2] at hb; cases hb⟩
 | true =>
  refine iteF ?_
  rw [Bool.and_eq_true] at hb
  have c1:=of_decide_eq_true hb.1
  refine ⟨_,rfl,_,rfl,_,rfl,l,W,d,ss,ws,g,rfl,hl,ok,hW,okw,wsz,hd,gz,fun H1 s1 no=>?_,fun p1 N B x1 y1 H1 s1 hp1 ep1 so bp po1=>?_⟩
  ·refine ⟨_,rfl,_,rfl,d,p,_,_,g.1,g.2.1,P.1,P.2.1,rfl,.inr (hd.same s1),.inr (hp.same s1),rfl,rfl,rfl,rfl,b1,b2,_,rfl,p,_,_,.int P.2.2,rfl,rfl,.inr (hp.same s1),rfl,_,_,rfl,by omega,Nat.lt_of_le_of_lt bw (by decide +kernel),fun p2 x y H2 s2 hp2 ep2 po=>?_⟩
   exact .inl ⟨p2,_,rfl,rfl,SqT.of ep2,q _ H2 (s1.trans s2) ⟨(fun z=>nomatch z),fun ⟨_,_,N,B,z,_⟩=>by rw [no] at z; cases z⟩⟩
  ·refine ⟨_,rfl,_,rfl,d,p,_,_,g.1,g.2.1,P.1,P.2.1,rfl,.inr (hd.same s1),.inr (hp.same s1),rfl,rfl,rfl,rfl,b1,b2,_,rfl,p,_,_,.int P.2.2,rfl,rfl,.inr (hp.same s1),rfl,_,_,rfl,by omega,Nat.lt_of_le_of_lt bw (by decide +kernel),fun p2 x y H2 s2 hp2 ep2 po=>?_⟩
   refine .inr ⟨p1,p2,[x1,y1],[x,y],rfl,rfl,SqT.of (s2 _ _ ep1),SqT.of ep2,q _ H2 (s1.trans s2) ⟨fun z=>?_,fun ⟨_,_,N',B',so',e⟩=>?_⟩⟩
   ·have z:=of_decide_eq_true z
    injection z with z1 z2
    injection z2 with z2 _
    refine ⟨c1,hb.2,N,B,so,?_⟩
    have e1:=po1.eq
    have e2:=po.eq
    rw [← z1,← z2] at e2
    have y0:=po1.pos
    refine Int.eq_of_mul_eq_mul_left (show y1≠0 by omega) ?_
    grind
   ·rw [so] at so'
    cases so'
    have e1:=po1.eq
    have e2:=po.eq
    have u:=zL3 (p:=x) (q:=y) (p':=x1) (q':=y1) (by
     refine Int.eq_of_mul_eq_mul_left (show B * P.2.2≠0 from Int.mul_ne_zero (by omega) (by omega)) ?_
     grind) po.pos po1.pos po.low po1.low
    exact decide_eq_true (by rw [u.1,u.2])
def zF9 (K:PySem.W.Frag):Sp:=fun vs H Q _=>∃ (l d t:Addr) (ss:List Sd) (g:P3) (pp:Pp),vs = [.ref l,.ref d,.ref t]∧SqL K H l (zAo ss)∧SdOk H ss∧ss.length≤900∧SqT K H d [.int g.1,.int g.2.1]∧(g.1≠0∨g.2.1≠0)∧g.1.natAbs≤10 ^ 18∧g.2.1.natAbs≤10 ^ 18∧PpAt H t pp∧PpSz 900 (10 ^ 60) (10 ^ 60) pp ∧
 ∀ (b:Bool) (H':Hp),Same H H'→(b = true↔zNx ss g pp)→Q (.bl b) H'
theorem zJd (F:Fun K "good_reach" "good_reach" zDk f fd) (Z:Zs mg) (h_p_good_far:Has P w K mg base "good_far" 9 ["sides", "direction", "place", "weights"] (zHk K)) (h_p_good_open:Has P w K mg base "good_open" 10 ["sides", "direction", "way"] (zGr K)) (h_p_good_clash:Has P w K mg base "good_clash" 8 ["sides", "paper"] (zFw K)):FnOk P w K mg base CX0 11 f fd ["sides", "direction", "paper"] (zF9 K):=by
 refine F.ok zJy (fun vs H Q E h=>?_) (fun cdv A outer s H vs Q E hr h=>?_)
 ·obtain ⟨l,d,t,ss,g,pp,rfl,_⟩:=h
  rfl
 obtain ⟨l,d,t,ss,g,pp,rfl,hl,ok,hn,hd,gz,b1,b2,hp,hz,q⟩:=h
 have hu:=hr.units0
 refine ⟨_,(zAf (zA9 (zAs (zN6 hu) (pv 1) (zAz (zAa zAb (zAa zAb zAe))) (zAt _)) (zAi (zAq zE2)) zAv)
   (zAf (zA9 (zAs zBu (zAk zAg (pv 2) zAb (fun _ _=>rfl)) zCu (zAt _)) (zAi (zAq (zAh h_p_good_clash (hr.mono (by decide)) rfl (zAa (pv 0) (zAa (zAk zAg (pv 2) zAb (fun _ _=>rfl)) zAe))))) zAv)
   (zAf (zA9 (zAs zBu (zAk zAg (pv 2) zAb (fun _ _=>rfl)) zCu (zAt _)) (zAi (zAq (zAh h_p_good_open (hr.mono (by decide)) rfl (zAa (pv 0) (zAa (pv 1) (zAa (zAk zAg (pv 2) zAb (fun _ _=>rfl)) zAe)))))) zAv)
   (zAi (zAq (zAh h_p_good_far (hr.mono (by decide)) rfl (zAa (pv 0) (zAa (pv 1) (zAa (zAk zAg (pv 2) zAb (fun _ _=>rfl)) (zAa (zAk zAg (pv 2) zAb (fun _ _=>rfl)) zAe)))))))))),?_⟩
 try dsimp only [L2.cxOf]
 refine ⟨_,rfl,(by show 2≤sizeLine; decide),fun z hz0=>?_⟩
 have sz:=zAd hz0 (.tup [.int 0,.int 0])
 have ez:upd H z (.tup [.int 0,.int 0]) z = some (.tup [.int 0,.int 0]):=zAc
 generalize upd H z (.tup [.int 0,.int 0]) = H1 at sz ez ⊢
 refine ⟨d,z,[g.1,g.2.1],[0,0],rfl,rfl,hd.same sz,SqT.of ez,_,rfl,?_⟩
 rw [decide_eq_false (show ¬ [g.1,g.2.1] = [0,0] from fun e=>by injection e with e1 e2; injection e2 with e2 _; omega)]
 refine iteF ?_
 have hp:=hp.same sz
 cases pp with
 | no D cs =>
  obtain ⟨e,eD,okc⟩:=hp
  have n9:cs.length≤900:=hz
  refine ⟨_,rfl,t,_,_,_,rfl,rfl,.inr (SqT.of e),rfl,rfl,_,rfl,?_⟩
  refine iteT ?_
  refine ⟨_,rfl,_,rfl,t,_,_,.ref D,rfl,rfl,.inr (SqT.of e),rfl,l,D,ss,cs,rfl,sz.seq hl,ok.same sz,SqL.of eD,okc,n9,fun H2 s2=>?_⟩
  exact q _ H2 (sz.trans s2) Iff.rfl
 | op p x y =>
  obtain ⟨e,ep⟩:=hp
  refine ⟨_,rfl,t,_,_,_,rfl,rfl,.inr (SqT.of e),rfl,rfl,_,rfl,?_⟩
  refine iteF ?_
  refine ⟨_,rfl,t,_,_,_,rfl,rfl,.inr (SqT.of e),rfl,rfl,_,rfl,?_⟩
  refine iteT ?_
  refine ⟨_,rfl,_,rfl,_,rfl,t,_,_,.ref p,rfl,rfl,.inr (SqT.of e),rfl,l,d,p,ss,g,x,y,rfl,sz.seq hl,ok.same sz,hn,hd.same sz,b1,b2,SqT.of ep,fun b H2 s2 hb=>?_⟩
  exact q b H2 (sz.trans s2) hb
 | fa p D P ws =>
  obtain ⟨e,ep,eD,okw⟩:=hp
  obtain ⟨_,_,bw,_,wsz⟩:=hz
  have bw:=Nat.le_trans bw (show 10 ^ 60≤10 ^ 200 by decide)
  refine ⟨_,rfl,t,_,_,_,rfl,rfl,.inr (SqT.of e),rfl,rfl,_,rfl,?_⟩
  refine iteF ?_
  refine ⟨_,rfl,t,_,_,_,rfl,rfl,.inr (SqT.of e),rfl,rfl,_,rfl,?_⟩
  refine iteF ?_
  refine ⟨_,rfl,_,rfl,_,rfl,t,_,_,.ref p,rfl,rfl,.inr (SqT.of e),rfl,_,rfl,t,_,_,.ref D,rfl,rfl,.inr (SqT.of e),rfl,l,d,p,D,ss,g,P,ws,rfl,sz.seq hl,ok.same sz,hd.same sz,gz,b1,b2,SqT.of ep,bw,SqL.of eD,okw,wsz,fun b H2 s2 hb=>?_⟩
  exact q b H2 (sz.trans s2) hb
theorem zDe (ws vs:List Wt):zAp (ws ++ vs) = zAp ws ++ zAp vs:=by simp [zAp]
theorem zPl (ws:List Wt) (j:Nat) (t:Wt):(zAp ws).set j (.ref t.1) = zAp (ws.set j t):=by
 simp [zAp,List.map_set]
theorem zRr {ws:List Wt} {i:Nat} {k:Int} (e:k = i) (h:i < ws.length):∃ t,t∈ws∧atI (zAp ws) k = some (.ref t.1):=by
 refine ⟨ws[i],List.getElem_mem h,?_⟩
 rw [e]
 exact zK0 (by rw [List.getElem?_map,List.getElem?_map,List.getElem?_eq_getElem h] <;> rfl)
theorem zM6 (ws:List Wt) (lo hi:Option Int):∃ qs:List Wt,cutV (zAp ws) lo hi = zAp qs∧(∀ t∈qs,t∈ws)∧qs.length≤ws.length:=by
 refine ⟨(ws.drop (HT.sIx (zAp ws).length 0 lo)).take (HT.sIx (zAp ws).length (zAp ws).length hi - HT.sIx (zAp ws).length 0 lo),?_,fun t ht=>List.mem_of_mem_drop (List.mem_of_mem_take ht),?_⟩
 ·show ((zAp ws).drop _).take _ = _
  simp only [zAp,List.map_drop,List.map_take]
 ·rw [List.length_take,List.length_drop]
  omega
theorem zRc:∀ {ys:List V} {ws:List Wt},(∀ y∈ys,y∈zAp ws)→∃ qs:List Wt,ys = zAp qs∧∀ t∈qs,t∈ws
 | [],_,_=>⟨[],rfl,fun t ht=>nomatch ht⟩
 | y :: ys,ws,h=>by
  obtain ⟨qs,e,g⟩:=zRc (ys:=ys) (ws:=ws) fun z hz=>h z (List.mem_cons_of_mem _ hz)
  have hy:=h y (List.mem_cons_self ..)
  rw [zAp,List.map_map] at hy
  obtain ⟨t,ht,et⟩:=List.mem_map.mp hy
  refine ⟨t :: qs,?_,fun z hz=>?_⟩
  ·rw [e,← et]
   rfl
  ·rcases List.mem_cons.mp hz with rfl | hz
   ·exact ht
   ·exact g z hz
def WtB (m:Nat) (ws:List Wt):Prop:=∀ t∈ws,t.2.2.2.1.natAbs≤m∧t.2.2.2.2.natAbs≤m
def zCs (ws vs:List Wt):Prop:=∀ m,10≤m→WtB m ws→WtB (10 * m) vs
theorem zCs.of {ws vs:List Wt} (h:∀ t∈vs,t∈ws∨∀ m,10≤m→WtB m ws→t.2.2.2.1.natAbs≤10 * m∧t.2.2.2.2.natAbs≤10 * m):zCs ws vs:=fun m m10 b t ht=>by
 rcases h t ht with h | h
 ·have:=b t h
  omega
 ·exact h m m10 b
structure WtSt (H0:Hp) (D:Addr) (ws:List Wt) (H:Hp):Prop where
 same:Same H0 H
 new:H0 D = none
 at':H D = some (.lst (zAp ws))
 all:WtAt H ws
theorem WtSt.put {H0 H H2:Hp} {D p q:Addr} {ws:List Wt} {n a b:Int} (P:WtSt H0 D ws H) (s:Same H H2) (eq':H2 q = some (.tup [.int a,.int b])) (ep:H2 p = some (.tup [.int n,.ref q])) (j:Nat) :
  WtSt H0 D (ws.set j (p,n,q,a,b)) (upd H2 D (.lst ((zAp ws).set j (.ref p)))):=by
 have eD:=s _ _ P.at'
 have keep:∀ (b:Addr) (ys:List V),H2 b = some (.tup ys)→upd H2 D (.lst ((zAp ws).set j (.ref p))) b = some (.tup ys):=fun b ys e=>by
  rw [zA5 (zHh e eD (by intro z; cases z))]
  exact e
 refine ⟨(P.same.trans s).putNew P.new,P.new,by rw [zAc,← zPl],fun t ht=>?_⟩
 rcases List.mem_or_eq_of_mem_set ht with h | h
 ·obtain ⟨h1,h2⟩:=P.all t h
  exact ⟨keep _ _ (s _ _ h1),keep _ _ (s _ _ h2)⟩
 ·subst h
  exact ⟨keep _ _ ep,keep _ _ eq'⟩
theorem zJa {ws:List Wt} {j:Nat} {t:Wt} (h:∀ m,10≤m→WtB m ws→t.2.2.2.1.natAbs≤10 * m∧t.2.2.2.2.natAbs≤10 * m):zCs ws (ws.set j t):=zCs.of fun u hu=>by
 rcases List.mem_or_eq_of_mem_set hu with h' | h'
 ·exact .inl h'
 ·rw [h']
  exact .inr h
theorem zEh {x m:Nat} (h:x≤m):x≤10 * m:=by omega
theorem zQy {x:Int} {m:Nat} (h:x.natAbs≤m):(-x).natAbs≤10 * m:=by omega
theorem ten_e {x e:Int} {m:Nat} (h:x.natAbs≤m) (h10:10≤m) (e0:0≤e) (e1:e < 2):(x + 1 + e).natAbs≤10 * m:=by omega
theorem cut0 {G R:Prop} (h1:R→G) (h2:R):G:=h1 h2
def zEz (K:PySem.W.Frag):Sp:=fun vs H Q _=>∃ (a l:Addr) (rows:List Int) (ws:List Wt),vs = [.ref a,.ref l]∧SqL K H a (rows.map V.int)∧4≤rows.length∧(∀ x∈rows,0≤x∧x < 1000003)∧H l = some (.lst (zAp ws))∧WtAt H ws∧ws.length≤100 ∧
 ∀ (l':Addr) (vs:List Wt) (H':Hp),Same H H'→H' l' = some (.lst (zAp vs))→WtAt H' vs→vs.length≤2 * ws.length + 1→zCs ws vs→Q (.ref l') H'
theorem zH6 (F:Fun K "_law_bent_weights" "_law_bent_weights" zC0 f fd) (Z:Zs mg)  : FnOk P w K mg base CX0 1 f fd ["_law_d", "_law_weights"] (zEz K):=by
 refine F.ok zBb (fun vs H Q E h=>?_) (fun cdv A outer s H vs Q E hr h=>?_)
 ·obtain ⟨a,l,rows,ws,rfl,_⟩:=h
  rfl
 obtain ⟨a,l,rows,ws,rfl,hS,hl,bd,el,pk,hp1,q⟩:=h
 refine ⟨_,(zAf (zAy (i:=2) zBb.nd rfl (Or.inl rfl) (zCj zBz rfl Z.list zC6 (zAa (pv 1) zAe)))
   (zAf (zAy (i:=3) zBb.nd rfl (Or.inl rfl) (zAl zA7 (zAk zAg (pv 0) zAb (fun _ _=>rfl)) (zAl zBc (zAu zA1 rfl Z.len zCo (zAa (pv 2) zAe)) zAb)))
   (zAf (zAy (i:=4) zBb.nd rfl (Or.inl rfl) (zAl zA7 (zAk zAg (pv 0) zAb (fun _ _=>rfl)) zAb))
   (zAf (zA9 (PW.pt (zEt (zAs zBu (pv 4) zAb (zAt _)) (zDv (zAs zBu (pv 3) (zAu zA1 rfl Z.len zCo (zAa (pv 2) zAe)) (zAt _))))) (zAi (zAq (zAl zFr (zAl zFr (zBs zCt (pv 2) zB3 (zB8 (pv 3))) (zCb (zAa (zAz (zAa (zAl zCe (zAl zA7 (zAk zAg (pv 0) zAb (fun _ _=>rfl)) zAb) zAb) (zAa (zAz (zAa (zAl zCe (zAl zA7 (zAk zAg (pv 0) zAb (fun _ _=>rfl)) zAb) zAb) (zAa (zAl zA7 (zAl zCx (zAk zAg (pv 0) zAb (fun _ _=>rfl)) zAb) zAb) zAe))) zAe))) zAe))) (zBs zCt (pv 2) (zB8 (pv 3)) zB3)))) zAv)
   (zAf (zEc (zAk zAg (pv 2) (pv 3) (fun _ _=>rfl)) (zCk rfl (zAw (zAr (i:=5) zBb.nd rfl (Or.inl rfl)) (zAw (zCk rfl (zAw (zAr (i:=6) zBb.nd rfl (Or.inl rfl)) (zAw (zAr (i:=7) zBb.nd rfl (Or.inl rfl)) zBk))) zBk))))
   (zAf (zA9 (zAs zBu (pv 4) zAb (zAt _)) (zAi (zAq (zAl zFr (zBs zCt (pv 2) zB3 (zB8 (pv 3))) (zBs zCt (pv 2) (zB8 (zAl zBc (pv 3) zAb)) zB3)))) zAv)
   (zAf (zA9 (zAs zBu (pv 4) zAb (zAt _)) (zAi (zEc (zAz (zAa (zAl zBc (pv 5) (zAk zAg (zCb (zAa zAb (zAa (zEi zCp zAb) (zAa (zAl zOc zAb zAb) zAe)))) (zAl zA7 (zAk zAg (pv 0) zAb (fun _ _=>rfl)) zAb) (fun _ _=>rfl))) (zAa (zAz (zAa (pv 6) (zAa (pv 7) zAe))) zAe))) (zKq (pv 2) (pv 3) zGf))) zAv)
   (zAf (zA9 (zAs zBu (pv 4) zAb (zAt _)) (zAi (zEc (zAz (zAa (pv 5) (zAa (zAz (zAa (zAl zA0 (pv 6) (zAl zBc zAb (zAl zA7 (zAk zAg (pv 0) zAb (fun _ _=>rfl)) zAb))) (zAa (zAl zA0 (pv 7) (zAl zBc zAb (zAl zA7 (zAk zAg (pv 0) zAb (fun _ _=>rfl)) zAb))) zAe))) zAe))) (zKq (pv 2) (pv 3) zGf))) zAv)
   (zAf (zA9 (zAs zBu (pv 4) zAb (zAt _)) (zAi (zEc (zAz (zAa (pv 5) (zAa (zAz (zAa (zEi zCp (pv 6)) (zAa (zEi zCp (pv 7)) zAe))) zAe))) (zKq (pv 2) (pv 3) zGf))) zAv)
   (zAf (zA9 (zAs zBu (pv 4) zAb (zAt _)) (zAi (zEc (zAz (zAa (pv 5) (zAa (zAz (zAa (pv 6) (zAa (zAl zBc (zAl zBc (pv 7) zAb) (zAl zA7 (zAk zAg (pv 0) zAb (fun _ _=>rfl)) zAb)) zAe))) zAe))) (zKq (pv 2) (pv 3) zGf))) zAv)
   (zAf (zA9 (zAs zBu (pv 4) zAb (zAt _)) (zAi (zAy (i:=2) zBb.nd rfl (Or.inl rfl) (zRu (pv 2) zB3 zB3 (zB8 (zEi zCp zAb))))) zAv)
   (zAf (zA9 (zAs zBu (pv 4) zAb (zAt _)) (zAi (zEc (zAz (zAa (pv 5) (zAa (zAz (zAa (zAl zBc (zAl zBc (pv 6) zAb) (zAl zA7 (zAk zAg (pv 0) zAb (fun _ _=>rfl)) zAb)) (zAa (pv 7) zAe))) zAe))) (zKq (pv 2) (pv 3) zGf))) zAv)
   (zAf (zA9 (zAs zBu (pv 4) zAb (zAt _)) (zAi (zAy (i:=2) zBb.nd rfl (Or.inl rfl) (zAl zFr (zAl zFr (zBs zCt (pv 2) zB3 (zB8 (pv 3))) (zCb (zAa (zAk zAg (pv 2) (pv 3) (fun _ _=>rfl)) zAe))) (zBs zCt (pv 2) (zB8 (pv 3)) zB3)))) zAv)
   (zAi (zAq (pv 2)))))))))))))))),?_⟩
 try dsimp only [L2.cxOf]
 obtain ⟨v0,a0,_⟩:=zBw bd (k:=0) (by decide) (by omega)
 obtain ⟨v1,a1,_⟩:=zBw bd (k:=1) (by decide) (by omega)
 obtain ⟨v2,a2,c20,_⟩:=zBw bd (k:=2) (by decide) (by omega)
 obtain ⟨v3,a3,c30,_⟩:=zBw bd (k:=3) (by decide) (by omega)
 have nr:=zA2 ws
 have e20:=Int.emod_nonneg v2 (show (2:Int)≠0 by decide)
 have e21:=Int.emod_lt_of_pos v2 (show (0:Int) < 2 by decide)
 refine ⟨_,rfl,l,_,rfl,.inl (SqL.of el),fun R hR=>?_⟩
 have sR:Same H (upd H R (.lst (zAp ws))):=zAd hR _
 have eR:upd H R (.lst (zAp ws)) R = some (.lst (zAp ws)):=zAc
 generalize upd H R (.lst (zAp ws)) = H0 at sR eR ⊢
 have sq:Sq K H0 a (rows.map V.int):=.inl (sR.seq hS)
 have pk0:=pk.same sR
 refine ⟨_,rfl,a,_,_,_,rfl,rfl,sq,a1,_,rfl,R,_,rfl,.inl (SqL.of eR),_,_,rfl,rfl,_,_,rfl,rfl,(by rw [nr]; omega),?_⟩
 refine ⟨_,rfl,a,_,_,_,rfl,rfl,sq,a0,_,_,rfl,rfl,(by show (0:Int) < 9; decide),?_⟩
 have ke:∃ k:Nat,v1 % (((zAp ws).length:Int) + 1) = (k:Int)∧k≤ws.length:=by
  rw [nr]
  have z0:=Int.emod_nonneg v1 (show ((ws.length:Int) + 1)≠0 by omega)
  have z1:=Int.emod_lt_of_pos v1 (show 0 < ((ws.length:Int) + 1) by omega)
  exact ⟨(v1 % ((ws.length:Int) + 1)).toNat,by omega,by omega⟩
 obtain ⟨k,ek,hk⟩:=ke
 have w0:=Int.emod_nonneg v0 (show (9:Int)≠0 by decide)
 have w1:=Int.emod_lt_of_pos v0 (show (0:Int) < 9 by decide)
 generalize v0 % 9 = way at w0 w1 ⊢
 generalize v1 % (((zAp ws).length:Int) + 1) = at1 at ek ⊢
 obtain ⟨q1,cq1,mq1,nq1⟩:=zM6 ws none (some at1)
 obtain ⟨q2,cq2,mq2,nq2⟩:=zM6 ws (some (at1 + 1)) none
 obtain ⟨q3,cq3,mq3,nq3⟩:=zM6 ws (some at1) none
 apply cut0
 ·intro main
  refine ⟨_,rfl,rfl,_,rfl,?_⟩
  refine ifE (fun _=>?_) (fun hw=>?_)
  ·refine iteT ?_
   exact main
  refine ⟨_,rfl,_,rfl,R,_,rfl,.inl (SqL.of eR),rfl,_,rfl,?_⟩
  refine ifE (fun _=>main) (fun hne=>?_)
  have hk':k < ws.length:=by rw [ek,nr] at hne; omega
  obtain ⟨t,mt,at'⟩:=zRr (ws:=ws) (i:=k) (k:=at1) ek hk'
  have et:=pk0 t mt
  have PR:WtSt H R ws H0:=⟨sR,hR,eR,pk0⟩
  have ixn:ixN (zAp ws).length at1 = some k:=by
   unfold ixN
   rw [ek,nr,if_pos (show (0:Int)≤(k:Int) by omega),if_pos (show (k:Int) < (ws.length:Int) by omega),Int.toNat_natCast]
  refine ⟨_,rfl,_,rfl,R,_,_,_,rfl,rfl,.inl (SqL.of eR),at',t.1,_,rfl,SqT.of et.1,rfl,.int t.2.1,_,rfl,.ref t.2.2.1,_,rfl,⟨t.2.2.1,_,rfl,SqT.of et.2,rfl,.int t.2.2.2.1,_,rfl,.int t.2.2.2.2,_,rfl,rfl,rfl,?_⟩⟩
  have cc:way = 1∨way = 2∨way = 3∨way = 4∨way = 5∨way = 6∨way = 7∨way = 8:=by omega
  rcases cc with rfl | rfl | rfl | rfl | rfl | rfl | rfl | rfl
  ·skip
   refine ⟨_,rfl,rfl,_,rfl,?_⟩
   refine ifE (fun _=>?_) (fun z=>absurd rfl z)
   refine ⟨_,rfl,_,rfl,_,rfl,R,_,rfl,SqL.of eR,fun f1 hf1=>?_⟩
   rw [cq1]
   have sf1:=zAd hf1 (.lst (zAp q1))
   have ef1:upd H0 f1 (.lst (zAp q1)) f1 = some (.lst (zAp q1)):=zAc
   generalize upd H0 f1 (.lst (zAp q1)) = G1 at sf1 ef1 ⊢
   refine ⟨_,rfl,_,rfl,_,_,rfl,rfl,_,rfl,R,_,rfl,SqL.of (sf1 _ _ eR),fun f2 hf2=>?_⟩
   rw [cq2]
   have sf2:=zAd hf2 (.lst (zAp q2))
   refine ⟨f1,f2,_,_,rfl,rfl,sf2 _ _ ef1,zAc,small (by rw [zA2,zA2]; omega),fun f3 hf3=>?_⟩
   have sf3:=zAd hf3 (.lst (zAp q1 ++ zAp q2))
   have sA:=(sf1.trans sf2).trans sf3
   refine q f3 (q1 ++ q2) _ (sR.trans sA) (by rw [zAc,zDe]) (fun u hu=>?_) (by rw [List.length_append]; omega) (zCs.of fun u hu=>?_)
   ·rcases List.mem_append.mp hu with hu | hu
    ·exact pk0.same sA u (mq1 u hu)
    ·exact pk0.same sA u (mq2 u hu)
   ·rcases List.mem_append.mp hu with hu | hu
    ·exact .inl (mq1 u hu)
    ·exact .inl (mq2 u hu)
  ·skip
   refine ⟨_,rfl,rfl,_,rfl,?_⟩
   refine ifE (fun z=>absurd z (by decide)) (fun _=>?_)
   refine ⟨_,rfl,rfl,_,rfl,?_⟩
   refine ifE (fun _=>?_) (fun z=>absurd rfl z)
   obtain ⟨x3,ax3⟩:=by3 1 (-1) (10 ^ 20) v2
   refine ⟨_,rfl,_,rfl,_,_,rfl,rfl,⟨by decide,by decide,by decide⟩,(by show 3≤sizeLine; decide),fun B2 hB2=>?_⟩
   have sB:=zAd hB2 (.lst [.int 1,.int (-1),.int (10 ^ 20)])
   refine ⟨_,rfl,a,_,_,_,rfl,rfl,sq.same sB,a2,_,_,rfl,rfl,(by show (0:Int) < 3; decide),B2,_,_,.int x3,rfl,rfl,.inl (SqL.of zAc),ax3,_,_,rfl,rfl,_,rfl,_,rfl,(by show 2≤sizeLine; decide),fun p1 hp1=>⟨(by show 2≤sizeLine; decide),fun p2 hp2=>?_⟩⟩
   have sp1:=zAd hp1 (.tup [.int t.2.2.2.1,.int t.2.2.2.2])
   have sp2:=zAd hp2 (.tup [.int (t.2.1 + x3),.ref p1])
   have P5:=PR.put ((sB.trans sp1).trans sp2) (sp2 _ _ (zAc:upd _ p1 (.tup [.int t.2.2.2.1,.int t.2.2.2.2]) p1 = _)) (zAc:upd _ p2 (.tup [.int (t.2.1 + x3),.ref p1]) p2 = _) k
   refine ⟨_,rfl,_,rfl,R,_,_,k,rfl,rfl,((sB.trans sp1).trans sp2) _ _ eR,ixn,?_⟩
   have tA:zCs ws (ws.set k (p2,(t.2.1 + x3),p1,t.2.2.2.1,t.2.2.2.2)):=zJa fun m m10 b=>by
    have z:=b t mt
    exact ⟨zEh z.1,zEh z.2⟩
   have nA:(ws.set k (p2,(t.2.1 + x3),p1,t.2.2.2.1,t.2.2.2.2)).length≤2 * ws.length + 1:=by rw [List.length_set]; omega
   generalize upd (upd (upd (upd H0 B2 (.lst [.int 1,.int (-1),.int (10 ^ 20)])) p1 (.tup [.int t.2.2.2.1,.int t.2.2.2.2])) p2 (.tup [.int (t.2.1 + x3),.ref p1])) R (.lst ((zAp ws).set k (.ref p2))) = G5 at P5 ⊢
   generalize ws.set k (p2,(t.2.1 + x3),p1,t.2.2.2.1,t.2.2.2.2) = w5 at P5 tA nA
   refine ⟨_,rfl,rfl,_,rfl,?_⟩
   refine ifE (fun z=>absurd z (by decide)) (fun _=>?_)
   refine ⟨_,rfl,rfl,_,rfl,?_⟩
   refine ifE (fun z=>absurd z (by decide)) (fun _=>?_)
   refine ⟨_,rfl,rfl,_,rfl,?_⟩
   refine ifE (fun z=>absurd z (by decide)) (fun _=>?_)
   refine ⟨_,rfl,rfl,_,rfl,?_⟩
   refine ifE (fun z=>absurd z (by decide)) (fun _=>?_)
   refine ⟨_,rfl,rfl,_,rfl,?_⟩
   refine ifE (fun z=>absurd z (by decide)) (fun _=>?_)
   refine ⟨_,rfl,rfl,_,rfl,?_⟩
   refine ifE (fun z=>absurd z (by decide)) (fun _=>?_)
   exact ⟨_,rfl,q R _ _ P5.same P5.at' P5.all nA tA⟩
  ·skip
   refine ⟨_,rfl,rfl,_,rfl,?_⟩
   refine ifE (fun z=>absurd z (by decide)) (fun _=>?_)
   refine ⟨_,rfl,rfl,_,rfl,?_⟩
   refine ifE (fun z=>absurd z (by decide)) (fun _=>?_)
   refine ⟨_,rfl,rfl,_,rfl,?_⟩
   refine ifE (fun _=>?_) (fun z=>absurd rfl z)
   have b9:∀ j:Int,CMul j (1 + v2 % 9):=fun j=>.inr ⟨by omega,by omega⟩
   refine ⟨_,rfl,_,rfl,_,rfl,a,_,_,_,rfl,rfl,sq,a2,_,_,rfl,rfl,(by show (0:Int) < 9; decide),_,_,rfl,rfl,_,_,rfl,rfl,b9 _,_,rfl,_,rfl,a,_,_,_,rfl,rfl,sq,a2,_,_,rfl,rfl,(by show (0:Int) < 9; decide),_,_,rfl,rfl,_,_,rfl,rfl,b9 _,(by show 2≤sizeLine; decide),fun p1 hp1=>⟨(by show 2≤sizeLine; decide),fun p2 hp2=>?_⟩⟩
   have f9:(1 + v2 % 9).natAbs≤9:=by omega
   have sp1:=zAd hp1 (.tup [.int (t.2.2.2.1 * (1 + v2 % 9)),.int (t.2.2.2.2 * (1 + v2 % 9))])
   have sp2:=zAd hp2 (.tup [.int t.2.1,.ref p1])
   have P5:=PR.put (sp1.trans sp2) (sp2 _ _ (zAc:upd _ p1 (.tup [.int (t.2.2.2.1 * (1 + v2 % 9)),.int (t.2.2.2.2 * (1 + v2 % 9))]) p1 = _)) (zAc:upd _ p2 (.tup [.int t.2.1,.ref p1]) p2 = _) k
   refine ⟨_,rfl,_,rfl,R,_,_,k,rfl,rfl,(sp1.trans sp2) _ _ eR,ixn,?_⟩
   have tA:zCs ws (ws.set k (p2,t.2.1,p1,(t.2.2.2.1 * (1 + v2 % 9)),(t.2.2.2.2 * (1 + v2 % 9)))):=zJa fun m m10 b=>by
    have z:=b t mt
    exact ⟨Nat.le_trans (zAj _ _ z.1 f9) (by omega),Nat.le_trans (zAj _ _ z.2 f9) (by omega)⟩
   have nA:(ws.set k (p2,t.2.1,p1,(t.2.2.2.1 * (1 + v2 % 9)),(t.2.2.2.2 * (1 + v2 % 9)))).length≤2 * ws.length + 1:=by rw [List.length_set]; omega
   generalize upd (upd (upd H0 p1 (.tup [.int (t.2.2.2.1 * (1 + v2 % 9)),.int (t.2.2.2.2 * (1 + v2 % 9))])) p2 (.tup [.int t.2.1,.ref p1])) R (.lst ((zAp ws).set k (.ref p2))) = G5 at P5 ⊢
   generalize ws.set k (p2,t.2.1,p1,(t.2.2.2.1 * (1 + v2 % 9)),(t.2.2.2.2 * (1 + v2 % 9))) = w5 at P5 tA nA
   refine ⟨_,rfl,rfl,_,rfl,?_⟩
   refine ifE (fun z=>absurd z (by decide)) (fun _=>?_)
   refine ⟨_,rfl,rfl,_,rfl,?_⟩
   refine ifE (fun z=>absurd z (by decide)) (fun _=>?_)
   refine ⟨_,rfl,rfl,_,rfl,?_⟩
   refine ifE (fun z=>absurd z (by decide)) (fun _=>?_)
   refine ⟨_,rfl,rfl,_,rfl,?_⟩
   refine ifE (fun z=>absurd z (by decide)) (fun _=>?_)
   refine ⟨_,rfl,rfl,_,rfl,?_⟩
   refine ifE (fun z=>absurd z (by decide)) (fun _=>?_)
   exact ⟨_,rfl,q R _ _ P5.same P5.at' P5.all nA tA⟩
  ·skip
   refine ⟨_,rfl,rfl,_,rfl,?_⟩
   refine ifE (fun z=>absurd z (by decide)) (fun _=>?_)
   refine ⟨_,rfl,rfl,_,rfl,?_⟩
   refine ifE (fun z=>absurd z (by decide)) (fun _=>?_)
   refine ⟨_,rfl,rfl,_,rfl,?_⟩
   refine ifE (fun z=>absurd z (by decide)) (fun _=>?_)
   refine ⟨_,rfl,rfl,_,rfl,?_⟩
   refine ifE (fun _=>?_) (fun z=>absurd rfl z)
   refine ⟨_,rfl,_,rfl,_,rfl,_,rfl,_,rfl,(by show 2≤sizeLine; decide),fun p1 hp1=>⟨(by show 2≤sizeLine; decide),fun p2 hp2=>?_⟩⟩
   have sp1:=zAd hp1 (.tup [.int (-t.2.2.2.1),.int (-t.2.2.2.2)])
   have sp2:=zAd hp2 (.tup [.int t.2.1,.ref p1])
   have P5:=PR.put (sp1.trans sp2) (sp2 _ _ (zAc:upd _ p1 (.tup [.int (-t.2.2.2.1),.int (-t.2.2.2.2)]) p1 = _)) (zAc:upd _ p2 (.tup [.int t.2.1,.ref p1]) p2 = _) k
   refine ⟨_,rfl,_,rfl,R,_,_,k,rfl,rfl,(sp1.trans sp2) _ _ eR,ixn,?_⟩
   have tA:zCs ws (ws.set k (p2,t.2.1,p1,(-t.2.2.2.1),(-t.2.2.2.2))):=zJa fun m m10 b=>by
    have z:=b t mt
    exact ⟨zQy z.1,zQy z.2⟩
   have nA:(ws.set k (p2,t.2.1,p1,(-t.2.2.2.1),(-t.2.2.2.2))).length≤2 * ws.length + 1:=by rw [List.length_set]; omega
   generalize upd (upd (upd H0 p1 (.tup [.int (-t.2.2.2.1),.int (-t.2.2.2.2)])) p2 (.tup [.int t.2.1,.ref p1])) R (.lst ((zAp ws).set k (.ref p2))) = G5 at P5 ⊢
   generalize ws.set k (p2,t.2.1,p1,(-t.2.2.2.1),(-t.2.2.2.2)) = w5 at P5 tA nA
   refine ⟨_,rfl,rfl,_,rfl,?_⟩
   refine ifE (fun z=>absurd z (by decide)) (fun _=>?_)
   refine ⟨_,rfl,rfl,_,rfl,?_⟩
   refine ifE (fun z=>absurd z (by decide)) (fun _=>?_)
   refine ⟨_,rfl,rfl,_,rfl,?_⟩
   refine ifE (fun z=>absurd z (by decide)) (fun _=>?_)
   refine ⟨_,rfl,rfl,_,rfl,?_⟩
   refine ifE (fun z=>absurd z (by decide)) (fun _=>?_)
   exact ⟨_,rfl,q R _ _ P5.same P5.at' P5.all nA tA⟩
  ·skip
   refine ⟨_,rfl,rfl,_,rfl,?_⟩
   refine ifE (fun z=>absurd z (by decide)) (fun _=>?_)
   refine ⟨_,rfl,rfl,_,rfl,?_⟩
   refine ifE (fun z=>absurd z (by decide)) (fun _=>?_)
   refine ⟨_,rfl,rfl,_,rfl,?_⟩
   refine ifE (fun z=>absurd z (by decide)) (fun _=>?_)
   refine ⟨_,rfl,rfl,_,rfl,?_⟩
   refine ifE (fun z=>absurd z (by decide)) (fun _=>?_)
   refine ⟨_,rfl,rfl,_,rfl,?_⟩
   refine ifE (fun _=>?_) (fun z=>absurd rfl z)
   refine ⟨_,rfl,_,rfl,_,rfl,_,_,rfl,rfl,_,rfl,a,_,_,_,rfl,rfl,sq,a2,_,_,rfl,rfl,(by show (0:Int) < 2; decide),_,_,rfl,rfl,(by show 2≤sizeLine; decide),fun p1 hp1=>⟨(by show 2≤sizeLine; decide),fun p2 hp2=>?_⟩⟩
   have sp1:=zAd hp1 (.tup [.int t.2.2.2.1,.int (t.2.2.2.2 + 1 + v2 % 2)])
   have sp2:=zAd hp2 (.tup [.int t.2.1,.ref p1])
   have P5:=PR.put (sp1.trans sp2) (sp2 _ _ (zAc:upd _ p1 (.tup [.int t.2.2.2.1,.int (t.2.2.2.2 + 1 + v2 % 2)]) p1 = _)) (zAc:upd _ p2 (.tup [.int t.2.1,.ref p1]) p2 = _) k
   refine ⟨_,rfl,_,rfl,R,_,_,k,rfl,rfl,(sp1.trans sp2) _ _ eR,ixn,?_⟩
   have tA:zCs ws (ws.set k (p2,t.2.1,p1,t.2.2.2.1,(t.2.2.2.2 + 1 + v2 % 2))):=zJa fun m m10 b=>by
    have z:=b t mt
    exact ⟨zEh z.1,ten_e z.2 m10 e20 e21⟩
   have nA:(ws.set k (p2,t.2.1,p1,t.2.2.2.1,(t.2.2.2.2 + 1 + v2 % 2))).length≤2 * ws.length + 1:=by rw [List.length_set]; omega
   generalize upd (upd (upd H0 p1 (.tup [.int t.2.2.2.1,.int (t.2.2.2.2 + 1 + v2 % 2)])) p2 (.tup [.int t.2.1,.ref p1])) R (.lst ((zAp ws).set k (.ref p2))) = G5 at P5 ⊢
   generalize ws.set k (p2,t.2.1,p1,t.2.2.2.1,(t.2.2.2.2 + 1 + v2 % 2)) = w5 at P5 tA nA
   refine ⟨_,rfl,rfl,_,rfl,?_⟩
   refine ifE (fun z=>absurd z (by decide)) (fun _=>?_)
   refine ⟨_,rfl,rfl,_,rfl,?_⟩
   refine ifE (fun z=>absurd z (by decide)) (fun _=>?_)
   refine ⟨_,rfl,rfl,_,rfl,?_⟩
   refine ifE (fun z=>absurd z (by decide)) (fun _=>?_)
   exact ⟨_,rfl,q R _ _ P5.same P5.at' P5.all nA tA⟩
  ·skip
   refine ⟨_,rfl,rfl,_,rfl,?_⟩
   refine ifE (fun z=>absurd z (by decide)) (fun _=>?_)
   refine ⟨_,rfl,rfl,_,rfl,?_⟩
   refine ifE (fun z=>absurd z (by decide)) (fun _=>?_)
   refine ⟨_,rfl,rfl,_,rfl,?_⟩
   refine ifE (fun z=>absurd z (by decide)) (fun _=>?_)
   refine ⟨_,rfl,rfl,_,rfl,?_⟩
   refine ifE (fun z=>absurd z (by decide)) (fun _=>?_)
   refine ⟨_,rfl,rfl,_,rfl,?_⟩
   refine ifE (fun z=>absurd z (by decide)) (fun _=>?_)
   refine ⟨_,rfl,rfl,_,rfl,?_⟩
   refine ifE (fun _=>?_) (fun z=>absurd rfl z)
   refine ⟨_,rfl,_,rfl,_,rfl,R,_,rfl,SqL.of eR,by decide,fun f1 ys hf1 hys hyl=>?_⟩
   obtain ⟨qs,rfl,mqs⟩:=zRc hys
   rw [zA2,zA2] at hyl
   have sf1:=zAd hf1 (.lst (zAp qs))
   have ef1:upd H0 f1 (.lst (zAp qs)) f1 = some (.lst (zAp qs)):=zAc
   generalize upd H0 f1 (.lst (zAp qs)) = G1 at sf1 ef1 ⊢
   refine ⟨_,rfl,rfl,_,rfl,?_⟩
   refine ifE (fun z=>absurd z (by decide)) (fun _=>?_)
   refine ⟨_,rfl,rfl,_,rfl,?_⟩
   refine ifE (fun z=>absurd z (by decide)) (fun _=>?_)
   exact ⟨_,rfl,q f1 qs _ (sR.trans sf1) ef1 (fun u hu=>pk0.same sf1 u (mqs u hu)) (by omega) (zCs.of fun u hu=>.inl (mqs u hu))⟩
  ·skip
   refine ⟨_,rfl,rfl,_,rfl,?_⟩
   refine ifE (fun z=>absurd z (by decide)) (fun _=>?_)
   refine ⟨_,rfl,rfl,_,rfl,?_⟩
   refine ifE (fun z=>absurd z (by decide)) (fun _=>?_)
   refine ⟨_,rfl,rfl,_,rfl,?_⟩
   refine ifE (fun z=>absurd z (by decide)) (fun _=>?_)
   refine ⟨_,rfl,rfl,_,rfl,?_⟩
   refine ifE (fun z=>absurd z (by decide)) (fun _=>?_)
   refine ⟨_,rfl,rfl,_,rfl,?_⟩
   refine ifE (fun z=>absurd z (by decide)) (fun _=>?_)
   refine ⟨_,rfl,rfl,_,rfl,?_⟩
   refine ifE (fun z=>absurd z (by decide)) (fun _=>?_)
   refine ⟨_,rfl,rfl,_,rfl,?_⟩
   refine ifE (fun _=>?_) (fun z=>absurd rfl z)
   refine ⟨_,rfl,_,rfl,_,_,rfl,rfl,_,rfl,a,_,_,_,rfl,rfl,sq,a2,_,_,rfl,rfl,(by show (0:Int) < 2; decide),_,_,rfl,rfl,_,rfl,(by show 2≤sizeLine; decide),fun p1 hp1=>⟨(by show 2≤sizeLine; decide),fun p2 hp2=>?_⟩⟩
   have sp1:=zAd hp1 (.tup [.int (t.2.2.2.1 + 1 + v2 % 2),.int t.2.2.2.2])
   have sp2:=zAd hp2 (.tup [.int t.2.1,.ref p1])
   have P5:=PR.put (sp1.trans sp2) (sp2 _ _ (zAc:upd _ p1 (.tup [.int (t.2.2.2.1 + 1 + v2 % 2),.int t.2.2.2.2]) p1 = _)) (zAc:upd _ p2 (.tup [.int t.2.1,.ref p1]) p2 = _) k
   refine ⟨_,rfl,_,rfl,R,_,_,k,rfl,rfl,(sp1.trans sp2) _ _ eR,ixn,?_⟩
   have tA:zCs ws (ws.set k (p2,t.2.1,p1,(t.2.2.2.1 + 1 + v2 % 2),t.2.2.2.2)):=zJa fun m m10 b=>by
    have z:=b t mt
    exact ⟨ten_e z.1 m10 e20 e21,zEh z.2⟩
   have nA:(ws.set k (p2,t.2.1,p1,(t.2.2.2.1 + 1 + v2 % 2),t.2.2.2.2)).length≤2 * ws.length + 1:=by rw [List.length_set]; omega
   generalize upd (upd (upd H0 p1 (.tup [.int (t.2.2.2.1 + 1 + v2 % 2),.int t.2.2.2.2])) p2 (.tup [.int t.2.1,.ref p1])) R (.lst ((zAp ws).set k (.ref p2))) = G5 at P5 ⊢
   generalize ws.set k (p2,t.2.1,p1,(t.2.2.2.1 + 1 + v2 % 2),t.2.2.2.2) = w5 at P5 tA nA
   refine ⟨_,rfl,rfl,_,rfl,?_⟩
   refine ifE (fun z=>absurd z (by decide)) (fun _=>?_)
   exact ⟨_,rfl,q R _ _ P5.same P5.at' P5.all nA tA⟩
  ·skip
   refine ⟨_,rfl,rfl,_,rfl,?_⟩
   refine ifE (fun z=>absurd z (by decide)) (fun _=>?_)
   refine ⟨_,rfl,rfl,_,rfl,?_⟩
   refine ifE (fun z=>absurd z (by decide)) (fun _=>?_)
   refine ⟨_,rfl,rfl,_,rfl,?_⟩
   refine ifE (fun z=>absurd z (by decide)) (fun _=>?_)
   refine ⟨_,rfl,rfl,_,rfl,?_⟩
   refine ifE (fun z=>absurd z (by decide)) (fun _=>?_)
   refine ⟨_,rfl,rfl,_,rfl,?_⟩
   refine ifE (fun z=>absurd z (by decide)) (fun _=>?_)
   refine ⟨_,rfl,rfl,_,rfl,?_⟩
   refine ifE (fun z=>absurd z (by decide)) (fun _=>?_)
   refine ⟨_,rfl,rfl,_,rfl,?_⟩
   refine ifE (fun z=>absurd z (by decide)) (fun _=>?_)
   refine ⟨_,rfl,rfl,_,rfl,?_⟩
   refine ifE (fun _=>?_) (fun z=>absurd rfl z)
   refine ⟨_,rfl,_,rfl,_,rfl,R,_,rfl,SqL.of eR,fun f1 hf1=>?_⟩
   rw [cq1]
   have sf1:=zAd hf1 (.lst (zAp q1))
   have ef1:upd H0 f1 (.lst (zAp q1)) f1 = some (.lst (zAp q1)):=zAc
   generalize upd H0 f1 (.lst (zAp q1)) = G1 at sf1 ef1 ⊢
   refine ⟨_,rfl,_,rfl,R,_,_,_,rfl,rfl,.inl (SqL.of (sf1 _ _ eR)),at',(by show 1≤sizeLine; decide),fun f2 hf2=>?_⟩
   have sf2:=zAd hf2 (.lst [.ref t.1])
   have ef2:upd G1 f2 (.lst [.ref t.1]) f2 = some (.lst (zAp [t])):=zAc
   have eT:=(pk0.same (sf1.trans sf2)) t mt
   generalize upd G1 f2 (.lst [.ref t.1]) = G2 at sf2 ef2 eT ⊢
   have sm:=sf1.trans sf2
   refine ⟨f1,f2,_,_,rfl,rfl,sf2 _ _ ef1,ef2,small (by rw [zA2,zA2] <;> show q1.length + 1≤1000; omega),fun f3 hf3=>?_⟩
   have sf3:=zAd hf3 (.lst (zAp q1 ++ zAp [t]))
   have ef3:upd G2 f3 (.lst (zAp q1 ++ zAp [t])) f3 = some (.lst (zAp (q1 ++ [t]))):=by rw [zAc,zDe]
   generalize upd G2 f3 (.lst (zAp q1 ++ zAp [t])) = G3 at sf3 ef3 ⊢
   have s3:=sm.trans sf3
   refine ⟨_,rfl,_,rfl,_,rfl,R,_,rfl,SqL.of (s3 _ _ eR),fun f4 hf4=>?_⟩
   rw [cq3]
   have sf4:=zAd hf4 (.lst (zAp q3))
   have ef4:upd G3 f4 (.lst (zAp q3)) f4 = some (.lst (zAp q3)):=zAc
   generalize upd G3 f4 (.lst (zAp q3)) = G4 at sf4 ef4 ⊢
   refine ⟨f3,f4,_,_,rfl,rfl,sf4 _ _ ef3,ef4,small (by rw [zA2,zA2,List.length_append] <;> show q1.length + 1 + q3.length≤1000; omega),fun f5 hf5=>?_⟩
   have sf5:=zAd hf5 (.lst (zAp (q1 ++ [t]) ++ zAp q3))
   have ef5:upd G4 f5 (.lst (zAp (q1 ++ [t]) ++ zAp q3)) f5 = some (.lst (zAp (q1 ++ [t] ++ q3))):=by rw [zAc,zDe _ q3]
   have sA:=(s3.trans sf4).trans sf5
   have okA:WtAt (upd G4 f5 (.lst (zAp (q1 ++ [t]) ++ zAp q3))) (q1 ++ [t] ++ q3):=fun u hu=>by
    rcases List.mem_append.mp hu with hu | hu
    ·rcases List.mem_append.mp hu with hu | hu
     ·exact pk0.same sA u (mq1 u hu)
     ·rw [List.mem_singleton] at hu
      rw [hu]
      exact ⟨((sf3.trans sf4).trans sf5) _ _ eT.1,((sf3.trans sf4).trans sf5) _ _ eT.2⟩
    ·exact pk0.same sA u (mq3 u hu)
   have nA:(q1 ++ [t] ++ q3).length≤2 * ws.length + 1:=by rw [List.length_append,List.length_append,List.length_singleton]; omega
   have tA:zCs ws (q1 ++ [t] ++ q3):=zCs.of fun u hu=>by
    rcases List.mem_append.mp hu with hu | hu
    ·rcases List.mem_append.mp hu with hu | hu
     ·exact .inl (mq1 u hu)
     ·rw [List.mem_singleton] at hu
      rw [hu]
      exact .inl mt
    ·exact .inl (mq3 u hu)
   generalize upd G4 f5 (.lst (zAp (q1 ++ [t]) ++ zAp q3)) = G5 at sA okA ef5 ⊢
   exact ⟨_,rfl,q f5 _ _ (sR.trans sA) ef5 okA nA tA⟩
 refine ⟨_,rfl,_,rfl,_,rfl,R,_,rfl,SqL.of eR,fun f1 hf1=>?_⟩
 rw [cq1]
 have sf1:=zAd hf1 (.lst (zAp q1))
 have ef1:upd H0 f1 (.lst (zAp q1)) f1 = some (.lst (zAp q1)):=zAc
 generalize upd H0 f1 (.lst (zAp q1)) = G1 at sf1 ef1 ⊢
 have sq1:=sq.same sf1
 refine ⟨_,rfl,a,_,_,_,rfl,rfl,sq1,a2,_,_,rfl,rfl,(by show (0:Int) < 9; decide),_,_,rfl,rfl,_,rfl,a,_,_,_,rfl,rfl,sq1,a3,_,_,rfl,rfl,(by show (0:Int) < 5; decide),_,_,rfl,rfl,_,rfl,a,_,_,_,rfl,rfl,sq1,a3,_,_,rfl,rfl,zEr.of (by decide) (by decide +kernel),_,_,rfl,rfl,(by show (0:Int) < 4; decide),(by show 2≤sizeLine; decide),fun p1 hp1=>⟨(by show 2≤sizeLine; decide),fun u hu=>⟨(by show 1≤sizeLine; decide),fun f2 hf2=>?_⟩⟩⟩
 have sp1:=zAd hp1 (.tup [.int (v3 % 5 - 1),.int (v3 / 5 % 4)])
 have su:=zAd hu (.tup [.int (v2 % 9 - 1),.ref p1])
 have sf2':=zAd hf2 (.lst [.ref u])
 have sf2:=(sp1.trans su).trans sf2'
 have ef2:upd (upd (upd G1 p1 (.tup [.int (v3 % 5 - 1),.int (v3 / 5 % 4)])) u (.tup [.int (v2 % 9 - 1),.ref p1])) f2 (.lst [.ref u]) f2 = some (.lst (zAp [(u,v2 % 9 - 1,p1,v3 % 5 - 1,v3 / 5 % 4)])):=zAc
 have eT : _∧_:=⟨sf2' _ _ (zAc:upd _ u (.tup [.int (v2 % 9 - 1),.ref p1]) u = _),(su.trans sf2') _ _ (zAc:upd _ p1 (.tup [.int (v3 % 5 - 1),.int (v3 / 5 % 4)]) p1 = _)⟩
 generalize upd (upd (upd G1 p1 (.tup [.int (v3 % 5 - 1),.int (v3 / 5 % 4)])) u (.tup [.int (v2 % 9 - 1),.ref p1])) f2 (.lst [.ref u]) = G2 at sf2 ef2 eT ⊢
 have sm:=sf1.trans sf2
 refine ⟨f1,f2,_,_,rfl,rfl,sf2 _ _ ef1,ef2,small (by rw [zA2,zA2] <;> show q1.length + 1≤1000; omega),fun f3 hf3=>?_⟩
 have sf3:=zAd hf3 (.lst (zAp q1 ++ zAp [(u,v2 % 9 - 1,p1,v3 % 5 - 1,v3 / 5 % 4)]))
 have ef3:upd G2 f3 (.lst (zAp q1 ++ zAp [(u,v2 % 9 - 1,p1,v3 % 5 - 1,v3 / 5 % 4)])) f3 = some (.lst (zAp (q1 ++ [(u,v2 % 9 - 1,p1,v3 % 5 - 1,v3 / 5 % 4)]))):=by rw [zAc,zDe]
 generalize upd G2 f3 (.lst (zAp q1 ++ zAp [(u,v2 % 9 - 1,p1,v3 % 5 - 1,v3 / 5 % 4)])) = G3 at sf3 ef3 ⊢
 have s3:=sm.trans sf3
 refine ⟨_,rfl,_,rfl,_,rfl,R,_,rfl,SqL.of (s3 _ _ eR),fun f4 hf4=>?_⟩
 rw [cq3]
 have sf4:=zAd hf4 (.lst (zAp q3))
 have ef4:upd G3 f4 (.lst (zAp q3)) f4 = some (.lst (zAp q3)):=zAc
 generalize upd G3 f4 (.lst (zAp q3)) = G4 at sf4 ef4 ⊢
 refine ⟨f3,f4,_,_,rfl,rfl,sf4 _ _ ef3,ef4,small (by rw [zA2,zA2,List.length_append] <;> show q1.length + 1 + q3.length≤1000; omega),fun f5 hf5=>?_⟩
 have sf5:=zAd hf5 (.lst (zAp (q1 ++ [(u,v2 % 9 - 1,p1,v3 % 5 - 1,v3 / 5 % 4)]) ++ zAp q3))
 have ef5:upd G4 f5 (.lst (zAp (q1 ++ [(u,v2 % 9 - 1,p1,v3 % 5 - 1,v3 / 5 % 4)]) ++ zAp q3)) f5 = some (.lst (zAp (q1 ++ [(u,v2 % 9 - 1,p1,v3 % 5 - 1,v3 / 5 % 4)] ++ q3))):=by rw [zAc,zDe _ q3]
 have sA:=(s3.trans sf4).trans sf5
 have okA:WtAt (upd G4 f5 (.lst (zAp (q1 ++ [(u,v2 % 9 - 1,p1,v3 % 5 - 1,v3 / 5 % 4)]) ++ zAp q3))) (q1 ++ [(u,v2 % 9 - 1,p1,v3 % 5 - 1,v3 / 5 % 4)] ++ q3):=fun u hu=>by
  rcases List.mem_append.mp hu with hu | hu
  ·rcases List.mem_append.mp hu with hu | hu
   ·exact pk0.same sA u (mq1 u hu)
   ·rw [List.mem_singleton] at hu
    rw [hu]
    exact ⟨((sf3.trans sf4).trans sf5) _ _ eT.1,((sf3.trans sf4).trans sf5) _ _ eT.2⟩
  ·exact pk0.same sA u (mq3 u hu)
 have nA:(q1 ++ [(u,v2 % 9 - 1,p1,v3 % 5 - 1,v3 / 5 % 4)] ++ q3).length≤2 * ws.length + 1:=by rw [List.length_append,List.length_append,List.length_singleton]; omega
 have tA:zCs ws (q1 ++ [(u,v2 % 9 - 1,p1,v3 % 5 - 1,v3 / 5 % 4)] ++ q3):=zCs.of fun u hu=>by
  rcases List.mem_append.mp hu with hu | hu
  ·rcases List.mem_append.mp hu with hu | hu
   ·exact .inl (mq1 u hu)
   ·rw [List.mem_singleton] at hu
    rw [hu]
    exact .inr fun m m10 b=>⟨by show (v3 % 5 - 1).natAbs≤10 * m; omega,by show (v3 / 5 % 4).natAbs≤10 * m; omega⟩
  ·exact .inl (mq3 u hu)
 generalize upd G4 f5 (.lst (zAp (q1 ++ [(u,v2 % 9 - 1,p1,v3 % 5 - 1,v3 / 5 % 4)]) ++ zAp q3)) = G5 at sA okA ef5 ⊢
 exact q f5 _ _ (sR.trans sA) ef5 okA nA tA
theorem zUq {x y:Int} {m:Nat} (h:x.natAbs≤m) (h2:y.natAbs≤10):(x * y).natAbs≤10 * m:=by
 rw [Nat.mul_comm]
 exact zAj x y h h2
theorem ten_1 {x:Int} {m:Nat} (h:x.natAbs≤m) (c:10 ^ 20≤m):(x + 1).natAbs≤10 * m:=by omega
theorem ten_d {x:Int} {m:Nat} (h:x.natAbs≤m) (c:10 ^ 20≤m):(x - 1).natAbs≤10 * m:=by omega
def zGq (K:PySem.W.Frag):Sp:=fun vs H Q _=>∃ (a p:Addr) (rows:List Int) (x y z:Int),vs = [.ref a,.ref p]∧SqL K H a (rows.map V.int)∧2≤rows.length∧(∀ x∈rows,0≤x∧x < 1000003)∧H p = some (.tup [.int x,.int y,.int z]) ∧
 ∀ (r:Addr) (x' y' z':Int) (H':Hp),Same H H'→H' r = some (.tup [.int x',.int y',.int z'])→(∀ m:Nat,10 ^ 20≤m→x.natAbs≤m→y.natAbs≤m→z.natAbs≤m→x'.natAbs≤10 * m∧y'.natAbs≤10 * m∧z'.natAbs≤10 * m)→Q (.ref r) H'
theorem zJ4 (F:Fun K "_law_bent_spot" "_law_bent_spot" zDz f fd) (Z:Zs mg)  : FnOk P w K mg base CX0 1 f fd ["_law_d", "_law_place"] (zGq K):=by
 refine F.ok zB6 (fun vs H Q E h=>?_) (fun cdv A outer s H vs Q E hr h=>?_)
 ·obtain ⟨a,p,rows,x,y,z,rfl,_⟩:=h
  rfl
 obtain ⟨a,p,rows,x,y,z,rfl,hS,hl,bd,hp,q⟩:=h
 refine ⟨_,(zAf (zEc (pv 1) (zCk rfl (zAw (zAr (i:=2) zB6.nd rfl (Or.inl rfl)) (zAw (zAr (i:=3) zB6.nd rfl (Or.inl rfl)) (zAw (zAr (i:=4) zB6.nd rfl (Or.inl rfl)) zBk)))))
   (zAf (zAy (i:=5) zB6.nd rfl (Or.inl rfl) (zAl zBc zAb (zAl zA7 (zAk zAg (pv 0) zAb (fun _ _=>rfl)) zAb)))
   (zAf (zAy (i:=6) zB6.nd rfl (Or.inl rfl) (zCb (zAa (zAz (zAa (zAl zA0 (pv 2) (pv 5)) (zAa (zAl zA0 (pv 3) (pv 5)) (zAa (zAl zA0 (pv 4) (pv 5)) zAe)))) (zAa (zAz (zAa (zEi zCp (pv 2)) (zAa (zEi zCp (pv 3)) (zAa (zEi zCp (pv 4)) zAe)))) (zAa (zAz (zAa (zAl zBc (pv 2) zAb) (zAa (pv 3) (zAa (pv 4) zAe)))) (zAa (zAz (zAa (pv 2) (zAa (zAl zCe (pv 3) zAb) (zAa (pv 4) zAe)))) (zAa (zAz (zAa (pv 2) (zAa (pv 3) (zAa (zAl zBc (pv 4) zAb) zAe)))) (zAa (zAz (zAa (pv 2) (zAa (pv 3) (zAa zAb zAe)))) zAe))))))))
   (zAi (zAq (zAk zAg (zAl zFr (pv 6) (zCb (zAa (zAz (zAa (zAl zOc zAb zAb) (zAa (pv 3) (zAa (pv 4) zAe)))) (zAa (zAz (zAa (pv 3) (zAa (pv 2) (zAa (pv 4) zAe)))) zAe)))) (zAl zA7 (zAk zAg (pv 0) zAb (fun _ _=>rfl)) zAb) (fun _ _=>rfl))))))),?_⟩
 try dsimp only [L2.cxOf]
 obtain ⟨v0,a0,b00,b01⟩:=zBw bd (k:=0) (by decide) (by omega)
 obtain ⟨v1,a1,b10,b11⟩:=zBw bd (k:=1) (by decide) (by omega)
 refine ⟨_,rfl,p,_,rfl,SqT.of hp,rfl,.int x,_,rfl,.int y,_,rfl,.int z,_,rfl,rfl,?_⟩
 refine ⟨_,rfl,a,_,_,_,rfl,rfl,.inl hS,a1,_,_,rfl,rfl,(by show (0:Int) < 5; decide),_,_,rfl,rfl,?_⟩
 have cb:∀ i:Int,CMul i (2 + v1 % 5):=fun i=>cm_r (by omega)
 have c6:(2 + v1 % 5).natAbs≤10:=by omega
 generalize 2 + v1 % 5 = by' at cb c6
 refine ⟨_,rfl,_,rfl,_,_,rfl,rfl,cb _,_,rfl,_,rfl,_,_,rfl,rfl,cb _,_,rfl,_,rfl,_,_,rfl,rfl,cb _,(by show 3≤sizeLine; decide),fun t1 ht1=>?_⟩
 have s1:=zAd ht1 (.tup [.int (x * by'),.int (y * by'),.int (z * by')])
 have e1:upd H t1 (.tup [.int (x * by'),.int (y * by'),.int (z * by')]) t1 = some (.tup [.int (x * by'),.int (y * by'),.int (z * by')]):=zAc
 generalize upd H t1 (.tup [.int (x * by'),.int (y * by'),.int (z * by')]) = H1 at s1 e1 ⊢
 refine ⟨_,rfl,_,rfl,_,rfl,_,rfl,_,rfl,_,rfl,(by show 3≤sizeLine; decide),fun t2 ht2=>?_⟩
 have s2:=zAd ht2 (.tup [.int (-x),.int (-y),.int (-z)])
 have e2:upd H1 t2 (.tup [.int (-x),.int (-y),.int (-z)]) t2 = some (.tup [.int (-x),.int (-y),.int (-z)]):=zAc
 generalize upd H1 t2 (.tup [.int (-x),.int (-y),.int (-z)]) = H2 at s2 e2 ⊢
 refine ⟨_,rfl,_,_,rfl,rfl,_,rfl,_,rfl,(by show 3≤sizeLine; decide),fun t3 ht3=>?_⟩
 have s3:=zAd ht3 (.tup [.int (x + 1),.int (y),.int (z)])
 have e3:upd H2 t3 (.tup [.int (x + 1),.int (y),.int (z)]) t3 = some (.tup [.int (x + 1),.int (y),.int (z)]):=zAc
 generalize upd H2 t3 (.tup [.int (x + 1),.int (y),.int (z)]) = H3 at s3 e3 ⊢
 refine ⟨_,rfl,_,rfl,_,_,rfl,rfl,_,rfl,(by show 3≤sizeLine; decide),fun t4 ht4=>?_⟩
 have s4:=zAd ht4 (.tup [.int (x),.int (y - 1),.int (z)])
 have e4:upd H3 t4 (.tup [.int (x),.int (y - 1),.int (z)]) t4 = some (.tup [.int (x),.int (y - 1),.int (z)]):=zAc
 generalize upd H3 t4 (.tup [.int (x),.int (y - 1),.int (z)]) = H4 at s4 e4 ⊢
 refine ⟨_,rfl,_,rfl,_,rfl,_,_,rfl,rfl,(by show 3≤sizeLine; decide),fun t5 ht5=>?_⟩
 have s5:=zAd ht5 (.tup [.int (x),.int (y),.int (z + 1)])
 have e5:upd H4 t5 (.tup [.int (x),.int (y),.int (z + 1)]) t5 = some (.tup [.int (x),.int (y),.int (z + 1)]):=zAc
 generalize upd H4 t5 (.tup [.int (x),.int (y),.int (z + 1)]) = H5 at s5 e5 ⊢
 refine ⟨_,rfl,_,rfl,(by show 3≤sizeLine; decide),fun t6 ht6=>?_⟩
 have s6:=zAd ht6 (.tup [.int (x),.int (y),.int (0)])
 have e6:upd H5 t6 (.tup [.int (x),.int (y),.int (0)]) t6 = some (.tup [.int (x),.int (y),.int (0)]):=zAc
 generalize upd H5 t6 (.tup [.int (x),.int (y),.int (0)]) = H6 at s6 e6 ⊢
 refine ⟨by show 6≤sizeLine; decide,fun m hm=>?_⟩
 have sm:=zAd hm (.lst [.ref t1,.ref t2,.ref t3,.ref t4,.ref t5,.ref t6])
 have em:upd H6 m (.lst [.ref t1,.ref t2,.ref t3,.ref t4,.ref t5,.ref t6]) m = some (.lst [.ref t1,.ref t2,.ref t3,.ref t4,.ref t5,.ref t6]):=zAc
 generalize upd H6 m (.lst [.ref t1,.ref t2,.ref t3,.ref t4,.ref t5,.ref t6]) = HM at sm em ⊢
 refine ⟨_,rfl,?_⟩
 refine ⟨_,_,rfl,rfl,⟨by decide,by decide,by decide⟩,_,rfl,_,rfl,(by show 3≤sizeLine; decide),fun t7 ht7=>?_⟩
 have s7:=zAd ht7 (.tup [.int (10 ^ (20:Int).toNat),.int (y),.int (z)])
 have e7:upd HM t7 (.tup [.int (10 ^ (20:Int).toNat),.int (y),.int (z)]) t7 = some (.tup [.int (10 ^ (20:Int).toNat),.int (y),.int (z)]):=zAc
 generalize upd HM t7 (.tup [.int (10 ^ (20:Int).toNat),.int (y),.int (z)]) = H7 at s7 e7 ⊢
 refine ⟨_,rfl,_,rfl,_,rfl,(by show 3≤sizeLine; decide),fun t8 ht8=>?_⟩
 have s8:=zAd ht8 (.tup [.int (y),.int (x),.int (z)])
 have e8:upd H7 t8 (.tup [.int (y),.int (x),.int (z)]) t8 = some (.tup [.int (y),.int (x),.int (z)]):=zAc
 generalize upd H7 t8 (.tup [.int (y),.int (x),.int (z)]) = H8 at s8 e8 ⊢
 refine ⟨by show 2≤sizeLine; decide,fun m2 hm2=>?_⟩
 have sm2:=zAd hm2 (.lst [.ref t7,.ref t8])
 refine ⟨m,m2,_,_,rfl,rfl,sm2 _ _ (s8 _ _ (s7 _ _ em)),zAc,by show 8≤sizeLine; decide,fun m3 hm3=>?_⟩
 have sm3:=zAd hm3 (.lst ([.ref t1,.ref t2,.ref t3,.ref t4,.ref t5,.ref t6] ++ [.ref t7,.ref t8]))
 have em3:upd (upd H8 m2 (.lst [.ref t7,.ref t8])) m3 (.lst ([.ref t1,.ref t2,.ref t3,.ref t4,.ref t5,.ref t6] ++ [.ref t7,.ref t8])) m3 = some (.lst ([.ref t1,.ref t2,.ref t3,.ref t4,.ref t5,.ref t6] ++ [.ref t7,.ref t8])):=zAc
 have s89:=sm2.trans sm3
 generalize upd (upd H8 m2 (.lst [.ref t7,.ref t8])) m3 (.lst ([.ref t1,.ref t2,.ref t3,.ref t4,.ref t5,.ref t6] ++ [.ref t7,.ref t8])) = H9 at s89 em3 ⊢
 have k7:=s8.trans s89
 have km:=s7.trans k7
 have k6:=sm.trans km
 have k5:=s6.trans k6
 have k4:=s5.trans k5
 have k3:=s4.trans k4
 have k2:=s3.trans k3
 have k1:=s2.trans k2
 have k0:=s1.trans k1
 clear sm2 sm3 s1 s2 s3 s4 s5 s6 s7 s8 sm em
 refine ⟨_,rfl,a,_,_,_,rfl,rfl,.inl (k0.seq hS),a0,_,_,rfl,rfl,(by show (0:Int) < 8; decide),?_⟩
 obtain ⟨r,x',y',z',g1,g2,g3⟩:∃ (r:Addr) (x' y' z':Int),atI ([.ref t1,.ref t2,.ref t3,.ref t4,.ref t5,.ref t6] ++ [.ref t7,.ref t8]) (v0 % 8) = some (V.ref r)∧H9 r = some (.tup [.int x',.int y',.int z'])∧∀ m:Nat,10 ^ 20≤m→x.natAbs≤m→y.natAbs≤m→z.natAbs≤m→x'.natAbs≤10 * m∧y'.natAbs≤10 * m∧z'.natAbs≤10 * m:=by
  have c0:=Int.emod_nonneg v0 (show (8:Int)≠0 by decide)
  have c1:=Int.emod_lt_of_pos v0 (show (0:Int) < 8 by decide)
  have cc:v0 % 8 = 0∨v0 % 8 = 1∨v0 % 8 = 2∨v0 % 8 = 3∨v0 % 8 = 4∨v0 % 8 = 5∨v0 % 8 = 6∨v0 % 8 = 7:=by omega
  rcases cc with e | e | e | e | e | e | e | e <;> rw [e]
  ·exact ⟨t1,_,_,_,rfl,k1 _ _ e1,fun m _ b1 b2 b3=>⟨zUq b1 c6,zUq b2 c6,zUq b3 c6⟩⟩
  ·exact ⟨t2,_,_,_,rfl,k2 _ _ e2,fun m _ b1 b2 b3=>⟨zQy b1,zQy b2,zQy b3⟩⟩
  ·exact ⟨t3,_,_,_,rfl,k3 _ _ e3,fun m c b1 b2 b3=>⟨ten_1 b1 c,zEh b2,zEh b3⟩⟩
  ·exact ⟨t4,_,_,_,rfl,k4 _ _ e4,fun m c b1 b2 b3=>⟨zEh b1,ten_d b2 c,zEh b3⟩⟩
  ·exact ⟨t5,_,_,_,rfl,k5 _ _ e5,fun m c b1 b2 b3=>⟨zEh b1,zEh b2,ten_1 b3 c⟩⟩
  ·exact ⟨t6,_,_,_,rfl,k6 _ _ e6,fun m c b1 b2 b3=>⟨zEh b1,zEh b2,Nat.zero_le _⟩⟩
  ·exact ⟨t7,_,_,_,rfl,k7 _ _ e7,fun m c b1 b2 b3=>⟨zEh (Nat.le_trans (by decide) c),zEh b2,zEh b3⟩⟩
  ·exact ⟨t8,_,_,_,rfl,s89 _ _ e8,fun m c b1 b2 b3=>⟨zEh b2,zEh b1,zEh b3⟩⟩
 exact ⟨m3,_,_,_,rfl,rfl,.inl (SqL.of em3),g1,q r x' y' z' H9 k0 g2 g3⟩
def zKd (_:PySem.W.Frag):Sp:=fun vs H Q _=>∃ (n:Int),vs = [.int n]∧∀ v:Int,0≤v→v < 1000003→Q (.int v) H
theorem zP4 (F:Fun K "_law_power" "_law_power" zHp f fd) (Z:Zs mg):FnOk P w K mg base CX0 1 f fd ["_law_number"] (zKd K):=by
 refine F.ok zOx (fun vs H Q E h=>?_) (fun cdv A outer s H vs Q E hr h=>?_)
 ·obtain ⟨n,rfl,_⟩:=h
  rfl
 obtain ⟨n,rfl,q⟩:=h
 refine ⟨_,(zAi (zAq (zAl zA7 (zAl zOc (zAl zA7 (pv 0) zAb) zAb) zAb))),?_⟩
 try dsimp only [L2.cxOf]
 have h1:=Int.emod_nonneg n (show (1000003:Int)≠0 by decide)
 have h2:=Int.emod_lt_of_pos n (show (0:Int) < 1000003 by decide)
 refine ⟨_,rfl,_,_,rfl,rfl,(by show (0:Int) < 1000003; decide),_,_,rfl,rfl,⟨by decide,by decide,by omega⟩,_,_,rfl,rfl,(by show (0:Int) < 1000003; decide),?_⟩
 exact q _ (Int.emod_nonneg _ (by decide)) (Int.emod_lt_of_pos _ (by decide))
def zKh (K:PySem.W.Frag):Sp:=fun vs H Q _=>∃ (a:Addr) (ns:List Int) (many:Int),vs = [.ref a,.int many]∧SqL K H a (ns.map V.int)∧ns.length≤63∧0≤many∧many≤500 ∧
 ∀ (r:Addr) (rows:List Int) (H':Hp),Same H H'→H r = none→H' r = some (.lst (rows.map V.int))→many≤rows.length→rows.length≤600→(∀ x∈rows,0≤x∧x < 1000003)→Q (.ref r) H'
structure zJs (H:Hp) (r c:Addr) (ms:List Int) (H':Hp) (rows:List Int):Prop where
 same:Same H H'
 src:H' c = some (.lst (ms.map V.int))
 at':H' r = some (.lst (rows.map V.int))
 bd:∀ x∈rows,0≤x∧x < 1000003
theorem zJs.app {H H':Hp} {r c:Addr} {ms rows:List Int} {v:Int} (d:zJs H r c ms H' rows) (hr:H r = none) (hrc:c≠r) (h0:0≤v) (h1:v < 1000003):zJs H r c ms (upd H' r (.lst (rows.map V.int ++ [.int v]))) (rows ++ [v]):=by
 refine ⟨fun b o e=>?_,?_,?_,fun x hx=>?_⟩
 ·rw [zA5 (zBr e hr)]
  exact d.same b o e
 ·rw [zA5 hrc]
  exact d.src
 ·rw [zAc,List.map_append]
  rfl
 ·rcases List.mem_append.mp hx with e | e
  ·exact d.bd x e
  ·rw [List.mem_singleton] at e
   rw [e]
   exact ⟨h0,h1⟩
theorem cutR {ok:Int→Hp→Prop} {G:Prop} {R:Int→Hp→Prop} (h1:(∀ m H,ok m H→R m H)→G) (h2:∀ m H,ok m H→R m H):G:=h1 h2
theorem zO7 (F:Fun K "_law_draws" "_law_draws" zG4 f fd) (Z:Zs mg) (h_L_power:Has P w K mg base "_law_power" 1 ["_law_number"] (zKd K)):FnOk P w K mg base CX0 2 f fd ["_law_script", "_law_many"] (zKh K):=by
 refine F.ok zCl (fun vs H Q E h=>?_) (fun cdv A outer s H vs Q E hr h=>?_)
 ·obtain ⟨a,ns,many,rfl,_⟩:=h
  rfl
 obtain ⟨a,ns,many,rfl,hS,hl,hm0,hm1,q⟩:=h
 refine ⟨_,(zAf (zAy (i:=2) zCl.nd rfl (Or.inl rfl) (zCb zAe))
   (zAf (zAy (i:=3) zCl.nd rfl (Or.inl rfl) zAb)
   (zAf (zCv PassesOwn.never rfl (zJm (zBs zCt (pv 0) zB3 (zB8 zAb))) (zAr (i:=4) zCl.nd rfl (Or.inl rfl)) (zAf (zAy (i:=3) zCl.nd rfl (Or.inl rfl) (zAl zA7 (zAl zBc (zAl zA0 (pv 3) zAb) (pv 4)) zAb))
   (zAf (zAy (i:=5) zCl.nd rfl (Or.inl rfl) (zAu zCy rfl Z.abs zFh (zAa (pv 4) zAe)))
   (zAf (zA9 (zAs zFk (pv 5) (zAl zOc zAb zAb) (zAt _)) (zAf (zNh (zU6 PySem.F.plainAttrs_list PySem.F.slot_list_append PySem.F.type_list_append zFl (pv 2) (zAa (zAh h_L_power (hr.mono (by decide)) rfl (zAa (zAl zBc (pv 4) (zAl zA0 zAb (zAu zA1 rfl Z.len zCo (zAa (pv 2) zAe)))) zAe)) zAe)))
   (zAi (zAy (i:=5) zCl.nd rfl (Or.inl rfl) zAb))) zAv)
   (zAi (zIu PassesOwn.never (PW.pt (zFm (zAs zHa (pv 5) zAb (zAt _)) (zEe (zAs zFk (zAu zA1 rfl Z.len zCo (zAa (pv 2) zAe)) (pv 1) (zAt _))))) (zAf (zNh (zU6 PySem.F.plainAttrs_list PySem.F.slot_list_append PySem.F.type_list_append zFl (pv 2) (zAa (zAl zA7 (pv 5) zAb) zAe)))
   (zAi (zAy (i:=5) zCl.nd rfl (Or.inl rfl) (zAl zCx (pv 5) zAb))))))))))
   (zAf (zIu PassesOwn.never (zAs zFk (zAu zA1 rfl Z.len zCo (zAa (pv 2) zAe)) (pv 1) (zAt _)) (zAf (zAy (i:=3) zCl.nd rfl (Or.inl rfl) (zAl zA7 (zAl zBc (zAl zA0 (pv 3) zAb) zAb) zAb))
   (zAi (zNh (zU6 PySem.F.plainAttrs_list PySem.F.slot_list_append PySem.F.type_list_append zFl (pv 2) (zAa (zAh h_L_power (hr.mono (by decide)) rfl (zAa (pv 3) zAe)) zAe))))))
   (zAi (zAq (pv 2))))))),?_⟩
 try dsimp only [L2.cxOf]
 refine ⟨(by show 0≤sizeLine; decide),fun r hr0=>?_⟩
 have S1:=zAd hr0 (.lst [])
 refine ⟨_,rfl,_,rfl,a,_,rfl,S1.seq hS,fun c hc=>⟨c,rfl,⟨_,SqL.of zAc⟩,?_⟩⟩
 rw [zJu]
 generalize hms:((ns.drop (HT.sIx ns.length 0 none)).take (HT.sIx ns.length ns.length (some 63) - HT.sIx ns.length 0 none)) = ms
 have hml:ms.length≤63:=by
  rw [← hms,List.length_take,List.length_drop]
  omega
 have hcr:c≠r:=fun e=>by
  rw [e,zAc] at hc
  cases hc
 have hc0:H c = none:=S1.free hc
 refine zCg (K:=K) (a:=c) (xs:=ms.map V.int) (fun i σ H'=>∃ (rows:List Int) (mix:Int) (u v:Option V),σ = [some (.ref a),some (.int many),some (.ref r),some (.int mix),u,v]∧zJs H r c ms H' rows∧0≤mix∧mix < 2147483647∧rows.length≤many.toNat + i)
  ⟨[],7,none,none,rfl,⟨S1.trans (zAd hc _),zAc,by rw [zA5 (Ne.symm hcr),zAc]; rfl,fun x hx=>nomatch hx⟩,by decide,by decide,Nat.zero_le _⟩ (fun i σ H' _ ⟨_,_,_,_,_,d,_⟩=>SqL.of d.src) ?_ ?_
 ·rintro i x σ H' hi ⟨rows,mix,u,v,rfl,d,hx0,hx1,hrl⟩
  obtain ⟨n,hn,rfl⟩:=zB7 hi
  have hi63:i < 63:=Nat.lt_of_lt_of_le (List.getElem?_eq_some_iff.mp hn).1 hml
  refine ⟨_,rfl,_,_,rfl,rfl,.inr ⟨by decide,by decide⟩,_,rfl,_,_,rfl,rfl,_,_,rfl,rfl,(by show (0:Int) < 2147483647; decide),?_⟩
  have m0:=Int.emod_nonneg (mix * 48271 + n) (show (2147483647:Int)≠0 by decide)
  have m1:=Int.emod_lt_of_pos (mix * 48271 + n) (show (0:Int) < 2147483647 by decide)
  refine ⟨_,rfl,n,rfl,?_⟩
  have a0:0≤(if n < 0 then -n else n):=by split <;> omega
  generalize (if n < 0 then -n else n) = rest at a0 ⊢
  revert H' rest
  apply cutR (ok:=fun rest H2=>0≤rest∧∃ rows,zJs H r c ms H2 rows∧rows.length≤many.toNat + (i + 1))
  ·intro main H' d rest a0
   refine ⟨_,rfl,_,_,rfl,rfl,⟨by decide,by decide,by decide⟩,_,_,rfl,rfl,_,rfl,?_⟩
   refine ifD (fun hsm=>?_) (fun hsm=>?_)
   rotate_left
   ·exact main rest H' ⟨a0,rows,d,by omega⟩
   ·refine ⟨_,rfl,.inl ⟨rfl,_,SqL.of d.at'⟩,_,rfl,_,rfl,r,_,rfl,.inl (SqL.of d.at'),_,_,rfl,rfl,.inl ⟨by decide,by decide⟩,_,_,rfl,rfl,_,rfl,fun v v0 v1=>?_⟩
    refine ⟨r,_,_,rfl,rfl,d.at',zA6 (by rw [List.length_map]; omega),?_⟩
    exact main 0 _ ⟨Int.le_refl 0,_,d.app hr0 hcr v0 v1,by rw [List.length_append,List.length_singleton]; omega⟩
  clear hrl rows
  rintro rest H' ⟨j0,rows,j1,j2⟩
  refine zHv (fun σ H2=>∃ (rows:List Int) (rest:Int),σ = [some (.ref a),some (.int many),some (.ref r),some (.int ((mix * 48271 + n) % 2147483647)),some (.int n),some (.int rest)]∧0≤rest∧zJs H r c ms H2 rows∧rows.length≤many.toNat + (i + 1))
   (fun σ _=>match σ with | [_,_,_,_,_,some (.int z)]=>z.toNat | _=>0) ⟨_,_,rfl,j0,j1,j2⟩ ?_ (mo_and (zNc (zUp zUx zL6 mo_c)) (zNc (zUp zUx (mo_cb zT0 (zRt zL6 zTx)) zL6)))
  rintro σ H2 ⟨rows,rest,rfl,r0,d2,l2⟩
  refine ⟨_,rfl,_,_,rfl,rfl,_,rfl,?_⟩
  refine ifD (fun hpos=>?_) (fun hpos=>?_)
  ·refine ⟨_,rfl,r,_,rfl,.inl (SqL.of d2.at'),_,rfl,_,_,rfl,rfl,_,rfl,?_⟩
   refine ifD (fun hlt=>?_) (fun hlt=>?_)
   ·have hlt':((rows.map V.int).length:Int) < many:=hlt
    rw [List.length_map] at hlt'
    refine ⟨_,rfl,.inl ⟨rfl,_,SqL.of d2.at'⟩,_,rfl,_,_,rfl,rfl,(by show (0:Int) < 1000003; decide),r,_,_,rfl,rfl,d2.at',zA6 (by rw [List.length_map]; omega),?_⟩
    have v0:=Int.emod_nonneg rest (show (1000003:Int)≠0 by decide)
    have v1:=Int.emod_lt_of_pos rest (show (0:Int) < 1000003 by decide)
    refine ⟨_,rfl,_,_,rfl,rfl,zEr.of (by decide) (by decide +kernel),⟨rows ++ [rest % 1000003],_,rfl,by omega,d2.app hr0 hcr v0 v1,by rw [List.length_append,List.length_singleton]; omega⟩,?_⟩
    show (rest / 1000003).toNat < rest.toNat
    omega
   ·exact ⟨rows,_,_,_,rfl,d2,m0,m1,l2⟩
  ·exact ⟨rows,_,_,_,rfl,d2,m0,m1,l2⟩
 ·rintro σ H' ⟨rows,mix,u,v,rfl,d,hx0,hx1,hrl⟩
  rw [List.length_map] at hrl
  refine zHv (fun σ H2=>∃ (rows:List Int) (mix:Int),σ = [some (.ref a),some (.int many),some (.ref r),some (.int mix),u,v]∧zJs H r c ms H2 rows∧0≤mix∧mix < 2147483647∧rows.length≤many.toNat + 63∧H2 r = some (.lst (rows.map V.int)))
   (fun σ H2=>match H2 r with | some (.lst xs)=>many.toNat - xs.length | _=>0) ⟨rows,mix,rfl,d,hx0,hx1,by omega,d.at'⟩ ?_ (zNc (zUp zUx (mo_cb zT0 (zRt zL6 zTx)) zL6))
  rintro σ H2 ⟨rows,mix,rfl,d2,hx0,hx1,l2,ha2⟩
  refine ⟨_,rfl,r,_,rfl,.inl (SqL.of d2.at'),_,rfl,_,_,rfl,rfl,_,rfl,?_⟩
  refine ifD (fun hlt=>?_) (fun hlt=>?_)
  ·have hlt':((rows.map V.int).length:Int) < many:=hlt
   rw [List.length_map] at hlt'
   refine ⟨_,rfl,_,_,rfl,rfl,.inr ⟨by decide,by decide⟩,_,_,rfl,rfl,_,_,rfl,rfl,(by show (0:Int) < 2147483647; decide),?_⟩
   have m0:=Int.emod_nonneg (mix * 48271 + 11) (show (2147483647:Int)≠0 by decide)
   have m1:=Int.emod_lt_of_pos (mix * 48271 + 11) (show (0:Int) < 2147483647 by decide)
   refine ⟨_,rfl,.inl ⟨rfl,_,SqL.of d2.at'⟩,_,rfl,_,rfl,fun v v0 v1=>?_⟩
   refine ⟨r,_,_,rfl,rfl,d2.at',zA6 (by rw [List.length_map]; omega),⟨rows ++ [v],_,rfl,d2.app hr0 hcr v0 v1,m0,m1,by rw [List.length_append,List.length_singleton]; omega,(d2.app hr0 hcr v0 v1).at'⟩,?_⟩
   rw [ha2,zAc]
   show many.toNat - (rows.map V.int ++ [V.int v]).length < many.toNat - (rows.map V.int).length
   rw [List.length_append,List.length_map,List.length_singleton]
   omega
  ·have hlt':¬ ((rows.map V.int).length:Int) < many:=hlt
   rw [List.length_map] at hlt'
   exact ⟨_,rfl,q r rows H2 d2.same hr0 d2.at' (by omega) (by omega) d2.bd⟩
def zTi (ss:List Sd) (m:Nat):Prop:=∀ t∈ss,t.2.1.natAbs≤3 * 10 ^ 8∧t.2.2.1.natAbs≤3 * 10 ^ 8∧t.2.2.2.natAbs≤m
def zKr (K:PySem.W.Frag):Sp:=fun vs H Q _=>∃ (r l:Addr) (rows:List Int) (ss:List Sd),vs = [.ref r,.ref l]∧SqL K H r (rows.map V.int)∧2≤rows.length∧(∀ x∈rows,0≤x∧x < 1000003)∧H l = some (.lst (zAo ss))∧SdOk H ss∧ss.length≤900∧zTi ss (3 * 10 ^ 12) ∧
 ∀ (l':Addr) (ss':List Sd) (H':Hp),Same H H'→H' l' = some (.lst (zAo ss'))→ss'.length = ss.length→SdOk H' ss'→zTi ss' (4 * 10 ^ 12)→Q (.ref l') H'
theorem zPa (F:Fun K "_law_tight" "_law_tight" zHo f fd) (Z:Zs mg)  : FnOk P w K mg base CX0 1 f fd ["_law_some", "_law_sides_here"] (zKr K):=by
 refine F.ok zPz (fun vs H Q E h=>?_) (fun cdv A outer s H vs Q E hr h=>?_)
 ·obtain ⟨r,l,rows,ss,rfl,_⟩:=h
  rfl
 obtain ⟨r,l,rows,ss,rfl,hS,h2,bd,el,ok,hlen,bnd,q⟩:=h
 refine ⟨_,(zAf (zA9 (zAs zBu (zAl zA7 (zAk zAg (pv 0) zAb (fun _ _=>rfl)) zAb) zAb (zAt _)) (zAi (zAq (pv 1))) zAv)
   (zAf (zA9 (zAs zBu (zAl zA7 (zAk zAg (pv 0) zAb (fun _ _=>rfl)) zAb) zAb (zAt _)) (zAi (zAq (zC2 (T:=["_law_a", "_law_b", "_law_c"]) (caps:=[]) ⟨rfl,by decide +kernel,by decide +kernel,rfl,True.intro⟩ rfl (zCd (pv 1)) (fun _=>(zCk rfl (zAw (zAr (i:=0) (show (["_law_a", "_law_b", "_law_c"]:List Str).Nodup by decide +kernel) rfl (Or.inl rfl)) (zAw (zAr (i:=1) (show (["_law_a", "_law_b", "_law_c"]:List Str).Nodup by decide +kernel) rfl (Or.inl rfl)) (zAw (zAr (i:=2) (show (["_law_a", "_law_b", "_law_c"]:List Str).Nodup by decide +kernel) rfl (Or.inl rfl)) zBk))))) (fun _=>zBg) (fun _=>(zAz (zAa (pv 0) (zAa (pv 1) (zAa (zAl zCe (zAl zCe (pv 2) (zAu zCy rfl Z.abs zFh (zAa (pv 0) zAe))) (zAu zCy rfl Z.abs zFh (zAa (pv 1) zAe))) zAe)))))))) zAv)
   (zAi (zAq (zC2 (T:=["_law_a", "_law_b", "_law_c"]) (caps:=[("_law_some", 0)]) ⟨rfl,by decide +kernel,by decide +kernel,rfl,⟨⟨rfl,rfl,Or.inl rfl⟩,True.intro⟩⟩ rfl (zCd (pv 1)) (fun _=>(zCk rfl (zAw (zAr (i:=0) (show (["_law_a", "_law_b", "_law_c", "_law_some"]:List Str).Nodup by decide +kernel) rfl (Or.inl rfl)) (zAw (zAr (i:=1) (show (["_law_a", "_law_b", "_law_c", "_law_some"]:List Str).Nodup by decide +kernel) rfl (Or.inl rfl)) (zAw (zAr (i:=2) (show (["_law_a", "_law_b", "_law_c", "_law_some"]:List Str).Nodup by decide +kernel) rfl (Or.inl rfl)) zBk))))) (fun _=>zBg) (fun _=>(zAz (zAa (pv 0) (zAa (pv 1) (zAa (zAl zBc (zAu zCy rfl Z.abs zFh (zAa (pv 2) zAe)) (zAl zA7 (zAk zAg (pv 3) zAb (fun _ _=>rfl)) zAb)) zAe)))))))))),?_⟩
 try dsimp only [L2.cxOf]
 obtain ⟨v0,a0,_⟩:=zBw bd (k:=0) (by decide) (by omega)
 obtain ⟨v1,a1,w0,w1⟩:=zBw bd (k:=1) (by decide) (by omega)
 refine ⟨_,rfl,r,_,_,_,rfl,rfl,.inl hS,a0,_,_,rfl,rfl,(by show (0:Int) < 3; decide),rfl,_,rfl,?_⟩
 refine ifE (fun _=>?_) (fun _=>?_)
 ·exact ⟨_,rfl,q l ss H (Same.refl _) el rfl ok fun t ht=>⟨(bnd t ht).1,(bnd t ht).2.1,by have:=(bnd t ht).2.2; omega⟩⟩
 refine ⟨_,rfl,r,_,_,_,rfl,rfl,.inl hS,a0,_,_,rfl,rfl,(by show (0:Int) < 3; decide),rfl,_,rfl,?_⟩
 refine ifE (fun _=>?_) (fun _=>?_)
 ·show _
  refine ⟨_,rfl,l,rfl,.inl ⟨⟨_,SqL.of el⟩,fun cc D hD=>zBx (K:=K) (a:=l) (xs:=zAo ss) (fun i σ ys G=>∃ sa:List Sd,ys = zAo sa∧sa.length = i∧SdSt H D sa G∧zTi sa (4 * 10 ^ 12)∧∃ u0 u1 u2:Option V,σ = [u0,u1,u2])
   ⟨[],rfl,rfl,⟨zAd hD _,hD,zAc,(fun t ht=>nomatch ht)⟩,(fun t ht=>nomatch ht),none,none,none,rfl⟩ (fun i σ ys G _ ⟨sa,e1,_,Pq,_⟩=>⟨SqL.of (Pq.same _ _ el),by rw [e1]; exact Pq.at'⟩) ?_ ?_⟩⟩
  ·rintro i x σ ys Gc hi ⟨sa,rfl,na,Pc,bc,u0,u1,u2,rfl⟩
   obtain ⟨t,gt,rfl,hil⟩:=zBv hi
   obtain ⟨et,nt,_⟩:=ok t (List.mem_of_getElem? gt)
   obtain ⟨b1,b2,b3⟩:=bnd t (List.mem_of_getElem? gt)
   refine ⟨t.1,_,rfl,SqT.of (Pc.same _ _ et),rfl,.int t.2.1,_,rfl,.int t.2.2.1,_,rfl,.int t.2.2.2,_,rfl,rfl,?_⟩
   have nb:(t.2.2.2 - (if t.2.1 < 0 then -t.2.1 else t.2.1) - (if t.2.2.1 < 0 then -t.2.2.1 else t.2.2.1)).natAbs≤4 * 10 ^ 12:=by
    split <;> first | omega | (split <;> omega)
   refine ⟨_,rfl,_,rfl,_,rfl,_,rfl,_,rfl,_,_,rfl,rfl,_,rfl,_,rfl,_,_,rfl,rfl,(by show 3≤sizeLine; decide),fun p hp=>?_⟩
   have sp:=zAd hp (.tup [.int t.2.1,.int t.2.2.1,.int (t.2.2.2 - (if t.2.1 < 0 then -t.2.1 else t.2.1) - (if t.2.2.1 < 0 then -t.2.2.1 else t.2.2.1))])
   refine ⟨sp _ _ Pc.at',zA6 (by rw [zAm]; omega),sa ++ [(p,t.2.1,t.2.2.1,(t.2.2.2 - (if t.2.1 < 0 then -t.2.1 else t.2.1) - (if t.2.2.1 < 0 then -t.2.2.1 else t.2.2.1)))],by simp [zAo],by rw [List.length_append,na]; rfl,Pc.app sp hp zAc nt (by omega) (by omega) (by omega),fun u hu=>(List.mem_append.mp hu).elim (bc u) fun h=>by rw [List.mem_singleton] at h; subst h; exact ⟨b1,b2,nb⟩,_,_,_,rfl⟩
  ·rintro σ ys Gc ⟨sa,rfl,na,Pc,bc,u0,u1,u2,rfl⟩
   rw [zAm] at na
   exact q D sa Gc Pc.same Pc.at' na Pc.all bc
 ·show _
  refine ⟨_,rfl,l,rfl,.inl ⟨⟨_,SqL.of el⟩,fun cc D hD=>zBx (K:=K) (a:=l) (xs:=zAo ss) (fun i σ ys G=>∃ sa:List Sd,ys = zAo sa∧sa.length = i∧SdSt H D sa G∧zTi sa (4 * 10 ^ 12)∧∃ u0 u1 u2:Option V,σ = [u0,u1,u2,some (.ref r)])
   ⟨[],rfl,rfl,⟨zAd hD _,hD,zAc,(fun t ht=>nomatch ht)⟩,(fun t ht=>nomatch ht),none,none,none,rfl⟩ (fun i σ ys G _ ⟨sa,e1,_,Pq,_⟩=>⟨SqL.of (Pq.same _ _ el),by rw [e1]; exact Pq.at'⟩) ?_ ?_⟩⟩
  ·rintro i x σ ys Gc hi ⟨sa,rfl,na,Pc,bc,u0,u1,u2,rfl⟩
   obtain ⟨t,gt,rfl,hil⟩:=zBv hi
   obtain ⟨et,nt,_⟩:=ok t (List.mem_of_getElem? gt)
   obtain ⟨b1,b2,b3⟩:=bnd t (List.mem_of_getElem? gt)
   refine ⟨t.1,_,rfl,SqT.of (Pc.same _ _ et),rfl,.int t.2.1,_,rfl,.int t.2.2.1,_,rfl,.int t.2.2.2,_,rfl,rfl,?_⟩
   have nb:((if t.2.2.2 < 0 then -t.2.2.2 else t.2.2.2) + v1 % 4).natAbs≤4 * 10 ^ 12:=by
    split <;> first | omega | (split <;> omega)
   refine ⟨_,rfl,_,rfl,_,rfl,_,rfl,_,rfl,r,_,_,_,rfl,rfl,.inl (Pc.same.seq hS),a1,_,_,rfl,rfl,(by show (0:Int) < 4; decide),_,_,rfl,rfl,(by show 3≤sizeLine; decide),fun p hp=>?_⟩
   have sp:=zAd hp (.tup [.int t.2.1,.int t.2.2.1,.int ((if t.2.2.2 < 0 then -t.2.2.2 else t.2.2.2) + v1 % 4)])
   refine ⟨sp _ _ Pc.at',zA6 (by rw [zAm]; omega),sa ++ [(p,t.2.1,t.2.2.1,((if t.2.2.2 < 0 then -t.2.2.2 else t.2.2.2) + v1 % 4))],by simp [zAo],by rw [List.length_append,na]; rfl,Pc.app sp hp zAc nt (by omega) (by omega) (by omega),fun u hu=>(List.mem_append.mp hu).elim (bc u) fun h=>by rw [List.mem_singleton] at h; subst h; exact ⟨b1,b2,nb⟩,_,_,_,rfl⟩
  ·rintro σ ys Gc ⟨sa,rfl,na,Pc,bc,u0,u1,u2,rfl⟩
   rw [zAm] at na
   exact q D sa Gc Pc.same Pc.at' na Pc.all bc
def zK7 (_:PySem.W.Frag):Sp:=fun vs H Q _=>∃ (o t wd:Int),vs = [.int o,.int t,.int wd]∧1≤wd∧wd≤1000000 ∧
 ∀ (p:Addr) (x y:Int) (H':Hp),Same H H'→H p = none→H' p = some (.tup [.int x,.int y])→(x≠0∨y≠0)→x.natAbs≤wd.natAbs→y.natAbs≤wd.natAbs→Q (.ref p) H'
theorem zTa (F:Fun K "_law_way" "_law_way" zKz f fd) (Z:Zs mg)  : FnOk P w K mg base CX0 1 f fd ["_law_one", "_law_two", "_law_wide"] (zK7 K):=by
 refine F.ok zIm (fun vs H Q E h=>?_) (fun cdv A outer s H vs Q E hr h=>?_)
 ·obtain ⟨o,t,wd,rfl,_⟩:=h
  rfl
 obtain ⟨o,t,wd,rfl,w1,w2,q⟩:=h
 refine ⟨_,(zAf (zAy (i:=3) zIm.nd rfl (Or.inl rfl) (zAl zCe (zAl zA7 (pv 0) (zAl zBc (zAl zA0 zAb (pv 2)) zAb)) (pv 2)))
   (zAf (zAy (i:=4) zIm.nd rfl (Or.inl rfl) (zAl zCe (zAl zA7 (pv 1) (zAl zBc (zAl zA0 zAb (pv 2)) zAb)) (pv 2)))
   (zAf (zA9 (PW.pt (zFm (zAs zBu (pv 3) zAb (zAt _)) (zEe (zAs zBu (pv 4) zAb (zAt _))))) (zAi (zAy (i:=3) zIm.nd rfl (Or.inl rfl) (zAl zCe zAb (zAl zA0 zAb (zAl zA7 (pv 0) zAb))))) zAv)
   (zAi (zAq (zAz (zAa (pv 3) (zAa (pv 4) zAe)))))))),?_⟩
 try dsimp only [L2.cxOf]
 have x0:=Int.emod_nonneg o (show 2 * wd + 1≠0 by omega)
 have x1:=Int.emod_lt_of_pos o (show 0 < 2 * wd + 1 by omega)
 have y0:=Int.emod_nonneg t (show 2 * wd + 1≠0 by omega)
 have y1:=Int.emod_lt_of_pos t (show 0 < 2 * wd + 1 by omega)
 refine ⟨_,rfl,_,rfl,_,_,rfl,rfl,.inl ⟨by decide,by decide⟩,_,_,rfl,rfl,_,_,rfl,rfl,(by show 0 < 2 * wd + 1; omega),_,rfl,_,_,rfl,rfl,?_⟩
 refine ⟨_,rfl,_,rfl,_,_,rfl,rfl,.inl ⟨by decide,by decide⟩,_,_,rfl,rfl,_,_,rfl,rfl,(by show 0 < 2 * wd + 1; omega),_,rfl,_,_,rfl,rfl,?_⟩
 refine ⟨_,rfl,rfl,_,rfl,?_⟩
 refine ifE (fun hx=>?_) (fun hx=>?_)
 ·refine ⟨_,rfl,rfl,_,rfl,?_⟩
  refine ifE (fun hy=>?_) (fun hy=>?_)
  ·refine ⟨_,rfl,_,_,rfl,rfl,(by show (0:Int) < 2; decide),_,_,rfl,rfl,.inl ⟨by decide,by decide⟩,_,_,rfl,rfl,?_⟩
   refine ⟨_,rfl,_,rfl,(by show 2≤sizeLine; decide),fun p hp=>?_⟩
   exact q p _ _ _ (zAd hp _) hp zAc (by left; omega) (by omega) (by omega)
  ·refine ⟨_,rfl,_,rfl,(by show 2≤sizeLine; decide),fun p hp=>?_⟩
   exact q p _ _ _ (zAd hp _) hp zAc (.inr hy) (by omega) (by omega)
 ·refine iteF ?_
  refine ⟨_,rfl,_,rfl,(by show 2≤sizeLine; decide),fun p hp=>?_⟩
  exact q p _ _ _ (zAd hp _) hp zAc (.inl hx) (by omega) (by omega)
theorem zIz {x y C v0 v1 v3:Int} (hn:x≠0∨y≠0) (mx:x.natAbs≤2000) (my:y.natAbs≤2000) (mc:C.natAbs≤1000000):(997 * x + v0 % 5 - 2≠0∨997 * y + v1 % 5 - 2≠0)∧(997 * x + v0 % 5 - 2).natAbs≤10 ^ 7∧(997 * y + v1 % 5 - 2).natAbs≤10 ^ 7∧(997 * C + v3 % 900).natAbs≤10 ^ 10 :=
 ⟨by clear mx my mc; omega,by clear my mc hn; omega,by clear mx mc hn; omega,by clear mx my hn; omega⟩
def zL4 (K:PySem.W.Frag):Sp:=fun vs H Q _=>∃ (a:Addr) (rows:List Int),vs = [.ref a]∧SqL K H a (rows.map V.int)∧5≤rows.length∧(∀ x∈rows,0≤x∧x < 1000003) ∧
 ∀ (p:Addr) (A B C:Int) (H':Hp),Same H H'→H p = none→H' p = some (.tup [.int A,.int B,.int C])→(A≠0∨B≠0)→A.natAbs≤10 ^ 7→B.natAbs≤10 ^ 7→C.natAbs≤10 ^ 10→Q (.ref p) H'
theorem zQf (F:Fun K "_law_side" "_law_side" zIq f fd) (Z:Zs mg) (h_L_way:Has P w K mg base "_law_way" 1 ["_law_one", "_law_two", "_law_wide"] (zK7 K)):FnOk P w K mg base CX0 2 f fd ["_law_d"] (zL4 K):=by
 refine F.ok zE5 (fun vs H Q E h=>?_) (fun cdv A outer s H vs Q E hr h=>?_)
 ·obtain ⟨a,rows,rfl,_⟩:=h
  rfl
 obtain ⟨a,rows,rfl,hS,hl,bd,q⟩:=h
 refine ⟨_,(zAf (zEc (zAh h_L_way (hr.mono (by decide)) rfl (zAa (zAk zAg (pv 0) zAb (fun _ _=>rfl)) (zAa (zAk zAg (pv 0) zAb (fun _ _=>rfl)) (zAa (zAk zAg (zCb (zAa zAb (zAa zAb (zAa zAb (zAa zAb (zAa zAb zAe)))))) (zAl zA7 (zAk zAg (pv 0) zAb (fun _ _=>rfl)) zAb) (fun _ _=>rfl)) zAe)))) (zCk rfl (zAw (zAr (i:=1) zE5.nd rfl (Or.inl rfl)) (zAw (zAr (i:=2) zE5.nd rfl (Or.inl rfl)) zBk))))
   (zAf (zAy (i:=3) zE5.nd rfl (Or.inl rfl) (zAl zCe (zAl zA7 (zAk zAg (pv 0) zAb (fun _ _=>rfl)) zAb) zAb))
   (zAf (zA9 (zAs zBu (zAl zA7 (zAk zAg (pv 0) zAb (fun _ _=>rfl)) zAb) zAb (zAt _)) (zAi (zAy (i:=3) zE5.nd rfl (Or.inl rfl) (zAl zCe (zAl zA7 (zAk zAg (pv 0) zAb (fun _ _=>rfl)) zAb) zAb))) zAv)
   (zAf (zA9 (zAs zBu (zAl zA7 (zAk zAg (pv 0) zAb (fun _ _=>rfl)) zAb) zAb (zAt _)) (zAi (zAy (i:=3) zE5.nd rfl (Or.inl rfl) (zAl zBc (zAl zA0 (pv 1) (zAl zCe (zAl zA7 (zAk zAg (pv 0) zAb (fun _ _=>rfl)) zAb) zAb)) (zAl zA0 (pv 2) (zAl zCe (zAl zA7 (zAl zCx (zAk zAg (pv 0) zAb (fun _ _=>rfl)) zAb) zAb) zAb))))) zAv)
   (zAf (zA9 (zAs zBu (zAl zA7 (zAl zCx (zAk zAg (pv 0) zAb (fun _ _=>rfl)) zAb) zAb) zAb (zAt _)) (zAi (zAq (zAz (zAa (zAl zCe (zAl zBc (zAl zA0 zAb (pv 1)) (zAl zA7 (zAk zAg (pv 0) zAb (fun _ _=>rfl)) zAb)) zAb) (zAa (zAl zCe (zAl zBc (zAl zA0 zAb (pv 2)) (zAl zA7 (zAk zAg (pv 0) zAb (fun _ _=>rfl)) zAb)) zAb) (zAa (zAl zBc (zAl zA0 zAb (pv 3)) (zAl zA7 (zAk zAg (pv 0) zAb (fun _ _=>rfl)) zAb)) zAe)))))) zAv)
   (zAi (zAq (zAz (zAa (pv 1) (zAa (pv 2) (zAa (pv 3) zAe))))))))))),?_⟩
 try dsimp only [L2.cxOf]
 obtain ⟨v0,a0,b00,b01⟩:=zBw bd (k:=0) (by decide) (by omega)
 obtain ⟨v1,a1,b10,b11⟩:=zBw bd (k:=1) (by decide) (by omega)
 obtain ⟨v2,a2,b20,b21⟩:=zBw bd (k:=2) (by decide) (by omega)
 obtain ⟨v3,a3,b30,b31⟩:=zBw bd (k:=3) (by decide) (by omega)
 obtain ⟨v4,a4,b40,b41⟩:=zBw bd (k:=4) (by decide) (by omega)
 refine ⟨_,rfl,a,_,_,_,rfl,rfl,.inl hS,a0,_,rfl,a,_,_,_,rfl,rfl,.inl hS,a1,(by show 5≤sizeLine; decide),fun c hc=>?_⟩
 have s1:=zAd hc (.lst [.int 3,.int 3,.int 3,.int 100,.int 2000])
 obtain ⟨wd,hw,hw1,hw2⟩:∃ b:Int,atI [V.int 3,V.int 3,V.int 3,V.int 100,V.int 2000] (v4 % 5) = some (.int b)∧1≤b∧b≤2000:=by
  have c0:=Int.emod_nonneg v4 (show (5:Int)≠0 by decide)
  have c1:=Int.emod_lt_of_pos v4 (show (0:Int) < 5 by decide)
  have cc:v4 % 5 = 0∨v4 % 5 = 1∨v4 % 5 = 2∨v4 % 5 = 3∨v4 % 5 = 4:=by omega
  rcases cc with e | e | e | e | e
  ·exact ⟨3,by rw [e]; rfl,by decide,by decide⟩
  ·exact ⟨3,by rw [e]; rfl,by decide,by decide⟩
  ·exact ⟨3,by rw [e]; rfl,by decide,by decide⟩
  ·exact ⟨100,by rw [e]; rfl,by decide,by decide⟩
  ·exact ⟨2000,by rw [e]; rfl,by decide,by decide⟩
 refine ⟨_,rfl,a,_,_,_,rfl,rfl,.inl (s1.seq hS),a4,_,_,rfl,rfl,(by show (0:Int) < 5; decide),c,_,_,.int wd,rfl,rfl,.inl (SqL.of zAc),hw,v0,v1,wd,rfl,hw1,by omega,fun p x y H2 s2' hp e2 hn n1 n2=>?_⟩
 have s2:=s1.trans s2'
 have mx:x.natAbs≤2000:=by omega
 have my:y.natAbs≤2000:=by omega
 refine ⟨p,[.int x,.int y],rfl,SqT.of e2,rfl,.int x,[.int y],rfl,.int y,[],rfl,rfl,?_⟩
 refine ⟨_,rfl,a,_,_,_,rfl,rfl,.inl (s2.seq hS),a2,_,_,rfl,rfl,(by show (0:Int) < 19; decide),_,_,rfl,rfl,?_⟩
 refine ⟨_,rfl,a,_,_,_,rfl,rfl,.inl (s2.seq hS),a3,_,_,rfl,rfl,(by show (0:Int) < 4; decide),rfl,_,rfl,?_⟩
 refine ifE (fun _=>?_) (fun _=>?_)
 ·refine ⟨_,rfl,a,_,_,_,rfl,rfl,.inl (s2.seq hS),a2,_,_,rfl,rfl,(by show (0:Int) < 1000001; decide),_,_,rfl,rfl,?_⟩
  refine ⟨_,rfl,a,_,_,_,rfl,rfl,.inl (s2.seq hS),a3,_,_,rfl,rfl,(by show (0:Int) < 4; decide),rfl,_,rfl,?_⟩
  refine ifE (fun _=>?_) (fun _=>?_)
  ·refine ⟨_,rfl,_,rfl,a,_,_,_,rfl,rfl,.inl (s2.seq hS),a2,_,_,rfl,rfl,(by show (0:Int) < 9; decide),_,_,rfl,rfl,_,_,rfl,rfl,cm_l (by omega),
    _,rfl,_,rfl,a,_,_,_,rfl,rfl,.inl (s2.seq hS),a2,_,_,rfl,rfl,zEr.of (by decide) (by decide +kernel),_,_,rfl,rfl,(by show (0:Int) < 9; decide),_,_,rfl,rfl,_,_,rfl,rfl,cm_l (by omega),_,_,rfl,rfl,?_⟩
   have z1:=zAj x (v2 % 9 - 4) (m:=2000) (n:=4) mx (by omega)
   have z2:=zAj y (v2 / 9 % 9 - 4) (m:=2000) (n:=4) my (by omega)
   have mc:((x * (v2 % 9 - 4) + y * (v2 / 9 % 9 - 4))).natAbs≤1000000:=by omega
   refine ⟨_,rfl,a,_,_,_,rfl,rfl,.inl (s2.seq hS),a4,_,_,rfl,rfl,zEr.of (by decide) (by decide +kernel),_,_,rfl,rfl,(by show (0:Int) < 12; decide),rfl,_,rfl,?_⟩
   refine ifE (fun _=>?_) (fun _=>?_)
   ·refine ⟨_,rfl,_,_,rfl,rfl,.inl ⟨by decide,by decide⟩,_,rfl,a,_,_,_,rfl,rfl,.inl (s2.seq hS),a0,_,_,rfl,rfl,(by show (0:Int) < 5; decide),_,_,rfl,rfl,_,_,rfl,rfl,
     _,rfl,_,_,rfl,rfl,.inl ⟨by decide,by decide⟩,_,rfl,a,_,_,_,rfl,rfl,.inl (s2.seq hS),a1,_,_,rfl,rfl,(by show (0:Int) < 5; decide),_,_,rfl,rfl,_,_,rfl,rfl,
     _,rfl,_,_,rfl,rfl,.inl ⟨by decide,by decide⟩,_,rfl,a,_,_,_,rfl,rfl,.inl (s2.seq hS),a3,_,_,rfl,rfl,(by show (0:Int) < 900; decide),_,_,rfl,rfl,(by show 3≤sizeLine; decide),fun r hr0=>?_⟩
    have sb:=zIz (v0:=v0) (v1:=v1) (v3:=v3) hn mx my mc
    exact q r _ _ _ _ (s2.trans (zAd hr0 _)) (s2.free hr0) zAc sb.1 sb.2.1 sb.2.2.1 sb.2.2.2
   ·refine ⟨_,rfl,_,rfl,_,rfl,(by show 3≤sizeLine; decide),fun r hr0=>?_⟩
    exact q r _ _ _ _ (s2.trans (zAd hr0 _)) (s2.free hr0) zAc hn (Nat.le_trans mx (by decide)) (Nat.le_trans my (by decide)) (Nat.le_trans mc (by decide))
  ·skip
   have mc:((v2 % 1000001 - 300000)).natAbs≤1000000:=by omega
   refine ⟨_,rfl,a,_,_,_,rfl,rfl,.inl (s2.seq hS),a4,_,_,rfl,rfl,zEr.of (by decide) (by decide +kernel),_,_,rfl,rfl,(by show (0:Int) < 12; decide),rfl,_,rfl,?_⟩
   refine ifE (fun _=>?_) (fun _=>?_)
   ·refine ⟨_,rfl,_,_,rfl,rfl,.inl ⟨by decide,by decide⟩,_,rfl,a,_,_,_,rfl,rfl,.inl (s2.seq hS),a0,_,_,rfl,rfl,(by show (0:Int) < 5; decide),_,_,rfl,rfl,_,_,rfl,rfl,
     _,rfl,_,_,rfl,rfl,.inl ⟨by decide,by decide⟩,_,rfl,a,_,_,_,rfl,rfl,.inl (s2.seq hS),a1,_,_,rfl,rfl,(by show (0:Int) < 5; decide),_,_,rfl,rfl,_,_,rfl,rfl,
     _,rfl,_,_,rfl,rfl,.inl ⟨by decide,by decide⟩,_,rfl,a,_,_,_,rfl,rfl,.inl (s2.seq hS),a3,_,_,rfl,rfl,(by show (0:Int) < 900; decide),_,_,rfl,rfl,(by show 3≤sizeLine; decide),fun r hr0=>?_⟩
    have sb:=zIz (v0:=v0) (v1:=v1) (v3:=v3) hn mx my mc
    exact q r _ _ _ _ (s2.trans (zAd hr0 _)) (s2.free hr0) zAc sb.1 sb.2.1 sb.2.2.1 sb.2.2.2
   ·refine ⟨_,rfl,_,rfl,_,rfl,(by show 3≤sizeLine; decide),fun r hr0=>?_⟩
    exact q r _ _ _ _ (s2.trans (zAd hr0 _)) (s2.free hr0) zAc hn (Nat.le_trans mx (by decide)) (Nat.le_trans my (by decide)) (Nat.le_trans mc (by decide))
 ·skip
  refine ⟨_,rfl,a,_,_,_,rfl,rfl,.inl (s2.seq hS),a3,_,_,rfl,rfl,(by show (0:Int) < 4; decide),rfl,_,rfl,?_⟩
  refine ifE (fun _=>?_) (fun _=>?_)
  ·refine ⟨_,rfl,_,rfl,a,_,_,_,rfl,rfl,.inl (s2.seq hS),a2,_,_,rfl,rfl,(by show (0:Int) < 9; decide),_,_,rfl,rfl,_,_,rfl,rfl,cm_l (by omega),
    _,rfl,_,rfl,a,_,_,_,rfl,rfl,.inl (s2.seq hS),a2,_,_,rfl,rfl,zEr.of (by decide) (by decide +kernel),_,_,rfl,rfl,(by show (0:Int) < 9; decide),_,_,rfl,rfl,_,_,rfl,rfl,cm_l (by omega),_,_,rfl,rfl,?_⟩
   have z1:=zAj x (v2 % 9 - 4) (m:=2000) (n:=4) mx (by omega)
   have z2:=zAj y (v2 / 9 % 9 - 4) (m:=2000) (n:=4) my (by omega)
   have mc:((x * (v2 % 9 - 4) + y * (v2 / 9 % 9 - 4))).natAbs≤1000000:=by omega
   refine ⟨_,rfl,a,_,_,_,rfl,rfl,.inl (s2.seq hS),a4,_,_,rfl,rfl,zEr.of (by decide) (by decide +kernel),_,_,rfl,rfl,(by show (0:Int) < 12; decide),rfl,_,rfl,?_⟩
   refine ifE (fun _=>?_) (fun _=>?_)
   ·refine ⟨_,rfl,_,_,rfl,rfl,.inl ⟨by decide,by decide⟩,_,rfl,a,_,_,_,rfl,rfl,.inl (s2.seq hS),a0,_,_,rfl,rfl,(by show (0:Int) < 5; decide),_,_,rfl,rfl,_,_,rfl,rfl,
     _,rfl,_,_,rfl,rfl,.inl ⟨by decide,by decide⟩,_,rfl,a,_,_,_,rfl,rfl,.inl (s2.seq hS),a1,_,_,rfl,rfl,(by show (0:Int) < 5; decide),_,_,rfl,rfl,_,_,rfl,rfl,
     _,rfl,_,_,rfl,rfl,.inl ⟨by decide,by decide⟩,_,rfl,a,_,_,_,rfl,rfl,.inl (s2.seq hS),a3,_,_,rfl,rfl,(by show (0:Int) < 900; decide),_,_,rfl,rfl,(by show 3≤sizeLine; decide),fun r hr0=>?_⟩
    have sb:=zIz (v0:=v0) (v1:=v1) (v3:=v3) hn mx my mc
    exact q r _ _ _ _ (s2.trans (zAd hr0 _)) (s2.free hr0) zAc sb.1 sb.2.1 sb.2.2.1 sb.2.2.2
   ·refine ⟨_,rfl,_,rfl,_,rfl,(by show 3≤sizeLine; decide),fun r hr0=>?_⟩
    exact q r _ _ _ _ (s2.trans (zAd hr0 _)) (s2.free hr0) zAc hn (Nat.le_trans mx (by decide)) (Nat.le_trans my (by decide)) (Nat.le_trans mc (by decide))
  ·skip
   have mc:((v2 % 19 - 4)).natAbs≤1000000:=by omega
   refine ⟨_,rfl,a,_,_,_,rfl,rfl,.inl (s2.seq hS),a4,_,_,rfl,rfl,zEr.of (by decide) (by decide +kernel),_,_,rfl,rfl,(by show (0:Int) < 12; decide),rfl,_,rfl,?_⟩
   refine ifE (fun _=>?_) (fun _=>?_)
   ·refine ⟨_,rfl,_,_,rfl,rfl,.inl ⟨by decide,by decide⟩,_,rfl,a,_,_,_,rfl,rfl,.inl (s2.seq hS),a0,_,_,rfl,rfl,(by show (0:Int) < 5; decide),_,_,rfl,rfl,_,_,rfl,rfl,
     _,rfl,_,_,rfl,rfl,.inl ⟨by decide,by decide⟩,_,rfl,a,_,_,_,rfl,rfl,.inl (s2.seq hS),a1,_,_,rfl,rfl,(by show (0:Int) < 5; decide),_,_,rfl,rfl,_,_,rfl,rfl,
     _,rfl,_,_,rfl,rfl,.inl ⟨by decide,by decide⟩,_,rfl,a,_,_,_,rfl,rfl,.inl (s2.seq hS),a3,_,_,rfl,rfl,(by show (0:Int) < 900; decide),_,_,rfl,rfl,(by show 3≤sizeLine; decide),fun r hr0=>?_⟩
    have sb:=zIz (v0:=v0) (v1:=v1) (v3:=v3) hn mx my mc
    exact q r _ _ _ _ (s2.trans (zAd hr0 _)) (s2.free hr0) zAc sb.1 sb.2.1 sb.2.2.1 sb.2.2.2
   ·refine ⟨_,rfl,_,rfl,_,rfl,(by show 3≤sizeLine; decide),fun r hr0=>?_⟩
    exact q r _ _ _ _ (s2.trans (zAd hr0 _)) (s2.free hr0) zAc hn (Nat.le_trans mx (by decide)) (Nat.le_trans my (by decide)) (Nat.le_trans mc (by decide))
theorem zO4 {K:PySem.W.Frag} {l D:Addr} {xs:List V} {g:TG} {te:TE} {σ0:St} {H1:Hp} {Q:VK} (Pv:Nat→St→List V→Hp→Prop) (h0:Pv 0 σ0 [] (upd H1 D (.lst []))) (hl:∀ i σ zs H,Pv i σ zs H→SqL K H l xs∧H D = some (.lst zs))
  (hs:∀ i x T σ zs H,xs[i]? = some x→H T = none→Pv i σ zs H→g (.ref T) σ (upd H T (.tup [.int i,x])) fun σ2 H2=>te σ2 H2 fun z H4=>H4 D = some (.lst zs)∧zs.length < sizeLine∧Pv (i + 1) σ2 (zs ++ [z]) (upd H4 D (.lst (zs ++ [z]))))
  (hd:∀ σ zs H,Pv xs.length σ zs H→Q (.ref D) H):zJb (Ite K l) D g tYes te σ0 H1 Q:=zQt Pv h0 hl (fun i x T σ zs H e1 e2 p=>hs i x T σ zs H e1 e2 p) hd
theorem zP2 (ss:List Sd) (j:Nat) (t:Sd):(zAo ss).set j (.ref t.1) = zAo (ss.set j t):=by
 simp [zAo,List.map_set]
theorem cutS2 {ok:Addr→List Sd→Hp→Prop} {G:Prop} {R:Addr→List Sd→Hp→Option V→Option V→Prop} (h1:(∀ D ss H u v,ok D ss H→R D ss H u v)→G) (h2:∀ D ss H u v,ok D ss H→R D ss H u v):G:=h1 h2
def zKj (K:PySem.W.Frag):Sp:=fun vs H Q _=>∃ (r:Addr) (rows:List Int) (m:Int),vs = [.ref r,.int m]∧SqL K H r (rows.map V.int)∧0≤m∧m≤60∧3≤rows.length∧3 + 5 * m≤rows.length∧(∀ x∈rows,0≤x∧x < 1000003) ∧
 ∀ (l:Addr) (ss:List Sd) (H':Hp),Same H H'→H l = none→H' l = some (.lst (zAo ss))→ss.length = m.toNat→SdOk H' ss→(∀ t∈ss,t.2.1.natAbs≤3 * 10 ^ 8∧t.2.2.1.natAbs≤3 * 10 ^ 8∧t.2.2.2.natAbs≤3 * 10 ^ 12)→Q (.ref l) H'
theorem zPd (F:Fun K "_law_sides" "_law_sides" zHu f fd) (Z:Zs mg) (h_L_side:Has P w K mg base "_law_side" 2 ["_law_d"] (zL4 K)):FnOk P w K mg base CX0 3 f fd ["_law_some", "_law_many"] (zKj K):=by
 refine F.ok zD8 (fun vs H Q E h=>?_) (fun cdv A outer s H vs Q E hr h=>?_)
 ·obtain ⟨r,rows,m,rfl,_⟩:=h
  rfl
 obtain ⟨r,rows,m,rfl,hS,m0,m60,hl3,hl,bd,q⟩:=h
 refine ⟨_,(zAf (zD7 (T:=["_law_k"]) (caps:=[("_law_some", 0)]) (i:=2) zD8.nd rfl rfl ⟨rfl,by decide +kernel,by decide +kernel,rfl,⟨⟨rfl,rfl,Or.inl rfl⟩,True.intro⟩⟩ rfl (zC9 rfl Z.range (zAa (pv 1) zAe)) (fun _=>(zAr (i:=0) (show (["_law_k", "_law_some"]:List Str).Nodup by decide +kernel) rfl (Or.inl rfl))) (fun _=>zBg) (fun _=>(zAh h_L_side (hr.mono (by decide)) rfl (zAa (zBs zCt (pv 1) (zB8 (zAl zBc zAb (zAl zA0 zAb (pv 0)))) zB3) zAe))))
   (zAf (zA9 (PW.pt (zFm (zAs zHa (pv 1) zAb (zAt _)) (zEe (zAs zBu (zAl zA7 (zAk zAg (pv 0) zAb (fun _ _=>rfl)) zAb) zAb (zAt _))))) (zAi (zEc (zAk zAg (pv 2) (zAl zA7 (zAk zAg (pv 0) zAb (fun _ _=>rfl)) (pv 1)) (fun _ _=>rfl)) (zKq (pv 2) (zAl zA7 (zAk zAg (pv 0) zAb (fun _ _=>rfl)) (pv 1)) zGf))) zAv)
   (zAf (zA9 (zAs zBu (zAl zA7 (zAl zCx (zAk zAg (pv 0) zAb (fun _ _=>rfl)) zAb) zAb) zAb (zAt _)) (zAf (zEc (zAz (zAa (zAl zCe (zAl zA7 (zAk zAg (pv 0) zAb (fun _ _=>rfl)) zAb) zAb) (zAa (zAl zCe (zAl zA7 (zAk zAg (pv 0) zAb (fun _ _=>rfl)) zAb) zAb) zAe))) (zCk rfl (zAw (zAr (i:=3) zD8.nd rfl (Or.inr rfl)) (zAw (zAr (i:=4) zD8.nd rfl (Or.inr rfl)) zBk))))
   (zAi (zD7 (T:=["_law_a", "_law_b", "_law_c"]) (caps:=[("_law_x", 3),("_law_y", 4)]) (i:=2) zD8.nd rfl rfl ⟨rfl,by decide +kernel,by decide +kernel,rfl,⟨⟨rfl,rfl,Or.inl rfl⟩,⟨rfl,rfl,Or.inl rfl⟩,True.intro⟩⟩ rfl (zCd (pv 2)) (fun _=>(zCk rfl (zAw (zAr (i:=0) (show (["_law_a", "_law_b", "_law_c", "_law_x", "_law_y"]:List Str).Nodup by decide +kernel) rfl (Or.inl rfl)) (zAw (zAr (i:=1) (show (["_law_a", "_law_b", "_law_c", "_law_x", "_law_y"]:List Str).Nodup by decide +kernel) rfl (Or.inl rfl)) (zAw (zAr (i:=2) (show (["_law_a", "_law_b", "_law_c", "_law_x", "_law_y"]:List Str).Nodup by decide +kernel) rfl (Or.inl rfl)) zBk))))) (fun _=>zBg) (fun _=>(zAz (zAa (pv 0) (zAa (pv 1) (zAa (zAl zBc (zAl zBc (pv 2) (zAl zA0 (pv 0) (pv 3))) (zAl zA0 (pv 1) (pv 4))) zAe)))))))) zAv)
   (zAf (zA9 (zAs zBu (zAl zA7 (zAl zCx (zAk zAg (pv 0) zAb (fun _ _=>rfl)) zAb) zAb) zAb (zAt _)) (zAi (zD7 (T:=["_law_k", "_law_a", "_law_b", "_law_c"]) (caps:=[]) (i:=2) zD8.nd rfl rfl ⟨rfl,by decide +kernel,by decide +kernel,rfl,True.intro⟩ rfl (zRn rfl Z.enumerate (zAa (pv 2) zAe)) (fun _=>(zCk rfl (zAw (zAr (i:=0) (show (["_law_k", "_law_a", "_law_b", "_law_c"]:List Str).Nodup by decide +kernel) rfl (Or.inl rfl)) (zAw (zCk rfl (zAw (zAr (i:=1) (show (["_law_k", "_law_a", "_law_b", "_law_c"]:List Str).Nodup by decide +kernel) rfl (Or.inl rfl)) (zAw (zAr (i:=2) (show (["_law_k", "_law_a", "_law_b", "_law_c"]:List Str).Nodup by decide +kernel) rfl (Or.inl rfl)) (zAw (zAr (i:=3) (show (["_law_k", "_law_a", "_law_b", "_law_c"]:List Str).Nodup by decide +kernel) rfl (Or.inl rfl)) zBk)))) zBk)))) (fun _=>zBg) (fun _=>(zSm (zAs zBu (zAl zA7 (pv 0) zAb) zAb (zAt _)) (zAz (zAa (zAl zA0 zAb (pv 1)) (zAa (zAl zA0 zAb (pv 2)) (zAa (zAl zA0 zAb (pv 3)) zAe)))) (zAz (zAa (pv 1) (zAa (pv 2) (zAa (pv 3) zAe)))))))) zAv)
   (zAi (zAq (pv 2))))))),?_⟩
 try dsimp only [L2.cxOf]
 obtain ⟨v0,a0,_⟩:=zBw bd (k:=0) (by decide) (by omega)
 obtain ⟨v1,a1,_⟩:=zBw bd (k:=1) (by decide) (by omega)
 obtain ⟨v2,a2,_⟩:=zBw bd (k:=2) (by decide) (by omega)
 have cutD:∀ k:Nat,k≤rows.length→cutV (rows.map V.int) (some (k:Int)) none = (rows.drop k).map V.int:=fun k hk=>by
  rw [zJu,HT.sIx_nat rows.length 0 k,show min k rows.length = k by omega,show HT.sIx rows.length rows.length none = rows.length from rfl,List.take_of_length_le (by rw [List.length_drop]; omega)]
 apply cutS (ok:=fun D ss G=>ss.length = m.toNat∧SdSt H D ss G∧∀ t∈ss,t.2.1.natAbs≤10 ^ 7∧t.2.2.1.natAbs≤10 ^ 7∧t.2.2.2.natAbs≤10 ^ 10)
 ·intro main
  refine ⟨_,rfl,_,rfl,(by omega),(by omega),fun cc D hD=>zGw (lo:=0) (n:=m.toNat) (fun i σ ys G=>∃ ss:List Sd,ys = zAo ss∧ss.length = i∧SdSt H D ss G∧(∀ t∈ss,t.2.1.natAbs≤10 ^ 7∧t.2.2.1.natAbs≤10 ^ 7∧t.2.2.2.natAbs≤10 ^ 10)∧∃ u0:Option V,σ = [u0,some (.ref r)])
   ⟨[],rfl,rfl,⟨zAd hD _,hD,zAc,(fun t ht=>nomatch ht)⟩,(fun t ht=>nomatch ht),none,rfl⟩ (fun i σ ys G _ ⟨ss,e1,_,P,_⟩=>by rw [e1]; exact P.at') ?_ ?_⟩
  ·rintro i σ ys G hi ⟨ss,rfl,hlen,Pi,bnd,u0,rfl⟩
   have cm:CMul 5 (0 + (i:Int)):=.inl ⟨by decide,by decide⟩
   have ci:(3:Int) + 5 * (0 + (i:Int)) = ((3 + 5 * i:Nat):Int):=by omega
   have hi':3 + 5 * i + 5≤rows.length:=by omega
   refine ⟨_,rfl,_,rfl,_,_,rfl,rfl,cm,_,_,rfl,rfl,_,rfl,r,_,rfl,Pi.same.seq hS,fun c1 hc1=>?_⟩
   rw [ci,cutD (3 + 5 * i) (by omega)]
   have sc1:=zAd hc1 (.lst ((rows.drop (3 + 5 * i)).map V.int))
   refine ⟨c1,rows.drop (3 + 5 * i),rfl,SqL.of zAc,by rw [List.length_drop]; omega,fun x hx=>bd x (List.mem_of_mem_drop hx),fun p a b c G2 s2 hp ep n ma mb mc=>?_⟩
   refine ⟨s2 _ _ (sc1 _ _ Pi.at'),zA6 (by rw [zAm]; omega),ss ++ [(p,a,b,c)],by simp [zAo],by rw [List.length_append,hlen]; rfl,Pi.app (sc1.trans s2) (sc1.free hp) ep n (Nat.le_trans ma (by decide)) (Nat.le_trans mb (by decide)) (Nat.le_trans mc (by decide)),fun u hu=>?_,_,rfl⟩
   rcases List.mem_append.mp hu with h | h
   ·exact bnd u h
   ·rw [List.mem_singleton] at h
    subst h
    exact ⟨ma,mb,mc⟩
  rintro σ ys G ⟨ss,rfl,hlen,P0,bnd,u0,rfl⟩
  refine ⟨_,rfl,_,_,rfl,rfl,_,rfl,?_⟩
  refine ifD (fun hm1=>?_) (fun _=>?_)
  ·refine ⟨_,rfl,r,_,_,_,rfl,rfl,.inl (P0.same.seq hS),a0,_,_,rfl,rfl,(by show (0:Int) < 4; decide),rfl,_,rfl,?_⟩
   refine ifE (fun _=>?_) (fun _=>?_)
   ·have sqr:Sq K G r (rows.map V.int):=.inl (P0.same.seq hS)
    have y0:=Int.emod_nonneg v2 (show m≠0 by omega)
    have y1:=Int.emod_lt_of_pos v2 (show 0 < m by omega)
    have x0:=Int.emod_nonneg v1 (show m≠0 by omega)
    have x1:=Int.emod_lt_of_pos v1 (show 0 < m by omega)
    obtain ⟨t,mt,gt,at'⟩:=zBf (ss:=ss) (i:=(v2 % m).toNat) (k:=v2 % m) (by omega) (by omega)
    have ixn:ixN (zAo ss).length (v1 % m) = some (v1 % m).toNat:=by
     unfold ixN
     rw [if_pos x0,zAm,if_pos (by omega)]
    refine ⟨_,rfl,_,rfl,r,_,_,_,rfl,rfl,sqr,a2,_,rfl,_,_,rfl,rfl,(by show (0:Int) < m; omega),D,_,_,_,rfl,rfl,.inl (SqL.of P0.at'),at',?_⟩
    refine ⟨_,rfl,_,rfl,r,_,_,_,rfl,rfl,sqr,a1,_,rfl,_,_,rfl,rfl,(by show (0:Int) < m; omega),D,_,_,_,rfl,rfl,P0.at',ixn,?_⟩
    rw [zP2]
    have P1:SdSt H D (ss.set (v1 % m).toNat t) (upd G D (.lst (zAo (ss.set (v1 % m).toNat t)))):=by
     refine ⟨P0.same.putNew P0.new,P0.new,zAc,fun u hu=>?_⟩
     have hu':u∈ss:=by
      rcases List.mem_or_eq_of_mem_set hu with h | h
      ·exact h
      ·rw [h]; exact mt
     obtain ⟨h1,h2⟩:=P0.all u hu'
     exact ⟨by rw [zA5 (zHh h1 P0.at' (by intro z; cases z))]; exact h1,h2⟩
    have B1:∀ u∈ss.set (v1 % m).toNat t,u.2.1.natAbs≤10 ^ 7∧u.2.2.1.natAbs≤10 ^ 7∧u.2.2.2.natAbs≤10 ^ 10:=fun u hu=>by
     rcases List.mem_or_eq_of_mem_set hu with h | h
     ·exact bnd u h
     ·rw [h]; exact bnd t mt
    have N1:(ss.set (v1 % m).toNat t).length = m.toNat:=by rw [List.length_set]; exact hlen
    generalize upd G D (.lst (zAo (ss.set (v1 % m).toNat t))) = G1 at P1 ⊢
    generalize ss.set (v1 % m).toNat t = ss1 at P1 B1 N1
    exact main D ss1 G1 ⟨N1,P1,B1⟩
   ·exact main D ss G ⟨hlen,P0,bnd⟩
  ·refine iteF ?_
   exact main D ss G ⟨hlen,P0,bnd⟩
 clear cutD
 rintro D ss G ⟨hlen,P0,bnd⟩
 apply cutS2 (ok:=fun D ss G=>ss.length = m.toNat∧SdSt H D ss G∧∀ t∈ss,t.2.1.natAbs≤10 ^ 8∧t.2.2.1.natAbs≤10 ^ 8∧t.2.2.2.natAbs≤10 ^ 12)
 ·intro main2
  refine ⟨_,rfl,r,_,_,_,rfl,rfl,(.inl ((P0).same.seq hS)),a0,_,_,rfl,rfl,zEr.of (by decide) (by decide +kernel),_,_,rfl,rfl,(by show (0:Int) < 3; decide),rfl,_,rfl,?_⟩
  refine ifE (fun _=>?_) (fun _=>?_)
  ·have sqr:Sq K G r (rows.map V.int):=.inl ((P0).same.seq hS)
   refine ⟨_,rfl,r,_,_,_,rfl,rfl,sqr,a1,_,_,rfl,rfl,(by show (0:Int) < 2001; decide),_,_,rfl,rfl,_,rfl,r,_,_,_,rfl,rfl,sqr,a2,_,_,rfl,rfl,(by show (0:Int) < 2001; decide),_,_,rfl,rfl,(by show 2≤sizeLine; decide),fun tx htx=>?_⟩
   have stx:Same G (upd G tx (.tup [.int (v1 % 2001 - 1000),.int (v2 % 2001 - 1000)])):=zAd htx _
   have etx:upd G tx (.tup [.int (v1 % 2001 - 1000),.int (v2 % 2001 - 1000)]) tx = some (.tup [.int (v1 % 2001 - 1000),.int (v2 % 2001 - 1000)]):=zAc
   generalize upd G tx (.tup [.int (v1 % 2001 - 1000),.int (v2 % 2001 - 1000)]) = GX at stx etx ⊢
   have bX:(v1 % 2001 - 1000).natAbs≤1000:=by omega
   have bY:(v2 % 2001 - 1000).natAbs≤1000:=by omega
   generalize v1 % 2001 - 1000 = X at etx bX
   generalize v2 % 2001 - 1000 = Y at etx bY
   refine ⟨tx,_,rfl,SqT.of etx,rfl,.int X,_,rfl,.int Y,_,rfl,rfl,?_⟩
   refine ⟨_,rfl,D,rfl,.inl ⟨⟨_,SqL.of (stx _ _ (P0).at')⟩,fun cc D2 hD2=>zBx (K:=K) (a:=D) (xs:=zAo ss) (fun i σ ys Gd=>∃ sb:List Sd,ys = zAo sb∧sb.length = i∧SdSt GX D2 sb Gd∧(∀ t∈sb,t.2.1.natAbs≤10 ^ 7∧t.2.2.1.natAbs≤10 ^ 7∧t.2.2.2.natAbs≤10 ^ 12)∧∃ u0 u1 u2:Option V,σ = [u0,u1,u2,some (.int X),some (.int Y)])
    ⟨[],rfl,rfl,⟨zAd hD2 _,hD2,zAc,(fun t ht=>nomatch ht)⟩,(fun t ht=>nomatch ht),none,none,none,rfl⟩ (fun i σ ys Ge _ ⟨sb,e1,_,Pq,_⟩=>⟨SqL.of (Pq.same _ _ (stx _ _ (P0).at')),by rw [e1]; exact Pq.at'⟩) ?_ ?_⟩⟩
   ·rintro i x σ ys Gf hi ⟨sb,rfl,nb,Pg,bnb,u0,u1,u2,rfl⟩
    obtain ⟨t,gt,rfl,hil⟩:=zBv hi
    obtain ⟨et,nt,b1,b2,b3⟩:=(P0).all t (List.mem_of_getElem? gt)
    obtain ⟨c1,c2,c3⟩:=bnd t (List.mem_of_getElem? gt)
    refine ⟨t.1,_,rfl,SqT.of (Pg.same _ _ (stx _ _ et)),rfl,.int t.2.1,_,rfl,.int t.2.2.1,_,rfl,.int t.2.2.2,_,rfl,rfl,?_⟩
    have z1:=zAj t.2.1 X c1 bX
    have z2:=zAj t.2.2.1 Y c2 bY
    refine ⟨_,rfl,_,rfl,_,rfl,_,rfl,_,rfl,_,_,rfl,rfl,cm_l (by omega),_,_,rfl,rfl,_,rfl,_,rfl,_,_,rfl,rfl,cm_l (by omega),_,_,rfl,rfl,(by show 3≤sizeLine; decide),fun p hp=>?_⟩
    have sp:=zAd hp (.tup [.int t.2.1,.int t.2.2.1,.int (t.2.2.2 + t.2.1 * X + t.2.2.1 * Y)])
    refine ⟨sp _ _ Pg.at',zA6 (by rw [zAm]; omega),sb ++ [(p,t.2.1,t.2.2.1,t.2.2.2 + t.2.1 * X + t.2.2.1 * Y)],by simp [zAo],by rw [List.length_append,nb]; rfl,Pg.app sp hp zAc nt b1 b2 (by omega),fun u hu=>?_,_,_,_,rfl⟩
    rcases List.mem_append.mp hu with h | h
    ·exact bnb u h
    ·rw [List.mem_singleton] at h
     subst h
     exact ⟨c1,c2,by show (t.2.2.2 + t.2.1 * X + t.2.2.1 * Y).natAbs≤10 ^ 12; omega⟩
   ·rintro σ ys Gf ⟨ss2,rfl,nb,Pg,bnb,u0,u1,u2,rfl⟩
    rw [zAm] at nb
    have N2:ss2.length = m.toNat:=nb.trans hlen
    have P2:SdSt H D2 ss2 Gf:=⟨((P0).same.trans stx).trans Pg.same,(P0).same.free (stx.free Pg.new),Pg.at',Pg.all⟩
    have P2s:∀ t∈ss2,t.2.1.natAbs≤10 ^ 8∧t.2.2.1.natAbs≤10 ^ 8∧t.2.2.2.natAbs≤10 ^ 12:=fun t ht=>⟨Nat.le_trans (bnb t ht).1 (by decide),Nat.le_trans (bnb t ht).2.1 (by decide),(bnb t ht).2.2⟩
    clear Pg
    generalize some (V.int X) = uX
    generalize some (V.int Y) = uY
    exact main2 D2 ss2 Gf uX uY ⟨N2,P2,P2s⟩
  ·exact main2 D ss G none none ⟨hlen,P0,fun t ht=>⟨Nat.le_trans (bnd t ht).1 (by decide),Nat.le_trans (bnd t ht).2.1 (by decide),Nat.le_trans (bnd t ht).2.2 (by decide)⟩⟩
 clear P0 bnd hlen
 rintro D2 ss2 Gf uX uY ⟨N2,P2,P2s⟩
 refine ⟨_,rfl,r,_,_,_,rfl,rfl,(.inl (P2.same.seq hS)),a0,_,_,rfl,rfl,zEr.of (by decide) (by decide +kernel),_,_,rfl,rfl,(by show (0:Int) < 3; decide),rfl,_,rfl,?_⟩
 refine ifE (fun _=>?_) (fun _=>?_)
 ·refine ⟨_,rfl,D2,_,rfl,(P2).at',fun cc D3 hD3=>zO4 (K:=K) (l:=D2) (xs:=zAo ss2) (fun i σ ys Ga=>∃ sa:List Sd,ys = zAo sa∧sa.length = i∧SdSt Gf D3 sa Ga∧(∀ t∈sa,t.2.1.natAbs≤3 * 10 ^ 8∧t.2.2.1.natAbs≤3 * 10 ^ 8∧t.2.2.2.natAbs≤3 * 10 ^ 12)∧∃ u0 u1 u2 u3:Option V,σ = [u0,u1,u2,u3])
   ⟨[],rfl,rfl,⟨zAd hD3 _,hD3,zAc,(fun t ht=>nomatch ht)⟩,(fun t ht=>nomatch ht),none,none,none,none,rfl⟩ (fun i σ ys Gb ⟨sa,e1,_,Pq,_⟩=>⟨SqL.of (Pq.same _ _ (P2).at'),by rw [e1]; exact Pq.at'⟩) ?_ ?_⟩
  ·rintro i x T σ ys Gc hi hT ⟨sa,rfl,na,Pc,bc,u0,u1,u2,u3,rfl⟩
   obtain ⟨t,gt,rfl,hil⟩:=zBv hi
   obtain ⟨et,nt,_⟩:=(P2).all t (List.mem_of_getElem? gt)
   obtain ⟨b1,b2,b3⟩:=P2s t (List.mem_of_getElem? gt)
   have k9:(10:Nat) ^ 8 * 3≤10 ^ 9:=by decide
   have sT:=zAd hT (.tup [.int i,.ref t.1])
   have npT:∀ p,upd Gc T (.tup [.int i,.ref t.1]) p = none→Gc p = none:=fun p hp=>sT.free hp
   have eT:upd Gc T (.tup [.int i,.ref t.1]) T = some (.tup [.int i,.ref t.1]):=zAc
   have et':=sT _ _ (Pc.same _ _ et)
   generalize upd Gc T (.tup [.int i,.ref t.1]) = G2 at sT npT eT et' ⊢
   refine ⟨T,_,rfl,SqT.of eT,rfl,.int i,_,rfl,.ref t.1,_,rfl,?_⟩
   refine ⟨t.1,_,rfl,SqT.of et',rfl,.int t.2.1,_,rfl,.int t.2.2.1,_,rfl,.int t.2.2.2,_,rfl,rfl,rfl,?_⟩
   have c3:∀ j:Int,CMul 3 j:=fun j=>.inl ⟨by decide,by decide⟩
   refine ⟨_,rfl,_,_,rfl,rfl,(by show (0:Int) < 2; decide),rfl,_,rfl,?_⟩
   refine ifE (fun _=>?_) (fun _=>?_)
   ·refine ⟨_,rfl,_,_,rfl,rfl,c3 _,_,rfl,_,_,rfl,rfl,c3 _,_,rfl,_,_,rfl,rfl,c3 _,(by show 3≤sizeLine; decide),fun p hp=>?_⟩
    have sp:=zAd hp (.tup [.int (3 * t.2.1),.int (3 * t.2.2.1),.int (3 * t.2.2.2)])
    have t1:=zAj 3 t.2.1 (m:=3) (by decide) b1
    have t2:=zAj 3 t.2.2.1 (m:=3) (by decide) b2
    have t3:=zAj 3 t.2.2.2 (m:=3) (by decide) b3
    refine ⟨sp _ _ (sT _ _ Pc.at'),zA6 (by rw [zAm]; omega),sa ++ [(p,3 * t.2.1,3 * t.2.2.1,3 * t.2.2.2)],by simp [zAo],by rw [List.length_append,na]; rfl,Pc.app (sT.trans sp) (npT p hp) zAc (by clear b1 b2 b3; omega) (Nat.le_trans t1 (by decide)) (Nat.le_trans t2 (by decide)) (Nat.le_trans t3 (by decide)),fun u hu=>(List.mem_append.mp hu).elim (bc u) fun h=>by rw [List.mem_singleton] at h; subst h; exact ⟨t1,t2,t3⟩,_,_,_,_,rfl⟩
   ·refine ⟨_,rfl,_,rfl,_,rfl,(by show 3≤sizeLine; decide),fun p hp=>?_⟩
    have sp:=zAd hp (.tup [.int t.2.1,.int t.2.2.1,.int t.2.2.2])
    refine ⟨sp _ _ (sT _ _ Pc.at'),zA6 (by rw [zAm]; omega),sa ++ [(p,t.2.1,t.2.2.1,t.2.2.2)],by simp [zAo],by rw [List.length_append,na]; rfl,Pc.app (sT.trans sp) (npT p hp) zAc nt (Nat.le_trans b1 (by decide)) (Nat.le_trans b2 (by decide)) (Nat.le_trans b3 (by decide)),fun u hu=>(List.mem_append.mp hu).elim (bc u) fun h=>by rw [List.mem_singleton] at h; subst h; exact ⟨Nat.le_trans b1 (by decide),Nat.le_trans b2 (by decide),Nat.le_trans b3 (by decide)⟩,_,_,_,_,rfl⟩
  ·rintro σ ys Gc ⟨sa,rfl,na,Pc,bc,u0,u1,u2,u3,rfl⟩
   rw [zAm] at na
   exact ⟨_,rfl,q D3 sa Gc ((P2).same.trans Pc.same) ((P2).same.free Pc.new) Pc.at' (na.trans N2) (fun t ht=>(Pc.all t ht)) bc⟩
 ·exact ⟨_,rfl,q D2 ss2 _ (P2).same (P2).new (P2).at' N2 (P2).all (fun t ht=>⟨Nat.le_trans (P2s t ht).1 (by decide),Nat.le_trans (P2s t ht).2.1 (by decide),Nat.le_trans (P2s t ht).2.2 (by decide)⟩)⟩
def DR (H:Hp):Nat→V→V→Prop
 | 0,x,y=>x = y∧((∃ i,x = .int i)∨∃ b,x = .bl b)
 | n + 1,x,y=>(x = y∧((∃ i,x = .int i)∨∃ b,x = .bl b))∨∃ (a b:Addr) (xs ys:List V) (l:Bool),x = .ref a∧y = .ref b∧H a = some (if l then .lst xs else .tup xs)∧H b = some (if l then .lst ys else .tup ys)∧xs.length = ys.length∧xs.length≤1000 ∧
   ∀ (i:Nat) (u v:V),xs[i]? = some u→ys[i]? = some v→DR H n u v
theorem DR.same {H H':Hp} (e:Same H H'):∀ {n:Nat} {x y:V},DR H n x y→DR H' n x y
 | 0,_,_,h=>h
 | n + 1,x,y,h=>by
  rcases h with h | ⟨a,b,xs,ys,l,e1,e2,h1,h2,h3,h4,h5⟩
  ·exact .inl h
  ·exact .inr ⟨a,b,xs,ys,l,e1,e2,e _ _ h1,e _ _ h2,h3,h4,fun i u v g1 g2=>DR.same e (h5 i u v g1 g2)⟩
theorem DR.int {H:Hp} {n:Nat} {x y:Int} (h:x = y):DR H n (.int x) (.int y):=by
 subst h
 cases n with
 | zero=>exact ⟨rfl,.inl ⟨x,rfl⟩⟩
 | succ m=>exact .inl ⟨rfl,.inl ⟨x,rfl⟩⟩
theorem DR.bl {H:Hp} {n:Nat} {x y:Bool} (h:x = y):DR H n (.bl x) (.bl y):=by
 subst h
 cases n with
 | zero=>exact ⟨rfl,.inr ⟨x,rfl⟩⟩
 | succ m=>exact .inl ⟨rfl,.inr ⟨x,rfl⟩⟩
theorem DR.tupI {H:Hp} {n:Nat} {a b:Addr} {xs ys:List Int} (h1:H a = some (.tup (xs.map V.int))) (h2:H b = some (.tup (ys.map V.int))) (e:xs = ys) (hl:xs.length≤1000):DR H (n + 1) (.ref a) (.ref b):=by
 subst e
 refine .inr ⟨a,b,xs.map V.int,xs.map V.int,false,rfl,rfl,h1,h2,rfl,by rw [List.length_map]; exact hl,fun i u v g1 g2=>?_⟩
 rw [g1] at g2
 cases g2
 obtain ⟨m,_,rfl⟩:=zB7 g1
 exact DR.int rfl
def zK2:Nat→Sp
 | 0=>fun _ _ _ _=>False
 | n + 1=>fun vs H Q _=>∃ (x y:V),vs = [x,y]∧DR H n x y∧∀ H',Same H H'→Q (.bl true) H'
def zL8 (_:PySem.W.Frag):Sp:=zK2 6
structure KT (K:PySem.W.Frag) (ty:Value) (bb bi bl bt bs:Bool):Prop where
 b:PySem.W.kitOne K ty (.type "bool") = some bb
 i:PySem.W.kitOne K ty (.type "int") = some bi
 l:PySem.W.kitOne K ty (.type "list") = some bl
 t:PySem.W.kitOne K ty (.type "tuple") = some bt
 s:PySem.W.kitOne K ty (.type "str") = some bs
theorem zN5 {f:Addr} {fd:FuncData} (F:Fun K "_law_same" "_law_same" zG2 f fd) (Z:Zs mg) (bS:zLn K fd ["_law_told", "_law_due"] []) (kS:PySem.W.keepIn K (.ref f) = true) (mS:mg "_law_same" = some (.ref f)) :
  ∀ n:Nat,FnOk P w K mg base CX0 n f fd ["_law_told", "_law_due"] (zK2 n)
 | 0=>⟨fun _ _ _ _ h=>h.elim,fun _ _ _ _ _ _ _ _ _ _ _ _ _ h=>h.elim⟩
 | n + 1=>by
  have ih:=zN5 F Z bS kS mS n
  have h_L_same:Has P w K mg base "_law_same" n ["_law_told", "_law_due"] (zK2 n):=⟨f,fd,ih,bS,kS,mS⟩
  refine F.ok zRz (fun vs H Q E h=>?_) (fun cdv A outer s H vs Q E hr h=>?_)
  ·obtain ⟨x,y,rfl,_⟩:=h
   rfl
  obtain ⟨x,y,rfl,hD,q⟩:=h
  have hr_self:=hr
  refine ⟨_,(zAf (zA9 (PW.pt (zEt (zAs zMk (zAu zA8 rfl Z.isinstance zA4 (zAa (pv 0) (zAa (zB9 (v:=.ty "bool") rfl Z.bool zNt rfl) zAe))) (zAu zA8 rfl Z.isinstance zA4 (zAa (pv 1) (zAa (zB9 (v:=.ty "bool") rfl Z.bool zNt rfl) zAe))) (zAt _)) (zDv (zAs zMk (zAu zA8 rfl Z.isinstance zA4 (zAa (pv 0) (zAa (zB9 (v:=.ty "int") rfl Z.int zQo rfl) zAe))) (zAu zA8 rfl Z.isinstance zA4 (zAa (pv 1) (zAa (zB9 (v:=.ty "int") rfl Z.int zQo rfl) zAe))) (zAt _))))) (zAi (zAq zE2)) zAv)
   (zAf (zA9 (PW.pt (zEt (zAs zMk (zAu zA8 rfl Z.isinstance zA4 (zAa (pv 0) (zAa (zB9 (v:=.ty "list") rfl Z.list zC6 rfl) zAe))) (zAu zA8 rfl Z.isinstance zA4 (zAa (pv 1) (zAa (zB9 (v:=.ty "list") rfl Z.list zC6 rfl) zAe))) (zAt _)) (zDv (zAs zMk (zAu zA8 rfl Z.isinstance zA4 (zAa (pv 0) (zAa (zB9 (v:=.ty "tuple") rfl Z.tuple zGk rfl) zAe))) (zAu zA8 rfl Z.isinstance zA4 (zAa (pv 1) (zAa (zB9 (v:=.ty "tuple") rfl Z.tuple zGk rfl) zAe))) (zAt _))))) (zAi (zAq zE2)) zAv)
   (zAf (zA9 (PW.pt (zFm (zCr (zB5 (zAu zA8 rfl Z.isinstance zA4 (zAa (pv 1) (zAa (zB9 (v:=.ty "list") rfl Z.list zC6 rfl) zAe))))) (zEe (zCr (zB5 (zAu zA8 rfl Z.isinstance zA4 (zAa (pv 1) (zAa (zB9 (v:=.ty "tuple") rfl Z.tuple zGk rfl) zAe)))))))) (zAi (zAq (zF4 (zCa zBu (zAu zA8 rfl Z.isinstance zA4 (zAa (pv 0) (zAa (zB9 (v:=.ty "str") rfl Z.str zT8 rfl) zAe))) (zAu zA8 rfl Z.isinstance zA4 (zAa (pv 1) (zAa (zB9 (v:=.ty "str") rfl Z.str zT8 rfl) zAe))) (zAt _)) (zGo (zCa zBu (pv 0) (pv 1) (zAt _)))))) zAv)
   (zAi (zAq (zF4 (zCa zBu (zAu zA1 rfl Z.len zCo (zAa (pv 0) zAe)) (zAu zA1 rfl Z.len zCo (zAa (pv 1) zAe)) (zAt _)) (zGo (zAu (zHm rfl) rfl Z.all zOk (zAa (zC2 (T:=["_law_one", "_law_other"]) (caps:=[]) ⟨rfl,by decide +kernel,by decide +kernel,rfl,True.intro⟩ rfl (zTz rfl Z.zip (zAa (pv 0) (zAa (pv 1) zAe))) (fun _=>(zCk rfl (zAw (zAr (i:=0) (show (["_law_one", "_law_other"]:List Str).Nodup by decide +kernel) rfl (Or.inl rfl)) (zAw (zAr (i:=1) (show (["_law_one", "_law_other"]:List Str).Nodup by decide +kernel) rfl (Or.inl rfl)) zBk)))) (fun _=>zBg) (fun _=>(zAh h_L_same hr_self rfl (zAa (pv 0) (zAa (pv 1) zAe))))) zAe))))))))),?_⟩
  try dsimp only [L2.cxOf]
  have kinds:∃ (t:Value) (bb bi bl bt bs:Bool),TyOf K H x t∧TyOf K H y t∧KT K t bb bi bl bt bs∧((bl = false∧bt = false∧x = y∧((∃ i,x = .int i)∨∃ b,x = .bl b)) ∨
    ∃ (m:Nat) (a b:Addr) (xs ys:List V) (l:Bool),bl = l∧bt = !l∧n = m + 1∧x = .ref a∧y = .ref b∧H a = some (if l then .lst xs else .tup xs)∧H b = some (if l then .lst ys else .tup ys)∧xs.length = ys.length∧xs.length≤1000 ∧
     ∀ (i:Nat) (u v:V),xs[i]? = some u→ys[i]? = some v→DR H m u v):=by
   have scal:(x = y∧((∃ i,x = .int i)∨∃ b,x = .bl b))→∃ (t:Value) (bb bi bl bt bs:Bool),TyOf K H x t∧TyOf K H y t∧KT K t bb bi bl bt bs∧(bl = false∧bt = false∧x = y∧((∃ i,x = .int i)∨∃ b,x = .bl b)):=fun h=>by
    obtain ⟨rfl,h⟩:=h
    rcases h with ⟨i,rfl⟩ | ⟨b,rfl⟩
    ·exact ⟨_,_,_,_,_,_,.int i,.int i,⟨rfl,rfl,rfl,rfl,rfl⟩,rfl,rfl,rfl,.inl ⟨i,rfl⟩⟩
    ·exact ⟨_,_,_,_,_,_,.bl b,.bl b,⟨rfl,rfl,rfl,rfl,rfl⟩,rfl,rfl,rfl,.inr ⟨b,rfl⟩⟩
   cases n with
   | zero =>
    obtain ⟨t,bb,bi,bl,bt,bs,h1,h2,h3,h4⟩:=scal hD
    exact ⟨t,bb,bi,bl,bt,bs,h1,h2,h3,.inl h4⟩
   | succ m =>
    rcases hD with h | ⟨a,b,xs,ys,l,e1,e2,h1,h2,h3,h4,h5⟩
    ·obtain ⟨t,bb,bi,bl,bt,bs,h1,h2,h3,h4⟩:=scal h
     exact ⟨t,bb,bi,bl,bt,bs,h1,h2,h3,.inl h4⟩
    ·subst e1 e2
     cases l with
     | true=>exact ⟨_,_,_,_,_,_,.lst h1,.lst h2,⟨rfl,rfl,rfl,rfl,rfl⟩,.inr ⟨m,a,b,xs,ys,true,rfl,rfl,rfl,rfl,rfl,h1,h2,h3,h4,h5⟩⟩
     | false=>exact ⟨_,_,_,_,_,_,.tup h1,.tup h2,⟨rfl,rfl,rfl,rfl,rfl⟩,.inr ⟨m,a,b,xs,ys,false,rfl,rfl,rfl,rfl,rfl,h1,h2,h3,h4,h5⟩⟩
  obtain ⟨t,bb,bi,bl,bt,bs,tx,ty,kt,rest⟩:=kinds
  refine ⟨_,rfl,_, "bool", t,bb,rfl,tx,kt.b,_,rfl,_, "bool", t,bb,rfl,ty,kt.b,rfl,_,rfl,?_⟩
  refine ifN (fun z=>absurd rfl z) (fun _=>?_)
  refine ⟨_,rfl,_, "int", t,bi,rfl,tx,kt.i,_,rfl,_, "int", t,bi,rfl,ty,kt.i,rfl,_,rfl,?_⟩
  refine ifN (fun z=>absurd rfl z) (fun _=>?_)
  refine ⟨_,rfl,_, "list", t,bl,rfl,tx,kt.l,_,rfl,_, "list", t,bl,rfl,ty,kt.l,rfl,_,rfl,?_⟩
  refine ifN (fun z=>absurd rfl z) (fun _=>?_)
  refine ⟨_,rfl,_, "tuple", t,bt,rfl,tx,kt.t,_,rfl,_, "tuple", t,bt,rfl,ty,kt.t,rfl,_,rfl,?_⟩
  refine ifN (fun z=>absurd rfl z) (fun _=>?_)
  refine ⟨_,rfl,_, "list", t,bl,rfl,ty,kt.l,_,rfl,?_⟩
  rcases rest with ⟨rfl,rfl,rfl,hs⟩ | ⟨m,a,b,xs,ys,l,rfl,rfl,rfl,rfl,rfl,ha,hb,hlen,h1000,hel⟩
  ·refine iteT ?_
   refine ⟨_,rfl,_, "tuple", t,false,rfl,ty,kt.t,_,rfl,?_⟩
   refine iteT ?_
   refine ⟨_,rfl,_, "str", t,bs,rfl,tx,kt.s,_,rfl,_, "str", t,bs,rfl,ty,kt.s,rfl,_,rfl,?_⟩
   rw [decide_eq_true rfl]
   refine iteT ?_
   refine ⟨_,rfl,_,rfl,?_,?_⟩
   ·rcases hs with ⟨i,rfl⟩ | ⟨b,rfl⟩ <;> rfl
   ·rw [decide_eq_true rfl]
    exact q H (Same.refl H)
  ·have SA:SqB bl K H a xs:=by
    cases bl
    ·exact SqT.of ha
    ·exact SqL.of ha
   have SB:SqB bl K H b ys:=by
    cases bl
    ·exact SqT.of hb
    ·exact SqL.of hb
   have SA':SqL K H a xs∨SqT K H a xs:=by
    cases bl
    ·exact .inr SA
    ·exact .inl SA
   have SB':SqL K H b ys∨SqT K H b ys:=by
    cases bl
    ·exact .inr SB
    ·exact .inl SB
   have keep:∀ (H':Hp),Same H H'→SqB bl K H' a xs∧SqB bl K H' b ys:=fun H' e=>by
    cases bl
    ·exact ⟨SqT.same SA e,SqT.same SB e⟩
    ·exact ⟨e.seq SA,e.seq SB⟩
   cases hbl:bl with
   | true =>
    refine iteF ?_
    refine iteF ?_
    refine ⟨_,rfl,a,xs,rfl,SA',_,rfl,b,ys,rfl,SB',rfl,_,rfl,?_⟩
    rw [decI (by rw [hlen])]
    refine iteT ?_
    refine ⟨_,rfl,_,rfl,bl,bl,a,b,xs,ys,rfl,SA,SB,fun c D hD=>zJi (K:=K) (xs:=xs) (ys:=ys) (fun i σ zs H'=>Same H H'∧H' D = some (.lst zs)∧zs = (List.replicate i true).map V.bl∧i≤xs.length∧∃ u v,σ = [u,v])
     ⟨zAd hD _,zAc,rfl,Nat.zero_le _,none,none,rfl⟩ (fun i σ zs H' ⟨e,e2,_⟩=>⟨(keep H' e).1,(keep H' e).2,e2⟩) ?_ ?_⟩
    ·rintro i u v T σ zs H' hu hv hT ⟨e,e2,rfl,hi,o1,o2,rfl⟩
     have hil:i < xs.length:=(List.getElem?_eq_some_iff.mp hu).1
     have s2:=zAd hT (.tup [u,v])
     refine ⟨T,[u,v],rfl,SqT.of zAc,rfl,u,[v],rfl,v,[],rfl,rfl,_,rfl,_,rfl,u,v,rfl,(hel i u v hu hv).same (e.trans s2),fun H4 s4=>?_⟩
     have e4:=s4 _ _ (s2 _ _ e2)
     refine ⟨e4,zA6 (by rw [List.length_map,List.length_replicate]; omega),fun p o z=>?_,zAc,?_,hil,_,_,rfl⟩
     ·rw [zA5 (zBr z hD)]
      exact s4 _ _ (s2 _ _ (e _ _ z))
     ·rw [List.replicate_succ',List.map_append]
      rfl
    ·rintro σ zs H' ⟨e,e2,rfl,hi,o1,o2,rfl⟩
     refine ⟨D,List.replicate (min xs.length ys.length) true,rfl,SqL.of e2,?_⟩
     rw [show (List.replicate (min xs.length ys.length) true).all id = true from by simp]
     exact q _ e
   | false =>
    refine iteT ?_
    refine ⟨_,rfl,_, "tuple", t,true,rfl,ty,kt.t.trans (by rw [hbl]; rfl),_,rfl,?_⟩
    refine iteF ?_
    refine ⟨_,rfl,a,xs,rfl,SA',_,rfl,b,ys,rfl,SB',rfl,_,rfl,?_⟩
    rw [decI (by rw [hlen])]
    refine iteT ?_
    refine ⟨_,rfl,_,rfl,bl,bl,a,b,xs,ys,rfl,SA,SB,fun c D hD=>zJi (K:=K) (xs:=xs) (ys:=ys) (fun i σ zs H'=>Same H H'∧H' D = some (.lst zs)∧zs = (List.replicate i true).map V.bl∧i≤xs.length∧∃ u v,σ = [u,v])
     ⟨zAd hD _,zAc,rfl,Nat.zero_le _,none,none,rfl⟩ (fun i σ zs H' ⟨e,e2,_⟩=>⟨(keep H' e).1,(keep H' e).2,e2⟩) ?_ ?_⟩
    ·rintro i u v T σ zs H' hu hv hT ⟨e,e2,rfl,hi,o1,o2,rfl⟩
     have hil:i < xs.length:=(List.getElem?_eq_some_iff.mp hu).1
     have s2:=zAd hT (.tup [u,v])
     refine ⟨T,[u,v],rfl,SqT.of zAc,rfl,u,[v],rfl,v,[],rfl,rfl,_,rfl,_,rfl,u,v,rfl,(hel i u v hu hv).same (e.trans s2),fun H4 s4=>?_⟩
     have e4:=s4 _ _ (s2 _ _ e2)
     refine ⟨e4,zA6 (by rw [List.length_map,List.length_replicate]; omega),fun p o z=>?_,zAc,?_,hil,_,_,rfl⟩
     ·rw [zA5 (zBr z hD)]
      exact s4 _ _ (s2 _ _ (e _ _ z))
     ·rw [List.replicate_succ',List.map_append]
      rfl
    ·rintro σ zs H' ⟨e,e2,rfl,hi,o1,o2,rfl⟩
     refine ⟨D,List.replicate (min xs.length ys.length) true,rfl,SqL.of e2,?_⟩
     rw [show (List.replicate (min xs.length ys.length) true).all id = true from by simp]
     exact q _ e
theorem zSe (F:Fun K "_law_same" "_law_same" zG2 f fd) (Z:Zs mg) (bS:zLn K fd ["_law_told", "_law_due"] []) (kS:PySem.W.keepIn K (.ref f) = true) (mS:mg "_law_same" = some (.ref f)):FnOk P w K mg base CX0 6 f fd ["_law_told", "_law_due"] (zL8 K):=zN5 F Z bS kS mS 6
def cpy (D':Addr):Pp→Pp
 | .no _ cs=>.no D' cs
 | .op p x y=>.op p x y
 | .fa p _ P ws=>.fa p D' P ws
def zUg:Pp→Option Addr
 | .no D _=>some D
 | .op _ _ _=>none
 | .fa _ D _ _=>some D
def zJt (K:PySem.W.Frag):Sp:=fun vs H Q _=>∃ (t:Addr) (pp:Pp),vs = [.ref t]∧PpAt H t pp ∧
 ∀ (t' D':Addr) (H':Hp),Same H H'→PpAt H' t' (cpy D' pp)→(t' = t∧zUg pp = none∨H D' = none∧H t' = none)→Q (.ref t') H'
theorem zNu (F:Fun K "_law_copied" "_law_copied" zGi f fd) (Z:Zs mg)  : FnOk P w K mg base CX0 1 f fd ["_law_paper"] (zJt K):=by
 refine F.ok zNd (fun vs H Q E h=>?_) (fun cdv A outer s H vs Q E hr h=>?_)
 ·obtain ⟨t,pp,rfl,_⟩:=h
  rfl
 obtain ⟨t,pp,rfl,hp,q⟩:=h
 refine ⟨_,(zAf (zA9 (zAs zBu (zAk zAg (pv 0) zAb (fun _ _=>rfl)) zCu (zAt _)) (zAi (zAq (zAz (zAa zCu (zAa (zCj zBz rfl Z.list zC6 (zAa (zAk zAg (pv 0) zAb (fun _ _=>rfl)) zAe)) zAe))))) zAv)
   (zAf (zA9 (zAs zBu (zAk zAg (pv 0) zAb (fun _ _=>rfl)) zCu (zAt _)) (zAi (zAq (zAz (zAa zCu (zAa (zC2 (T:=["_law_weights"]) (caps:=[]) ⟨rfl,by decide +kernel,by decide +kernel,rfl,True.intro⟩ rfl (zJm (zAk zAg (pv 0) zAb (fun _ _=>rfl))) (fun _=>(zAr (i:=0) (show (["_law_weights"]:List Str).Nodup by decide +kernel) rfl (Or.inl rfl))) (fun _=>zBg) (fun _=>(zCj zBz rfl Z.list zC6 (zAa (pv 0) zAe)))) zAe))))) zAv)
   (zAf (zA9 (zAs zRa (zAk zAg (pv 0) zAb (fun _ _=>rfl)) (zAz (zAa zCu (zAa zCu zAe))) (by with_unfolding_all rfl)) (zAi (zAq (zAz (zAa (zAk zAg (pv 0) zAb (fun _ _=>rfl)) (zAa (zAk zAg (pv 0) zAb (fun _ _=>rfl)) (zAa (zCj zBz rfl Z.list zC6 (zAa (zAk zAg (pv 0) zAb (fun _ _=>rfl)) zAe)) zAe)))))) zAv)
   (zAi (zAq (pv 0)))))),?_⟩
 try dsimp only [L2.cxOf]
 cases pp with
 | no D cs =>
  obtain ⟨e,eD,okc⟩:=hp
  refine ⟨_,rfl,t,_,_,_,rfl,rfl,.inr (SqT.of e),rfl,rfl,_,rfl,?_⟩
  refine ifSt ?_
  refine ⟨_,rfl,t,_,_,.ref D,rfl,rfl,.inr (SqT.of e),rfl,D,_,rfl,.inl (SqL.of eD),fun R hR=>⟨(by show 2≤sizeLine; decide),fun u hu=>?_⟩⟩
  have sR:=zAd hR (.lst (zBq cs))
  have su:=zAd hu (.tup [.str "none", .ref R])
  exact q u R _ (sR.trans su) ⟨zAc,su _ _ zAc,okc.same (sR.trans su)⟩ (.inr ⟨hR,sR.free hu⟩)
 | op p x y =>
  obtain ⟨e,ep⟩:=hp
  refine ⟨_,rfl,t,_,_,_,rfl,rfl,.inr (SqT.of e),rfl,rfl,_,rfl,?_⟩
  refine ifSf (by decide) ?_
  refine ⟨_,rfl,t,_,_,_,rfl,rfl,.inr (SqT.of e),rfl,rfl,_,rfl,?_⟩
  refine ifSf (by decide) ?_
  refine ⟨_,rfl,t,_,_,_,rfl,rfl,.inr (SqT.of e),rfl,(by show 2≤sizeLine; decide),fun z hz=>?_⟩
  have sz:=zAd hz (.tup [.str "far", .str "cannot"])
  refine ⟨z,_,rfl,.inr (SqT.of zAc),rfl,rfl,_,rfl,?_⟩
  refine iteF ?_
  exact ⟨_,rfl,q t t _ sz ⟨sz _ _ e,sz _ _ ep⟩ (.inl ⟨rfl,rfl⟩)⟩
 | fa p D P ws =>
  obtain ⟨e,ep,eD,okw⟩:=hp
  refine ⟨_,rfl,t,_,_,_,rfl,rfl,.inr (SqT.of e),rfl,rfl,_,rfl,?_⟩
  refine ifSf (by decide) ?_
  refine ⟨_,rfl,t,_,_,_,rfl,rfl,.inr (SqT.of e),rfl,rfl,_,rfl,?_⟩
  refine ifSf (by decide) ?_
  refine ⟨_,rfl,t,_,_,_,rfl,rfl,.inr (SqT.of e),rfl,(by show 2≤sizeLine; decide),fun z hz=>?_⟩
  have sz:=zAd hz (.tup [.str "far", .str "cannot"])
  refine ⟨z,_,rfl,.inr (SqT.of zAc),rfl,rfl,_,rfl,?_⟩
  refine iteT ?_
  have e1:Sq K _ t _:=.inr (SqT.of (sz _ _ e))
  refine ⟨_,rfl,t,_,_,_,rfl,rfl,e1,rfl,_,rfl,t,_,_,.ref p,rfl,rfl,e1,rfl,_,rfl,t,_,_,.ref D,rfl,rfl,e1,rfl,D,_,rfl,.inl (SqL.of (sz _ _ eD)),fun R hR=>⟨(by show 3≤sizeLine; decide),fun u hu=>?_⟩⟩
  have sR:=zAd hR (.lst (zAp ws))
  have su:=zAd hu (.tup [.str "far", .ref p,.ref R])
  have sA:=(sz.trans sR).trans su
  exact q u R _ sA ⟨zAc,sA _ _ ep,su _ _ zAc,okw.same sA⟩ (.inr ⟨sz.free hR,(sz.trans sR).free hu⟩)
def zH7 (_:PySem.W.Frag):Sp:=fun vs H Q _=>∃ (x:Int),vs = [.int x]∧Q (.bl true) H
theorem zPe (F:Fun K "_law_whole" "_law_whole" zG9 f fd) (Z:Zs mg):FnOk P w K mg base CX0 1 f fd ["_law_found"] (zH7 K):=by
 refine F.ok zPc (fun vs H Q E h=>?_) (fun cdv A outer s H vs Q E hr h=>?_)
 ·obtain ⟨x,rfl,_⟩:=h
  rfl
 obtain ⟨x,rfl,q⟩:=h
 refine ⟨_,(zAi (zAq (zF4 (zAu zA8 rfl Z.isinstance zA4 (zAa (pv 0) (zAa (zB9 (v:=.ty "int") rfl Z.int zQo rfl) zAe))) (zGo (pe_not (zAu zA8 rfl Z.isinstance zA4 (zAa (pv 0) (zAa (zB9 (v:=.ty "bool") rfl Z.bool zNt rfl) zAe)))))))),?_⟩
 try dsimp only [L2.cxOf]
 refine ⟨_,rfl,_, "int", _,_,rfl,.int x,zNe K,_,rfl,iteT ?_⟩
 exact ⟨_,rfl,_, "bool", _,_,rfl,.int x,zLv K,_,rfl,q⟩
def zFt (_:PySem.W.Frag):Sp:=fun vs H Q _=>∃ (a:Addr) (ns:List Int) (m:Int),vs = [.ref a,.int m]∧H a = some (.tup (ns.map V.int))∧ns.length≤1000∧m = ns.length∧∀ H',Same H H'→Q (.bl true) H'
theorem zLt (F:Fun K "_law_numbers" "_law_numbers" zFg f fd) (Z:Zs mg) (h_L_whole:Has P w K mg base "_law_whole" 1 ["_law_found"] (zH7 K)):FnOk P w K mg base CX0 2 f fd ["_law_found", "_law_many"] (zFt K):=by
 refine F.ok zL5 (fun vs H Q E h=>?_) (fun cdv A outer s H vs Q E hr h=>?_)
 ·obtain ⟨a,ns,m,rfl,_⟩:=h
  rfl
 obtain ⟨a,ns,m,rfl,ha,hl,hm,q⟩:=h
 refine ⟨_,(zAi (zAq (zF4 (zAu zA8 rfl Z.isinstance zA4 (zAa (pv 0) (zAa (zB9 (v:=.ty "tuple") rfl Z.tuple zGk rfl) zAe))) (zF4 (zCa zBu (zAu zA1 rfl Z.len zCo (zAa (pv 0) zAe)) (pv 1) (zAt _)) (zGo (zAu (zHm rfl) rfl Z.all zOk (zAa (zC2 (T:=["_law_one"]) (caps:=[]) ⟨rfl,by decide +kernel,by decide +kernel,rfl,True.intro⟩ rfl (zCd (pv 0)) (fun _=>(zAr (i:=0) (show (["_law_one"]:List Str).Nodup by decide +kernel) rfl (Or.inl rfl))) (fun _=>zBg) (fun _=>(zAh h_L_whole (hr.mono (by decide)) rfl (zAa (pv 0) zAe)))) zAe))))))),?_⟩
 try dsimp only [L2.cxOf]
 refine ⟨_,rfl,_, "tuple", _,_,rfl,.tup ha,zF8 K,_,rfl,iteT ?_⟩
 refine ⟨_,rfl,a,_,rfl,.inr (SqT.of ha),_,rfl,rfl,_,rfl,?_⟩
 rw [decI (by rw [List.length_map,hm])]
 refine iteT ?_
 refine ⟨_,rfl,a,rfl,.inr ⟨⟨_,SqT.of ha⟩,fun c D hD=>zHe (K:=K) (a:=a) (xs:=ns.map V.int) (fun i σ ys H'=>H' = upd H D (.lst ys)∧ys = (List.replicate i true).map V.bl∧i≤ns.length∧∃ u,σ = [u])
  ⟨rfl,rfl,Nat.zero_le _,none,rfl⟩ (fun i σ ys H' _ ⟨e,_⟩=>by rw [e]; exact ⟨SqT.same (SqT.of ha) (zAd hD _),zAc⟩) ?_ ?_⟩⟩
 ·rintro i x σ ys H' hi ⟨rfl,rfl,hil,u,rfl⟩
  obtain ⟨n,hn,rfl⟩:=zB7 hi
  have hin:i < ns.length:=(List.getElem?_eq_some_iff.mp hn).1
  refine ⟨_,rfl,n,rfl,zAc,zA6 (by rw [List.length_map,List.length_replicate]; omega),?_⟩
  refine ⟨zGx,?_,hin,_,rfl⟩
  rw [List.replicate_succ',List.map_append]
  rfl
 ·rintro σ ys H' ⟨rfl,rfl,hil,u,rfl⟩
  refine ⟨D,List.replicate (ns.map V.int).length true,rfl,SqL.of zAc,?_⟩
  rw [show (List.replicate (ns.map V.int).length true).all id = true from by simp]
  exact q _ (zAd hD _)
def zG6 (K:PySem.W.Frag):Sp:=fun vs H Q _=>∃ (l D:Addr) (ss:List Sd) (cs:List Pr),vs = [.ref l,.ref D]∧H l = some (.lst (zAo ss))∧SdOk H ss∧ss.length≤900∧H D = some (.lst (zBq cs))∧PrAt H cs ∧
 ∀ (b:Bool) (H':Hp),Same H H'→zF7 ss (cs.map (·.2)) = b→Q (.bl b) H'
theorem zLk (F:Fun K "_law_is_clash" "_law_is_clash" zEl f fd) (Z:Zs mg) (h_L_numbers:Has P w K mg base "_law_numbers" 2 ["_law_found", "_law_many"] (zFt K)):FnOk P w K mg base CX0 3 f fd ["_law_sides_here", "_law_paper"] (zG6 K):=by
 refine F.ok zBi (fun vs H Q E h=>?_) (fun cdv A outer s H vs Q E hr h=>?_)
 ·obtain ⟨l,D,ss,cs,rfl,_⟩:=h
  rfl
 obtain ⟨l,D,ss,cs,rfl,el,ok,hlen,eD,okc,q⟩:=h
 have hu:=hr.units0
 have nm:(cs.map (·.2)).length = cs.length:=List.length_map _
 have nr:=zCn cs
 refine ⟨_,(zAf (zA9 (PW.pt (zEt (zCr (zB5 (zAu zA8 rfl Z.isinstance zA4 (zAa (pv 1) (zAa (zB9 (v:=.ty "list") rfl Z.list zC6 rfl) zAe))))) (zDv (zCr (zLb zQj zQj zAb (zAu zA1 rfl Z.len zCo (zAa (pv 1) zAe)) zAb))))) (zAi (zAq zE2)) zAv)
   (zAf (zAy (i:=2) zBi.nd rfl (Or.inl rfl) (zEi zCp zAb))
   (zAf (zAy (i:=3) zBi.nd rfl (Or.inl rfl) (zAz (zAa zAb (zAa zAb (zAa zAb zAe)))))
   (zAf (zCv PassesOwn.never rfl (zCd (pv 1)) (zAr (i:=4) zBi.nd rfl (Or.inl rfl)) (zAf (zA9 (PW.pt (zEt (zCr (zB5 (zAh h_L_numbers (hr.mono (by decide)) rfl (zAa (pv 4) (zAa zAb zAe))))) (zEt (zCr (zLb zFk zFk (pv 2) (zAk zAg (pv 4) zAb (fun _ _=>rfl)) (zAu zA1 rfl Z.len zCo (zAa (pv 0) zAe)))) (zDv (zAs zFk (zAk zAg (pv 4) zAb (fun _ _=>rfl)) zAb (zAt _)))))) (zAi (zAq zE2)) zAv)
   (zAf (zAy (i:=2) zBi.nd rfl (Or.inl rfl) (zAk zAg (pv 4) zAb (fun _ _=>rfl)))
   (zAf (zEc (zAk zAg (pv 0) (zAk zAg (pv 4) zAb (fun _ _=>rfl)) (fun _ _=>rfl)) (zCk rfl (zAw (zAr (i:=5) zBi.nd rfl (Or.inl rfl)) (zAw (zAr (i:=6) zBi.nd rfl (Or.inl rfl)) (zAw (zAr (i:=7) zBi.nd rfl (Or.inl rfl)) zBk)))))
   (zAi (zAy (i:=3) zBi.nd rfl (Or.inl rfl) (zAz (zAa (zAl zBc (zAk zAg (pv 3) zAb (fun _ _=>rfl)) (zAl zA0 (zAk zAg (pv 4) zAb (fun _ _=>rfl)) (pv 5))) (zAa (zAl zBc (zAk zAg (pv 3) zAb (fun _ _=>rfl)) (zAl zA0 (zAk zAg (pv 4) zAb (fun _ _=>rfl)) (pv 6))) (zAa (zAl zBc (zAk zAg (pv 3) zAb (fun _ _=>rfl)) (zAl zA0 (zAk zAg (pv 4) zAb (fun _ _=>rfl)) (pv 7))) zAe))))))))))
   (zAi (zAq (zF4 (zCa (zN6 hu) (zBs sl_tup (pv 3) zB3 (zB8 zAb)) (zAz (zAa zAb (zAa zAb zAe))) (zAt _)) (zGo (zCa zFk (zAk zAg (pv 3) zAb (fun _ _=>rfl)) zAb (zAt _)))))))))),?_⟩
 try dsimp only [L2.cxOf]
 refine ⟨_,rfl,_, "list", _,_,rfl,.lst eD,zG5 K,_,rfl,?_⟩
 refine iteF ?_
 refine ⟨_,rfl,D,_,rfl,.inl (SqL.of eD),_,_,rfl,rfl,_,rfl,?_⟩
 refine ifD (fun l2=>?_) (fun l2=>?_)
 rotate_left
 ·refine ⟨_,rfl,?_⟩
  refine iteT ?_
  refine q false H (Same.refl _) ?_
  unfold zF7
  rw [decide_eq_false (by omega)]
  rfl
 refine ⟨_,_,rfl,rfl,_,rfl,?_⟩
 refine ifN (fun l3=>?_) (fun l3=>?_)
 ·refine q false H (Same.refl _) ?_
  unfold zF7
  rw [decide_eq_false (p:=(cs.map (·.2)).length≤3) (by omega),Bool.false_and,Bool.and_false]
 have hc:zF7 ss (cs.map (·.2)) = goB ss (cs.map (·.2)) (-1) (0,0,0):=by
  unfold zF7
  rw [decide_eq_true (by omega),decide_eq_true (p:=(cs.map (·.2)).length≤3) (by omega),Bool.true_and,Bool.true_and]
 refine ⟨_,rfl,?_⟩
 refine ⟨(by show 3≤sizeLine; decide),fun t0 ht0=>?_⟩
 have st0:Same H (upd H t0 (.tup [.int 0,.int 0,.int 0])):=zAd ht0 _
 have et0:upd H t0 (.tup [.int 0,.int 0,.int 0]) t0 = some (.tup [.int 0,.int 0,.int 0]):=zAc
 generalize upd H t0 (.tup [.int 0,.int 0,.int 0]) = H1 at st0 et0 ⊢
 refine ⟨_,rfl,D,rfl,.inl ⟨⟨_,SqL.of (st0 _ _ eD)⟩,zCg (K:=K) (a:=D) (xs:=zBq cs) (fun i σ H'=>Same H H'∧∃ (last:Int) (T:P3) (ta:Addr) (u4 u5 u6 u7:Option V),-1≤last∧H' ta = some (.tup [.int T.1,.int T.2.1,.int T.2.2])∧goB ss ((cs.map (·.2)).drop i) last T = goB ss (cs.map (·.2)) (-1) (0,0,0)∧σ = [some (.ref l),some (.ref D),some (.int last),some (.ref ta),u4,u5,u6,u7])
  ⟨st0,-1,(0,0,0),t0,none,none,none,none,Int.le_refl _,et0,rfl,rfl⟩ (fun i σ H' _ ⟨e1,_⟩=>SqL.of (e1 _ _ eD)) ?_ ?_⟩⟩
 ·rintro i v σ H' hi ⟨sH,last,T,ta,u4,u5,u6,u7,hl1,et,hg,rfl⟩
  rw [List.getElem?_map,List.getElem?_map] at hi
  cases gc:cs[i]? with
  | none=>rw [gc] at hi; cases hi
  | some c =>
   rw [gc] at hi
   cases hi
   have ec:=sH _ _ (okc c (List.mem_of_getElem? gc))
   have hil:i < cs.length:=(List.getElem?_eq_some_iff.mp gc).1
   have dr:(cs.map (·.2)).drop i = (c.2.1,c.2.2) :: (cs.map (·.2)).drop (i + 1):=by
    rw [List.drop_eq_getElem_cons (by omega)]
    congr 1
    rw [List.getElem_map]
    have z:=(List.getElem?_eq_some_iff.mp gc).2
    rw [z]
   rw [dr] at hg
   have bad:¬ (last < c.2.1∧c.2.1 < ss.length∧1≤c.2.2)→∀ H2,Same H' H2→Q (.bl false) H2:=fun hb H2 s2=>q false H2 (sH.trans s2) (by rw [hc,← hg]; exact zTy hb)
   refine ⟨_,rfl,c.1,[c.2.1,c.2.2],2,rfl,ec,(by show 2≤1000; decide),rfl,fun H2 s2=>?_⟩
   refine ⟨_,rfl,?_⟩
   refine iteF ?_
   have ec2:Sq K H2 c.1 [.int c.2.1,.int c.2.2]:=.inr (SqT.of (s2 _ _ ec))
   have sH2:=sH.trans s2
   refine ⟨_,rfl,_,rfl,c.1,_,_,.int c.2.1,rfl,rfl,ec2,rfl,_,_,rfl,rfl,_,rfl,?_⟩
   refine ifD (fun g1=>?_) (fun g1=>?_)
   rotate_left
   ·refine ⟨_,rfl,?_⟩
    refine iteT ?_
    exact bad (fun z=>g1 z.1) _ s2
   refine ⟨_,rfl,l,_,rfl,.inl (SqL.of (sH2 _ _ el)),_,_,rfl,rfl,_,rfl,?_⟩
   refine ifN (fun g2=>?_) (fun g2=>?_)
   ·exact bad (fun z=>g2 (by rw [zAm]; exact z.2.1)) _ s2
   rw [zAm] at g2
   refine ⟨_,rfl,c.1,_,_,.int c.2.2,rfl,rfl,ec2,rfl,_,_,rfl,rfl,_,rfl,?_⟩
   refine ifD (fun g3=>?_) (fun g3=>?_)
   ·exact bad (fun z=>by omega) _ s2
   refine ⟨_,rfl,c.1,_,_,.int c.2.1,rfl,rfl,ec2,rfl,?_⟩
   obtain ⟨t,mt,gt,att⟩:=zBf (ss:=ss) (i:=c.2.1.toNat) (k:=c.2.1) (by omega) (by omega)
   obtain ⟨ett,_,b1,b2,b3⟩:=ok t mt
   refine ⟨_,rfl,_,rfl,c.1,_,_,.int c.2.1,rfl,rfl,ec2,rfl,l,_,_,_,rfl,rfl,.inl (SqL.of (sH2 _ _ el)),att,t.1,_,rfl,SqT.of (sH2 _ _ ett),rfl,.int t.2.1,_,rfl,.int t.2.2.1,_,rfl,.int t.2.2.2,_,rfl,rfl,?_⟩
   have et2:Sq K H2 ta [.int T.1,.int T.2.1,.int T.2.2]:=.inr (SqT.of (s2 _ _ et))
   refine ⟨_,rfl,ta,_,_,.int T.1,rfl,rfl,et2,rfl,_,rfl,c.1,_,_,.int c.2.2,rfl,rfl,ec2,rfl,_,rfl,_,_,rfl,rfl,.inr ⟨by omega,by omega⟩,_,_,rfl,rfl,
    _,rfl,ta,_,_,.int T.2.1,rfl,rfl,et2,rfl,_,rfl,c.1,_,_,.int c.2.2,rfl,rfl,ec2,rfl,_,rfl,_,_,rfl,rfl,.inr ⟨by omega,by omega⟩,_,_,rfl,rfl,
    _,rfl,ta,_,_,.int T.2.2,rfl,rfl,et2,rfl,_,rfl,c.1,_,_,.int c.2.2,rfl,rfl,ec2,rfl,_,rfl,_,_,rfl,rfl,.inr ⟨by omega,by omega⟩,_,_,rfl,rfl,(by show 3≤sizeLine; decide),fun T2 hT2=>?_⟩
   refine ⟨sH2.trans (zAd hT2 _),c.2.1,(T.1 + c.2.2 * t.2.1,T.2.1 + c.2.2 * t.2.2.1,T.2.2 + c.2.2 * t.2.2.2),T2,_,_,_,_,by omega,zAc,?_,rfl⟩
   rw [← hg,zFe g1 g2 (by omega) gt]
 ·rintro σ H' ⟨sH,last,T,ta,u4,u5,u6,u7,hl1,et,hg,rfl⟩
  rw [nr,List.drop_of_length_le (by omega)] at hg
  refine ⟨_,rfl,2,rfl,ta,[.int T.1,.int T.2.1,.int T.2.2],rfl,SqT.of et,(fun h=>absurd (show HT.sIx 3 3 (some 2) = 3 from h.2) (by decide)),fun d1 hd1=>?_⟩
  have sd1:=zAd hd1 (.tup (cutV [.int T.1,.int T.2.1,.int T.2.2] none (some 2)))
  refine ⟨(by show 2≤sizeLine; decide),fun d2 hd2=>?_⟩
  have sd2:=zAd hd2 (.tup [.int 0,.int 0])
  refine ⟨d1,d2,[T.1,T.2.1],[0,0],rfl,rfl,SqT.of (sd2 _ _ zAc),SqT.of zAc,_,rfl,?_⟩
  refine ifD (fun h0=>?_) (fun h0=>?_)
  ·refine ⟨_,rfl,ta,_,_,.int T.2.2,rfl,rfl,.inr (SqT.of (sd2 _ _ (sd1 _ _ et))),rfl,_,_,rfl,rfl,?_⟩
   refine q _ _ (sH.trans (sd1.trans sd2)) ?_
   rw [hc,← hg,goB,decide_eq_true h0,Bool.true_and]
  ·refine q _ _ (sH.trans (sd1.trans sd2)) ?_
   rw [hc,← hg,goB,decide_eq_false h0,Bool.false_and]
def zOp (_:PySem.W.Frag):Sp:=fun vs H Q _=>∃ (x y:Int),vs = [.int x,.int y]∧Q (.int (Nat.gcd x.natAbs y.natAbs)) H
theorem zSw (F:Fun K "_law_low" "_law_low" zLh f fd) (Z:Zs mg):FnOk P w K mg base CX0 1 f fd ["_law_one", "_law_other"] (zOp K):=by
 refine F.ok zIt (fun vs H Q E h=>?_) (fun cdv A outer s H vs Q E hr h=>?_)
 ·obtain ⟨x,y,rfl,_⟩:=h
  rfl
 obtain ⟨x,y,rfl,q⟩:=h
 refine ⟨_,(zAf (zAy (i:=0) zIt.nd rfl (Or.inl rfl) (zAu zCy rfl Z.abs zFh (zAa (pv 0) zAe)))
   (zAf (zAy (i:=1) zIt.nd rfl (Or.inl rfl) (zAu zCy rfl Z.abs zFh (zAa (pv 1) zAe)))
   (zAf (zIu PassesOwn.never (zAs zHa (pv 1) zAb (zAt _)) (zAi (ps_par (i:=0) (j:=1) rfl zIt.nd rfl rfl (by decide) rfl rfl (zAa (pv 1) (zAa (zAl zA7 (pv 0) (pv 1)) zAe)) rfl)))
   (zAi (zAq (pv 0)))))),?_⟩
 try dsimp only [L2.cxOf]
 refine ⟨_,rfl,_,rfl,_,rfl,_,rfl,?_⟩
 refine zHv (fun σ H1=>H1 = H∧∃ (a b:Int),σ = [some (.int a),some (.int b)]∧0≤a∧0≤b∧Nat.gcd a.toNat b.toNat = Nat.gcd x.natAbs y.natAbs)
  (fun σ _=>match σ with | [_,some (.int b)]=>b.toNat | _=>0) ⟨rfl,_,_,rfl,by split <;> omega,by split <;> omega,by rw [zOl,zOl]; rfl⟩ ?_ (fun σ H Q Q' hq z=>by
   obtain ⟨v,hv,i,j,e1,e2,k,hk,z⟩:=z
   exact ⟨v,hv,i,j,e1,e2,k,hk,hq _ _ z⟩)
 rintro σ H1 ⟨rfl,a,b,rfl,h1,h2,h3⟩
 refine ⟨_,rfl,_,_,rfl,rfl,_,rfl,?_⟩
 refine ifD (fun hb=>?_) (fun hb=>?_)
 ·refine ⟨_,rfl,_,rfl,_,rfl,_,_,rfl,rfl,hb,_,_,rfl,⟨rfl,_,_,rfl,h2,Int.emod_nonneg a (by omega),?_⟩,?_⟩
  ·rw [zLl h1 hb]; exact h3
  ·have h4:=Int.emod_lt_of_pos a hb
   show (a % b).toNat < b.toNat
   omega
 ·refine ⟨_,rfl,?_⟩
  have hb0:b = 0:=by omega
  subst hb0
  have h5:a = ((Nat.gcd x.natAbs y.natAbs:Nat):Int):=by
   rw [← h3]
   show a = ((Nat.gcd a.toNat 0:Nat):Int)
   rw [Nat.gcd_zero_right]
   omega
  rw [h5]
  exact q
def zFv (_:PySem.W.Frag):Sp:=fun vs H Q _=>∃ (x y z:Int),vs = [.int x,.int y,.int z]∧z≠0∧z.natAbs≤10 ^ 40∧∀ (p:Addr) (H':Hp),Same H H'→H p = none→H' p = some (.tup ((lowL (upL x y z)).map V.int))→Q (.ref p) H'
theorem zLz (F:Fun K "_law_spot_of" "_law_spot_of" zFf f fd) (Z:Zs mg) (h_L_low:Has P w K mg base "_law_low" 1 ["_law_one", "_law_other"] (zOp K)):FnOk P w K mg base CX0 2 f fd ["_law_x", "_law_y", "_law_w"] (zFv K):=by
 refine F.ok zF1 (fun vs H Q E h=>?_) (fun cdv A outer s H vs Q E hr h=>?_)
 ·obtain ⟨x,y,z,rfl,_⟩:=h
  rfl
 obtain ⟨x,y,z,rfl,hz,hz2,q⟩:=h
 refine ⟨_,(zAf (zA9 (zAs zFk (pv 2) zAb (zAt _)) (zAi (zVg (i:=0) (j:=1) (k:=2) rfl zF1.nd rfl rfl rfl (by decide) (by decide) (by decide) rfl rfl rfl (zAa (zEi zCp (pv 0)) (zAa (zEi zCp (pv 1)) (zAa (zEi zCp (pv 2)) zAe))) rfl)) zAv)
   (zAf (zAy (i:=3) zF1.nd rfl (Or.inl rfl) (zAh h_L_low (hr.mono (by decide)) rfl (zAa (zAh h_L_low (hr.mono (by decide)) rfl (zAa (pv 0) (zAa (pv 1) zAe))) (zAa (pv 2) zAe))))
   (zAi (zAq (zAz (zAa (zAl zCx (pv 0) (pv 3)) (zAa (zAl zCx (pv 1) (pv 3)) (zAa (zAl zCx (pv 2) (pv 3)) zAe)))))))),?_⟩
 try dsimp only [L2.cxOf]
 refine ⟨_,rfl,_,_,rfl,rfl,_,rfl,?_⟩
 refine ifD (fun hneg=>?_) (fun hpos=>?_)
 ·refine ⟨_,rfl,_,rfl,_,rfl,_,rfl,_,rfl,_,rfl,_,_,_,rfl,?_⟩
  have u:upL x y z = [-x,-y,-z]:=by unfold upL; rw [if_pos hneg]
  have eg:(Nat.gcd ((Nat.gcd (-x).natAbs (-y).natAbs:Nat):Int).natAbs (-z).natAbs:Nat) = gcdL [-x,-y,-z]:=gcd3 _ _ _
  refine ⟨_,rfl,_,rfl,-x,-y,rfl,_,rfl,_,-z,rfl,?_⟩
  rw [eg]
  have gp:0 < gcdL [-x,-y,-z]:=zCf (n:=-z) (by simp) (by omega)
  have gle:=zGv (ns:=[-x,-y,-z]) (n:=-z) (by simp) (by omega)
  have dv:∀ i:Int,zEr i (gcdL [-x,-y,-z]:Int):=fun i=>zEr.of (by omega) (Int.lt_of_le_of_lt (show (gcdL [-x,-y,-z]:Int)≤10 ^ 40 by omega) (by decide +kernel))
  refine ⟨_,rfl,_,rfl,_,_,rfl,rfl,dv _,_,rfl,_,rfl,_,_,rfl,rfl,dv _,_,rfl,_,rfl,_,_,rfl,rfl,dv _,(by show 3≤sizeLine; decide),fun p hp=>?_⟩
  refine q p _ (zAd hp _) hp ?_
  rw [u]
  exact zAc
 ·have u:upL x y z = [x,y,z]:=by unfold upL; rw [if_neg hpos]
  have eg:(Nat.gcd ((Nat.gcd (x).natAbs (y).natAbs:Nat):Int).natAbs (z).natAbs:Nat) = gcdL [x,y,z]:=gcd3 _ _ _
  refine ⟨_,rfl,_,rfl,x,y,rfl,_,rfl,_,z,rfl,?_⟩
  rw [eg]
  have gp:0 < gcdL [x,y,z]:=zCf (n:=z) (by simp) (by omega)
  have gle:=zGv (ns:=[x,y,z]) (n:=z) (by simp) (by omega)
  have dv:∀ i:Int,zEr i (gcdL [x,y,z]:Int):=fun i=>zEr.of (by omega) (Int.lt_of_le_of_lt (show (gcdL [x,y,z]:Int)≤10 ^ 40 by omega) (by decide +kernel))
  refine ⟨_,rfl,_,rfl,_,_,rfl,rfl,dv _,_,rfl,_,rfl,_,_,rfl,rfl,dv _,_,rfl,_,rfl,_,_,rfl,rfl,dv _,(by show 3≤sizeLine; decide),fun p hp=>?_⟩
  refine q p _ (zAd hp _) hp ?_
  rw [u]
  exact zAc
def zM1 (K:PySem.W.Frag):Sp:=fun vs H Q _=>∃ (a b:Addr) (e s:P3),vs = [.ref a,.ref b]∧Sq K H a [.int e.1,.int e.2.1,.int e.2.2]∧Sq K H b [.int s.1,.int s.2.1,.int s.2.2]∧e.1.natAbs≤10 ^ 9∧e.2.1.natAbs≤10 ^ 9∧e.2.2.natAbs≤10 ^ 13∧s.1.natAbs≤10 ^ 9∧s.2.1.natAbs≤10 ^ 9∧s.2.2.natAbs≤10 ^ 13 ∧
 (tn e s = 0→Q .non H)∧(tn e s≠0→∀ (p:Addr) (H':Hp),Same H H'→H p = none→H' p = some (.tup ((crL e s).map V.int))→Q (.ref p) H')
theorem zQw (F:Fun K "_law_meet" "_law_meet" zIl f fd) (Z:Zs mg) (h_L_spot_of:Has P w K mg base "_law_spot_of" 2 ["_law_x", "_law_y", "_law_w"] (zFv K)):FnOk P w K mg base CX0 3 f fd ["_law_one", "_law_other"] (zM1 K):=by
 refine F.ok zM4 (fun vs H Q E h=>?_) (fun cdv A outer s H vs Q E hr h=>?_)
 ·obtain ⟨a,b,e,s,rfl,_⟩:=h
  rfl
 obtain ⟨a,b,e,t,rfl,ha,hb,b1,b2,b3,c1,c2,c3,q0,q⟩:=h
 refine ⟨_,(zAf (zAy (i:=2) zM4.nd rfl (Or.inl rfl) (zAl zCe (zAl zA0 (zAk zAg (pv 0) zAb (fun _ _=>rfl)) (zAk zAg (pv 1) zAb (fun _ _=>rfl))) (zAl zA0 (zAk zAg (pv 0) zAb (fun _ _=>rfl)) (zAk zAg (pv 1) zAb (fun _ _=>rfl)))))
   (zAf (zA9 (zAs zBu (pv 2) zAb (zAt _)) (zAi (zAq zBp)) zAv)
   (zAi (zAq (zAh h_L_spot_of (hr.mono (by decide)) rfl (zAa (zAl zCe (zAl zA0 (zAk zAg (pv 0) zAb (fun _ _=>rfl)) (zAk zAg (pv 1) zAb (fun _ _=>rfl))) (zAl zA0 (zAk zAg (pv 1) zAb (fun _ _=>rfl)) (zAk zAg (pv 0) zAb (fun _ _=>rfl)))) (zAa (zAl zCe (zAl zA0 (zAk zAg (pv 0) zAb (fun _ _=>rfl)) (zAk zAg (pv 1) zAb (fun _ _=>rfl))) (zAl zA0 (zAk zAg (pv 1) zAb (fun _ _=>rfl)) (zAk zAg (pv 0) zAb (fun _ _=>rfl)))) (zAa (pv 2) zAe)))))))),?_⟩
 try dsimp only [L2.cxOf]
 have z1:=zAj e.1 t.2.1 b1 c2
 have z2:=zAj e.2.1 t.1 b2 c1
 refine ⟨_,rfl,a,_,_,.int e.1,rfl,rfl,ha,rfl,_,rfl,b,_,_,.int t.2.1,rfl,rfl,hb,rfl,_,_,rfl,rfl,cm_l (Nat.le_trans b1 (by decide)),_,rfl,a,_,_,.int e.2.1,rfl,rfl,ha,rfl,_,rfl,b,_,_,.int t.1,rfl,rfl,hb,rfl,_,_,rfl,rfl,cm_l (Nat.le_trans b2 (by decide)),_,_,rfl,rfl,?_⟩
 refine ⟨_,rfl,rfl,_,rfl,?_⟩
 refine ifE (fun hw=>q0 hw) (fun hw=>?_)
 refine ⟨_,rfl,a,_,_,.int e.2.2,rfl,rfl,ha,rfl,_,rfl,b,_,_,.int t.2.1,rfl,rfl,hb,rfl,_,_,rfl,rfl,cm_l (Nat.le_trans b3 (by decide)),_,rfl,b,_,_,.int t.2.2,rfl,rfl,hb,rfl,_,rfl,a,_,_,.int e.2.1,rfl,rfl,ha,rfl,_,_,rfl,rfl,cm_l (Nat.le_trans c3 (by decide)),_,_,rfl,rfl,
  _,rfl,a,_,_,.int e.1,rfl,rfl,ha,rfl,_,rfl,b,_,_,.int t.2.2,rfl,rfl,hb,rfl,_,_,rfl,rfl,cm_l (Nat.le_trans b1 (by decide)),_,rfl,b,_,_,.int t.1,rfl,rfl,hb,rfl,_,rfl,a,_,_,.int e.2.2,rfl,rfl,ha,rfl,_,_,rfl,rfl,cm_l (Nat.le_trans c1 (by decide)),_,_,rfl,rfl,_,rfl,
  e.2.2 * t.2.1 - t.2.2 * e.2.1,e.1 * t.2.2 - t.1 * e.2.2,e.1 * t.2.1 - e.2.1 * t.1,rfl,hw,(show (e.1 * t.2.1 - e.2.1 * t.1).natAbs≤10 ^ 40 by omega),fun p H' s' hp ep=>q hw p H' s' hp ?_⟩
 rw [ep]
 unfold crL
 rw [Int.mul_comm t.2.2 e.2.1,Int.mul_comm t.1 e.2.2]
def hasB (ss:List (Addr × Int × Int × Int)) (x y w:Int):List Bool:=ss.map fun t=>decide (t.2.1 * x + t.2.2.1 * y≤t.2.2.2 * w)
def zIn (K:PySem.W.Frag):Sp:=fun vs H Q _=>∃ (a p:Addr) (ss:List (Addr × Int × Int × Int)) (x y w:Int),vs = [.ref a,.ref p]∧H a = some (.lst (ss.map fun t=>V.ref t.1))∧ss.length≤1000 ∧
 (∀ t∈ss,H t.1 = some (.tup [.int t.2.1,.int t.2.2.1,.int t.2.2.2])∧t.2.1.natAbs≤10 ^ 18∧t.2.2.1.natAbs≤10 ^ 18∧t.2.2.2.natAbs≤10 ^ 18)∧H p = some (.tup [.int x,.int y,.int w]) ∧
 ∀ H',Same H H'→Q (.bl ((hasB ss x y w).all id)) H'
theorem zTt (F:Fun K "_law_has" "_law_has" zLi f fd) (Z:Zs mg)  : FnOk P w K mg base CX0 1 f fd ["_law_sides_here", "_law_place"] (zIn K):=by
 refine F.ok zIv (fun vs H Q E h=>?_) (fun cdv A outer s H vs Q E hr h=>?_)
 ·obtain ⟨a,p,ss,x,y,w,rfl,_⟩:=h
  rfl
 obtain ⟨a,p,ss,x,y,wt,rfl,ha,hl,hs,hp,q⟩:=h
 refine ⟨_,(zAf (zEc (pv 1) (zCk rfl (zAw (zAr (i:=2) zIv.nd rfl (Or.inr rfl)) (zAw (zAr (i:=3) zIv.nd rfl (Or.inr rfl)) (zAw (zAr (i:=4) zIv.nd rfl (Or.inr rfl)) zBk)))))
   (zAi (zAq (zAu (zHm rfl) rfl Z.all zOk (zAa (zC2 (T:=["_law_a", "_law_b", "_law_c"]) (caps:=[("_law_w", 4),("_law_x", 2),("_law_y", 3)]) ⟨rfl,by decide +kernel,by decide +kernel,rfl,⟨⟨rfl,rfl,Or.inl rfl⟩,⟨rfl,rfl,Or.inl rfl⟩,⟨rfl,rfl,Or.inl rfl⟩,True.intro⟩⟩ rfl (zCd (pv 0)) (fun _=>(zCk rfl (zAw (zAr (i:=0) (show (["_law_a", "_law_b", "_law_c", "_law_w", "_law_x", "_law_y"]:List Str).Nodup by decide +kernel) rfl (Or.inl rfl)) (zAw (zAr (i:=1) (show (["_law_a", "_law_b", "_law_c", "_law_w", "_law_x", "_law_y"]:List Str).Nodup by decide +kernel) rfl (Or.inl rfl)) (zAw (zAr (i:=2) (show (["_law_a", "_law_b", "_law_c", "_law_w", "_law_x", "_law_y"]:List Str).Nodup by decide +kernel) rfl (Or.inl rfl)) zBk))))) (fun _=>zBg) (fun _=>(zCa zQj (zAl zBc (zAl zA0 (pv 0) (pv 4)) (zAl zA0 (pv 1) (pv 5))) (zAl zA0 (pv 2) (pv 3)) (zAt _)))) zAe))))),?_⟩
 try dsimp only [L2.cxOf]
 refine ⟨_,rfl,p,_,rfl,SqT.of hp,rfl,.int x,_,rfl,.int y,_,rfl,.int wt,_,rfl,rfl,?_⟩
 refine ⟨_,rfl,a,rfl,.inl ⟨⟨_,SqL.of ha⟩,fun c D hD=>zBx (K:=K) (a:=a) (xs:=ss.map fun t=>V.ref t.1) (fun i σ ys H'=>H' = upd H D (.lst ys)∧ys = (hasB (ss.take i) x y wt).map V.bl∧∃ u v z,σ = [u,v,z,some (.int wt),some (.int x),some (.int y)])
  ⟨rfl,rfl,none,none,none,rfl⟩ (fun i σ ys H' _ ⟨e,_⟩=>by rw [e]; exact ⟨(zAd hD _).seq (SqL.of ha),zAc⟩) ?_ ?_⟩⟩
 ·rintro i r σ ys H' hi ⟨rfl,rfl,u,v,z,rfl⟩
  rw [List.getElem?_map] at hi
  cases ht:ss[i]? with
  | none=>rw [ht] at hi; cases hi
  | some t =>
   rw [ht] at hi
   cases hi
   obtain ⟨h1,m1,m2,m3⟩:=hs t (List.mem_of_getElem? ht)
   have hil:i < ss.length:=(List.getElem?_eq_some_iff.mp ht).1
   refine ⟨t.1,_,rfl,SqT.of (zAd hD _ _ _ h1),rfl,_,_,rfl,_,_,rfl,_,_,rfl,rfl,?_⟩
   refine ⟨_,rfl,_,rfl,_,_,rfl,rfl,cm_l (by omega),_,rfl,_,rfl,_,_,rfl,rfl,cm_l (by omega),_,_,rfl,rfl,_,rfl,_,rfl,_,_,rfl,rfl,cm_l (by omega),_,_,rfl,rfl,zAc,?_,zGx,?_,_,_,_,rfl⟩
   ·refine zA6 ?_
    unfold hasB
    rw [List.length_map,List.length_map,List.length_take]
    omega
   ·unfold hasB
    rw [zBn ht,List.map_append,List.map_append]
    rfl
 ·rintro σ ys H' ⟨rfl,rfl,u,v,z,rfl⟩
  rw [List.length_map,List.take_length]
  exact ⟨D,hasB ss x y wt,rfl,SqL.of zAc,q _ (zAd hD _)⟩
theorem zNr {ss:List Sd} {P:P3} : (hasB ss P.1 P.2.1 P.2.2).all id = inWB ss P:=by
 unfold hasB inWB
 rw [List.all_map]
 congr 1
 funext t
 show decide (t.2.1 * P.1 + t.2.2.1 * P.2.1≤t.2.2.2 * P.2.2) = decide (sv t.2 P≤0)
 refine decide_eq_decide.mpr ?_
 unfold sv
 omega
theorem zQr {H:Hp} {ss:List Sd} (ok:SdOk H ss):∀ t∈ss,H t.1 = some (.tup [.int t.2.1,.int t.2.2.1,.int t.2.2.2])∧t.2.1.natAbs≤10 ^ 18∧t.2.2.1.natAbs≤10 ^ 18∧t.2.2.2.natAbs≤10 ^ 18:=fun t ht=>by
 obtain ⟨h1,_,h2,h3,h4⟩:=ok t ht
 exact ⟨h1,by omega,by omega,by omega⟩
structure CrK (ss:List Sd) (i j:Nat) (ks:List (List Int)):Prop where
 each:∀ k∈ks,∃ t∈ss,∃ u∈ss,tn t.2 u.2≠0∧k = crL t.2 u.2∧inW ss (pt3 (crL t.2 u.2))
 all:∀ (a b:Nat) (t u:Sd),a < b→(a < i∨(a = i∧b < i + 1 + j))→ss[a]? = some t→ss[b]? = some u→tn t.2 u.2≠0→inW ss (pt3 (crL t.2 u.2))→crL t.2 u.2∈ks
def zFs (K:PySem.W.Frag):Sp:=fun vs H Q _=>∃ (l:Addr) (ss:List Sd),vs = [.ref l]∧H l = some (.lst (zAo ss))∧SdOk H ss∧ss.length≤900 ∧
 ∀ (D:Addr) (qs:List (Addr × P3)) (H':Hp),Same H H'→H D = none→H' D = some (.lst (zBt qs))→zJ8 H' qs→qs.length≤1000000→(∀ t∈ss,∀ u∈ss,tn t.2 u.2≠0→inW ss (pt3 (crL t.2 u.2))→pt3 (crL t.2 u.2)∈qs.map (·.2))→(qs.map (·.2)).Nodup→(∀ P∈qs.map (·.2),Cor ss P)→Q (.ref D) H'
theorem zJw (F:Fun K "_law_corners_of" "_law_corners_of" zDm f fd) (Z:Zs mg) (h_L_has:Has P w K mg base "_law_has" 1 ["_law_sides_here", "_law_place"] (zIn K)) (h_L_meet:Has P w K mg base "_law_meet" 3 ["_law_one", "_law_other"] (zM1 K)):FnOk P w K mg base CX0 4 f fd ["_law_sides_here"] (zFs K):=by
 refine F.ok zBy (fun vs H Q E h=>?_) (fun cdv A outer s H vs Q E hr h=>?_)
 ·obtain ⟨l,ss,rfl,_⟩:=h
  rfl
 obtain ⟨l,ss,rfl,el,ok,hlen,q⟩:=h
 have hu1:=Nat.lt_of_le_of_lt (Nat.add_le_add_left (show 1≤64 by decide) _) hr.units
 have big:∀ n:Nat,n≤1000000→n < sizeLine:=fun n hn=>Nat.lt_of_le_of_lt hn (by decide)
 refine ⟨_,(zAf (zAy (i:=1) zBy.nd rfl (Or.inl rfl) zOi)
   (zAf (zCv PassesOwn.never rfl (zRn rfl Z.enumerate (zAa (pv 0) zAe)) (zCk rfl (zAw (zAr (i:=2) zBy.nd rfl (Or.inl rfl)) (zAw (zAr (i:=3) zBy.nd rfl (Or.inl rfl)) zBk))) (zAi (zCv PassesOwn.never rfl (zJm (zBs zCt (pv 0) (zB8 (zAl zBc (pv 2) zAb)) zB3)) (zAr (i:=4) zBy.nd rfl (Or.inl rfl)) (zAf (zAy (i:=5) zBy.nd rfl (Or.inl rfl) (zAh h_L_meet (hr.mono (by decide)) rfl (zAa (pv 3) (zAa (pv 4) zAe))))
   (zAi (zA9 (PW.pt (zFm (zAs zHz (pv 5) zBp (zAt _)) (zEe (zB5 (zAh h_L_has (hr.mono (by decide)) rfl (zAa (pv 0) (zAa (pv 5) zAe))))))) (zAi (zSg hu1 (pv 1) (pv 5) zE2 rfl)) zAv))))))
   (zAi (zAq (zCj (zIb rfl) rfl Z.list zC6 (zAa (pv 1) zAe)))))),?_⟩
 try dsimp only [L2.cxOf]
 refine fun d hd=>?_
 refine ⟨_,rfl,l,_,rfl,zAd hd _ _ _ el,zSy (K:=K) (l:=l) (xs:=zAo ss) (fun i σ H'=>Same H H'∧(∃ kvs ks,H' d = some (.dT kvs)∧TabK kvs ks∧ks.length≤1000 * i∧CrK ss i 0 ks)∧∃ u2 u3 u4 u5:Option V,σ = [some (.ref l),some (.ref d),u2,u3,u4,u5])
  ⟨zAd hd _,⟨[],[],zAc,.nil,Nat.le_refl _,(fun k hk=>nomatch hk),fun a b t u hab hc=>absurd hc (by omega)⟩,none,none,none,none,rfl⟩ (fun i σ H' ⟨e,_⟩=>SqL.of (e _ _ el)) ?_ ?_⟩
 ·rintro i v T σ H' hi hT ⟨sH,⟨kvs,ks,eD,tk,hks,cr⟩,u2,u3,u4,u5,rfl⟩
  obtain ⟨t,gt,rfl,hil⟩:=zBv hi
  obtain ⟨et0,nt,b1,b2,b3⟩:=ok t (List.mem_of_getElem? gt)
  have sT:Same H' (upd H' T (.tup [.int i,.ref t.1])):=zAd hT _
  have eT:upd H' T (.tup [.int i,.ref t.1]) T = some (.tup [.int i,.ref t.1]):=zAc
  generalize upd H' T (.tup [.int i,.ref t.1]) = H2 at sT eT ⊢
  refine ⟨T,_,rfl,SqT.of eT,rfl,.int i,_,rfl,.ref t.1,_,rfl,rfl,?_⟩
  have sH2:=sH.trans sT
  refine ⟨_,rfl,_,rfl,_,_,rfl,rfl,_,rfl,l,_,rfl,SqL.of (sH2 _ _ el),fun c hc=>?_⟩
  rw [show ((i:Nat):Int) + 1 = ((i + 1:Nat):Int) from by omega,zVi]
  have sc:Same H2 (upd H2 c (.lst (zAo (ss.drop (i + 1))))):=zAd hc _
  have ec:upd H2 c (.lst (zAo (ss.drop (i + 1)))) c = some (.lst (zAo (ss.drop (i + 1)))):=zAc
  generalize upd H2 c (.lst (zAo (ss.drop (i + 1)))) = H3 at sc ec ⊢
  have s3:=sH2.trans sc
  have eD3:=sc _ _ (sT _ _ eD)
  have ncd:c≠d:=fun z=>by rw [z] at ec; rw [ec] at eD3; cases eD3
  refine ⟨c,rfl,⟨_,SqL.of ec⟩,zCg (K:=K) (a:=c) (xs:=zAo (ss.drop (i + 1))) (fun j σ H'=>Same H H'∧H' c = some (.lst (zAo (ss.drop (i + 1))))∧(∃ kvs ks,H' d = some (.dT kvs)∧TabK kvs ks∧ks.length≤1000 * i + j∧CrK ss i j ks)∧∃ u4 u5:Option V,σ = [some (.ref l),some (.ref d),some (.int i),some (.ref t.1),u4,u5])
   ⟨s3,ec,⟨kvs,ks,eD3,tk,by omega,cr⟩,_,_,rfl⟩ (fun j σ H' _ ⟨_,e,_⟩=>SqL.of e) ?_ ?_⟩
  ·rintro j v σ H4 hj ⟨s4,ec4,⟨kvs,ks,eD4,tk,hks4,cr⟩,u4,u5,rfl⟩
   obtain ⟨u,gu0,rfl,hjl⟩:=zBv hj
   rw [List.length_drop] at hjl
   have gu:ss[i + 1 + j]? = some u:=by rw [List.getElem?_drop] at gu0; exact gu0
   obtain ⟨eu0,_,c1,c2,c3⟩:=ok u (List.mem_of_getElem? gu)
   have step:∀ ks':List (List Int),(∀ k∈ks,k∈ks')→(∀ k∈ks',k∈ks∨(tn t.2 u.2≠0∧k = crL t.2 u.2∧inW ss (pt3 (crL t.2 u.2))))→(tn t.2 u.2≠0→inW ss (pt3 (crL t.2 u.2))→crL t.2 u.2∈ks')→CrK ss i (j + 1) ks':=fun ks' k1 k2 k3=>by
    refine ⟨fun k hk=>?_,fun a b x y hab hc gx gy hxy hw=>?_⟩
    ·rcases k2 k hk with h | ⟨h1,h2⟩
     ·exact cr.each k h
     ·exact ⟨t,List.mem_of_getElem? gt,u,List.mem_of_getElem? gu,h1,h2⟩
    ·by_cases e:a = i∧b = i + 1 + j
     ·obtain ⟨rfl,rfl⟩:=e
      rw [gt] at gx
      rw [gu] at gy
      cases gx
      cases gy
      exact k3 hxy hw
     ·exact k1 _ (cr.all a b x y hab (by omega) gx gy hxy hw)
   refine ⟨_,rfl,_,rfl,t.1,u.1,t.2,u.2,rfl,.inr (SqT.of (s4 _ _ et0)),.inr (SqT.of (s4 _ _ eu0)),b1,b2,b3,c1,c2,c3,fun h0=>?_,fun h0 p H5 s5 hp ep=>?_⟩
   ·refine ⟨_,rfl,rfl,_,rfl,?_⟩
    refine iteF ?_
    refine iteF ?_
    exact ⟨s4,ec4,⟨kvs,ks,eD4,tk,by omega,step ks (fun k h=>h) (fun k h=>.inl h) fun z=>absurd h0 z⟩,_,_,rfl⟩
   ·obtain ⟨sp,_,_⟩:=zEv h0
    have ep':H5 p = some (.tup [.int (pt3 (crL t.2 u.2)).1,.int (pt3 (crL t.2 u.2)).2.1,.int (pt3 (crL t.2 u.2)).2.2]):=by
     rw [ep,sp.list]
     rfl
    have s45:=s4.trans s5
    refine ⟨_,rfl,rfl,_,rfl,?_⟩
    refine iteT ?_
    refine ⟨_,rfl,_,rfl,l,p,ss,_,_,_,rfl,by rw [← zH1]; exact s45 _ _ el,by omega,zQr (ok.same s45),ep',fun H6 s6=>?_⟩
    rw [zNr]
    refine ⟨_,rfl,?_⟩
    by_cases hw:inWB ss (pt3 (crL t.2 u.2)) = true
    ·rw [hw]
     refine iteT ?_
     have eD6:=s6 _ _ (s5 _ _ eD4)
     obtain ⟨ks',tk',mem',len'⟩:=tk.put (crL t.2 u.2) (.bl true)
     have kl:=tk.len
     refine ⟨_,rfl,_,rfl,d,_,rfl,DPut.t (k:=keyI (crL t.2 u.2)) eD6 (by rw [zI8]; exact s6 _ _ ep) (by rw [kl]; exact big _ (by omega)),?_⟩
     refine ⟨(s45.trans s6).putNew hd,?_,⟨_,ks',zAc,tk',by omega,step ks' (fun k h=>(mem' k).mpr (.inl h)) (fun k h=>((mem' k).mp h).imp id fun z=>⟨h0,z,zDq.mp hw⟩) fun _ _=>(mem' _).mpr (.inr rfl)⟩,_,_,rfl⟩
     rw [zA5 ncd]
     exact s6 _ _ (s5 _ _ ec4)
    ·have hw':inWB ss (pt3 (crL t.2 u.2)) = false:=by simpa using hw
     rw [hw']
     refine iteF ?_
     exact ⟨s45.trans s6,s6 _ _ (s5 _ _ ec4),⟨kvs,ks,s6 _ _ (s5 _ _ eD4),tk,by omega,step ks (fun k h=>h) (fun k h=>.inl h) fun _ z=>absurd (zDq.mpr z) hw⟩,_,_,rfl⟩
  ·rintro σ H4 ⟨s4,_,⟨kvs,ks,eD4,tk,hks4,cr⟩,u4,u5,rfl⟩
   rw [zAm,List.length_drop] at hks4 cr
   refine ⟨s4,⟨kvs,ks,eD4,tk,by omega,cr.each,fun a b x y hab hc gx gy=>?_⟩,_,_,_,_,rfl⟩
   have hb:b < ss.length:=(List.getElem?_eq_some_iff.mp gy).1
   exact cr.all a b x y hab (by omega) gx gy
 ·rintro σ H' ⟨sH,⟨kvs,ks,eD,tk,hks,cr⟩,u2,u3,u4,u5,rfl⟩
  rw [zAm] at hks cr
  refine ⟨_,rfl,d,kvs,rfl,eD,fun p1 ts hp1 ets hts=>?_⟩
  have sp1:=zAd hp1 (.lst ((ts.map (·.1)).map V.ref))
  obtain ⟨us,w1,w2,w3⟩:=tk.refs ets hts
  have hk:us.length = ks.length:=by have z:=congrArg List.length w2; rwa [List.length_map] at z
  refine q p1 (us.map fun u=>(u.1,pt3 u.2)) _ (sH.trans sp1) (sH.free hp1) (by rw [zAc]; simp only [zBt,List.map_map]; rw [← List.map_map,← w1]; simp) (fun x hx=>?_) (by rw [List.length_map]; omega) (fun t ht u hu htu hw=>?_) ?_ fun P hP=>?_
  ·obtain ⟨y,hy,rfl⟩:=List.mem_map.mp hx
   have hyk:y.2∈ks:=by rw [← w2]; exact List.mem_map_of_mem hy
   obtain ⟨t,_,u,_,htu,ek,_⟩:=cr.each y.2 hyk
   obtain ⟨sp,_,_⟩:=zEv htu
   have ey:=sp1 _ _ (w3 y hy)
   rw [ek] at ey ⊢
   refine ⟨?_,sp.pos,sp.low⟩
   show upd H' p1 _ y.1 = _
   rw [ey,sp.list]
   rfl
  ·obtain ⟨a,ha,ea⟩:=List.getElem_of_mem ht
   obtain ⟨b,hb,eb⟩:=List.getElem_of_mem hu
   have ga:ss[a]? = some t:=by rw [List.getElem?_eq_getElem ha,ea]
   have gb:ss[b]? = some u:=by rw [List.getElem?_eq_getElem hb,eb]
   have key:crL t.2 u.2∈ks:=by
    by_cases hab:a < b
    ·exact cr.all a b t u hab (.inl (by omega)) ga gb htu hw
    ·by_cases e:a = b
     ·subst e
      rw [ga] at gb
      cases gb
      exact absurd (by unfold tn; rw [Int.mul_comm]; omega) htu
     ·have hut:tn u.2 t.2≠0:=fun z=>htu (by unfold tn at z ⊢; rw [Int.mul_comm u.2.1,Int.mul_comm u.2.2.1] at z; omega)
      rw [zVd htu] at hw ⊢
      exact cr.all b a u t (by omega) (.inl (by omega)) gb ga hut hw
   rw [List.map_map]
   have z:crL t.2 u.2∈us.map (·.2):=by rw [w2]; exact key
   obtain ⟨y,hy,ey⟩:=List.mem_map.mp z
   exact List.mem_map.mpr ⟨y,hy,by show pt3 y.2 = _; rw [ey]⟩
  ·have e:(us.map fun u=>(u.1,pt3 u.2)).map (·.2) = ks.map pt3:=by rw [← w2,List.map_map,List.map_map]; rfl
   rw [e,List.Nodup,List.pairwise_map]
   refine List.Pairwise.imp_of_mem (fun {k k'} hk hk' hne ee=>?_) tk.nodup
   obtain ⟨t,_,u,_,htu,rfl,_⟩:=cr.each k hk
   obtain ⟨t',_,u',_,htu',rfl,_⟩:=cr.each k' hk'
   exact hne (by rw [(zEv htu).1.list,(zEv htu').1.list,ee])
  ·rw [List.map_map] at hP
   obtain ⟨y,hy,rfl⟩:=List.mem_map.mp hP
   have hyk:y.2∈ks:=by rw [← w2]; exact List.mem_map_of_mem hy
   obtain ⟨t,ht,u,hu,htu,ek,hw⟩:=cr.each y.2 hyk
   exact ⟨t,ht,u,hu,htu,by show pt3 y.2 = _; rw [ek],by show inW ss (pt3 y.2); rw [ek]; exact hw⟩
def zMz (K:PySem.W.Frag):Sp:=fun vs H Q _=>∃ (l:Addr) (ss:List Sd),vs = [.ref l]∧SqL K H l (zAo ss)∧SdOk H ss∧ss.length≤900 ∧
 ∀ (D:Addr) (qs:List (Addr × P3)) (H':Hp),Same H H'→H D = none→H' D = some (.lst (zBt qs))→zJ8 H' qs→qs.map (·.2) = ss.map (fun t=>pt3 (ftL t.2))→Q (.ref D) H'
theorem zQ7 (F:Fun K "_law_feet" "_law_feet" zIj f fd) (Z:Zs mg) (h_L_spot_of:Has P w K mg base "_law_spot_of" 2 ["_law_x", "_law_y", "_law_w"] (zFv K)):FnOk P w K mg base CX0 3 f fd ["_law_sides_here"] (zMz K):=by
 refine F.ok zRv (fun vs H Q E h=>?_) (fun cdv A outer s H vs Q E hr h=>?_)
 ·obtain ⟨l,ss,rfl,_⟩:=h
  rfl
 obtain ⟨l,ss,rfl,hl,ok,hlen,q⟩:=h
 refine ⟨_,(zAi (zAq (zC2 (T:=["_law_a", "_law_b", "_law_c"]) (caps:=[]) ⟨rfl,by decide +kernel,by decide +kernel,rfl,True.intro⟩ rfl (zCd (pv 0)) (fun _=>(zCk rfl (zAw (zAr (i:=0) (show (["_law_a", "_law_b", "_law_c"]:List Str).Nodup by decide +kernel) rfl (Or.inl rfl)) (zAw (zAr (i:=1) (show (["_law_a", "_law_b", "_law_c"]:List Str).Nodup by decide +kernel) rfl (Or.inl rfl)) (zAw (zAr (i:=2) (show (["_law_a", "_law_b", "_law_c"]:List Str).Nodup by decide +kernel) rfl (Or.inl rfl)) zBk))))) (fun _=>zBg) (fun _=>(zAh h_L_spot_of (hr.mono (by decide)) rfl (zAa (zAl zA0 (pv 0) (pv 2)) (zAa (zAl zA0 (pv 1) (pv 2)) (zAa (zAl zBc (zAl zA0 (pv 0) (pv 0)) (zAl zA0 (pv 1) (pv 1))) zAe)))))))),?_⟩
 try dsimp only [L2.cxOf]
 refine ⟨_,rfl,l,rfl,.inl ⟨⟨_,hl⟩,fun c D hD=>zBx (K:=K) (a:=l) (xs:=zAo ss) (fun i σ ys H'=>Same H H'∧H' D = some (.lst ys)∧(∃ qs:List (Addr × P3),ys = zBt qs∧qs.length = i∧zJ8 H' qs∧qs.map (·.2) = (ss.take i).map (fun t=>pt3 (ftL t.2)))∧∃ u v z:Option V,σ = [u,v,z])
  ⟨zAd hD _,zAc,⟨[],rfl,rfl,(fun t ht=>nomatch ht),rfl⟩,none,none,none,rfl⟩ (fun i σ ys H' _ ⟨e1,e2,_⟩=>⟨e1.seq hl,e2⟩) ?_ ?_⟩⟩
 ·rintro i v σ ys H' hi ⟨sH,eD,⟨qs,rfl,hq,okq,hm⟩,u,v',z,rfl⟩
  obtain ⟨t,gt,rfl,hil⟩:=zBv hi
  obtain ⟨et0,nt,c1,c2,c3⟩:=ok t (List.mem_of_getElem? gt)
  have z1:=zAj t.2.1 t.2.1 c1 c1
  have z2:=zAj t.2.2.1 t.2.2.1 c2 c2
  have pos:=zEk nt
  refine ⟨t.1,_,rfl,SqT.of (sH _ _ et0),rfl,.int t.2.1,_,rfl,.int t.2.2.1,_,rfl,.int t.2.2.2,_,rfl,rfl,?_⟩
  refine ⟨_,rfl,_,rfl,_,_,rfl,rfl,cm_l (by omega),_,rfl,_,rfl,_,_,rfl,rfl,cm_l (by omega),_,rfl,_,rfl,_,_,rfl,rfl,cm_l (by omega),_,rfl,_,rfl,_,_,rfl,rfl,cm_l (by omega),_,_,rfl,rfl,
   t.2.1 * t.2.2.2,t.2.2.1 * t.2.2.2,t.2.1 * t.2.1 + t.2.2.1 * t.2.2.1,rfl,by omega,by omega,fun p H2 s2 hp ep=>?_⟩
  obtain ⟨sf,_⟩:=zR7 (t:=t.2) nt
  have ep':H2 p = some (.tup [.int (pt3 (ftL t.2)).1,.int (pt3 (ftL t.2)).2.1,.int (pt3 (ftL t.2)).2.2]):=by
   have z:H2 p = some (.tup ((ftL t.2).map V.int)):=ep
   rw [z,sf.list]
   rfl
  have npD:p≠D:=fun z=>by rw [z,eD] at hp; cases hp
  refine ⟨s2 _ _ eD,zA6 (by simp only [List.length_map]; omega),(sH.trans s2).putNew hD,zAc,⟨qs ++ [(p,pt3 (ftL t.2))],by simp [zBt],by rw [List.length_append,hq]; rfl,fun u hu=>?_,by rw [zBn gt,List.map_append,List.map_append,hm]; rfl⟩,_,_,_,rfl⟩
  rcases List.mem_append.mp hu with hu | hu
  ·obtain ⟨g1,g2⟩:=okq u hu
   exact ⟨by rw [zA5 (zHh (s2 _ _ g1) (s2 _ _ eD) (by intro z; cases z))]; exact s2 _ _ g1,g2⟩
  ·rw [List.mem_singleton] at hu
   subst hu
   refine ⟨?_,sf.pos,sf.low⟩
   show upd H2 D _ p = _
   rw [zA5 npD]
   exact ep'
 ·rintro σ ys H' ⟨sH,eD,⟨qs,rfl,hq,okq,hm⟩,u,v',z,rfl⟩
  rw [zAm,List.take_length] at hm
  exact q D qs H' sH hD eD okq hm
def zGm (K:PySem.W.Frag):Sp:=fun vs H Q _=>∃ (l:Addr) (ss:List Sd),vs = [.ref l]∧H l = some (.lst (zAo ss))∧SdOk H ss∧ss.length≤900 ∧
 (∀ H':Hp,Same H H'→(∀ P:P3,Cand ss P→¬ inW ss P)→Q .non H') ∧
 ∀ (p:Addr) (P:P3) (H':Hp),Same H H'→SpAt H' p P→inW ss P→Q (.ref p) H'
theorem zJ6 (F:Fun K "_law_any_place" "_law_any_place" zD1 f fd) (Z:Zs mg) (h_L_corners_of:Has P w K mg base "_law_corners_of" 4 ["_law_sides_here"] (zFs K)) (h_L_feet:Has P w K mg base "_law_feet" 3 ["_law_sides_here"] (zMz K)) (h_L_has:Has P w K mg base "_law_has" 1 ["_law_sides_here", "_law_place"] (zIn K)):FnOk P w K mg base CX0 5 f fd ["_law_sides_here"] (zGm K):=by
 refine F.ok zGn (fun vs H Q E h=>?_) (fun cdv A outer s H vs Q E hr h=>?_)
 ·obtain ⟨l,ss,rfl,_⟩:=h
  rfl
 obtain ⟨l,ss,rfl,el,ok,hlen,qn,q⟩:=h
 have big:∀ n:Nat,n≤2000000→n≤sizeLine:=fun n hn=>Nat.le_trans hn (by decide)
 refine ⟨_,(zAf (zCv PassesOwn.never rfl (zCd (zAl zFr (zAl zFr (zAh h_L_corners_of (hr.mono (by decide)) rfl (zAa (pv 0) zAe)) (zAh h_L_feet (hr.mono (by decide)) rfl (zAa (pv 0) zAe))) (zCb (zAa (zAz (zAa zAb (zAa zAb (zAa zAb zAe)))) zAe)))) (zAr (i:=1) zGn.nd rfl (Or.inl rfl)) (zAi (zA9 (zB5 (zAh h_L_has (hr.mono (by decide)) rfl (zAa (pv 0) (zAa (pv 1) zAe)))) (zAi (zAq (pv 1))) zAv)))
   (zAi (zAq zBp))),?_⟩
 try dsimp only [L2.cxOf]
 refine ⟨_,rfl,l,ss,rfl,el,ok,hlen,fun D1 qs1 H1 s1 hD1 eD1 ok1 n1 all1 _ _=>?_⟩
 refine ⟨_,rfl,l,ss,rfl,SqL.of (s1 _ _ el),ok.same s1,hlen,fun D2 qs2 H2 s2 hD2 eD2 ok2 m2=>?_⟩
 have n2:qs2.length = ss.length:=by have z:=congrArg List.length m2; rwa [List.length_map,List.length_map] at z
 refine ⟨D1,D2,_,_,rfl,rfl,s2 _ _ eD1,eD2,big _ (by simp only [List.length_map]; omega),fun D3 hD3=>?_⟩
 have s3:Same H2 (upd H2 D3 (.lst (zBt qs1 ++ zBt qs2))):=zAd hD3 _
 have eD3:upd H2 D3 (.lst (zBt qs1 ++ zBt qs2)) D3 = some (.lst (zBt (qs1 ++ qs2))):=by rw [zAc]; simp [zBt]
 generalize upd H2 D3 (.lst (zBt qs1 ++ zBt qs2)) = H3 at s3 eD3 ⊢
 refine ⟨(by show 3≤sizeLine; decide),fun o ho=>?_⟩
 have so:Same H3 (upd H3 o (.tup [.int 0,.int 0,.int 1])):=zAd ho _
 have eo:upd H3 o (.tup [.int 0,.int 0,.int 1]) o = some (.tup [.int 0,.int 0,.int 1]):=zAc
 generalize upd H3 o (.tup [.int 0,.int 0,.int 1]) = H4 at so eo ⊢
 refine ⟨(by show 1≤sizeLine; decide),fun ol hol=>?_⟩
 have sol:Same H4 (upd H4 ol (.lst [.ref o])):=zAd hol _
 have eol:upd H4 ol (.lst [.ref o]) ol = some (.lst [.ref o]):=zAc
 generalize upd H4 ol (.lst [.ref o]) = H5 at sol eol ⊢
 refine ⟨D3,ol,_,_,rfl,rfl,sol _ _ (so _ _ eD3),eol,big _ (by simp only [List.length_map,List.length_append]; show qs1.length + qs2.length + 1≤2000000; omega),fun L hL=>?_⟩
 have sL:Same H5 (upd H5 L (.lst (zBt (qs1 ++ qs2) ++ [.ref o]))):=zAd hL _
 have eL:upd H5 L (.lst (zBt (qs1 ++ qs2) ++ [.ref o])) L = some (.lst (zBt ((qs1 ++ qs2) ++ [(o,(0,0,1))]))):=by rw [zAc]; simp [zBt]
 generalize upd H5 L (.lst (zBt (qs1 ++ qs2) ++ [.ref o])) = H6 at sL eL ⊢
 have s46:=sol.trans sL
 have s26:=(s3.trans so).trans s46
 have s16:=s2.trans s26
 have s06:=s1.trans s16
 have okA:zJ8 H6 ((qs1 ++ qs2) ++ [(o,(0,0,1))]):=fun u hu=>by
  rcases List.mem_append.mp hu with hu | hu
  ·rcases List.mem_append.mp hu with hu | hu
   ·exact ok1.same s16 u hu
   ·exact ok2.same s26 u hu
  ·rw [List.mem_singleton] at hu
   subst hu
   exact ⟨s46 _ _ eo,(by show (0:Int) < 1; decide),(by show Nat.gcd (Nat.gcd (0:Int).natAbs (0:Int).natAbs) (1:Int).natAbs = 1; decide)⟩
 refine ⟨L,rfl,.inl ⟨⟨_,SqL.of eL⟩,zCg (K:=K) (a:=L) (xs:=zBt ((qs1 ++ qs2) ++ [(o,(0,0,1))])) (fun i σ H'=>Same H6 H'∧(∀ j u,j < i→((qs1 ++ qs2) ++ [(o,(0,0,1))])[j]? = some u→¬ inW ss u.2)∧∃ u2:Option V,σ = [some (.ref l),u2])
  ⟨Same.refl _,fun j t hj=>absurd hj (Nat.not_lt_zero _),none,rfl⟩ (fun i σ H' _ ⟨e1,_⟩=>SqL.of (e1 _ _ eL)) ?_ ?_⟩⟩
 ·rintro i v σ H' hi ⟨sH,hall,u2,rfl⟩
  rw [List.getElem?_map,List.getElem?_map] at hi
  cases gu:((qs1 ++ qs2) ++ [(o,((0,0,1):P3))])[i]? with
  | none=>rw [gu] at hi; cases hi
  | some u =>
   rw [gu] at hi
   cases hi
   obtain ⟨eu,pu,lu⟩:=okA u (List.mem_of_getElem? gu)
   have s0H:=s06.trans sH
   refine ⟨_,rfl,_,rfl,l,u.1,ss,_,_,_,rfl,by rw [← zH1]; exact s0H _ _ el,by omega,zQr (ok.same s0H),sH _ _ eu,fun H8 s8=>?_⟩
   rw [zNr]
   refine ⟨_,rfl,?_⟩
   by_cases hw:inWB ss u.2 = true
   ·rw [hw]
    refine iteT ?_
    exact ⟨_,rfl,q u.1 u.2 _ (s0H.trans s8) ⟨s8 _ _ (sH _ _ eu),pu,lu⟩ (zDq.mp hw)⟩
   ·have hw':inWB ss u.2 = false:=by simpa using hw
    rw [hw']
    refine iteF ?_
    refine ⟨sH.trans s8,fun j t hj ht=>?_,_,rfl⟩
    by_cases ej:j = i
    ·rw [ej,gu] at ht
     cases ht
     exact fun z=>hw (zDq.mpr z)
    ·exact hall j t (by omega) ht
 ·rintro σ H' ⟨sH,hall,u2,rfl⟩
  refine qn _ (s06.trans sH) fun P cP wP=>?_
  have nin:∀ u∈(qs1 ++ qs2) ++ [(o,((0,0,1):P3))],¬ inW ss u.2:=fun u hu=>by
   obtain ⟨j,hj,ej⟩:=List.getElem_of_mem hu
   exact hall j u (by simp only [List.length_map]; exact hj) (by rw [List.getElem?_eq_getElem hj,ej])
  rcases cP with rfl | ⟨t,ht,rfl⟩ | ⟨t,ht,u,hu,htu,rfl⟩
  ·exact nin (o,(0,0,1)) (by simp) wP
  ·have z:pt3 (ftL t.2)∈qs2.map (·.2):=by rw [m2]; exact List.mem_map.mpr ⟨t,ht,rfl⟩
   obtain ⟨y,hy,ey⟩:=List.mem_map.mp z
   exact nin y (List.mem_append_left _ (List.mem_append_right _ hy)) (by rw [ey]; exact wP)
  ·obtain ⟨y,hy,ey⟩:=List.mem_map.mp (all1 t ht u hu htu wP)
   exact nin y (List.mem_append_left _ (List.mem_append_left _ hy)) (by rw [ey]; exact wP)
theorem mB {i:Int} (h:i.natAbs≤10 ^ 100):i.natAbs < 2 ^ 4096:=Nat.lt_of_le_of_lt h (by decide +kernel)
theorem mB2 {i:Int} (h:i.natAbs≤10 ^ 100 * 10 ^ 100):i.natAbs < 2 ^ 4096:=Nat.lt_of_le_of_lt h (by decide +kernel)
def zJ0 (K:PySem.W.Frag):Sp:=fun vs H Q _=>∃ (a b:Addr) (o:Int × Int) (p q n:Int),vs = [.ref a,.ref b,.int n]∧SqT K H a [.int o.1,.int o.2]∧SqT K H b [.int p,.int q]∧o.1.natAbs≤10 ^ 100∧o.2.natAbs≤10 ^ 100∧p.natAbs≤10 ^ 100∧q.natAbs≤10 ^ 100∧n.natAbs≤10 ^ 100 ∧
 ∀ (r:Addr) (H':Hp),Same H H'→H r = none→H' r = some (.tup [.int (sumW o p q n).1,.int (sumW o p q n).2])→Q (.ref r) H'
theorem zNi (F:Fun K "_law_summed" "_law_summed" zGe f fd) (Z:Zs mg)  : FnOk P w K mg base CX0 1 f fd ["_law_one", "_law_weight", "_law_number"] (zJ0 K):=by
 refine F.ok zNn (fun vs H Q E h=>?_) (fun cdv A outer s H vs Q E hr h=>?_)
 ·obtain ⟨a,b,o,p,q,n,rfl,_⟩:=h
  rfl
 obtain ⟨a,b,o,p,q',n,rfl,ha,hb,m1,m2,m3,m4,m5,q⟩:=h
 have z:=zAj n p m5 m3
 refine ⟨_,(zAi (zAq (zAz (zAa (zAl zBc (zAl zG1 (zAk zAg (pv 0) zAb (fun _ _=>rfl)) (zAk zAg (pv 1) zAb (fun _ _=>rfl))) (zAl zG1 (zAl zG1 (pv 2) (zAk zAg (pv 1) zAb (fun _ _=>rfl))) (zAk zAg (pv 0) zAb (fun _ _=>rfl)))) (zAa (zAl zG1 (zAk zAg (pv 0) zAb (fun _ _=>rfl)) (zAk zAg (pv 1) zAb (fun _ _=>rfl))) zAe))))),?_⟩
 try dsimp only [L2.cxOf]
 refine ⟨_,rfl,a,_,_,.int o.1,rfl,rfl,.inr ha,rfl,_,rfl,b,_,_,.int q',rfl,rfl,.inr hb,rfl,_,_,rfl,rfl,⟨mB m1,mB m4⟩,
  _,rfl,_,rfl,b,_,_,.int p,rfl,rfl,.inr hb,rfl,_,_,rfl,rfl,⟨mB m5,mB m3⟩,_,rfl,a,_,_,.int o.2,rfl,rfl,.inr ha,rfl,_,_,rfl,rfl,⟨mB2 z,mB m2⟩,_,_,rfl,rfl,
  _,rfl,a,_,_,.int o.2,rfl,rfl,.inr ha,rfl,_,rfl,b,_,_,.int q',rfl,rfl,.inr hb,rfl,_,_,rfl,rfl,⟨mB m2,mB m4⟩,(by show 2≤sizeLine; decide),fun r hr'=>?_⟩
 exact q r _ (zAd hr' _) hr' zAc
theorem zO2 {ps:List Pr} {i:Nat} {v:V} (h:(zBq ps)[i]? = some v):∃ t,ps[i]? = some t∧v = .ref t.1:=by
 rw [List.getElem?_map,List.getElem?_map] at h
 cases e:ps[i]? with
 | none=>rw [e] at h; cases h
 | some t=>rw [e] at h; exact ⟨t,rfl,(Option.some.inj h).symm⟩
theorem zSz {α:Type} {l:List α} (h:l.length = 3):∃ a b c,l = [a,b,c]:=by
 match l,h with
 | [a,b,c],_=>exact ⟨a,b,c,rfl⟩
def zKt (K:PySem.W.Frag):Sp:=fun vs H Q _=>∃ (l a D:Addr) (ss:List Sd) (g:P3) (ws:List Wt),vs = [.ref l,.ref a,.ref D]∧H l = some (.lst (zAo ss))∧SdOk H ss∧ss.length≤900∧Sq K H a [.int g.1,.int g.2.1]∧g.1.natAbs≤10 ^ 18∧g.2.1.natAbs≤10 ^ 18∧H D = some (.lst (zAp ws))∧WtAt H ws∧(∀ t∈ws,t.2.2.2.1.natAbs≤10 ^ 40∧t.2.2.2.2.natAbs≤10 ^ 40) ∧
 (∀ H':Hp,Same H H'→zEg ss g (wtN ws) = none→Q .non H') ∧
 ∀ (r:Addr) (x y:Int) (H':Hp),Same H H'→H' r = some (.tup [.int x,.int y])→zEg ss g (wtN ws) = some (x,y)→Q (.ref r) H'
theorem zPp (F:Fun K "_law_bound" "_law_bound" zHf f fd) (Z:Zs mg) (h_L_summed:Has P w K mg base "_law_summed" 1 ["_law_one", "_law_weight", "_law_number"] (zJ0 K)) (h_L_whole:Has P w K mg base "_law_whole" 1 ["_law_found"] (zH7 K)) (h_L_numbers:Has P w K mg base "_law_numbers" 2 ["_law_found", "_law_many"] (zFt K)):FnOk P w K mg base CX0 3 f fd ["_law_sides_here", "_law_direction", "_law_weights"] (zKt K):=by
 refine F.ok zD9 (fun vs H Q E h=>?_) (fun cdv A outer s H vs Q E hr h=>?_)
 ·obtain ⟨l,a,D,ss,g,ws,rfl,_⟩:=h
  rfl
 obtain ⟨l,a,D,ss,g,ws,rfl,el,ok,hlen,ha,m1,m2,eD,okw,bw0,qn,q⟩:=h
 have bw:∀ t∈ws,Sz40 t.2.2.2.1 t.2.2.2.2:=bw0
 clear bw0
 have cg1:∀ j:Int,CMul g.1 j:=fun j=>cm_l m1
 have cg2:∀ j:Int,CMul g.2.1 j:=fun j=>cm_l m2
 clear m1 m2
 have nw:(wtN ws).length = ws.length:=List.length_map _
 have nr:(zAp ws).length = ws.length:=by simp [zAp]
 refine ⟨_,(zAf (zA9 (PW.pt (zEt (zCr (zB5 (zAu zA8 rfl Z.isinstance zA4 (zAa (pv 2) (zAa (zB9 (v:=.ty "list") rfl Z.list zC6 rfl) zAe))))) (zDv (zAs zHa (zAu zA1 rfl Z.len zCo (zAa (pv 2) zAe)) zAb (zAt _))))) (zAi (zAq zBp)) zAv)
   (zAf (zAy (i:=3) zD9.nd rfl (Or.inl rfl) (zEi zCp zAb))
   (zAf (zAy (i:=4) zD9.nd rfl (Or.inl rfl) (zCb (zAa (zAz (zAa zAb (zAa zAb zAe))) (zAa (zAz (zAa zAb (zAa zAb zAe))) (zAa (zAz (zAa zAb (zAa zAb zAe))) zAe)))))
   (zAf (zCv PassesOwn.never rfl (zCd (pv 2)) (zAr (i:=5) zD9.nd rfl (Or.inr rfl)) (zAf (zA9 (PW.pt (zEt (zCr (zB5 (zAu zA8 rfl Z.isinstance zA4 (zAa (pv 5) (zAa (zB9 (v:=.ty "tuple") rfl Z.tuple zGk rfl) zAe))))) (zDv (zAs zMk (zAu zA1 rfl Z.len zCo (zAa (pv 5) zAe)) zAb (zAt _))))) (zAi (zAq zBp)) zAv)
   (zAf (zA9 (PW.pt (zEt (zCr (zB5 (zAh h_L_whole (hr.mono (by decide)) rfl (zAa (zAk zAg (pv 5) zAb (fun _ _=>rfl)) zAe)))) (zDv (zCr (zB5 (zAh h_L_numbers (hr.mono (by decide)) rfl (zAa (zAk zAg (pv 5) zAb (fun _ _=>rfl)) (zAa zAb zAe)))))))) (zAi (zAq zBp)) zAv)
   (zAf (zA9 (PW.pt (zEt (zCr (zLb zFk zFk (pv 3) (zAk zAg (pv 5) zAb (fun _ _=>rfl)) (zAu zA1 rfl Z.len zCo (zAa (pv 0) zAe)))) (zEt (zAs zFk (zAk zAg (zAk zAg (pv 5) zAb (fun _ _=>rfl)) zAb (fun _ _=>rfl)) zAb (zAt _)) (zDv (zAs zFk (zAk zAg (zAk zAg (pv 5) zAb (fun _ _=>rfl)) zAb (fun _ _=>rfl)) zAb (zAt _)))))) (zAi (zAq zBp)) zAv)
   (zAf (zAy (i:=3) zD9.nd rfl (Or.inl rfl) (zAk zAg (pv 5) zAb (fun _ _=>rfl)))
   (zAi (zD7 (T:=["_law_one", "_law_number"]) (caps:=[("_law_pair", 5)]) (i:=4) zD9.nd rfl rfl ⟨rfl,by decide +kernel,by decide +kernel,rfl,⟨⟨rfl,rfl,Or.inl rfl⟩,True.intro⟩⟩ rfl (zTz rfl Z.zip (zAa (pv 4) (zAa (zAk zAg (pv 0) (zAk zAg (pv 5) zAb (fun _ _=>rfl)) (fun _ _=>rfl)) zAe))) (fun _=>(zCk rfl (zAw (zAr (i:=0) (show (["_law_one", "_law_number", "_law_pair"]:List Str).Nodup by decide +kernel) rfl (Or.inl rfl)) (zAw (zAr (i:=1) (show (["_law_one", "_law_number", "_law_pair"]:List Str).Nodup by decide +kernel) rfl (Or.inl rfl)) zBk)))) (fun _=>zBg) (fun _=>(zAh h_L_summed (hr.mono (by decide)) rfl (zAa (pv 0) (zAa (zAk zAg (pv 2) zAb (fun _ _=>rfl)) (zAa (pv 1) zAe))))))))))))
   (zAf (zA9 (PW.pt (zEt (zAs zMk (zAk zAg (zAk zAg (pv 4) zAb (fun _ _=>rfl)) zAb (fun _ _=>rfl)) (zAl zA0 (zAk zAg (pv 1) zAb (fun _ _=>rfl)) (zAk zAg (zAk zAg (pv 4) zAb (fun _ _=>rfl)) zAb (fun _ _=>rfl))) (zAt _)) (zDv (zAs zMk (zAk zAg (zAk zAg (pv 4) zAb (fun _ _=>rfl)) zAb (fun _ _=>rfl)) (zAl zA0 (zAk zAg (pv 1) zAb (fun _ _=>rfl)) (zAk zAg (zAk zAg (pv 4) zAb (fun _ _=>rfl)) zAb (fun _ _=>rfl))) (zAt _))))) (zAi (zAq zBp)) zAv)
   (zAi (zAq (zAk zAg (pv 4) zAb (fun _ _=>rfl))))))))),?_⟩
 try dsimp only [L2.cxOf]
 refine ⟨_,rfl,_, "list", _,_,rfl,.lst eD,zG5 K,_,rfl,?_⟩
 refine iteF ?_
 refine ⟨_,rfl,D,_,rfl,.inl (SqL.of eD),_,_,rfl,rfl,_,rfl,?_⟩
 refine ifD (fun l2=>?_) (fun l2=>?_)
 ·refine qn H (Same.refl _) ?_
  unfold zEg
  rw [if_neg (by omega)]
 have hb:zEg ss g (wtN ws) = zC4 ss g (wtN ws) (-1) (0,1) (0,1) (0,1):=by
  unfold zEg
  rw [if_pos (by omega)]
 refine ⟨_,rfl,?_⟩
 refine ⟨(by show 2≤sizeLine; decide),fun t0 ht0=>⟨(by show 2≤sizeLine; decide),fun t1 ht1=>⟨(by show 2≤sizeLine; decide),fun t2 ht2=>⟨(by show 3≤sizeLine; decide),fun tl htl=>?_⟩⟩⟩⟩
 have s0:=zAd ht0 (.tup [.int 0,.int 1])
 have s1:=zAd ht1 (.tup [.int 0,.int 1])
 have s2:=zAd ht2 (.tup [.int 0,.int 1])
 have s3:=zAd htl (.lst [.ref t0,.ref t1,.ref t2])
 have f0:=s3 _ _ (s2 _ _ (s1 _ _ (zAc (H:=H) (a:=t0) (o:=.tup [.int 0,.int 1]))))
 have f1:=s3 _ _ (s2 _ _ (zAc (H:=upd H t0 (.tup [.int 0,.int 1])) (a:=t1) (o:=.tup [.int 0,.int 1])))
 have f2:=s3 _ _ (zAc (H:=upd (upd H t0 (.tup [.int 0,.int 1])) t1 (.tup [.int 0,.int 1])) (a:=t2) (o:=.tup [.int 0,.int 1]))
 have f3:upd (upd (upd (upd H t0 (.tup [.int 0,.int 1])) t1 (.tup [.int 0,.int 1])) t2 (.tup [.int 0,.int 1])) tl (.lst [.ref t0,.ref t1,.ref t2]) tl = some (.lst [.ref t0,.ref t1,.ref t2]):=zAc
 have s03:=((s0.trans s1).trans s2).trans s3
 generalize upd (upd (upd (upd H t0 (.tup [.int 0,.int 1])) t1 (.tup [.int 0,.int 1])) t2 (.tup [.int 0,.int 1])) tl (.lst [.ref t0,.ref t1,.ref t2]) = H1 at f0 f1 f2 f3 s03 ⊢
 refine ⟨_,rfl,D,rfl,.inl ⟨⟨_,SqL.of (s03 _ _ eD)⟩,zCg (K:=K) (a:=D) (xs:=zAp ws) (fun i σ H'=>Same H H'∧∃ (last:Int) (tl a0 a1 a2:Addr) (A B C:Int × Int) (u5:Option V),-1≤last∧H' tl = some (.lst [.ref a0,.ref a1,.ref a2])∧H' a0 = some (.tup [.int A.1,.int A.2])∧H' a1 = some (.tup [.int B.1,.int B.2])∧H' a2 = some (.tup [.int C.1,.int C.2]) ∧
   (i = 0→A = (0,1)∧B = (0,1)∧C = (0,1))∧(i≤1→Sz A∧Sz B∧Sz C) ∧
   zC4 ss g ((wtN ws).drop i) last A B C = zC4 ss g (wtN ws) (-1) (0,1) (0,1) (0,1)∧σ = [some (.ref l),some (.ref a),some (.ref D),some (.int last),some (.ref tl),u5])
  ⟨s03,-1,tl,t0,t1,t2,(0,1),(0,1),(0,1),none,Int.le_refl _,f3,f0,f1,f2,fun _=>⟨rfl,rfl,rfl⟩,fun _=>⟨⟨by decide,by decide⟩,⟨by decide,by decide⟩,⟨by decide,by decide⟩⟩,rfl,rfl⟩ (fun i σ H' _ ⟨e1,_⟩=>SqL.of (e1 _ _ eD)) ?_ ?_⟩⟩
 ·rintro i v σ H' hi ⟨sH,last,tl,a0,a1,a2,A,B,C,u5,hl1,etl,e0,e1,e2,zero,sml,hg,rfl⟩
  rw [List.getElem?_map,List.getElem?_map] at hi
  cases gc:ws[i]? with
  | none=>rw [gc] at hi; cases hi
  | some u =>
   rw [gc] at hi
   cases hi
   have hil:i < ws.length:=(List.getElem?_eq_some_iff.mp gc).1
   obtain ⟨eu0,ep0⟩:=okw u (List.mem_of_getElem? gc)
   have bpq:=bw u (List.mem_of_getElem? gc)
   have eu:=sH _ _ eu0
   have ep:=sH _ _ ep0
   have dr:(wtN ws).drop i = (u.2.1,u.2.2.2.1,u.2.2.2.2) :: (wtN ws).drop (i + 1):=by
    rw [List.drop_eq_getElem_cons (by omega)]
    congr 1
    rw [List.getElem_map]
    have z:=(List.getElem?_eq_some_iff.mp gc).2
    rw [z]
   rw [dr] at hg
   have bad:¬ (last < u.2.1∧u.2.1 < ss.length∧1≤u.2.2.2.1∧1≤u.2.2.2.2)→∀ H2,Same H' H2→Q .non H2:=fun hb' H2 s2=>qn H2 (sH.trans s2) (by rw [hb,← hg]; exact zKf hb')
   obtain ⟨bA,bB,bC⟩:=sml (by omega)
   refine ⟨_,rfl,_, "tuple", _,_,rfl,.tup eu,zF8 K,_,rfl,?_⟩
   refine iteF ?_
   refine ⟨_,rfl,u.1,_,rfl,.inr (SqT.of eu),rfl,_,rfl,?_⟩
   refine ifNe (fun z=>absurd rfl z) (fun _=>?_)
   have eu2:Sq K H' u.1 [.int u.2.1,.ref u.2.2.1]:=.inr (SqT.of eu)
   refine ⟨_,rfl,u.1,_,_,.int u.2.1,rfl,rfl,eu2,rfl,u.2.1,rfl,_,rfl,?_⟩
   refine iteF ?_
   refine ⟨_,rfl,u.1,_,_,.ref u.2.2.1,rfl,rfl,eu2,rfl,u.2.2.1,[u.2.2.2.1,u.2.2.2.2],2,rfl,ep,(by show 2≤1000; decide),rfl,fun H2 s2=>?_⟩
   refine ⟨_,rfl,?_⟩
   refine iteF ?_
   have sH2:=sH.trans s2
   have eu3:=eu2.same s2
   have ep3:Sq K H2 u.2.2.1 [.int u.2.2.2.1,.int u.2.2.2.2]:=.inr (SqT.of (s2 _ _ ep))
   refine ⟨_,rfl,_,rfl,u.1,_,_,.int u.2.1,rfl,rfl,eu3,rfl,_,_,rfl,rfl,_,rfl,?_⟩
   refine ifD (fun g1=>?_) (fun g1=>?_)
   rotate_left
   ·refine ⟨_,rfl,?_⟩
    refine iteT ?_
    exact bad (fun z=>g1 z.1) _ s2
   refine ⟨_,rfl,l,_,rfl,.inl (SqL.of (sH2 _ _ el)),_,_,rfl,rfl,_,rfl,?_⟩
   refine ifN (fun g2=>?_) (fun g2=>?_)
   ·exact bad (fun z=>g2 (by rw [zAm]; exact z.2.1)) _ s2
   rw [zAm] at g2
   refine ⟨_,rfl,u.1,_,_,.ref u.2.2.1,rfl,rfl,eu3,rfl,u.2.2.1,_,_,.int u.2.2.2.1,rfl,rfl,ep3,rfl,_,_,rfl,rfl,_,rfl,?_⟩
   refine ifD (fun g3=>?_) (fun g3=>?_)
   ·exact bad (fun z=>by omega) _ s2
   refine ⟨_,rfl,u.1,_,_,.ref u.2.2.1,rfl,rfl,eu3,rfl,u.2.2.1,_,_,.int u.2.2.2.2,rfl,rfl,ep3,rfl,_,_,rfl,rfl,_,rfl,?_⟩
   refine ifD (fun g4=>?_) (fun g4=>?_)
   ·exact bad (fun z=>by omega) _ s2
   refine ⟨_,rfl,u.1,_,_,.int u.2.1,rfl,rfl,eu3,rfl,?_⟩
   obtain ⟨t,mt,gt,att⟩:=zBf (ss:=ss) (i:=u.2.1.toNat) (k:=u.2.1) (by omega) (by omega)
   have ett:=(ok t mt).1
   have etl2:=s2 _ _ etl
   have okA:PrAt H2 [(a0,A),(a1,B),(a2,C)]:=fun z hz=>by
    simp only [List.mem_cons,List.not_mem_nil,or_false] at hz
    rcases hz with rfl | rfl | rfl
    ·exact s2 _ _ e0
    ·exact s2 _ _ e1
    ·exact s2 _ _ e2
   have smA:∀ z∈([(a0,A),(a1,B),(a2,C)]:List Pr),Sz z.2:=fun z hz=>by
    simp only [List.mem_cons,List.not_mem_nil,or_false] at hz
    rcases hz with rfl | rfl | rfl
    ·exact bA
    ·exact bB
    ·exact bC
   have sm1:Sz13 t.2.1:=Nat.le_trans (ok t mt).2.2.1 (by decide)
   have sm2:Sz13 t.2.2.1:=Nat.le_trans (ok t mt).2.2.2.1 (by decide)
   have sm3:Sz13 t.2.2.2:=(ok t mt).2.2.2.2
   have smN:∀ z∈[t.2.1,t.2.2.1,t.2.2.2],Sz13 z:=fun z hz=>by
    simp only [List.mem_cons,List.not_mem_nil,or_false] at hz
    rcases hz with rfl | rfl | rfl
    ·exact sm1
    ·exact sm2
    ·exact sm3
   refine ⟨_,rfl,_,rfl,_,rfl,u.1,_,_,.int u.2.1,rfl,rfl,eu3,rfl,l,_,_,_,rfl,rfl,.inl (SqL.of (sH2 _ _ el)),att,true,false,tl,t.1,zBq [(a0,A),(a1,B),(a2,C)],[t.2.1,t.2.2.1,t.2.2.2].map V.int,rfl,SqL.of etl2,SqT.of (sH2 _ _ ett),fun cc D3 hD3=>zJi (K:=K) (b1:=true) (b2:=false) (l1:=tl) (l2:=t.1) (xs:=zBq [(a0,A),(a1,B),(a2,C)]) (ys:=[t.2.1,t.2.2.1,t.2.2.2].map V.int) (fun k σ zs G=>Same H2 G∧G D3 = some (.lst zs)∧(∃ bs:List Pr,zs = zBq bs∧PrAt G bs∧bs.map (·.2) = (([A,B,C].zip [t.2.1,t.2.2.1,t.2.2.2]).map fun z=>sumW z.1 u.2.2.2.1 u.2.2.2.2 z.2).take k)∧∃ v0 v1:Option V,σ = [v0,v1,some (.ref u.1)])
    ⟨zAd hD3 _,zAc,⟨[],rfl,(fun t ht=>nomatch ht),rfl⟩,none,none,rfl⟩ (fun k σ zs G ⟨s,e,_⟩=>⟨SqL.of (s _ _ etl2),SqT.of (s _ _ (sH2 _ _ ett)),e⟩) ?_ ?_⟩
   ·rintro k x y T σ zs G hx hy hT ⟨sG,eD3,⟨bs,rfl,okb,mb⟩,v0,v1,rfl⟩
    obtain ⟨oa,goa,rfl⟩:=zO2 hx
    obtain ⟨n,gn,rfl⟩:=zB7 hy
    have hk:k < 3:=(List.getElem?_eq_some_iff.mp goa).1
    have sT:=zAd hT (.tup [.ref oa.1,.int n])
    have eT:upd G T (.tup [.ref oa.1,.int n]) T = some (.tup [.ref oa.1,.int n]):=zAc
    have frT:∀ p,upd G T (.tup [.ref oa.1,.int n]) p = none→G p = none:=fun p hp=>sT.free hp
    generalize upd G T (.tup [.ref oa.1,.int n]) = G2 at sT eT frT ⊢
    have sG2:=sG.trans sT
    refine ⟨T,_,rfl,SqT.of eT,rfl,.ref oa.1,_,rfl,.int n,_,rfl,rfl,?_⟩
    have soa:=smA oa (List.mem_of_getElem? goa)
    have sn:=smN n (List.mem_of_getElem? gn)
    refine ⟨_,rfl,_,rfl,u.1,_,_,.ref u.2.2.1,rfl,rfl,eu3.same sG2,rfl,_,rfl,oa.1,u.2.2.1,oa.2,u.2.2.2.1,u.2.2.2.2,n,rfl,SqT.of (sG2 _ _ (okA oa (List.mem_of_getElem? goa))),SqT.of (sG2 _ _ (s2 _ _ ep)),soa.1,soa.2,bpq.up.1,bpq.up.2,sn.up,fun r G3 s3 hr3 er3=>?_⟩
    have eD4:=s3 _ _ (sT _ _ eD3)
    have nrD:r≠D3:=fun z=>by rw [z,sT _ _ eD3] at hr3; cases hr3
    have lb:bs.length≤3:=by
     have z:=congrArg List.length mb
     rw [List.length_map,List.length_take] at z
     omega
    refine ⟨eD4,zA6 (by rw [zCn]; omega),(sG2.trans s3).putNew hD3,zAc,⟨bs ++ [(r,sumW oa.2 u.2.2.2.1 u.2.2.2.2 n)],by simp [zBq],fun z hz=>?_,?_⟩,_,_,rfl⟩
    ·rcases List.mem_append.mp hz with hz | hz
     ·have z1:=s3 _ _ (sT _ _ (okb z hz))
      rw [zA5 (zHh z1 eD4 (by intro z; cases z))]
      exact z1
     ·rw [List.mem_singleton] at hz
      subst hz
      show upd G3 D3 _ r = _
      rw [zA5 nrD]
      exact er3
    ·have gz:(([A,B,C].zip [t.2.1,t.2.2.1,t.2.2.2]).map fun z=>sumW z.1 u.2.2.2.1 u.2.2.2.2 z.2)[k]? = some (sumW oa.2 u.2.2.2.1 u.2.2.2.2 n):=by
      have g1':([A,B,C]:List (Int × Int))[k]? = some oa.2:=by
       have z:=congrArg (Option.map (·.2)) goa
       rw [← List.getElem?_map] at z
       exact z
      rw [List.getElem?_map,(List.getElem?_zip_eq_some (z:=(oa.2,n))).mpr ⟨g1',gn⟩]
      rfl
     rw [List.map_append,mb,zBn gz]
     rfl
   ·rintro σ zs G ⟨sG,eD3,⟨bs,rfl,okb,mb⟩,v0,v1,rfl⟩
    have mb3:bs.map (·.2) = [sumW A u.2.2.2.1 u.2.2.2.2 t.2.1,sumW B u.2.2.2.1 u.2.2.2.2 t.2.2.1,sumW C u.2.2.2.1 u.2.2.2.2 t.2.2.2]:=mb
    have lb:bs.length = 3:=by
     have z:=congrArg List.length mb3
     rw [List.length_map] at z
     exact z
    obtain ⟨x0,x1,x2,rfl⟩:=zSz lb
    cases x0 with | mk c0 A' =>
    cases x1 with | mk c1 B' =>
    cases x2 with | mk c2 C' =>
    have eA:A' = sumW A u.2.2.2.1 u.2.2.2.2 t.2.1∧B' = sumW B u.2.2.2.1 u.2.2.2.2 t.2.2.1∧C' = sumW C u.2.2.2.1 u.2.2.2.2 t.2.2.2:=by
     have z:[A',B',C'] = [sumW A u.2.2.2.1 u.2.2.2.2 t.2.1,sumW B u.2.2.2.1 u.2.2.2.2 t.2.2.1,sumW C u.2.2.2.1 u.2.2.2.2 t.2.2.2]:=mb3
     cases z
     exact ⟨rfl,rfl,rfl⟩
    obtain ⟨rfl,rfl,rfl⟩:=eA
    refine ⟨sH2.trans sG,u.2.1,D3,c0,c1,c2,_,_,_,_,by omega,eD3,okb _ (List.mem_cons_self ..),okb _ (List.mem_cons_of_mem _ (List.mem_cons_self ..)),okb _ (List.mem_cons_of_mem _ (List.mem_cons_of_mem _ (List.mem_cons_self ..))),fun z=>absurd z (Nat.succ_ne_zero _),fun hi1=>?_,?_,rfl⟩
    ·obtain ⟨zA,zB,zC⟩:=zero (by omega)
     exact ⟨zHx zA bpq sm1,zHx zB bpq sm2,zHx zC bpq sm3⟩
    ·rw [← hg,zDs g1 g2 (by omega) (by omega) gt]
 ·rintro σ H' ⟨sH,last,tl,a0,a1,a2,A,B,C,u5,hl1,etl,e0,e1,e2,zero,sml,hg,rfl⟩
  rw [nr,List.drop_of_length_le (by omega),zC4] at hg
  have stl:Sq K H' tl [.ref a0,.ref a1,.ref a2]:=.inl (SqL.of etl)
  have q0:Sq K H' a0 [.int A.1,.int A.2]:=.inr (SqT.of e0)
  have q1:Sq K H' a1 [.int B.1,.int B.2]:=.inr (SqT.of e1)
  have ha':=ha.same sH
  refine ⟨_,rfl,tl,_,_,.ref a0,rfl,rfl,stl,rfl,a0,_,_,.int A.1,rfl,rfl,q0,rfl,_,rfl,a,_,_,.int g.1,rfl,rfl,ha',rfl,_,rfl,tl,_,_,.ref a0,rfl,rfl,stl,rfl,a0,_,_,.int A.2,rfl,rfl,q0,rfl,_,_,rfl,rfl,cg1 _,rfl,_,rfl,?_⟩
  refine ifNe (fun h0=>?_) (fun h0=>?_)
  ·refine iteT ?_
   exact qn H' sH (by rw [hb,← hg,if_neg (fun z=>h0 z.1)])
  refine ⟨_,rfl,tl,_,_,.ref a1,rfl,rfl,stl,rfl,a1,_,_,.int B.1,rfl,rfl,q1,rfl,_,rfl,a,_,_,.int g.2.1,rfl,rfl,ha',rfl,_,rfl,tl,_,_,.ref a1,rfl,rfl,stl,rfl,a1,_,_,.int B.2,rfl,rfl,q1,rfl,_,_,rfl,rfl,cg2 _,rfl,_,rfl,?_⟩
  refine ifNe (fun h1=>?_) (fun h1=>?_)
  ·exact qn H' sH (by rw [hb,← hg,if_neg (fun z=>h1 z.2)])
  rw [if_pos ⟨h0,h1⟩] at hg
  exact ⟨_,rfl,tl,_,_,.ref a2,rfl,rfl,stl,rfl,q a2 C.1 C.2 H' sH e2 (by rw [hb,← hg])⟩
theorem zM8 {T:Int × Int} {p q n:Int} {a b:Nat} (h1:T.1.natAbs≤a) (h2:T.2.natAbs≤b) (hp:p.natAbs≤10 ^ 40) (hq:q.natAbs≤10 ^ 40) (hn:n.natAbs≤10 ^ 13):(sumW T p q n).1.natAbs≤a * 10 ^ 40 + 10 ^ 13 * 10 ^ 40 * b∧(sumW T p q n).2.natAbs≤b * 10 ^ 40 :=
 ⟨Nat.le_trans (Int.natAbs_add_le _ _) (Nat.add_le_add (zAj _ _ h1 hq) (zAj _ _ (zAj _ _ hn hp) h2)),zAj _ _ h2 hq⟩
theorem zFp {ss:List Sd} (sm:∀ t∈ss,t.2.2.2.natAbs≤10 ^ 13) (n:Int):(zFj ss (fAt 2) n).natAbs≤10 ^ 13:=by
 unfold zFj
 split
 ·rename_i t ht
  exact sm t (List.mem_of_getElem? ht)
 ·decide
theorem zNy {ss:List Sd} {g:P3} {ws:List (Int × Int × Int)} {N B:Int} (h:zEg ss g ws = some (N,B)) (sm:∀ t∈ss,t.2.2.2.natAbs≤10 ^ 13) (bw:∀ t∈ws,t.2.1.natAbs≤10 ^ 40∧t.2.2.natAbs≤10 ^ 40):N.natAbs≤10 ^ 100∧B.natAbs≤10 ^ 100:=by
 rw [zIc] at h
 split at h
 ·rename_i hc
  injection h with h
  have e1:N = (sumQ ss (fAt 2) ws (0,1)).1:=by rw [h]
  have e2:B = (sumQ ss (fAt 2) ws (0,1)).2:=by rw [h]
  rw [e1,e2]
  match ws,hc.1,bw with
  | [],_,_=>exact ⟨show (0:Int).natAbs≤_ by decide,show (1:Int).natAbs≤_ by decide⟩
  | [c],_,bw =>
   have z:=bw c (List.mem_cons_self ..)
   have y:=zM8 (T:=(0,1)) (a:=0) (b:=1) (by decide) (by decide) z.1 z.2 (zFp sm c.1)
   exact ⟨Nat.le_trans y.1 (by decide),Nat.le_trans y.2 (by decide)⟩
  | [c,d],_,bw =>
   have z:=bw c (List.mem_cons_self ..)
   have z':=bw d (List.mem_cons_of_mem _ (List.mem_cons_self ..))
   have y:=zM8 (T:=(0,1)) (a:=0) (b:=1) (by decide) (by decide) z.1 z.2 (zFp sm c.1)
   have x:=zM8 y.1 y.2 z'.1 z'.2 (zFp sm d.1)
   exact ⟨Nat.le_trans x.1 (by decide),Nat.le_trans x.2 (by decide)⟩
  | _ :: _ :: _ :: _,h,_=>exact absurd h (by simp only [List.length_cons]; omega)
 ·cases h
def dirB (ss:List Sd) (x y:Int):List Bool:=ss.map fun t=>decide (t.2.1 * x + t.2.2.1 * y≤0)
theorem zSo (ss:List Sd) (x y:Int):(dirB ss x y).all id = wayB ss x y:=by
 unfold dirB wayB
 rw [List.all_map]
 rfl
def zFz (K:PySem.W.Frag):Sp:=fun vs H Q _=>∃ (l d t:Addr) (ss:List Sd) (g:P3) (pp:Pp),vs = [.ref l,.ref d,.ref t]∧H l = some (.lst (zAo ss))∧SdOk H ss∧ss.length≤900∧Sq K H d [.int g.1,.int g.2.1]∧g.1.natAbs≤10 ^ 18∧g.2.1.natAbs≤10 ^ 18∧PpAt H t pp∧PpSz 900 (10 ^ 40) (10 ^ 60) pp ∧
 ∀ (b:Bool) (H':Hp),Same H H'→(b = true↔zNx ss g pp)→Q (.bl b) H'
theorem zI6 (F:Fun K "_law_good_paper" "_law_good_paper" zDp f fd) (Z:Zs mg) (h_L_has:Has P w K mg base "_law_has" 1 ["_law_sides_here", "_law_place"] (zIn K)) (h_L_bound:Has P w K mg base "_law_bound" 3 ["_law_sides_here", "_law_direction", "_law_weights"] (zKt K)) (h_L_any_place:Has P w K mg base "_law_any_place" 5 ["_law_sides_here"] (zGm K)) (h_L_is_clash:Has P w K mg base "_law_is_clash" 3 ["_law_sides_here", "_law_paper"] (zG6 K)):FnOk P w K mg base CX0 6 f fd ["_law_sides_here", "_law_direction", "_law_paper"] (zFz K):=by
 refine F.ok zBm (fun vs H Q E h=>?_) (fun cdv A outer s H vs Q E hr h=>?_)
 ·obtain ⟨l,d,t,ss,g,pp,rfl,_⟩:=h
  rfl
 obtain ⟨l,d,t,ss,g,pp,rfl,el,ok,hn,hd,m1,m2,hp,hz,q⟩:=h
 have cg1:∀ j:Int,CMul g.1 j:=fun j=>cm_l m1
 have cg2:∀ j:Int,CMul g.2.1 j:=fun j=>cm_l m2
 refine ⟨_,(zAf (zA9 (zAs zBu (zAk zAg (pv 2) zAb (fun _ _=>rfl)) zCu (zAt _)) (zAi (zAq (zAh h_L_is_clash (hr.mono (by decide)) rfl (zAa (pv 0) (zAa (zAk zAg (pv 2) zAb (fun _ _=>rfl)) zAe))))) zAv)
   (zAf (zA9 (zAs zBu (zAk zAg (pv 2) zAb (fun _ _=>rfl)) zCu (zAt _)) (zAf (zEc (zAk zAg (pv 2) zAb (fun _ _=>rfl)) (zCk rfl (zAw (zAr (i:=3) zBm.nd rfl (Or.inr rfl)) (zAw (zAr (i:=4) zBm.nd rfl (Or.inr rfl)) zBk))))
   (zAf (zA9 (zAs zMf (zAh h_L_any_place (hr.mono (by decide)) rfl (zAa (pv 0) zAe)) zBp (zAt _)) (zAi (zAq zE2)) zAv)
   (zAi (zAq (zF4 (zCa zHa (zAl zBc (zAl zA0 (zAk zAg (pv 1) zAb (fun _ _=>rfl)) (pv 3)) (zAl zA0 (zAk zAg (pv 1) zAb (fun _ _=>rfl)) (pv 4))) zAb (zAt _)) (zGo (zAu (zHm rfl) rfl Z.all zOk (zAa (zC2 (T:=["_law_a", "_law_b", "_law_c"]) (caps:=[("_law_x", 3),("_law_y", 4)]) ⟨rfl,by decide +kernel,by decide +kernel,rfl,⟨⟨rfl,rfl,Or.inl rfl⟩,⟨rfl,rfl,Or.inl rfl⟩,True.intro⟩⟩ rfl (zCd (pv 0)) (fun _=>(zCk rfl (zAw (zAr (i:=0) (show (["_law_a", "_law_b", "_law_c", "_law_x", "_law_y"]:List Str).Nodup by decide +kernel) rfl (Or.inl rfl)) (zAw (zAr (i:=1) (show (["_law_a", "_law_b", "_law_c", "_law_x", "_law_y"]:List Str).Nodup by decide +kernel) rfl (Or.inl rfl)) (zAw (zAr (i:=2) (show (["_law_a", "_law_b", "_law_c", "_law_x", "_law_y"]:List Str).Nodup by decide +kernel) rfl (Or.inl rfl)) zBk))))) (fun _=>zBg) (fun _=>(zCa zQj (zAl zBc (zAl zA0 (pv 0) (pv 3)) (zAl zA0 (pv 1) (pv 4))) zAb (zAt _)))) zAe)))))))) zAv)
   (zAf (zEc (zAk zAg (pv 2) zAb (fun _ _=>rfl)) (zCk rfl (zAw (zAr (i:=3) zBm.nd rfl (Or.inr rfl)) (zAw (zAr (i:=4) zBm.nd rfl (Or.inr rfl)) (zAw (zAr (i:=5) zBm.nd rfl (Or.inl rfl)) zBk)))))
   (zAf (zAy (i:=6) zBm.nd rfl (Or.inl rfl) (zAh h_L_bound (hr.mono (by decide)) rfl (zAa (pv 0) (zAa (pv 1) (zAa (zAk zAg (pv 2) zAb (fun _ _=>rfl)) zAe)))))
   (zAf (zA9 (PW.pt (zEt (zAs zFk (pv 5) zAb (zAt _)) (zEt (zAs zMf (pv 6) zBp (zAt _)) (zDv (zCr (zB5 (zAh h_L_has (hr.mono (by decide)) rfl (zAa (pv 0) (zAa (zAk zAg (pv 2) zAb (fun _ _=>rfl)) zAe))))))))) (zAi (zAq zE2)) zAv)
   (zAi (zAq (zCa zBu (zAl zG1 (zAl zBc (zAl zA0 (zAk zAg (pv 1) zAb (fun _ _=>rfl)) (pv 3)) (zAl zA0 (zAk zAg (pv 1) zAb (fun _ _=>rfl)) (pv 4))) (zAk zAg (pv 6) zAb (fun _ _=>rfl))) (zAl zG1 (zAk zAg (pv 6) zAb (fun _ _=>rfl)) (pv 5)) (zAt _))))))))),?_⟩
 try dsimp only [L2.cxOf]
 cases pp with
 | no D cs =>
  obtain ⟨e,eD,okc⟩:=hp
  refine ⟨_,rfl,t,_,_,_,rfl,rfl,.inr (SqT.of e),rfl,rfl,_,rfl,?_⟩
  refine ifSt ?_
  exact ⟨_,rfl,_,rfl,t,_,_,.ref D,rfl,rfl,.inr (SqT.of e),rfl,l,D,ss,cs,rfl,el,ok,hn,eD,okc,fun b H2 s2 hb=>q b H2 s2 (by rw [← hb]; exact Iff.rfl)⟩
 | op p x y =>
  obtain ⟨e,ep⟩:=hp
  refine ⟨_,rfl,t,_,_,_,rfl,rfl,.inr (SqT.of e),rfl,rfl,_,rfl,?_⟩
  refine ifSf (by decide) ?_
  refine ⟨_,rfl,t,_,_,_,rfl,rfl,.inr (SqT.of e),rfl,rfl,_,rfl,?_⟩
  refine ifSt ?_
  refine ⟨_,rfl,t,_,_,.ref p,rfl,rfl,.inr (SqT.of e),rfl,p,_,rfl,SqT.of ep,rfl,.int x,_,rfl,.int y,_,rfl,rfl,?_⟩
  refine ⟨_,rfl,l,ss,rfl,el,ok,hn,fun H2 s2 no=>?_,fun p' P' H2 s2 ep' wp'=>?_⟩
  ·refine ⟨rfl,_,rfl,?_⟩
   refine iteT ?_
   refine q false H2 s2 ⟨(fun z=>nomatch z),fun ⟨_,_,z,zw,wz⟩=>?_⟩
   obtain ⟨P0,c0,_,w0⟩:=zQu (fun u hu=>(ok u hu).2.1) z zw wz
   exact absurd w0 (no P0 c0)
  refine ⟨rfl,_,rfl,?_⟩
  refine iteF ?_
  have el2:=s2 _ _ el
  have ha:=hd.same s2
  refine ⟨_,rfl,d,_,_,.int g.1,rfl,rfl,ha,rfl,_,rfl,_,_,rfl,rfl,cg1 _,_,rfl,d,_,_,.int g.2.1,rfl,rfl,ha,rfl,_,rfl,_,_,rfl,rfl,cg2 _,_,_,rfl,rfl,_,_,rfl,rfl,_,rfl,?_⟩
  refine ifD (fun h1=>?_) (fun h1=>?_)
  rotate_left
  ·exact q _ H2 s2 ⟨(fun z=>nomatch z),fun ⟨z,_⟩=>absurd z h1⟩
  refine ⟨_,rfl,l,rfl,.inl ⟨⟨_,SqL.of el2⟩,fun c D hD=>zBx (K:=K) (a:=l) (xs:=zAo ss) (fun i σ ys H'=>H' = upd H2 D (.lst ys)∧ys = (dirB (ss.take i) x y).map V.bl∧∃ u0 u1 u2,σ = [u0,u1,u2,some (.int x),some (.int y)])
   ⟨rfl,rfl,none,none,none,rfl⟩ (fun i σ ys H' _ ⟨e,_⟩=>by rw [e]; exact ⟨SqL.of (zAd hD _ _ _ el2),zAc⟩) ?_ ?_⟩⟩
  ·rintro i v σ ys H' hi ⟨rfl,rfl,u0,u1,u2,rfl⟩
   obtain ⟨u,gu,rfl,hil⟩:=zBv hi
   obtain ⟨eu,_,k1,k2,_⟩:=ok u (List.mem_of_getElem? gu)
   refine ⟨u.1,_,rfl,SqT.of (zAd hD _ _ _ (s2 _ _ eu)),rfl,.int u.2.1,_,rfl,.int u.2.2.1,_,rfl,.int u.2.2.2,_,rfl,rfl,?_⟩
   refine ⟨_,rfl,_,rfl,_,_,rfl,rfl,cm_l (Nat.le_trans k1 (by decide)),_,rfl,_,rfl,_,_,rfl,rfl,cm_l (Nat.le_trans k2 (by decide)),_,_,rfl,rfl,_,_,rfl,rfl,zAc,zA6 ?_,zGx,?_,_,_,_,rfl⟩
   ·unfold dirB
    rw [List.length_map,List.length_map,List.length_take]
    omega
   ·unfold dirB
    rw [zBn gu,List.map_append,List.map_append]
    rfl
  ·rintro σ ys H' ⟨rfl,rfl,u0,u1,u2,rfl⟩
   rw [zAm,List.take_length]
   refine ⟨D,dirB ss x y,rfl,SqL.of zAc,?_⟩
   rw [zSo]
   refine q _ _ (s2.trans (zAd hD _)) ⟨fun z=>⟨h1,z,P',ep'.2.1,wp'⟩,fun z=>z.2.1⟩
 | fa p D P ws =>
  obtain ⟨e,ep,eD,okw⟩:=hp
  obtain ⟨z1,z2,z3,_,wsz⟩:=hz
  refine ⟨_,rfl,t,_,_,_,rfl,rfl,.inr (SqT.of e),rfl,rfl,_,rfl,?_⟩
  refine ifSf (by decide) ?_
  refine ⟨_,rfl,t,_,_,_,rfl,rfl,.inr (SqT.of e),rfl,rfl,_,rfl,?_⟩
  refine ifSf (by decide) ?_
  refine ⟨_,rfl,t,_,_,.ref p,rfl,rfl,.inr (SqT.of e),rfl,p,_,rfl,SqT.of ep,rfl,.int P.1,_,rfl,.int P.2.1,_,rfl,.int P.2.2,_,rfl,rfl,?_⟩
  refine ⟨_,rfl,_,rfl,_,rfl,t,_,_,.ref D,rfl,rfl,.inr (SqT.of e),rfl,l,d,D,ss,g,ws,rfl,el,ok,hn,hd,m1,m2,eD,okw,wsz,fun H2 s2 no=>?_,fun r N B H2 s2 er eb=>?_⟩
  ·refine ⟨_,rfl,_,_,rfl,rfl,_,rfl,?_⟩
   have fin:¬ zNx ss g (.fa p D P ws):=fun ⟨_,_,N,B,z,_⟩=>by rw [no] at z; cases z
   refine ifD (fun h1=>?_) (fun h1=>?_)
   ·refine iteT ?_
    exact q false H2 s2 ⟨(fun z=>nomatch z),fun z=>absurd z fin⟩
   ·refine ⟨_,rfl,rfl,_,rfl,?_⟩
    refine iteT ?_
    refine iteT ?_
    exact q false H2 s2 ⟨(fun z=>nomatch z),fun z=>absurd z fin⟩
  ·obtain ⟨bN,bB⟩:=zNy eb (fun u hu=>(ok u hu).2.2.2.2) (fun u hu=>by
    obtain ⟨x,hx,rfl⟩:=List.mem_map.mp hu
    exact wsz x hx)
   refine ⟨_,rfl,_,_,rfl,rfl,_,rfl,?_⟩
   refine ifD (fun h1=>?_) (fun h1=>?_)
   ·refine iteT ?_
    exact q false H2 s2 ⟨(fun z=>nomatch z),fun z=>by have:=z.1; omega⟩
   refine ⟨_,rfl,rfl,_,rfl,?_⟩
   refine iteF ?_
   refine ⟨_,rfl,_,rfl,t,_,_,.ref p,rfl,rfl,.inr (SqT.of (s2 _ _ e)),rfl,l,p,ss,P.1,P.2.1,P.2.2,rfl,by rw [← zH1]; exact s2 _ _ el,by omega,zQr (ok.same s2),s2 _ _ ep,fun H3 s3=>?_⟩
   rw [zNr]
   have s23:=s2.trans s3
   cases hw:inWB ss P with
   | false =>
    refine ⟨_,rfl,?_⟩
    refine iteT ?_
    exact q false H3 s23 ⟨(fun z=>nomatch z),fun z=>by have y:=z.2.1; rw [hw] at y; cases y⟩
   | true =>
    refine ⟨_,rfl,?_⟩
    refine iteF ?_
    have ha:=hd.same s23
    have er3:Sq K H3 r [.int N,.int B]:=.inr (SqT.of (s3 _ _ er))
    have zs:(g.1 * P.1 + g.2.1 * P.2.1).natAbs≤10 ^ 100:=by
     have y1:=zAj g.1 P.1 m1 z1
     have y2:=zAj g.2.1 P.2.1 m2 z2
     exact Nat.le_trans (Nat.le_trans (Int.natAbs_add_le _ _) (Nat.add_le_add y1 y2)) (by decide)
    refine ⟨_,rfl,d,_,_,.int g.1,rfl,rfl,ha,rfl,_,rfl,_,_,rfl,rfl,cg1 _,_,rfl,d,_,_,.int g.2.1,rfl,rfl,ha,rfl,_,rfl,_,_,rfl,rfl,cg2 _,_,_,rfl,rfl,_,rfl,r,_,_,.int B,rfl,rfl,er3,rfl,_,_,rfl,rfl,zPw.of zs bB,_,rfl,r,_,_,.int N,rfl,rfl,er3,rfl,_,rfl,_,_,rfl,rfl,zPw.of bN (Nat.le_trans z3 (by decide)),rfl,?_⟩
    refine q _ H3 s23 ⟨fun z=>⟨by omega,hw,N,B,eb,by simpa using z⟩,fun ⟨_,_,N',B',z,z'⟩=>?_⟩
    rw [eb] at z
    cases z
    simpa using z'
theorem WtSt.app {H0 H H2:Hp} {D p q:Addr} {ws:List Wt} {n a b:Int} (P:WtSt H0 D ws H) (s:Same H H2) (eq':H2 q = some (.tup [.int a,.int b])) (ep:H2 p = some (.tup [.int n,.ref q])) :
  WtSt H0 D (ws ++ [(p,n,q,a,b)]) (upd H2 D (.lst (zAp ws ++ [.ref p]))):=by
 have eD:=s _ _ P.at'
 have keep:∀ (b:Addr) (ys:List V),H2 b = some (.tup ys)→upd H2 D (.lst (zAp ws ++ [.ref p])) b = some (.tup ys):=fun b ys e=>by
  rw [zA5 (zHh e eD (by intro z; cases z))]
  exact e
 refine ⟨(P.same.trans s).putNew P.new,P.new,by rw [zAc,zDe]; rfl,fun t ht=>?_⟩
 rcases List.mem_append.mp ht with h | h
 ·obtain ⟨h1,h2⟩:=P.all t h
  exact ⟨keep _ _ (s _ _ h1),keep _ _ (s _ _ h2)⟩
 ·rw [List.mem_singleton] at h
  subst h
  exact ⟨keep _ _ ep,keep _ _ eq'⟩
def zMg (K:PySem.W.Frag):Sp:=fun vs H Q _=>∃ (a t:Addr) (rows:List Int) (pp:Pp) (n mW mP:Nat),vs = [.ref a,.ref t]∧SqL K H a (rows.map V.int)∧5≤rows.length∧(∀ x∈rows,0≤x∧x < 1000003)∧PpAt H t pp∧PpSz n mW mP pp∧n≤100∧10≤mW∧10 ^ 20≤mP ∧
 ∀ (t':Addr) (qq:Pp) (H':Hp),Same H H'→PpAt H' t' qq→PpSz (2 * n + 1) (10 * mW) (10 * mP) qq→Q (.ref t') H'
theorem zQs (F:Fun K "_law_bent" "_law_bent" zI0 f fd) (Z:Zs mg) (h_L_bent_weights:Has P w K mg base "_law_bent_weights" 1 ["_law_d", "_law_weights"] (zEz K)) (h_L_bent_spot:Has P w K mg base "_law_bent_spot" 1 ["_law_d", "_law_place"] (zGq K)):FnOk P w K mg base CX0 2 f fd ["_law_d", "_law_paper"] (zMg K):=by
 refine F.ok zF0 (fun vs H Q E h=>?_) (fun cdv A outer s H vs Q E hr h=>?_)
 ·obtain ⟨a,t,rows,pp,n,mW,mP,rfl,_⟩:=h
  rfl
 obtain ⟨a,t,rows,pp,n,mW,mP,rfl,hS,hl,bd,hp,hz,hn,w10,p20,q⟩:=h
 refine ⟨_,(zAf (zA9 (zAs zBu (zAk zAg (pv 1) zAb (fun _ _=>rfl)) zCu (zAt _)) (zAf (zD7 (T:=["_law_number", "_law_weight"]) (caps:=[]) (i:=2) zF0.nd rfl rfl ⟨rfl,by decide +kernel,by decide +kernel,rfl,True.intro⟩ rfl (zJm (zAk zAg (pv 1) zAb (fun _ _=>rfl))) (fun _=>(zCk rfl (zAw (zAr (i:=0) (show (["_law_number", "_law_weight"]:List Str).Nodup by decide +kernel) rfl (Or.inl rfl)) (zAw (zAr (i:=1) (show (["_law_number", "_law_weight"]:List Str).Nodup by decide +kernel) rfl (Or.inl rfl)) zBk)))) (fun _=>zBg) (fun _=>(zAz (zAa (pv 0) (zAa (zAz (zAa (pv 1) (zAa zAb zAe))) zAe)))))
   (zAi (zAq (zAz (zAa zCu (zAa (zC2 (T:=["_law_number", "_law_weight"]) (caps:=[]) ⟨rfl,by decide +kernel,by decide +kernel,rfl,True.intro⟩ rfl (zCd (zAh h_L_bent_weights (hr.mono (by decide)) rfl (zAa (pv 0) (zAa (pv 2) zAe)))) (fun _=>(zCk rfl (zAw (zAr (i:=0) (show (["_law_number", "_law_weight"]:List Str).Nodup by decide +kernel) rfl (Or.inl rfl)) (zAw (zAr (i:=1) (show (["_law_number", "_law_weight"]:List Str).Nodup by decide +kernel) rfl (Or.inl rfl)) zBk)))) (fun _=>zBg) (fun _=>(zAz (zAa (pv 0) (zAa (zAk zAg (pv 1) zAb (fun _ _=>rfl)) zAe))))) zAe)))))) zAv)
   (zAf (zA9 (zAs zBu (zAk zAg (pv 1) zAb (fun _ _=>rfl)) zCu (zAt _)) (zAf (zEc (zAk zAg (pv 1) zAb (fun _ _=>rfl)) (zCk rfl (zAw (zAr (i:=3) zF0.nd rfl (Or.inl rfl)) (zAw (zAr (i:=4) zF0.nd rfl (Or.inl rfl)) zBk))))
   (zAf (zAy (i:=5) zF0.nd rfl (Or.inl rfl) (zCb (zAa (zAz (zAa (zAl zA0 zAb (pv 3)) (zAa (zAl zA0 zAb (pv 4)) zAe))) (zAa (zAz (zAa (zEi zCp (pv 3)) (zAa (zEi zCp (pv 4)) zAe))) (zAa (zAz (zAa (pv 4) (zAa (zEi zCp (pv 3)) zAe))) (zAa (zAz (zAa (zAl zBc (pv 3) zAb) (zAa (pv 4) zAe))) (zAa (zAz (zAa zAb (zAa zAb zAe))) (zAa (zAz (zAa (pv 3) (zAa (zAl zCe (zAl zBc (pv 4) (zAl zA7 (zAk zAg (pv 0) zAb (fun _ _=>rfl)) zAb)) zAb) zAe))) zAe))))))))
   (zAi (zAq (zAz (zAa zCu (zAa (zAk zAg (pv 5) (zAl zA7 (zAk zAg (pv 0) zAb (fun _ _=>rfl)) zAb) (fun _ _=>rfl)) zAe))))))) zAv)
   (zAf (zA9 (zAs zBu (zAl zA7 (zAk zAg (pv 0) zAb (fun _ _=>rfl)) zAb) zAb (zAt _)) (zAi (zAq (zAz (zAa zCu (zAa (zAh h_L_bent_spot (hr.mono (by decide)) rfl (zAa (pv 0) (zAa (zAk zAg (pv 1) zAb (fun _ _=>rfl)) zAe))) (zAa (zAk zAg (pv 1) zAb (fun _ _=>rfl)) zAe)))))) zAv)
   (zAi (zAq (zAz (zAa zCu (zAa (zAk zAg (pv 1) zAb (fun _ _=>rfl)) (zAa (zAh h_L_bent_weights (hr.mono (by decide)) rfl (zAa (pv 0) (zAa (zAk zAg (pv 1) zAb (fun _ _=>rfl)) zAe))) zAe))))))))),?_⟩
 try dsimp only [L2.cxOf]
 obtain ⟨v0,a0,_⟩:=zBw bd (k:=0) (by decide) (by omega)
 obtain ⟨v1,a1,_⟩:=zBw bd (k:=1) (by decide) (by omega)
 obtain ⟨v4,a4,_⟩:=zBw bd (k:=4) (by decide) (by omega)
 cases pp with
 | no D cs =>
  obtain ⟨e,eD,okc⟩:=hp
  have nc:cs.length≤n:=hz
  refine ⟨_,rfl,t,_,_,_,rfl,rfl,.inr (SqT.of e),rfl,rfl,_,rfl,?_⟩
  refine ifSt ?_
  refine ⟨_,rfl,t,_,_,.ref D,rfl,rfl,.inr (SqT.of e),rfl,D,rfl,⟨_,SqL.of eD⟩,fun cc D3 hD3=>zBx (K:=K) (a:=D) (xs:=zBq cs) (fun i σ ys G=>∃ ws:List Wt,ys = zAp ws∧ws.length = i∧WtSt H D3 ws G∧∃ u0 u1:Option V,σ = [u0,u1])
   ⟨[],rfl,rfl,⟨zAd hD3 _,hD3,zAc,(fun t ht=>nomatch ht)⟩,none,none,rfl⟩ (fun i σ ys G _ ⟨ws,e1,_,P4,_⟩=>⟨P4.same.seq (SqL.of eD),by rw [e1]; exact P4.at'⟩) ?_ ?_⟩
  ·rintro i x σ ys G hi ⟨ws,rfl,na,P4,u0,u1,rfl⟩
   obtain ⟨t',gt',rfl,hil⟩:=zKu hi
   have et':=P4.same _ _ (okc t' (List.mem_of_getElem? gt'))
   refine ⟨t'.1,_,rfl,SqT.of et',rfl,.int t'.2.1,_,rfl,.int t'.2.2,_,rfl,rfl,?_⟩
   refine ⟨_,rfl,_,rfl,(by show 2≤sizeLine; decide),fun p1 hp1=>⟨(by show 2≤sizeLine; decide),fun p2 hp2=>?_⟩⟩
   have sp1:=zAd hp1 (.tup [.int t'.2.2,.int 1])
   have sp2:=zAd hp2 (.tup [.int t'.2.1,.ref p1])
   exact ⟨(sp1.trans sp2) _ _ P4.at',zA6 (by rw [zA2]; omega),ws ++ [(p2,t'.2.1,p1,t'.2.2,1)],by rw [zDe]; rfl,by rw [List.length_append,na]; rfl,P4.app (sp1.trans sp2) (sp2 _ _ zAc) zAc,_,_,rfl⟩
  rintro σ ys G ⟨ws,rfl,na,P4,u0,u1,rfl⟩
  rw [zCn] at na
  refine ⟨_,rfl,_,rfl,a,D3,rows,ws,rfl,P4.same.seq hS,by omega,bd,P4.at',P4.all,by omega,fun l' vs G1 s1 el' okv nv _=>?_⟩
  refine ⟨l',rfl,.inl ⟨⟨_,SqL.of el'⟩,fun cc2 D4 hD4=>zBx (K:=K) (a:=l') (xs:=zAp vs) (fun i σ ys G=>∃ ca:List Pr,ys = zBq ca∧ca.length = i∧PrSt G1 D4 ca G∧∃ u0 u1:Option V,σ = [u0,u1])
   ⟨[],rfl,rfl,⟨zAd hD4 _,hD4,zAc,(fun t ht=>nomatch ht)⟩,none,none,rfl⟩ (fun i σ ys G _ ⟨ca,e1,_,P5,_⟩=>⟨P5.same.seq (SqL.of el'),by rw [e1]; exact P5.at'⟩) ?_ ?_⟩⟩
  ·rintro i x σ ys G2 hi ⟨ca,rfl,na2,P5,u0,u1,rfl⟩
   obtain ⟨t',gt',rfl,hil⟩:=zHw hi
   obtain ⟨et1,et2⟩:=(okv.same P5.same) t' (List.mem_of_getElem? gt')
   refine ⟨t'.1,_,rfl,SqT.of et1,rfl,.int t'.2.1,_,rfl,.ref t'.2.2.1,_,rfl,rfl,?_⟩
   refine ⟨_,rfl,_,rfl,t'.2.2.1,_,_,.int t'.2.2.2.1,rfl,rfl,.inr (SqT.of et2),rfl,(by show 2≤sizeLine; decide),fun p hp=>?_⟩
   have sp:=zAd hp (.tup [.int t'.2.1,.int t'.2.2.2.1])
   exact ⟨sp _ _ P5.at',zA6 (by rw [zCn]; omega),ca ++ [(p,t'.2.1,t'.2.2.2.1)],by rw [zKc]; rfl,by rw [List.length_append,na2]; rfl,P5.app sp hp zAc,_,_,rfl⟩
  rintro σ ys G2 ⟨ca,rfl,na2,P5,u0,u1,rfl⟩
  rw [zA2] at na2
  refine ⟨(by show 2≤sizeLine; decide),fun u hu=>?_⟩
  have su:=zAd hu (.tup [.str "none", .ref D4])
  exact q u (.no D4 ca) _ (((P4.same.trans s1).trans P5.same).trans su) ⟨zAc,su _ _ P5.at',P5.all.same su⟩ (show ca.length≤2 * n + 1 by omega)
 | op p x y =>
  obtain ⟨e,ep⟩:=hp
  refine ⟨_,rfl,t,_,_,_,rfl,rfl,.inr (SqT.of e),rfl,rfl,_,rfl,?_⟩
  refine ifSf (by decide) ?_
  refine ⟨_,rfl,t,_,_,_,rfl,rfl,.inr (SqT.of e),rfl,rfl,_,rfl,?_⟩
  refine ifSt ?_
  refine ⟨_,rfl,t,_,_,.ref p,rfl,rfl,.inr (SqT.of e),rfl,p,_,rfl,SqT.of ep,rfl,.int x,_,rfl,.int y,_,rfl,rfl,?_⟩
  have c3:∀ j:Int,CMul 3 j:=fun j=>.inl ⟨by decide,by decide⟩
  refine ⟨_,rfl,_,_,rfl,rfl,c3 _,_,rfl,_,_,rfl,rfl,c3 _,(by show 2≤sizeLine; decide),fun t1 ht1=>?_⟩
  have s1:=zAd ht1 (.tup [.int (3 * x),.int (3 * y)])
  have e1:upd H t1 (.tup [.int (3 * x),.int (3 * y)]) t1 = some (.tup [.int (3 * x),.int (3 * y)]):=zAc
  generalize upd H t1 (.tup [.int (3 * x),.int (3 * y)]) = H1 at s1 e1 ⊢
  refine ⟨_,rfl,_,rfl,_,rfl,_,rfl,(by show 2≤sizeLine; decide),fun t2 ht2=>?_⟩
  have s2:=zAd ht2 (.tup [.int (-x),.int (-y)])
  have e2:upd H1 t2 (.tup [.int (-x),.int (-y)]) t2 = some (.tup [.int (-x),.int (-y)]):=zAc
  generalize upd H1 t2 (.tup [.int (-x),.int (-y)]) = H2 at s2 e2 ⊢
  refine ⟨_,rfl,_,rfl,_,rfl,(by show 2≤sizeLine; decide),fun t3 ht3=>?_⟩
  have s3:=zAd ht3 (.tup [.int y,.int (-x)])
  have e3:upd H2 t3 (.tup [.int y,.int (-x)]) t3 = some (.tup [.int y,.int (-x)]):=zAc
  generalize upd H2 t3 (.tup [.int y,.int (-x)]) = H3 at s3 e3 ⊢
  refine ⟨_,rfl,_,_,rfl,rfl,_,rfl,(by show 2≤sizeLine; decide),fun t4 ht4=>?_⟩
  have s4:=zAd ht4 (.tup [.int (x + 1),.int y])
  have e4:upd H3 t4 (.tup [.int (x + 1),.int y]) t4 = some (.tup [.int (x + 1),.int y]):=zAc
  generalize upd H3 t4 (.tup [.int (x + 1),.int y]) = H4 at s4 e4 ⊢
  refine ⟨(by show 2≤sizeLine; decide),fun t5 ht5=>?_⟩
  have s5:=zAd ht5 (.tup [.int 0,.int 0])
  have e5:upd H4 t5 (.tup [.int 0,.int 0]) t5 = some (.tup [.int 0,.int 0]):=zAc
  generalize upd H4 t5 (.tup [.int 0,.int 0]) = H5 at s5 e5 ⊢
  have s05:=(((s1.trans s2).trans s3).trans s4).trans s5
  refine ⟨_,rfl,_,rfl,_,rfl,a,_,_,_,rfl,rfl,.inl (s05.seq hS),a1,_,_,rfl,rfl,(by show (0:Int) < 5; decide),_,_,rfl,rfl,_,_,rfl,rfl,(by show 2≤sizeLine; decide),fun t6 ht6=>?_⟩
  have s6:=zAd ht6 (.tup [.int x,.int (y + v1 % 5 - 2)])
  have e6:upd H5 t6 (.tup [.int x,.int (y + v1 % 5 - 2)]) t6 = some (.tup [.int x,.int (y + v1 % 5 - 2)]):=zAc
  generalize upd H5 t6 (.tup [.int x,.int (y + v1 % 5 - 2)]) = H6 at s6 e6 ⊢
  refine ⟨by show 6≤sizeLine; decide,fun m hm=>?_⟩
  have sm:=zAd hm (.lst [.ref t1,.ref t2,.ref t3,.ref t4,.ref t5,.ref t6])
  have em:upd H6 m (.lst [.ref t1,.ref t2,.ref t3,.ref t4,.ref t5,.ref t6]) m = some (.lst [.ref t1,.ref t2,.ref t3,.ref t4,.ref t5,.ref t6]):=zAc
  generalize upd H6 m (.lst [.ref t1,.ref t2,.ref t3,.ref t4,.ref t5,.ref t6]) = H7 at sm em ⊢
  have k5:=s6.trans sm
  have k4:=s5.trans k5
  have k3:=s4.trans k4
  have k2:=s3.trans k3
  have k1:=s2.trans k2
  have k0:=s1.trans k1
  clear s1 s2 s3 s4 s5 s05
  obtain ⟨r,x',y',g1,g2⟩:∃ (r:Addr) (x' y':Int),atI [.ref t1,.ref t2,.ref t3,.ref t4,.ref t5,.ref t6] (v0 % 6) = some (V.ref r)∧H7 r = some (.tup [.int x',.int y']):=by
   have cc:v0 % 6 = 0∨v0 % 6 = 1∨v0 % 6 = 2∨v0 % 6 = 3∨v0 % 6 = 4∨v0 % 6 = 5:=by omega
   rcases cc with e | e | e | e | e | e <;> rw [e]
   ·exact ⟨t1,_,_,rfl,k1 _ _ e1⟩
   ·exact ⟨t2,_,_,rfl,k2 _ _ e2⟩
   ·exact ⟨t3,_,_,rfl,k3 _ _ e3⟩
   ·exact ⟨t4,_,_,rfl,k4 _ _ e4⟩
   ·exact ⟨t5,_,_,rfl,k5 _ _ e5⟩
   ·exact ⟨t6,_,_,rfl,sm _ _ e6⟩
  refine ⟨_,rfl,_,rfl,a,_,_,_,rfl,rfl,.inl (k0.seq hS),a0,_,_,rfl,rfl,(by show (0:Int) < 6; decide),m,_,_,_,rfl,rfl,.inl (SqL.of em),g1,(by show 2≤sizeLine; decide),fun u hu=>?_⟩
  have su:=zAd hu (.tup [.str "open", .ref r])
  exact q u (.op r x' y') _ (k0.trans su) ⟨zAc,su _ _ g2⟩ trivial
 | fa p D P ws =>
  obtain ⟨e,ep,eD,okw⟩:=hp
  obtain ⟨z1,z2,z3,nw,wsz⟩:=hz
  have e1:Sq K H t _:=.inr (SqT.of e)
  refine ⟨_,rfl,t,_,_,_,rfl,rfl,e1,rfl,rfl,_,rfl,?_⟩
  refine ifSf (by decide) ?_
  refine ⟨_,rfl,t,_,_,_,rfl,rfl,e1,rfl,rfl,_,rfl,?_⟩
  refine ifSf (by decide) ?_
  refine ⟨_,rfl,a,_,_,_,rfl,rfl,.inl hS,a4,_,_,rfl,rfl,(by show (0:Int) < 3; decide),rfl,_,rfl,?_⟩
  refine ifE (fun _=>?_) (fun _=>?_)
  ·refine ⟨_,rfl,_,rfl,t,_,_,.ref p,rfl,rfl,e1,rfl,a,p,rows,P.1,P.2.1,P.2.2,rfl,hS,by omega,bd,ep,fun r x' y' z' H2 s2 er hb=>?_⟩
   refine ⟨_,rfl,t,_,_,.ref D,rfl,rfl,e1.same s2,rfl,(by show 3≤sizeLine; decide),fun u hu=>?_⟩
   have su:=zAd hu (.tup [.str "far", .ref r,.ref D])
   obtain ⟨y1,y2,y3⟩:=hb mP p20 z1 z2 z3
   have sA:=s2.trans su
   exact q u (.fa r D (x',y',z') ws) _ sA ⟨zAc,su _ _ er,sA _ _ eD,okw.same sA⟩ ⟨y1,y2,y3,by omega,fun u hu=>⟨zEh (wsz u hu).1,zEh (wsz u hu).2⟩⟩
  ·refine ⟨_,rfl,t,_,_,.ref p,rfl,rfl,e1,rfl,_,rfl,_,rfl,t,_,_,.ref D,rfl,rfl,e1,rfl,a,D,rows,ws,rfl,hS,by omega,bd,eD,okw,by omega,fun l' vs H2 s2 el' okv nv tv=>?_⟩
   refine ⟨(by show 3≤sizeLine; decide),fun u hu=>?_⟩
   have su:=zAd hu (.tup [.str "far", .ref p,.ref l'])
   have sA:=s2.trans su
   exact q u (.fa p l' P vs) _ sA ⟨zAc,sA _ _ ep,su _ _ el',okv.same su⟩ ⟨zEh z1,zEh z2,zEh z3,by omega,tv mW w10 wsz⟩
theorem zUl {ok:Addr→Pp→Hp→Prop} {G:Prop} {R:Addr→Hp→Prop} (h1:(∀ t pp H,ok t pp H→R t H)→G) (h2:∀ t pp H,ok t pp H→R t H):G:=h1 h2
theorem PpSz.mono {n n' a a' b b':Nat} {pp:Pp} (h:PpSz n a b pp) (h1:n≤n') (h2:a≤a') (h3:b≤b'):PpSz n' a' b' pp:=by
 cases pp with
 | no D cs=>exact Nat.le_trans h h1
 | op p x y=>trivial
 | fa p D P ws =>
  obtain ⟨z1,z2,z3,z4,z5⟩:=h
  exact ⟨Nat.le_trans z1 h3,Nat.le_trans z2 h3,Nat.le_trans z3 h3,Nat.le_trans z4 h1,fun t ht=>⟨Nat.le_trans (z5 t ht).1 h2,Nat.le_trans (z5 t ht).2 h2⟩⟩
theorem PpSz.cpy {n a b:Nat} {pp:Pp} {D:Addr} (h:PpSz n a b pp):PpSz n a b (cpy D pp):=by
 cases pp <;> exact h
theorem zN8 {ss:List Sd} {g:P3} {pp:Pp} {D:Addr} : zNx ss g (cpy D pp)↔zNx ss g pp:=by
 cases pp <;> exact Iff.rfl
theorem zSr {K:PySem.W.Frag} {H:Hp} {n:Nat} {x y:V} {r:Bool} (d:Deep K H n x y r):Deep K H (n + 1) x y r:=by
 induction d with
 | same n a=>exact .same _ _
 | int n i j=>exact .int _ _ _
 | str n i j=>exact .str _ _ _
 | lst ne ha hb hl he ih=>exact .lst ne ha hb hl ih
 | lstN ne ha hb hl=>exact .lstN ne ha hb hl
 | tup ne ha hb he ih=>exact .tup ne ha hb ih
theorem zQh {K:PySem.W.Frag} {H:Hp} {n:Nat} {x y:V} {r:Bool} (d:Deep K H n x y r):∀ m:Nat,Deep K H (n + m) x y r
 | 0=>d
 | m + 1=>zSr (zQh d m)
theorem zK1 {K:PySem.W.Frag} {H:Hp} {a b:Addr} {rs:List Addr} (n:Nat) (ne:a≠b) (ha:H a = some (.lst (rs.map V.ref))) (hb:H b = some (.lst (rs.map V.ref))):Deep K H (n + 1) (.ref a) (.ref b) true:=by
 have d:=Deep.lst (K:=K) (n:=n) (e:=fun _=>true) ne (SqL.of ha) (SqL.of hb) rfl fun j h1 h2=>by
  rw [List.getElem_map]
  exact .same _ _
 rw [zMw] at d
 exact d
theorem deepPp {K:PySem.W.Frag} {H:Hp} {t t' D':Addr} {pp:Pp} (h':PpAt H t' (cpy D' pp)) (h:PpAt H t pp) (hne:t'≠t) (hD:∀ D,zUg pp = some D→D'≠D):Deep K H 3 (.ref t') (.ref t) true:=by
 cases pp with
 | no D cs =>
  exact Deep.tup (n:=2) (e:=fun _=>true) hne (SqT.of h'.1) (SqT.of h.1) fun j h1 h2=>match j with
   | 0=>.str _ "none" "none"
   | 1=>zK1 1 (hD D rfl) h'.2.1 h.2.1
   | n + 2=>absurd h1 (by simp only [List.length_cons,List.length_nil]; omega)
 | op p x y =>
  exact Deep.tup (n:=2) (e:=fun _=>true) hne (SqT.of h'.1) (SqT.of h.1) fun j h1 h2=>match j with
   | 0=>.str _ "open" "open"
   | 1=>.same _ _
   | n + 2=>absurd h1 (by simp only [List.length_cons,List.length_nil]; omega)
 | fa p D P ws =>
  exact Deep.tup (n:=2) (e:=fun _=>true) hne (SqT.of h'.1) (SqT.of h.1) fun j h1 h2=>match j with
   | 0=>.str _ "far" "far"
   | 1=>.same _ _
   | 2=>zK1 1 (hD D rfl) h'.2.2.1 h.2.2.1
   | n + 3=>absurd h1 (by simp only [List.length_cons,List.length_nil]; omega)
theorem lst_at {H:Hp} {t D:Addr} {pp:Pp} (h:PpAt H t pp) (e:zUg pp = some D):∃ o,H D = some o:=by
 cases pp with
 | no D cs=>cases e; exact ⟨_,h.2.1⟩
 | op p x y=>cases e
 | fa p D P ws=>cases e; exact ⟨_,h.2.2.1⟩
theorem pp_at {H:Hp} {t:Addr} {pp:Pp} (h:PpAt H t pp):∃ o,H t = some o:=by
 cases pp <;> exact ⟨_,h.1⟩
theorem zU3 (ss:List Sd) (lo hi:Option Int):∃ qs:List Sd,cutV (zAo ss) lo hi = zAo qs∧(∀ t∈qs,t∈ss)∧qs.length≤ss.length:=by
 refine ⟨(ss.drop (HT.sIx (zAo ss).length 0 lo)).take (HT.sIx (zAo ss).length (zAo ss).length hi - HT.sIx (zAo ss).length 0 lo),?_,fun t ht=>List.mem_of_mem_drop (List.mem_of_mem_take ht),?_⟩
 ·show ((zAo ss).drop _).take _ = _
  simp only [zAo,List.map_drop,List.map_take]
 ·rw [List.length_take,List.length_drop]
  omega
theorem zUu {i:Nat} (h:i < 2):(4 * 2 ^ i - 1≤100∧10≤10 ^ (20 + i)∧10 ^ 20≤10 ^ (40 + i))∧2 * (4 * 2 ^ i - 1) + 1 = 4 * 2 ^ (i + 1) - 1∧10 * 10 ^ (20 + i) = 10 ^ (20 + (i + 1))∧10 * 10 ^ (40 + i) = 10 ^ (40 + (i + 1)):=by
 have c:i = 0∨i = 1:=by omega
 rcases c with rfl | rfl
 ·refine ⟨⟨by decide,by decide,by decide⟩,by decide,by decide,by decide⟩
 ·refine ⟨⟨by decide,by decide,by decide⟩,by decide,by decide,by decide⟩
def sp_law (K:PySem.W.Frag):Sp:=fun vs H Q _=>∃ (a:Addr) (ns:List Int),vs = [.ref a]∧SqL K H a (ns.map V.int)∧ns.length≤63∧∀ H',Q (.bl true) H'
theorem ok_law (F:Fun K "law" "law" zNk f fd) (Z:Zs mg) (h_L_same:Has P w K mg base "_law_same" 6 ["_law_told", "_law_due"] (zL8 K)) (h_L_good_paper:Has P w K mg base "_law_good_paper" 6 ["_law_sides_here", "_law_direction", "_law_paper"] (zFz K)) (h_p_good_reach:Has P w K mg base "good_reach" 11 ["sides", "direction", "paper"] (zF9 K)) (h_L_copied:Has P w K mg base "_law_copied" 1 ["_law_paper"] (zJt K)) (h_L_bent:Has P w K mg base "_law_bent" 2 ["_law_d", "_law_paper"] (zMg K)) (h_L_way:Has P w K mg base "_law_way" 1 ["_law_one", "_law_two", "_law_wide"] (zK7 K)) (h_p_reach:Has P w K mg base "reach" 10 ["sides", "direction"] (zKo K)) (h_L_tight:Has P w K mg base "_law_tight" 1 ["_law_some", "_law_sides_here"] (zKr K)) (h_L_sides:Has P w K mg base "_law_sides" 3 ["_law_some", "_law_many"] (zKj K)) (h_L_draws:Has P w K mg base "_law_draws" 2 ["_law_script", "_law_many"] (zKh K)):FnOk P w K mg base CX0 12 f fd ["_law_script"] (sp_law K):=by
 refine F.ok zFi (fun vs H Q E h=>?_) (fun cdv A outer s H vs Q E hr h=>?_)
 ·obtain ⟨a,ns,rfl,_⟩:=h
  rfl
 obtain ⟨ad,ns,rfl,hS,hl,q⟩:=h
 have hu:=hr.units0
 have hu64:=hr.units
 refine ⟨_,(zAf (zAy (i:=1) zFi.nd rfl (Or.inl rfl) (zAh h_L_draws (hr.mono (by decide)) rfl (zAa (pv 0) (zAa zAb zAe))))
   (zAf (zAy (i:=2) zFi.nd rfl (Or.inl rfl) (zAh h_L_tight (hr.mono (by decide)) rfl (zAa (zBs zCt (pv 1) (zB8 zAb) zB3) (zAa (zAh h_L_sides (hr.mono (by decide)) rfl (zAa (zBs zCt (pv 1) (zB8 zAb) zB3) (zAa (zAl zA7 (zAk zAg (pv 1) zAb (fun _ _=>rfl)) zAb) zAe))) zAe))))
   (zAf (zAy (i:=3) zFi.nd rfl (Or.inl rfl) (zAh h_L_way (hr.mono (by decide)) rfl (zAa (zAk zAg (pv 1) zAb (fun _ _=>rfl)) (zAa (zAk zAg (pv 1) zAb (fun _ _=>rfl)) (zAa zAb zAe)))))
   (zAf (zAy (i:=4) zFi.nd rfl (Or.inl rfl) (zAh h_p_reach (hr.mono (by decide)) rfl (zAa (zCj zBz rfl Z.list zC6 (zAa (pv 2) zAe)) (zAa (pv 3) zAe))))
   (zAf (zA9 (zCr (zB5 (zAh h_L_same (hr.mono (by decide)) rfl (zAa (zAh h_p_good_reach (hr.mono (by decide)) rfl (zAa (zCj zBz rfl Z.list zC6 (zAa (pv 2) zAe)) (zAa (pv 3) (zAa (zAh h_L_copied (hr.mono (by decide)) rfl (zAa (pv 4) zAe)) zAe)))) (zAa zE2 zAe))))) (zAi (zAq zE2)) zAv)
   (zAf (zA9 (zAs zBu (zAl zA7 (zAk zAg (pv 1) zAb (fun _ _=>rfl)) zAb) zAb (zAt _)) (zAi (zAy (i:=4) zFi.nd rfl (Or.inl rfl) (zAh h_p_reach (hr.mono (by decide)) rfl (zAa (zCj zBz rfl Z.list zC6 (zAa (pv 2) zAe)) (zAa (zAh h_L_way (hr.mono (by decide)) rfl (zAa (zAk zAg (pv 1) zAb (fun _ _=>rfl)) (zAa (zAk zAg (pv 1) zAb (fun _ _=>rfl)) (zAa zAb zAe)))) zAe))))) zAv)
   (zAf (zA9 (PW.pt (zFm (zAs zBu (zAl zA7 (zAk zAg (pv 1) zAb (fun _ _=>rfl)) zAb) zAb (zAt _)) (zEe (zAs (op_neE hu) (pv 2) (zCb zAe) (zAt _))))) (zAi (zAy (i:=4) zFi.nd rfl (Or.inl rfl) (zAh h_p_reach (hr.mono (by decide)) rfl (zAa (zBs zCt (pv 2) zB3 (zB8 (zEi zCp zAb))) (zAa (pv 3) zAe))))) zAv)
   (zAf (zA9 (zAs zBu (zAl zA7 (zAl zCx (zAk zAg (pv 1) zAb (fun _ _=>rfl)) zAb) zAb) zAb (zAt _)) (zAi (zAy (i:=4) zFi.nd rfl (Or.inl rfl) (zAz (zAa zCu (zAa (zAh h_L_way (hr.mono (by decide)) rfl (zAa (zAk zAg (pv 1) zAb (fun _ _=>rfl)) (zAa (zAk zAg (pv 1) zAb (fun _ _=>rfl)) (zAa zAb zAe)))) zAe))))) zAv)
   (zAf (zCv PassesOwn.never rfl (zC9 rfl Z.range (zAa (zAl zA7 (zAl zCx (zAk zAg (pv 1) zAb (fun _ _=>rfl)) zAb) zAb) zAe)) (zAr (i:=5) zFi.nd rfl (Or.inl rfl)) (zAi (zAy (i:=4) zFi.nd rfl (Or.inl rfl) (zAh h_L_bent (hr.mono (by decide)) rfl (zAa (zBs zCt (pv 1) (zB8 (zAl zBc zAb (zAl zA0 zAb (pv 5)))) zB3) (zAa (pv 4) zAe))))))
   (zAf (zAy (i:=6) zFi.nd rfl (Or.inl rfl) (zAz (zAa (zCj zBz rfl Z.list zC6 (zAa (pv 2) zAe)) (zAa (zAh h_L_copied (hr.mono (by decide)) rfl (zAa (pv 4) zAe)) zAe))))
   (zAf (zAy (i:=7) zFi.nd rfl (Or.inl rfl) (zAh h_p_good_reach (hr.mono (by decide)) rfl (zAa (zAk zAg (pv 6) zAb (fun _ _=>rfl)) (zAa (pv 3) (zAa (zAk zAg (pv 6) zAb (fun _ _=>rfl)) zAe)))))
   (zAi (zAq (zF4 (zCa (op_eqD hu64) (pv 6) (zAz (zAa (pv 2) (zAa (pv 4) zAe))) (zAt _)) (zGo (zAh h_L_same (hr.mono (by decide)) rfl (zAa (pv 7) (zAa (zAh h_L_good_paper (hr.mono (by decide)) rfl (zAa (pv 2) (zAa (pv 3) (zAa (pv 4) zAe)))) zAe)))))))))))))))))),?_⟩
 try dsimp only [L2.cxOf]
 refine ⟨_,rfl,ad,ns,64,rfl,hS,hl,by decide,by decide,fun r rows H1 s1 hr0 er1 l1 l2 bd=>?_⟩
 obtain ⟨v0,a0,_⟩:=zBw bd (k:=0) (by decide) (by omega)
 obtain ⟨v1,a1,_⟩:=zBw bd (k:=1) (by decide) (by omega)
 obtain ⟨v40,a40,_⟩:=zBw bd (k:=40) (by decide) (by omega)
 obtain ⟨v41,a41,_⟩:=zBw bd (k:=41) (by decide) (by omega)
 obtain ⟨v42,a42,_⟩:=zBw bd (k:=42) (by decide) (by omega)
 obtain ⟨v43,a43,_⟩:=zBw bd (k:=43) (by decide) (by omega)
 obtain ⟨v60,a60,_⟩:=zBw bd (k:=60) (by decide) (by omega)
 obtain ⟨v61,a61,_⟩:=zBw bd (k:=61) (by decide) (by omega)
 have cutD:∀ k:Nat,k≤56→cutV (rows.map V.int) (some (k:Int)) none = (rows.drop k).map V.int:=fun k hk=>by
  rw [zJu,HT.sIx_nat rows.length 0 k,show min k rows.length = k by omega,show HT.sIx rows.length rows.length none = rows.length from rfl,List.take_of_length_le (by rw [List.length_drop]; omega)]
 have sqr:SqL K H1 r (rows.map V.int):=SqL.of er1
 refine ⟨_,rfl,_,rfl,r,_,rfl,sqr,fun c hc=>?_⟩
 rw [show cutV (rows.map V.int) (some 4) none = (rows.drop 4).map V.int from cutD 4 (by decide)]
 have sc:=zAd hc (.lst ((rows.drop 4).map V.int))
 have ec:upd H1 c (.lst ((rows.drop 4).map V.int)) c = some (.lst ((rows.drop 4).map V.int)):=zAc
 generalize upd H1 c (.lst ((rows.drop 4).map V.int)) = H2 at sc ec ⊢
 refine ⟨_,rfl,_,rfl,r,_,rfl,sc.seq sqr,fun d hd0=>?_⟩
 rw [show cutV (rows.map V.int) (some 2) none = (rows.drop 2).map V.int from cutD 2 (by decide)]
 have sd:=zAd hd0 (.lst ((rows.drop 2).map V.int))
 have ed:upd H2 d (.lst ((rows.drop 2).map V.int)) d = some (.lst ((rows.drop 2).map V.int)):=zAc
 generalize upd H2 d (.lst ((rows.drop 2).map V.int)) = H3 at sd ed ⊢
 have m0:=Int.emod_nonneg v0 (show (7:Int)≠0 by decide)
 have m1:=Int.emod_lt_of_pos v0 (show (0:Int) < 7 by decide)
 refine ⟨_,rfl,r,_,_,_,rfl,rfl,.inl ((sc.trans sd).seq sqr),a0,_,_,rfl,rfl,(by show (0:Int) < 7; decide),d,rows.drop 2,v0 % 7,rfl,SqL.of ed,by omega,by omega,by rw [List.length_drop]; omega,by rw [List.length_drop]; omega,fun x hx=>bd x (List.mem_of_mem_drop hx),fun l0 ss0 G0 s0' hl0 el0 hn0 ok0 bnd0=>?_⟩
 refine ⟨c,l0,rows.drop 4,ss0,rfl,SqL.of (s0' _ _ (sd _ _ ec)),by rw [List.length_drop]; omega,fun x hx=>bd x (List.mem_of_mem_drop hx),el0,ok0,by omega,bnd0,fun l ss G1 s1' el hn ok bnd=>?_⟩
 have n6:ss.length≤6:=by omega
 have er:=s1' _ _ (s0' _ _ (sd _ _ (sc _ _ er1)))
 have sz0:∀ t∈ss,(t.2.1≠0∨t.2.2.1≠0)∧t.2.1.natAbs≤10 ^ 9∧t.2.2.1.natAbs≤10 ^ 9∧t.2.2.2.natAbs≤10 ^ 13:=fun t ht=>(ok t ht).2
 clear bnd bnd0 ok0 el0 hl0 ec ed hn hn0 er1 sqr
 have sq1:Sq K G1 r (rows.map V.int):=.inl (SqL.of er)
 refine ⟨_,rfl,r,_,_,_,rfl,rfl,sq1,a40,_,rfl,r,_,_,_,rfl,rfl,sq1,a41,v40,v41,5,rfl,by decide,by decide,fun d1 gx gy G2 s2 _ ed1 gz bx by'=>?_⟩
 have bx2:gx.natAbs≤5:=bx
 have by2:gy.natAbs≤5:=by'
 apply zUl (ok:=fun t pp G=>Same G2 G∧PpAt G t pp∧PpSz 3 (10 ^ 20) (10 ^ 40) pp)
 ·intro main
  have el2:=s2 _ _ el
  refine ⟨_,rfl,l,_,rfl,.inl (SqL.of el2),fun lc hlc=>?_⟩
  have slc:Same G2 (upd G2 lc (.lst (zAo ss))):=zAd hlc _
  have elc:upd G2 lc (.lst (zAo ss)) lc = some (.lst (zAo ss)):=zAc
  generalize upd G2 lc (.lst (zAo ss)) = G3 at slc elc ⊢
  refine ⟨_,rfl,lc,d1,ss,(gx,gy,0),rfl,SqL.of elc,ok.same (s2.trans slc),by omega,.inr (SqT.of (slc _ _ ed1)),gz,Nat.le_trans bx2 (by decide),Nat.le_trans by2 (by decide),fun t pp G4 s4 hp gd szp=>?_⟩
  have s24:=slc.trans s4
  clear elc
  refine ⟨_,rfl,l,_,rfl,.inl (SqL.of (s24 _ _ el2)),fun l5 hl5=>?_⟩
  have s5:Same G4 (upd G4 l5 (.lst (zAo ss))):=zAd hl5 _
  have e5:upd G4 l5 (.lst (zAo ss)) l5 = some (.lst (zAo ss)):=zAc
  generalize upd G4 l5 (.lst (zAo ss)) = G5 at s5 e5 ⊢
  refine ⟨_,rfl,_,rfl,t,pp,rfl,hp.same s5,fun t' D' G6 s6 hp' _=>?_⟩
  have s26:=(s24.trans s5).trans s6
  refine ⟨l5,d1,t',ss,(gx,gy,0),cpy D' pp,rfl,SqL.of (s6 _ _ e5),ok.same (s2.trans s26),by omega,SqT.of (s26 _ _ ed1),gz,Nat.le_trans bx2 (by decide),Nat.le_trans by2 (by decide),hp',(szp.mono (by decide) (by decide) (by decide)).cpy,fun b G7 s7 hb=>?_⟩
  refine ⟨_,_,rfl,DR.bl (hb.mpr (zN8.mpr gd)),fun G8 s8=>?_⟩
  refine ⟨_,rfl,?_⟩
  refine iteF ?_
  have s28:=(s26.trans s7).trans s8
  have hp8:=(((hp.same s5).same s6).same s7).same s8
  clear hp hp' hb s5 s6 s7 s8 e5 hl5 gd s24 s26
  have sq8:Sq K G8 r (rows.map V.int):=.inl (SqL.of (s28 _ _ (s2 _ _ er)))
  refine ⟨_,rfl,r,_,_,_,rfl,rfl,sq8,a1,_,_,rfl,rfl,(by show (0:Int) < 4; decide),rfl,_,rfl,?_⟩
  refine ifE (fun _=>?_) (fun _=>?_)
  rotate_left
  ·exact main t pp G8 ⟨s28,hp8,szp⟩
  refine ⟨_,rfl,l,_,rfl,.inl (SqL.of (s28 _ _ el2)),fun l9 hl9=>?_⟩
  have s9:Same G8 (upd G8 l9 (.lst (zAo ss))):=zAd hl9 _
  have e9:upd G8 l9 (.lst (zAo ss)) l9 = some (.lst (zAo ss)):=zAc
  generalize upd G8 l9 (.lst (zAo ss)) = G9 at s9 e9 ⊢
  have sq9:=sq8.same s9
  refine ⟨_,rfl,r,_,_,_,rfl,rfl,sq9,a42,_,rfl,r,_,_,_,rfl,rfl,sq9,a43,v42,v43,5,rfl,by decide,by decide,fun d2 hx hy G10 s10 _ ed2 hz cx cy=>?_⟩
  have s210:=(s28.trans s9).trans s10
  have cx:hx.natAbs≤5:=cx
  have cy:hy.natAbs≤5:=cy
  exact ⟨l9,d2,ss,(hx,hy,0),rfl,SqL.of (s10 _ _ e9),ok.same (s2.trans s210),by omega,.inr (SqT.of ed2),hz,Nat.le_trans cx (by decide),Nat.le_trans cy (by decide),fun t2 pp2 G11 s11 hp2 _ sz2=>main t2 pp2 G11 ⟨s210.trans s11,hp2,sz2⟩⟩
 apply zUl (ok:=fun t pp G=>Same G2 G∧PpAt G t pp∧PpSz 3 (10 ^ 20) (10 ^ 40) pp)
 ·rintro main t pp G ⟨sG,hp,szp⟩
  have sq8:Sq K G r (rows.map V.int):=.inl (SqL.of (sG _ _ (s2 _ _ er)))
  have elG:=sG _ _ (s2 _ _ el)
  refine ⟨_,rfl,r,_,_,_,rfl,rfl,sq8,a1,_,_,rfl,rfl,(by show (0:Int) < 4; decide),rfl,_,rfl,?_⟩
  refine ifE (fun _=>?_) (fun _=>?_)
  rotate_left
  ·refine iteF ?_
   exact main t pp G ⟨sG,hp,szp⟩
  refine ⟨_,rfl,(by show 0≤sizeLine; decide),fun z hz=>?_⟩
  have sz:Same G (upd G z (.lst [])):=zAd hz _
  have ez:upd G z (.lst []) z = some (.lst []):=zAc
  generalize upd G z (.lst []) = Gz at sz ez ⊢
  have sGz:=sG.trans sz
  refine ⟨l,z,ss.map (·.1),rfl,rfl,SqL.of (sz _ _ elG),SqL.of ez,_,rfl,?_⟩
  cases hb:(!(ss.map (·.1)).isEmpty) with
  | false =>
   refine iteF ?_
   exact main t pp Gz ⟨sGz,hp.same sz,szp⟩
  | true =>
   refine iteT ?_
   obtain ⟨qs,cq,mq,nq⟩:=zU3 ss none (some (-1))
   refine ⟨_,rfl,_,rfl,_,rfl,l,_,rfl,SqL.of (sz _ _ elG),fun f1 hf1=>?_⟩
   rw [cq]
   have sf1:=zAd hf1 (.lst (zAo qs))
   have sA:=sGz.trans sf1
   exact ⟨_,rfl,f1,d1,qs,(gx,gy,0),rfl,SqL.of zAc,fun t ht=>(ok.same (s2.trans sA)) t (mq t ht),by omega,.inr (SqT.of (sA _ _ ed1)),gz,Nat.le_trans bx2 (by decide),Nat.le_trans by2 (by decide),fun t2 pp2 G11 s11 hp2 _ sz2=>main t2 pp2 G11 ⟨sA.trans s11,hp2,sz2⟩⟩
 apply zUl (ok:=fun t pp G=>Same G2 G∧PpAt G t pp∧PpSz 3 (10 ^ 20) (10 ^ 40) pp)
 ·rintro main t pp G ⟨sG,hp,szp⟩
  have sq8:Sq K G r (rows.map V.int):=.inl (SqL.of (sG _ _ (s2 _ _ er)))
  refine ⟨_,rfl,r,_,_,_,rfl,rfl,sq8,a1,_,_,rfl,rfl,zEr.of (by decide) (by decide +kernel),_,_,rfl,rfl,(by show (0:Int) < 6; decide),rfl,_,rfl,?_⟩
  refine ifE (fun _=>?_) (fun _=>?_)
  rotate_left
  ·exact main t pp G ⟨sG,hp,szp⟩
  refine ⟨_,rfl,r,_,_,_,rfl,rfl,sq8,a60,_,rfl,r,_,_,_,rfl,rfl,sq8,a61,v60,v61,3,rfl,by decide,by decide,fun d2 hx hy G10 s10 _ ed2 _ _ _=>⟨(by show 2≤sizeLine; decide),fun u hu=>?_⟩⟩
  have su:=zAd hu (.tup [.str "open", .ref d2])
  exact main u (.op d2 hx hy) _ ⟨(sG.trans s10).trans su,⟨zAc,su _ _ ed2⟩,trivial⟩
 rintro t pp G ⟨sG,hp,szp⟩
 have elG:=sG _ _ (s2 _ _ el)
 have erG:=sG _ _ (s2 _ _ er)
 have edG:=sG _ _ ed1
 have okG:=ok.same (s2.trans sG)
 clear sG
 have x0:=Int.emod_nonneg (v1 / 4) (show (3:Int)≠0 by decide)
 have x1:=Int.emod_lt_of_pos (v1 / 4) (show (0:Int) < 3 by decide)
 refine ⟨_,rfl,r,_,_,_,rfl,rfl,.inl (SqL.of erG),a1,_,_,rfl,rfl,zEr.of (by decide) (by decide +kernel),_,_,rfl,rfl,(by show (0:Int) < 3; decide),_,rfl,(by omega),(by omega),zEy (lo:=0) (n:=(v1 / 4 % 3).toNat) (fun i σ G'=>Same G G'∧∃ (t':Addr) (qq:Pp) (u5:Option V),PpAt G' t' qq∧PpSz (4 * 2 ^ i - 1) (10 ^ (20 + i)) (10 ^ (40 + i)) qq∧σ = [some (.ref ad),some (.ref r),some (.ref l),some (.ref d1),some (.ref t'),u5,none,none]) ⟨Same.refl _,t,pp,none,hp,szp,rfl⟩ ?_ ?_⟩
 ·rintro i σ G' hi ⟨sG',t',qq,u5,hq,szq,rfl⟩
  have i2:i < 2:=by omega
  have cm:CMul 5 (0 + (i:Int)):=.inl ⟨by decide,by decide⟩
  have ci:(44:Int) + 5 * (0 + (i:Int)) = ((44 + 5 * i:Nat):Int):=by omega
  refine ⟨_,rfl,_,rfl,_,_,rfl,rfl,cm,_,_,rfl,rfl,_,rfl,r,_,rfl,SqL.of (sG' _ _ erG),fun c5 hc5=>?_⟩
  rw [ci,cutD (44 + 5 * i) (by omega)]
  have s5:=zAd hc5 (.lst ((rows.drop (44 + 5 * i)).map V.int))
  obtain ⟨b1,b2⟩:=zUu i2
  refine ⟨_,rfl,c5,t',rows.drop (44 + 5 * i),qq,_,_,_,rfl,SqL.of zAc,by rw [List.length_drop]; omega,fun x hx=>bd x (List.mem_of_mem_drop hx),hq.same s5,szq,b1.1,b1.2.1,b1.2.2,fun t2 q2 G6 s6 h2 sz2=>?_⟩
  rw [b2.1,b2.2.1,b2.2.2] at sz2
  exact ⟨(sG'.trans s5).trans s6,t2,q2,_,h2,sz2,rfl⟩
 ·rintro σ G' ⟨sG',t',qq,u5,hq,szq,rfl⟩
  have szq2:PpSz 900 (10 ^ 40) (10 ^ 60) qq:=by
   have i2:(v1 / 4 % 3).toNat≤2:=by omega
   match h:(v1 / 4 % 3).toNat,i2 with
   | 0,_=>rw [h] at szq; exact szq.mono (by decide) (by decide) (by decide)
   | 1,_=>rw [h] at szq; exact szq.mono (by decide) (by decide) (by decide)
   | 2,_=>rw [h] at szq; exact szq.mono (by decide) (by decide) (by decide)
  clear szq hp szp
  have el2:=sG' _ _ elG
  have ok2:=okG.same sG'
  have ed2:=sG' _ _ edG
  refine ⟨_,rfl,l,_,rfl,.inl (SqL.of el2),fun h1 hh1=>?_⟩
  have t1:Same G' (upd G' h1 (.lst (zAo ss))):=zAd hh1 _
  have e1:upd G' h1 (.lst (zAo ss)) h1 = some (.lst (zAo ss)):=zAc
  generalize upd G' h1 (.lst (zAo ss)) = K1 at t1 e1 ⊢
  refine ⟨_,rfl,t',qq,rfl,hq.same t1,fun t2 D2 K2 t2s h2 hnew=>?_⟩
  refine ⟨(by show 2≤sizeLine; decide),fun hd hhd=>?_⟩
  have t3:Same K2 (upd K2 hd (.tup [.ref h1,.ref t2])):=zAd hhd _
  have e3:upd K2 hd (.tup [.ref h1,.ref t2]) hd = some (.tup [.ref h1,.ref t2]):=zAc
  generalize upd K2 hd (.tup [.ref h1,.ref t2]) = K3 at t3 e3 ⊢
  have t23:=t2s.trans t3
  have t13:=t1.trans t23
  have n1:h1≠l:=fun e=>by rw [e,el2] at hh1; cases hh1
  refine ⟨_,rfl,hd,_,_,.ref h1,rfl,rfl,.inr (SqT.of e3),rfl,_,rfl,_,rfl,hd,_,_,.ref t2,rfl,rfl,.inr (SqT.of e3),rfl,h1,d1,t2,ss,(gx,gy,0),cpy D2 qq,rfl,SqL.of (t23 _ _ e1),ok2.same t13,by omega,SqT.of (t13 _ _ ed2),gz,Nat.le_trans bx2 (by decide),Nat.le_trans by2 (by decide),h2.same t3,(szq2.mono (by decide) (by decide) (by decide)).cpy,fun b K4 t4 hb=>?_⟩
  have t14:=t13.trans t4
  refine ⟨_,rfl,_,rfl,_,rfl,(by show 2≤sizeLine; decide),fun m hm=>?_⟩
  have t5:Same K4 (upd K4 m (.tup [.ref l,.ref t'])):=zAd hm _
  have e5:upd K4 m (.tup [.ref l,.ref t']) m = some (.tup [.ref l,.ref t']):=zAc
  generalize upd K4 m (.tup [.ref l,.ref t']) = K5 at t5 e5 ⊢
  have t15:=t14.trans t5
  have nm:hd≠m:=fun e=>by rw [← e,t4 _ _ e3] at hm; cases hm
  have t25:=t3.trans (t4.trans t5)
  have dp:Deep K K5 3 (.ref t2) (.ref t') true:=by
   rcases hnew with ⟨e,_⟩ | ⟨z1,z2⟩
   ·rw [e]
    exact .same _ _
   ·refine deepPp (h2.same t25) (hq.same t15) (fun e=>?_) (fun D hD e=>?_)
    ·obtain ⟨o,ho⟩:=pp_at (hq.same t1)
     rw [e,ho] at z2
     cases z2
    ·obtain ⟨o,ho⟩:=lst_at (hq.same t1) hD
     rw [e,ho] at z1
     cases z1
  refine ⟨hd,m,true,rfl,rfl,nm,Deep.tup (n:=7) (e:=fun _=>true) nm (SqT.of (t5 _ _ (t4 _ _ e3))) (SqT.of e5) (fun j j1 j2=>match j with
   | 0=>zK1 6 n1 (t25 _ _ (t2s _ _ e1)) (t15 _ _ el2)
   | 1=>zQh dp 4
   | n + 2=>absurd j1 (by simp only [List.length_cons,List.length_nil]; omega)),_,rfl,?_⟩
  refine iteT ?_
  refine ⟨_,rfl,_,rfl,_,rfl,_,rfl,l,d1,t',ss,(gx,gy,0),qq,rfl,t15 _ _ el2,ok2.same t15,by omega,.inr (SqT.of (t15 _ _ ed2)),Nat.le_trans bx2 (by decide),Nat.le_trans by2 (by decide),hq.same t15,szq2,fun b2 K6 t6 hb2=>?_⟩
  exact ⟨.bl b,.bl b2,rfl,DR.bl (Bool.eq_iff_iff.mpr ((hb.trans zN8).trans hb2.symm)),fun K7 _=>q _⟩
end
abbrev AtK (Pm:Params) (x:Str) (s:Stmt) (f:Addr) (oc:Value) (od:Option Addr) (sl:Array (Option Value)) (kV dc pm:Value) (an:Option Addr) (cd ct:Value):Prop :=
 PySem.W.nsIn (KK Pm) mainGlobals x = some (some (.ref f))∧List.lookup f KC = some ⟨oc,od,.func (PySem.W.fnOf x x (zEs s) (zEd s) (zAn s) .none kV dc pm an cd ct),sl⟩∧PySem.W.codeIn KC cd x = true∧PySem.W.keepIn KC (.ref f) = true
section
variable {Pm:Params} {x:Str} {s:Stmt} {f:Addr} {oc kV dc pm cd ct:Value} {od an:Option Addr} {sl:Array (Option Value)} {h:Heap} {mg:Str→Option Value}
theorem zBa (q:AtK Pm x s f oc od sl kV dc pm an cd ct):Fun K x x s f (PySem.W.fnOf x x (zEs s) (zEd s) (zAn s) .none kV dc pm an cd ct):=fun_mk (st:=s) (by rw [K_eq]; exact q.2.1) (by rw [K_eq]; exact q.2.2.1) (by rw [K_eq]; exact q.2.2.2)
theorem zA3 (P:Program) (w:World) (base:Heap) (X:PySem.W.Frag.In (KK Pm) h) (G:h.Ns mainGlobals mg) (q:AtK Pm x s f oc od sl kV dc pm an cd ct) {ps:List Str} {n:Nat} {sp:Sp} (o:FnOk P w K mg base CX0 n f (PySem.W.fnOf x x (zEs s) (zEd s) (zAn s) .none kV dc pm an cd ct) ps sp)
  (b:∀ (kV doc pm:Value) (an:Option Addr) (cdv ct:Value) (us:List Value),us.length = ps.length→bindArgs (PySem.W.fnOf x x (zEs s) (zEd s) (zAn s) .none kV doc pm an cdv ct) ⟨us,[]⟩ = pure (ps.zip us)):Has P w K mg base x n ps sp :=
 ⟨_,_,o,(zBa q).binds b,(zBa q).kp,PySem.W.mg_of X G q.1⟩
theorem K_in {Pm:Params} {h:Heap} (X:PySem.W.Frag.In (KK Pm) h):PySem.W.Frag.In K h:=by
 rw [K_eq]
 exact zUf (by kernel_rfl) X
end
theorem us1 {R:List Value→Prop} (h:∀ a,R [a]):∀ us:List Value,us.length = 1→R us
 | [a],_=>h a
theorem us2 {R:List Value→Prop} (h:∀ a b,R [a,b]):∀ us:List Value,us.length = 2→R us
 | [a,b],_=>h a b
theorem us3 {R:List Value→Prop} (h:∀ a b c,R [a,b,c]):∀ us:List Value,us.length = 3→R us
 | [a,b,c],_=>h a b c
theorem us4 {R:List Value→Prop} (h:∀ a b c d,R [a,b,c,d]):∀ us:List Value,us.length = 4→R us
 | [a,b,c,d],_=>h a b c d
theorem all_mk {l:PySem.W.OpenLaw} {w:World} {h:Heap} {mg:Str→Option Value} {fa:Addr} (X:PySem.W.Frag.In (KK w.params) h) (G:h.Ns mainGlobals mg) (hfa:mg "law" = some (.ref fa))
  {f1 f2 f3 f4 f5 f6 f7 f8 f9 f10 f11 f12 f13 f14 f15 f16 f17 f18 f19 f20 f21 f22 f23 f24 f25 f26 f27 f28 f29 f30 f31 f32 f33 f34 f35 f36 f37 f38 f39 f40 f41 f42 f43 f44 f45 f46 f47 f48 f49 f50 f51 f52 f53 f54 f55 f56 f57 f58 f59 f60 f61 f62 f63 f64 f65 f66:Addr}
  {oc1 kV1 dc1 pm1 cd1 ct1 oc2 kV2 dc2 pm2 cd2 ct2 oc3 kV3 dc3 pm3 cd3 ct3 oc4 kV4 dc4 pm4 cd4 ct4 oc5 kV5 dc5 pm5 cd5 ct5 oc6 kV6 dc6 pm6 cd6 ct6 oc7 kV7 dc7 pm7 cd7 ct7 oc8 kV8 dc8 pm8 cd8 ct8 oc9 kV9 dc9 pm9 cd9 ct9 oc10 kV10 dc10 pm10 cd10 ct10 oc11 kV11 dc11 pm11 cd11 ct11 oc12 kV12 dc12 pm12 cd12 ct12 oc13 kV13 dc13 pm13 cd13 ct13 oc14 kV14 dc14 pm14 cd14 ct14 oc15 kV15 dc15 pm15 cd15 ct15 oc16 kV16 dc16 pm16 cd16 ct16 oc17 kV17 dc17 pm17 cd17 ct17 oc18 kV18 dc18 pm18 cd18 ct18 oc19 kV19 dc19 pm19 cd19 ct19 oc20 kV20 dc20 pm20 cd20 ct20 oc21 kV21 dc21 pm21 cd21 ct21 oc22 kV22 dc22 pm22 cd22 ct22 oc23 kV23 dc23 pm23 cd23 ct23 oc24 kV24 dc24 pm24 cd24 ct24 oc25 kV25 dc25 pm25 cd25 ct25 oc26 kV26 dc26 pm26 cd26 ct26 oc27 kV27 dc27 pm27 cd27 ct27 oc28 kV28 dc28 pm28 cd28 ct28 oc29 kV29 dc29 pm29 cd29 ct29 oc30 kV30 dc30 pm30 cd30 ct30 oc31 kV31 dc31 pm31 cd31 ct31 oc32 kV32 dc32 pm32 cd32 ct32 oc33 kV33 dc33 pm33 cd33 ct33 oc34 kV34 dc34 pm34 cd34 ct34 oc35 kV35 dc35 pm35 cd35 ct35 oc36 kV36 dc36 pm36 cd36 ct36 oc37 kV37 dc37 pm37 cd37 ct37 oc38 kV38 dc38 pm38 cd38 ct38 oc39 kV39 dc39 pm39 cd39 ct39 oc40 kV40 dc40 pm40 cd40 ct40 oc41 kV41 dc41 pm41 cd41 ct41 oc42 kV42 dc42 pm42 cd42 ct42 oc43 kV43 dc43 pm43 cd43 ct43 oc44 kV44 dc44 pm44 cd44 ct44 oc45 kV45 dc45 pm45 cd45 ct45 oc46 kV46 dc46 pm46 cd46 ct46 oc47 kV47 dc47 pm47 cd47 ct47 oc48 kV48 dc48 pm48 cd48 ct48 oc49 kV49 dc49 pm49 cd49 ct49 oc50 kV50 dc50 pm50 cd50 ct50 oc51 kV51 dc51 pm51 cd51 ct51 oc52 kV52 dc52 pm52 cd52 ct52 oc53 kV53 dc53 pm53 cd53 ct53 oc54 kV54 dc54 pm54 cd54 ct54 oc55 kV55 dc55 pm55 cd55 ct55 oc56 kV56 dc56 pm56 cd56 ct56 oc57 kV57 dc57 pm57 cd57 ct57 oc58 kV58 dc58 pm58 cd58 ct58 oc59 kV59 dc59 pm59 cd59 ct59 oc60 kV60 dc60 pm60 cd60 ct60 oc61 kV61 dc61 pm61 cd61 ct61 oc62 kV62 dc62 pm62 cd62 ct62 oc63 kV63 dc63 pm63 cd63 ct63 oc64 kV64 dc64 pm64 cd64 ct64 oc65 kV65 dc65 pm65 cd65 ct65 oc66 kV66 dc66 pm66 cd66 ct66:Value}
  {od1 an1 od2 an2 od3 an3 od4 an4 od5 an5 od6 an6 od7 an7 od8 an8 od9 an9 od10 an10 od11 an11 od12 an12 od13 an13 od14 an14 od15 an15 od16 an16 od17 an17 od18 an18 od19 an19 od20 an20 od21 an21 od22 an22 od23 an23 od24 an24 od25 an25 od26 an26 od27 an27 od28 an28 od29 an29 od30 an30 od31 an31 od32 an32 od33 an33 od34 an34 od35 an35 od36 an36 od37 an37 od38 an38 od39 an39 od40 an40 od41 an41 od42 an42 od43 an43 od44 an44 od45 an45 od46 an46 od47 an47 od48 an48 od49 an49 od50 an50 od51 an51 od52 an52 od53 an53 od54 an54 od55 an55 od56 an56 od57 an57 od58 an58 od59 an59 od60 an60 od61 an61 od62 an62 od63 an63 od64 an64 od65 an65 od66 an66:Option Addr}
  {sl1 sl2 sl3 sl4 sl5 sl6 sl7 sl8 sl9 sl10 sl11 sl12 sl13 sl14 sl15 sl16 sl17 sl18 sl19 sl20 sl21 sl22 sl23 sl24 sl25 sl26 sl27 sl28 sl29 sl30 sl31 sl32 sl33 sl34 sl35 sl36 sl37 sl38 sl39 sl40 sl41 sl42 sl43 sl44 sl45 sl46 sl47 sl48 sl49 sl50 sl51 sl52 sl53 sl54 sl55 sl56 sl57 sl58 sl59 sl60 sl61 sl62 sl63 sl64 sl65 sl66:Array (Option Value)}
  (q1:AtK w.params "common_factor" zCm f1 oc1 od1 sl1 kV1 dc1 pm1 an1 cd1 ct1)
  (q2:AtK w.params "lowest" zGb f2 oc2 od2 sl2 kV2 dc2 pm2 an2 cd2 ct2)
  (q3:AtK w.params "upright" zE8 f3 oc3 od3 sl3 kV3 dc3 pm3 an3 cd3 ct3)
  (q4:AtK w.params "part" zIx f4 oc4 od4 sl4 kV4 dc4 pm4 an4 cd4 ct4)
  (q5:AtK w.params "plus" zIo f5 oc5 od5 sl5 kV5 dc5 pm5 an5 cd5 ct5)
  (q6:AtK w.params "times" zHr f6 oc6 od6 sl6 kV6 dc6 pm6 an6 cd6 ct6)
  (q7:AtK w.params "below" zHt f7 oc7 od7 sl7 kV7 dc7 pm7 an7 cd7 ct7)
  (q8:AtK w.params "spot" zIh f8 oc8 od8 sl8 kV8 dc8 pm8 an8 cd8 ct8)
  (q9:AtK w.params "turn" zIk f9 oc9 od9 sl9 kV9 dc9 pm9 an9 cd9 ct9)
  (q10:AtK w.params "along" zHs f10 oc10 od10 sl10 kV10 dc10 pm10 an10 cd10 ct10)
  (q11:AtK w.params "plain" zHn f11 oc11 od11 sl11 kV11 dc11 pm11 an11 cd11 ct11)
  (q12:AtK w.params "beyond" zGj f12 oc12 od12 sl12 kV12 dc12 pm12 an12 cd12 ct12)
  (q13:AtK w.params "holds" zHd f13 oc13 od13 sl13 kV13 dc13 pm13 an13 cd13 ct13)
  (q14:AtK w.params "crossing" zEo f14 oc14 od14 sl14 kV14 dc14 pm14 an14 cd14 ct14)
  (q15:AtK w.params "in_water" zEj f15 oc15 od15 sl15 kV15 dc15 pm15 an15 cd15 ct15)
  (q16:AtK w.params "foot" zIr f16 oc16 od16 sl16 kV16 dc16 pm16 an16 cd16 ct16)
  (q17:AtK w.params "edge_end" zEq f17 oc17 od17 sl17 kV17 dc17 pm17 an17 cd17 ct17)
  (q18:AtK w.params "edge_ends" zD0 f18 oc18 od18 sl18 kV18 dc18 pm18 an18 cd18 ct18)
  (q19:AtK w.params "spot_on_edge" zCz f19 oc19 od19 sl19 kV19 dc19 pm19 an19 cd19 ct19)
  (q20:AtK w.params "sought" zGa f20 oc20 od20 sl20 kV20 dc20 pm20 an20 cd20 ct20)
  (q21:AtK w.params "some_spot" zDw f21 oc21 od21 sl21 kV21 dc21 pm21 an21 cd21 ct21)
  (q22:AtK w.params "is_way" zGc f22 oc22 od22 sl22 kV22 dc22 pm22 an22 cd22 ct22)
  (q23:AtK w.params "ways" zIi f23 oc23 od23 sl23 kV23 dc23 pm23 an23 cd23 ct23)
  (q24:AtK w.params "span" zIg f24 oc24 od24 sl24 kV24 dc24 pm24 an24 cd24 ct24)
  (q25:AtK w.params "weighed" zE9 f25 oc25 od25 sl25 kV25 dc25 pm25 an25 cd25 ct25)
  (q26:AtK w.params "clash_of_three" zCh f26 oc26 od26 sl26 kV26 dc26 pm26 an26 cd26 ct26)
  (q27:AtK w.params "clash" zG8 f27 oc27 od27 sl27 kV27 dc27 pm27 an27 cd27 ct27)
  (q28:AtK w.params "way_onward" zDj f28 oc28 od28 sl28 kV28 dc28 pm28 an28 cd28 ct28)
  (q29:AtK w.params "far_by_one" zDo f29 oc29 od29 sl29 kV29 dc29 pm29 an29 cd29 ct29)
  (q30:AtK w.params "weights_of_two" zCc f30 oc30 od30 sl30 kV30 dc30 pm30 an30 cd30 ct30)
  (q31:AtK w.params "far_by_two" zDr f31 oc31 od31 sl31 kV31 dc31 pm31 an31 cd31 ct31)
  (q32:AtK w.params "reach" zHl f32 oc32 od32 sl32 kV32 dc32 pm32 an32 cd32 ct32)
  (q33:AtK w.params "are_weights" zDa f33 oc33 od33 sl33 kV33 dc33 pm33 an33 cd33 ct33)
  (q34:AtK w.params "sum_at" zGh f34 oc34 od34 sl34 kV34 dc34 pm34 an34 cd34 ct34)
  (q35:AtK w.params "makes" zHj f35 oc35 od35 sl35 kV35 dc35 pm35 an35 cd35 ct35)
  (q36:AtK w.params "shown" zHi f36 oc36 od36 sl36 kV36 dc36 pm36 an36 cd36 ct36)
  (q37:AtK w.params "good_clash" zDl f37 oc37 od37 sl37 kV37 dc37 pm37 an37 cd37 ct37)
  (q38:AtK w.params "good_place" zDn f38 oc38 od38 sl38 kV38 dc38 pm38 an38 cd38 ct38)
  (q39:AtK w.params "good_open" zD6 f39 oc39 od39 sl39 kV39 dc39 pm39 an39 cd39 ct39)
  (q40:AtK w.params "good_far" zEp f40 oc40 od40 sl40 kV40 dc40 pm40 an40 cd40 ct40)
  (q41:AtK w.params "good_reach" zDk f41 oc41 od41 sl41 kV41 dc41 pm41 an41 cd41 ct41)
  (q42:AtK w.params "_law_bent_weights" zC0 f42 oc42 od42 sl42 kV42 dc42 pm42 an42 cd42 ct42)
  (q43:AtK w.params "_law_bent_spot" zDz f43 oc43 od43 sl43 kV43 dc43 pm43 an43 cd43 ct43)
  (q44:AtK w.params "_law_power" zHp f44 oc44 od44 sl44 kV44 dc44 pm44 an44 cd44 ct44)
  (q45:AtK w.params "_law_draws" zG4 f45 oc45 od45 sl45 kV45 dc45 pm45 an45 cd45 ct45)
  (q46:AtK w.params "_law_tight" zHo f46 oc46 od46 sl46 kV46 dc46 pm46 an46 cd46 ct46)
  (q47:AtK w.params "_law_way" zKz f47 oc47 od47 sl47 kV47 dc47 pm47 an47 cd47 ct47)
  (q48:AtK w.params "_law_side" zIq f48 oc48 od48 sl48 kV48 dc48 pm48 an48 cd48 ct48)
  (q49:AtK w.params "_law_sides" zHu f49 oc49 od49 sl49 kV49 dc49 pm49 an49 cd49 ct49)
  (q50:AtK w.params "_law_same" zG2 f50 oc50 od50 sl50 kV50 dc50 pm50 an50 cd50 ct50)
  (q51:AtK w.params "_law_copied" zGi f51 oc51 od51 sl51 kV51 dc51 pm51 an51 cd51 ct51)
  (q52:AtK w.params "_law_whole" zG9 f52 oc52 od52 sl52 kV52 dc52 pm52 an52 cd52 ct52)
  (q53:AtK w.params "_law_numbers" zFg f53 oc53 od53 sl53 kV53 dc53 pm53 an53 cd53 ct53)
  (q54:AtK w.params "_law_is_clash" zEl f54 oc54 od54 sl54 kV54 dc54 pm54 an54 cd54 ct54)
  (q55:AtK w.params "_law_low" zLh f55 oc55 od55 sl55 kV55 dc55 pm55 an55 cd55 ct55)
  (q56:AtK w.params "_law_spot_of" zFf f56 oc56 od56 sl56 kV56 dc56 pm56 an56 cd56 ct56)
  (q57:AtK w.params "_law_meet" zIl f57 oc57 od57 sl57 kV57 dc57 pm57 an57 cd57 ct57)
  (q58:AtK w.params "_law_has" zLi f58 oc58 od58 sl58 kV58 dc58 pm58 an58 cd58 ct58)
  (q59:AtK w.params "_law_corners_of" zDm f59 oc59 od59 sl59 kV59 dc59 pm59 an59 cd59 ct59)
  (q60:AtK w.params "_law_feet" zIj f60 oc60 od60 sl60 kV60 dc60 pm60 an60 cd60 ct60)
  (q61:AtK w.params "_law_any_place" zD1 f61 oc61 od61 sl61 kV61 dc61 pm61 an61 cd61 ct61)
  (q62:AtK w.params "_law_summed" zGe f62 oc62 od62 sl62 kV62 dc62 pm62 an62 cd62 ct62)
  (q63:AtK w.params "_law_bound" zHf f63 oc63 od63 sl63 kV63 dc63 pm63 an63 cd63 ct63)
  (q64:AtK w.params "_law_good_paper" zDp f64 oc64 od64 sl64 kV64 dc64 pm64 an64 cd64 ct64)
  (q65:AtK w.params "_law_bent" zI0 f65 oc65 od65 sl65 kV65 dc65 pm65 an65 cd65 ct65)
  (q66:AtK w.params "law" zNk f66 oc66 od66 sl66 kV66 dc66 pm66 an66 cd66 ct66)
  (z_abs:PySem.W.nsIn (KK w.params) mainGlobals "abs" = some none)
  (z_all:PySem.W.nsIn (KK w.params) mainGlobals "all" = some none)
  (z_bool:PySem.W.nsIn (KK w.params) mainGlobals "bool" = some none)
  (z_enumerate:PySem.W.nsIn (KK w.params) mainGlobals "enumerate" = some none)
  (z_int:PySem.W.nsIn (KK w.params) mainGlobals "int" = some none)
  (z_isinstance:PySem.W.nsIn (KK w.params) mainGlobals "isinstance" = some none)
  (z_len:PySem.W.nsIn (KK w.params) mainGlobals "len" = some none)
  (z_list:PySem.W.nsIn (KK w.params) mainGlobals "list" = some none)
  (z_min:PySem.W.nsIn (KK w.params) mainGlobals "min" = some none)
  (z_range:PySem.W.nsIn (KK w.params) mainGlobals "range" = some none)
  (z_sorted:PySem.W.nsIn (KK w.params) mainGlobals "sorted" = some none)
  (z_str:PySem.W.nsIn (KK w.params) mainGlobals "str" = some none)
  (z_tuple:PySem.W.nsIn (KK w.params) mainGlobals "tuple" = some none)
  (z_zip:PySem.W.nsIn (KK w.params) mainGlobals "zip" = some none) :
  ∃ fd:FuncData,(∀ (s:Shared) (v:Value),BindsTo s fd ⟨[v],[]⟩ [("_law_script", v)])∧∀ base:Heap,PySem.W.Frag.In K base→base.Ns mainGlobals mg→FnOk l.prog w K mg base CX0 12 fa fd ["_law_script"] (sp_law K):=by
 have e:=hfa.symm.trans (PySem.W.mg_of X G q66.1)
 cases e
 have Z:Zs mg:=⟨PySem.W.mg_none_of X G z_abs,PySem.W.mg_none_of X G z_all,PySem.W.mg_none_of X G z_bool,PySem.W.mg_none_of X G z_enumerate,PySem.W.mg_none_of X G z_int,PySem.W.mg_none_of X G z_isinstance,PySem.W.mg_none_of X G z_len,PySem.W.mg_none_of X G z_list,PySem.W.mg_none_of X G z_min,PySem.W.mg_none_of X G z_range,PySem.W.mg_none_of X G z_sorted,PySem.W.mg_none_of X G z_str,PySem.W.mg_none_of X G z_tuple,PySem.W.mg_none_of X G z_zip⟩
 refine ⟨PySem.W.fnOf "law" "law" (zEs zNk) (zEd zNk) (zAn zNk) .none kV66 dc66 pm66 an66 cd66 ct66,fun s v=>.of_eq rfl,fun base _ _=>?_⟩
 have h_p_common_factor:=zA3 l.prog w base X G q1 (zHb (zBa q1) Z ) (fun _ _ _ _ _ _=>us1 fun _=>rfl)
 have h_p_lowest:=zA3 l.prog w base X G q2 (zNs (zBa q2) Z h_p_common_factor) (fun _ _ _ _ _ _=>us1 fun _=>rfl)
 have h_p_upright:=zA3 l.prog w base X G q3 (zMd (zBa q3) Z h_p_lowest) (fun _ _ _ _ _ _=>us1 fun _=>rfl)
 have h_p_part:=zA3 l.prog w base X G q4 (zSl (zBa q4) Z h_p_upright) (fun _ _ _ _ _ _=>us2 fun _ _=>rfl)
 have h_p_plus:=zA3 l.prog w base X G q5 (zR5 (zBa q5) Z h_p_part) (fun _ _ _ _ _ _=>us2 fun _ _=>rfl)
 have h_p_times:=zA3 l.prog w base X G q6 (zOv (zBa q6) Z h_p_part) (fun _ _ _ _ _ _=>us2 fun _ _=>rfl)
 have h_p_below:=zA3 l.prog w base X G q7 (zO3 (zBa q7) Z ) (fun _ _ _ _ _ _=>us2 fun _ _=>rfl)
 have h_p_spot:=zA3 l.prog w base X G q8 (zSf (zBa q8) Z h_p_upright) (fun _ _ _ _ _ _=>us3 fun _ _ _=>rfl)
 have h_p_turn:=zA3 l.prog w base X G q9 (zSc (zBa q9) Z ) (fun _ _ _ _ _ _=>us2 fun _ _=>rfl)
 have h_p_along:=zA3 l.prog w base X G q10 (zP1 (zBa q10) Z ) (fun _ _ _ _ _ _=>us2 fun _ _=>rfl)
 have h_p_plain:=zA3 l.prog w base X G q11 (zPi (zBa q11) Z h_p_lowest) (fun _ _ _ _ _ _=>us1 fun _=>rfl)
 have h_p_beyond:=zA3 l.prog w base X G q12 (zN0 (zBa q12) Z ) (fun _ _ _ _ _ _=>us2 fun _ _=>rfl)
 have h_p_holds:=zA3 l.prog w base X G q13 (zO1 (zBa q13) Z h_p_beyond) (fun _ _ _ _ _ _=>us2 fun _ _=>rfl)
 have h_p_crossing:=zA3 l.prog w base X G q14 (zLf (zBa q14) Z h_p_upright h_p_turn) (fun _ _ _ _ _ _=>us2 fun _ _=>rfl)
 have h_p_in_water:=zA3 l.prog w base X G q15 (zLd (zBa q15) Z h_p_holds) (fun _ _ _ _ _ _=>us2 fun _ _=>rfl)
 have h_p_foot:=zA3 l.prog w base X G q16 (zQ9 (zBa q16) Z h_p_spot h_p_along) (fun _ _ _ _ _ _=>us1 fun _=>rfl)
 have h_p_edge_end:=zA3 l.prog w base X G q17 (zK6 (zBa q17) Z h_p_turn h_p_holds h_p_crossing) (fun _ _ _ _ _ _=>us3 fun _ _ _=>rfl)
 have h_p_edge_ends:=zA3 l.prog w base X G q18 (zJ3 (zBa q18) Z h_p_crossing h_p_edge_end) (fun _ _ _ _ _ _=>us2 fun _ _=>rfl)
 have h_p_spot_on_edge:=zA3 l.prog w base X G q19 (zH5 (zBa q19) Z h_p_edge_ends h_p_foot h_p_in_water) (fun _ _ _ _ _ _=>us2 fun _ _=>rfl)
 have h_p_sought:=zA3 l.prog w base X G q20 (zNz (zBa q20) Z h_p_holds h_p_spot_on_edge h_p_spot) (fun _ _ _ _ _ _=>us1 fun _=>rfl)
 have h_p_some_spot:=zA3 l.prog w base X G q21 (zJ5 (zBa q21) Z h_p_sought) (fun _ _ _ _ _ _=>us1 fun _=>rfl)
 have h_p_is_way:=zA3 l.prog w base X G q22 (zN4 (zBa q22) Z h_p_along) (fun _ _ _ _ _ _=>us2 fun _ _=>rfl)
 have h_p_ways:=zA3 l.prog w base X G q23 (zRs (zBa q23) Z h_p_is_way h_p_plain) (fun _ _ _ _ _ _=>us1 fun _=>rfl)
 have h_p_span:=zA3 l.prog w base X G q24 (zQg (zBa q24) Z ) (fun _ _ _ _ _ _=>us1 fun _=>rfl)
 have h_p_weighed:=zA3 l.prog w base X G q25 (zLy (zBa q25) Z h_p_lowest) (fun _ _ _ _ _ _=>us2 fun _ _=>rfl)
 have h_p_clash_of_three:=zA3 l.prog w base X G q26 (zGu (zBa q26) Z h_p_weighed h_p_turn h_p_edge_end) (fun _ _ _ _ _ _=>us2 fun _ _=>rfl)
 have h_p_clash:=zA3 l.prog w base X G q27 (zPh (zBa q27) Z h_p_clash_of_three h_p_turn h_p_holds h_p_foot h_p_weighed h_p_span h_p_sought) (fun _ _ _ _ _ _=>us1 fun _=>rfl)
 have h_p_way_onward:=zA3 l.prog w base X G q28 (zJx (zBa q28) Z h_p_ways h_p_plain h_p_along h_p_is_way) (fun _ _ _ _ _ _=>us2 fun _ _=>rfl)
 have h_p_far_by_one:=zA3 l.prog w base X G q29 (zI1 (zBa q29) Z h_p_turn h_p_along h_p_part h_p_span h_p_spot_on_edge) (fun _ _ _ _ _ _=>us2 fun _ _=>rfl)
 have h_p_weights_of_two:=zA3 l.prog w base X G q30 (zGy (zBa q30) Z h_p_part h_p_turn) (fun _ _ _ _ _ _=>us3 fun _ _ _=>rfl)
 have h_p_far_by_two:=zA3 l.prog w base X G q31 (zI3 (zBa q31) Z h_p_turn h_p_in_water h_p_weights_of_two h_p_crossing h_p_edge_end) (fun _ _ _ _ _ _=>us2 fun _ _=>rfl)
 have h_p_reach:=zA3 l.prog w base X G q32 (zPq (zBa q32) Z h_p_far_by_one h_p_far_by_two h_p_way_onward h_p_clash) (fun _ _ _ _ _ _=>us2 fun _ _=>rfl)
 have h_p_are_weights:=zA3 l.prog w base X G q33 (zIf (zBa q33) Z ) (fun _ _ _ _ _ _=>us2 fun _ _=>rfl)
 have h_p_sum_at:=zA3 l.prog w base X G q34 (zNp (zBa q34) Z h_p_plus h_p_times h_p_part) (fun _ _ _ _ _ _=>us3 fun _ _ _=>rfl)
 have h_p_makes:=zA3 l.prog w base X G q35 (zO6 (zBa q35) Z h_p_sum_at h_p_part) (fun _ _ _ _ _ _=>us3 fun _ _ _=>rfl)
 have h_p_shown:=zA3 l.prog w base X G q36 (zPv (zBa q36) Z h_p_sum_at h_p_makes h_p_are_weights) (fun _ _ _ _ _ _=>us3 fun _ _ _=>rfl)
 have h_p_good_clash:=zA3 l.prog w base X G q37 (zJk (zBa q37) Z h_p_below h_p_part h_p_sum_at h_p_are_weights h_p_makes) (fun _ _ _ _ _ _=>us2 fun _ _=>rfl)
 have h_p_good_place:=zA3 l.prog w base X G q38 (zI2 (zBa q38) Z h_p_in_water) (fun _ _ _ _ _ _=>us2 fun _ _=>rfl)
 have h_p_good_open:=zA3 l.prog w base X G q39 (zJ7 (zBa q39) Z h_p_along h_p_is_way h_p_some_spot) (fun _ _ _ _ _ _=>us3 fun _ _ _=>rfl)
 have h_p_good_far:=zA3 l.prog w base X G q40 (zK3 (zBa q40) Z h_p_shown h_p_part h_p_along h_p_good_place) (fun _ _ _ _ _ _=>us4 fun _ _ _ _=>rfl)
 have h_p_good_reach:=zA3 l.prog w base X G q41 (zJd (zBa q41) Z h_p_good_far h_p_good_open h_p_good_clash) (fun _ _ _ _ _ _=>us3 fun _ _ _=>rfl)
 have h_L_bent_weights:=zA3 l.prog w base X G q42 (zH6 (zBa q42) Z ) (fun _ _ _ _ _ _=>us2 fun _ _=>rfl)
 have h_L_bent_spot:=zA3 l.prog w base X G q43 (zJ4 (zBa q43) Z ) (fun _ _ _ _ _ _=>us2 fun _ _=>rfl)
 have h_L_power:=zA3 l.prog w base X G q44 (zP4 (zBa q44) Z ) (fun _ _ _ _ _ _=>us1 fun _=>rfl)
 have h_L_draws:=zA3 l.prog w base X G q45 (zO7 (zBa q45) Z h_L_power) (fun _ _ _ _ _ _=>us2 fun _ _=>rfl)
 have h_L_tight:=zA3 l.prog w base X G q46 (zPa (zBa q46) Z ) (fun _ _ _ _ _ _=>us2 fun _ _=>rfl)
 have h_L_way:=zA3 l.prog w base X G q47 (zTa (zBa q47) Z ) (fun _ _ _ _ _ _=>us3 fun _ _ _=>rfl)
 have h_L_side:=zA3 l.prog w base X G q48 (zQf (zBa q48) Z h_L_way) (fun _ _ _ _ _ _=>us1 fun _=>rfl)
 have h_L_sides:=zA3 l.prog w base X G q49 (zPd (zBa q49) Z h_L_side) (fun _ _ _ _ _ _=>us2 fun _ _=>rfl)
 have h_L_same:=zA3 l.prog w base X G q50 (zSe (zBa q50) Z  ((zBa q50).binds (ps:=["_law_told", "_law_due"]) fun _ _ _ _ _ _=>us2 fun _ _=>rfl) (zBa q50).kp (PySem.W.mg_of X G q50.1)) (fun _ _ _ _ _ _=>us2 fun _ _=>rfl)
 have h_L_copied:=zA3 l.prog w base X G q51 (zNu (zBa q51) Z ) (fun _ _ _ _ _ _=>us1 fun _=>rfl)
 have h_L_whole:=zA3 l.prog w base X G q52 (zPe (zBa q52) Z ) (fun _ _ _ _ _ _=>us1 fun _=>rfl)
 have h_L_numbers:=zA3 l.prog w base X G q53 (zLt (zBa q53) Z h_L_whole) (fun _ _ _ _ _ _=>us2 fun _ _=>rfl)
 have h_L_is_clash:=zA3 l.prog w base X G q54 (zLk (zBa q54) Z h_L_numbers) (fun _ _ _ _ _ _=>us2 fun _ _=>rfl)
 have h_L_low:=zA3 l.prog w base X G q55 (zSw (zBa q55) Z ) (fun _ _ _ _ _ _=>us2 fun _ _=>rfl)
 have h_L_spot_of:=zA3 l.prog w base X G q56 (zLz (zBa q56) Z h_L_low) (fun _ _ _ _ _ _=>us3 fun _ _ _=>rfl)
 have h_L_meet:=zA3 l.prog w base X G q57 (zQw (zBa q57) Z h_L_spot_of) (fun _ _ _ _ _ _=>us2 fun _ _=>rfl)
 have h_L_has:=zA3 l.prog w base X G q58 (zTt (zBa q58) Z ) (fun _ _ _ _ _ _=>us2 fun _ _=>rfl)
 have h_L_corners_of:=zA3 l.prog w base X G q59 (zJw (zBa q59) Z h_L_has h_L_meet) (fun _ _ _ _ _ _=>us1 fun _=>rfl)
 have h_L_feet:=zA3 l.prog w base X G q60 (zQ7 (zBa q60) Z h_L_spot_of) (fun _ _ _ _ _ _=>us1 fun _=>rfl)
 have h_L_any_place:=zA3 l.prog w base X G q61 (zJ6 (zBa q61) Z h_L_corners_of h_L_feet h_L_has) (fun _ _ _ _ _ _=>us1 fun _=>rfl)
 have h_L_summed:=zA3 l.prog w base X G q62 (zNi (zBa q62) Z ) (fun _ _ _ _ _ _=>us3 fun _ _ _=>rfl)
 have h_L_bound:=zA3 l.prog w base X G q63 (zPp (zBa q63) Z h_L_summed h_L_whole h_L_numbers) (fun _ _ _ _ _ _=>us3 fun _ _ _=>rfl)
 have h_L_good_paper:=zA3 l.prog w base X G q64 (zI6 (zBa q64) Z h_L_has h_L_bound h_L_any_place h_L_is_clash) (fun _ _ _ _ _ _=>us3 fun _ _ _=>rfl)
 have h_L_bent:=zA3 l.prog w base X G q65 (zQs (zBa q65) Z h_L_bent_weights h_L_bent_spot) (fun _ _ _ _ _ _=>us2 fun _ _=>rfl)
 exact ok_law (zBa q66) Z h_L_same h_L_good_paper h_p_good_reach h_L_copied h_L_bent h_L_way h_p_reach h_L_tight h_L_sides h_L_draws
theorem walk {l:PySem.W.OpenLaw} {q:Program} {loose:List Str} {XP:(Str→Option Value)→Heap→Prop} {YP:World→Heap→Prop} {d:DefRec} (hn:l.most = some 63) (hdf:d.params.defaults = [])
  (hY:∀ (w:World) (h:Heap),YP w h→PySem.W.Frag.In (KK w.params) h)
  (F:∀ (w:World) (mg:Str→Option Value) (fa:Addr) (h:Heap),PySem.W.Frag.In (KK w.params) h→h.Ns mainGlobals mg→mg d.name = some (.ref fa) →
   ∃ fd:FuncData,(∀ (s:Shared) (u:Value),BindsTo s fd ⟨[u],[]⟩ [("_law_script", u)])∧∀ base:Heap,PySem.W.Frag.In K base→base.Ns mainGlobals mg→FnOk l.prog w K mg base CX0 12 fa fd ["_law_script"] (sp_law K)) :
  PySem.W.WalkO q loose XP YP l.row.toRowW d [] (fun f vs=>PySem.call f vs) :=
 L2.walk_of2 (n:=63) (k:=12) (x := "_law_script") (KK:=KK) (K:=K) (sp:=sp_law K) hn (by decide) hdf ⟨rfl,by decide,by decide⟩ hY (fun _ _ X=>K_in X) F (fun _ a ns hl hS=>⟨a,ns,rfl,hS,hl,fun _=>rfl⟩)

end Sea
open PySem PySem.W PyProof.Rows
set_option maxRecDepth 100000 in
set_option maxHeartbeats 0 in
theorem PySem.Challenge.cw_seamarks_k28_reaches_judged_holds : PySem.Challenge.rw_seamarks_k28_reaches_judged.Holds := by
 w_on
 refine holds_law Sea.said_ok fun said=>?_
 refine holds_open (q:=Sea.qv) (loose:=[]) (XP:=XL Sea.qv []) (YP:=InK Sea.KK) Sea.left_ok (InK.of Sea.kas_ok)
  InK.keeps (fun s e=>xl_of s (Bool.and_eq_true_iff.mp e).1) XL.keeps (by rfl) (by rfl) (by rfl)
  (fun s e=>recFacts_of (Bool.and_eq_true_iff.mp e).2) (by rfl) (by assumption) (by decide +kernel)
  ⟨rfl,rfl,rfl,rfl,rfl,by decide +kernel⟩ ?hw ?hc
 case hw=>w_witness2
 k_fill
 refine Sea.walk (l:=PySem.Challenge.rw_seamarks_k28_reaches_judged) rfl rfl (fun w h Y=>Y) ?F
 case F =>
  intro w mg fa h KX G hmg
  refine' Sea.all_mk KX G hmg ?q1 ?q2 ?q3 ?q4 ?q5 ?q6 ?q7 ?q8 ?q9 ?q10 ?q11 ?q12 ?q13 ?q14 ?q15 ?q16 ?q17 ?q18 ?q19 ?q20 ?q21 ?q22 ?q23 ?q24 ?q25 ?q26 ?q27 ?q28 ?q29 ?q30 ?q31 ?q32 ?q33 ?q34 ?q35 ?q36 ?q37 ?q38 ?q39 ?q40 ?q41 ?q42 ?q43 ?q44 ?q45 ?q46 ?q47 ?q48 ?q49 ?q50 ?q51 ?q52 ?q53 ?q54 ?q55 ?q56 ?q57 ?q58 ?q59 ?q60 ?q61 ?q62 ?q63 ?q64 ?q65 ?q66 ?z_abs ?z_all ?z_bool ?z_enumerate ?z_int ?z_isinstance ?z_len ?z_list ?z_min ?z_range ?z_sorted ?z_str ?z_tuple ?z_zip
  (case q1=>refine' ⟨?_,?_,?_,?_⟩; k_is; exact rfl; kernel_rfl; kernel_rfl)
  (case q2=>refine' ⟨?_,?_,?_,?_⟩; k_is; exact rfl; kernel_rfl; kernel_rfl)
  (case q3=>refine' ⟨?_,?_,?_,?_⟩; k_is; exact rfl; kernel_rfl; kernel_rfl)
  (case q4=>refine' ⟨?_,?_,?_,?_⟩; k_is; exact rfl; kernel_rfl; kernel_rfl)
  (case q5=>refine' ⟨?_,?_,?_,?_⟩; k_is; exact rfl; kernel_rfl; kernel_rfl)
  (case q6=>refine' ⟨?_,?_,?_,?_⟩; k_is; exact rfl; kernel_rfl; kernel_rfl)
  (case q7=>refine' ⟨?_,?_,?_,?_⟩; k_is; exact rfl; kernel_rfl; kernel_rfl)
  (case q8=>refine' ⟨?_,?_,?_,?_⟩; k_is; exact rfl; kernel_rfl; kernel_rfl)
  (case q9=>refine' ⟨?_,?_,?_,?_⟩; k_is; exact rfl; kernel_rfl; kernel_rfl)
  (case q10=>refine' ⟨?_,?_,?_,?_⟩; k_is; exact rfl; kernel_rfl; kernel_rfl)
  (case q11=>refine' ⟨?_,?_,?_,?_⟩; k_is; exact rfl; kernel_rfl; kernel_rfl)
  (case q12=>refine' ⟨?_,?_,?_,?_⟩; k_is; exact rfl; kernel_rfl; kernel_rfl)
  (case q13=>refine' ⟨?_,?_,?_,?_⟩; k_is; exact rfl; kernel_rfl; kernel_rfl)
  (case q14=>refine' ⟨?_,?_,?_,?_⟩; k_is; exact rfl; kernel_rfl; kernel_rfl)
  (case q15=>refine' ⟨?_,?_,?_,?_⟩; k_is; exact rfl; kernel_rfl; kernel_rfl)
  (case q16=>refine' ⟨?_,?_,?_,?_⟩; k_is; exact rfl; kernel_rfl; kernel_rfl)
  (case q17=>refine' ⟨?_,?_,?_,?_⟩; k_is; exact rfl; kernel_rfl; kernel_rfl)
  (case q18=>refine' ⟨?_,?_,?_,?_⟩; k_is; exact rfl; kernel_rfl; kernel_rfl)
  (case q19=>refine' ⟨?_,?_,?_,?_⟩; k_is; exact rfl; kernel_rfl; kernel_rfl)
  (case q20=>refine' ⟨?_,?_,?_,?_⟩; k_is; exact rfl; kernel_rfl; kernel_rfl)
  (case q21=>refine' ⟨?_,?_,?_,?_⟩; k_is; exact rfl; kernel_rfl; kernel_rfl)
  (case q22=>refine' ⟨?_,?_,?_,?_⟩; k_is; exact rfl; kernel_rfl; kernel_rfl)
  (case q23=>refine' ⟨?_,?_,?_,?_⟩; k_is; exact rfl; kernel_rfl; kernel_rfl)
  (case q24=>refine' ⟨?_,?_,?_,?_⟩; k_is; exact rfl; kernel_rfl; kernel_rfl)
  (case q25=>refine' ⟨?_,?_,?_,?_⟩; k_is; exact rfl; kernel_rfl; kernel_rfl)
  (case q26=>refine' ⟨?_,?_,?_,?_⟩; k_is; exact rfl; kernel_rfl; kernel_rfl)
  (case q27=>refine' ⟨?_,?_,?_,?_⟩; k_is; exact rfl; kernel_rfl; kernel_rfl)
  (case q28=>refine' ⟨?_,?_,?_,?_⟩; k_is; exact rfl; kernel_rfl; kernel_rfl)
  (case q29=>refine' ⟨?_,?_,?_,?_⟩; k_is; exact rfl; kernel_rfl; kernel_rfl)
  (case q30=>refine' ⟨?_,?_,?_,?_⟩; k_is; exact rfl; kernel_rfl; kernel_rfl)
  (case q31=>refine' ⟨?_,?_,?_,?_⟩; k_is; exact rfl; kernel_rfl; kernel_rfl)
  (case q32=>refine' ⟨?_,?_,?_,?_⟩; k_is; exact rfl; kernel_rfl; kernel_rfl)
  (case q33=>refine' ⟨?_,?_,?_,?_⟩; k_is; exact rfl; kernel_rfl; kernel_rfl)
  (case q34=>refine' ⟨?_,?_,?_,?_⟩; k_is; exact rfl; kernel_rfl; kernel_rfl)
  (case q35=>refine' ⟨?_,?_,?_,?_⟩; k_is; exact rfl; kernel_rfl; kernel_rfl)
  (case q36=>refine' ⟨?_,?_,?_,?_⟩; k_is; exact rfl; kernel_rfl; kernel_rfl)
  (case q37=>refine' ⟨?_,?_,?_,?_⟩; k_is; exact rfl; kernel_rfl; kernel_rfl)
  (case q38=>refine' ⟨?_,?_,?_,?_⟩; k_is; exact rfl; kernel_rfl; kernel_rfl)
  (case q39=>refine' ⟨?_,?_,?_,?_⟩; k_is; exact rfl; kernel_rfl; kernel_rfl)
  (case q40=>refine' ⟨?_,?_,?_,?_⟩; k_is; exact rfl; kernel_rfl; kernel_rfl)
  (case q41=>refine' ⟨?_,?_,?_,?_⟩; k_is; exact rfl; kernel_rfl; kernel_rfl)
  (case q42=>refine' ⟨?_,?_,?_,?_⟩; k_is; exact rfl; kernel_rfl; kernel_rfl)
  (case q43=>refine' ⟨?_,?_,?_,?_⟩; k_is; exact rfl; kernel_rfl; kernel_rfl)
  (case q44=>refine' ⟨?_,?_,?_,?_⟩; k_is; exact rfl; kernel_rfl; kernel_rfl)
  (case q45=>refine' ⟨?_,?_,?_,?_⟩; k_is; exact rfl; kernel_rfl; kernel_rfl)
  (case q46=>refine' ⟨?_,?_,?_,?_⟩; k_is; exact rfl; kernel_rfl; kernel_rfl)
  (case q47=>refine' ⟨?_,?_,?_,?_⟩; k_is; exact rfl; kernel_rfl; kernel_rfl)
  (case q48=>refine' ⟨?_,?_,?_,?_⟩; k_is; exact rfl; kernel_rfl; kernel_rfl)
  (case q49=>refine' ⟨?_,?_,?_,?_⟩; k_is; exact rfl; kernel_rfl; kernel_rfl)
  (case q50=>refine' ⟨?_,?_,?_,?_⟩; k_is; exact rfl; kernel_rfl; kernel_rfl)
  (case q51=>refine' ⟨?_,?_,?_,?_⟩; k_is; exact rfl; kernel_rfl; kernel_rfl)
  (case q52=>refine' ⟨?_,?_,?_,?_⟩; k_is; exact rfl; kernel_rfl; kernel_rfl)
  (case q53=>refine' ⟨?_,?_,?_,?_⟩; k_is; exact rfl; kernel_rfl; kernel_rfl)
  (case q54=>refine' ⟨?_,?_,?_,?_⟩; k_is; exact rfl; kernel_rfl; kernel_rfl)
  (case q55=>refine' ⟨?_,?_,?_,?_⟩; k_is; exact rfl; kernel_rfl; kernel_rfl)
  (case q56=>refine' ⟨?_,?_,?_,?_⟩; k_is; exact rfl; kernel_rfl; kernel_rfl)
  (case q57=>refine' ⟨?_,?_,?_,?_⟩; k_is; exact rfl; kernel_rfl; kernel_rfl)
  (case q58=>refine' ⟨?_,?_,?_,?_⟩; k_is; exact rfl; kernel_rfl; kernel_rfl)
  (case q59=>refine' ⟨?_,?_,?_,?_⟩; k_is; exact rfl; kernel_rfl; kernel_rfl)
  (case q60=>refine' ⟨?_,?_,?_,?_⟩; k_is; exact rfl; kernel_rfl; kernel_rfl)
  (case q61=>refine' ⟨?_,?_,?_,?_⟩; k_is; exact rfl; kernel_rfl; kernel_rfl)
  (case q62=>refine' ⟨?_,?_,?_,?_⟩; k_is; exact rfl; kernel_rfl; kernel_rfl)
  (case q63=>refine' ⟨?_,?_,?_,?_⟩; k_is; exact rfl; kernel_rfl; kernel_rfl)
  (case q64=>refine' ⟨?_,?_,?_,?_⟩; k_is; exact rfl; kernel_rfl; kernel_rfl)
  (case q65=>refine' ⟨?_,?_,?_,?_⟩; k_is; exact rfl; kernel_rfl; kernel_rfl)
  (case q66=>refine' ⟨?_,?_,?_,?_⟩; k_is; exact rfl; kernel_rfl; kernel_rfl)
  (case z_abs=>k_is)
  (case z_all=>k_is)
  (case z_bool=>k_is)
  (case z_enumerate=>k_is)
  (case z_int=>k_is)
  (case z_isinstance=>k_is)
  (case z_len=>k_is)
  (case z_list=>k_is)
  (case z_min=>k_is)
  (case z_range=>k_is)
  (case z_sorted=>k_is)
  (case z_str=>k_is)
  (case z_tuple=>k_is)
  (case z_zip=>k_is)
