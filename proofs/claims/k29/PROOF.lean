import PyProof.Rows.All
import Wide.All
import OpenK.AllK
import Wide.FinOn
import Lean
import PyProof.EqAt
import PyProof.EqKinds
import PyProof.TupleCall
import PyProof.ZipIter
import PyProof.Rows.ZipGen
import PyProof.EnumFor
import PyProof.EnumStmt
import KE.KSortTup
import KE.KDictList
import PySem.Challenge.RW_seamarks_k29_banks_judged
set_option Elab.async false
set_option linter.all false
set_option maxRecDepth 100000
set_option maxHeartbeats 4000000
theorem nabs{a:Int}{n:Nat} : a.natAbs<=n↔-(n:Int)<=a/\a<=n:=by omega
local macro_rules | `(tactic| lia) => `(tactic| first | (simp only [nabs] at *; lia (config := {})) | lia (config := {}) | omega)
local macro_rules | `(tactic| exists $es,*) => `(tactic| refine ⟨$es,*, ?_⟩)
namespace L2
open PySem
def sY(s:Stmt):Arguments:=match s with
 | .FunctionDef _ a _ _ _ _ _ _ _ _=>a
 | _=>{ posonlyargs:=[],args:=[],vararg:=none,kwonlyargs:=[],kw_defaults:=[],kwarg:=none,defaults:=[] }
def tX(s:Stmt):List Stmt:=match s with
 | .FunctionDef _ _ b _ _ _ _ _ _ _=>b
 | _=>[]
def zM(s:Stmt):Scope:=match s with
 | .FunctionDef _ _ _ _ _ _ sc _ _ _=>sc
 | _=>{ kind:=.function,names:=[],isGenerator:=false,isCoroutine:=false }
end L2
namespace PySem.W
open PySem
def zG8(tb:String->Option Builtin)(p:Program)(w:World)(n₀:Nat)(ann:Option Value):Nat->SharedT->Thread->Option SharedT
 | 0,_,_=>none
 | n+1,s,t=>match through t with
  | true=>some s
  | false=>match stepOk n₀ ann t with
   | false=>none
   | true=>match stepT (denote tb) p w s t with
    | some (s',t')=>zG8 tb p w n₀ ann n s' t'
    | none=>none
theorem zIy{tb:String->Option Builtin}{p:Program}{w:World}{n₀:Nat}{ann:Option Value} : ∀{n:Nat}{s s':SharedT}{t:Thread},zG8 tb p w n₀ ann n s t=some s'->topRun tb p w n₀ ann n s.abs t=some s'.abs
 | 0,_,_,_,h=>by cases h
 | n+1,s,s',t,h=>by
  unfold zG8 at h;unfold topRun;cases he:through t with
  | true=>rw[he] at h; cases h; rfl
  | false =>
   rw[he] at h;cases hk:stepOk n₀ ann t with
   | false=>rw[hk] at h; cases h
   | true =>
    rw[hk] at h;cases hs:stepT (denote tb) p w s t with
    | none=>rw[hs] at h; cases h
    | some r=>obtain⟨s₂,t₂⟩:=r; rw[hs] at h; rw[stepT_spec hs]; exact zIy h
noncomputable def zTn(P:Params):BT:=((boot_heap P).objs.toList.zipIdx).foldl (λt x=>t.ins x.2 x.1) .nil
theorem zQn(P:Params):absHeap (zTn P) 11 (boot_heap P).life=boot_heap P:=by kernel_rfl
theorem zOv(P:Params):((boot_heap P).isNs mainGlobals,(boot_heap P).objs.size,(boot_heap P).nsMap mainGlobals "__annotations__")=(true,11,some (.ref 6)):=by kernel_rfl
noncomputable abbrev zW8(tb:String->Option Builtin)(p:Program)(N:Nat)(w:World)(os:OsState):Option SharedT:=zG8 tb p w 11 (some (.ref 6)) N ⟨zTn w.params,11,(boot_heap w.params).life,#[],boot_drawn,boot_toks,os⟩ (topStub p)
theorem zRu{α β γ:Type}{x:Option α}{f:α->β×γ}{a:β}{b:γ}(h1:x.map (λs=>(f s).1)=some a)(h2:x.map (λs=>(f s).2)=some b):x.map f=some (a,b):=by
 cases x with
 | none=>cases h1
 | some s =>
  injection h1 with h1
  injection h2 with h2
  subst h1 h2;rfl
theorem zOe{p q:Program}{loose:List Str}{Xt:Shared->Bool}{α:Type}{Yf:Shared->α}{Ya:World->α}{N:Nat}
  (open_:∀ w:World,(fencedOpening treeTable p w N).map (λs=>(s.heap,s.gens,s.drawn,s.toks))=some (boot_heap w.params,Array.mk [],boot_drawn,boot_toks))
  (h1:∀ w os,(zW8 treeTable p N w os).map (λs=>(staticsOk (importedModules p.main.body) (boot_heap w.params) s.abs.heap&&namesBound p s.abs.heap&&gensDone s.abs&&laidKept (boot_heap w.params) s.abs.heap))=some true)
  (h2:∀ w os,(zW8 treeTable p N w os).map (λs=>openSeen q loose (importedModules p.main.body) Xt true s.abs)=some (openGood q loose))
  (h3:∀ w os,(zW8 treeTable p N w os).map (λs=>Yf s.abs)=some (Ya w)):LeftO p q loose Xt Yf Ya N:=λw=>by
 obtain⟨⟨h,gs,d,k,os⟩,e,e'⟩:=Option.map_eq_some_iff.mp (open_ w);obtain⟨rfl,rfl,rfl,rfl⟩:h=boot_heap w.params/\gs = #[]/\d=boot_drawn/\k=boot_toks:=by simpa using e'
 obtain⟨z1,z2,z3⟩ : _/\_/\_:=by simpa only[Prod.mk.injEq] using zOv w.params
 obtain⟨s,r1,l1⟩:=Option.map_eq_some_iff.mp (h1 w os);obtain⟨s',r2,l2⟩:=Option.map_eq_some_iff.mp (h2 w os);obtain⟨s'',r3,l3⟩:=Option.map_eq_some_iff.mp (h3 w os);rw[r1] at r2 r3;cases r2;cases r3;have r:=zIy r1;rw[show SharedT.abs ⟨zTn w.params,11,(boot_heap w.params).life,#[],boot_drawn,boot_toks,os⟩=⟨boot_heap w.params,#[],boot_drawn,boot_toks,os⟩ from by unfold SharedT.abs; rw[zQn]] at r;have t:topFrom treeTable p w N ⟨boot_heap w.params,#[],boot_drawn,boot_toks,os⟩=some s.abs:=by
  unfold topFrom;dsimp only;rw[z1,z2,z3,r];show(match staticsOk (importedModules p.main.body) (boot_heap w.params) s.abs.heap&&namesBound p s.abs.heap&&gensDone s.abs&&laidKept (boot_heap w.params) s.abs.heap with | true=>_ | false=>_)=_;rw[l1]
 unfold openEnds;rw[e];show(topFrom treeTable p w N _).map _=_;rw[t];show some (_,_)=_;rw[l2,l3]
end PySem.W
namespace Sea
open PySem L2
def top(i:Nat):Stmt:=PySem.Challenge.pw_seamarks_k29_banks_judged.main.body.getD i (.Pass ⟨0,0,0,0⟩)
abbrev wR:Stmt:=top 1
abbrev zAl:Stmt:=top 2
abbrev rT:Stmt:=top 3
abbrev zDt:Stmt:=top 4
abbrev zD3:Stmt:=top 5
abbrev zCk:Stmt:=top 6
abbrev zAd:Stmt:=top 7
abbrev zDo:Stmt:=top 8
abbrev zDw:Stmt:=top 10
abbrev qZ:Stmt:=top 11
abbrev zBt:Stmt:=top 12
abbrev vL:Stmt:=top 13
abbrev zAq:Stmt:=top 14
abbrev zCj:Stmt:=top 15
abbrev sN:Stmt:=top 16
abbrev sJ:Stmt:=top 18
abbrev zEa:Stmt:=top 19
abbrev sF:Stmt:=top 20
abbrev tF:Stmt:=top 21
abbrev wY:Stmt:=top 22
abbrev zAs:Stmt:=top 23
abbrev vZ:Stmt:=top 24
abbrev zAp:Stmt:=top 25
abbrev zDr:Stmt:=top 26
abbrev zD2:Stmt:=top 28
abbrev rO:Stmt:=top 29
abbrev wC:Stmt:=top 30
abbrev zCo:Stmt:=top 31
abbrev vN:Stmt:=top 32
abbrev vI:Stmt:=top 33
abbrev wB:Stmt:=top 34
abbrev vJ:Stmt:=top 35
abbrev zCn:Stmt:=top 36
abbrev uM:Stmt:=top 38
abbrev wX:Stmt:=top 39
abbrev vH:Stmt:=top 40
abbrev wE:Stmt:=top 41
abbrev uN:Stmt:=top 42
abbrev xL:Stmt:=top 43
abbrev vY:Stmt:=top 44
abbrev uJ:Stmt:=top 46
abbrev zAy:Stmt:=top 47
abbrev zB0:Stmt:=top 48
abbrev zB6:Stmt:=top 49
abbrev vO:Stmt:=top 50
abbrev vM:Stmt:=top 51
abbrev uO:Stmt:=top 52
abbrev uB:Stmt:=top 53
abbrev tK:Stmt:=top 54
abbrev sQ:Stmt:=top 55
abbrev tJ:Stmt:=top 56
abbrev wZ:Stmt:=top 58
abbrev tE:Stmt:=top 59
abbrev zCg:Stmt:=top 60
abbrev zBq:Stmt:=top 61
abbrev zDp:Stmt:=top 62
abbrev zB5:Stmt:=top 63
abbrev zG6:Stmt:=top 64
abbrev zD1:Stmt:=top 65
abbrev zBs:Stmt:=top 66
abbrev zAt:Stmt:=top 67
abbrev tM:Stmt:=top 68
abbrev zDx:Stmt:=top 69
abbrev zGw:Stmt:=top 70
abbrev tG:Stmt:=top 71
abbrev zAm:Stmt:=top 72
abbrev zBv:Stmt:=top 73
abbrev zAz:Stmt:=top 74
abbrev zCb:Stmt:=top 75
abbrev rV:Stmt:=top 76
abbrev sI:Stmt:=top 77
abbrev zAu:Stmt:=top 78
abbrev zB9:Stmt:=top 79
abbrev zHd:Stmt:=top 80
abbrev vV:Stmt:=top 81
abbrev zD9:Stmt:=top 82
abbrev zJ7:Stmt:=top 83
noncomputable def qv:Program:={ PySem.Challenge.pw_seamarks_k29_banks_judged with main:={ PySem.Challenge.pw_seamarks_k29_banks_judged.main with body:=[top 1,top 2,top 3,top 4,top 5,top 6,top 7,top 8,top 10,top 11,top 12,top 13,top 14,top 15,top 16,top 18,top 19,top 20,top 21,top 22,top 23,top 24,top 25,top 26,top 28,top 29,top 30,top 31,top 32,top 33,top 34,top 35,top 36,top 38,top 39,top 40,top 41,top 42,top 43,top 44,top 46,top 47,top 48,top 49,top 50,top 51,top 52,top 53,top 54,top 55,top 56,top 58,top 59,top 60,top 61,top 62,top 63,top 64,top 65,top 66,top 67,top 68,top 69,top 70,top 71,top 72,top 73,top 74,top 75,top 76,top 77,top 78,top 79,top 80,top 81,top 82,top 83] } }
noncomputable def kd(P:Params)(x:Str)(t:Nat)(v:Value):DictEntry:=⟨PyData.keyHash P x,.str x t,v⟩
noncomputable def kc(l:List Value):Obj:=⟨.type "code", none,.fields (List.toArray l),List.toArray []⟩
noncomputable def kq(x:Str)(a:Nat)(l g:Int)(r:Nat)(u v w y z:Value)(h:Int)(b:Nat):Obj:=kc [.str x a,.str x (a+1),.str "/claim/cut.py" (a+2),.int l 0,.int g 0,.int 0 0,.int 0 0,.int 3 0,.ref r,.bool true,.int 181 0,u,v,w,y,z,.int h 0,.int l 0,.str "/claim/cut.py" b]
noncomputable abbrev kf(x:Str)(s:Stmt)(kV doc pm cd ct:Value):Obj:=⟨.type "function", none,.func (PySem.W.fnOf x x (sY s) (tX s) (zM s) .none kV doc pm none cd ct),List.toArray []⟩
noncomputable abbrev kg(x:Str)(s:Stmt)(m:Str)(t c:Nat):Obj:=kf x s .none .none (.str m t) (.ref c) .none
noncomputable def kNs(P:Params):Obj:=⟨.type "dict", none,.dict (List.toArray (kd P "__name__" 165 (.str "law_seamarks_k29_banks_judged" 646)::kd P "__doc__" 166 .none::kd P "__package__" 167 .none::kd P "__loader__" 168 (.builtin "__main__.__loader__#opaque")::kd P "__spec__" 169 .none::kd P "__annotations__" 170 (.ref 6)::kd P "__builtins__" 171 (.ref 4)::kd P "__file__" 173 (.str "/claim/cut.py" 172)::kd P "__cached__" 174 .none::kd P "common_factor" 199 (.ref 21)::kd P "lowest" 205 (.ref 26)::kd P "upright" 211 (.ref 31)::kd P "part" 219 (.ref 38)::kd P "plus" 227 (.ref 45)::kd P "times" 235 (.ref 52)::kd P "below" 243 (.ref 59)::kd P "spot" 252 (.ref 66)::kd P "turn" 262 (.ref 73)::kd P "along" 270 (.ref 80)::kd P "plain" 277 (.ref 87)::kd P "plain_side" 284 (.ref 94)::kd P "beyond" 292 (.ref 101)::kd P "holds" 300 (.ref 108)::kd P "crossing" 311 (.ref 115)::kd P "in_water" 322 (.ref 122)::kd P "foot" 329 (.ref 129)::kd P "edge_end" 342 (.ref 136)::kd P "edge_ends" 348 (.ref 141)::kd P "spot_on_edge" 357 (.ref 148)::kd P "sought" 366 (.ref 155)::kd P "some_spot" 373 (.ref 162)::kd P "is_way" 382 (.ref 169)::kd P "ways" 392 (.ref 176)::kd P "span" 401 (.ref 183)::kd P "weighed" 407 (.ref 188)::kd P "clash_of_three" 420 (.ref 195)::kd P "clash" 431 (.ref 202)::kd P "way_onward" 440 (.ref 209)::kd P "far_by_one" 451 (.ref 216)::kd P "weights_of_two" 464 (.ref 223)::kd P "far_by_two" 476 (.ref 230)::kd P "reach" 486 (.ref 237)::kd P "stretch_way" 496 (.ref 244)::kd P "stretch_side" 505 (.ref 251)::kd P "bank_sides" 511 (.ref 256)::kd P "word_of_cannot" 517 (.ref 261)::kd P "gone_beyond" 528 (.ref 268)::kd P "beyond_or_weights" 537 (.ref 275)::kd P "bank_word" 551 (.ref 282)::kd P "are_weights" 563 (.ref 289)::kd P "sum_at" 574 (.ref 296)::kd P "makes" 580 (.ref 301)::kd P "shown" 589 (.ref 308)::kd P "good_clash" 595 (.ref 313)::kd P "good_place" 603 (.ref 320)::kd P "good_cannot" 609 (.ref 325)::kd P "shows_within" 619 (.ref 332)::kd P "good_must" 625 (.ref 337)::kd P "good_can" 636 (.ref 344)::kd P "good_bank" 645 (.ref 351)::kd P "_law_bent_weights" 661 (.ref 358)::kd P "_law_bent_spot" 674 (.ref 365)::kd P "_law_power" 681 (.ref 372)::kd P "_law_draws" 693 (.ref 379)::kd P "_law_many" 703 (.ref 386)::kd P "_law_tight" 709 (.ref 391)::kd P "_law_way" 720 (.ref 398)::kd P "_law_side" 730 (.ref 405)::kd P "_law_sides" 736 (.ref 410)::kd P "_law_turned" 744 (.ref 417)::kd P "_law_left_pair" 754 (.ref 424)::kd P "_law_bank" 776 (.ref 431)::kd P "_law_low" 784 (.ref 438)::kd P "_law_bank_rows" 798 (.ref 445)::kd P "_law_banked" 804 (.ref 450)::kd P "_law_same" 810 (.ref 455)::kd P "_law_copied" 816 (.ref 460)::kd P "_law_whole" 823 (.ref 467)::kd P "_law_numbers" 829 (.ref 472)::kd P "_law_is_clash" 843 (.ref 479)::kd P "_law_summed" 852 (.ref 486)::kd P "_law_bound" 858 (.ref 491)::kd P "_law_has" 864 (.ref 496)::kd P "_law_good_word" 870 (.ref 501)::kd P "_law_bent" 876 (.ref 506)::kd P "law" 882 (.ref 511)::[])) 86,List.toArray []⟩
noncomputable def KC:PySem.W.Frag :=
 (nat_lit 20,kq "common_factor" 189 2 1 15 (.ref 16) .none (.ref 17) (.ref 18) (.ref 19) 197 198) ::
 (nat_lit 21,kg "common_factor" wR "seamarks.parts" 187 20) ::
 (nat_lit 25,kq "lowest" 200 11 1 22 (.ref 23) .none .none .none (.ref 24) 203 204) ::
 (nat_lit 26,kg "lowest" zAl "seamarks.parts" 187 25) ::
 (nat_lit 30,kq "upright" 206 14 1 27 (.ref 28) .none .none .none (.ref 29) 209 210) ::
 (nat_lit 31,kg "upright" rT "seamarks.parts" 187 30) ::
 (nat_lit 37,kq "part" 212 18 2 32 (.ref 33) .none (.ref 34) (.ref 35) (.ref 36) 217 218) ::
 (nat_lit 38,kg "part" zDt "seamarks.parts" 187 37) ::
 (nat_lit 44,kq "plus" 220 20 2 39 (.ref 40) .none (.ref 41) (.ref 42) (.ref 43) 225 226) ::
 (nat_lit 45,kg "plus" zD3 "seamarks.parts" 187 44) ::
 (nat_lit 51,kq "times" 228 22 2 46 (.ref 47) .none (.ref 48) (.ref 49) (.ref 50) 233 234) ::
 (nat_lit 52,kg "times" zCk "seamarks.parts" 187 51) ::
 (nat_lit 58,kq "below" 236 24 2 53 (.ref 54) .none (.ref 55) (.ref 56) (.ref 57) 241 242) ::
 (nat_lit 59,kg "below" zAd "seamarks.parts" 187 58) ::
 (nat_lit 65,kq "spot" 244 26 3 60 (.ref 61) .none (.ref 62) (.ref 63) (.ref 64) 250 251) ::
 (nat_lit 66,kg "spot" zDo "seamarks.parts" 187 65) ::
 (nat_lit 72,kq "turn" 255 29 2 67 (.ref 68) .none (.ref 69) (.ref 70) (.ref 71) 260 261) ::
 (nat_lit 73,kg "turn" zDw "seamarks.sides" 253 72) ::
 (nat_lit 79,kq "along" 263 31 2 74 (.ref 75) .none (.ref 76) (.ref 77) (.ref 78) 268 269) ::
 (nat_lit 80,kg "along" qZ "seamarks.sides" 253 79) ::
 (nat_lit 86,kq "plain" 271 33 1 81 (.ref 82) .none (.ref 83) (.ref 84) (.ref 85) 275 276) ::
 (nat_lit 87,kg "plain" zBt "seamarks.sides" 253 86) ::
 (nat_lit 93,kq "plain_side" 278 35 1 88 (.ref 89) .none (.ref 90) (.ref 91) (.ref 92) 282 283) ::
 (nat_lit 94,kg "plain_side" vL "seamarks.sides" 253 93) ::
 (nat_lit 100,kq "beyond" 285 37 2 95 (.ref 96) .none (.ref 97) (.ref 98) (.ref 99) 290 291) ::
 (nat_lit 101,kg "beyond" zAq "seamarks.sides" 253 100) ::
 (nat_lit 107,kq "holds" 293 39 2 102 (.ref 103) .none (.ref 104) (.ref 105) (.ref 106) 298 299) ::
 (nat_lit 108,kg "holds" zCj "seamarks.sides" 253 107) ::
 (nat_lit 114,kq "crossing" 301 41 2 109 (.ref 110) .none (.ref 111) (.ref 112) (.ref 113) 309 310) ::
 (nat_lit 115,kg "crossing" sN "seamarks.sides" 253 114) ::
 (nat_lit 121,kq "in_water" 314 49 2 116 (.ref 117) .none (.ref 118) (.ref 119) (.ref 120) 320 321) ::
 (nat_lit 122,kg "in_water" sJ "seamarks.water" 312 121) ::
 (nat_lit 128,kq "foot" 323 54 1 123 (.ref 124) .none (.ref 125) (.ref 126) (.ref 127) 327 328) ::
 (nat_lit 129,kg "foot" zEa "seamarks.water" 312 128) ::
 (nat_lit 135,kq "edge_end" 330 56 3 130 (.ref 131) .none (.ref 132) (.ref 133) (.ref 134) 340 341) ::
 (nat_lit 136,kg "edge_end" sF "seamarks.water" 312 135) ::
 (nat_lit 140,kq "edge_ends" 343 65 2 137 (.ref 138) .none .none .none (.ref 139) 346 347) ::
 (nat_lit 141,kg "edge_ends" tF "seamarks.water" 312 140) ::
 (nat_lit 147,kq "spot_on_edge" 349 68 2 142 (.ref 143) .none (.ref 144) (.ref 145) (.ref 146) 355 356) ::
 (nat_lit 148,kg "spot_on_edge" wY "seamarks.water" 312 147) ::
 (nat_lit 154,kq "sought" 358 73 1 149 (.ref 150) .none (.ref 151) (.ref 152) (.ref 153) 364 365) ::
 (nat_lit 155,kg "sought" zAs "seamarks.water" 312 154) ::
 (nat_lit 161,kq "some_spot" 367 81 1 156 (.ref 157) .none (.ref 158) (.ref 159) (.ref 160) 371 372) ::
 (nat_lit 162,kg "some_spot" vZ "seamarks.water" 312 161) ::
 (nat_lit 168,kq "is_way" 374 83 2 163 (.ref 164) .none (.ref 165) (.ref 166) (.ref 167) 380 381) ::
 (nat_lit 169,kg "is_way" zAp "seamarks.water" 312 168) ::
 (nat_lit 175,kq "ways" 383 88 1 170 (.ref 171) .none (.ref 172) (.ref 173) (.ref 174) 390 391) ::
 (nat_lit 176,kg "ways" zDr "seamarks.water" 312 175) ::
 (nat_lit 182,kq "span" 395 96 1 177 (.ref 178) .none (.ref 179) (.ref 180) (.ref 181) 399 400) ::
 (nat_lit 183,kg "span" zD2 "seamarks.reach" 393 182) ::
 (nat_lit 187,kq "weighed" 402 98 2 184 (.ref 185) .none .none .none (.ref 186) 405 406) ::
 (nat_lit 188,kg "weighed" rO "seamarks.reach" 393 187) ::
 (nat_lit 194,kq "clash_of_three" 408 101 2 189 (.ref 190) .none (.ref 191) (.ref 192) (.ref 193) 418 419) ::
 (nat_lit 195,kg "clash_of_three" wC "seamarks.reach" 393 194) ::
 (nat_lit 201,kq "clash" 421 108 1 196 (.ref 197) .none (.ref 198) (.ref 199) (.ref 200) 429 430) ::
 (nat_lit 202,kg "clash" zCo "seamarks.reach" 393 201) ::
 (nat_lit 208,kq "way_onward" 432 118 2 203 (.ref 204) .none (.ref 205) (.ref 206) (.ref 207) 438 439) ::
 (nat_lit 209,kg "way_onward" vN "seamarks.reach" 393 208) ::
 (nat_lit 215,kq "far_by_one" 441 123 2 210 (.ref 211) .none (.ref 212) (.ref 213) (.ref 214) 449 450) ::
 (nat_lit 216,kg "far_by_one" vI "seamarks.reach" 393 215) ::
 (nat_lit 222,kq "weights_of_two" 452 131 3 217 (.ref 218) .none (.ref 219) (.ref 220) (.ref 221) 462 463) ::
 (nat_lit 223,kg "weights_of_two" wB "seamarks.reach" 393 222) ::
 (nat_lit 229,kq "far_by_two" 465 137 2 224 (.ref 225) .none (.ref 226) (.ref 227) (.ref 228) 474 475) ::
 (nat_lit 230,kg "far_by_two" vJ "seamarks.reach" 393 229) ::
 (nat_lit 236,kq "reach" 477 146 2 231 (.ref 232) .none (.ref 233) (.ref 234) (.ref 235) 484 485) ::
 (nat_lit 237,kg "reach" zCn "seamarks.reach" 393 236) ::
 (nat_lit 243,kq "stretch_way" 489 155 2 238 (.ref 239) .none (.ref 240) (.ref 241) (.ref 242) 494 495) ::
 (nat_lit 244,kg "stretch_way" uM "seamarks.banks" 487 243) ::
 (nat_lit 250,kq "stretch_side" 497 157 2 245 (.ref 246) .none (.ref 247) (.ref 248) (.ref 249) 503 504) ::
 (nat_lit 251,kg "stretch_side" wX "seamarks.banks" 487 250) ::
 (nat_lit 255,kq "bank_sides" 506 160 1 252 (.ref 253) .none .none .none (.ref 254) 509 510) ::
 (nat_lit 256,kg "bank_sides" vH "seamarks.banks" 487 255) ::
 (nat_lit 260,kq "word_of_cannot" 512 163 2 257 (.ref 258) .none .none .none (.ref 259) 515 516) ::
 (nat_lit 261,kg "word_of_cannot" wE "seamarks.banks" 487 260) ::
 (nat_lit 267,kq "gone_beyond" 518 168 3 262 (.ref 263) .none (.ref 264) (.ref 265) (.ref 266) 526 527) ::
 (nat_lit 268,kg "gone_beyond" uN "seamarks.banks" 487 267) ::
 (nat_lit 274,kq "beyond_or_weights" 529 172 2 269 (.ref 270) .none (.ref 271) (.ref 272) (.ref 273) 535 536) ::
 (nat_lit 275,kg "beyond_or_weights" xL "seamarks.banks" 487 274) ::
 (nat_lit 281,kq "bank_word" 538 179 2 276 (.ref 277) .none (.ref 278) (.ref 279) (.ref 280) 549 550) ::
 (nat_lit 282,kg "bank_word" vY "seamarks.banks" 487 281) ::
 (nat_lit 288,kq "are_weights" 554 195 2 283 (.ref 284) .none (.ref 285) (.ref 286) (.ref 287) 561 562) ::
 (nat_lit 289,kg "are_weights" uJ "seamarks.looker" 552 288) ::
 (nat_lit 295,kq "sum_at" 564 202 3 290 (.ref 291) .none (.ref 292) (.ref 293) (.ref 294) 572 573) ::
 (nat_lit 296,kg "sum_at" zAy "seamarks.looker" 552 295) ::
 (nat_lit 300,kq "makes" 575 207 3 297 (.ref 298) .none .none .none (.ref 299) 578 579) ::
 (nat_lit 301,kg "makes" zB0 "seamarks.looker" 552 300) ::
 (nat_lit 307,kq "shown" 581 209 3 302 (.ref 303) .none (.ref 304) (.ref 305) (.ref 306) 587 588) ::
 (nat_lit 308,kg "shown" zB6 "seamarks.looker" 552 307) ::
 (nat_lit 312,kq "good_clash" 590 215 2 309 (.ref 310) .none .none .none (.ref 311) 593 594) ::
 (nat_lit 313,kg "good_clash" vO "seamarks.looker" 552 312) ::
 (nat_lit 319,kq "good_place" 596 222 2 314 (.ref 315) .none (.ref 316) (.ref 317) (.ref 318) 601 602) ::
 (nat_lit 320,kg "good_place" vM "seamarks.looker" 552 319) ::
 (nat_lit 324,kq "good_cannot" 604 224 4 321 (.ref 322) .none .none .none (.ref 323) 607 608) ::
 (nat_lit 325,kg "good_cannot" uO "seamarks.looker" 552 324) ::
 (nat_lit 331,kq "shows_within" 610 229 3 326 (.ref 327) .none (.ref 328) (.ref 329) (.ref 330) 617 618) ::
 (nat_lit 332,kg "shows_within" uB "seamarks.looker" 552 331) ::
 (nat_lit 336,kq "good_must" 620 232 3 333 (.ref 334) .none .none .none (.ref 335) 623 624) ::
 (nat_lit 337,kg "good_must" tK "seamarks.looker" 552 336) ::
 (nat_lit 343,kq "good_can" 626 237 4 338 (.ref 339) .none (.ref 340) (.ref 341) (.ref 342) 634 635) ::
 (nat_lit 344,kg "good_can" sQ "seamarks.looker" 552 343) ::
 (nat_lit 350,kq "good_bank" 637 242 3 345 (.ref 346) .none (.ref 347) (.ref 348) (.ref 349) 643 644) ::
 (nat_lit 351,kg "good_bank" tJ "seamarks.looker" 552 350) ::
 (nat_lit 357,kq "_law_bent_weights" 648 251 2 352 (.ref 353) .none (.ref 354) (.ref 355) (.ref 356) 659 660) ::
 (nat_lit 358,kg "_law_bent_weights" wZ "law_seamarks_k29_banks_judged" 646 357) ::
 (nat_lit 364,kq "_law_bent_spot" 662 275 2 359 (.ref 360) .none (.ref 361) (.ref 362) (.ref 363) 672 673) ::
 (nat_lit 365,kg "_law_bent_spot" tE "law_seamarks_k29_banks_judged" 646 364) ::
 (nat_lit 371,kq "_law_power" 675 280 1 366 (.ref 367) .none (.ref 368) (.ref 369) (.ref 370) 679 680) ::
 (nat_lit 372,kg "_law_power" zCg "law_seamarks_k29_banks_judged" 646 371) ::
 (nat_lit 378,kq "_law_draws" 682 282 2 373 (.ref 374) .none (.ref 375) (.ref 376) (.ref 377) 691 692) ::
 (nat_lit 379,kg "_law_draws" zBq "law_seamarks_k29_banks_judged" 646 378) ::
 (nat_lit 385,kq "_law_many" 694 298 4 380 (.ref 381) .none (.ref 382) (.ref 383) (.ref 384) 701 702) ::
 (nat_lit 386,kg "_law_many" zDp "law_seamarks_k29_banks_judged" 646 385) ::
 (nat_lit 390,kq "_law_tight" 704 302 2 387 (.ref 388) .none .none .none (.ref 389) 707 708) ::
 (nat_lit 391,kg "_law_tight" zB5 "law_seamarks_k29_banks_judged" 646 390) ::
 (nat_lit 397,kq "_law_way" 710 308 3 392 (.ref 393) .none (.ref 394) (.ref 395) (.ref 396) 718 719) ::
 (nat_lit 398,kg "_law_way" zG6 "law_seamarks_k29_banks_judged" 646 397) ::
 (nat_lit 404,kq "_law_side" 721 314 1 399 (.ref 400) .none (.ref 401) (.ref 402) (.ref 403) 728 729) ::
 (nat_lit 405,kg "_law_side" zD1 "law_seamarks_k29_banks_judged" 646 404) ::
 (nat_lit 409,kq "_law_sides" 731 324 2 406 (.ref 407) .none .none .none (.ref 408) 734 735) ::
 (nat_lit 410,kg "_law_sides" zBs "law_seamarks_k29_banks_judged" 646 409) ::
 (nat_lit 416,kq "_law_turned" 737 334 2 411 (.ref 412) .none (.ref 413) (.ref 414) (.ref 415) 742 743) ::
 (nat_lit 417,kg "_law_turned" zAt "law_seamarks_k29_banks_judged" 646 416) ::
 (nat_lit 423,kq "_law_left_pair" 745 336 2 418 (.ref 419) .none (.ref 420) (.ref 421) (.ref 422) 752 753) ::
 (nat_lit 424,kg "_law_left_pair" tM "law_seamarks_k29_banks_judged" 646 423) ::
 (nat_lit 430,kq "_law_bank" 755 346 2 425 (.ref 426) .none (.ref 427) (.ref 428) (.ref 429) 774 775) ::
 (nat_lit 431,kg "_law_bank" zDx "law_seamarks_k29_banks_judged" 646 430) ::
 (nat_lit 437,kq "_law_low" 777 362 2 432 (.ref 433) .none (.ref 434) (.ref 435) (.ref 436) 782 783) ::
 (nat_lit 438,kg "_law_low" zGw "law_seamarks_k29_banks_judged" 646 437) ::
 (nat_lit 444,kq "_law_bank_rows" 785 368 1 439 (.ref 440) .none (.ref 441) (.ref 442) (.ref 443) 796 797) ::
 (nat_lit 445,kg "_law_bank_rows" tG "law_seamarks_k29_banks_judged" 646 444) ::
 (nat_lit 449,kq "_law_banked" 799 376 1 446 (.ref 447) .none .none .none (.ref 448) 802 803) ::
 (nat_lit 450,kg "_law_banked" zAm "law_seamarks_k29_banks_judged" 646 449) ::
 (nat_lit 454,kq "_law_same" 805 389 2 451 (.ref 452) .none .none .none (.ref 453) 808 809) ::
 (nat_lit 455,kg "_law_same" zBv "law_seamarks_k29_banks_judged" 646 454) ::
 (nat_lit 459,kq "_law_copied" 811 397 1 456 (.ref 457) .none .none .none (.ref 458) 814 815) ::
 (nat_lit 460,kg "_law_copied" zAz "law_seamarks_k29_banks_judged" 646 459) ::
 (nat_lit 466,kq "_law_whole" 817 405 1 461 (.ref 462) .none (.ref 463) (.ref 464) (.ref 465) 821 822) ::
 (nat_lit 467,kg "_law_whole" zCb "law_seamarks_k29_banks_judged" 646 466) ::
 (nat_lit 471,kq "_law_numbers" 824 407 2 468 (.ref 469) .none .none .none (.ref 470) 827 828) ::
 (nat_lit 472,kg "_law_numbers" rV "law_seamarks_k29_banks_judged" 646 471) ::
 (nat_lit 478,kq "_law_is_clash" 830 409 2 473 (.ref 474) .none (.ref 475) (.ref 476) (.ref 477) 841 842) ::
 (nat_lit 479,kg "_law_is_clash" sI "law_seamarks_k29_banks_judged" 646 478) ::
 (nat_lit 485,kq "_law_summed" 844 421 3 480 (.ref 481) .none (.ref 482) (.ref 483) (.ref 484) 850 851) ::
 (nat_lit 486,kg "_law_summed" zAu "law_seamarks_k29_banks_judged" 646 485) ::
 (nat_lit 490,kq "_law_bound" 853 423 3 487 (.ref 488) .none .none .none (.ref 489) 856 857) ::
 (nat_lit 491,kg "_law_bound" zB9 "law_seamarks_k29_banks_judged" 646 490) ::
 (nat_lit 495,kq "_law_has" 859 440 2 492 (.ref 493) .none .none .none (.ref 494) 862 863) ::
 (nat_lit 496,kg "_law_has" zHd "law_seamarks_k29_banks_judged" 646 495) ::
 (nat_lit 500,kq "_law_good_word" 865 443 3 497 (.ref 498) .none .none .none (.ref 499) 868 869) ::
 (nat_lit 501,kg "_law_good_word" vV "law_seamarks_k29_banks_judged" 646 500) ::
 (nat_lit 505,kq "_law_bent" 871 467 2 502 (.ref 503) .none .none .none (.ref 504) 874 875) ::
 (nat_lit 506,kg "_law_bent" zD9 "law_seamarks_k29_banks_judged" 646 505) ::
 (nat_lit 510,kq "law" 877 487 1 507 (.ref 508) .none .none .none (.ref 509) 880 881) ::
 (nat_lit 511,kg "law" zJ7 "law_seamarks_k29_banks_judged" 646 510)::[]
noncomputable def KK(P:Params):PySem.W.Frag:=(nat_lit 3,kNs P)::KC
noncomputable def K:PySem.W.Frag:=Classical.choose (⟨KC,rfl⟩:∃ k,k=KC)
theorem zW3:K=KC:=Classical.choose_spec (⟨KC,rfl⟩:∃ k,k=KC)
noncomputable def kas:List Nat:=nat_lit 3::KC.map (·.1)
theorem kas_ok:∀ P:Params,kas=(KK P).map (·.1):=λ_=>by kernel_rfl
theorem zVk{a b:Bool}(h:a=true)(k:b=true):(a&&b)=true:=by rw[h,k]; rfl
set_option maxHeartbeats 0 in
open PySem.W in
theorem said_ok:PySem.Challenge.rw_seamarks_k29_banks_judged.wellSaid=true:=by
 unfold OpenLaw.wellSaid
 repeat' first | with_reducible apply zVk | unfold OpenRow.wellSaid | unfold OpenRow.partSaid | unfold looksOpen
 all_goals decide +kernel
open PySem.W in
noncomputable abbrev lkM:=Fast.tw5923862056798008813 (Fast.tw2368527892694137696 PySem.Challenge.rw_seamarks_k29_banks_judged).prog.main.body
open PySem.W in
noncomputable abbrev lkT(w:World)(os:OsState):=zW8 Fast.tw14364793385576792824 (Fast.tw2368527892694137696 PySem.Challenge.rw_seamarks_k29_banks_judged).prog 9000 w os
open PySem.W in
noncomputable abbrev lkS(s:SharedT):=Fast.tw4187177175401517315 qv [] lkM (λs=>xlAt qv [] s&&recOk (Fast.tw2368527892694137696 PySem.Challenge.rw_seamarks_k29_banks_judged).records s) true s.abs
set_option maxHeartbeats 0 in
open PySem.W in
theorem zWk(w:World)(os:OsState):(lkT w os).map (λs=>(staticsOk lkM (boot_heap w.params) s.abs.heap&&namesBound (Fast.tw2368527892694137696 PySem.Challenge.rw_seamarks_k29_banks_judged).prog s.abs.heap&&gensDone s.abs&&laidKept (boot_heap w.params) s.abs.heap))=some true:=by kernel_rfl
set_option maxHeartbeats 0 in
open PySem.W in
theorem zU5(w:World)(os:OsState):(lkT w os).map (λs=>(lkS s).1)=some (openGood qv []).1:=by kernel_rfl
set_option maxHeartbeats 0 in
open PySem.W in
theorem zWd(w:World)(os:OsState):(lkT w os).map (λs=>(lkS s).2)=some (openGood qv []).2:=by kernel_rfl
set_option maxHeartbeats 0 in
open PySem.W in
theorem zVo(w:World)(os:OsState):(lkT w os).map (λs=>kas.map s.abs.heap.get?)=some ((KK w.params).map λp=>some p.2):=by kernel_rfl
set_option maxHeartbeats 0 in
open PySem.W in
theorem left_ok:LeftO PySem.Challenge.rw_seamarks_k29_banks_judged.row.prog qv [] (λs=>xlAt qv [] s&&recOk (RowW.records (OpenRow.toRowW PySem.Challenge.rw_seamarks_k29_banks_judged.row)) s)
  (λs=>kas.map s.heap.get?) (λw=>(KK w.params).map λp=>some p.2) 9000:=by
 refine zOe (boot_open (by kernel_rfl) (by decide) (λs=>by kernel_rfl)) ?a ?b ?c
 case a =>
  rw[Fast.te5923862056798008813,Fast.te2368527892694137696,Fast.te14364793385576792824];exact zWk
 case b =>
  rw[Fast.te4187177175401517315,Fast.te5923862056798008813,Fast.te2368527892694137696,Fast.te14364793385576792824];exact λw os=>zRu (f:=lkS) (zU5 w os) (zWd w os)
 case c =>
  rw[Fast.te2368527892694137696,Fast.te14364793385576792824];exact zVo
end Sea
-- BASE
namespace L2
open PySem PySem.Spec PyProof.Rows

abbrev Key:=Sum Int Str
def zMt:Key->Value->Bool
 | .inl k,v=>Value.isInt k v
 | .inr x,v=>Value.isStrOf x v
def keyH(w:World):Key->Int
 | .inl k=>hashInt k
 | .inr x=>hashStr w x
theorem xT:∀{k:Key}{v:Value},zMt k v=true->(∃ i t,k=Sum.inl i/\v=Value.int i t)\/(∃ x t,k=Sum.inr x/\v=Value.str x t)
 | .inl i,v,h=>by
  obtain⟨t,e⟩:=Value.isInt_shape (k:=i) (v:=v) h;exact .inl ⟨i,t,rfl,e⟩
 | .inr x,v,h=>by
  obtain⟨t,e⟩:=Value.isStrOf_shape (x:=x) (v:=v) h;exact .inr ⟨x,t,rfl,e⟩
theorem zP3(i:Int)(t:Tok):zMt (.inl i) (.int i t)=true:=by simp[zMt,Value.isInt]
theorem zPq(x:Str)(t:Tok):zMt (.inr x) (.str x t)=true:=by simp[zMt,Value.isStrOf]
theorem zU3(a b:Int):decide ((Sum.inl a:Key)=Sum.inl b)=(a == b):=by
 by_cases e:a=b
 ·subst e; simp
 ·have h:¬ (Sum.inl a:Key)=Sum.inl b:=λq=>e (Sum.inl.inj q);rw[decide_eq_false h];exact(beq_eq_false_iff_ne.mpr e).symm
theorem zVy(a b:Str):decide ((Sum.inr a:Key)=Sum.inr b)=decide (a=b):=by
 by_cases e:a=b
 ·subst e; simp
 ·have h:¬ (Sum.inr a:Key)=Sum.inr b:=λq=>e (Sum.inr.inj q);rw[decide_eq_false h,decide_eq_false e]
theorem zWz(a:Int)(b:Str):decide ((Sum.inl a:Key)=Sum.inr b)=false:=decide_eq_false (λq=>nomatch q)
theorem zWf(a:Str)(b:Int):decide ((Sum.inr a:Key)=Sum.inl b)=false:=decide_eq_false (λq=>nomatch q)

def uQ(prog:Program)(w:World):PySem.KeyKind prog w Key where
 is:=zMt
 hash:=keyH w
 inj:=λv a b ha hb=>by
  rcases xT ha with ⟨i,t,rfl,rfl⟩ | ⟨x,t,rfl,rfl⟩
  ·rcases xT hb with ⟨j,u,rfl,e⟩ | ⟨y,u,rfl,e⟩
   ·injection e with e1 _; rw[e1]
   ·exact nomatch e
  ·rcases xT hb with ⟨j,u,rfl,e⟩ | ⟨y,u,rfl,e⟩
   ·exact nomatch e
   ·injection e with e1 _; rw[e1]
 byValue:=λk v h=>by
  rcases xT h with ⟨i,t,rfl,rfl⟩ | ⟨x,t,rfl,rfl⟩ <;> rfl
 pyHash:=λhv h=>by
  rcases xT hv with ⟨i,t,rfl,rfl⟩ | ⟨x,t,rfl,rfl⟩
  ·exact wpAny_pyHash_int h
  ·exact wpAny_pyHash_str h
 eqBool:=λhu hv h=>by
  rcases xT hu with ⟨i,t,rfl,rfl⟩ | ⟨x,t,rfl,rfl⟩
  ·rcases xT hv with ⟨j,u,rfl,rfl⟩ | ⟨y,u,rfl,rfl⟩
   ·rw[zU3] at h; exact wpAny_eqBool_int h
   ·rw[zWz] at h; exact SeqAt.EqAt.int_str i t y u _ _ _ _ h
  ·rcases xT hv with ⟨j,u,rfl,rfl⟩ | ⟨y,u,rfl,rfl⟩
   ·rw[zWf] at h; exact SeqAt.EqAt.str_int x t j u _ _ _ _ h
   ·rw[zVy] at h; exact wpAny_eqBool_str h
 «strs»:=λk x t v h=>by
  rcases xT h with ⟨i,u,rfl,e⟩ | ⟨y,u,rfl,e⟩
  ·exact nomatch e
  ·injection e with e1 _
   subst e1;cases v <;> rfl

theorem zJ0(prog:Program)(w:World)(i:Int)(t:Tok):(uQ prog w).is (.inl i) (.int i t)=true:=zP3 i t
theorem zKf(prog:Program)(w:World)(x:Str)(t:Tok):(uQ prog w).is (.inr x) (.str x t)=true:=zPq x t
end L2

namespace L2
open PySem PySem.Spec PyProof.Rows

inductive V where
 | non | bl (b:Bool) | int (i:Int) | str (x:Str) | byt (b:Array UInt8) | flt (b:UInt64) | ref (a:Addr) | ty (n:String)
 deriving DecidableEq

def uC:V->Value->Prop
 | .non,u=>u=Value.none
 | .bl b,u=>u=Value.bool b
 | .int i,u=>∃ t,u=Value.int i t
 | .str x,u=>∃ t,u=Value.str x t
 | .byt b,u=>∃ t,u=Value.bytes b t
 | .flt b,u=>∃ t,u=Value.float b t
 | .ref a,u=>u=Value.ref a
 | .ty n,u=>u=Value.type n

abbrev yW:List V->List Value->Prop:=Paired uC
theorem yW.length{xs:List V}{us:List Value}(r:yW xs us):xs.length=us.length:=Paired.length r
theorem yW.get:∀{xs:List V}{us:List Value}{i:Nat}{x:V},yW xs us->xs[i]?=some x->∃ u,us[i]?=some u/\uC x u
 | _,_,_,_,.nil,e=>by simp at e
 | _,_,0,_,.cons r _,e=>by simp at e; subst e; exact⟨_,rfl,r⟩
 | _,_,i+1,x,.cons _ t,e=>by
  obtain⟨u,h1,h2⟩:=yW.get (i:=i) (x:=x) t (by simpa using e);exact⟨u,by simpa using h1,h2⟩
theorem yW.set{x:V}{u:Value}(r:uC x u):∀{xs:List V}{us:List Value}(i:Nat),yW xs us->yW (xs.set i x) (us.set i u)
 | _,_,_,.nil=>.nil
 | _,_,0,.cons _ t=>.cons r t
 | _,_,i+1,.cons q t=>.cons q (yW.set r i t)
theorem yW.append:∀{xs ys:List V}{us ws:List Value},yW xs us->yW ys ws->yW (xs++ys) (us++ws)
 | _,_,_,_,.nil,s=>s
 | _,_,_,_,.cons r t,s=>.cons r (yW.append t s)
theorem yW.take:∀{xs:List V}{us:List Value}(n:Nat),yW xs us->yW (xs.take n) (us.take n)
 | _,_,0,_=>.nil
 | _,_,_+1,.nil=>.nil
 | _,_,n+1,.cons r t=>.cons r (yW.take n t)
theorem yW.drop:∀{xs:List V}{us:List Value}(n:Nat),yW xs us->yW (xs.drop n) (us.drop n)
 | _,_,0,r=>r
 | _,_,_+1,.nil=>.nil
 | _,_,n+1,.cons _ t=>yW.drop n t
theorem yW.none_of:∀{xs:List V}{us:List Value}{i:Nat},yW xs us->xs[i]?=none->us[i]?=none:=λ{xs us i} r e=>by
 have h1:=r.length;have h2:xs.length<=i:=List.getElem?_eq_none_iff.mp e;exact List.getElem?_eq_none_iff.mpr (by lia)

def zUt:Option V->Option Value->Prop
 | some v,some u=>uC v u
 | none,none=>True
 | _,_=>False
def KV{κ:Type} : List (κ×V)->List (κ×Value)->Prop:=Paired λ(p:κ×V) (q:κ×Value)=>p.1=q.1/\uC p.2 q.2

def kV:Key->V
 | .inl i=>.int i
 | .inr x=>.str x

inductive HO where
 | lst (xs:List V)
 | tup (xs:List V)
 | dK (kvs:List (Key×V)) | dT (kvs:List (List Key×V))
 | set (S:Int->Bool) (n:Nat)
 | ins (C dx:Addr) (fs:List (Str×V))
 | own (x:Addr)
 | xd (fs:List (Str×V))
 | met (f x:Addr)
 | rng (lo hi:Int)
 | frz (o:Obj) (u:HO)
 | tbl (ps:Array Value)
 | ext (φ:Heap->Prop)

abbrev Hp:=Addr->Option HO
def upd(H:Hp)(a:Addr)(o:HO):Hp:=λb=>if b=a then some o else H b
theorem zD{H:Hp}{a:Addr}{o:HO} : upd H a o a=some o:=by unfold upd; rw[if_pos rfl]
theorem yA{H:Hp}{a b:Addr}{o:HO}(h:b≠a):upd H a o b=H b:=by unfold upd; rw[if_neg h]
theorem zBe{H:Hp}{a:Addr}{o u:HO} : upd (upd H a o) a u=upd H a u:=by
 funext b; unfold upd; split <;> rfl
theorem tZ{H:Hp}{a b:Addr}{o u:HO}(h:H a=some o)(h':H b=some u)(d:o≠u):a≠b:=by
 intro e; subst e; rw[h] at h'; exact d (Option.some.inj h')
theorem xB{H:Hp}{a b:Addr}{o:HO}(h:H a=some o)(h':H b=none):a≠b:=by
 intro e; subst e; rw[h] at h'; cases h'

section
variable(P:Program)(w:World)
def vF(H:Hp)(h:Heap)(a:Addr):HO->Prop
 | .lst xs=>xs.length<=sizeLine/\∃(its:List Value)(n:Nat),yW xs its/\h.get? a=some { cls:=.type "list", data:=.seq its.toArray n }
 | .tup xs=>xs.length<=sizeLine/\∃ its:List Value,yW xs its/\IsTup h a its.toArray
 | .dK kvs=>kvs.length<=sizeLine/\(a == sysModules)=false/\∃ vs,KV kvs vs/\h.DictOf (uQ P w) a vs
 | .dT kvs=>kvs.length<=sizeLine/\(a == sysModules)=false/\∃ xs:List (List Key×Addr×Value),
   Paired (λ(p:List Key×V) (q:List Key×Addr×Value)=>p.1=q.1/\H q.2.1=some (.tup (p.1.map kV))/\uC p.2 q.2.2) kvs xs /\
   ∃ o es ep,h.get? a=some o/\o.ExactDict/\o.data=.dict es ep/\es.toList=xs.map (entryOfKey (tupleKind (uQ P w)))/\(xs.map (·.1)).Nodup
 | .set S n=>h.SetOf (intKind P w) a S n
 | .ins C dx fs=>H dx=some (.own a)/\fs.length<=1000/\dx≠a/\h.get? a=some (PySem.W.instObj C dx) /\
   ∃ mA,h.Ns1 dx mA/\(∀ f,zUt (fs.lookup f) (mA f))/\PySem.Within mA (fs.map (·.1))
 | .own _=>∃ o,h.get? a=some o
 | .xd fs=>∃ mA,h.Ns1 a mA/\∀ f,zUt (fs.lookup f) (mA f)
 | .rng lo hi=>∃ t u v,h.get? a=some { cls:=.type "range", data:=.fields #[.int lo t,.int hi u,.int 1 v] }
 | .frz o u=>h.get? a=some o/\vF H h a u
 | .tbl ps=>h.get? a=some { cls:=.none,data:=.fields ps }
 | .met f x=>h.get? a=some (PySem.W.methodObj (.ref f) (.ref x))
 | .ext φ=>φ h/\(∃ o,h.get? a=some o)/\∀ h1 h2:Heap,φ h1->(∀ o,h1.get? a=some o->h2.get? a=some o)->φ h2
def HOk(H:Hp)(h:Heap):Prop:=∀ a o,H a=some o->vF P w H h a o
end

section
variable{P:Program}{w:World}{H H':Hp}{h h':Heap}{a:Addr}{o:HO}
theorem vF.lt(x:vF P w H h a o):a<h.objs.size:=by
 cases o with
 | lst xs=>obtain⟨_,_,_,_,e⟩:=x; exact Heap.lt_size e
 | tup xs=>obtain⟨_,_,_,p⟩:=x; exact p.lt
 | dK kvs=>obtain⟨_,_,_,_,o,_,_,e,_⟩:=x; exact Heap.lt_size e
 | dT kvs=>obtain⟨_,_,_,_,o,_,_,e,_⟩:=x; exact Heap.lt_size e
 | set S n=>obtain⟨o,_,_,_,e,_⟩:=x; exact Heap.lt_size e
 | ins C dx fs=>obtain⟨_,_,_,e,_⟩:=x; exact Heap.lt_size e
 | own y=>obtain⟨_,e⟩:=x; exact Heap.lt_size e
 | xd fs=>obtain⟨_,⟨_,_,_,e,_⟩,_⟩:=x; exact Heap.lt_size e
 | rng lo hi=>obtain⟨_,_,_,e⟩:=x; exact Heap.lt_size e
 | frz ob u=>obtain⟨e,_⟩:=x; exact Heap.lt_size e
 | tbl ps=>exact Heap.lt_size (show h.get? a=some _ from x)
 | met f y=>exact Heap.lt_size (show h.get? a=some _ from x)
 | ext φ=>obtain⟨_,⟨_,e⟩,_⟩:=x; exact Heap.lt_size e
theorem Paired.mapP{α β:Type}{F G:α->β->Prop} : ∀{l₁:List α}{l₂:List β},Paired F l₁ l₂->(∀ a b,F a b->G a b)->Paired G l₁ l₂
 | _,_,.nil,_=>.nil
 | _,_,.cons r t,f=>.cons (f _ _ r) (Paired.mapP t f)
theorem vF.stay(x:vF P w H h a o)(k:∀ b u,(b=a\/H b=some (.own a))->h.get? b=some u->h'.get? b=some u)
  (ho:∀ b,H b=some (.own a)->H' b=some (.own a)) (ht:∀ b xs,H b=some (.tup xs)->H' b=some (.tup xs)):vF P w H' h' a o:=by
 induction o with
 | lst xs=>obtain⟨z,its,n,r,e⟩:=x; exact⟨z,its,n,r,k _ _ (.inl rfl) e⟩
 | tup xs=>obtain⟨z,its,r,ob,e,c⟩:=x; exact⟨z,its,r,ob,k _ _ (.inl rfl) e,c⟩
 | dK kvs=>obtain⟨z,y,vs,r,ob,es,ep,e,c⟩:=x; exact⟨z,y,vs,r,ob,es,ep,k _ _ (.inl rfl) e,c⟩
 | dT kvs =>
  obtain⟨z,y,xs,r,ob,es,ep,e,c⟩:=x;exact⟨z,y,xs,Paired.mapP r λp q z=>⟨z.1,ht _ _ z.2.1,z.2.2⟩,ob,es,ep,k _ _ (.inl rfl) e,c⟩
 | set S n=>obtain⟨ob,es,ep,t,e,c⟩:=x; exact⟨ob,es,ep,t,k _ _ (.inl rfl) e,c⟩
 | ins C dx fs =>
  obtain⟨d,z,ne,e,mA,⟨od,es,ep,e2,c⟩,r⟩:=x;exact⟨ho _ d,z,ne,k _ _ (.inl rfl) e,mA,⟨od,es,ep,k _ _ (.inr d) e2,c⟩,r⟩
 | own y=>obtain⟨ob,e⟩:=x; exact⟨ob,k _ _ (.inl rfl) e⟩
 | xd fs=>obtain⟨mA,⟨od,es,ep,e,c⟩,r⟩:=x; exact⟨mA,⟨od,es,ep,k _ _ (.inl rfl) e,c⟩,r⟩
 | rng lo hi=>obtain⟨t,u,v,e⟩:=x; exact⟨t,u,v,k _ _ (.inl rfl) e⟩
 | frz ob u ih=>obtain⟨e,q⟩:=x; exact⟨k _ _ (.inl rfl) e,ih q⟩
 | tbl ps =>
  have e:h.get? a=some { cls:=.none,data:=.fields ps }:=x;show h'.get? a=some { cls:=.none,data:=.fields ps };exact k a _ (.inl rfl) e
 | met f y =>
  have e:h.get? a=some (PySem.W.methodObj (.ref f) (.ref y)):=x;show h'.get? a=some (PySem.W.methodObj (.ref f) (.ref y));exact k a _ (.inl rfl) e
 | ext φ=>obtain⟨p,⟨o,e⟩,st⟩:=x; exact⟨st _ _ p λo q=>k _ _ (.inl rfl) q,⟨o,k _ _ (.inl rfl) e⟩,st⟩
theorem HOk.lt(x:HOk P w H h)(e:H a=some o):a<h.objs.size:=(x a o e).lt
theorem HOk.fresh(x:HOk P w H h)(e:h.objs.size<=a):H a=none:=by
 cases q:H a with
 | none=>rfl
 | some u=>exact absurd (Nat.lt_of_lt_of_le (x.lt q) e) (Nat.lt_irrefl _)
theorem HOk.kept(x:HOk P w H h)(k:∀ b u,h.get? b=some u->h'.get? b=some u):HOk P w H h':=λa o e =>
 (x a o e).stay (λb u _ q=>k b u q) (λ_ q=>q) λ_ _ q=>q
theorem HOk.laid(x:HOk P w H h)(k:∀ b u,h.get? b=some u->h'.get? b=some u)(hp:h.objs.size<=a)(new:vF P w (upd H a o) h' a o):HOk P w (upd H a o) h':=λb u e=>by
 have hn:=x.fresh hp;by_cases hb:b=a
 ·subst hb; rw[zD] at e; cases e; exact new
 ·rw[yA hb] at e;exact(x b u e).stay (λc v _ q=>k c v q) (λc q=>by rw[yA (xB q hn)]; exact q) λc xs q=>by rw[yA (xB q hn)]; exact q
end

def Rd(H:Hp)(a:Addr)(u:HO):Prop:=H a=some u\/∃ o,H a=some (.frz o u)
theorem Rd.ok{P:Program}{w:World}{H:Hp}{h:Heap}{a:Addr}{u:HO}(r:Rd H a u)(x:HOk P w H h):vF P w H h a u:=by
 rcases r with r | ⟨o,r⟩
 ·exact x a u r
 ·obtain⟨_,q⟩:=x a _ r;exact q
def Mut:Option HO->Prop
 | some (.lst _)=>True
 | some (.dK _)=>True
 | some (.dT _)=>True
 | some (.set _ _)=>True
 | some (.ins _ _ _)=>True
 | some (.ext _)=>True
 | _=>False
section
variable{P:Program}{w:World}{H:Hp}{h h':Heap}{x e:Addr}{o':HO}
theorem HOk.write(ok:HOk P w H h)(mu:Mut (H x))(he:e=x\/H e=some (.own x))(k:∀ b u,b≠e->h.get? b=some u->h'.get? b=some u)(heo:∃ u,h'.get? e=some u)
  (new:vF P w (upd H x o') h' x o'):HOk P w (upd H x o') h':=λb u q=>by
 have nown:∀ c y,H c=some (.own y)->c≠x:=λc y r z=>by subst z; rw[r] at mu; exact mu
 have ntup:∀ c xs,H c=some (.tup xs)->c≠x:=λc xs r z=>by subst z; rw[r] at mu; exact mu
 by_cases hb:b=x
 ·subst hb; rw[zD] at q; cases q; exact new
 ·rw[yA hb] at q;by_cases hbe:b=e
  ·have q':H b=some (.own x):=by
    rcases he with z | z
    ·exact absurd (hbe.trans z) hb
    ·rw[hbe]; exact z
   rw[q] at q'; cases q';obtain⟨v,hv⟩:=heo;exact⟨v,by rw[hbe]; exact hv⟩
  ·refine(ok b u q).stay (λc v hc r=>k c v ?_ r) (λc r=>by rw[yA (nown c b r)]; exact r) λc xs r=>by rw[yA (ntup c xs r)]; exact r
   rcases hc with rfl | hc
   ·exact hbe
   ·rintro rfl;rcases he with z | z
    ·exact nown c b hc z
    ·rw[hc] at z; cases z; exact hb rfl
end

structure Un(fs ex:List Addr)(H H':Hp)(h h':Heap):Prop where
 keep:∀ b o,h.get? b=some o->H b=none->b ∉ fs->b ∉ ex->h'.get? b=some o
 slot:∀ b o,h.get? b=some o->H b=none->b∈fs->b ∉ ex->∃ sl,h'.get? b=some { o with slots:=sl }
 free:∀ b o,h.get? b=some o->H b=none->b ∉ ex->H' b=none
 there:∀ b o,h.get? b=some o->b ∉ ex->∃ o',h'.get? b=some o'
 tups:∀ b xs,H b=some (.tup xs)->H' b=some (.tup xs)
 frzs:∀ b o u,H b=some (.frz o u)->H' b=some (.frz o u)
 tbls:∀ b ps,H b=some (.tbl ps)->∃ more,H' b=some (.tbl (ps++more))
section
variable{fs fs' ex ex':List Addr}{H H1 H2:Hp}{h h1 h2 h':Heap}{a x e:Addr}{o:HO}
theorem Un.any(u:Un fs ex H H1 h h1){b:Addr}{ob:Obj}(q:h.get? b=some ob)(n:H b=none)(hx:b ∉ ex):∃ sl,h1.get? b=some { ob with slots:=sl }:=by
 by_cases hb:b∈fs
 ·exact u.slot b ob q n hb hx
 ·exact⟨ob.slots,u.keep b ob q n hb hx⟩
theorem Un.kept(k:∀ b u,h.get? b=some u->h'.get? b=some u):Un fs ex H H h h' :=
 ⟨λb ob q _ _ _=>k b ob q,λb ob q _ _ _=>⟨ob.slots,k b ob q⟩,λ_ _ _ n _=>n,λb ob q _=>⟨ob,k b ob q⟩,λ_ _ q=>q,λ_ _ _ q=>q,λ_ ps q=>⟨#[],by rw[q]; simp⟩⟩
theorem Un.refl:Un fs ex H H h h:=Un.kept λ_ _ q=>q
theorem Un.laid(k:∀ b u,h.get? b=some u->h'.get? b=some u)(hp:h.objs.size<=a)(hn:H a=none):Un fs ex H (upd H a o) h h' where
 keep:=λb u q _ _ _=>k b u q
 slot:=λb u q _ _ _=>⟨u.slots,k b u q⟩
 free:=λb u q n _=>by rw[yA (Nat.ne_of_lt (Nat.lt_of_lt_of_le (Heap.lt_size q) hp))]; exact n
 there:=λb u q _=>⟨u,k b u q⟩
 tups:=λb xs q=>by rw[yA (xB q hn)]; exact q
 frzs:=λb u xs q=>by rw[yA (xB q hn)]; exact q
 tbls:=λb ps q=>⟨#[],by rw[yA (xB q hn),q]; simp⟩
theorem Un.write(mu:Mut (H x))(he:e=x\/H e=some (.own x))(k:∀ b u,b≠e->h.get? b=some u->h'.get? b=some u)(heo:∃ u,h'.get? e=some u):Un fs ex H (upd H x o) h h':=by
 have hx:∀ b,H b=none->b≠x:=λb n z=>by subst z; rw[n] at mu; exact mu
 have hb:∀ b,H b=none->b≠e:=λb n z=>by
  subst z;rcases he with r | r
  ·exact hx b n r
  ·rw[n] at r; cases r
 have hm:∀ b u,H b=some u->¬ Mut (some u)->b≠x:=λb u q nm z=>by subst z; rw[q] at mu; exact nm mu
 refine⟨λb u q n _ _=>k b u (hb b n) q,λb u q n _ _=>⟨u.slots,k b u (hb b n) q⟩,λb u q n _=>by rw[yA (hx b n)]; exact n,λb u q _=>?_,
  λb xs q=>by rw[yA (hm b _ q λz=>z)]; exact q,λb u xs q=>by rw[yA (hm b _ q λz=>z)]; exact q,λb ps q=>⟨#[],by rw[yA (hm b _ q λz=>z),q]; simp⟩⟩
 by_cases hbe:b=e
 ·subst hbe; exact heo
 ·exact⟨u,k b u hbe q⟩
end

def trk(h:Heap)(H:Hp):List Addr:=(List.range h.objs.size).filter λa=>(H a).isSome
def zRz(h:Heap)(H:Hp):Heap:=PySem.W.hideAll h (trk h H)
theorem zOc(h:Heap)(H:Hp):(zRz h H).objs.size=h.objs.size:=PySem.W.hideAll_size _ _
theorem zRh{h:Heap}{H:Hp}{b:Addr}{o:Obj}(e:h.get? b=some o)(n:H b=none):(zRz h H).get? b=some o :=
 PySem.W.hideAll_get _ e λhm=>by
  have q:(H b).isSome=true:=(List.mem_filter.mp hm).2;rw[n] at q; simp at q
theorem zUj{h:Heap}{H:Hp}{b:Addr}{o:Obj}(e:(zRz h H).get? b=some o):h.get? b=some o/\H b=none:=by
 have e':h.get? b=some o:=PySem.W.of_hideAll (trk h H) e;exists e';cases q:H b with
 | none=>rfl
 | some x =>
  have hm:b∈trk h H:=List.mem_filter.mpr ⟨List.mem_range.mpr (Heap.lt_size e'),by simp[q]⟩;have z:(zRz h H).get? b=none:=PySem.W.hideAll_none (trk h H) hm;rw[z] at e; cases e

end L2

namespace L2
open PySem PySem.Spec PyProof.Rows

structure Mod(K:PySem.W.Frag)(mg:Str->Option Value)(base:Heap):Prop where
 kin:K.In base
 glob:base.Ns mainGlobals mg
 blt:∃ mb,base.Ns builtinsNs mb/\∀ x:Str,x ≠ "__name__" -> mb x=bootBuiltins x
 nolimit:base.NoLimit

structure Cx where
 prog:Program
 w:World
 K:PySem.W.Frag
 mg:Str->Option Value
 base:Heap
 A:Around
 N:List Str
 s₀:Shared
 H₀:Hp
 env:Env
 outer:List Env
 stack:List Env
 ex:List Addr
 fn:Str->Bool
 calm:Bool
 pn:List (Addr×Obj)
 xe:Value->Shared->Prop
def frs(l:List Env):List Addr:=l.filterMap (·.frame)
abbrev Cx.fs(X:Cx):List Addr:=frs X.outer

def Vis(sc:Scope)(x:Str):Prop:=sc.names.lookup x=some .local\/sc.names.lookup x=some .cell\/sc.names.lookup x=some .free
def Loc(sc:Scope)(x:Str):Prop:=sc.names.lookup x=some .local\/sc.names.lookup x=some .cell
def Look(env:Env)(h:Heap)(m:Str->Option Value)(x:Str)(u:Value):Prop :=
 (env.kindOf x=some .local/\m x=some u)\/((env.kindOf x=some .cell\/env.kindOf x=some .free)/\∃ c,env.cells.lookup x=some c/\h.IsCell c (some u))

structure Cx.Ok(X:Cx):Prop where
 mod:Mod X.K X.mg X.base
 kind:X.env.scope.kind=.function
 glob:X.env.globals=mainGlobals
 blt:X.env.builtins=builtinsNs
 above:X.s₀.heap.objs.size<=X.env.locals
 inj:∀ x y c,X.env.cells.lookup x=some c->X.env.cells.lookup y=some c->x=y
 has:∀ x,(X.env.kindOf x=some .cell\/X.env.kindOf x=some .free)->∃ c,X.env.cells.lookup x=some c
 cab:∀ x c,X.fn x=true->X.env.cells.lookup x=some c->X.s₀.heap.objs.size<=c
 hd:X.calm=true->X.A.handled=none
 frames:X.A.frames=some X.stack
 stk:X.stack=X.outer\/(X.stack=X.env::X.outer/\X.env.frame=some X.env.locals)
 exf:∀ b∈X.ex,b≠X.env.locals/\∀ x c,X.env.cells.lookup x=some c->c≠b
 bs:∀ b o,X.base.get? b=some o->X.s₀.heap.get? b=some o/\X.H₀ b=none
 bsz:X.base.objs.size<=X.s₀.heap.objs.size
 noex:∀ b o,X.base.get? b=some o->b ∉ X.ex
 exfs:∀ b∈X.ex,b ∉ X.fs
 funs:X.s₀.heap.FunFrames X.base X.outer
 frf:∀ b∈X.fs,X.H₀ b=none

structure Inv(X:Cx)(pins:List (Addr×Obj))(σ:List (Option V))(H:Hp)(s:Shared):Prop where
 ok:X.Ok
 os:s.os=X.s₀.os
 bare:AllBare s.gens
 base:Un X.fs X.ex X.H₀ H X.s₀.heap s.heap
 loc:∃ m,s.heap.Ns X.env.locals m/\∀(i:Nat)(x:Str)(v:V),X.N[i]?=some x->σ[i]?=some (some v)->Vis X.env.scope x->∃ u,uC v u/\Look X.env s.heap m x u
 cell:∀ x c,X.env.cells.lookup x=some c->∃ v,s.heap.IsCell c v
 free:H X.env.locals=none
 freeC:∀ x c,X.env.cells.lookup x=some c->H c=none
 pin:∀ p∈X.pn++pins,s.heap.get? p.1=some p.2/\H p.1=none/\p.1≠X.env.locals/\p.1 ∉ X.fs/\∀ v,p.2.data≠.cell v
 hok:HOk X.prog X.w H s.heap
 len:σ.length=X.N.length

section
variable{X:Cx}{pins:List (Addr×Obj)}{σ:List (Option V)}{H H':Hp}{s:Shared}{h':Heap}

theorem Cx.Ok.nofr(ok:X.Ok){b:Addr}{o:Obj}(e:X.base.get? b=some o):b ∉ X.fs:=λhb=>by
 have:=(ok.funs.mem hb).1;rw[e] at this; cases this
theorem Inv.bs(I:Inv X pins σ H s):∀ b o,X.base.get? b=some o->s.heap.get? b=some o/\H b=none:=λb o e =>
 ⟨I.base.keep b o (I.ok.bs b o e).1 (I.ok.bs b o e).2 (I.ok.nofr e) (I.ok.noex b o e),I.base.free b o (I.ok.bs b o e).1 (I.ok.bs b o e).2 (I.ok.noex b o e)⟩
theorem Inv.bk(I:Inv X pins σ H s):∀ b o,X.base.get? b=some o->s.heap.get? b=some o:=λb o e=>(I.bs b o e).1
theorem Inv.mod(I:Inv X pins σ H s):Mod X.K X.mg X.base:=I.ok.mod
theorem Inv.kIn(I:Inv X pins σ H s):X.K.In s.heap:=I.ok.mod.kin.keeps I.bk
theorem Inv.lt(I:Inv X pins σ H s):X.env.locals<s.heap.objs.size:=let ⟨_,hn,_⟩:=I.loc; hn.lt
theorem Inv.sz(I:Inv X pins σ H s):X.s₀.heap.objs.size<=s.heap.objs.size:=Nat.le_trans I.ok.above (Nat.le_of_lt I.lt)
theorem Inv.nofs(I:Inv X pins σ H s){a:Addr}(h:s.heap.objs.size<=a):a ∉ X.fs:=λhb=>by
 obtain⟨_,o,ho,_⟩:=I.ok.funs.mem hb;exact absurd (Nat.lt_of_lt_of_le (Heap.lt_size ho) (Nat.le_trans I.sz h)) (Nat.lt_irrefl _)
theorem Inv.cne(I:Inv X pins σ H s):∀ x c,X.env.cells.lookup x=some c->c≠X.env.locals:=λx c e z=>by
 obtain⟨v,o,ho,hd⟩:=I.cell x c e;obtain⟨m,⟨o',es,ep,ho',hd',_⟩,_⟩:=I.loc;rw[z,ho'] at ho; cases ho; rw[hd'] at hd; cases hd
theorem Inv.funs(I:Inv X pins σ H s):s.heap.FunFrames X.base X.outer:=by
 have all:∀(l:List Env),(∀ b∈frs l,b∈X.fs)->X.s₀.heap.FunFrames X.base l->s.heap.FunFrames X.base l:=by
  intro l
  induction l with
  | nil=>intro _ _; trivial
  | cons env r ih =>
   intro hs hl;obtain⟨hk,⟨L,o,hf,hn,ho,hd⟩,hr⟩:=hl;have hL:L∈X.fs:=hs L (by unfold frs; rw[List.filterMap_cons,hf]; exact List.mem_cons_self);obtain⟨sl,e⟩:=I.base.slot L o ho (I.ok.frf L hL) hL λz=>I.ok.exfs L z hL;exact⟨hk,⟨L,_,hf,hn,e,hd⟩,ih (λb hb=>hs b (by unfold frs; rw[List.filterMap_cons,hf]; exact List.mem_cons_of_mem _ hb)) hr⟩
 exact all X.outer (λ_ hb=>hb) I.ok.funs

theorem Inv.stack(I:Inv X pins σ H s):s.heap.FunFrames X.base X.stack:=by
 rcases I.ok.stk with e | ⟨e,hf⟩
 ·rw[e]; exact I.funs
 ·rw[e];obtain⟨m,hn,_⟩:=I.loc;refine .cons (by rw[I.ok.kind]; decide) hf hn ?_ I.funs;exact Heap.get?_none_of_le (Nat.le_trans I.ok.bsz I.ok.above)
theorem Inv.stkSub(I:Inv X pins σ H s):∀ b∈frs X.stack,b∈X.env.locals::X.fs:=λb hb=>by
 rcases I.ok.stk with e | ⟨e,hf⟩
 ·rw[e] at hb; exact List.mem_cons_of_mem _ hb
 ·rw[e] at hb;unfold frs at hb;rw[List.filterMap_cons,hf] at hb;exact hb
theorem Inv.stkFree(I:Inv X pins σ H s):∀ b∈frs X.stack,H b=none:=λb hb=>by
 rcases List.mem_cons.mp (I.stkSub b hb) with e | hb
 ·rw[e]; exact I.free
 ·obtain⟨_,o,ho,_⟩:=I.ok.funs.mem hb;exact I.base.free b o ho (I.ok.frf b hb) λz=>I.ok.exfs b z hb

theorem Inv.step{g':Array GenState}{t':Nat}{d':Drawn}{ch:List Addr}(I:Inv X pins σ H s)
  (hch:∀ b∈ch,(b∈X.ex\/X.s₀.heap.objs.size<=b)/\b≠X.env.locals/\(∀ x c,X.env.cells.lookup x=some c->c≠b)/\∀ p∈X.pn++pins,p.1≠b)
  (keep:∀ b o,b≠X.env.locals->b ∉ X.fs->b ∉ ch->s.heap.get? b=some o->H b=none->h'.get? b=some o)
  (slot:∀ b o,b≠X.env.locals->b∈X.fs->b ∉ ch->s.heap.get? b=some o->H b=none->∃ sl,h'.get? b=some { o with slots:=sl }) (free:∀ b o,b ∉ ch->s.heap.get? b=some o->H b=none->H' b=none)
  (there:∀ b o,b ∉ ch->s.heap.get? b=some o->∃ o',h'.get? b=some o')
  (tups:∀ b xs,H b=some (.tup xs)->H' b=some (.tup xs)) (frzs:∀ b o u,H b=some (.frz o u)->H' b=some (.frz o u)) (tbls:∀ b ps,H b=some (.tbl ps)->∃ more,H' b=some (.tbl (ps++more)))
  (ns:∀ m,s.heap.Ns X.env.locals m->h'.Ns X.env.locals m) (hok:HOk X.prog X.w H' h') (hg:AllBare g') :
  Inv X pins σ H' { s with heap:=h',gens:=g',drawn:=d',toks:=t' }:=by
 have neL:∀ b o,X.s₀.heap.get? b=some o->b≠X.env.locals:=λb o e=>Nat.ne_of_lt (Nat.lt_of_lt_of_le (Heap.lt_size e) I.ok.above);have neC:∀ b o,X.s₀.heap.get? b=some o->b ∉ X.ex->b ∉ ch:=λb o e hx hb=>by
  rcases (hch b hb).1 with z | z
  ·exact hx z
  ·exact absurd (Nat.lt_of_lt_of_le (Heap.lt_size e) z) (Nat.lt_irrefl _)
 have cellK:∀ x c,X.env.cells.lookup x=some c->∀ v,s.heap.IsCell c v->h'.IsCell c v:=λx c e v ⟨o,ho,hd⟩=>by
  have nch:c ∉ ch:=λz=>(hch c z).2.2.1 x c e rfl;by_cases hc:c∈X.fs
  ·obtain⟨sl,q⟩:=slot c o (I.cne x c e) hc nch ho (I.freeC x c e);exact⟨_,q,hd⟩
  ·exact⟨o,keep c o (I.cne x c e) hc nch ho (I.freeC x c e),hd⟩
 refine⟨I.ok,I.os,hg,⟨λb o e n hb hx=>?_,λb o e n hb hx=>?_,λb o e n hx=>?_,λb o e hx=>?_,λb xs e=>tups b xs (I.base.tups b xs e),λb o xs e=>frzs b o xs (I.base.frzs b o xs e),λb ps e=>?_⟩,?_,λx c e=>?_,?_,λx c e=>?_,λp hp=>?_,hok,I.len⟩
 ·exact keep b o (neL b o e) hb (neC b o e hx) (I.base.keep b o e n hb hx) (I.base.free b o e n hx)
 ·obtain⟨sl,e1⟩:=I.base.slot b o e n hb hx;obtain⟨sl',e2⟩:=slot b _ (neL b o e) hb (neC b o e hx) e1 (I.base.free b o e n hx);exact⟨sl',e2⟩
 ·obtain⟨o',e1⟩:=I.base.there b o e hx;exact free b o' (neC b o e hx) e1 (I.base.free b o e n hx)
 ·obtain⟨o',e1⟩:=I.base.there b o e hx;exact there b o' (neC b o e hx) e1
 ·obtain⟨m1,e1⟩:=I.base.tbls b ps e;obtain⟨m2,e2⟩:=tbls b _ e1;exact⟨m1++m2,by rw[e2,Array.append_assoc]⟩
 ·obtain⟨m,hn,hl⟩:=I.loc;refine⟨m,ns m hn,λi x v e1 e2 e3=>?_⟩;obtain⟨u,r,l⟩:=hl i x v e1 e2 e3;exists u,r;rcases l with l | ⟨k,c,e,z⟩
  ·exact .inl l
  ·exact .inr ⟨k,c,e,cellK x c e _ z⟩
 ·obtain⟨v,z⟩:=I.cell x c e;exact⟨v,cellK x c e v z⟩
 ·obtain⟨m,⟨o,_,_,ho,_⟩,_⟩:=I.loc;exact free _ o (λz=>(hch _ z).2.1 rfl) ho I.free
 ·obtain⟨v,o,ho,hd⟩:=I.cell x c e;exact free c o (λz=>(hch c z).2.2.1 x c e rfl) ho (I.freeC x c e)
 ·obtain⟨e,n,ne,nf,d⟩:=I.pin p hp;have nch:p.1 ∉ ch:=λz=>(hch p.1 z).2.2.2 p hp rfl;exact⟨keep p.1 p.2 ne nf nch e n,free p.1 p.2 nch e n,ne,nf,d⟩
theorem Inv.un{t':Nat}(I:Inv X pins σ H s)(u:Un X.fs [] H H' s.heap h')(hok:HOk X.prog X.w H' h'):Inv X pins σ H' { s with heap:=h',toks:=t' }:=by
 obtain⟨m,⟨o,es,ep,ho,r⟩,_⟩:=id I.loc;obtain⟨sl,hL⟩:=u.any ho I.free (by simp);exact I.step (g':=s.gens) (d':=s.drawn) (ch:=[]) (λ_ z=>nomatch z) (λb o _ hb _ e n=>u.keep b o e n hb (by simp)) (λb o _ hb _ e n=>u.slot b o e n hb (by simp)) (λb o _ e n=>u.free b o e n (by simp)) (λb o _ e=>u.there b o e (by simp)) u.tups u.frzs u.tbls (λm' hm=>by
  obtain⟨o',es',ep',ho',r'⟩:=hm;rw[ho] at ho'; cases ho';exact⟨_,es',ep',hL,r'⟩) hok I.bare
theorem Inv.call{g':Array GenState}{t':Nat}{d':Drawn}{ch:List Addr}(I:Inv X pins σ H s)(u:Un (frs X.stack) ch H H' s.heap h')(hok:HOk X.prog X.w H' h')(hg:AllBare g')
  (hch:∀ b∈ch,(b∈X.ex\/X.s₀.heap.objs.size<=b)/\b≠X.env.locals/\(∀ x c,X.env.cells.lookup x=some c->c≠b)/\∀ p∈X.pn++pins,p.1≠b) :
  Inv X pins σ H' { s with heap:=h',gens:=g',drawn:=d',toks:=t' }:=by
 obtain⟨m,⟨o,es,ep,ho,r⟩,_⟩:=id I.loc;obtain⟨sl,hL⟩:=u.any ho I.free λz=>(hch _ z).2.1 rfl;exact I.step (ch:=ch) hch (λb o hL hb hc e n=>u.keep b o e n (λz=>(List.mem_cons.mp (I.stkSub b z)).elim hL hb) hc) (λb o _ _ hc e n=>u.any e n hc) (λb o hc e n=>u.free b o e n hc) (λb o hc e=>u.there b o e hc) u.tups u.frzs u.tbls (λm' hm=>by
  obtain⟨o',es',ep',ho',r'⟩:=hm;rw[ho] at ho'; cases ho';exact⟨_,es',ep',hL,r'⟩) hok hg
theorem Inv.turned{t':Nat}{it:Addr}(I:Inv X pins σ H s)(k:∀ b o,b≠it->s.heap.get? b=some o->h'.get? b=some o)(hn:H it=none)(hL:it≠X.env.locals)
  (h1:it∈X.ex\/X.s₀.heap.objs.size<=it) (h2:∀ x c,X.env.cells.lookup x=some c->c≠it) (h3:∀ p∈X.pn++pins,p.1≠it):Inv X pins σ H { s with heap:=h',toks:=t' }:=by
 have nit:∀ b u,H b=some u->b≠it:=λb u e z=>by rw[z,hn] at e; cases e
 refine I.step (g':=s.gens) (d':=s.drawn) (ch:=[it]) (λb hb=>?_) (λb o _ _ hc e _=>k b o (λz=>hc (by simp[z])) e) (λb o _ _ hc e _=>⟨o.slots,k b o (λz=>hc (by simp[z])) e⟩) (λ_ _ _ _ n=>n)
  (λb o hc e=>⟨o,k b o (λz=>hc (by simp[z])) e⟩) (λ_ _ e=>e) (λ_ _ _ e=>e) (λb ps e=>⟨#[],by rw[e]; simp⟩) (λm hm=>?_) (λb u e=>?_) I.bare
 ·have e:b=it:=by simpa using hb
  subst e;exact⟨h1,hL,h2,h3⟩
 ·obtain⟨o,es,ep,ho,r⟩:=hm;exact⟨o,es,ep,k _ o (Ne.symm hL) ho,r⟩
 ·refine(I.hok b u e).stay (λc v hc q=>k c v ?_ q) (λ_ q=>q) λ_ _ q=>q;rcases hc with z | z
  ·rw[z]; exact nit b u e
  ·exact nit c _ z
theorem Inv.tok(I:Inv X pins σ H s)(t:Nat):Inv X pins σ H { s with toks:=t }:=I.un (h':=s.heap) (t':=t) Un.refl I.hok
theorem Inv.kept{t':Nat}(I:Inv X pins σ H s)(k:∀ b u,s.heap.get? b=some u->h'.get? b=some u):Inv X pins σ H { s with heap:=h',toks:=t' }:=I.un (Un.kept k) (I.hok.kept k)
theorem Inv.laid{a:Addr}{o:HO}{t':Nat}(I:Inv X pins σ H s)(k:∀ b u,s.heap.get? b=some u->h'.get? b=some u)(hp:s.heap.objs.size<=a)(new:vF X.prog X.w (upd H a o) h' a o) :
  Inv X pins σ (upd H a o) { s with heap:=h',toks:=t' }:=I.un (Un.laid k hp (I.hok.fresh hp)) (I.hok.laid k hp new)
theorem Inv.write{x e:Addr}{o:HO}{t':Nat}(I:Inv X pins σ H s)(mu:Mut (H x))(he:e=x\/H e=some (.own x))(k:∀ b u,b≠e->s.heap.get? b=some u->h'.get? b=some u)(heo:∃ u,h'.get? e=some u)
  (new:vF X.prog X.w (upd H x o) h' x o):Inv X pins σ (upd H x o) { s with heap:=h',toks:=t' }:=I.un (Un.write mu he k heo) (I.hok.write mu he k heo new)
theorem Inv.pins_of{pins':List (Addr×Obj)}(I:Inv X pins σ H s)(h:∀ p∈pins',s.heap.get? p.1=some p.2/\H p.1=none/\p.1≠X.env.locals/\p.1 ∉ X.fs/\∀ v,p.2.data≠.cell v):Inv X pins' σ H s :=
 ⟨I.ok,I.os,I.bare,I.base,I.loc,I.cell,I.free,I.freeC,λp hp=>(List.mem_append.mp hp).elim (λz=>I.pin p (List.mem_append_left _ z)) (h p),I.hok,I.len⟩

theorem zLi{N:List Str}(hN:N.Nodup){i j:Nat}{x:Str}(a:N[i]?=some x)(b:N[j]?=some x):i=j:=by
 obtain⟨h1,e1⟩:=List.getElem?_eq_some_iff.mp a;obtain⟨h2,e2⟩:=List.getElem?_eq_some_iff.mp b;exact(List.getElem_inj hN).mp (e1.trans e2.symm)

theorem zI8{M:Model}{A:Around}{E:Value->Shared->Prop}{i:Nat}{x:Str}{v:V}{u:Value}{Q:Unit->Shared->Prop}(I:Inv X pins σ H s)(hN:X.N.Nodup)(hi:X.N[i]?=some x)(hx:Loc X.env.scope x)(r:uC v u)
  (h:∀ s',Inv X pins (σ.set i (some v)) H s'->(∃ a,Heap.SameBut a s.heap s'.heap/\(a=X.env.locals\/X.env.cells.lookup x=some a))->Q () s') (hf:X.fn x=true\/X.env.scope.names.lookup x=some .local:=by first | exact .inl rfl | exact .inr rfl | assumption):wpAny M A (storeName X.env x u) Q E s:=by
 obtain⟨m,hn,hl⟩:=id I.loc;have hcls:(X.env.scope.kind == .class||(X.env.scope.kind == .module&&X.env.locals != X.env.globals))=false:=by rw[I.ok.kind]; rfl
 have hiσ:i<σ.length:=by rw[I.len]; exact(List.getElem?_eq_some_iff.mp hi).1
 have cne:=I.cne;have tracked:∀{a:Addr}{h':Heap},(∃ o,s.heap.get? a=some o/\H a=none)->Heap.SameBut a s.heap h'->HOk X.prog X.w H h':=λ{a h'} ha hs b ob e=>by
  obtain⟨_,_,hfree⟩:=ha;refine(I.hok b ob e).stay (λc w' hc q=>(hs.2 c ?_).trans q) (λ_ q=>q) λ_ _ q=>q;rintro rfl;rcases hc with rfl | hc
  ·rw[hfree] at e; cases e
  ·rw[hfree] at hc; cases hc
 rcases hx with hk | hk
 ·refine wpAny_storeName_local hk hn (λh' hn' hs=>?_) hcls;obtain⟨oL,_,_,hoL,_⟩:=id hn;refine h _ ⟨I.ok,I.os,I.bare,⟨λb o e n hb hx=>?_,λb o e n hb hx=>?_,I.base.free,λb o e hx=>?_,I.base.tups,I.base.frzs,I.base.tbls⟩,⟨_,hn',λj y v' e1 e2 e3=>?_⟩,λy c e=>?_,I.free,I.freeC,λp hp=>?_,tracked ⟨oL,hoL,I.free⟩ hs,by simpa using I.len⟩ ⟨_,hs,.inl rfl⟩
  ·exact(hs.2 b (Nat.ne_of_lt (Nat.lt_of_lt_of_le (Heap.lt_size e) I.ok.above))).trans (I.base.keep b o e n hb hx)
  ·obtain⟨sl,e1⟩:=I.base.slot b o e n hb hx;exact⟨sl,(hs.2 b (Nat.ne_of_lt (Nat.lt_of_lt_of_le (Heap.lt_size e) I.ok.above))).trans e1⟩
  ·obtain⟨o',e1⟩:=I.base.there b o e hx;exact⟨o',(hs.2 b (Nat.ne_of_lt (Nat.lt_of_lt_of_le (Heap.lt_size e) I.ok.above))).trans e1⟩
  ·by_cases hj:j=i
   ·subst hj;rw[hi] at e1; cases e1;rw[List.getElem?_set_self hiσ] at e2;cases e2;exact⟨u,r,.inl ⟨hk,by simp⟩⟩
   ·rw[List.getElem?_set_ne (Ne.symm hj)] at e2;obtain⟨u',r',q⟩:=hl j y v' e1 e2 e3;exists u',r';rcases q with ⟨k,e⟩ | ⟨k,c,e,z⟩
    ·refine .inl ⟨k,?_⟩;have:y≠x:=λe=>hj (zLi hN e1 (e ▸ hi));simp[this,e]
    ·exact .inr ⟨k,c,e,z.sameBut hs (cne y c e)⟩
  ·obtain⟨w',z⟩:=I.cell y c e;exact⟨w',z.sameBut hs (cne y c e)⟩
  ·obtain⟨e,n,ne,nf,d⟩:=I.pin p hp;exact⟨(hs.2 p.1 ne).trans e,n,ne,nf,d⟩
 ·have hfn:X.fn x=true:=by
   rcases hf with z | z
   ·exact z
   ·rw[z] at hk; cases hk
  obtain⟨c,hc⟩:=I.ok.has x (.inl hk);obtain⟨w',z⟩:=I.cell x c hc;refine wpAny_storeName_cell I.ok.kind hk hc z (λh' hc' hs=>?_);obtain⟨oc,hoc,hocd⟩:=id z;refine h { s with heap:=h' } ⟨I.ok,I.os,I.bare,⟨λb o e n hb hx=>?_,λb o e n hb hx=>?_,I.base.free,λb o e hx=>?_,I.base.tups,I.base.frzs,I.base.tbls⟩,⟨m,hn.sameBut hs (Ne.symm (cne x c hc)),λj y v' e1 e2 e3=>?_⟩,λy c' e=>?_,I.free,I.freeC,λp hp=>?_,tracked ⟨oc,hoc,I.freeC x c hc⟩ hs,by simpa using I.len⟩ ⟨c,hs,.inr hc⟩
  ·exact(hs.2 b (Nat.ne_of_lt (Nat.lt_of_lt_of_le (Heap.lt_size e) (I.ok.cab x c hfn hc)))).trans (I.base.keep b o e n hb hx)
  ·obtain⟨sl,e1⟩:=I.base.slot b o e n hb hx;exact⟨sl,(hs.2 b (Nat.ne_of_lt (Nat.lt_of_lt_of_le (Heap.lt_size e) (I.ok.cab x c hfn hc)))).trans e1⟩
  ·obtain⟨o',e1⟩:=I.base.there b o e hx;exact⟨o',(hs.2 b (Nat.ne_of_lt (Nat.lt_of_lt_of_le (Heap.lt_size e) (I.ok.cab x c hfn hc)))).trans e1⟩
  ·by_cases hj:j=i
   ·subst hj;rw[hi] at e1; cases e1;rw[List.getElem?_set_self hiσ] at e2;cases e2;exact⟨u,r,.inr ⟨.inl hk,c,hc,hc'⟩⟩
   ·rw[List.getElem?_set_ne (Ne.symm hj)] at e2;obtain⟨u',r',q⟩:=hl j y v' e1 e2 e3;exists u',r';rcases q with q | ⟨k,c',e,z'⟩
    ·exact .inl q
    ·refine .inr ⟨k,c',e,z'.sameBut hs ?_⟩;rintro rfl;exact hj (zLi hN e1 (I.ok.inj _ _ _ e hc ▸ hi))
  ·by_cases hcc:c'=c
   ·subst hcc; exact⟨_,hc'⟩
   ·obtain⟨w2,z2⟩:=I.cell y c' e;exact⟨w2,z2.sameBut hs hcc⟩
  ·obtain⟨e,n,ne,nf,d⟩:=I.pin p hp;refine⟨(hs.2 p.1 ?_).trans e,n,ne,nf,d⟩;intro q;rw[q,hoc] at e;have q':oc=p.2:=Option.some.inj e;exact d w' (by rw[<- q']; exact hocd)
theorem zDu{M:Model}{A:Around}{E:Value->Shared->Prop}{i:Nat}{x:Str}{v:V}{u:Value}{Q:Unit->Shared->Prop}(I:Inv X pins σ H s)(hN:X.N.Nodup)(hi:X.N[i]?=some x)(hx:Loc X.env.scope x)(r:uC v u)
  (h:∀ s',Inv X pins (σ.set i (some v)) H s'->Q () s') (hf:X.fn x=true\/X.env.scope.names.lookup x=some .local:=by first | exact .inl rfl | exact .inr rfl | assumption):wpAny M A (storeName X.env x u) Q E s :=
 zI8 I hN hi hx r (λs' I' _=>h s' I') hf
theorem Inv.call'{s':Shared}{ch:List Addr}(I:Inv X pins σ H s)(ho:s'.os=s.os)(u:Un (frs X.stack) ch H H' s.heap s'.heap)(hok:HOk X.prog X.w H' s'.heap)(hg:AllBare s'.gens)
  (hch:∀ b∈ch,(b∈X.ex\/X.s₀.heap.objs.size<=b)/\b≠X.env.locals/\(∀ x c,X.env.cells.lookup x=some c->c≠b)/\∀ p∈X.pn++pins,p.1≠b):Inv X pins σ H' s':=by
 obtain⟨h',g',d',t',o'⟩:=s';have e:o'=s.os:=ho;subst e;exact I.call (g':=g') (t':=t') (d':=d') u hok hg hch
end

abbrev XK:=Value->Option Addr->Hp->Prop
abbrev St:=List (Option V)
abbrev VK:=V->Hp->Prop
abbrev TE:=St->Hp->VK->Prop
abbrev TT:=St->Hp->(Bool->Hp->Prop)->Prop
abbrev TA:=St->Hp->(List V->Hp->Prop)->Prop
structure zM7 where
 nx:St->Hp->Prop
 rt:VK
 bk:St->Hp->Prop:=λ_ _=>False
 ct:St->Hp->Prop:=λ_ _=>False
abbrev TS:=zM7->St->Hp->Prop

def EP(X:Cx)(pins:List (Addr×Obj))(σ:St)(Q:VK)(u:Value)(s':Shared):Prop:=∃ v H',Inv X pins σ H' s'/\uC v u/\Q v H'
def TP(X:Cx)(pins:List (Addr×Obj))(σ:St)(Q:Bool->Hp->Prop)(b:Bool)(s':Shared):Prop:=∃ H',Inv X pins σ H' s'/\Q b H'
def AP(X:Cx)(pins:List (Addr×Obj))(σ:St)(Q:List V->Hp->Prop)(us:List Value)(s':Shared):Prop:=∃ vs H',Inv X pins σ H' s'/\yW vs us/\Q vs H'
def SP(X:Cx)(pins:List (Addr×Obj))(D:zM7)(f:Flow)(s':Shared):Prop :=
 match f with
 | .next=>∃ σ' H',Inv X pins σ' H' s'/\D.nx σ' H'
 | .brk=>∃ σ' H',Inv X pins σ' H' s'/\D.bk σ' H'
 | .cont=>∃ σ' H',Inv X pins σ' H' s'/\D.ct σ' H'
 | .ret u=>∃ v σ' H',Inv X pins σ' H' s'/\uC v u/\D.rt v H'

def PE(X:Cx)(e:Expr)(t:TE):Prop :=
 ∀(pins:List (Addr×Obj))(s:Shared)(σ:St)(H:Hp)(Q:VK),Inv X pins σ H s->t σ H Q->wpAny (model X.prog X.w) X.A (eval e X.env) (EP X pins σ Q) X.xe s
def PT(X:Cx)(e:Expr)(t:TT):Prop :=
 ∀(pins:List (Addr×Obj))(s:Shared)(σ:St)(H:Hp)(Q:Bool->Hp->Prop),Inv X pins σ H s->t σ H Q->wpAny (model X.prog X.w) X.A (isTrue e X.env (eval e X.env)) (TP X pins σ Q) X.xe s
def PW(X:Cx)(e:Expr)(t:TT):Prop :=
 ∀(whole:Sem Value)(pins:List (Addr×Obj))(s:Shared)(σ:St)(H:Hp)(Q:Bool->Hp->Prop),Inv X pins σ H s->t σ H Q->wpAny (model X.prog X.w) X.A (isTrue e X.env whole) (TP X pins σ Q) X.xe s
theorem PW.pt{X:Cx}{e:Expr}{t:TT}(h:PW X e t):PT X e t:=h _
def PA(X:Cx)(es:List Expr)(t:TA):Prop :=
 ∀(pos:Pos)(pins:List (Addr×Obj))(s:Shared)(σ:St)(H:Hp)(Q:List V->Hp->Prop),Inv X pins σ H s->t σ H Q->wpAny (model X.prog X.w) X.A (spliced (backTo pos (starEach es X.env))) (AP X pins σ Q) X.xe s
def PS(X:Cx)(st:Stmt)(t:TS):Prop :=
 ∀(pins:List (Addr×Obj))(s:Shared)(σ:St)(H:Hp)(D:zM7),Inv X pins σ H s->t D σ H->wpAny (model X.prog X.w) X.A (exec st X.env) (SP X pins D) X.xe s
def PSs(X:Cx)(st:List Stmt)(t:TS):Prop :=
 ∀(pins:List (Addr×Obj))(s:Shared)(σ:St)(H:Hp)(D:zM7),Inv X pins σ H s->t D σ H->wpAny (model X.prog X.w) X.A (execs st X.env) (SP X pins D) X.xe s
theorem thn{α:Type}{t:Sem α}{Q Q':α->Shared->Prop}{M:Model}{A:Around}{E:Value->Shared->Prop}{s:Shared}(h:wpAny M A t Q E s)(hQ:∀ a s,Q a s->Q' a s):wpAny M A t Q' E s:=wpAny_mono h hQ λ_ _ x=>x
end L2

namespace L2
open PySem PySem.Spec PyProof.Rows
section
variable{X:Cx}

theorem bin{a b:Expr}{ta tb:TE}(ha:PE X a ta)(hb:PE X b tb){pins:List (Addr×Obj)}{s:Shared}{σ:St}{H:Hp}{R:V->V->Hp->Prop}(I:Inv X pins σ H s)(h:ta σ H λx H1=>tb σ H1 λy H2=>R x y H2)
  {α:Type} {Q:α->Shared->Prop} {f:Value->Value->Sem α}
  (hf:∀ v u s2 x y H2,Inv X pins σ H2 s2->uC x v->uC y u->R x y H2->wpAny (model X.prog X.w) X.A (f v u) Q X.xe s2) :
  wpAny (model X.prog X.w) X.A (eval a X.env) (λv s₁=>wpAny (model X.prog X.w) X.A (eval b X.env) (λu s₂=>wpAny (model X.prog X.w) X.A (f v u) Q X.xe s₂) X.xe s₁) X.xe s:=by
 refine thn (ha pins s σ H _ I h) λv s1 ⟨x,H1,I1,r1,q1⟩=>?_;refine thn (hb pins s1 σ H1 _ I1 q1) λu s2 ⟨y,H2,I2,r2,q2⟩=>?_;exact hf v u s2 x y H2 I2 r1 r2 q2

inductive TVar(i:Nat)(σ:St)(H:Hp)(Q:VK):Prop where
 | mk (v:V) (e:σ[i]?=some (some v)) (q:Q v H)
def zQf(i:Nat):TE:=λσ H Q=>TVar i σ H Q
def tC(v:V):TE:=λ_ H Q=>Q v H
theorem zVd{i:Nat}{x:Str}{pos:Pos}(hN:X.N[i]?=some x)(hv:Vis X.env.scope x)(hd:(x ==("__debug__" : Str))=false:=by decide)(hcd:(x ==("__classdict__" : Str))=false:=by decide):PE X (.Name x pos) (zQf i):=by
 intro pins s σ H Q I h;obtain⟨v,e,h⟩:=h;obtain⟨m,hn,hl⟩:=I.loc;obtain⟨u,r,l⟩:=hl i x v hN e hv;have fin:EP X pins σ Q u s:=⟨v,H,I,r,h⟩;rcases l with ⟨hk,hm⟩ | ⟨hk,c,hc,hcell⟩
 ·exact wpAny_Name (wpAny_loadName_local I.ok.kind hk hn hm fin) hd
 ·rcases hk with hk | hk
  ·exact wpAny_Name (wpAny_loadName_cell I.ok.kind hk hc hcell fin) hd
  ·exact wpAny_Name (wpAny_loadName_free I.ok.kind hk hc hcell fin hcd) hd
theorem uG{i j pos} : PE X (.Constant (.int i) j pos) (tC (.int i)):=λ_ _ _ H _ I h=>wpAny_Constant_int ⟨.int i,H,I.tok _,⟨_,rfl⟩,h⟩
theorem vR{b j pos} : PE X (.Constant (.bool b) j pos) (tC (.bl b)):=λ_ _ _ H _ I h=>Constant_bool ⟨.bl b,H,I,rfl,h⟩
theorem uW{j pos} : PE X (.Constant .none j pos) (tC .non):=λ_ _ _ H _ I h=>Constant_none ⟨.non,H,I,rfl,h⟩
theorem zGe{x j pos} : PE X (.Constant (.str x) j pos) (tC (.str x)):=λ_ _ _ H _ I h=>Calls.Constant_str ⟨.str x,H,I.tok _,⟨_,rfl⟩,h⟩

def Gl(X:Cx)(x:Str):Prop:=X.env.kindOf x=some .globalImplicit
theorem zS6{E:Value->Shared->Prop}{pins:List (Addr×Obj)}{s:Shared}{σ:St}{H:Hp}{x:Str}{u:Value}{pos:Pos}{Q:Value->Shared->Prop}(I:Inv X pins σ H s)(hg:Gl X x)(hm:X.mg x=some u)(h:Q u s)
  (hd:(x ==("__debug__" : Str))=false:=by decide):wpAny (model X.prog X.w) X.A (eval (.Name x pos) X.env) Q E s :=
 Calls.Name_function_global I.ok.kind hg (Calls.loadGlobal_global (by rw[I.ok.glob]; exact I.mod.glob.keeps I.bk) hm h) hd
theorem zGn{E:Value->Shared->Prop}{pins:List (Addr×Obj)}{s:Shared}{σ:St}{H:Hp}{x:Str}{u:Value}{pos:Pos}{Q:Value->Shared->Prop}(I:Inv X pins σ H s)(hg:Gl X x)(hm:X.mg x=none)(hv:bootBuiltins x=some u)(h:Q u s)
  (hn:x ≠ "__name__" := by decide) (hd:(x ==("__debug__" : Str))=false:=by decide):wpAny (model X.prog X.w) X.A (eval (.Name x pos) X.env) Q E s:=by
 obtain⟨mb,h1,h2⟩:=I.mod.blt;exact Calls.Name_function_global I.ok.kind hg (Calls.loadGlobal_builtin (by rw[I.ok.glob]; exact I.mod.glob.keeps I.bk) hm (by rw[I.ok.blt]; exact h1.keeps I.bk) ((h2 x hn).trans hv) h) hd
theorem zFb{x:Str}{v:V}{u:Value}{pos:Pos}(hg:Gl X x)(hm:X.mg x=none)(hv:bootBuiltins x=some u)(r:uC v u)(hn:x ≠ "__name__" := by decide)(hd:(x ==("__debug__" : Str))=false:=by decide):PE X (.Name x pos) (tC v) :=
 λ_ _ _ H _ I h=>zGn I hg hm hv ⟨v,H,I,r,h⟩ hn hd

variable{a b:Expr}{ta tb:TE}{pos:Pos}
def PC(X:Cx)(op:CmpOp)(a b:Expr)(t:TE):Prop :=
 ∀(pins:List (Addr×Obj))(s:Shared)(σ:St)(H:Hp)(Q:VK),Inv X pins σ H s->t σ H Q ->
  wpAny (model X.prog X.w) X.A (eval a X.env) (λv s₁=>wpAny (model X.prog X.w) X.A (eval b X.env) (λu s₂=>wpAny (model X.prog X.w) X.A (compareOp op v u) (EP X pins σ Q) X.xe s₂) X.xe s₁) X.xe s
def tB(t:TE):TT:=λσ H Q=>t σ H λx H1=>∃ c,x=.bl c/\Q c H1
theorem pt_cmp{op:CmpOp}{t:TE}(h:PC X op a b t)(h1:behindInMarks op b=false:=by first | exact nobehind _ (by decide) (by decide) | rfl):PT X (.Compare a [op] [b] pos) (tB t):=by
 intro pins s σ H Q I hw;refine wpAny_isTrue_Compare1 (thn (h pins s σ H _ I hw) λv s1 h1=>thn h1 λu s2 h2=>thn h2 λc s3 ⟨x,H1,I1,r1,q1⟩=>?_) h1;obtain⟨d,rfl,q⟩:=q1;cases r1;exact wpAny_truthy_bool ⟨H1,I1,q⟩
theorem zV0{e:Expr}{t:TE}(h:PE X e t)(he:∀ whole,isTrue e X.env whole=(do let v <- whole; standAt e.pos; holding [v] (truthy v)):=by intro _; rfl):PT X e (tB t):=by
 intro pins s σ H Q I hw;refine isTrue_plain (thn (h pins s σ H _ I hw) λv s1 ⟨x,H1,I1,r1,q1⟩=>?_) (he _);obtain⟨d,rfl,q⟩:=q1;cases r1;exact wpAny_truthy_bool ⟨H1,I1,q⟩

variable{tA tB':TT}{rest:List Expr}
def tAnd(t u:TT):TT:=λσ H Q=>t σ H λc H1=>if c=true then u σ H1 Q else Q false H1
def tOr(t u:TT):TT:=λσ H Q=>t σ H λc H1=>if c=true then Q true H1 else u σ H1 Q
def tNot(t:TT):TT:=λσ H Q=>t σ H λc H1=>Q (!c) H1
theorem zP8(ha:PT X a tA):PW X (.BoolOp .And [a] pos) tA:=by
 intro wh pins s σ H Q I h;refine isTrue_and (thn (ha pins s σ H Q I h) λc s1 e=>?_);cases c with
 | true=>exact isTrue_and_nil e
 | false=>exact e
theorem zDa(ha:PT X a tA):PW X (.BoolOp .Or [a] pos) tA:=by
 intro wh pins s σ H Q I h;refine isTrue_or (thn (ha pins s σ H Q I h) λc s1 e=>?_);cases c with
 | false=>exact isTrue_or_nil e
 | true=>exact e
theorem zSs(ha:PT X a tA)(hb:PW X (.BoolOp .And (b::rest) pos) tB'):PW X (.BoolOp .And (a::b::rest) pos) (tAnd tA tB'):=by
 intro wh pins s σ H Q I h;refine isTrue_and (thn (ha pins s σ H _ I h) λc s1 ⟨H1,I1,q1⟩=>?_);cases c with
 | true=>exact hb wh pins s1 σ H1 Q I1 q1
 | false=>exact⟨H1,I1,q1⟩
theorem zDl(ha:PT X a tA)(hb:PW X (.BoolOp .Or (b::rest) pos) tB'):PW X (.BoolOp .Or (a::b::rest) pos) (tOr tA tB'):=by
 intro wh pins s σ H Q I h;refine isTrue_or (thn (ha pins s σ H _ I h) λc s1 ⟨H1,I1,q1⟩=>?_);cases c with
 | true=>exact⟨H1,I1,q1⟩
 | false=>exact hb wh pins s1 σ H1 Q I1 q1
theorem zKz(ha:PT X a tA):PT X (.UnaryOp .Not a pos) (tNot tA):=by
 intro pins s σ H Q I h;exact isTrue_not (ha pins s σ H (λc H1=>Q (!c) H1) I h)
def tAndV(ta tb:TE):TE:=λσ H Q=>ta σ H λx H1=>∃ c,x=.bl c/\if c=true then tb σ H1 Q else Q (.bl false) H1
def tNotV(ta:TE):TE:=λσ H Q=>ta σ H λx H1=>∃ c,x=.bl c/\Q (.bl (!c)) H1
theorem zGb{op}{t:TE}(h:PE X a t):PE X (.BoolOp op [a] pos) t:=λpins s σ H Q I hw=>BoolOp_one (h pins s σ H Q I hw)
theorem zGr(ha:PE X a ta)(hb:PE X (.BoolOp .And (b::rest) pos) tb):PE X (.BoolOp .And (a::b::rest) pos) (tAndV ta tb):=by
 intro pins s σ H Q I h;refine BoolOp_and (thn (ha pins s σ H _ I h) λv s1 ⟨x,H1,I1,r1,q1⟩=>?_);obtain⟨c,rfl,q1⟩:=q1;cases r1;refine wpAny_truthy_bool ?_;cases c with
 | true=>exact hb pins s1 σ H1 Q I1 q1
 | false=>exact⟨.bl false,H1,I1,rfl,q1⟩
theorem zSv(ha:PE X a ta):PE X (.UnaryOp .Not a pos) (tNotV ta):=by
 intro pins s σ H Q I h;refine UnaryOp_ (thn (ha pins s σ H _ I h) λv s1 ⟨x,H1,I1,r1,q1⟩=>?_);obtain⟨c,rfl,q1⟩:=q1;cases r1;exact not_of (wpAny_truthy_bool ⟨.bl (!c),H1,I1,rfl,q1⟩)
def tIf(t:TT)(ta tb:TE):TE:=λσ H Q=>t σ H λc H1=>if c=true then ta σ H1 Q else tb σ H1 Q
theorem zQ2{c:Expr}(hc:PT X c tA)(ha:PE X a ta)(hb:PE X b tb):PE X (.IfExp c a b pos) (tIf tA ta tb):=by
 intro pins s σ H Q I h;refine wpAny_IfExp (thn (hc pins s σ H _ I h) λd s1 ⟨H1,I1,q1⟩=>?_);cases d with
 | true=>exact ha pins s1 σ H1 Q I1 q1
 | false=>exact hb pins s1 σ H1 Q I1 q1
end
end L2

namespace L2
open PySem PySem.Spec PyProof.Rows

def SqL(K:PySem.W.Frag)(H:Hp)(a:Addr)(xs:List V):Prop :=
 Rd H a (.lst xs) \/
  ∃(o:Obj)(its:Array Value)(n:Nat),K.lookup a=some o/\o.cls=.type "list" /\ o.dict=none/\o.data=.seq its n/\its.size<=sizeLine/\yW xs its.toList
def SqT(K:PySem.W.Frag)(H:Hp)(a:Addr)(xs:List V):Prop :=
 Rd H a (.tup xs) \/
  ∃(o:Obj)(its:Array Value)(n:Nat),K.lookup a=some o/\o.cls=.type "tuple" /\ o.data=.seq its n/\its.size<=sizeLine/\yW xs its.toList
def absV:Value->Option V
 | .none=>some .non
 | .bool b=>some (.bl b)
 | .int i _=>some (.int i)
 | .str x _=>some (.str x)
 | .bytes b _=>some (.byt b)
 | .float b _=>some (.flt b)
 | .ref a=>some (.ref a)
 | .type n=>some (.ty n)
 | _=>none
theorem uC.abs{x:V}{u:Value}(r:uC x u):absV u=some x:=by
 cases x with
 | non=>cases r; rfl
 | bl _=>cases r; rfl
 | int _=>obtain⟨t,rfl⟩:=r; rfl
 | str _=>obtain⟨t,rfl⟩:=r; rfl
 | byt _=>obtain⟨t,rfl⟩:=r; rfl
 | flt _=>obtain⟨t,rfl⟩:=r; rfl
 | ref _=>cases r; rfl
 | ty _=>cases r; rfl
theorem uC.inj{x y:V}{u:Value}(r:uC x u)(q:uC y u):x=y:=Option.some.inj (r.abs.symm.trans q.abs)
theorem yW.inj:∀{xs ys:List V}{us:List Value},yW xs us->yW ys us->xs=ys
 | _,_,_,.nil,.nil=>rfl
 | _,_,_,.cons r t,.cons r' t'=>by rw[r.inj r',yW.inj t t']
section
variable{X:Cx}{pins:List (Addr×Obj)}{σ:St}{H:Hp}{s:Shared}{a:Addr}{xs ys:List V}
theorem SqL.of{K:PySem.W.Frag}(h:H a=some (.lst xs)):SqL K H a xs:=.inl (.inl h)
theorem SqT.of{K:PySem.W.Frag}(h:H a=some (.tup xs)):SqT K H a xs:=.inl (.inl h)
theorem Inv.list(I:Inv X pins σ H s)(h:SqL X.K H a xs):∃ its:List Value,yW xs its/\PlainL s.heap a its.toArray/\xs.length<=sizeLine:=by
 rcases h with h | ⟨o,its,n,hk,hc,hd,hs,hz,r⟩
 ·obtain⟨z,its,n,r,e⟩:=h.ok I.hok;exact⟨its,r,⟨_,n,e,rfl,rfl,rfl⟩,z⟩
 ·exists its.toList,r,⟨o,n,I.kIn a o hk,hc,hd,by simpa using hs⟩;have e:=r.length;simp only[Array.length_toList] at e;lia
theorem Inv.tuple(I:Inv X pins σ H s)(h:SqT X.K H a xs):∃ its:List Value,yW xs its/\IsTup s.heap a its.toArray/\xs.length<=sizeLine:=by
 rcases h with h | ⟨o,its,n,hk,hc,hs,hz,r⟩
 ·obtain⟨z,its,r,p⟩:=h.ok I.hok;exact⟨its,r,p,z⟩
 ·exists its.toList,r,⟨o,I.kIn a o hk,hc,n,by simpa using hs⟩;have e:=r.length;simp only[Array.length_toList] at e;lia
theorem Inv.list_inj(I:Inv X pins σ H s)(h:SqL X.K H a xs)(h':SqL X.K H a ys):xs=ys:=by
 obtain⟨its,r,⟨o,n,e,_,_,d⟩,_⟩:=I.list h;obtain⟨its',r',⟨o',n',e',_,_,d'⟩,_⟩:=I.list h';rw[e] at e'; cases e';rw[d] at d';injection d' with d1 _
 have:its=its':=by simpa using congrArg Array.toList d1
 subst this;exact r.inj r'
theorem Inv.tuple_inj(I:Inv X pins σ H s)(h:SqT X.K H a xs)(h':SqT X.K H a ys):xs=ys:=by
 obtain⟨its,r,⟨o,e,_,n,d⟩,_⟩:=I.tuple h;obtain⟨its',r',⟨o',e',_,n',d'⟩,_⟩:=I.tuple h';rw[e] at e'; cases e';rw[d] at d';injection d' with d1 _
 have:its=its':=by simpa using congrArg Array.toList d1
 subst this;exact r.inj r'
end

abbrev Cx.wish(X:Cx)(E:Value->Shared->Prop):Cx:={ X with xe:=E }
abbrev Cx.nox(X:Cx):Cx:=X.wish λ_ _=>False
theorem Cx.Ok.wish{X:Cx}(ok:X.Ok)(E:Value->Shared->Prop):(X.wish E).Ok :=
 ⟨ok.mod,ok.kind,ok.glob,ok.blt,ok.above,ok.inj,ok.has,ok.cab,ok.hd,ok.frames,ok.stk,ok.exf,ok.bs,ok.bsz,ok.noex,ok.exfs,ok.funs,ok.frf⟩
theorem Cx.Ok.unwish{X:Cx}{E:Value->Shared->Prop}(ok:(X.wish E).Ok):X.Ok :=
 ⟨ok.mod,ok.kind,ok.glob,ok.blt,ok.above,ok.inj,ok.has,ok.cab,ok.hd,ok.frames,ok.stk,ok.exf,ok.bs,ok.bsz,ok.noex,ok.exfs,ok.funs,ok.frf⟩
section
variable{X:Cx}{pins:List (Addr×Obj)}{σ:St}{H:Hp}{s:Shared}{E:Value->Shared->Prop}
theorem Inv.wish(I:Inv X pins σ H s)(E:Value->Shared->Prop):Inv (X.wish E) pins σ H s:=⟨I.ok.wish E,I.os,I.bare,I.base,I.loc,I.cell,I.free,I.freeC,I.pin,I.hok,I.len⟩
theorem Inv.unwish(I:Inv (X.wish E) pins σ H s):Inv X pins σ H s:=⟨I.ok.unwish,I.os,I.bare,I.base,I.loc,I.cell,I.free,I.freeC,I.pin,I.hok,I.len⟩
theorem SP.unwish{D:zM7}{f:Flow}{s':Shared}(h:SP (X.wish E) pins D f s'):SP X pins D f s':=by
 cases f with
 | next=>obtain⟨σ',H',I,q⟩:=h; exact⟨σ',H',I.unwish,q⟩
 | brk=>obtain⟨σ',H',I,q⟩:=h; exact⟨σ',H',I.unwish,q⟩
 | cont=>obtain⟨σ',H',I,q⟩:=h; exact⟨σ',H',I.unwish,q⟩
 | ret u=>obtain⟨v,σ',H',I,r,q⟩:=h; exact⟨v,σ',H',I.unwish,r,q⟩
theorem PSs.nox{st:List Stmt}{t:TS}(h:PSs X.nox st t):PSs X st t:=λpins s σ H D I hw =>
 wpAny_mono (h pins s σ H D (I.wish _) hw) (λ_ _ q=>q.unwish) λ_ _ z=>False.elim z
end

section
variable{X:Cx}{st:Stmt}{rest:List Stmt}{t u:TS}{e:Expr}{te:TE}{pos:Pos}
def tNext:TS:=λD σ H=>D.nx σ H
def zXc(t u:TS):TS:=λD σ H=>t { D with nx:=u D } σ H
theorem zS:PSs X [] tNext:=λ_ _ σ H _ I h=>wpAny_execs_nil ⟨σ,H,I,h⟩
theorem zG(h1:PS X st t)(h2:PSs X rest u):PSs X (st::rest) (zXc t u):=by
 intro pins s σ H D I h;refine wpAny_execs_cons (thn (h1 pins s σ H { D with nx:=u D } I h) λf s1 q=>?_);cases f with
 | next =>
  obtain⟨σ',H',I',q⟩:=q;exact h2 pins s1 σ' H' D I' q
 | ret v=>exact q
 | brk=>exact q
 | cont=>exact q
theorem zH(h1:PS X st t):PSs X [st] t:=by
 intro pins s σ H D I h;refine wpAny_execs_cons (thn (h1 pins s σ H D I h) λf s1 q=>?_);cases f with
 | next=>exact wpAny_execs_nil q
 | ret v=>exact q
 | brk=>exact q
 | cont=>exact q
theorem Inv.quiet{pins:List (Addr×Obj)}{σ:St}{H:Hp}{s:Shared}(I:Inv X pins σ H s):interactive X.env=false:=by simp[interactive,I.ok.kind]
def tDrop(te:TE):TS:=λD σ H=>te σ H λ_ H1=>D.nx σ H1
theorem zAe(he:PE X e te)(hs:swapsWith e none pos.line X.env=pure false:=by rfl):PS X (.Expr e pos) (tDrop te):=by
 intro pins s σ H D I h;exact wpAny_Expr_any (thn (he pins s σ H _ I h) λv s1 ⟨x,H1,I1,r1,q1⟩=>⟨σ,H1,I1,q1⟩) I.quiet hs
def tRet(te:TE):TS:=λD σ H=>te σ H D.rt
theorem zO(he:PE X e te):PS X (.Return (some e) pos) (tRet te):=by
 intro pins s σ H D I h;exact wpAny_Return_some (thn (he pins s σ H _ I h) λv s1 ⟨x,H1,I1,r1,q1⟩=>⟨x,σ,H1,I1,r1,q1⟩)
def tIfS(c:TT)(t u:TS):TS:=λD σ H=>c σ H λb H1=>if b=true then t D σ H1 else u D σ H1
theorem yC{c:Expr}{a b:List Stmt}{tc:TT}(hc:PT X c tc)(ha:PSs X a t)(hb:PSs X b u):PS X (.If c a b pos) (tIfS tc t u):=by
 intro pins s σ H D I h;refine wpAny_If (thn (hc pins s σ H _ I h) λd s1 ⟨H1,I1,q1⟩=>?_);cases d with
 | true=>exact ha pins s1 σ H1 D I1 q1
 | false=>exact hb pins s1 σ H1 D I1 q1
end

abbrev TG:=V->St->Hp->(St->Hp->Prop)->Prop
abbrev TGs:=List V->St->Hp->(St->Hp->Prop)->Prop
def PG(X:Cx)(target:Expr)(t:TG):Prop :=
 ∀(pins:List (Addr×Obj))(s:Shared)(σ:St)(H:Hp)(v:V)(u:Value)(Q:St->Hp->Prop),Inv X pins σ H s->uC v u->t v σ H Q ->
  wpAny (model X.prog X.w) X.A (assign target X.env u) (λ_ s'=>∃ σ' H',Inv X pins σ' H' s'/\Q σ' H') X.xe s
def PGs(X:Cx)(ts:List Expr)(t:TGs):Prop :=
 ∀(pins:List (Addr×Obj))(s:Shared)(σ:St)(H:Hp)(vs:List V)(us:List Value)(Q:St->Hp->Prop),Inv X pins σ H s->yW vs us->t vs σ H Q ->
  wpAny (model X.prog X.w) X.A (assignInOrder ((assignEach ts X.env).map (·.2)) us) (λ_ s'=>∃ σ' H',Inv X pins σ' H' s'/\Q σ' H') X.xe s
abbrev zXe:=V->V->V->Hp->(Hp->Prop)->Prop
def PSet(X:Cx)(t:zXe):Prop :=
 ∀(pins:List (Addr×Obj))(s:Shared)(σ:St)(H:Hp)(o i v:V)(ov iv u:Value)(Q:Hp->Prop),Inv X pins σ H s->uC o ov->uC i iv->uC v u->t o i v H Q ->
  wpAny (model X.prog X.w) X.A (setItem ov iv u) (λ_ s'=>∃ H',Inv X pins σ H' s'/\Q H') X.xe s
section
variable{X:Cx}{pos:Pos}
def zMe(i:Nat):TG:=λv σ H Q=>Q (σ.set i (some v)) H
theorem zP0{i:Nat}{x:Str}(hN:X.N.Nodup)(hi:X.N[i]?=some x)(hx:Loc X.env.scope x)(hf:X.fn x=true\/X.env.scope.names.lookup x=some .local:=by first | exact .inl rfl | exact .inr rfl | assumption):PG X (.Name x pos) (zMe i):=by
 intro pins s σ H v u Q I r h;exact wpAny_assign_Name (zDu I hN hi hx r (λs' I'=>⟨_,H,I',h⟩) hf)
def gNil:TGs:=λvs σ H Q=>vs=[]/\Q σ H
def gCons(t:TG)(u:TGs):TGs:=λvs σ H Q=>∃ v r,vs=v::r/\t v σ H λσ' H'=>u r σ' H' Q
theorem yI:PGs X [] gNil:=by
 intro pins s σ H vs us Q I r h;obtain⟨e,h⟩:=h;subst e;cases r;exact assignInOrder_nil ⟨σ,H,I,h⟩
theorem zR{e:Expr}{es:List Expr}{t:TG}{u:TGs}(h1:PG X e t)(h2:PGs X es u)
  (hs:(assignEach (e::es) X.env).map (·.2)=assign e X.env::(assignEach es X.env).map (·.2):=by rfl):PGs X (e::es) (gCons t u):=by
 intro pins s σ H vs us Q I r h;obtain⟨v,vr,e1,h⟩:=h;subst e1;cases r with
 | cons r rr =>
  rw[hs];refine assignInOrder_cons (thn (h1 pins s σ H _ _ _ I r h) λ_ s1 ⟨σ1,H1,I1,q1⟩=>?_);exact h2 pins s1 σ1 H1 _ _ Q I1 rr q1
def gTup(K:PySem.W.Frag)(n:Nat)(t:TGs):TG:=λv σ H Q=>∃ a xs,v=.ref a/\SqT K H a xs/\xs.length=n/\t xs σ H Q
theorem yV{es:List Expr}{k:Nat}{t:TGs}{n:Nat}(hc:X.calm=true)(h:PGs X es t)
  (hn:(assignEach es X.env).length=n:=by rfl) (hst:(assignEach es X.env).findIdx? (·.1)=none:=by rfl):PG X (.Tuple es k pos) (gTup X.K n t):=by
 intro pins s σ H v u Q I r hw;obtain⟨a,xs,e1,hq,hl,hw⟩:=hw;subst e1;cases r;obtain⟨its,rv,ht,hz⟩:=I.tuple hq;refine assign_Tuple_tuple (I.ok.hd hc) ht (by simp[hn,<- hl,rv.length]) hst λh' hx=>?_;have I1:Inv X pins σ H { s with heap:=h' }:=I.kept (t':=s.toks) λb o e=>hx b o (Nat.ne_of_lt (Heap.lt_size e)) e;exact h pins _ σ H xs _ Q I1 (by simpa using rv) hw
def gSub(to ti:TE)(t:zXe):TG:=λv σ H Q=>to σ H λo H1=>ti σ H1 λi H2=>t o i v H2 λH3=>Q σ H3
theorem zFo{o i:Expr}{to ti:TE}{t:zXe}(ho:PE X o to)(hi:PE X i ti)(hs:PSet X t)
  (ha:∀ v,assign (.Subscript o i pos) X.env v=(do
   let ov <- holding [v] (eval o X.env)
   let iv <- holding [v,ov] (eval i X.env)
   standAt pos
   holding [v,ov,iv] (setItem ov iv v)
   release [v,ov,iv] []):=by intro _; rfl):PG X (.Subscript o i pos) (gSub to ti t):=by
 intro pins s σ H v u Q I r h;rw[ha];refine wpAny_bind (wpAny_holding (thn (ho pins s σ H _ I h) λov s1 ⟨x,H1,I1,r1,q1⟩=>?_));refine wpAny_bind (wpAny_holding (thn (hi pins s1 σ H1 _ I1 q1) λiv s2 ⟨y,H2,I2,r2,q2⟩=>?_));refine wpAny_bind (wpAny_standAt (wpAny_bind (wpAny_holding (thn (hs pins s2 σ H2 x y v ov iv u _ I2 r1 r2 r q2) λ_ s3 ⟨H3,I3,q3⟩=>?_))));exact wpAny_release ⟨σ,H3,I3,q3⟩
def zUu(te:TE)(g:TG):TS:=λD σ H=>te σ H λx H1=>g x σ H1 D.nx
theorem wK{tg e:Expr}{te:TE}{g:TG}(he:PE X e te)(hg:PG X tg g)(hs:swapsWithSole [tg] e pos.line X.env=pure false:=by rfl)(hw:swappedStores [tg] e X.env=pure none:=by rfl)
  (h1:(assignEach [tg] X.env).map (·.2)=[assign tg X.env]:=by rfl):PS X (.Assign [tg] e pos) (zUu te g):=by
 intro pins s σ H D I h;refine wpAny_Assign_stores (thn (he pins s σ H _ I h) λv s1 ⟨x,H1,I1,r1,q1⟩=>?_) hs hw;rw[h1];exact thn (hg pins s1 σ H1 x v _ I1 r1 q1) λ_ s2 q=>q
theorem zNl{i:Nat}{x:Str}{e:Expr}{te:TE}{pos':Pos}(hN:X.N.Nodup)(hi:X.N[i]?=some x)(hx:Loc X.env.scope x)(he:PE X e te)(hs:swapsWith e (some (.Name x pos')) pos.line X.env=pure false:=by rfl)(hf:X.fn x=true\/X.env.scope.names.lookup x=some .local:=by first | exact .inl rfl | exact .inr rfl | assumption) :
  PS X (.Assign [.Name x pos'] e pos) (zUu te (zMe i)):=by
 intro pins s σ H D I h;refine wpAny_Assign_Name (thn (he pins s σ H _ I h) λv s1 ⟨y,H1,I1,r1,q1⟩=>?_) hs;exact zDu I1 hN hi hx r1 (λs2 I2=>⟨_,H1,I2,q1⟩) hf
def tPar(i j:Nat)(ta:TA):TS:=λD σ H=>ta σ H λvs H1=>∃ v w,vs=[v,w]/\D.nx ((σ.set i (some v)).set j (some w)) H1
theorem zKx{i j:Nat}{x y:Str}{a b:Expr}{ta:TA}{px py pt:Pos}{kt k2 pt2}(hc:X.calm=true)(hN:X.N.Nodup)(hi:X.N[i]?=some x)(hj:X.N[j]?=some y)(hij:i≠j)
  (hx:X.env.scope.names.lookup x=some .local) (hy:X.env.scope.names.lookup y=some .local) (ha:PA X [a,b] ta)
  (hw:swappedStores [.Tuple [.Name x px,.Name y py] kt pt] (.Tuple [a,b] k2 pt2) X.env=pure (some [x,y]))
  (hs:swapsWithSole [.Tuple [.Name x px,.Name y py] kt pt] (.Tuple [a,b] k2 pt2) pos.line X.env=pure false:=by rfl) :
  PS X (.Assign [.Tuple [.Name x px,.Name y py] kt pt] (.Tuple [a,b] k2 pt2) pos) (tPar i j ta):=by
 intro pins s σ H D I h;rw[exec_Assign_arm];refine wpAny_bind (wpAny_standAt ?_);rw[hs];refine wpAny_bind (wpAny_pure ?_);rw[if_neg (by decide)];refine wpAny_bind (Tuple_ (thn (ha _ pins s σ H _ I h) λus s1 ⟨vs,H1,I1,r1,q1⟩=>?_));obtain⟨v,w,e1,q1⟩:=q1;subst e1;obtain⟨u1,u2,rfl,rv,rw'⟩:∃ u1 u2,us=[u1,u2]/\uC v u1/\uC w u2:=by
  cases r1 with
  | cons p q =>
   cases q with
   | cons p' q' =>
    cases q';exact⟨_,_,rfl,p,p'⟩
 refine wpAny_newObj_type ?_ (by show 2<=sizeLine; decide);have I2:Inv X pins σ H1 { s1 with heap:=s1.heap.push { cls:=.type "tuple", data:=.seq [u1,u2].toArray } }:=I1.kept (t':=s1.toks) λb o e=>Heap.get?_push_of_some _ e;rw[hw];refine wpAny_bind (wpAny_pure ?_);show wpAny (model X.prog X.w) X.A (do rule "assign.swapped-stores"; let items <- unpackItems (.ref s1.heap.objs.size) 2 none; assignInOrder [λv=>bindName X.env y v,λv=>bindName X.env x v] items.reverse; pure Flow.next) _ _ _;refine wpAny_bind (wpAny_rule (wpAny_bind (unpackItems_tuple (items:=#[u1,u2]) (I.ok.hd hc) (IsTup.new s1.heap _) λh' hx'=>?_)));have I3:=I2.kept (h':=h') (t':=s1.toks) λb o e=>hx' b o (Nat.ne_of_lt (Heap.lt_size e)) e;show wpAny _ _ (assignInOrder [λv=>bindName X.env y v,λv=>bindName X.env x v] [u2,u1] >>= λ_=>pure Flow.next) _ _ _;refine wpAny_bind (assignInOrder_cons (wpAny_bindName (zDu I3 hN hj (.inl hy) rw' (λs2 I4=>?_) (.inr hy))));refine assignInOrder_cons (wpAny_bindName (zDu I4 hN hi (.inl hx) rv (λs3 I5=>assignInOrder_nil (wpAny_pure ?_)) (.inr hx)));rw[List.set_comm _ _ (Ne.symm hij)] at I5;exact⟨_,H1,I5,q1⟩
end

section
variable{X:Cx}{pos:Pos}
def zSw(c:TT)(tb:TS):TS:=λD σ H=>∃ W:Nat->St->Hp->Prop,(∃ m,W m σ H)/\∀ m σ H,W m σ H ->
 c σ H λb H1=>if b=true then ∃ N:St->Hp->Prop,(∀ σ' H',N σ' H'->∃ m',m'<m/\W m' σ' H')/\tb { D with nx:=N,ct:=N,bk:=D.nx } σ H1 else D.nx σ H1
theorem zDq{c:Expr}{body:List Stmt}{tc:TT}{tb:TS}(hp:PassesOwn (model X.prog X.w) X.A X.env X.xe)(hc:PT X c tc)(hb:PSs X body tb):PS X (.While c body [] pos) (zSw tc tb):=by
 intro pins s σ H D I h;obtain⟨W,⟨m0,w0⟩,turn⟩:=h;refine wpAny_While (codeAny_whileLoop (λn s'=>∃ σ' H',Inv X pins σ' H' s'/\W n σ' H') ?_ m0 ⟨σ,H,I,w0⟩);rintro n s1 ⟨σ1,H1,I1,w1⟩;refine wpAny_passesOwn hp (thn (hc pins s1 σ1 H1 _ I1 (turn n σ1 H1 w1)) λb s2 ⟨H2,I2,q2⟩=>?_);cases b with
 | true =>
  obtain⟨N,hN,q2⟩:=q2;rw[if_pos rfl];refine wpAny_passesOwn hp (thn (hb pins s2 σ1 H2 _ I2 q2) λf s3 q3=>?_);cases f with
  | next =>
   obtain⟨σ3,H3,I3,n3⟩:=q3;obtain⟨m',hm,w3⟩:=hN σ3 H3 n3;exact⟨m',hm,σ3,H3,I3,w3⟩
  | cont =>
   obtain⟨σ3,H3,I3,n3⟩:=q3;obtain⟨m',hm,w3⟩:=hN σ3 H3 n3;exact⟨m',hm,σ3,H3,I3,w3⟩
  | brk=>exact q3
  | ret v=>exact q3
 | false =>
  rw[if_neg Bool.false_ne_true];exact wpAny_execs_nil ⟨σ1,H2,I2,q2⟩
end

structure It where
 go:Nat->Hp->Prop
 yld:Nat->Hp->V->Hp->Prop
 stop:Nat->Hp->Prop
def zQd(X:Cx)(pins:List (Addr×Obj))(H:Hp)(b:Addr):Prop :=
 H b=none/\b≠X.env.locals/\b ∉ X.fs/\(b∈X.ex\/X.s₀.heap.objs.size<=b)/\(∀ x c,X.env.cells.lookup x=some c->c≠b)/\∀ p∈X.pn++pins,p.1≠b
theorem Inv.fpOk{X:Cx}{pins:List (Addr×Obj)}{σ:St}{H H':Hp}{s:Shared}{b:Addr}(I:Inv X pins σ H s)(hb:s.heap.objs.size<=b)(hn:H' b=none):zQd X pins H' b:=by
 refine⟨hn,Nat.ne_of_gt (Nat.lt_of_lt_of_le I.lt hb),I.nofs hb,.inr (Nat.le_trans I.sz hb),λx c e z=>?_,λp hp z=>?_⟩
 ·obtain⟨v,q⟩:=I.cell x c e;exact absurd (Nat.lt_of_lt_of_le q.lt (by rw[z]; exact hb)) (Nat.lt_irrefl _)
 ·exact absurd (Nat.lt_of_lt_of_le (Heap.lt_size (I.pin p hp).1) (by rw[z]; exact hb)) (Nat.lt_irrefl _)
structure zUs(P:Program)(w:World)(K:PySem.W.Frag)(tg:Expr)(J:It)(fp:List Addr)(it:Addr)(tn:Nat->Heap->Prop):Prop where
 mem:it∈fp
 obj:∀ i h,tn i h->∀ b∈fp,∃ o,h.get? b=some o/\∀ v,o.data≠.cell v
 keep:∀ i h h',tn i h->(∀ b∈fp,∀ o,h.get? b=some o->h'.get? b=some o)->tn i h'
 item:∀(X:Cx),X.prog=P->X.w=w->X.K=K->X.calm=true->∀(i:Nat)(pins:List (Addr×Obj))(s:Shared)(σ:St)(H:Hp)(E:Value->Shared->Prop),Inv X pins σ H s->(∀ b∈fp,zQd X pins H b)->tn i s.heap->J.go i H ->
  wpAny (model P w) X.A (pyNext (.ref it)) (λr s1=>∃ u,r=some u /\
   wpAny (model P w) X.A (letOwnedTupleGo tg (.ref it) u) (λ_ s2=>∃ x H',Inv X pins σ H' s2/\uC x u/\J.yld i H x H'/\tn (i+1) s2.heap/\∀ b∈fp,H' b=none) E s1) E s
 done:∀(X:Cx),X.prog=P->X.w=w->X.K=K->X.calm=true->∀(i:Nat)(pins:List (Addr×Obj))(s:Shared)(σ:St)(H:Hp)(E:Value->Shared->Prop),Inv X pins σ H s->(∀ b∈fp,zQd X pins H b)->tn i s.heap->J.stop i H ->
  wpAny (model P w) X.A (pyNext (.ref it)) (λr s1=>r=none/\Inv X pins σ H s1) E s
 self:∀(A:Around)(i:Nat)(s:Shared)(Q:Value->Shared->Prop)(E:Value->Shared->Prop),tn i s.heap->Q (.ref it) s->wpAny (model P w) A (pyIter (.ref it)) Q E s
abbrev TI:=St->Hp->(It->Hp->Prop)->Prop
def PIE(X:Cx)(pins:List (Addr×Obj))(σ:St)(tg:Expr)(R:It->Hp->Prop)(itv:Value)(s2:Shared):Prop :=
 ∃(it:Addr)(fp:List Addr)(tn:Nat->Heap->Prop)(J:It)(H':Hp),itv=.ref it/\Inv X pins σ H' s2/\zUs X.prog X.w X.K tg J fp it tn/\tn 0 s2.heap/\(∀ b∈fp,zQd X pins H' b)/\R J H'
def PI(X:Cx)(tg iter:Expr)(wi:TI):Prop :=
 ∀(pins:List (Addr×Obj))(s:Shared)(σ:St)(H:Hp)(R:It->Hp->Prop),Inv X pins σ H s->wi σ H R ->
  wpAny (model X.prog X.w) X.A (eval iter X.env) (λv s1=>wpAny (model X.prog X.w) X.A (pyIter v) (PIE X pins σ tg R) X.xe s1) X.xe s

theorem zUa{M:Model}{A:Around}{E:Value->Shared->Prop}{s:Shared}{tg:Expr}{it:Addr}{u:Value}{o:Obj}{n:String}{vs:Array Value}{Q:Unit->Shared->Prop}(ho:s.heap.get? it=some o)(hc:o.cls=.type n)(hd:o.data=.fields vs)
  (hn:["enumerate", "zip", "dict_itemiterator", "dict_reverseitemiterator", "odict_iterator", "itertools.zip_longest", "itertools.pairwise"].contains n=false) (hQ:Q () s):wpAny M A (letOwnedTupleGo tg (.ref it) u) Q E s:=by
 unfold letOwnedTupleGo;cases tg <;> first
  | exact wpAny_pure hQ
  | (cases u <;> first
    | exact wpAny_pure hQ
    | (refine wpAny_bind (wpAny_load ho ?_)
       rw[hc,hd];show wpAny M A (if (["enumerate", "zip", "dict_itemiterator", "dict_reverseitemiterator", "odict_iterator", "itertools.zip_longest", "itertools.pairwise"].contains n&&vs[0]? == some (rawInt _))=true then _ else _) Q E s;rw[if_neg (by intro h; rw[hn,Bool.false_and] at h; cases h)];exact wpAny_pure hQ))

def Itl(K:PySem.W.Frag)(a:Addr):It :=
 ⟨λi H=>∃ xs x,SqL K H a xs/\xs[i]?=some x,λi H x H'=>H'=H/\∀ xs,SqL K H a xs->xs[i]?=some x,λi H=>∃ xs,SqL K H a xs/\xs.length<=i⟩
def Itt(K:PySem.W.Frag)(a:Addr):It :=
 ⟨λi H=>∃ xs x,SqT K H a xs/\xs[i]?=some x,λi H x H'=>H'=H/\∀ xs,SqT K H a xs->xs[i]?=some x,λi H=>∃ xs,SqT K H a xs/\xs.length<=i⟩
def Itr(lo:Int)(n:Nat):It:=⟨λi _=>i<n,λi H x H'=>H'=H/\x=.int (lo+i),λi _=>n<=i⟩
theorem zIz{P:Program}{w:World}{K:PySem.W.Frag}{tg:Expr}(a it:Addr):zUs P w K tg (Itl K a) [it] it (λi h=>h.IsListIter it a i) where
 mem:=by simp
 obj:=λi h st b hb=>by
  have e:b=it:=by simpa using hb
  subst e;obtain⟨o,e,c,d⟩:=st;exact⟨o,e,λv z=>by rw[d] at z; cases z⟩
 keep:=λi h h' st k=>st.at λo e=>k it (by simp) o e
 item:=by
  intro X hP hw hK hc i pins s σ H E I hf st hg;subst hP hw hK;obtain⟨xs,x,hq,hx⟩:=hg;obtain⟨its,rv,p,hz⟩:=I.list hq;obtain⟨u,hu,ru⟩:=rv.get hx;obtain⟨f0,f1,f2,f3,f4,f5⟩:=hf it (by simp);refine wpAny_pyNext_list_item st p.isList (x:=u) (by simpa using hu) λh' st' sb=>?_;have I1:Inv X pins σ H { s with heap:=h' }:=I.turned (t':=s.toks) (λb o hb e=>(sb.2 b hb).trans e) f0 f1 f3 f4 f5;obtain⟨o,e,c,d⟩:=id st';exact⟨u,rfl,zUa (s:={ s with heap:=h' }) e c d (by decide) ⟨x,H,I1,ru,⟨rfl,λys hy=>by rw[I.list_inj hy hq]; exact hx⟩,st',λb hb=>(hf b hb).1⟩⟩
 done:=by
  intro X hP hw hK hc i pins s σ H E I hf st hg;subst hP hw hK;obtain⟨xs,hq,hx⟩:=hg;obtain⟨its,rv,p,hz⟩:=I.list hq;obtain⟨f0,f1,f2,f3,f4,f5⟩:=hf it (by simp);have hl:=rv.length;exact wpAny_pyNext_list_end (I.ok.hd hc) st p.isList (by simp; lia) λh' eb=>⟨rfl,I.turned (t':=s.toks) (λb o hb e=>eb b o hb e) f0 f1 f3 f4 f5⟩
 self:=λ_ _ _ _ _ st h=>wpAny_pyIter_listiter st h
theorem zL0{P:Program}{w:World}{K:PySem.W.Frag}{tg:Expr}(a it:Addr):zUs P w K tg (Itt K a) [it] it (λi h=>h.IsTupleIter it a i) where
 mem:=by simp
 obj:=λi h st b hb=>by
  have e:b=it:=by simpa using hb
  subst e;obtain⟨o,e,c,d⟩:=st;exact⟨o,e,λv z=>by rw[d] at z; cases z⟩
 keep:=λi h h' st k=>st.at λo e=>k it (by simp) o e
 item:=by
  intro X hP hw hK hc i pins s σ H E I hf st hg;subst hP hw hK;obtain⟨xs,x,hq,hx⟩:=hg;obtain⟨its,rv,p,hz⟩:=I.tuple hq;obtain⟨u,hu,ru⟩:=rv.get hx;obtain⟨f0,f1,f2,f3,f4,f5⟩:=hf it (by simp);refine wpAny_pyNext_tuple_item st (show s.heap.IsTuple a its.toArray from p) (x:=u) (by simpa using hu) λh' st' sb=>?_;have I1:Inv X pins σ H { s with heap:=h' }:=I.turned (t':=s.toks) (λb o hb e=>(sb.2 b hb).trans e) f0 f1 f3 f4 f5;obtain⟨o,e,c,d⟩:=id st';exact⟨u,rfl,zUa (s:={ s with heap:=h' }) e c d (by decide) ⟨x,H,I1,ru,⟨rfl,λys hy=>by rw[I.tuple_inj hy hq]; exact hx⟩,st',λb hb=>(hf b hb).1⟩⟩
 done:=by
  intro X hP hw hK hc i pins s σ H E I hf st hg;subst hP hw hK;obtain⟨xs,hq,hx⟩:=hg;obtain⟨its,rv,p,hz⟩:=I.tuple hq;obtain⟨f0,f1,f2,f3,f4,f5⟩:=hf it (by simp);have hl:=rv.length;exact wpAny_pyNext_tuple_end (I.ok.hd hc) st (show s.heap.IsTuple a its.toArray from p) (by simp; lia) λh' eb=>⟨rfl,I.turned (t':=s.toks) (λb o hb e=>eb b o hb e) f0 f1 f3 f4 f5⟩
 self:=λ_ _ _ _ _ st h=>wpAny_pyIter_tupleiter st h
theorem zMn{P:Program}{w:World}{K:PySem.W.Frag}{tg:Expr}(it:Addr)(lo:Int)(n:Nat):zUs P w K tg (Itr lo n) [it] it (λi h=>IsRangeIter h it (lo+(i:Nat)*1) ((n:Int)-(i:Nat)) 1) where
 mem:=by simp
 obj:=λi h st b hb=>by
  have e:b=it:=by simpa using hb
  subst e;exact⟨_,st,λv z=>by
   have z':Data.fields _=Data.cell v:=z;cases z'⟩
 keep:=λi h h' st k=>k it (by simp) _ st
 item:=by
  intro X hP hw hK hc i pins s σ H E I hf st hg;subst hP hw hK;obtain⟨f0,f1,f2,f3,f4,f5⟩:=hf it (by simp);have W:=Walks.range (prog:=X.prog) (w:=X.w) (I.ok.hd hc) it lo 1 n;refine W.item i s _ _ hg st λv h' tk hv st' kk=>?_;obtain⟨t,rfl⟩:=hv;have I1:Inv X pins σ H { s with heap:=h',toks:=tk }:=I.turned (λb o hb e=>kk b o (by simpa using hb) e) f0 f1 f3 f4 f5;refine⟨_,rfl,zUa (s:={ s with heap:=h',toks:=tk }) (n := "range_iterator") st' rfl rfl (by decide) ⟨.int (lo+i),H,I1,⟨t,?_⟩,⟨rfl,rfl⟩,st',λb hb=>(hf b hb).1⟩⟩;rw[Int.mul_one]
 done:=by
  intro X hP hw hK hc i pins s σ H E I hf st hg;subst hP hw hK;obtain⟨f0,f1,f2,f3,f4,f5⟩:=hf it (by simp);exact wpAny_pyNext_range_end (I.ok.hd hc) st (by have:n<=i:=hg; lia) λh' eb=>⟨rfl,I.turned (t':=s.toks) (λb o hb e=>eb b o hb e) f0 f1 f3 f4 f5⟩
 self:=λ_ _ _ _ _ st h=>wpAny_pyIter_rangeiter st h
end L2

namespace L2
open PySem PySem.Spec PyProof.Rows
section
variable{X:Cx}{tg:Expr}
def iList(K:PySem.W.Frag)(tl:TE):TI:=λσ H R=>tl σ H λx H1=>∃ a,x=.ref a/\(∃ xs,SqL K H1 a xs)/\R (Itl K a) H1
theorem zHi{l:Expr}{tl:TE}(hl:PE X l tl):PI X tg l (iList X.K tl):=by
 intro pins s σ H R I h;refine thn (hl pins s σ H _ I h) λv s1 ⟨x,H1,I1,r1,q1⟩=>?_;obtain⟨a,e,⟨xs,hq⟩,q⟩:=q1;subst e;cases r1;obtain⟨its,rv,p,hz⟩:=I1.list hq;refine wpAny_pyIter_list p.isList ?_;refine⟨s1.heap.objs.size,[s1.heap.objs.size],_,_,H1,rfl,I1.kept (t':=s1.toks) λb o e=>Heap.get?_push_of_some _ e,zIz a _,⟨_,Heap.get?_push_size _ rfl,rfl,rfl⟩,λb hb=>?_,q⟩;have e:b=s1.heap.objs.size:=by simpa using hb
 subst e;exact I1.fpOk (Nat.le_refl _) (I1.hok.fresh (Nat.le_refl _))
theorem zQ1{pins:List (Addr×Obj)}{σ:St}{H:Hp}{s:Shared}{R:It->Hp->Prop}{E:Value->Shared->Prop}{lo hi:Int}{t u v:Tok}{tk:Nat}(I:Inv X pins σ H s)(h1 : -(2^62)<=lo)(h2:lo<2^62)(h3 : -(2^62)<=hi)(h4:hi<2^62)
  (q:R (Itr lo (hi-lo).toNat) H):wpAny (model X.prog X.w) X.A (pyIter (.ref s.heap.objs.size)) (PIE X pins σ tg R) E { s with heap:=s.heap.push { cls:=.type "range", data:=.fields #[.int lo t,.int hi u,.int 1 v] },toks:=tk }:=by
 refine wpAny_pyIter_range (IsRange.new ..) (small_one h1 h2 h3 h4) ?_;have I1:Inv X pins σ H { s with heap:=s.heap.push { cls:=.type "range", data:=.fields #[.int lo t,.int hi u,.int 1 v] },toks:=tk }:=I.kept λb o e=>Heap.get?_push_of_some _ e;refine⟨(s.heap.push { cls:=.type "range", data:=.fields #[.int lo t,.int hi u,.int 1 v] }).objs.size,[(s.heap.push { cls:=.type "range", data:=.fields #[.int lo t,.int hi u,.int 1 v] }).objs.size],_,_,H,rfl,
  I1.kept (t':=tk) λb o e=>Heap.get?_push_of_some _ e,zMn _ lo (hi-lo).toNat,?_,λb hb=>?_,q⟩
 ·have e1:lo+((0:Nat):Int)*1=lo:=by simp
  have e2:(((hi-lo).toNat:Nat):Int)-((0:Nat):Int)=Builtin.Range.rangeSize lo hi 1:=by rw[rangeSize_one]; split <;> lia
  show IsRangeIter _ _ (lo+((0:Nat):Int)*1) ((((hi-lo).toNat:Nat):Int)-((0:Nat):Int)) 1;rw[e1,e2];exact Heap.get?_push_size _ rfl
 ·have e:b=(s.heap.push { cls:=.type "range", data:=.fields #[.int lo t,.int hi u,.int 1 v] }).objs.size:=by simpa using hb
  subst e;exact I1.fpOk (Nat.le_refl _) (I1.hok.fresh (Nat.le_refl _))
def iRng1(ta:TA):TI:=λσ H R=>ta σ H λvs H1=>∃ j:Int,vs=[.int j]/\-(2^62)<=j/\j<2^62/\R (Itr 0 j.toNat) H1
theorem xV{a:Expr}{ta:TA}{p pos:Pos}(hg:Gl X "range")(hm:X.mg "range" = none)(ha:PA X [a] ta)(hs:starEach [a] X.env=[(false,eval a X.env)]:=by rfl):PI X tg (.Call (.Name "range" p) [a] [] pos) (iRng1 ta):=by
 intro pins s σ H R I h;refine Call_ (zGn I hg hm boot_range (PyProof.Rows.callWith_type1 (thn (ha pos pins s σ H _ I h) λus s1 ⟨vs,H1,I1,r1,q1⟩=>?_) hs rfl));obtain⟨j,e,q1,q2,q⟩:=q1;subst e;cases r1 with
 | cons r rr =>
  cases rr;obtain⟨t,rfl⟩:=r;exact call_range_1 (zQ1 I1 (by lia) (by lia) q1 q2 (by simpa using q))
def tFor(wi:TI)(g:TG)(tb:TS):TS:=λD σ H=>wi σ H λJ H1=>∃ W:Nat->Nat->St->Hp->Prop,(∃ m,W 0 m σ H1)/\∀ i m σ H,W i m σ H ->
 (J.stop i H/\D.nx σ H)\/(J.go i H/\∃ N:St->Hp->Prop,(∀ σ' H',N σ' H'->∃ m',m'<m/\W (i+1) m' σ' H')/\∀ x H',J.yld i H x H'->g x σ H' λσ2 H2=>tb { D with nx:=N,ct:=N,bk:=D.nx } σ2 H2)
def zGd(fp:List Addr)(h:Heap):List (Addr×Obj):=fp.filterMap λb=>(h.get? b).map λo=>(b,o)
theorem tQ{fp:List Addr}{h:Heap}{b:Addr}{o:Obj}(hb:b∈fp)(e:h.get? b=some o):(b,o)∈zGd fp h:=List.mem_filterMap.mpr ⟨b,hb,by rw[e]; rfl⟩
theorem zPk{fp:List Addr}{h:Heap}{p:Addr×Obj}(hp:p∈zGd fp h):p.1∈fp/\h.get? p.1=some p.2:=by
 obtain⟨b,hb,e⟩:=List.mem_filterMap.mp hp;cases q:h.get? b with
 | none=>rw[q] at e; cases e
 | some o =>
  rw[q] at e;have e':(b,o)=p:=Option.some.inj e;subst e';exact⟨hb,q⟩
theorem Inv.pinned{pins:List (Addr×Obj)}{σ:St}{H:Hp}{s:Shared}{fp:List Addr}(I:Inv X pins σ H s)(hf:∀ b∈fp,zQd X pins H b)(ho:∀ b∈fp,∃ o,s.heap.get? b=some o/\∀ v,o.data≠.cell v):Inv X (pins++zGd fp s.heap) σ H s :=
 I.pins_of λp hp=>(List.mem_append.mp hp).elim (λz=>I.pin p (List.mem_append_right _ z)) λz=>by
  obtain⟨hb,e⟩:=zPk z;obtain⟨f0,f1,f2,_⟩:=hf p.1 hb;obtain⟨o,e',d⟩:=ho p.1 hb;rw[e] at e'; cases e';exact⟨e,f0,f1,f2,d⟩
theorem Inv.unpinned{pins pl:List (Addr×Obj)}{σ:St}{H:Hp}{s:Shared}(I:Inv X (pins++pl) σ H s):Inv X pins σ H s:=I.pins_of λp hp=>I.pin p (List.mem_append_right _ (List.mem_append_left _ hp))
theorem wU{iter:Expr}{body:List Stmt}{wi:TI}{g:TG}{tb:TS}{pos:Pos}(hp:PassesOwn (model X.prog X.w) X.A X.env X.xe)(hc:X.calm=true)(hi:PI X tg iter wi)(hg:PG X tg g)(hb:PSs X body tb)
  (hs:∀ x,foldedSetIterable iter X.env x=pure x:=by intro _; rfl):PS X (.For tg iter body [] pos) (tFor wi g tb):=by
 intro pins s σ H D I h;refine wpAny_For (thn (hi pins s σ H _ I h) λv s1 h1=>thn h1 λitv s2 h2=>?_) hs;obtain⟨it,fp,tn,J,H2,e,I2,T,st2,f2,W,⟨m0,w0⟩,turn⟩:=h2;subst e;have stat:∀{H':Hp},(∀ b∈fp,H' b=none)->∀ b∈fp,zQd X pins H' b:=λhn b hb=>⟨hn b hb,(f2 b hb).2⟩;refine codeAny_forLoop_any (λn s'=>∃ i σ' H',Inv X pins σ' H' s'/\tn i s'.heap/\(∀ b∈fp,H' b=none)/\W i n σ' H') ?_ m0 ⟨0,σ,H2,I2,st2,λb hb=>(f2 b hb).1,w0⟩;rintro n s3 ⟨i,σ3,H3,I3,st3,fr3,w3⟩;rcases turn i n σ3 H3 w3 with ⟨stop,qn⟩ | ⟨go,N,hN,step⟩
 ·refine wpAny_passesOwn hp (thn (T.done X rfl rfl rfl hc i pins s3 σ3 H3 X.xe I3 (stat fr3) st3 stop) λr s4 ⟨hr,I4⟩=>?_);subst hr;exact wpAny_execs_nil ⟨σ3,H3,I4,qn⟩
 ·refine wpAny_passesOwn hp (thn (T.item X rfl rfl rfl hc i pins s3 σ3 H3 X.xe I3 (stat fr3) st3 go) λr s4 ⟨u,hr,h4⟩=>?_);subst hr;refine wpAny_passesOwn hp (thn h4 λ_ s5 ⟨x,H5,I5,r5,y5,st5,fr5⟩=>?_);have I5':=I5.pinned (stat fr5) (T.obj _ _ st5);refine wpAny_passesOwn hp (thn (hg _ s5 σ3 H5 x u _ I5' r5 (step x H5 y5)) λ_ s6 ⟨σ6,H6,I6,q6⟩=>?_);refine wpAny_passesOwn hp (thn (hb _ s6 σ6 H6 _ I6 q6) λf s7 q7=>?_);have again:∀{σ7:St}{H7:Hp},Inv X (pins++zGd fp s5.heap) σ7 H7 s7->N σ7 H7->∃ m,m<n/\∃ i σ' H',Inv X pins σ' H' s7/\tn i s7.heap/\(∀ b∈fp,H' b=none)/\W i m σ' H':=λ{σ7 H7} I7 n7=>by
   obtain⟨m',hm,w7⟩:=hN σ7 H7 n7;refine⟨m',hm,i+1,σ7,H7,I7.unpinned,T.keep _ _ _ st5 λb hb o e=>(I7.pin (b,o) (List.mem_append_right _ (List.mem_append_right _ (tQ hb e)))).1,λb hb=>?_,w7⟩;obtain⟨o,e,d⟩:=T.obj _ _ st5 b hb;exact(I7.pin (b,o) (List.mem_append_right _ (List.mem_append_right _ (tQ hb e)))).2.1
  cases f with
  | next=>obtain⟨σ7,H7,I7,n7⟩:=q7; exact again I7 n7
  | cont=>obtain⟨σ7,H7,I7,n7⟩:=q7; exact again I7 n7
  | brk=>obtain⟨σ7,H7,I7,q7⟩:=q7; exact⟨σ7,H7,I7.unpinned,q7⟩
  | ret v=>obtain⟨x7,σ7,H7,I7,r7,q7⟩:=q7; exact⟨x7,σ7,H7,I7.unpinned,r7,q7⟩
end

theorem wD{K:PySem.W.Frag}{a:Addr}{xs:List V}{g:TG}{tb:TS}{D:zM7}{σ:St}{H:Hp}(Pv:Nat->St->Hp->Prop)(h0:Pv 0 σ H)(hl:∀ i σ H,i<=xs.length->Pv i σ H->SqL K H a xs)
  (hs:∀ i x σ H,xs[i]?=some x->Pv i σ H->g x σ H λσ2 H2=>tb { D with nx:=Pv (i+1),ct:=Pv (i+1),bk:=D.nx } σ2 H2) (hd:∀ σ H,Pv xs.length σ H->D.nx σ H) :
  ∃ W:Nat->Nat->St->Hp->Prop,(∃ m,W 0 m σ H)/\∀ i m σ H,W i m σ H ->
   ((Itl K a).stop i H/\D.nx σ H)\/((Itl K a).go i H/\∃ N:St->Hp->Prop,(∀ σ' H',N σ' H'->∃ m',m'<m/\W (i+1) m' σ' H')/\∀ x H',(Itl K a).yld i H x H'->g x σ H' λσ2 H2=>tb { D with nx:=N,ct:=N,bk:=D.nx } σ2 H2):=by
 exists λi m σ H=>m=xs.length-i/\i<=xs.length/\Pv i σ H,⟨xs.length,by simp,Nat.zero_le _,h0⟩;rintro i m σ H ⟨rfl,hi,p⟩;have q:=hl i σ H hi p;by_cases hlt:i<xs.length
 ·refine .inr ⟨⟨xs,xs[i],q,by simp[hlt]⟩,Pv (i+1),λσ' H' p'=>⟨xs.length-(i+1),by lia,rfl,hlt,p'⟩,λx H' y=>?_⟩;obtain⟨e,y⟩:=y;subst e;exact hs i x σ _ (y xs q) p
 ·have e:i=xs.length:=by lia
  subst e;exact .inl ⟨⟨xs,q,Nat.le_refl _⟩,hd σ H p⟩
theorem zS7{K:PySem.W.Frag}{a:Addr}{xs:List V}{g:TG}{tb:TS}{D:zM7}{σ:St}{H:Hp}(Pv:Nat->St->Hp->Prop)(h0:Pv 0 σ H)(hl:∀ i σ H,i<=xs.length->Pv i σ H->SqT K H a xs)
  (hs:∀ i x σ H,xs[i]?=some x->Pv i σ H->g x σ H λσ2 H2=>tb { D with nx:=Pv (i+1),ct:=Pv (i+1),bk:=D.nx } σ2 H2) (hd:∀ σ H,Pv xs.length σ H->D.nx σ H) :
  ∃ W:Nat->Nat->St->Hp->Prop,(∃ m,W 0 m σ H)/\∀ i m σ H,W i m σ H ->
   ((Itt K a).stop i H/\D.nx σ H)\/((Itt K a).go i H/\∃ N:St->Hp->Prop,(∀ σ' H',N σ' H'->∃ m',m'<m/\W (i+1) m' σ' H')/\∀ x H',(Itt K a).yld i H x H'->g x σ H' λσ2 H2=>tb { D with nx:=N,ct:=N,bk:=D.nx } σ2 H2):=by
 exists λi m σ H=>m=xs.length-i/\i<=xs.length/\Pv i σ H,⟨xs.length,by simp,Nat.zero_le _,h0⟩;rintro i m σ H ⟨rfl,hi,p⟩;have q:=hl i σ H hi p;by_cases hlt:i<xs.length
 ·refine .inr ⟨⟨xs,xs[i],q,by simp[hlt]⟩,Pv (i+1),λσ' H' p'=>⟨xs.length-(i+1),by lia,rfl,hlt,p'⟩,λx H' y=>?_⟩;obtain⟨e,y⟩:=y;subst e;exact hs i x σ _ (y xs q) p
 ·have e:i=xs.length:=by lia
  subst e;exact .inl ⟨⟨xs,q,Nat.le_refl _⟩,hd σ H p⟩
theorem tS{lo:Int}{n:Nat}{g:TG}{tb:TS}{D:zM7}{σ:St}{H:Hp}(Pv:Nat->St->Hp->Prop)(h0:Pv 0 σ H)
  (hs:∀ i σ H,i<n->Pv i σ H->g (.int (lo+i)) σ H λσ2 H2=>tb { D with nx:=Pv (i+1),ct:=Pv (i+1),bk:=D.nx } σ2 H2) (hd:∀ σ H,Pv n σ H->D.nx σ H) :
  ∃ W:Nat->Nat->St->Hp->Prop,(∃ m,W 0 m σ H)/\∀ i m σ H,W i m σ H ->
   ((Itr lo n).stop i H/\D.nx σ H)\/((Itr lo n).go i H/\∃ N:St->Hp->Prop,(∀ σ' H',N σ' H'->∃ m',m'<m/\W (i+1) m' σ' H')/\∀ x H',(Itr lo n).yld i H x H'->g x σ H' λσ2 H2=>tb { D with nx:=N,ct:=N,bk:=D.nx } σ2 H2):=by
 exists λi m σ H=>m=n-i/\i<=n/\Pv i σ H,⟨n,by simp,Nat.zero_le _,h0⟩;rintro i m σ H ⟨rfl,hi,p⟩;by_cases hlt:i<n
 ·refine .inr ⟨hlt,Pv (i+1),λσ' H' p'=>⟨n-(i+1),by lia,rfl,hlt,p'⟩,λx H' y=>?_⟩;obtain⟨e,y⟩:=y;subst e y;exact hs i σ _ hlt p
 ·have e:i=n:=by lia
  subst e;exact .inl ⟨Nat.le_refl _,hd σ H p⟩
theorem zBr{c:TT}{tb:TS}{D:zM7}{σ:St}{H:Hp}(Pv:St->Hp->Prop)(μ:St->Hp->Nat)(h0:Pv σ H)
  (hs:∀ σ H,Pv σ H->c σ H λb H1=>if b=true then tb { D with nx:=λσ' H'=>Pv σ' H'/\μ σ' H'<μ σ H,ct:=λσ' H'=>Pv σ' H'/\μ σ' H'<μ σ H,bk:=D.nx } σ H1 else D.nx σ H1)
  (mono:∀ σ H Q Q',(∀ b H1,Q b H1->Q' b H1)->c σ H Q->c σ H Q'):zSw c tb D σ H:=by
 exists λm σ H=>m=μ σ H/\Pv σ H,⟨_,rfl,h0⟩;rintro m σ H ⟨rfl,p⟩;refine mono σ H _ _ (λb H1 q=>?_) (hs σ H p);cases b with
 | true=>exact⟨_,λσ' H' ⟨p',l⟩=>⟨_,l,rfl,p'⟩,q⟩
 | false=>exact q
end L2

namespace L2
open PySem PySem.Spec PyProof.Rows

abbrev R2:=V->V->Hp->VK->Prop
def OpR(X:Cx)(f:Value->Value->Sem Value)(r:R2):Prop :=
 ∀(pins:List (Addr×Obj))(s:Shared)(σ:St)(H:Hp)(x y:V)(v u:Value)(Q:VK),Inv X pins σ H s->uC x v->uC y u->r x y H Q ->
  wpAny (model X.prog X.w) X.A (f v u) (EP X pins σ Q) X.xe s
def UnR(X:Cx)(f:Value->Sem Value)(r:V->Hp->VK->Prop):Prop :=
 ∀(pins:List (Addr×Obj))(s:Shared)(σ:St)(H:Hp)(x:V)(v:Value)(Q:VK),Inv X pins σ H s->uC x v->r x H Q ->
  wpAny (model X.prog X.w) X.A (f v) (EP X pins σ Q) X.xe s
def qK(X:Cx)(f:Value)(r:List V->Hp->VK->Prop):Prop :=
 ∀(pins:List (Addr×Obj))(s:Shared)(σ:St)(H:Hp)(xs:List V)(us:List Value)(Q:VK),Inv X pins σ H s->yW xs us->r xs H Q ->
  wpAny (model X.prog X.w) X.A (call f us) (EP X pins σ Q) X.xe s
def TruR(X:Cx)(r:V->Hp->(Bool->Hp->Prop)->Prop):Prop :=
 ∀(pins:List (Addr×Obj))(s:Shared)(σ:St)(H:Hp)(x:V)(v:Value)(Q:Bool->Hp->Prop),Inv X pins σ H s->uC x v->r x H Q ->
  wpAny (model X.prog X.w) X.A (truthy v) (TP X pins σ Q) X.xe s

def tOp(r:R2)(ta tb:TE):TE:=λσ H Q=>ta σ H λx H1=>tb σ H1 λy H2=>r x y H2 Q
def tUn(r:V->Hp->VK->Prop)(ta:TE):TE:=λσ H Q=>ta σ H λx H1=>r x H1 Q
inductive RI(C:Int->Int->Prop)(g:Int->Int->V)(x y:V)(H:Hp)(Q:VK):Prop where
 | mk (i j:Int) (ex:x=.int i) (ey:y=.int j) (c:C i j) (q:Q (g i j) H)
def rI(C:Int->Int->Prop)(g:Int->Int->V):R2:=λx y H Q=>RI C g x y H Q
inductive RI0(g:Int->Int->V)(x y:V)(H:Hp)(Q:VK):Prop where
 | mk (i j:Int) (ex:x=.int i) (ey:y=.int j) (q:Q (g i j) H)
def rI0(g:Int->Int->V):R2:=λx y H Q=>RI0 g x y H Q
inductive RU(g:Int->V)(x:V)(H:Hp)(Q:VK):Prop where
 | mk (i:Int) (ex:x=.int i) (q:Q (g i) H)
def rU(g:Int->V):V->Hp->VK->Prop:=λx H Q=>RU g x H Q

section
variable{X:Cx}{a b c:Expr}{ta tb tc:TE}{pos:Pos}

theorem zXd(ha:PE X a ta)(hb:PE X b tb){pins:List (Addr×Obj)}{s:Shared}{σ:St}{H:Hp}{R:V->V->Hp->Prop}(I:Inv X pins σ H s)
  (h:ta σ H λx H1=>tb σ H1 λy H2=>R x y H2) {Q:Value->Shared->Prop} {f:Value->Value->Sem Value}
  (hf:∀ v u s2 x y H2,Inv X pins σ H2 s2->uC x v->uC y u->R x y H2->wpAny (model X.prog X.w) X.A (f v u) Q X.xe s2) :
  wpAny (model X.prog X.w) X.A (eval a X.env) (λv s₁=>wpAny (model X.prog X.w) X.A (eval b X.env) (λu s₂=>wpAny (model X.prog X.w) X.A (f v u) Q X.xe s₂) X.xe s₁) X.xe s:=by
 refine thn (ha pins s σ H _ I h) λv s1 ⟨x,H1,I1,r1,q1⟩=>?_;refine thn (hb pins s1 σ H1 _ I1 q1) λu s2 ⟨y,H2,I2,r2,q2⟩=>?_;exact hf v u s2 x y H2 I2 r1 r2 q2

theorem xH{op:Operator}{r:R2}(ho:OpR X (binaryOp op) r)(ha:PE X a ta)(hb:PE X b tb):PE X (.BinOp a op b pos) (tOp r ta tb):=by
 intro pins s σ H Q I h;exact wpAny_BinOp (zXd ha hb I h λv u s2 x y H2 I2 rx ry q=>ho pins s2 σ H2 x y v u Q I2 rx ry q)
theorem pe_un{op:UnaryOp}{r:V->Hp->VK->Prop}(ho:UnR X (unaryOp op) r)(ha:PE X a ta):PE X (.UnaryOp op a pos) (tUn r ta):=by
 intro pins s σ H Q I h;exact UnaryOp_ (thn (ha pins s σ H _ I h) λv s1 ⟨x,H1,I1,r1,q1⟩=>ho pins s1 σ H1 x v Q I1 r1 q1)
theorem opI{f:Value->Value->Sem Value}{C:Int->Int->Prop}{g:Int->Int->Int}
  (rule:∀(i j:Int)(t u:Tok)(s:Shared)(Q:Value->Shared->Prop)(E:Value->Shared->Prop),C i j->Q (.int (g i j) s.toks) { s with toks:=s.toks+1 }->wpAny (model X.prog X.w) X.A (f (.int i t) (.int j u)) Q E s) :
  OpR X f (rI C λi j=>.int (g i j)):=by
 intro pins s σ H x y v u Q I rx ry h;obtain⟨i,j,rfl,rfl,hc,q⟩:=h;obtain⟨t,rfl⟩:=rx;obtain⟨t',rfl⟩:=ry;exact rule i j t t' s _ _ hc ⟨.int (g i j),H,I.tok _,⟨_,rfl⟩,q⟩
theorem opI0{f:Value->Value->Sem Value}{g:Int->Int->Int}
  (rule:∀(i j:Int)(t u:Tok)(s:Shared)(Q:Value->Shared->Prop)(E:Value->Shared->Prop),Q (.int (g i j) s.toks) { s with toks:=s.toks+1 }->wpAny (model X.prog X.w) X.A (f (.int i t) (.int j u)) Q E s) :
  OpR X f (rI0 λi j=>.int (g i j)):=by
 intro pins s σ H x y v u Q I rx ry h;obtain⟨i,j,rfl,rfl,q⟩:=h;obtain⟨t,rfl⟩:=rx;obtain⟨t',rfl⟩:=ry;exact rule i j t t' s _ _ ⟨.int (g i j),H,I.tok _,⟨_,rfl⟩,q⟩
theorem zW1{f:Value->Value->Sem Value}{g:Int->Int->Bool}
  (rule:∀(i j:Int)(t u:Tok)(s:Shared)(Q:Value->Shared->Prop)(E:Value->Shared->Prop),Q (.bool (g i j)) s->wpAny (model X.prog X.w) X.A (f (.int i t) (.int j u)) Q E s) :
  OpR X f (rI0 λi j=>.bl (g i j)):=by
 intro pins s σ H x y v u Q I rx ry h;obtain⟨i,j,rfl,rfl,q⟩:=h;obtain⟨t,rfl⟩:=rx;obtain⟨t',rfl⟩:=ry;exact rule i j t t' s _ _ ⟨.bl (g i j),H,I,rfl,q⟩

def CPow(i j:Int):Prop:=0<=j/\j<=1000000/\i.natAbs<2^64
def zJg(i j:Int):Prop:=(-(2^64)<i/\i<2^64)\/(-(2^64)<j/\j<2^64)
theorem zJg.ok{i j:Int}(h:zJg i j):IntMulOk i j:=by
 rcases h with ⟨h1,h2⟩ | ⟨h1,h2⟩
 ·exact .of_left (intBits_le_64 h1 h2)
 ·exact .of_right (intBits_le_64 h1 h2)
theorem zIg:OpR X (binaryOp .Add) (rI0 λi j=>.int (i+j)):=opI0 λ_ _ _ _ _ _ _ q=>add_int q
theorem zWe:OpR X (binaryOp .Sub) (rI0 λi j=>.int (i-j)):=opI0 λ_ _ _ _ _ _ _ q=>sub_int q
theorem zSh:OpR X (binaryOp .Mult) (rI zJg λi j=>.int (i*j)):=opI λ_ _ _ _ _ _ _ hc q=>mul_int q hc.ok
theorem zVr:OpR X (binaryOp .Mod) (rI (λ_ j=>0<j) λi j=>.int (i%j)):=opI λi j _ _ _ _ _ hc q=>by
 have h1:(0:Int)<j:=hc;exact mod_int' (by lia) (by rw[Int.fmod_eq_emod_of_nonneg i (by lia)]; exact q)
theorem zVf:OpR X (binaryOp .Pow) (rI CPow λi j=>.int (i^j.toNat)):=opI λ_ _ _ _ _ _ _ hc q=>pow_int_small hc.1 hc.2.1 hc.2.2 q
theorem unI{f:Value->Sem Value}{g:Int->Int}
  (rule:∀(i:Int)(t:Tok)(s:Shared)(Q:Value->Shared->Prop)(E:Value->Shared->Prop),Q (.int (g i) s.toks) { s with toks:=s.toks+1 }->wpAny (model X.prog X.w) X.A (f (.int i t)) Q E s) :
  UnR X f (rU λi=>.int (g i)):=by
 intro pins s σ H x v Q I rx h;obtain⟨i,rfl,q⟩:=h;obtain⟨t,rfl⟩:=rx;exact rule i t s _ _ ⟨.int (g i),H,I.tok _,⟨_,rfl⟩,q⟩
theorem zVu:UnR X (unaryOp .USub) (rU λi=>.int (-i)):=unI λ_ _ _ _ _ q=>neg_int q
end

def zVw:V->V->Bool
 | .non,.non=>true | .non,.int _=>true | .int _,.non=>true | .non,.bl _=>true | .bl _,.non=>true | .non,.str _=>true | .str _,.non=>true
 | .int _,.int _=>true | .bl _,.bl _=>true | .str _,.str _=>true | .byt _,.byt _=>true
 | .int _,.str _=>true | .str _,.int _=>true | .bl _,.str _=>true | .str _,.bl _=>true
 | _,_=>false
def rEq:R2:=λx y H Q=>zVw x y=true/\Q (.bl (decide (x=y))) H
def rNe:R2:=λx y H Q=>zVw x y=true/\Q (.bl (!decide (x=y))) H

theorem zP1{i j:Int} : decide (V.int i=V.int j)=(i == j):=by
 rw[Bool.eq_iff_iff];simp
theorem zSl{i j:Bool} : decide (V.bl i=V.bl j)=(i == j):=by
 rw[Bool.eq_iff_iff];simp
theorem zO3{i j:Str} : decide (V.str i=V.str j)=(i == j):=by
 rw[Bool.eq_iff_iff];simp
theorem zNt{i j:Array UInt8} : decide (V.byt i=V.byt j)=(i.toList == j.toList):=by
 rw[Bool.eq_iff_iff];cases i;cases j;simp

section
variable{X:Cx}{a b c:Expr}{ta tb tc:TE}{pos:Pos}
theorem yZ{pins:List (Addr×Obj)}{σ:St}{H:Hp}{s:Shared}{Q:VK}{k k':Bool}(I:Inv X pins σ H s)(q:Q (.bl k) H)(e:k=k'):EP X pins σ Q (.bool k') s:=by
 subst e;exact⟨.bl k,H,I,rfl,q⟩
theorem zVm:OpR X (compareOp .Eq) rEq:=by
 intro pins s σ H x y v u Q I rx ry h;obtain⟨hs,q⟩:=h;cases x with
 | non =>
  cases rx;cases y with
  | non=>cases ry; exact PySem.EqNone.eq_none_none (yZ I q (by simp))
  | bl j=>cases ry; exact PySem.EqNone.eq_none_bool (yZ I q (by simp))
  | int j=>obtain⟨t',rfl⟩:=ry; exact PySem.EqNone.eq_none_int (yZ I q (by simp))
  | str j=>obtain⟨t',rfl⟩:=ry; exact PySem.EqNone.eq_none_str (yZ I q (by simp))
  | _=>exact absurd (show false=true from hs) Bool.false_ne_true
 | bl i =>
  cases rx;cases y with
  | non=>cases ry; exact PySem.EqNone.eq_bool_none (yZ I q (by simp))
  | bl j=>cases ry; exact eq_bool (yZ I q zSl)
  | str j=>obtain⟨t',rfl⟩:=ry; exact PySem.EqMixed.eq_bool_str (yZ I q (by simp))
  | _=>exact absurd (show false=true from hs) Bool.false_ne_true
 | int i =>
  obtain⟨t,rfl⟩:=rx;cases y with
  | non=>cases ry; exact PySem.EqNone.eq_int_none (yZ I q (by simp))
  | int j=>obtain⟨t',rfl⟩:=ry; exact eq_int (yZ I q zP1)
  | str j=>obtain⟨t',rfl⟩:=ry; exact PySem.EqMixed.eq_int_str (yZ I q (by simp))
  | _=>exact absurd (show false=true from hs) Bool.false_ne_true
 | str i =>
  obtain⟨t,rfl⟩:=rx;cases y with
  | non=>cases ry; exact PySem.EqNone.eq_str_none (yZ I q (by simp))
  | bl j=>cases ry; exact PySem.EqMixed.eq_str_bool (yZ I q (by simp))
  | int j=>obtain⟨t',rfl⟩:=ry; exact PySem.EqMixed.eq_str_int (yZ I q (by simp))
  | str j=>obtain⟨t',rfl⟩:=ry; exact eq_str (yZ I q zO3)
  | _=>exact absurd (show false=true from hs) Bool.false_ne_true
 | byt i =>
  obtain⟨t,rfl⟩:=rx;cases y with
  | byt j=>obtain⟨t',rfl⟩:=ry; exact PySem.W.eq_bytes (yZ I q zNt)
  | _=>exact absurd (show false=true from hs) Bool.false_ne_true
 | _=>cases y <;> exact absurd (show false=true from hs) Bool.false_ne_true
theorem zQ6:OpR X (compareOp .NotEq) rNe:=by
 intro pins s σ H x y v u Q I rx ry h;obtain⟨hs,q⟩:=h;cases x with
 | non =>
  cases rx;cases y with
  | non=>cases ry; exact PySem.EqNone.ne_none_none (yZ I q (by simp))
  | bl j=>cases ry; exact PySem.EqNone.ne_none_bool (yZ I q (by simp))
  | int j=>obtain⟨t',rfl⟩:=ry; exact PySem.EqNone.ne_none_int (yZ I q (by simp))
  | str j=>obtain⟨t',rfl⟩:=ry; exact PySem.EqNone.ne_none_str (yZ I q (by simp))
  | _=>exact absurd (show false=true from hs) Bool.false_ne_true
 | bl i =>
  cases rx;cases y with
  | non=>cases ry; exact PySem.EqNone.ne_bool_none (yZ I q (by simp))
  | bl j=>cases ry; exact ne_bool (yZ I q (congrArg not zSl))
  | str j=>obtain⟨t',rfl⟩:=ry; exact PySem.EqMixed.ne_bool_str (yZ I q (by simp))
  | _=>exact absurd (show false=true from hs) Bool.false_ne_true
 | int i =>
  obtain⟨t,rfl⟩:=rx;cases y with
  | non=>cases ry; exact PySem.EqNone.ne_int_none (yZ I q (by simp))
  | int j=>obtain⟨t',rfl⟩:=ry; exact ne_int (yZ I q (congrArg not zP1))
  | str j=>obtain⟨t',rfl⟩:=ry; exact PySem.EqMixed.ne_int_str (yZ I q (by simp))
  | _=>exact absurd (show false=true from hs) Bool.false_ne_true
 | str i =>
  obtain⟨t,rfl⟩:=rx;cases y with
  | non=>cases ry; exact PySem.EqNone.ne_str_none (yZ I q (by simp))
  | bl j=>cases ry; exact PySem.EqMixed.ne_str_bool (yZ I q (by simp))
  | int j=>obtain⟨t',rfl⟩:=ry; exact PySem.EqMixed.ne_str_int (yZ I q (by simp))
  | str j=>obtain⟨t',rfl⟩:=ry; exact ne_str (yZ I q (congrArg not zO3))
  | _=>exact absurd (show false=true from hs) Bool.false_ne_true
 | byt i =>
  obtain⟨t,rfl⟩:=rx;cases y with
  | byt j=>obtain⟨t',rfl⟩:=ry; exact PySem.W.ne_bytes (yZ I q (congrArg not zNt))
  | _=>exact absurd (show false=true from hs) Bool.false_ne_true
 | _=>cases y <;> exact absurd (show false=true from hs) Bool.false_ne_true

theorem zJe:OpR X (compareOp .Lt) (rI0 λi j=>.bl (decide (i<j))):=zW1 λ_ _ _ _ _ _ _ q=>lt_int q
theorem zRc:OpR X (compareOp .LtE) (rI0 λi j=>.bl (decide (i<=j))):=zW1 λ_ _ _ _ _ _ _ q=>le_int q
theorem zS0:OpR X (compareOp .Gt) (rI0 λi j=>.bl (decide (j<i))):=zW1 λ_ _ _ _ _ _ _ q=>gt_int q
theorem zV3:OpR X (compareOp .GtE) (rI0 λi j=>.bl (decide (j<=i))):=zW1 λ_ _ _ _ _ _ _ q=>ge_int q
theorem zO5:OpR X (compareOp .Is) (λx y H Q=>y=.non/\Q (.bl (decide (x=.non))) H):=by
 intro pins s σ H x y v u Q I rx ry h;obtain⟨rfl,q⟩:=h;cases ry;refine is_none_gen (yZ I q ?_);cases x <;> first
  | (cases rx; rfl)
  | (obtain⟨t,rfl⟩:=rx; rfl)
theorem zJr:OpR X (compareOp .IsNot) (λx y H Q=>y=.non/\Q (.bl (!decide (x=.non))) H):=by
 intro pins s σ H x y v u Q I rx ry h;obtain⟨rfl,q⟩:=h;cases ry;refine isnot_none_gen (yZ I q ?_);cases x <;> first
  | (cases rx; rfl)
  | (obtain⟨t,rfl⟩:=rx; rfl)

theorem xI(b:Expr){op:CmpOp}(h:op≠.In:=by decide)(h2:op≠.NotIn:=by decide):behindInMarks op b=false:=by
 have e1:(op == CmpOp.In)=false:=by cases op <;> first | rfl | exact absurd rfl h
 have e2:(op == CmpOp.NotIn)=false:=by cases op <;> first | rfl | exact absurd rfl h2
 cases b <;> simp[behindInMarks,e1,e2]
theorem vE{op:CmpOp}{r:R2}(ho:OpR X (compareOp op) r)(ha:PE X a ta)(hb:PE X b tb)(hm:behindInMarks op b=false):PE X (.Compare a [op] [b] pos) (tOp r ta tb):=by
 intro pins s σ H Q I h;exact wpAny_Compare1 (zXd ha hb I h λv u s2 x y H2 I2 rx ry q=>ho pins s2 σ H2 x y v u Q I2 rx ry q) hm
def zN6(t:TE):TT:=λσ H Q=>t σ H λx H'=>∃ k,x=.bl k/\Q k H'
theorem wA{op:CmpOp}{r:R2}(ho:OpR X (compareOp op) r)(ha:PE X a ta)(hb:PE X b tb)(hm:behindInMarks op b=false):PT X (.Compare a [op] [b] pos) (zN6 (tOp r ta tb)):=by
 intro pins s σ H Q I h;refine wpAny_isTrue_Compare1 (thn (ha pins s σ H _ I h) λv s1 ⟨x,H1,I1,r1,q1⟩=>thn (hb pins s1 σ H1 _ I1 q1) λu s2 ⟨y,H2,I2,r2,q2⟩ =>
  thn (ho pins s2 σ H2 x y v u _ I2 r1 r2 q2) λc s3 ⟨z,H3,I3,r3,k,e,q3⟩=>?_) hm
 subst e;cases r3;exact wpAny_truthy_bool ⟨H3,I3,q3⟩
def zWr(r r':R2)(ta tb tc:TE):TE:=λσ H Q=>ta σ H λx H1=>tb σ H1 λy H2=>r x y H2 λz H3=>∃ k,z=.bl k /\
 (if k=true then tc σ H3 λw' H4=>r' y w' H4 Q else Q (.bl false) H3)
theorem zG9{op op':CmpOp}{r r':R2}(ho:OpR X (compareOp op) r)(ho':OpR X (compareOp op') r')(ha:PE X a ta)(hb:PE X b tb)(hc:PE X c tc)
  (hm:lastMarks [op,op'] [b,c]=false:=by with_unfolding_all rfl):PT X (.Compare a [op,op'] [b,c] pos) (zN6 (zWr r r' ta tb tc)):=by
 intro pins s σ H Q I h;refine isTrue_chain (thn (ha pins s σ H _ I h) λv s1 ⟨x,H1,I1,r1,q1⟩=>test_link (thn (hb pins s1 σ H1 _ I1 q1) λu s2 ⟨y,H2,I2,r2,q2⟩ =>
  thn (ho pins s2 σ H2 x y v u _ I2 r1 r2 q2) λd s3 ⟨z,H3,I3,r3,k,e,q3⟩=>?_)) hm
 subst e;cases r3;refine wpAny_truthy_bool ?_;cases k with
 | false =>
  obtain⟨k',e',q'⟩:=q3;cases e';exact ite_ff ⟨H3,I3,q'⟩
 | true =>
  refine ite_tt (test_last (thn (hc pins s3 σ H3 _ I3 q3) λw' s4 ⟨z',H4,I4,r4,q4⟩=>thn (ho' pins s4 σ H4 y z' u w' _ I4 r2 r4 q4) λd' s5 ⟨z2,H5,I5,r5,k2,e2,q5⟩=>?_));subst e2;cases r5;exact wpAny_truthy_bool ⟨H5,I5,q5⟩

def TruV(K:PySem.W.Frag)(x:V)(H:Hp)(k:Bool):Prop :=
 match x with
 | .non=>k=false
 | .bl b=>k=b
 | .int i=>k=(i != 0)
 | .str y=>y.length<=sizeLine/\k=((y.length:Int) != 0)
 | .byt y=>y.size<=sizeLine/\k=((y.size:Int) != 0)
 | .ref p=>(∃ xs,SqL K H p xs/\k = !xs.isEmpty)\/(∃ xs,SqT K H p xs/\k = !xs.isEmpty)\/∃ kvs,H p=some (.dK kvs)/\k = !kvs.isEmpty
 | _=>False
theorem zL7{κ:Type}{kvs:List (κ×V)}{vs:List (κ×Value)}(r:KV kvs vs):(!vs.isEmpty) = !kvs.isEmpty:=by
 cases r <;> rfl
theorem zGk{xs:List V}{its:List Value}(r:yW xs its):(!its.toArray.isEmpty) = !xs.isEmpty:=by
 cases r <;> simp
theorem zH5:(sizeLine:Nat)<2^63:=by rw[sizeLine_eq]; decide
theorem zUy:TruR X (λx H Q=>∃ k,TruV X.K x H k/\Q k H):=by
 intro pins s σ H x v Q I rx h;obtain⟨k,e,q⟩:=h;have hl:=zH5;have hs:sizeLine=16777216:=sizeLine_eq;cases x with
 | non =>
  cases rx;have e':k=false:=e;subst e';exact truthy_none ⟨H,I,q⟩
 | bl b =>
  cases rx;have e':k=b:=e;subst e';exact wpAny_truthy_bool ⟨H,I,q⟩
 | int i =>
  obtain⟨t,rfl⟩:=rx;have e':k=(i != 0):=e;subst e';exact PySem.P.truthy_int ⟨H,I,q⟩
 | str y =>
  obtain⟨t,rfl⟩:=rx;obtain⟨hy,e'⟩:y.length<=sizeLine/\k=((y.length:Int) != 0):=e;subst e';exact PySem.P.truthy_str (by lia) ⟨H,I.tok _,q⟩
 | byt y =>
  obtain⟨t,rfl⟩:=rx;obtain⟨hy,e'⟩:y.size<=sizeLine/\k=((y.size:Int) != 0):=e;subst e';exact PySem.W.truthy_bytes (by lia) ⟨H,I.tok _,q⟩
 | ref p =>
  cases rx;have e':(∃ xs,SqL X.K H p xs/\k = !xs.isEmpty)\/(∃ xs,SqT X.K H p xs/\k = !xs.isEmpty)\/∃ kvs,H p=some (.dK kvs)/\k = !kvs.isEmpty:=e;rcases e' with ⟨xs,hx,e'⟩ | ⟨xs,hx,e'⟩ | ⟨kvs,hx,e'⟩
  ·subst e';obtain⟨its,r,pl,hz⟩:=I.list hx;have hlen:=r.length;exact wpAny_truthy_list pl.isList (by simp only[List.size_toArray]; lia) ⟨H,I.tok _,by rw[zGk r]; exact q⟩
  ·subst e';obtain⟨its,r,pl,hz⟩:=I.tuple hx;have hlen:=r.length;exact truthy_tuple pl (by simp only[List.size_toArray]; lia) ⟨H,I.tok _,by rw[zGk r]; exact q⟩
  ·subst e';obtain⟨hz,hS,vs,r,m⟩:kvs.length<=sizeLine/\(p == sysModules)=false/\∃ vs,KV kvs vs/\s.heap.DictOf (uQ X.prog X.w) p vs:=I.hok p _ hx;have hlen:kvs.length=vs.length:=Paired.length r;exact wpAny_truthy_dict hS m (by lia) ⟨H,I.tok _,by rw[zL7 r]; exact q⟩
 | _=>exact(show False from e).elim
theorem zL5{x:V}{us:List Value}(r:yW [x] us):∃ u,us=[u]/\uC x u:=by
 cases r with
 | cons r1 r2=>cases r2; exact⟨_,rfl,r1⟩
theorem zQc{x y:V}{us:List Value}(r:yW [x,y] us):∃ u w',us=[u,w']/\uC x u/\uC y w':=by
 cases r with
 | cons r1 r2 =>
  cases r2 with
  | cons r3 r4=>cases r4; exact⟨_,_,rfl,r1,r3⟩
theorem zQw:qK X (.builtin "abs") (λxs H Q=>∃ i,xs=[.int i]/\Q (.int (if i<0 then -i else i)) H):=by
 intro pins s σ H xs us Q I r h;obtain⟨i,rfl,q⟩:=h;obtain⟨u,rfl,t,rfl⟩:=zL5 r;exact call_abs_int λu tk=>⟨.int (if i<0 then -i else i),H,I.tok _,⟨_,rfl⟩,q⟩
theorem zPy(hc:X.calm=true):qK X (.builtin "max") (λxs H Q=>∃ i j,xs=[.int i,.int j]/\Q (.int (if j>i then j else i)) H):=by
 intro pins s σ H xs us Q I r h;obtain⟨i,j,rfl,q⟩:=h;obtain⟨u,w',rfl,⟨t,rfl⟩,⟨t',rfl⟩⟩:=zQc r;refine max_two_ints (I.ok.hd hc) λh' tk k=>⟨_,H,I.kept k,?_,q⟩;by_cases hj:j>i
 ·rw[if_pos hj,if_pos hj]; exact⟨_,rfl⟩
 ·rw[if_neg hj,if_neg hj]; exact⟨_,rfl⟩
theorem zOy(hc:X.calm=true):qK X (.builtin "min") (λxs H Q=>∃ i j,xs=[.int i,.int j]/\Q (.int (if j<i then j else i)) H):=by
 intro pins s σ H xs us Q I r h;obtain⟨i,j,rfl,q⟩:=h;obtain⟨u,w',rfl,⟨t,rfl⟩,⟨t',rfl⟩⟩:=zQc r;refine min_two_ints (I.ok.hd hc) λh' tk k=>⟨_,H,I.kept k,?_,q⟩;by_cases hj:j<i
 ·rw[if_pos hj,if_pos hj]; exact⟨_,rfl⟩
 ·rw[if_neg hj,if_neg hj]; exact⟨_,rfl⟩
end
end L2

namespace L2
open PySem PySem.Spec PyProof.Rows

structure zXg(h:Heap)(x dx C:Addr)(mA:Str->Option Value):Prop where
 obj:h.get? x=some (PySem.W.instObj C dx)
 ns:h.Ns1 dx mA
 ne:dx≠x

theorem zOd{h:Heap}{dx:Addr}{mA:Str->Option Value}(n:h.Ns1 dx mA):∃ od,h.get? dx=some od/\∀ name,PySem.W.lookIn name od=some (mA name):=by
 obtain⟨o,es,ep,ho,hd,hk,_,hm⟩:=n;refine⟨o,ho,λname=>?_⟩;have e:=hm name;unfold nsFind findBy at e;rw[<- Array.find?_toList] at e;unfold PySem.W.lookIn;rw[hd];dsimp only;split
 ·rename_i y q
  rw[q] at e;exact congrArg some e
 ·rename_i q
  rw[q] at e;have a:es.toList.any (·.refKey)=false:=by
   rw[List.any_eq_false];intro y hy;obtain⟨z,t,hkey⟩:=hk y (Array.mem_toList_iff.mp hy);simp[DictEntry.refKey,hkey]
  have a':¬ es.toList.any (·.refKey)=true:=by rw[a]; exact Bool.false_ne_true
  rw[if_neg a'];exact congrArg some e

theorem zXg.look{h:Heap}{x dx C:Addr}{mA:Str->Option Value}(I:zXg h x dx C mA):∃ od,PySem.W.InstAt h x (PySem.W.instObj C dx) C (some od)/\∀ name,PySem.W.lookIn name od=some (mA name) :=
 let ⟨od,ho,hl⟩:=zOd I.ns
 ⟨od,⟨I.obj,rfl,rfl,ho⟩,hl⟩

section
variable{prog:Program}{w:World}{A:Around}{E:Value->Shared->Prop}{s:Shared}{K:PySem.W.Frag}{x dx C f:Addr}{mA:Str->Option Value}{name:Str}{v:Value}

end

section
variable{P:Program}{w:World}{H H':Hp}{h h':Heap}{a C dx:Addr}{fs fs':List (Str×V)}
theorem zT0(hok:HOk P w H h)(e:H a=some (.ins C dx fs)):∃ mA,zXg h a dx C mA/\(∀ f,zUt (fs.lookup f) (mA f))/\PySem.Within mA (fs.map (·.1))/\fs.length<=1000/\H dx=some (.own a):=by
 obtain⟨d,z,ne,ob,mA,n,r,q⟩:=(show vF P w H h a (.ins C dx fs) from hok a _ e);exact⟨mA,⟨ob,n,ne⟩,r,q,z,d⟩
end

structure Cls(K:PySem.W.Frag)(C:Addr):Prop where
 pg:PySem.W.plainGet K C Str.empty=true
 hd:PySem.W.hasDictIn K C=true
 po:PySem.W.plainOver K C=true
 sa:PySem.W.findIn K (.ref C) "__setattr__" = some (some (.builtin "object.__setattr__"))
theorem Cls.get{K:PySem.W.Frag}{C:Addr}(c:Cls K C)(f:Str):PySem.W.plainGet K C f=true:=c.pg
structure Con(K:PySem.W.Frag)(C:Addr)(f:Str)(v:V)(u:Value):Prop where
 at_:PySem.W.findIn K (.ref C) f=some (some u)
 rel:uC v u
 get:PySem.W.specialIn K u "__get__" = some none
 cp:PySem.W.copiedNames.contains f=false
structure Meth(K:PySem.W.Frag)(C:Addr)(m:Str)(f:Addr):Prop where
 at_:PySem.W.findIn K (.ref C) m=some (some (.ref f))
 fn:PySem.W.isFn K (.ref f)=true
 kp:PySem.W.keepIn K (.ref f)=true

section
variable{X:Cx}{pins:List (Addr×Obj)}{σ:St}{H:Hp}{s:Shared}{a C dx:Addr}{fs:List (Str×V)}{f:Str}{v:V}{A:Around}{E:Value->Shared->Prop}

end


section
variable{X:Cx}{pins:List (Addr×Obj)}{σ:St}{H:Hp}{s:Shared}{A:Around}{E:Value->Shared->Prop}{Q:Value->Shared->Prop}{c:Value}{b:Bool}
inductive TyOf(K:PySem.W.Frag)(H:Hp):V->Value->Prop where
 | non:TyOf K H .non (.type "NoneType")
 | bl (x:Bool):TyOf K H (.bl x) (.type "bool")
 | int (i:Int):TyOf K H (.int i) (.type "int")
 | str (x:Str):TyOf K H (.str x) (.type "str")
 | flt (x:UInt64):TyOf K H (.flt x) (.type "float")
 | lst {a:Addr} {xs:List V} (e:H a=some (.lst xs)):TyOf K H (.ref a) (.type "list")
 | frz {a:Addr} {o:Obj} {xs:List V} (e:H a=some (.frz o (.lst xs))):TyOf K H (.ref a) (.type "list")
 | tup {a:Addr} {xs:List V} (e:H a=some (.tup xs)):TyOf K H (.ref a) (.type "tuple")
 | dK {a:Addr} {kvs:List (Key×V)} (e:H a=some (.dK kvs)):TyOf K H (.ref a) (.type "dict")
 | dT {a:Addr} {kvs:List (List Key×V)} (e:H a=some (.dT kvs)):TyOf K H (.ref a) (.type "dict")
 | ins {a C dx:Addr} {fs:List (Str×V)} (e:H a=some (.ins C dx fs)) (cl:Cls K C) (ha:PySem.W.findIn K (.ref C) "__class__" = some (some (.builtin "object.__class__")))
   (hn:PySem.W.specialIn K (.builtin "object.__class__") "__get__" = some (some (.builtin "getset_descriptor.__get__"))) (htk:PySem.W.takesIn K (.builtin "object.__class__")=some true)
   (hm:PySem.W.mroIn K C (.type "object")=some true):TyOf K H (.ref a) (.ref C)
theorem zQa{x:V}{u t:Value}(I:Inv X pins σ H s)(rx:uC x u)(ty:TyOf X.K H x t)(e:PySem.W.kitOne X.K t c=some b)(h:∀ tk,Q (.bool b) { s with toks:=tk }) :
  wpAny (model X.prog X.w) A (call (.builtin "isinstance") [u,c]) Q E s:=by
 cases ty with
 | non=>cases (show u=Value.none from rx); exact PySem.W.kia_one PySem.W.kitx_none I.kIn True.intro e (λz=>nomatch z) h
 | bl y=>cases (show u=Value.bool y from rx); exact PySem.W.kia_one PySem.W.kitx_bool I.kIn True.intro e (λz=>nomatch z) h
 | int i=>obtain⟨t,q⟩:=(show ∃ t,u=Value.int i t from rx); cases q; exact PySem.W.kia_one PySem.W.kitx_int I.kIn True.intro e (λz=>nomatch z) h
 | str y=>obtain⟨t,q⟩:=(show ∃ t,u=Value.str y t from rx); cases q; exact PySem.W.kia_one PySem.W.kitx_str I.kIn True.intro e (λz=>nomatch z) h
 | flt y=>obtain⟨t,q⟩:=(show ∃ t,u=Value.float y t from rx); cases q; exact PySem.W.kia_one PySem.W.kitx_float I.kIn True.intro e (λz=>nomatch z) h
 | @lst a xs ea =>
  cases (show u=Value.ref a from rx);obtain⟨_,_,n,_,h1⟩:=(show vF X.prog X.w H s.heap a (.lst xs) from I.hok a _ ea);exact PySem.W.kia_one PySem.W.kitx_list I.kIn ⟨_,h1,rfl⟩ e (λz=>nomatch z) h
 | @frz a ob xs ea =>
  cases (show u=Value.ref a from rx);obtain⟨_,_,_,n,_,h1⟩:=(show vF X.prog X.w H s.heap a (.frz ob (.lst xs)) from I.hok a _ ea);exact PySem.W.kia_one PySem.W.kitx_list I.kIn ⟨_,h1,rfl⟩ e (λz=>nomatch z) h
 | @tup a xs ea =>
  cases (show u=Value.ref a from rx);obtain⟨_,_,_,p⟩:=(show vF X.prog X.w H s.heap a (.tup xs) from I.hok a _ ea);obtain⟨o,h1,h2,_⟩:=p;exact PySem.W.kia_one PySem.W.kitx_tuple I.kIn ⟨o,h1,h2⟩ e (λz=>nomatch z) h
 | @dK a kvs ea =>
  cases (show u=Value.ref a from rx);obtain⟨_,_,vs,_,p⟩:=(show vF X.prog X.w H s.heap a (.dK kvs) from I.hok a _ ea);obtain⟨o,es,ep,h1,h2,_⟩:=p;exact PySem.W.kia_one PySem.W.kitx_dict I.kIn ⟨o,h1,h2.1⟩ e (λz=>nomatch z) h
 | @dT a kvs ea =>
  cases (show u=Value.ref a from rx);obtain⟨_,_,xs,_,o,es,ep,h1,h2,_⟩:=(show vF X.prog X.w H s.heap a (.dT kvs) from I.hok a _ ea);exact PySem.W.kia_one PySem.W.kitx_dict I.kIn ⟨o,h1,h2.1⟩ e (λz=>nomatch z) h
 | @ins a C dx fs ea cl ha hn htk hm =>
  cases (show u=Value.ref a from rx);obtain⟨mA,O,_⟩:=zT0 I.hok ea;obtain⟨od,J,_⟩:=O.look;exact PySem.W.kia_one (PySem.W.kitx_own (cl.get _) cl.hd ha hn htk hm) I.kIn J e (λz=>nomatch z) h
end
end L2

namespace L2
open PySem PySem.Spec PyProof.Rows

structure zFt(k:Nat)(A:Around):Prop where
 hd:A.handled=none
 dp:A.depth+3*k+5<recursionLimit
 un:A.units+16*k+200<cLine
theorem zFt.mono{j k:Nat}{A:Around}(r:zFt k A)(h:j<=k):zFt j A:=⟨r.hd,by have:=r.dp; lia,by have:=r.un; lia⟩
theorem zFt.deeper{k:Nat}{A:Around}(r:zFt (k+1) A)(env:Env):zFt k (A.deeper env) :=
 ⟨r.hd,by have:=r.dp; show A.depth+1+3*k+5<_; lia,by have:=r.un; show A.units+3+16*k+200<_; lia⟩
theorem zFt.depth{k:Nat}{A:Around}(r:zFt k A):A.depth<recursionLimit:=by have:=r.dp; lia
theorem zFt.units{k:Nat}{A:Around}(r:zFt k A):A.units+64<cLine:=by have:=r.un; lia
theorem zFt.units0{k:Nat}{A:Around}(r:zFt k A):A.units<cLine:=by have:=r.un; lia

def zS2:TA:=λ_ H Q=>Q [] H
def rN(ta:TE)(tr:TA):TA:=λσ H Q=>ta σ H λx H1=>tr σ H1 λxs H2=>Q (x::xs) H2
section
variable{X:Cx}{e:Expr}{es:List Expr}{te:TE}{t:TA}{pos:Pos}
theorem yH:PA X [] zS2:=λ_ _ _ _ H Q I h=>Calls.spliced_nil ⟨[],H,I,.nil,h⟩
theorem zU(ha:PE X e te)(hr:PA X es t)(hs:starEach (e::es) X.env=(false,eval e X.env)::starEach es X.env:=by rfl):PA X (e::es) (rN te t):=by
 intro pos pins s σ H Q I h;rw[hs];show wpAny _ _ (spliced ((false,eval e X.env)::backTo pos (starEach es X.env))) _ _ s;refine Calls.spliced_cons (thn (ha pins s σ H _ I h) λu s1 ⟨x,H1,I1,r1,q1⟩=>?_);exact thn (hr pos pins s1 σ H1 _ I1 q1) λus s2 ⟨xs,H2,I2,r2,q2⟩=>⟨x::xs,H2,I2,.cons r1 r2,q2⟩

def tTup(t:TA):TE:=λσ H Q=>t σ H λxs H1=>xs.length<=sizeLine/\∀ p,H1 p=none->Q (.ref p) (upd H1 p (.tup xs))
def zGq(t:TA):TE:=λσ H Q=>t σ H λxs H1=>xs.length<=sizeLine/\∀ p,H1 p=none->Q (.ref p) (upd H1 p (.lst xs))
theorem zC5{x1}(h:PA X es t):PE X (.Tuple es x1 pos) (tTup t):=by
 intro pins s σ H Q I hq;refine wpAny_Tuple_spliced (thn (h pos pins s σ H _ I hq) λus s1 ⟨xs,H1,I1,r,z,q⟩=>⟨by rw[<- r.length]; exact z,?_⟩);have hf:H1 s1.heap.objs.size=none:=I1.hok.fresh (Nat.le_refl _);refine⟨.ref s1.heap.objs.size,upd H1 s1.heap.objs.size (.tup xs),I1.laid (t':=s1.toks) (λb u e=>Heap.get?_push_of_some _ e) (Nat.le_refl _) ?_,rfl,q _ hf⟩;exact⟨z,us,r,⟨_,Heap.get?_push_size _ rfl,rfl,_,rfl⟩⟩
theorem zUz(h:PA X es t):PE X (.List es pos) (zGq t):=by
 intro pins s σ H Q I hq;refine wpAny_List_spliced (thn (h pos pins s σ H _ I hq) λus s1 ⟨xs,H1,I1,r,z,q⟩=>⟨by rw[<- r.length]; exact z,?_⟩);have hf:H1 s1.heap.objs.size=none:=I1.hok.fresh (Nat.le_refl _);refine⟨.ref s1.heap.objs.size,upd H1 s1.heap.objs.size (.lst xs),I1.laid (t':=s1.toks) (λb u e=>Heap.get?_push_of_some _ e) (Nat.le_refl _) ?_,rfl,q _ hf⟩;exact⟨z,us,0,r,Heap.get?_push_size _ rfl⟩
end

abbrev Sp:=List V->Hp->VK->XK->Prop
abbrev CXT:=List Env->Hp->Shared->XK->Value->Shared->Prop

structure zW6(P:Program)(w:World)(K:PySem.W.Frag)(mg:Str->Option Value)(base:Heap)(A:Around)(outer:List Env)(s:Shared)(H:Hp):Prop where
 frames:A.frames=some outer
 mod:Mod K mg base
 bs:∀ b o,base.get? b=some o->s.heap.get? b=some o/\H b=none
 bsz:base.objs.size<=s.heap.objs.size
 funs:s.heap.FunFrames base outer
 frf:∀ b∈frs outer,H b=none
 hok:HOk P w H s.heap
 bare:AllBare s.gens
def CE(outer:List Env)(P:Program)(w:World)(H:Hp)(s:Shared)(Q:VK)(u:Value)(s':Shared):Prop :=
 ∃ v H',s'.os=s.os/\AllBare s'.gens/\Un (frs outer) [] H H' s.heap s'.heap/\HOk P w H' s'.heap/\uC v u/\Q v H'
def CR(CX:CXT)(outer:List Env)(P:Program)(w:World)(H:Hp)(s:Shared)(Q:VK)(E:XK)(r:Result)(s':Shared):Prop :=
 match r with
 | .ok (.ret u)=>CE outer P w H s Q u s'
 | .ok _=>False
 | .error e=>CX outer H s E e s'
structure xK(P:Program)(w:World)(K:PySem.W.Frag)(mg:Str->Option Value)(base:Heap)(CX:CXT)(k:Nat)(f:Addr)(fd:FuncData)(ps:List Str)(sp:Sp):Prop where
 len:∀ vs H Q E,sp vs H Q E->vs.length=ps.length
 run:∀(A:Around)(outer:List Env)(s:Shared)(H:Hp)(args:Args)(us:List Value)(vs:List V)(Q:VK)(E:XK),zFt k A->zW6 P w K mg base A outer s H->BindsTo s fd args (ps.zip us)->yW vs us->sp vs H Q E ->
  codeAny (model P w) A (.call (.ref f) args) (CR CX outer P w H s Q E) s
section
variable{X:Cx}{pins:List (Addr×Obj)}{σ:St}{H:Hp}{s s':Shared}
theorem Inv.env0(I:Inv X pins σ H s):zW6 X.prog X.w X.K X.mg X.base X.A X.stack s H :=
 ⟨I.ok.frames,I.ok.mod,I.bs,Nat.le_trans I.ok.bsz I.sz,I.stack,I.stkFree,I.hok,I.bare⟩
theorem Inv.after{Q:VK}{u:Value}(I:Inv X pins σ H s)(h:CE X.stack X.prog X.w H s Q u s'):EP X pins σ Q u s':=by
 obtain⟨v,H',os,bare,un,hok,r,q⟩:=h;obtain⟨hh,g,d,t,os'⟩:=s';obtain rfl:os'=s.os:=os;exact⟨v,H',I.call (h':=hh) (g':=g) (d':=d) (t':=t) (ch:=[]) un hok bare (λb z=>absurd z (by simp)),r,q⟩
end

def zTk(sp:Sp)(dvs:List V)(E:XK)(t:TA):TE:=λσ H Q=>t σ H λvs H1=>sp (vs++dvs) H1 Q E
def zG3(K:PySem.W.Frag)(fd:FuncData)(ps:List Str)(ds:List Value):Prop :=
 ∀(s:Shared)(us:List Value),K.In s.heap->(us++ds).length=ps.length->BindsTo s fd ⟨us,[]⟩ (ps.zip (us++ds))
theorem zG3.all{K:PySem.W.Frag}{fd:FuncData}{ps:List Str}(h:∀ us:List Value,us.length=ps.length->bindArgs fd ⟨us,[]⟩=pure (ps.zip us)):zG3 K fd ps []:=λs us _ hl=>by
 rw[List.append_nil] at hl ⊢;exact .of_eq (h us hl)

def zNo(CX:CXT)(X:Cx)(E:XK):Prop:=∀(pins:List (Addr×Obj))(σ:St)(H:Hp)(s:Shared)(e:Value)(s':Shared),Inv X pins σ H s->CX X.stack H s E e s'->X.xe e s'

section
variable{X:Cx}{CX:CXT}{k:Nat}{f C:Addr}{fd:FuncData}{ps:List Str}{sp:Sp}{dvs:List V}{ds:List Value}{E:XK}{x m:Str}{p pos apos:Pos}{e o:Expr}{es:List Expr}{ta:TE}{t:TA}

theorem zWy{pins:List (Addr×Obj)}{σ:St}{H:Hp}{s:Shared}{Q:VK}{us:List Value}{vs:List V}(F:xK X.prog X.w X.K X.mg X.base CX k f fd ps sp)(hr:zFt k X.A)(hb:zG3 X.K fd ps ds)(hd:yW dvs ds)(hx:zNo CX X E)
  (I:Inv X pins σ H s) (r:yW vs us) (h:sp (vs++dvs) H Q E):wpAny (model X.prog X.w) X.A (call (.ref f) us) (EP X pins σ Q) X.xe s:=by
 have r2:yW (vs++dvs) (us++ds):=r.append hd;have hl:(us++ds).length=ps.length:=by rw[<- r2.length]; exact F.len _ _ _ _ h
 refine wpAny_call (codeAny_mono (F.run X.A X.stack s H ⟨us,[]⟩ (us++ds) (vs++dvs) Q E hr I.env0 (hb s us I.kIn hl) r2 h) λr s' hq=>?_);cases r with
 | error e=>exact hx pins σ H s e s' I hq
 | ok fl =>
  cases fl with
  | ret u=>exact I.after hq
  | next=>exact False.elim hq
  | brk=>exact False.elim hq
  | cont=>exact False.elim hq

theorem zUb(F:xK X.prog X.w X.K X.mg X.base CX k f fd ps sp)(hr:zFt k X.A)(hg:Gl X x)(hm:X.mg x=some (.ref f))(hk:PySem.W.keepIn X.K (.ref f)=true)(hb:zG3 X.K fd ps ds)(hd:yW dvs ds)(hx:zNo CX X E)
  (ha:PA X (e::es) t) (hdb:(x ==("__debug__" : Str))=false:=by decide) (he:starEach (e::es) X.env=(false,eval e X.env)::starEach es X.env:=by rfl) (hpl:(backTo pos (starEach es X.env)).any (·.1)=false:=by rfl) :
  PE X (.Call (.Name x p) (e::es) [] pos) (zTk sp dvs E t):=by
 intro pins s σ H Q I h;refine wpAny_Call_Name_kw (zS6 I hg hm ?_ hdb);refine PySem.W.callWith_K (h₀:=X.base) I.ok.mod.kin hk (thn (ha pos pins s σ H _ I h) λus s1 ⟨vs,H1,I1,r,q⟩=>⟨I1.kIn,?_⟩) he hpl;exact zWy F hr hb hd hx I1 r q
structure Mk(K:PySem.W.Frag)(C f:Addr):Prop where
 makes:PySem.W.makesIn K C=true
 init:PySem.W.findIn K (.ref C) "__init__" = some (some (.ref f))
 fn:PySem.W.isFn K (.ref f)=true
 kp:PySem.W.keepIn K (.ref C)=true

end

section
variable{X:Cx}{CX:CXT}{k:Nat}{f C:Addr}{fd:FuncData}{ps ks:List Str}{sp:Sp}{E:XK}{x m:Str}{p pos apos kpos:Pos}{e o:Expr}{es:List Expr}{kws:List Keyword}{te ta:TE}{t tk:TA}{nm:Option Str}
structure KBinds(K:PySem.W.Frag)(fd:FuncData)(ps ks:List Str)(g:List Value->List Value->List Value)(gV:List V->List V->List V):Prop where
 to:∀(s:Shared)(us ws:List Value),K.In s.heap->(g us ws).length=ps.length->BindsTo s fd ⟨us,ks.zip ws⟩ (ps.zip (g us ws))
 rel:∀{vs:List V}{us:List Value}{zs:List V}{ws:List Value},yW vs us->yW zs ws->yW (gV vs zs) (g us ws)
variable{g:List Value->List Value->List Value}{gV:List V->List V->List V}
end

structure zT(N P:List Str)(sc:Scope):Prop where
 kind:sc.kind=.function
 co:sc.isCoroutine=false
 gen:sc.isGenerator=false
 nd:N.Nodup
 pre:N.take P.length=P
 par:∀ x∈P,sc.names.lookup x=some .local\/sc.names.lookup x=some .cell
 nofree:∀ y∈sc.names,y.2≠.free

theorem zIp{kindOf:Str->Option NameKind}{x:Str} : ∀{binds:List (Str×Value)}{m:Str->Option Value},(∀ v,(x,v) ∉ binds)->bindL kindOf binds m x=m x
 | [],_,_=>rfl
 | (n,v)::r,m,h=>by
  unfold bindL;rw[zIp λw hw=>h w (List.mem_cons_of_mem _ hw)];split
  ·have:x≠n:=by rintro rfl; exact h v List.mem_cons_self
   simp[this]
  ·rfl
theorem zJa{kindOf:Str->Option NameKind}{x:Str} : ∀{binds:List (Str×Value)}{m:Str->Option Value},(∀ v,(x,v) ∉ binds)->bindC kindOf binds m x=m x
 | [],_,_=>rfl
 | (n,v)::r,m,h=>by
  unfold bindC;rw[zJa λw hw=>h w (List.mem_cons_of_mem _ hw)];split
  ·rfl
  ·have:x≠n:=by rintro rfl; exact h v List.mem_cons_self
   simp[this]
theorem zHv{kindOf:Str->Option NameKind}{x:Str}{v:Value} : ∀{P:List Str}{vs:List Value}{i:Nat}{m:Str->Option Value},P.Nodup->P[i]?=some x->vs[i]?=some v->kindOf x=some .local ->
  bindL kindOf (P.zip vs) m x=some v
 | [],_,_,_,_,h,_,_=>by simp at h
 | _::_,[],_,_,_,_,h,_=>by simp at h
 | p::P,w::vs,0,m,nd,h1,h2,hk=>by
  simp at h1 h2; subst h1; subst h2;show bindL kindOf ((p,w)::P.zip vs) m p=_;unfold bindL;rw[zIp λv hv=>(List.nodup_cons.mp nd).1 (List.of_mem_zip hv).1,if_pos hk];simp
 | p::P,w::vs,i+1,m,nd,h1,h2,hk=>by
  show bindL kindOf ((p,w)::P.zip vs) m x=_;unfold bindL;exact zHv (i:=i) (List.nodup_cons.mp nd).2 (by simpa using h1) (by simpa using h2) hk
theorem zI2{kindOf:Str->Option NameKind}{x:Str}{v:Value} : ∀{P:List Str}{vs:List Value}{i:Nat}{m:Str->Option Value},P.Nodup->P[i]?=some x->vs[i]?=some v->kindOf x≠some .local ->
  bindC kindOf (P.zip vs) m x=some v
 | [],_,_,_,_,h,_,_=>by simp at h
 | _::_,[],_,_,_,_,h,_=>by simp at h
 | p::P,w::vs,0,m,nd,h1,h2,hk=>by
  simp at h1 h2; subst h1; subst h2;show bindC kindOf ((p,w)::P.zip vs) m p=_;unfold bindC;rw[zJa λv hv=>(List.nodup_cons.mp nd).1 (List.of_mem_zip hv).1,if_neg hk];simp
 | p::P,w::vs,i+1,m,nd,h1,h2,hk=>by
  show bindC kindOf ((p,w)::P.zip vs) m x=_;unfold bindC;exact zI2 (i:=i) (List.nodup_cons.mp nd).2 (by simpa using h1) (by simpa using h2) hk

def start(N:List Str)(vs:List V):St:=vs.map some++List.replicate (N.length-vs.length) none

def cxOf(CX:CXT)(P:Program)(w:World)(K:PySem.W.Frag)(mg:Str->Option Value)(base:Heap)(N:List Str)(qual:Str)(scope:Scope)(f:Addr)(cd:Value)(A:Around)(outer:List Env)(s:Shared)(H:Hp)(E:XK):Cx where
 prog:=P
 w:=w
 K:=K
 mg:=mg
 base:=base
 A:=A.deeper (envOfC qual scope s.heap.objs.size f cd)
 N:=N
 s₀:=s
 H₀:=H
 env:=envOfC qual scope s.heap.objs.size f cd
 outer:=outer
 stack:=envOfC qual scope s.heap.objs.size f cd::outer
 ex:=[]
 calm:=true
 fn:=λ_=>true
 pn:=[]
 xe:=λe s'=>wpAny (model P w) (A.deeper (envOfC qual scope s.heap.objs.size f cd)) (leaving (envOfC qual scope s.heap.objs.size f cd) e) (λ_ s''=>CX outer H s E e s'') (λe' s''=>CX outer H s E e' s'') s'

theorem zKu{sc:Scope}{n:Nat}{x:Str}(h:sc.names.lookup x=some .cell):∃ c,(cellsFrom n sc.names []).lookup x=some c:=by
 have q:=PySem.W.cellsFrom_some sc.names n [] (.inl h);exact Option.isSome_iff_exists.mp q

theorem zO4{CX:CXT}{P:Program}{w:World}{K:PySem.W.Frag}{mg:Str->Option Value}{base:Heap}{N ps:List Str}{qual:Str}{scope:Scope}{f:Addr}{cd:Value}{A:Around}{outer:List Env}{s s1:Shared}{H:Hp}{E:XK}{us:List Value}{vs:List V}
  (S:zT N ps scope) (hd:A.handled=none) (e0:zW6 P w K mg base A outer s H) (hl:vs.length=ps.length) (r:yW vs us)
  (x:InCallC s s.heap.objs.size (bindL (envOfC qual scope s.heap.objs.size f cd).kindOf (ps.zip us) λ_=>none) (cellsFrom (s.heap.objs.size+1) scope.names []) (bindC (envOfC qual scope s.heap.objs.size f cd).kindOf (ps.zip us) λ_=>none) s1) :
  Inv (cxOf CX P w K mg base N qual scope f cd A outer s H E) [] (start N vs) H s1:=by
 have hpl:ps.length<=N.length:=by have:=congrArg List.length S.pre; rw[List.length_take] at this; lia
 obtain⟨h1,tk,rfl,hk⟩:=x.done;have noA:∀ b:Addr,b ∉ (cxOf CX P w K mg base N qual scope f cd A outer s H E).ex:=λb z=>absurd (show b∈([]:List Addr) from z) (by simp);refine⟨⟨e0.mod,S.kind,rfl,rfl,Nat.le_refl _,λy z c h1 h2=>?_,λy hy=>?_,λy c _ h=>?_,λ_=>hd,Around.frames_deeper e0.frames,.inr ⟨rfl,rfl⟩,λb z=>absurd z (noA b),e0.bs,e0.bsz,λb _ _=>noA b,λb z=>absurd z (noA b),e0.funs,e0.frf⟩,
  rfl,e0.bare,Un.kept hk,⟨_,x.toInCall.ns,λi y v h1 h2 h3=>?_⟩,λy c h=>⟨_,x.cell y c h⟩,e0.hok.fresh (Nat.le_refl _),λy c h=>?_,λp hp=>absurd (show p∈([]:List (Addr×Obj)) from hp) (by simp),e0.hok.kept hk,?_⟩
 ·exact name_of_addr x.apart (PySem.mem_of_lookup h1) (PySem.mem_of_lookup h2)
 ·have hy:scope.names.lookup y=some .cell\/scope.names.lookup y=some .free:=hy;rcases hy with hy | hy
  ·exact zKu hy
  ·exact absurd rfl (S.nofree _ (PySem.mem_of_lookup hy))
 ·exact Nat.le_of_lt (x.above y c (PySem.mem_of_lookup h))
 ·have hi:i<vs.length:=by
   unfold start at h2;by_cases hi:i<vs.length
   ·exact hi
   ·rw[List.getElem?_append_right (by simpa using hi)] at h2;rw[List.getElem?_replicate] at h2;split at h2 <;> cases h2
  have ha:vs[i]?=some v:=by
   unfold start at h2;rw[List.getElem?_append_left (by simpa using hi),List.getElem?_map] at h2;cases e:vs[i]? with
   | none=>rw[e] at h2; cases h2
   | some a=>rw[e] at h2; cases h2; rfl
  obtain⟨u,hu,rv⟩:=r.get ha;have hp:ps[i]?=some y:=by
   rw[<- S.pre,List.getElem?_take_of_lt (by lia)]; exact h1
  have ndP:ps.Nodup:=by rw[<- S.pre]; exact S.nd.sublist (List.take_sublist _ _)
  exists u,rv;rcases S.par y (List.mem_of_getElem? hp) with k | k
  ·exact .inl ⟨k,zHv ndP hp hu k⟩
  ·obtain⟨c,e⟩:=zKu (n:=s.heap.objs.size+1) k;refine .inr ⟨.inl k,c,e,?_⟩;have q:=x.cell y c e;rw[zI2 ndP hp hu (by show scope.names.lookup y≠_; rw[k]; decide)] at q;exact q
 ·exact e0.hok.fresh (Nat.le_of_lt (x.above y c (PySem.mem_of_lookup h)))
 ·unfold start;show _=N.length;rw[List.length_append,List.length_map,List.length_replicate];lia

theorem fn_of{CX:CXT}{P:Program}{w:World}{K:PySem.W.Frag}{mg:Str->Option Value}{base:Heap}{k:Nat}{f:Addr}{name qual:Str}{params:Arguments}{body:List Stmt}{scope:Scope}{dV kV doc pm cdv ct oc:Value}{an od:Option Addr}
  {osl:Array (Option Value)} {N ps:List Str} {sp:Sp} (lk:K.lookup f=some ⟨oc,od,.func (PySem.W.fnOf name qual params body scope dV kV doc pm an cdv ct),osl⟩) (hcd:PySem.W.codeIn K cdv qual=true) (S:zT N ps scope)
  (len:∀ vs H Q E,sp vs H Q E->vs.length=ps.length)
  (hbody:∀(A:Around)(outer:List Env)(s:Shared)(H:Hp)(vs:List V)(Q:VK)(E:XK),zFt k (A.deeper (envOfC qual scope s.heap.objs.size f cdv))->sp vs H Q E ->
   ∃ t,PSs (cxOf CX P w K mg base N qual scope f cdv A outer s H E) body t/\t { nx:=λ_ H'=>Q .non H',rt:=Q } (start N vs) H) :
  xK P w K mg base CX (k+1) f (PySem.W.fnOf name qual params body scope dV kV doc pm an cdv ct) ps sp:=by
 refine⟨len,λA outer s H args us vs Q E hr e0 hb r hsp=>?_⟩;have hl:=len _ _ _ _ hsp;have KX:K.In s.heap:=e0.mod.kin.keeps λb o e=>(e0.bs b o e).1;have lim:s.heap.NoLimit:=e0.mod.nolimit.keeps λb o e=>(e0.bs b o e).1;have hkind:∀ y∈ps.zip us,scope.names.lookup y.1=some .local\/(scope.names.lookup y.1=some .cell/\((cellsFrom (s.heap.objs.size+1) scope.names []).lookup y.1).isSome=true):=λ⟨n,v⟩ hy=>by
  rcases S.par n (List.of_mem_zip hy).1 with q | q
  ·exact .inl q
  ·exact .inr ⟨q,PySem.W.cellsFrom_some _ _ _ (.inl q)⟩
 refine codeAny_call_function hr.depth (KX _ _ lk) rfl S.co S.gen rfl (PySem.W.codeRec_of KX hcd) (hb _ _ _ _ ?_);refine wpAny_newFunctionEnv_cells S.kind hkind λenv he s1 x=>?_;subst he;refine⟨lim.keeps x.toInCall.keep,codeAny_func ?_⟩;obtain⟨t,ht,hq⟩:=hbody A outer s H vs Q E (hr.deeper _) hsp;have I:Inv (cxOf CX P w K mg base N qual scope f cdv A outer s H E) [] (start N vs) H s1:=zO4 S hr.hd e0 hl r x;refine wpAny_mono (ht [] s1 (start N vs) H _ I hq) (λfl s' hs=>?_) λe s' hs=>hs;have fin:∀{σ':St}{H':Hp}{v:V}{u:Value},Inv (cxOf CX P w K mg base N qual scope f cdv A outer s H E) [] σ' H' s'->uC v u->Q v H'->CE outer P w H s Q u s' :=
  λ{σ' H' v u} J rv q=>⟨v,H',J.os,J.bare,J.base,J.hok,rv,q⟩
 cases fl with
 | ret u =>
  obtain⟨v,σ',H',J,rv,q⟩:=hs;exact fin J rv q
 | next =>
  obtain⟨σ',H',J,q⟩:=hs;exact fin (v:=V.non) (u:=Value.none) J rfl q
 | brk =>
  obtain⟨_,_,_,q⟩:=hs;exact False.elim q
 | cont =>
  obtain⟨_,_,_,q⟩:=hs;exact False.elim q
end L2

namespace L2
open PySem PySem.Spec PyProof.Rows
section
variable{X:Cx}{x:Str}{p pos:Pos}{e:Expr}{es:List Expr}{t:TA}{id T:String}{r:List V->Hp->VK->Prop}

def tCB(r:List V->Hp->VK->Prop)(t:TA):TE:=λσ H Q=>t σ H λvs H1=>r vs H1 Q
theorem wM(hc:qK X (.builtin id) r)(hg:Gl X x)(hm:X.mg x=none)(hv:bootBuiltins x=some (.builtin id))(ha:PA X (e::es) t)(hn:x ≠ "__name__" := by decide)(hdb:(x ==("__debug__" : Str))=false:=by decide)
  (he:starEach (e::es) X.env=(false,eval e X.env)::starEach es X.env:=by rfl) (hpl:(backTo pos (starEach es X.env)).any (·.1)=false:=by rfl):PE X (.Call (.Name x p) (e::es) [] pos) (tCB r t):=by
 intro pins s σ H Q I h;refine wpAny_Call_Name_kw (zGn I hg hm hv ?_ hn hdb);exact PyProof.Rows.callWith_builtin1 (thn (ha pos pins s σ H _ I h) λus s1 ⟨vs,H1,I1,r1,q1⟩=>hc pins s1 σ H1 vs us Q I1 r1 q1) he hpl
theorem zFh(hc:qK X (.type T) r)(hg:Gl X x)(hm:X.mg x=none)(hv:bootBuiltins x=some (.type T))(ha:PA X (e::es) t)(hn:x ≠ "__name__" := by decide)(hdb:(x ==("__debug__" : Str))=false:=by decide)
  (he:starEach (e::es) X.env=(false,eval e X.env)::starEach es X.env:=by rfl) (hpl:(backTo pos (starEach es X.env)).any (·.1)=false:=by rfl):PE X (.Call (.Name x p) (e::es) [] pos) (tCB r t):=by
 intro pins s σ H Q I h;refine wpAny_Call_Name_kw (zGn I hg hm hv ?_ hn hdb);exact PyProof.Rows.callWith_type1 (thn (ha pos pins s σ H _ I h) λus s1 ⟨vs,H1,I1,r1,q1⟩=>hc pins s1 σ H1 vs us Q I1 r1 q1) he hpl
end
end L2

namespace HT
open PySem PyProof.Rows

def lexLt:List Int->List Int->Bool
 | [],[]=>false
 | [],_::_=>true
 | _::_,[]=>false
 | x::xs,y::ys=>if x=y then lexLt xs ys else decide (x<y)
theorem lexLt_cons(x y:Int)(xs ys:List Int):lexLt (x::xs) (y::ys)=if x=y then lexLt xs ys else decide (x<y):=rfl
section
open PySem.SeqAt
open PySem.AutoSeq1 (wpAny_loadPart')
open PySem.MeetsSeq PySem.MeetsSeq2 PySem.MeetsSeq3

end

section
variable{prog:Program}{w:World}{A:Around}{E:Value->Shared->Prop}{s:Shared}

theorem cat_tup{t b:Addr}{vs ws:List Value}{Q:Value->Shared->Prop}(ht:IsTup s.heap t vs.toArray)(hb:IsTup s.heap b ws.toArray)(hv:vs≠[])
  (h1:ws=[]->Q (.ref t) s) (h2:ws≠[]->Q (.ref s.heap.objs.size) { s with heap:=s.heap.push { cls:=.type "tuple", data:=.seq (vs++ws).toArray } })
  (hsz:vs.length+ws.length<=sizeLine):wpAny (model prog w) A (binaryOp .Add (.ref t) (.ref b)) Q E s:=by
 obtain⟨⟨cls,dd,data,sl⟩,ho,hc,n,hd⟩:=id ht;obtain⟨⟨cls2,dd2,data2,sl2⟩,ho2,hc2,n2,hd2⟩:=id hb;simp only at hc hd hc2 hd2;subst hc hd hc2 hd2;have e:vs.toArray++ws.toArray=(vs++ws).toArray:=by simp
 by_cases hw:ws=[]
 ·exact concat_meets ⟨_,ho,rfl⟩ ⟨_,ho2,rfl⟩ noFill_tuple_add seq_tuple_add PySem.F.slot_tuple_add PySem.F.entry_tuple_add (PySem.F.args_tuple_add_2 _ _)
   (tuple_addW1 t b vs.toArray ws.toArray n n2 dd dd2 sl sl2 (by simpa using hv) (by simp[hw])) ⟨ho,ho2,h1 hw⟩
 ·refine concat_meets ⟨_,ho,rfl⟩ ⟨_,ho2,rfl⟩ noFill_tuple_add seq_tuple_add PySem.F.slot_tuple_add PySem.F.entry_tuple_add (PySem.F.args_tuple_add_2 _ _)
   (tuple_addW2 t b vs.toArray ws.toArray n n2 dd dd2 sl sl2 (by simpa using hv) (by simpa using hw) (by rw[List.size_toArray,List.size_toArray]; exact hsz)) ⟨ho,ho2,?_⟩
  rw[e];exact h2 hw

def sIx(n d:Nat):Option Int->Nat
 | none=>d
 | some v=>if v<0 then(v+(n:Int)).toNat else min v.toNat n
theorem sIx_nat(n d k:Nat):sIx n d (some (k:Int))=min k n:=by
 show(if (k:Int)<0 then((k:Int)+(n:Int)).toNat else min (k:Int).toNat n)=min k n;rw[if_neg (by lia),Int.toNat_natCast]
theorem zWo(n d:Nat)(hd:d<=n)(o:Option Int):sIx n d o<=n:=by
 cases o with
 | none=>exact hd
 | some v =>
  show(if v<0 then(v+(n:Int)).toNat else min v.toNat n)<=n;by_cases hv:v<0
  ·rw[if_pos hv]; lia
  ·rw[if_neg hv]; exact Nat.min_le_right _ _
theorem zNm(v:Int)(n d:Nat):(if v<0 then max (v+(n:Int)) 0 else min v (n:Int))=((sIx n d (some v):Nat):Int):=by
 show(if v<0 then max (v+(n:Int)) 0 else min v (n:Int))=(((if v<0 then(v+(n:Int)).toNat else min v.toNat n):Nat):Int);by_cases hv:v<0
 ·simp only[if_pos hv]; lia
 ·simp only[if_neg hv]; lia
theorem zLs(lo hi:Option Int)(n:Nat):Builtin.Slice.sliceAdjust lo hi 1 (n:Int)=(((sIx n 0 lo:Nat):Int),((sIx n n hi:Nat):Int)):=by
 have h1:¬ ((1:Int)<0):=by lia
 unfold Builtin.Slice.sliceAdjust;simp only[h1,if_false];refine Prod.ext ?_ ?_
 ·cases lo with
  | none=>rfl
  | some v=>exact zNm v n 0
 ·cases hi with
  | none=>rfl
  | some v=>exact zNm v n n
theorem zLz(i j:Nat):Builtin.Slice.slicePlaces (i:Int) (j:Int) 1=j-i:=by
 unfold Builtin.Slice.slicePlaces;have h1:(1:Int)>0:=by lia
 simp only[h1,if_true,Int.ediv_one];split <;> lia
theorem zGt{v:Value}{o:Option Int}{Q:Option Int->Shared->Prop}(p:IsPart v o)(h:Q o s):wpAny (model prog w) A (Builtin.Slice.slicePartIndex v) Q E s:=by
 cases p with
 | none=>exact slicePart_none h
 | int i t=>exact slicePart_int h
theorem zDg{sl:Addr}{vl vu:Value}{lo hi:Option Int}{n:Nat}{Q:Int×Int×Nat->Shared->Prop}(hs:s.heap.IsSliceOf sl vl vu .none)(pl:IsPart vl lo)(pu:IsPart vu hi)
  (h:Q (((sIx n 0 lo:Nat):Int),1,sIx n n hi-sIx n 0 lo) s):wpAny (model prog w) A (Builtin.Slice.sliceApplied (.ref sl) (pure (n:Int))) Q E s:=by
 obtain⟨os,hos,hcs,hds⟩:=id hs;unfold Builtin.Slice.sliceApplied Builtin.Slice.sliceFields;refine wpAny_bind (wpAny_bind (wpAny_field hos hds (x:=vl) rfl (wpAny_bind (wpAny_field hos hds (x:=vu) rfl (wpAny_bind (wpAny_field hos hds (x:=.none) rfl (wpAny_pure ?_)))))));refine wpAny_bind (slicePart_none ?_);show wpAny _ _ (if ((1:Int) == 0)=true then _ else _) _ _ s;rw[if_neg (by decide)];refine wpAny_bind (zGt pl (wpAny_bind (zGt pu (wpAny_bind (wpAny_pure ?_)))));show wpAny _ _ (match Builtin.Slice.sliceAdjust lo hi 1 (n:Int) with | (lo,hi)=>pure (lo,(1:Int),Builtin.Slice.slicePlaces lo hi 1)) _ _ s;rw[zLs lo hi n];show wpAny _ _ (pure (((sIx n 0 lo:Nat):Int),(1:Int),Builtin.Slice.slicePlaces ((sIx n 0 lo:Nat):Int) ((sIx n n hi:Nat):Int) 1)) _ _ s;rw[zLz];exact wpAny_pure h
theorem zRs(xs:Array Value)(i k:Nat):((List.range k).filterMap λ(m:Nat)=>xs[((i:Int)+(m:Int)*1).toNat]?).toArray=((xs.toList.drop i).take k).toArray:=by
 have e:(λ(m:Nat)=>xs[((i:Int)+(m:Int)*1).toNat]?)=λm=>xs[i+m]?:=by
  funext m
  have:((i:Int)+(m:Int)*1).toNat=i+m:=by lia
  rw[this]
 rw[e];have:=pick_run xs i k;rw[List.filterMap_map] at this;have e2:((λx=>xs[x]?) ∘ λx=>i+x)=λm=>xs[i+m]?:=rfl;rw[e2] at this;rw[this]

theorem getItem_tuple_cut{t sl:Addr}{items:Array Value}{vl vu:Value}{lo hi:Option Int}{Q:Value->Shared->Prop}(ht:IsTup s.heap t items)(hs:s.heap.IsSliceOf sl vl vu .none)(pl:IsPart vl lo)(pu:IsPart vu hi)
  (hw:¬ (sIx items.size 0 lo=0/\sIx items.size items.size hi=items.size))
  (h:Q (.ref s.heap.objs.size) { s with heap:=s.heap.push { cls:=.type "tuple", data:=.seq ((items.toList.drop (sIx items.size 0 lo)).take (sIx items.size items.size hi-sIx items.size 0 lo)).toArray } })
  (hsz:items.size<=sizeLine):wpAny (model prog w) A (getItem (.ref t) (.ref sl)) Q E s:=by
 have htake:sizeOk (.seq ((items.toList.drop (sIx items.size 0 lo)).take (sIx items.size items.size hi-sIx items.size 0 lo)).toArray):=by
  show((items.toList.drop (sIx items.size 0 lo)).take (sIx items.size items.size hi-sIx items.size 0 lo)).toArray.size<=sizeLine;rw[List.size_toArray,List.length_take,List.length_drop,Array.length_toList];lia
 have hj:sIx items.size items.size hi<=items.size:=zWo _ _ (Nat.le_refl _) hi;obtain⟨os,hos,hcs,hds⟩:=id hs;have hTs:s.TypeIs (.ref sl) "slice" :=⟨os,hos,hcs⟩;unfold getItem
 try with_reducible refine wpAny_holding ?_
 first | refine wpAny_bind (wpAny_pure ?_) | skip
 refine wpAny_bind (wpAny_sequenceKey ht.typeIs (by decide) ?_);refine wpAny_bind (wpAny_callSpecial?_slot (name:=Str.ofString "__getitem__") ht.typeIs PyProof.Rows.slot_tuple_getitem
  (wpAny_call_entry PyProof.Rows.slot_tuple_getitem ht.typeIs entry_tuple_getitem ?_ (args_tuple_getitem _ _)))
 show wpAny _ _ (Builtin.Tuple.tupleItemsOf (.ref t) >>= _) _ _ s;refine wpAny_bind (tupleItemsOf_ ht ?_);refine wpAny_bind (wpAny_typeOf hTs ?_);rw[if_pos (by decide)];refine wpAny_bind (zDg hs pl pu ?_);have hno:¬ ((((sIx items.size 0 lo:Nat):Int) == 0&&(1:Int) == 1&&(sIx items.size items.size hi-sIx items.size 0 lo) == items.size)=true):=by
  intro q;rw[Bool.and_eq_true,Bool.and_eq_true] at q;have q1:((sIx items.size 0 lo:Nat):Int)=0:=eq_of_beq q.1.1;have q2:sIx items.size items.size hi-sIx items.size 0 lo=items.size:=eq_of_beq q.2;exact hw ⟨by lia,by lia⟩
 show wpAny _ _ (if (((sIx items.size 0 lo:Nat):Int) == 0&&(1:Int) == 1&&(sIx items.size items.size hi-sIx items.size 0 lo) == items.size)=true then _ else _) _ _ s;rw[if_neg hno,zRs]
 first
  | exact wpAny_bind (m:=Builtin.Tuple.tupleExact _) (wpAny_newObj_type (wpAny_pure ⟨_,rfl,wpAny_pure h⟩) htake)
  | exact wpAny_bind (m:=Builtin.Tuple.tupleExact _) (wpAny_newObj_type (wpAny_bind (wpAny_pure (wpAny_pure ⟨_,rfl,wpAny_pure h⟩))) htake)
  | exact wpAny_bind (wpAny_bind (m:=Builtin.Tuple.tupleExact _) (wpAny_newObj_type (wpAny_pure (wpAny_pure ⟨_,rfl,wpAny_pure h⟩)) htake))
  | exact wpAny_bind (wpAny_bind (m:=Builtin.Tuple.tupleExact _) (wpAny_newObj_type (wpAny_pure ⟨_,rfl,wpAny_pure h⟩) htake))
end
end HT

namespace L2
open PySem PySem.Spec PyProof.Rows

abbrev TO:=St->Hp->(Option Int->Hp->Prop)->Prop
def PO(X:Cx)(e:Option Expr)(t:TO):Prop :=
 ∀(pins:List (Addr×Obj))(s:Shared)(σ:St)(H:Hp)(Q:Option Int->Hp->Prop),Inv X pins σ H s->t σ H Q ->
  wpAny (model X.prog X.w) X.A (evalPart e X.env) (λu s'=>∃ o H',Inv X pins σ H' s'/\IsPart u o/\Q o H') X.xe s
def zUi:TO:=λ_ H Q=>Q none H
def tPart(t:TE):TO:=λσ H Q=>t σ H λx H1=>∃ i,x=.int i/\Q (some i) H1

theorem zMy{ns:List Int} : ∀{us:List Value},yW (ns.map V.int) us->IntsAre us ns:=by
 induction ns with
 | nil=>intro us r; rw[List.map_nil] at r; cases r; exact .nil
 | cons n ns ih =>
  intro us r;rw[List.map_cons] at r;cases r with
  | cons r1 r2 =>
   obtain⟨t,e⟩:=r1;subst e;exact .cons n t (ih r2)

section
variable{X:Cx}{e:Expr}{te:TE}{lo hi:Option Expr}{tl th:TO}{pos p2:Pos}

theorem zEt:PO X none zUi:=by
 intro pins s σ H Q I h;rw[evalPart_none];exact wpAny_pure ⟨none,H,I,.none,h⟩
theorem zHg(h:PE X e te):PO X (some e) (tPart te):=by
 intro pins s σ H Q I hw;rw[evalPart_some];refine thn (h pins s σ H _ I hw) λu s1 ⟨x,H1,I1,r1,q1⟩=>?_;obtain⟨i,rfl,q⟩:=q1;obtain⟨t,rfl⟩:=r1;exact⟨some i,H1,I1,.int i t,q⟩

def SlR(X:Cx)(r:V->Option Int->Option Int->Hp->VK->Prop):Prop :=
 ∀(pins:List (Addr×Obj))(s:Shared)(σ:St)(H:Hp)(x:V)(v vl vu:Value)(lo hi:Option Int)(sl:Addr)(Q:VK),Inv X pins σ H s->uC x v->s.heap.IsSliceOf sl vl vu .none->IsPart vl lo->IsPart vu hi->r x lo hi H Q ->
  ∃ T id,typeLookup (.type T) "__getitem__" = pure (some (.builtin id))/\s.TypeIs v T/\wpAny (model X.prog X.w) X.A (getItem v (.ref sl)) (EP X pins σ Q) X.xe s
def tSl(r:V->Option Int->Option Int->Hp->VK->Prop)(te:TE)(tl th:TO):TE:=λσ H Q=>te σ H λx H1=>tl σ H1 λl H2=>th σ H2 λu H3=>r x l u H3 Q
theorem zG5{r:V->Option Int->Option Int->Hp->VK->Prop}(hr:SlR X r)(he:PE X e te)(hl:PO X lo tl)(hu:PO X hi th):PE X (.Subscript e (.Slice lo hi none p2) pos) (tSl r te tl th):=by
 intro pins s σ H Q I h;refine Subscript_ (thn (he pins s σ H _ I h) λv s1 ⟨x,H1,I1,r1,q1⟩=>?_);refine wpAny_Slice (thn (hl pins s1 σ H1 _ I1 q1) λvl s2 ⟨l,H2,I2,pl,q2⟩=>thn (hu pins s2 σ H2 _ I2 q2) λvu s3 ⟨u,H3,I3,pu,q3⟩=>?_);rw[evalPart_none];refine wpAny_pure ?_;have I4:Inv X pins σ H3 { s3 with heap:=s3.heap.push { cls:=.type "slice", data:=.fields #[vl,vu,.none] } }:=I3.kept (t':=s3.toks) λb ob q=>Heap.get?_push_of_some _ q;obtain⟨T,id,hT,ht,hg⟩:=hr pins { s3 with heap:=s3.heap.push { cls:=.type "slice", data:=.fields #[vl,vu,.none] } } σ H3 x v vl vu l u s3.heap.objs.size Q I4 r1 (Heap.IsSliceOf.new ..) pl pu q3;show wpAny (model X.prog X.w) X.A (subscriptTail e (.Slice lo hi none p2) v (.ref s3.heap.objs.size)) (EP X pins σ Q) X.xe { s3 with heap:=s3.heap.push { cls:=.type "slice", data:=.fields #[vl,vu,.none] } };exact tail_any (ops:=[.ref s3.heap.objs.size,v]) ht hT hg (by with_unfolding_all rfl)

def qJ(xs:List V)(lo hi:Option Int):List V:=(xs.drop (HT.sIx xs.length 0 lo)).take (HT.sIx xs.length xs.length hi-HT.sIx xs.length 0 lo)
theorem zFk(xs:List V)(lo hi:Option Int):(qJ xs lo hi).length<=xs.length:=by
 unfold qJ;rw[List.length_take,List.length_drop];lia
def rSlT(K:PySem.W.Frag):V->Option Int->Option Int->Hp->VK->Prop:=λx lo hi H Q=>∃ a xs,x=.ref a/\SqT K H a xs /\
 ¬ (HT.sIx xs.length 0 lo=0/\HT.sIx xs.length xs.length hi=xs.length)/\∀ p,H p=none->Q (.ref p) (upd H p (.tup (qJ xs lo hi)))
theorem zWt:SlR X (rSlT X.K):=by
 intro pins s σ H x v vl vu lo hi sl Q I rx hs pl pu h;obtain⟨a,xs,rfl,hx,hw,q⟩:=h;cases rx;obtain⟨its,r,ht,hz⟩:=I.tuple hx;have hlen:its.toArray.size=xs.length:=by rw[List.size_toArray]; exact r.length.symm
 exists "tuple", _,PyProof.Rows.slot_tuple_getitem.lookup,ht.typeIs;refine HT.getItem_tuple_cut ht hs pl pu (by rw[hlen]; exact hw) ?_ (by rw[hlen]; exact hz);rw[hlen];refine⟨.ref s.heap.objs.size,_,I.laid (t':=s.toks) (o:=.tup (qJ xs lo hi)) (λb ob q=>Heap.get?_push_of_some _ q) (Nat.le_refl _) ?_,rfl,q _ (I.hok.fresh (Nat.le_refl _))⟩;exact⟨Nat.le_trans (zFk xs lo hi) hz,_,(r.drop (HT.sIx xs.length 0 lo)).take (HT.sIx xs.length xs.length hi-HT.sIx xs.length 0 lo),IsTup.new _ _⟩

def rCatT(K:PySem.W.Frag):R2:=λx y H Q=>∃ a b xs ys,x=.ref a/\y=.ref b/\SqT K H a xs/\SqT K H b ys/\xs≠[]/\xs.length+ys.length<=sizeLine /\
 (ys=[]->Q (.ref a) H)/\(ys≠[]->∀ p,H p=none->Q (.ref p) (upd H p (.tup (xs++ys))))
theorem yW.nil_iff{xs:List V}{us:List Value}(r:yW xs us):us=[]↔xs=[]:=by
 cases r with
 | nil=>simp
 | cons _ _=>simp
theorem zTz:OpR X (binaryOp .Add) (rCatT X.K):=by
 intro pins s σ H x y v u Q I rx ry h;obtain⟨a,b,xs,ys,rfl,rfl,ha,hb,hx,hz,q1,q2⟩:=h;cases rx;cases ry;obtain⟨its,r1,p1,_⟩:=I.tuple ha;obtain⟨its2,r2,p2,_⟩:=I.tuple hb;refine HT.cat_tup p1 p2 (λz=>hx (r1.nil_iff.mp z)) (λz=>⟨.ref a,H,I,rfl,q1 (r2.nil_iff.mp z)⟩) (λz=>?_) (by rw[<- r1.length,<- r2.length]; exact hz);refine⟨.ref s.heap.objs.size,_,I.laid (t':=s.toks) (o:=.tup (xs++ys)) (λb ob q=>Heap.get?_push_of_some _ q) (Nat.le_refl _) ?_,rfl,q2 (λw=>z (r2.nil_iff.mpr w)) _ (I.hok.fresh (Nat.le_refl _))⟩;exact⟨by rw[List.length_append]; exact hz,_,r1.append r2,IsTup.new _ _⟩
end
end L2

namespace L2
open PySem PySem.Spec PyProof.Rows

def ixN(n:Nat)(i:Int):Option Nat:=if 0<=i then(if i<n then some i.toNat else none) else if -(n:Int)<=i then some (i+n).toNat else none
def atI{α:Type}(xs:List α)(i:Int):Option α:=(ixN xs.length i).bind λj=>xs[j]?
theorem zP7{n:Nat}{i:Int}{j:Nat}(h:ixN n i=some j):seqIndex? i n=some j/\j<n/\-(n:Int)<=i/\i<n:=by
 unfold ixN at h;by_cases h0:0<=i
 ·rw[if_pos h0] at h;by_cases h1:i<n
  ·rw[if_pos h1] at h;have e:i.toNat=j:=Option.some.inj h;exact⟨by rw[seqIndex_of h0 h1,e],by lia,by lia,h1⟩
  ·rw[if_neg h1] at h; cases h
 ·rw[if_neg h0] at h;by_cases h1 : -(n:Int)<=i
  ·rw[if_pos h1] at h;have e:(i+n).toNat=j:=Option.some.inj h;exact⟨by rw[seqIndex_neg (by lia) h1,e],by lia,h1,by lia⟩
  ·rw[if_neg h1] at h; cases h
theorem zNu{α:Type}{xs:List α}{i:Int}{v:α}(h:atI xs i=some v):∃ j,seqIndex? i xs.length=some j/\xs[j]?=some v/\j<xs.length/\-(xs.length:Int)<=i/\i<xs.length:=by
 unfold atI at h;cases e:ixN xs.length i with
 | none=>rw[e] at h; cases h
 | some j =>
  rw[e] at h;obtain⟨h1,h2,h3,h4⟩:=zP7 e;exact⟨j,h1,h,h2,h3,h4⟩
theorem sW{α:Type}{xs:List α}{j:Nat}{v:α}(h:xs[j]?=some v):atI xs (j:Int)=some v:=by
 have hj:j<xs.length:=(List.getElem?_eq_some_iff.mp h).1;have e:ixN xs.length (j:Int)=some j:=by
  unfold ixN;rw[if_pos (by lia),if_pos (by lia)]; simp
 unfold atI; rw[e]; exact h
def zPc(b:Expr):Prop:=∀ o i,subscripted b false o i=operate [o,i] (getItem o i)
def IxR(X:Cx)(r:R2):Prop :=
 ∀(value slice:Expr)(pins:List (Addr×Obj))(s:Shared)(σ:St)(H:Hp)(x y:V)(v u:Value)(Q:VK),Inv X pins σ H s->uC x v->uC y u->r x y H Q ->
  subscripted slice false v u=operate [v,u] (getItem v u)->wpAny (model X.prog X.w) X.A (subscriptTail value slice v u) (EP X pins σ Q) X.xe s
def MtR(X:Cx)(id:String)(r:V->List V->Hp->VK->Prop):Prop :=
 ∀(pins:List (Addr×Obj))(s:Shared)(σ:St)(H:Hp)(x:V)(xs:List V)(v:Value)(us:List Value)(Q:VK),Inv X pins σ H s->uC x v->yW xs us->r x xs H Q ->
  wpAny (model X.prog X.w) X.A (call (.builtin id) (v::us)) (EP X pins σ Q) X.xe s
section
variable{X:Cx}{a b:Expr}{ta tb:TE}{pos:Pos}
theorem zGu{r:R2}(hr:IxR X r)(ha:PE X a ta)(hb:PE X b tb)(hs:zPc b):PE X (.Subscript a b pos) (tOp r ta tb):=by
 intro pins s σ H Q I h;exact Subscript_ (zXd ha hb I h λv u s2 x y H2 I2 rx ry q=>hr a b pins s2 σ H2 x y v u Q I2 rx ry q (hs _ _))

def rIxL(K:PySem.W.Frag):R2:=λx y H Q=>∃ p xs i v,x=.ref p/\y=.int i/\SqL K H p xs/\atI xs i=some v/\Q v H
def rIxT(K:PySem.W.Frag):R2:=λx y H Q=>∃ p xs i v,x=.ref p/\y=.int i/\SqT K H p xs/\atI xs i=some v/\Q v H
theorem zTx:IxR X (rIxL X.K):=by
 intro value slice pins s σ H x y v u Q I rx ry h hs;obtain⟨p,xs,i,z,rfl,rfl,hq,he,q⟩:=h;cases rx;obtain⟨t,rfl⟩:=ry;obtain⟨its,r,pl,hz⟩:=I.list hq;obtain⟨j,h1,h2,h3,h4,h5⟩:=zNu he;obtain⟨w,ew,rw'⟩:=r.get h2;have hl:=r.length;have hn:=zH5;have fin:EP X pins σ Q w s:=⟨z,H,I,rw',q⟩;by_cases h0:0<=i
 ·have hj:i.toNat=j:=by
   rw[seqIndex_of h0 h5] at h1;exact Option.some.inj h1
  exact item_listR pl.isList h0 (by lia) (by rw[hj]; simpa using ew) fin hs
 ·have hj:(i+(its.toArray.size:Int)).toNat=j:=by
   rw[seqIndex_neg (by lia) h4] at h1;rw[List.size_toArray,<- hl];exact Option.some.inj h1
  exact subscriptTail_builtinR (x:=w) pl.isList.typeIs slot_list_getitem.lookup
   (wpAny_getItem_list_neg (Q:=λr s'=>r=w/\EP X pins σ Q r s') pl.isList (by lia) (by rw[List.size_toArray] <;> lia) (by lia) (by rw[hj]; simpa using ew) ⟨rfl,fin⟩) hs
theorem zWc:IxR X (rIxT X.K):=by
 intro value slice pins s σ H x y v u Q I rx ry h hs;obtain⟨p,xs,i,z,rfl,rfl,hq,he,q⟩:=h;cases rx;obtain⟨t,rfl⟩:=ry;obtain⟨its,r,pl,hz⟩:=I.tuple hq;obtain⟨j,h1,h2,h3,h4,h5⟩:=zNu he;obtain⟨w,ew,rw'⟩:=r.get h2;have hl:=r.length;have hn:=zH5;have fin:EP X pins σ Q w s:=⟨z,H,I,rw',q⟩;exact subscriptTail_builtinR (x:=w) pl.typeIs slot_tuple_getitem.lookup
  (getItem_tuple (j:=j) (Q:=λr s'=>r=w/\EP X pins σ Q r s') pl (by lia) (by lia) (by rw[List.size_toArray,<- hl]; exact h1) (by simpa using ew) ⟨rfl,fin⟩) hs
theorem zL1(its:List Value)(n j:Nat)(u:Value):Obj.mapSeq (·.setIfInBounds j u) { cls:=.type "list", data:=.seq its.toArray n }={ cls:=.type "list", data:=.seq (its.set j u).toArray n }:=by
 simp[Obj.mapSeq]
theorem Inv.lst{pins:List (Addr×Obj)}{σ:St}{H:Hp}{s:Shared}{p:Addr}{xs:List V}(I:Inv X pins σ H s)(h:H p=some (.lst xs)) :
  ∃(its:List Value)(n:Nat),yW xs its/\s.heap.get? p=some { cls:=.type "list", data:=.seq its.toArray n }/\xs.length<=sizeLine:=by
 obtain⟨z,its,n,r,e⟩:=I.hok p _ h;exact⟨its,n,r,e,z⟩
theorem Inv.lstUpd{pins:List (Addr×Obj)}{σ:St}{H:Hp}{s:Shared}{p:Addr}{xs ys:List V}{its its':List Value}{n n':Nat}{f:Obj->Obj}(I:Inv X pins σ H s)(h:H p=some (.lst xs))
  (ho:s.heap.get? p=some { cls:=.type "list", data:=.seq its.toArray n }) (hf:f { cls:=.type "list", data:=.seq its.toArray n }={ cls:=.type "list", data:=.seq its'.toArray n' }) (r:yW ys its') (hz:ys.length<=sizeLine) (t:Nat) :
  Inv X pins σ (upd H p (.lst ys)) { s with heap:=s.heap.update p f,toks:=t }:=by
 have e:(s.heap.update p f).get? p=some { cls:=.type "list", data:=.seq its'.toArray n' }:=by
  rw[Heap.get?_update_self f ho (by rw[hf] <;> rfl),hf]
 refine I.write (x:=p) (e:=p) (by rw[h]; trivial) (.inl rfl) (λb u hb q=>(Heap.get?_update_other _ _ (Ne.symm hb)).trans q) ⟨_,e⟩ ?_;exact⟨hz,its',n',r,e⟩
def rSetL:V->V->V->Hp->(Hp->Prop)->Prop:=λo i v H Q=>∃ p xs k j,o=.ref p/\i=.int k/\H p=some (.lst xs)/\ixN xs.length k=some j/\Q (upd H p (.lst (xs.set j v)))
theorem rX:PSet X rSetL:=by
 intro pins s σ H o i v ov iv u Q I ro ri rv h;obtain⟨p,xs,k,j,rfl,rfl,hp,hj,q⟩:=h;cases ro;obtain⟨t,rfl⟩:=ri;obtain⟨its,n,r,ho,hz⟩:=I.lst hp;obtain⟨h1,h2,h3,h4⟩:=zP7 hj;have hl:=r.length;have hn:=zH5;have I':Inv X pins σ (upd H p (.lst (xs.set j v))) { s with heap:=s.heap.update p (Obj.mapSeq (·.setIfInBounds j u)) } :=
  I.lstUpd hp ho (zL1 its n j u) (r.set rv j) (by rw[List.length_set]; exact hz) s.toks
 by_cases h0:0<=k
 ·have hk:k.toNat=j:=by
   rw[seqIndex_of h0 h4] at h1;exact Option.some.inj h1
  exact PySem.W.ki_setAt ho h0 (by lia) (by rw[List.size_toArray,<- hl]; exact h4) (by rw[hk]; exact⟨_,I',q⟩)
 ·have hk:(k+(its.toArray.size:Int)).toNat=j:=by
   rw[seqIndex_neg (by lia) h3] at h1;rw[List.size_toArray,<- hl];exact Option.some.inj h1
  exact PySem.W.ki_setBack ho (by lia) (by rw[List.size_toArray,<- hl]; exact h3) (by lia) (by rw[hk]; exact⟨_,I',q⟩)

theorem zIk(lo hi:Option Int)(n:Nat):(sliceBounds lo hi none n).1=((HT.sIx n 0 lo:Nat):Int)/\(sliceBounds lo hi none n).2.1=((HT.sIx n n hi:Nat):Int)/\(sliceBounds lo hi none n).2.2=1:=by
 refine⟨?_,?_,rfl⟩
 ·cases lo with
  | none=>simp[sliceBounds,HT.sIx]
  | some i =>
   simp only[sliceBounds,HT.sIx,Option.getD_none,show(1:Int)>0 by decide,if_true];by_cases h:i<0
   ·simp only[h,if_true] <;> lia
   ·simp only[h,if_false] <;> lia
 ·cases hi with
  | none=>simp[sliceBounds,HT.sIx]
  | some i =>
   simp only[sliceBounds,HT.sIx,Option.getD_none,show(1:Int)>0 by decide,if_true];by_cases h:i<0
   ·simp only[h,if_true] <;> lia
   ·simp only[h,if_false] <;> lia
theorem zGx(its:List Value)(lo hi:Option Int):slicePick its.toArray lo hi none=((its.drop (HT.sIx its.length 0 lo)).take (HT.sIx its.length its.length hi-HT.sIx its.length 0 lo)).toArray:=by
 obtain⟨h1,h2,h3⟩:=zIk lo hi its.toArray.size;unfold slicePick;rw[h1,h2,h3];simp only[sliceRange_one,pick_run,List.size_toArray] <;> rfl
def rSlL(K:PySem.W.Frag):V->Option Int->Option Int->Hp->VK->Prop:=λx lo hi H Q=>∃ a xs,x=.ref a/\SqL K H a xs/\∀ p,H p=none->Q (.ref p) (upd H p (.lst (qJ xs lo hi)))
theorem zOr:SlR X (rSlL X.K):=by
 intro pins s σ H x v vl vu lo hi sl Q I rx hs pl pu h;obtain⟨a,xs,rfl,hx,q⟩:=h;cases rx;obtain⟨its,r,ht,hz⟩:=I.list hx;have hlen:=r.length;exists "list", _,slot_list_getitem.lookup,ht.isList.typeIs;refine wpAny_getItem_list_slice ht.isList hs pl pu .none (by simp) ?_ (by rw[List.size_toArray] <;> lia);rw[zGx,<- hlen];refine⟨.ref s.heap.objs.size,_,I.laid (t':=s.toks) (o:=.lst (qJ xs lo hi)) (λb ob q=>Heap.get?_push_of_some _ q) (Nat.le_refl _) ?_,rfl,q _ (I.hok.fresh (Nat.le_refl _))⟩;exact⟨Nat.le_trans (zFk xs lo hi) hz,_,0,(r.drop (HT.sIx xs.length 0 lo)).take (HT.sIx xs.length xs.length hi-HT.sIx xs.length 0 lo),Heap.get?_push_size _ rfl⟩

def zI6:V->Bool
 | .non=>true
 | .bl _=>true
 | .int _=>true
 | .str _=>true
 | _=>false
def eqV:V->V->Bool
 | .non,.non=>true
 | .bl a,.bl b=>a == b
 | .bl a,.int b=>(if a then 1 else 0) == b
 | .int a,.bl b=>a ==(if b then 1 else 0)
 | .int a,.int b=>a == b
 | .str a,.str b=>a == b
 | _,_=>false
theorem zVb{A:Around}{s:Shared}{y x:V}{u v:Value}(ry:uC y u)(rx:uC x v)(fy:zI6 y=true)(fx:zI6 x=true):SeqAt.EqAt A s u v (eqV y x):=by
 cases y with
 | non =>
  cases ry;cases x with
  | non=>cases rx; exact SeqAt.EqAt.same _
  | bl b=>cases rx; exact SeqAt.EqAt.none_bool b
  | int b=>obtain⟨t,rfl⟩:=rx; exact SeqAt.EqAt.none_int b t
  | str b=>obtain⟨t,rfl⟩:=rx; exact SeqAt.EqAt.none_str b t
  | _=>exact absurd (show false=true from fx) Bool.false_ne_true
 | bl a =>
  cases ry;cases x with
  | non=>cases rx; exact SeqAt.EqAt.bool_none a
  | bl b=>cases rx; exact SeqAt.EqAt.bool_bool a b
  | int b=>obtain⟨t,rfl⟩:=rx; exact SeqAt.EqAt.bool_int a b t
  | str b=>obtain⟨t,rfl⟩:=rx; exact SeqAt.EqAt.bool_str a b t
  | _=>exact absurd (show false=true from fx) Bool.false_ne_true
 | int a =>
  obtain⟨t',rfl⟩:=ry;cases x with
  | non=>cases rx; exact SeqAt.EqAt.int_none a t'
  | bl b=>cases rx; exact SeqAt.EqAt.int_bool a t' b
  | int b=>obtain⟨t,rfl⟩:=rx; exact SeqAt.EqAt.int_int a t' b t
  | str b=>obtain⟨t,rfl⟩:=rx; exact SeqAt.EqAt.int_str a t' b t
  | _=>exact absurd (show false=true from fx) Bool.false_ne_true
 | str a =>
  obtain⟨t',rfl⟩:=ry;cases x with
  | non=>cases rx; exact SeqAt.EqAt.str_none a t'
  | bl b=>cases rx; exact SeqAt.EqAt.str_bool a t' b
  | int b=>obtain⟨t,rfl⟩:=rx; exact SeqAt.EqAt.str_int a t' b t
  | str b=>obtain⟨t,rfl⟩:=rx; exact SeqAt.EqAt.str_str a t' b t
  | _=>exact absurd (show false=true from fx) Bool.false_ne_true
 | _=>exact absurd (show false=true from fy) Bool.false_ne_true
def eqU(x:V)(u:Value):Bool:=match u with
 | .none=>eqV .non x
 | .bool b=>eqV (.bl b) x
 | .int i _=>eqV (.int i) x
 | .str z _=>eqV (.str z) x
 | _=>false
theorem zSa{x y:V}{u:Value}(r:uC y u)(f:zI6 y=true):eqU x u=eqV y x:=by
 cases y with
 | non=>cases r; rfl
 | bl b=>cases r; rfl
 | int i=>obtain⟨t,rfl⟩:=r; rfl
 | str z=>obtain⟨t,rfl⟩:=r; rfl
 | _=>exact absurd (show false=true from f) Bool.false_ne_true
theorem zJu{x:V} : ∀{xs:List V}{us:List Value},yW xs us->xs.all zI6=true->us.any (eqU x)=xs.any λy=>eqV y x
 | _,_,.nil,_=>rfl
 | y::xs,u::us,.cons r t,f=>by
  rw[List.all_cons,Bool.and_eq_true] at f;rw[List.any_cons,List.any_cons,zSa r f.1,zJu t f.2]
theorem zHf{A:Around}{s:Shared}{x:V}{v:Value}(rx:uC x v)(fx:zI6 x=true):∀{xs:List V}{us:List Value},yW xs us->xs.all zI6=true->∀ u∈us,SeqAt.EqAt A s u v (eqU x u)
 | _,_,.nil,_=>λu hu=>by cases hu
 | y::xs,u::us,.cons r t,f=>λu' hu=>by
  rw[List.all_cons,Bool.and_eq_true] at f;rcases List.mem_cons.mp hu with rfl | hu
  ·rw[zSa r f.1]; exact zVb r rx f.1 fx
  ·exact zHf rx fx t f.2 u' hu
def inV(x:V)(xs:List V):Bool:=xs.any λy=>eqV y x
def rIn(K:PySem.W.Frag)(neg:Bool):R2:=λx y H Q=>∃ p xs,y=.ref p/\(SqL K H p xs\/SqT K H p xs)/\zI6 x=true/\xs.all zI6=true/\Q (.bl (if neg then !inV x xs else inV x xs)) H
theorem zNq:OpR X (compareOp .In) (rIn X.K false):=by
 intro pins s σ H x y v u Q I rx ry h;obtain⟨p,xs,rfl,hq,fx,fs,q⟩:=h;cases ry;rcases hq with hq | hq
 ·obtain⟨its,r,pl,hz⟩:=I.list hq;refine SeqAt.in_listAt (eqU x) pl.isList (λw hw=>zHf rx fx r fs w (by simpa using hw)) ⟨.bl _,H,I,rfl,?_⟩;rw[show its.toArray.any (eqU x)=its.any (eqU x) by simp,zJu r fs];exact q
 ·obtain⟨its,r,pl,hz⟩:=I.tuple hq;refine SeqAt.in_tupleAt (eqU x) pl (λw hw=>zHf rx fx r fs w (by simpa using hw)) ⟨.bl _,H,I,rfl,?_⟩;rw[show its.toArray.any (eqU x)=its.any (eqU x) by simp,zJu r fs];exact q
theorem zIw:qK X (.builtin "len") (λxs H Q=>∃ p ys,xs=[.ref p]/\(SqL X.K H p ys\/SqT X.K H p ys)/\Q (.int ys.length) H):=by
 intro pins s σ H xs us Q I r h;obtain⟨p,ys,rfl,hq,q⟩:=h;obtain⟨u,rfl,rx⟩:=zL5 r;cases rx;have hn:=zH5;rcases hq with hq | hq
 ·obtain⟨its,r',pl,hz⟩:=I.list hq;have hlen:=r'.length;exact Calls.call_len_list pl.isList (by simp only[List.size_toArray] <;> lia) ⟨.int ys.length,H,I.tok _,⟨s.toks+1,by rw[List.size_toArray,hlen]⟩,q⟩
 ·obtain⟨its,r',pl,hz⟩:=I.tuple hq;have hlen:=r'.length;exact len_tuple pl (by simp only[List.size_toArray] <;> lia) ⟨.int ys.length,H,I.tok _,⟨s.toks+1,by rw[List.size_toArray,hlen]⟩,q⟩
theorem zI3:qK X (.type "list") (λxs H Q=>∃ p ys,xs=[.ref p]/\(SqL X.K H p ys\/SqT X.K H p ys)/\∀ l,H l=none->Q (.ref l) (upd H l (.lst ys))):=by
 intro pins s σ H xs us Q I r h;obtain⟨p,ys,rfl,hq,q⟩:=h;obtain⟨u,rfl,rx⟩:=zL5 r;cases rx;have fin:∀(its:List Value),yW ys its->ys.length<=sizeLine->∀(h':Heap)(c':Nat),(∀ b o',s.heap.get? b=some o'->h'.get? b=some o') ->
   h'.get? s.heap.objs.size=some { cls:=.type "list", dict:=none,data:=.seq its.toArray c',slots:=#[] }->EP X pins σ Q (.ref s.heap.objs.size) { s with heap:=h' }:=λits r' hz h' c' kp e =>
  ⟨.ref s.heap.objs.size,_,I.laid (t':=s.toks) kp (Nat.le_refl _) (show vF X.prog X.w _ h' _ (.lst ys) from⟨hz,its,c',r',e⟩),rfl,q _ (I.hok.fresh (Nat.le_refl _))⟩
 rcases hq with hq | hq
 ·obtain⟨its,r',pl,hz⟩:=I.list hq;have hlen:=r'.length;obtain⟨o,ho,hc,n,hd⟩:=pl.isList;exact call_list_seq p (.inl rfl) ho hc hd (λh' c' kp e=>fin its r' hz h' c' kp e) (by simp only[List.size_toArray] <;> lia)
 ·obtain⟨its,r',pl,hz⟩:=I.tuple hq;have hlen:=r'.length;obtain⟨o,ho,hc,n,hd⟩:=pl;exact call_list_seq p (.inr rfl) ho hc hd (λh' c' kp e=>fin its r' hz h' c' kp e) (by simp only[List.size_toArray] <;> lia)
theorem zB4:qK X (.type "tuple") (λxs H Q=>∃ p ys,xs=[.ref p]/\((SqL X.K H p ys/\∀ l,H l=none->Q (.ref l) (upd H l (.tup ys)))\/(SqT X.K H p ys/\Q (.ref p) H))):=by
 intro pins s σ H xs us Q I r h;obtain⟨p,ys,rfl,h⟩:=h;obtain⟨u,rfl,rx⟩:=zL5 r;cases rx;rcases h with ⟨hq,q⟩ | ⟨hq,q⟩
 ·obtain⟨its,r',pl,hz⟩:=I.list hq;have hlen:=r'.length;refine call_tuple_list pl.isList (λh' kp=>?_) (by simp only[List.size_toArray] <;> lia);have I1:Inv X pins σ H { s with heap:=h' }:=I.kept (t':=s.toks) kp;have I2:Inv X pins σ (upd H h'.objs.size (.tup ys)) { s with heap:=h'.push { cls:=.type "tuple", data:=.seq its.toArray } } :=
   I1.laid (t':=s.toks) (λb o e=>Heap.get?_push_of_some _ e) (Nat.le_refl _) (show vF X.prog X.w _ _ _ (.tup ys) from⟨hz,its,r',IsTup.new _ _⟩)
  exact⟨.ref h'.objs.size,_,I2,rfl,q _ (I1.hok.fresh (Nat.le_refl _))⟩
 ·obtain⟨its,r',pl,hz⟩:=I.tuple hq;exact call_tuple_same pl ⟨.ref p,H,I,rfl,q⟩

def tyV(K:PySem.W.Frag)(T:String)(x:V)(H:Hp):Prop:=match x with
 | .str _=>T = "str"
 | .int _=>T = "int"
 | .ref p=>(T = "list" /\ ∃ xs,SqL K H p xs)\/(T = "tuple" /\ ∃ o,K.lookup p=some o/\o.cls=.type "tuple" /\ o.dict=none) \/
   (T = "dict" /\ ((∃ kvs,H p=some (.dK kvs))\/∃ kvs,H p=some (.dT kvs)))\/(T = "set" /\ ∃ S n,H p=some (.set S n))
 | _=>False
theorem zU7{pins:List (Addr×Obj)}{σ:St}{H:Hp}{s:Shared}{T:String}{x:V}{v:Value}(I:Inv X pins σ H s)(r:uC x v)(ty:tyV X.K T x H) :
  s.TypeIs v T/\∀ a,v=.ref a->∃ ob,s.heap.get? a=some ob/\ob.dict=none:=by
 cases x with
 | str z =>
  obtain⟨t,rfl⟩:=r;cases (show T = "str" from ty);exact⟨typeIs_str s z t,λ_ e=>nomatch e⟩
 | int i =>
  obtain⟨t,rfl⟩:=r;cases (show T = "int" from ty);exact⟨typeIs_int s i t,λ_ e=>nomatch e⟩
 | ref p =>
  cases r;rcases ty with ⟨rfl,xs,hq⟩ | ⟨rfl,o,hk,hc,hd⟩ | ⟨rfl,hk⟩ | ⟨rfl,S,n,hk⟩
  ·obtain⟨its,_,pl,_⟩:=I.list hq;refine⟨pl.isList.typeIs,λa e=>?_⟩;cases e;obtain⟨o,n,e,c,hd,_⟩:=pl;exact⟨o,e,hd⟩
  ·refine⟨⟨o,I.kIn p o hk,hc⟩,λa e=>?_⟩;cases e;exact⟨o,I.kIn _ o hk,hd⟩
  ·have z:∃ o,s.heap.get? p=some o/\o.ExactDict:=by
    rcases hk with ⟨kvs,hk⟩ | ⟨kvs,hk⟩
    ·obtain⟨_,_,_,_,o,_,_,e,ex,_⟩:=I.hok p _ hk;exact⟨o,e,ex⟩
    ·obtain⟨_,_,_,_,o,_,_,e,ex,_⟩:=I.hok p _ hk;exact⟨o,e,ex⟩
   obtain⟨o,e,ex⟩:=z;refine⟨⟨o,e,ex.1⟩,λa e2=>?_⟩;cases e2;exact⟨o,e,ex.2.1⟩
  ·obtain⟨o,_,_,_,e,ex,_⟩:=I.hok p _ hk;refine⟨⟨o,e,ex.1⟩,λa e2=>?_⟩;cases e2;exact⟨o,e,ex.2.1⟩
 | _=>exact False.elim ty
def tBM(K:PySem.W.Frag)(T:String)(r:V->List V->Hp->VK->Prop)(to:TE)(t:TA):TE:=λσ H Q=>to σ H λx H1=>tyV K T x H1/\t σ H1 λxs H2=>r x xs H2 Q
variable{o e:Expr}{es:List Expr}{to:TE}{t:TA}{name:Str}{apos cpos:Pos}{T id:String}{r:V->List V->Hp->VK->Prop}
theorem pe_bm(pa:PlainAttrs T)(slot:Slot T name id)(hty:typeOf (.builtin id)=pure (.type "method_descriptor"))(hm:MtR X id r)(ho:PE X o to)(ha:PA X (e::es) t)
  (hbase:attributeBase o name X.env (eval o X.env)=eval o X.env:=by rfl)
  (hfew:((backTo cpos (starEach (e::es) X.env)).all (λx=>!x.1)&&(backToKw cpos (keywordEach [] X.env)).all (λx=>x.1.isSome)
   && decide ((e::es).length+([]:List Keyword).length+(if ([]:List Keyword).isEmpty then 0 else 1)<30))=true:=by rfl)
  (hline:(apos.endLine == cpos.line)=true:=by rfl) (hs:starEach (e::es) X.env=(false,eval e X.env)::starEach es X.env:=by rfl) (hplain:(backTo cpos (starEach es X.env)).any (·.1)=false:=by rfl) :
  PE X (.Call (.Attribute o name apos) (e::es) [] cpos) (tBM X.K T r to t):=by
 intro pins s σ H Q I h;refine wpAny_Call_method_late hbase hfew hline rfl (thn (ho pins s σ H _ I h) λv s1 ⟨x,H1,I1,r1,ty,q1⟩=>?_);obtain⟨h1,h2⟩:=zU7 I1 r1 ty;exists T,id,pa,slot,hty,h1,h2;have hA:=ha cpos pins s1 σ H1 _ I1 q1;rw[hs] at hA ⊢;refine Calls.callWith_builtin (by show(false||(backTo cpos (starEach es X.env)).any (·.1))=false; rw[hplain] <;> rfl) (Calls.evalArgs_plain ?_);exact thn hA λus s2 ⟨vs,H2,I2,r2,q2⟩=>hm pins s2 σ H2 x vs v us Q I2 r1 r2 q2
end
end L2

namespace L2
open PySem PySem.Spec PyProof.Rows

def MtM(X:Cx)(id:String)(r:V->List V->Hp->VK->Prop):Prop :=
 ∀(pins:List (Addr×Obj))(s:Shared)(σ:St)(H:Hp)(x:V)(xs:List V)(v:Value)(us:List Value)(Q:VK),Inv X pins σ H s->uC x v->yW xs us->r x xs H Q ->
  wpAny (model X.prog X.w) X.A (call (.builtin id) (v::us)) (EP X pins σ Q) X.xe s

theorem yW.one:∀{x:V}{us:List Value},yW [x] us->∃ u,us=[u]/\uC x u
 | _,_,.cons r .nil=>⟨_,rfl,r⟩
theorem yW.two:∀{x y:V}{us:List Value},yW [x,y] us->∃ u v,us=[u,v]/\uC x u/\uC y v
 | _,_,_,.cons r (.cons q .nil)=>⟨_,_,rfl,r,q⟩
theorem yW.zero:∀{us:List Value},yW [] us->us=[]
 | _,.nil=>rfl
theorem yW.rep{xs:List V}{us:List Value}(h:yW xs us):∀ k:Nat,yW (List.replicate k xs).flatten (List.replicate k us).flatten
 | 0=>.nil
 | k+1=>by
  rw[List.replicate_succ,List.replicate_succ,List.flatten_cons,List.flatten_cons];exact yW.append h (yW.rep h k)
theorem zH9(its:List Value):∀(k:Nat)(acc:List Value),
  List.foldl (λx1 x2=>x1++x2) acc.toArray (List.replicate k its.toArray)=(acc++(List.replicate k its).flatten).toArray
 | 0,acc=>by simp
 | k+1,acc=>by
  have e:acc.toArray++its.toArray=(acc++its).toArray:=by simp
  have e2:(acc++its)++(List.replicate k its).flatten=acc++(List.replicate (k+1) its).flatten:=by
   rw[List.replicate_succ,List.flatten_cons,List.append_assoc]
  rw[<- e2,<- zH9 its k (acc++its),<- e,List.replicate_succ,List.foldl_cons]

section
variable{X:Cx}{pins:List (Addr×Obj)}{σ:St}{H:Hp}{s:Shared}{l b:Addr}{xs ys zs:List V}

theorem Inv.lset{its its':List Value}{n:Nat}{f:Array Value->Array Value}{t':Nat}(I:Inv X pins σ H s)(hH:H l=some (.lst xs))
  (e:s.heap.get? l=some { cls:=.type "list", data:=.seq its.toArray n }) (hf:f its.toArray=its'.toArray) (hv:yW ys its') (hz:ys.length<=sizeLine) :
  Inv X pins σ (upd H l (.lst ys)) { s with heap:=s.heap.update l (Obj.mapSeq f),toks:=t' }:=by
 have q:=PySem.IsL.update e f;rw[hf] at q;refine I.write (x:=l) (e:=l) (by rw[hH]; exact trivial) (.inl rfl) (λb' u hb hu=>(Heap.get?_update_other s.heap (Obj.mapSeq f) (Ne.symm hb)).trans hu) ⟨_,q⟩ ?_;exact⟨hz,its',_,hv,q⟩
theorem Inv.lnew{its:List Value}{t':Nat}(I:Inv X pins σ H s)(hv:yW ys its)(hz:ys.length<=sizeLine) :
  Inv X pins σ (upd H s.heap.objs.size (.lst ys)) { s with heap:=s.heap.push { cls:=.type "list", data:=.seq its.toArray },toks:=t' } :=
 I.laid (λ_ _ q=>Heap.get?_push_of_some _ q) (Nat.le_refl _) ⟨hz,its,0,hv,Heap.get?_push_size _ rfl⟩
theorem Inv.fresh(I:Inv X pins σ H s):H s.heap.objs.size=none:=I.hok.fresh (Nat.le_refl _)
theorem Inv.lstM(I:Inv X pins σ H s)(hH:H l=some (.lst xs)):xs.length<=sizeLine/\∃(its:List Value)(n:Nat),yW xs its/\xs.length=its.length/\s.heap.get? l=some { cls:=.type "list", data:=.seq its.toArray n }:=by
 obtain⟨z,its,n,r,e⟩:=I.hok l _ hH;exact⟨z,its,n,r,r.length,e⟩

theorem zK2{n:Nat}(h:n<=sizeLine):Builtin.List.listTooLong n=false:=by
 unfold Builtin.List.listTooLong;exact decide_eq_false (by lia)
end

section
variable{X:Cx}

def zNc:V->List V->Hp->VK->Prop:=λx vs H Q=>∃ l xs y,x=.ref l/\vs=[y]/\H l=some (.lst xs)/\xs.length<sizeLine/\Q .non (upd H l (.lst (xs++[y])))
theorem zEr:MtM X "list.append" zNc:=by
 intro pins s σ H x vs v us Q I rx rv h;obtain⟨l,xs,y,rfl,rfl,hH,hz,q⟩:=h;cases rx;obtain⟨u,rfl,ru⟩:=rv.one;obtain⟨z,its,n,r,hl,e⟩:=I.lstM hH;refine call_meets F.slot_list_append ⟨_,e,rfl⟩ F.entry_list_append (F.args_list_append_2 _ _) (PySem.list_append l its.toArray n u (by rw[List.size_toArray]; lia)) ⟨e,?_⟩;refine⟨.non,_,I.lset (its':=its++[u]) hH e (by simp) (r.append (.cons ru .nil)) ?_,rfl,q⟩;rw[List.length_append,List.length_singleton];lia

def zS8:V->List V->Hp->VK->Prop:=λx vs H Q=>∃ l b xs zs,x=.ref l/\vs=[.ref b]/\H l=some (.lst xs)/\H b=some (.lst zs)/\xs.length+zs.length<=sizeLine/\Q .non (upd H l (.lst (xs++zs)))
theorem zU6:MtM X "list.extend" zS8:=by
 intro pins s σ H x vs v us Q I rx rv h;obtain⟨l,b,xs,zs,rfl,rfl,hH,hB,hz,q⟩:=h;cases rx;obtain⟨u,rfl,ru⟩:=rv.one;cases ru;obtain⟨z,its,n,r,hl,e⟩:=I.lstM hH;obtain⟨z2,its2,n2,r2,hl2,e2⟩:=I.lstM hB;have hsz:its.toArray.size+its2.toArray.size<=sizeLine:=by rw[List.size_toArray,List.size_toArray]; lia
 have hlong:¬ (!its.toArray.isEmpty&&Builtin.List.listTooLong (its.toArray.size+its2.toArray.size))=true:=by
  rw[zK2 hsz,Bool.and_false];exact Bool.false_ne_true
 refine call_meets F.slot_list_extend ⟨_,e,rfl⟩ F.entry_list_extend (F.args_list_extend_2 _ _)
  (AutoSeq1.list_extend_list_list_0 l its.toArray n b its2.toArray n2 hlong (by rw[List.size_toArray]; lia) (by lia)) ⟨e,e2,?_⟩
 refine⟨.non,_,I.lset (its':=its++its2) hH e (by simp) (r.append r2) ?_,rfl,q⟩;rw[List.length_append];lia

def rCat:R2:=λx y H Q=>∃ l b xs zs,x=.ref l/\y=.ref b/\H l=some (.lst xs)/\H b=some (.lst zs)/\xs.length+zs.length<=sizeLine/\∀ p,H p=none->Q (.ref p) (upd H p (.lst (xs++zs)))
theorem uH:OpR X (binaryOp .Add) rCat:=by
 intro pins s σ H x y v u Q I rx ry h;obtain⟨l,b,xs,zs,rfl,rfl,hH,hB,hz,q⟩:=h;cases rx;cases ry;obtain⟨z,its,n,r,hl,e⟩:=I.lstM hH;obtain⟨z2,its2,n2,r2,hl2,e2⟩:=I.lstM hB;refine PySem.P.add_list e e2 ?_ (by rw[List.size_toArray,List.size_toArray]; lia);have ea:its.toArray++its2.toArray=(its++its2).toArray:=by simp
 rw[ea];exact⟨.ref _,_,I.lnew (t':=s.toks) (r.append r2) (by rw[List.length_append]; lia),rfl,q _ I.fresh⟩
def rRep:R2:=λx y H Q=>∃ l k xs,x=.ref l/\y=.int k/\H l=some (.lst xs)/\-(2^63)<=k/\k<2^63/\xs.length*k.toNat<=sizeLine /\
 ∀ p,H p=none->Q (.ref p) (upd H p (.lst (List.replicate k.toNat xs).flatten))
theorem zS9{α:Type}(xs:List α)(k:Nat):(List.replicate k xs).flatten.length=k*xs.length:=by
 induction k with
 | zero=>simp
 | succ k ih=>rw[List.replicate_succ,List.flatten_cons,List.length_append,ih,Nat.succ_mul,Nat.add_comm]
theorem zU8:OpR X (binaryOp .Mult) rRep:=by
 intro pins s σ H x y v u Q I rx ry h;obtain⟨l,k,xs,rfl,rfl,hH,h1,h2,hz,q⟩:=h;cases rx;obtain⟨t,rfl⟩:=ry;obtain⟨z,its,n,r,hl,e⟩:=I.lstM hH;have hlen:its.toArray.size*k.toNat<=sizeLine:=by rw[List.size_toArray,<- hl]; exact hz
 have hcap:¬ its.toArray.size*k.toNat>(2^63-1)/8:=by
  have:(sizeLine:Nat)<=(2^63-1)/8:=by decide
  lia
 have hfit:¬ (!Builtin.List.listFitsIndex k)=true:=by
  rw[fitsIndex_both h1 h2];exact Bool.false_ne_true
 have hlong:¬ Builtin.List.listTooLong (its.toArray.size*k.toNat)=true:=by
  rw[zK2 hlen];exact Bool.false_ne_true
 have hnew:List.foldl (λx1 x2=>x1++x2) #[] (List.replicate (if its.toArray.isEmpty=true then 0 else k.toNat) its.toArray)=(List.replicate k.toNat its).flatten.toArray:=by
  have f0:∀ m:Nat,List.foldl (λx1 x2=>x1++x2) #[] (List.replicate m its.toArray)=(List.replicate m its).flatten.toArray:=λm=>by
   have:=zH9 its m [];rw[List.nil_append] at this;exact this
  rw[f0];cases its with
  | nil=>simp
  | cons a r'=>rw[if_neg (by simp)]
 refine wpAny_binaryOp_repeat_ref (T := "list") (U := "int") (by decide) ⟨_,e,rfl⟩ (λs'=>typeIs_int s' k t) noFill_list_mul F.fills_int_mul F.slot_int_rmul repeat_list F.slot_int_index.lookup
  (call_meets F.slot_int_rmul (typeIs_int s k t) F.entry_int_rmul (F.args_int_rmul_2 _ _) (int___rmul___int_list k t l its.toArray n)
   ⟨e,rfl,⟨_,e,rfl⟩,call_meets F.slot_list_mul ⟨_,e,rfl⟩ F.entry_list_mul (F.args_list_mul_2 _ _) (AutoListH.list___mul___list_int_3 l its.toArray n k t hfit hcap hlong) ⟨e,?_⟩⟩)
 rw[hnew];exact⟨.ref _,_,I.lnew (t':=s.toks) (r.rep k.toNat) (by rw[zS9,Nat.mul_comm]; exact hz),rfl,q _ I.fresh⟩

end


end L2

namespace Att
open PySem PySem.W PySem.Calls PyProof.Rows

theorem zEp{P:Params}{h:Heap} : ∀(ns:List Int)(vs:List Value),WellAll P h vs (ns.map WData.int)->IntsAre vs ns:=by
 intro ns
 induction ns with
 | nil =>
  intro vs w;rw[List.map_nil] at w;cases w;exact .nil
 | cons n ns ih =>
  intro vs w;rw[List.map_cons] at w;cases w with
  | cons a b =>
   cases a;exact .cons _ _ (ih _ b)

theorem zNn{l:OpenLaw}{n:Nat}(hn:l.most=some n){P:Params}{h:Heap}{args:List WData}{vals:List Value}
  (hpre:l.row.toRowW.claim.pre args=true) (hwl:WellAll P h vals args) :
  ∃ a vs ns,vals=[Value.ref a]/\args=[WData.list (ns.map WData.int)]/\h.get? a=some { cls:=.type "list", data:=.seq vs.toArray }/\IntsAre vs ns/\ns.length<=n:=by
 have hsh:WShape.hasAll [] args [.list .int]=true:=(pre_splitW hpre).1;have hc:l.pre.holds [] { args:=args }=true:=(pre_splitW hpre).2;obtain⟨d,r,rfl,h1,h2⟩:=hasAllW_cons hsh;obtain rfl:=hasAllW_nil h2;obtain⟨xs,rfl,h3⟩:=hasW_list h1;obtain⟨ns,rfl⟩:=items_int h3;have hlen:ns.length<=n:=by
  unfold OpenLaw.pre at hc;have h4:(WTm.not (.lt (.lit (.int (n:Int))) (.len (.arg 0)))).holds [] { args:=[.list (ns.map .int)] }=true:=by
   have h4:=(holds_andW hc).1;rw[hn] at h4;exact h4
  have h5:=condW_of h4 (w_not (w_lt w_lit (w_len_list (w_arg rfl))));rw[List.length_map] at h5;refine Nat.le_of_not_lt λq=>?_;have q':(n:Int)<((ns.length:Nat):Int):=by lia
  first
   | (rw[decide_eq_true q'] at h5; exact absurd h5 (by decide))
   | (simp at h5; lia)
 cases hwl with
 | cons w1 w2 =>
  cases w2;cases w1 with
  | list ho hall=>exact⟨_,_,ns,rfl,rfl,ho,zEp ns _ hall,hlen⟩

theorem zPu(l:OpenLaw)(args:List WData):l.row.toRowW.claim.post args (.bool true) args=true :=
 postW_of (r:=l.row.toRowW) (X:=(true == true))
  (show WShape.has [] (.bool true) .bool=true by first | rfl | decide | simp[WShape.has,WShape.arms,WShape.armsAll])
  (show(WTm.eq .res (.lit (.bool true))).value [] { args:=args,res:=some (.bool true),after:=args }=some (.bool (true == true)) from w_eq_bool (w_res rfl) w_lit) rfl

theorem attach_call{l:OpenLaw}{n:Nat}{q:Program}{loose:List Str}{XP:(Str->Option Value)->Heap->Prop}{YP:World->Heap->Prop}{d:DefRec}
  (hn:l.most=some n) (hdf:d.params.defaults=[])
  (call:∀(w:World)(s₀ s₁:Shared)(mg mb:Str->Option Value)(fa:Addr)(o:Obj)(pm cd doc:Value)(a:Addr)(vs:List Value)(ns:List Int),
   Ground q loose [] XP w s₀ mg mb s₁.heap->YP w s₁.heap ->
   s₁.heap.get? fa=some o->o.data=.func (docDef d.name d.params d.body d.scope pm cd doc)->s₁.heap.CodeRec cd d.name->mg d.name=some (.ref fa) ->
   s₁.heap.get? a=some { cls:=.type "list", data:=.seq vs.toArray }->IntsAre vs ns->ns.length<=n->s₁.gens = #[] ->
   codeAny (model l.prog w) callerA (.call (.ref fa) ⟨[.ref a],[]⟩) (λr s'=>r=.ok (.ret (.bool true))/\OldK s₁.heap s'.heap/\s'.os=s₁.os/\AllBare s'.gens) s₁) :
  WalkO q loose XP YP l.row.toRowW d [] (λf vs=>PySem.call f vs):=by
 intro w s₀ s₁ mg mb G Y fa o pm cd doc dV kV ho hd hcd hD hmg hg args vals as hpre hlay hrd hwl hlo;obtain rfl:dV=.none:=Dflts.none hD hdf;obtain rfl:kV=.none:=Dflts.noKw hD;obtain⟨a,vs,ns,rfl,rfl,hobj,hints,hlen⟩:=zNn hn hpre hwl;refine enter_call (codeAny_mono (call w s₀ s₁ mg mb fa o pm cd doc a vs ns G Y ho (fd_plain hd) hcd hmg hobj hints hlen hg) λr s' hq=>?_);obtain⟨rfl,h2,h3,h4⟩:=hq;exact⟨.inl ⟨.bool true,.bool true,[],rfl,λ_=>rfl,.bool true,zPu l _,λ_=>⟨List.Pairwise.nil,λ_ hm=>(nomatch hm)⟩⟩,h2,h3,h4⟩

section
variable{prog:Program}{w:World}{A:Around}{E:Value->Shared->Prop}{s:Shared}{K:Frag}

end
end Att

namespace L2
open PySem PySem.Spec PyProof.Rows

theorem zE8:∀{vs:List Value}{ns:List Int},IntsAre vs ns->yW (ns.map V.int) vs
 | _,_,.nil=>.nil
 | _,_,.cons n t h=>.cons ⟨t,rfl⟩ (zE8 h)

def Only(H:Hp):Prop:=∀ b,H b=none\/∃ o xs,H b=some (.frz o (.lst xs))

theorem zQs{P:Program}{w:World}{K:PySem.W.Frag}{mg mb:Str->Option Value}{CX:CXT}{k:Nat}{fa a:Addr}{fd:FuncData}{x:Str}{sp:Sp}{s₁:Shared}{vs:List Value}{ns:List Int}
  (KX:K.In s₁.heap) (hns:s₁.heap.Ns mainGlobals mg) (hb:s₁.heap.Ns builtinsNs mb) (hbb:∀ x:Str,x ≠ "__name__" -> mb x=bootBuiltins x) (hlim:s₁.heap.NoLimit) (hg:s₁.gens = #[])
  (ha:s₁.heap.get? a=some { cls:=.type "list", data:=.seq vs.toArray }) (hi:IntsAre vs ns) (hl:ns.length<=sizeLine) (hr:zFt k callerA)
  (F:∀ base:Heap,K.In base->base.Ns mainGlobals mg->xK P w K mg base CX k fa fd [x] sp) (hbind:∀(s:Shared)(u:Value),BindsTo s fd ⟨[u],[]⟩ [(x,u)])
  (hsp:∀ H:Hp,Only H->SqL K H a (ns.map V.int)->sp [.ref a] H (λv _=>v=.bl true) λ_ _ _=>False)
  (hCX:∀ H e s',CX [] H s₁ (λ_ _ _=>False) e s'->False) :
  codeAny (model P w) callerA (.call (.ref fa) ⟨[.ref a],[]⟩) (λr s'=>r=.ok (.ret (.bool true))/\OldK s₁.heap s'.heap/\s'.os=s₁.os/\AllBare s'.gens) s₁:=by
 have rv:=zE8 hi;have lenV:=hi.length;have core:∀ H:Hp,Only H->SqL K H a (ns.map V.int)->HOk P w H s₁.heap->(∀ b,H b≠none->b=a)->(H a≠none->K.lookup a=none) ->
   codeAny (model P w) callerA (.call (.ref fa) ⟨[.ref a],[]⟩) (λr s'=>r=.ok (.ret (.bool true))/\OldK s₁.heap s'.heap/\s'.os=s₁.os/\AllBare s'.gens) s₁:=by
  intro H hO hS hok hA hK;have base_of:∀{b:Addr}{o:Obj},s₁.heap.get? b=some o->H b=none->(zRz s₁.heap H).get? b=some o:=λe n=>zRh e n;have noA:∀{b:Addr}{o:Obj}{es:Array DictEntry}{ep:Nat},s₁.heap.get? b=some o->o.data=.dict es ep->H b=none:=λ{b o es ep} e d=>by
   cases q:H b with
   | none=>rfl
   | some u =>
    have e':b=a:=hA b (by rw[q]; simp);subst e';rw[ha] at e; cases e;have d':Data.seq vs.toArray _=Data.dict es ep:=d;cases d'
  have nsK:∀{b:Addr}{m:Str->Option Value},s₁.heap.Ns b m->(zRz s₁.heap H).Ns b m:=λ{b m} ⟨o,es,ep,e,d,r⟩=>⟨o,es,ep,base_of e (noA e d),d,r⟩;have hKb:K.In (zRz s₁.heap H):=λb o e=>base_of (KX b o e) (by
   cases q:H b with
   | none=>rfl
   | some u =>
    have e':b=a:=hA b (by rw[q]; simp);subst e';rw[hK (by rw[q]; simp)] at e; cases e)
  have hM:Mod K mg (zRz s₁.heap H):=⟨hKb,nsK hns,⟨mb,nsK hb,hbb⟩,let ⟨mc,h1,h2⟩:=hlim;⟨mc,nsK h1,h2⟩⟩;have e0:zW6 P w K mg (zRz s₁.heap H) callerA [] s₁ H:=⟨rfl,hM,λb o e=>zUj e,Nat.le_of_eq (zOc _ _),trivial,λb hb=>absurd (show b∈([]:List Addr) from hb) (by simp),hok,.of_eq hg⟩;refine codeAny_mono ((F _ hKb (nsK hns)).run callerA [] s₁ H ⟨[.ref a],[]⟩ [.ref a] [.ref a] _ _ hr e0 (hbind s₁ (.ref a)) (.cons rfl .nil) (hsp H hO hS)) λr s' h=>?_;cases r with
  | error e=>exact(hCX H e s' h).elim
  | ok fl =>
   cases fl with
   | next=>exact False.elim h
   | brk=>exact False.elim h
   | cont=>exact False.elim h
   | ret u =>
    obtain⟨v,H',os,bare,un,hok',r',q⟩:=h;have q':v=.bl true:=q;subst q';obtain rfl:u=Value.bool true:=r';refine⟨rfl,OldK.of_keep λb o e=>?_,os,bare⟩;cases q:H b with
    | none=>exact un.keep b o e q (by intro z; exact absurd (show b∈([]:List Addr) from z) (by simp)) (by simp)
    | some u =>
     rcases hO b with z | ⟨ob,xs,z⟩
     ·rw[q] at z; cases z
     ·have z2:=un.frzs b ob _ z;obtain⟨e1,_⟩:=hok b _ z;obtain⟨e2,_⟩:=hok' b _ z2;rw[e] at e1; cases e1;exact e2
 cases hk:K.lookup a with
 | some o =>
  have e:=KX a o hk;rw[ha] at e;cases e;refine core (λ_=>none) (λ_=>.inl rfl) (.inr ⟨_,vs.toArray,_,hk,rfl,rfl,rfl,by rw[List.size_toArray,lenV]; exact hl,by simpa using rv⟩) (λb u z=>by have z':(none:Option HO)=some u:=z; cases z') (λb z=>absurd rfl z) λz=>absurd rfl z
 | none =>
  refine core (λb=>if b=a then some (.frz { cls:=.type "list", data:=.seq vs.toArray } (.lst (ns.map V.int))) else none) (λb=>?_) (.inl (.inr ⟨{ cls:=.type "list", data:=.seq vs.toArray },if_pos rfl⟩)) (λb u z=>?_) (λb z=>?_) λ_=>hk
  ·by_cases hb:b=a
   ·exact .inr ⟨_,_,if_pos hb⟩
   ·exact .inl (if_neg hb)
  ·by_cases hb:b=a
   ·have z':=(if_pos hb).symm.trans z;cases z';subst hb;exact⟨ha,by rw[List.length_map]; exact hl,vs,_,rv,ha⟩
   ·have z':=(if_neg hb).symm.trans z;cases z'
  ·by_cases hb:b=a
   ·exact hb
   ·exact absurd (if_neg hb) z
end L2

namespace L2
open PySem PySem.Spec PyProof.Rows

end L2

namespace L2
open PySem PySem.Spec PyProof.Rows


abbrev CX0:CXT:=λ_ _ _ _ _ _=>False
abbrev E0:XK:=λ_ _ _=>False
theorem pass0{X:Cx} : zNo CX0 X E0:=λ_ _ _ _ _ _ _ h=>h.elim

structure Fun(K:PySem.W.Frag)(x qual:Str)(st:Stmt)(f:Addr)(fd:FuncData):Prop where
 ex:∃(oc:Value)(od:Option Addr)(kV doc pm:Value)(an:Option Addr)(cdv ct:Value)(osl:Array (Option Value)),
  fd=PySem.W.fnOf x qual (sY st) (tX st) (zM st) .none kV doc pm an cdv ct/\K.lookup f=some ⟨oc,od,.func fd,osl⟩/\PySem.W.codeIn K cdv qual=true
 kp:PySem.W.keepIn K (.ref f)=true
section
variable{P:Program}{w:World}{K:PySem.W.Frag}{mg:Str->Option Value}{base:Heap}
theorem Fun.ok{x qual:Str}{st:Stmt}{f:Addr}{fd:FuncData}{N ps:List Str}{k:Nat}{sp:Sp}(F:Fun K x qual st f fd)(S:zT N ps (zM st))(len:∀ vs H Q E,sp vs H Q E->vs.length=ps.length)
  (hbody:∀(cdv:Value)(A:Around)(outer:List Env)(s:Shared)(H:Hp)(vs:List V)(Q:VK)(E:XK),zFt k (A.deeper (envOfC qual (zM st) s.heap.objs.size f cdv))->sp vs H Q E ->
   ∃ t,PSs (cxOf CX0 P w K mg base N qual (zM st) f cdv A outer s H E).nox (tX st) t/\t { nx:=λ_ H'=>Q .non H',rt:=Q } (start N vs) H):xK P w K mg base CX0 (k+1) f fd ps sp:=by
 obtain⟨oc,od,kV,doc,pm,an,cdv,ct,osl,rfl,lk,hcd⟩:=F.ex;refine fn_of lk hcd S len λA outer s H vs Q E hr hsp=>?_;obtain⟨t,h,q⟩:=hbody cdv A outer s H vs Q E hr hsp;exact⟨t,h.nox,q⟩
theorem Fun.binds{x qual:Str}{st:Stmt}{f:Addr}{fd:FuncData}{ps:List Str}(F:Fun K x qual st f fd)
  (h:∀(kV doc pm:Value)(an:Option Addr)(cdv ct:Value)(us:List Value),us.length=ps.length->bindArgs (PySem.W.fnOf x qual (sY st) (tX st) (zM st) .none kV doc pm an cdv ct) ⟨us,[]⟩=pure (ps.zip us)):zG3 K fd ps []:=by
 obtain⟨oc,od,kV,doc,pm,an,cdv,ct,osl,rfl,lk,hcd⟩:=F.ex;exact .all (h kV doc pm an cdv ct)
theorem zUx{x qual:Str}{st:Stmt}{f:Addr}{oc:Value}{od an:Option Addr}{osl:Array (Option Value)}{kV doc pm cdv ct:Value}(l:K.lookup f=some ⟨oc,od,.func (PySem.W.fnOf x qual (sY st) (tX st) (zM st) .none kV doc pm an cdv ct),osl⟩)
  (c:PySem.W.codeIn K cdv qual=true) (k:PySem.W.keepIn K (.ref f)=true):Fun K x qual st f (PySem.W.fnOf x qual (sY st) (tX st) (zM st) .none kV doc pm an cdv ct):=⟨⟨oc,od,kV,doc,pm,an,cdv,ct,osl,rfl,l,c⟩,k⟩
end
theorem zV{n:Nat}(h:n<=1000):n<sizeLine:=Nat.lt_of_le_of_lt h (by decide)

section
variable{X:Cx}
theorem pv(i:Nat){x:Str}{pos:Pos}(hN:X.N[i]?=some x:=by rfl)(hv:Vis X.env.scope x:=by first | exact Or.inl rfl | exact Or.inr (Or.inl rfl) | exact Or.inr (Or.inr rfl))(hd:(x ==("__debug__" : Str))=false:=by decide)
  (hcd:(x ==("__classdict__" : Str))=false:=by decide):PE X (.Name x pos) (zQf i):=zVd hN hv hd hcd
end

theorem vS{A B:Prop}(h:B):if false=true then A else B:=by
 rw[if_neg Bool.false_ne_true];exact h
theorem uT{A B:Prop}(h:A):if true=true then A else B:=by
 rw[if_pos rfl];exact h
def zZ(H H':Hp):Prop:=∀ b o,H b=some o->H' b=some o
theorem zZ.refl(H:Hp):zZ H H:=λ_ _ h=>h
theorem zZ.trans{H H1 H2:Hp}(a:zZ H H1)(b:zZ H1 H2):zZ H H2:=λc o h=>b c o (a c o h)
theorem zZ.free{H H':Hp}(e:zZ H H'){l:Addr}(h:H' l=Option.none):H l=Option.none:=by
 cases q:H l with
 | none=>rfl
 | some o =>
  rw[e l o q] at h;cases h
theorem zZ.seq{K:PySem.W.Frag}{H H':Hp}{a:Addr}{xs:List V}(e:zZ H H')(h:SqL K H a xs):SqL K H' a xs:=by
 rcases h with (h | ⟨o,h⟩) | h
 ·exact .inl (.inl (e _ _ h))
 ·exact .inl (.inr ⟨o,e _ _ h⟩)
 ·exact .inr h

end L2

namespace Sea
def yD(ns:List Int):Nat:=ns.foldl (λg n=>Nat.gcd g n.natAbs) 0
theorem zIx(ns:List Int)(n:Int):yD (ns++[n])=Nat.gcd (yD ns) n.natAbs:=by
 unfold yD;rw[List.foldl_append];rfl
theorem zLe:∀(ns:List Int)(g:Nat),ns.foldl (λg n=>Nat.gcd g n.natAbs) g ∣ g/\∀ n∈ns,ns.foldl (λg n=>Nat.gcd g n.natAbs) g ∣ n.natAbs
 | [],g=>⟨Nat.dvd_refl g,λ_ h=>nomatch h⟩
 | x::r,g=>by
  obtain⟨h1,h2⟩:=zLe r (Nat.gcd g x.natAbs);refine⟨Nat.dvd_trans h1 (Nat.gcd_dvd_left _ _),λn hn=>?_⟩;rcases List.mem_cons.mp hn with e | e
  ·rw[e];exact Nat.dvd_trans h1 (Nat.gcd_dvd_right _ _)
  ·exact h2 n e
theorem zAx{ns:List Int}{n:Int}(h:n∈ns):yD ns ∣ n.natAbs:=(zLe ns 0).2 n h
theorem xP{ns:List Int}{n:Int}(h:n∈ns):(yD ns:Int) ∣ n:=Int.ofNat_dvd_left.mpr (zAx h)
theorem zKt{d:Nat} : ∀(ns:List Int)(g:Nat),d ∣ g->(∀ n∈ns,d ∣ n.natAbs)->d ∣ ns.foldl (λg n=>Nat.gcd g n.natAbs) g
 | [],_,h,_=>h
 | x::r,g,h,hr=>zKt r _ (Nat.dvd_gcd h (hr x List.mem_cons_self)) λn hn=>hr n (List.mem_cons_of_mem _ hn)
theorem zRa{d:Nat}{ns:List Int}(h:∀ n∈ns,d ∣ n.natAbs):d ∣ yD ns:=zKt ns 0 (Nat.dvd_zero d) h
theorem xO{ns:List Int}{n:Int}(h:n∈ns)(h0:n≠0):0<yD ns:=by
 rcases Nat.eq_zero_or_pos (yD ns) with e | e
 ·have q:=zAx h;rw[e,Nat.zero_dvd] at q;lia
 ·exact e
theorem zBc{ns:List Int}{n:Int}(h:n∈ns)(h0:n≠0):(yD ns:Int)<=n.natAbs:=by
 have q:=Nat.le_of_dvd (by lia) (zAx h);lia
def vK(ns:List Int):List Int:=ns.map λn=>n/(yD ns:Int)
theorem yL{ns:List Int}{n:Int}(h:n∈ns):n/(yD ns:Int)*(yD ns:Int)=n:=Int.ediv_mul_cancel (xP h)
theorem zEd{ns:List Int}(h:0<yD ns):yD (vK ns)=1:=by
 have key:yD ns*yD (vK ns) ∣ yD ns:=by
  refine zRa λn hn=>?_;have h1:yD (vK ns) ∣ (n/(yD ns:Int)).natAbs:=zAx (List.mem_map.mpr ⟨n,hn,rfl⟩);obtain⟨c,hc⟩:=h1;have h2:=congrArg Int.natAbs (yL hn);rw[Int.natAbs_mul,Int.natAbs_natCast,hc] at h2;rw[<- h2];exact⟨c,by rw[Nat.mul_comm,Nat.mul_assoc]⟩
 obtain⟨c,hc⟩:=key;have h3:yD ns*(yD (vK ns)*c)=yD ns*1:=by
  rw[<- Nat.mul_assoc,<- hc,Nat.mul_one]
 have h4:=Nat.eq_of_mul_eq_mul_left h h3;exact Nat.dvd_one.mp ⟨c,h4.symm⟩
theorem zLg(x y:Int):yD [x,y]=Nat.gcd x.natAbs y.natAbs:=by
 show Nat.gcd (Nat.gcd 0 x.natAbs) y.natAbs=_;rw[Nat.gcd_zero_left]
theorem zLy(x y z:Int):yD [x,y,z]=Nat.gcd (Nat.gcd x.natAbs y.natAbs) z.natAbs:=by
 show Nat.gcd (Nat.gcd (Nat.gcd 0 x.natAbs) y.natAbs) z.natAbs=_;rw[Nat.gcd_zero_left]
theorem zLl(ns:List Int):yD (ns.map λn=>-n)=yD ns:=by
 have key:∀(l:List Int)(g:Nat),(l.map λn=>-n).foldl (λg n=>Nat.gcd g n.natAbs) g=l.foldl (λg n=>Nat.gcd g n.natAbs) g:=by
  intro l
  induction l with
  | nil=>intro g; rfl
  | cons x r ih =>
   intro g;show(r.map λn=>-n).foldl _ (Nat.gcd g (-x).natAbs)=r.foldl _ (Nat.gcd g x.natAbs);rw[ih,Int.natAbs_neg]
 exact key ns 0
theorem zHe{a b:Int}(ha:0<=a)(hb:0<b):Nat.gcd b.toNat (a%b).toNat=Nat.gcd a.toNat b.toNat:=by
 obtain⟨m,rfl⟩:=Int.eq_ofNat_of_zero_le ha;obtain⟨n,rfl⟩:=Int.eq_ofNat_of_zero_le (Int.le_of_lt hb);have e:((m:Int)%(n:Int)).toNat=m%n:=by
  rw[<- Int.natCast_emod];rfl
 show Nat.gcd n ((m:Int)%(n:Int)).toNat=Nat.gcd m n;rw[e,Nat.gcd_comm m n,Nat.gcd_rec n m,Nat.gcd_comm]
theorem zKv(i:Int):(if i<0 then -i else i)=(i.natAbs:Int):=by
 split <;> lia
end Sea
namespace Sea
structure wT(t b x y:Int):Prop where
 pos:1<=y
 low:Nat.gcd x.natAbs y.natAbs=1
 eq:x*b=y*t
 xle:x.natAbs<=t.natAbs
 yle:y.natAbs<=b.natAbs
theorem xM(n:Int){g:Int}(hg:0<g)(h:g ∣ n):(n/g).natAbs<=n.natAbs:=by
 obtain⟨c,hc⟩:=h;subst hc;rw[Int.mul_ediv_cancel_left c (by lia),Int.natAbs_mul];exact Nat.le_mul_of_pos_left _ (by lia)
theorem zMq(t:Int){b:Int}(hb:b≠0):∃ x y:Int,(vK (if b<0 then [t,b].map (λn=>-n) else [t,b]))=[x,y]/\wT t b x y:=by
 have key:∀(t b:Int),0<b->∃ x y:Int,vK [t,b]=[x,y]/\wT t b x y:=λt b hb=>by
  have gp:0<yD [t,b]:=xO (n:=b) (by simp) (by lia);have e1:=yL (ns:=[t,b]) (n:=t) (by simp);have e2:=yL (ns:=[t,b]) (n:=b) (by simp);have gI:(0:Int)<(yD [t,b]:Int):=by lia
  refine⟨t/(yD [t,b]:Int),b/(yD [t,b]:Int),rfl,?_,?_,?_,xM t gI (xP (by simp)),xM b gI (xP (by simp))⟩
  ·exact Int.ediv_pos_of_pos_of_dvd hb (Int.le_of_lt gI) (xP (by simp))
  ·have h3:=zEd gp;rw[<- zLg];exact h3
  ·generalize (yD [t,b]:Int)=g at e1 e2
   calc t/g*b=t/g*(b/g*g):=by rw[e2]
    _=b/g*(t/g*g):=by rw[<- Int.mul_assoc,<- Int.mul_assoc,Int.mul_comm (t/g)]
    _=b/g*t:=by rw[e1]
 by_cases h:b<0
 ·rw[if_pos h];obtain⟨x,y,e,p⟩:=key (-t) (-b) (by lia);refine⟨x,y,e,p.pos,p.low,?_,by have:=p.xle; lia,by have:=p.yle; lia⟩;have q:=p.eq;rw[Int.mul_neg,Int.mul_neg] at q;lia
 ·rw[if_neg h];exact key t b (by lia)
end Sea
namespace Sea
theorem zI(a b:Int){m n:Nat}(ha:a.natAbs<=m)(hb:b.natAbs<=n):(a*b).natAbs<=m*n:=by
 rw[Int.natAbs_mul];exact Nat.mul_le_mul ha hb
theorem zSm{b:Int}(h:b.natAbs<=10^40):b.natAbs<10^500:=Nat.lt_of_le_of_lt h (by decide +kernel)
end Sea
namespace Sea
theorem zFl{X Y:Int}(h:X≠0\/Y≠0):∃ x y:Int,vK [X,Y]=[x,y]/\0<yD [X,Y]/\(yD [X,Y]<=X.natAbs\/yD [X,Y]<=Y.natAbs)/\Nat.gcd x.natAbs y.natAbs=1/\x*Y-y*X=0/\0<x*X+y*Y/\x.natAbs<=X.natAbs/\y.natAbs<=Y.natAbs:=by
 have gp:0<yD [X,Y]:=by
  rcases h with h | h
  ·exact xO (n:=X) (by simp) h
  ·exact xO (n:=Y) (by simp) h
 have gI:(0:Int)<(yD [X,Y]:Int):=by lia
 have e1:=yL (ns:=[X,Y]) (n:=X) (by simp);have e2:=yL (ns:=[X,Y]) (n:=Y) (by simp);refine⟨X/(yD [X,Y]:Int),Y/(yD [X,Y]:Int),rfl,gp,?_,?_,?_,?_,xM X gI (xP (by simp)),xM Y gI (xP (by simp))⟩
 ·rcases h with h | h
  ·exact .inl (Nat.le_of_dvd (by lia) (zAx (by simp)))
  ·exact .inr (Nat.le_of_dvd (by lia) (zAx (by simp)))
 ·rw[<- zLg];exact zEd gp
 ·generalize (yD [X,Y]:Int)=g at e1 e2;generalize X/g=x at e1;generalize Y/g=y at e2;rw[<- e1,<- e2,<- Int.mul_assoc,<- Int.mul_assoc,Int.mul_comm x y];lia
 ·generalize (yD [X,Y]:Int)=g at e1 e2 gI;have f1:0<=X/g*X:=by
   have:X/g*X=X/g*(X/g)*g:=by rw[Int.mul_assoc,e1]
   rw[this];exact Int.mul_nonneg (by rw[<- Int.natAbs_mul_self]; exact Int.natCast_nonneg _) (Int.le_of_lt gI)
  have f2:0<=Y/g*Y:=by
   have:Y/g*Y=Y/g*(Y/g)*g:=by rw[Int.mul_assoc,e2]
   rw[this];exact Int.mul_nonneg (by rw[<- Int.natAbs_mul_self]; exact Int.natCast_nonneg _) (Int.le_of_lt gI)
  rcases h with h | h
  ·have:X/g*X≠0:=Int.mul_ne_zero (λz=>h (by rw[<- e1,z,Int.zero_mul])) h;lia
  ·have:Y/g*Y≠0:=Int.mul_ne_zero (λz=>h (by rw[<- e2,z,Int.zero_mul])) h;lia
end Sea
namespace Sea
end Sea
namespace Sea
def upL(X Y W:Int):List Int:=if W<0 then [-X,-Y,-W] else [X,Y,W]
structure zKp(X Y W x y w:Int):Prop where
 pos:1<=w
 low:Nat.gcd (Nat.gcd x.natAbs y.natAbs) w.natAbs=1
 ex:x*W=X*w
 ey:y*W=Y*w
 xle:x.natAbs<=X.natAbs
 yle:y.natAbs<=Y.natAbs
 wle:w.natAbs<=W.natAbs
theorem zLd{X Y W:Int}(h:0<W):∃ x y w:Int,vK [X,Y,W]=[x,y,w]/\zKp X Y W x y w:=by
 have gp:0<yD [X,Y,W]:=xO (n:=W) (by simp) (by lia);have gI:(0:Int)<(yD [X,Y,W]:Int):=by lia
 have e1:=yL (ns:=[X,Y,W]) (n:=X) (by simp);have e2:=yL (ns:=[X,Y,W]) (n:=Y) (by simp);have e3:=yL (ns:=[X,Y,W]) (n:=W) (by simp);have lo:=zEd gp;refine⟨X/(yD [X,Y,W]:Int),Y/(yD [X,Y,W]:Int),W/(yD [X,Y,W]:Int),rfl,Int.ediv_pos_of_pos_of_dvd h (Int.le_of_lt gI) (xP (by simp)),?_,?_,?_,xM X gI (xP (by simp)),xM Y gI (xP (by simp)),xM W gI (xP (by simp))⟩
 ·rw[<- zLy];exact lo
 ·generalize (yD [X,Y,W]:Int)=g at e1 e3;generalize X/g=x at e1;generalize W/g=w at e3;rw[<- e1,<- e3,Int.mul_assoc,Int.mul_comm g w]
 ·generalize (yD [X,Y,W]:Int)=g at e2 e3;generalize Y/g=y at e2;generalize W/g=w at e3;rw[<- e2,<- e3,Int.mul_assoc,Int.mul_comm g w]
theorem zCm{X Y W:Int}(h:W≠0):∃ x y w:Int,vK (upL X Y W)=[x,y,w]/\zKp X Y W x y w:=by
 unfold upL;by_cases c:W<0
 ·rw[if_pos c];obtain⟨x,y,w,e,p⟩:=zLd (X:=-X) (Y:=-Y) (W:=-W) (by lia);refine⟨x,y,w,e,p.pos,p.low,?_,?_,by have:=p.xle; lia,by have:=p.yle; lia,by have:=p.wle; lia⟩
  ·have q:=p.ex;rw[Int.mul_neg,Int.neg_mul] at q;lia
  ·have q:=p.ey;rw[Int.mul_neg,Int.neg_mul] at q;lia
 ·rw[if_neg c];exact zLd (by lia)
theorem zHr{A B C X Y W x y w:Int}(h:W≠0)(p:zKp X Y W x y w)(e:A*X+B*Y=C*W):A*x+B*y=C*w:=by
 refine Int.eq_of_mul_eq_mul_right h ?_;have e1:(A*x+B*y)*W=A*(x*W)+B*(y*W):=by rw[Int.add_mul,Int.mul_assoc,Int.mul_assoc]
 have e2:A*(X*w)+B*(Y*w)=(A*X+B*Y)*w:=by rw[Int.add_mul,Int.mul_assoc,Int.mul_assoc]
 rw[e1,p.ex,p.ey,e2,e,Int.mul_assoc,Int.mul_comm W w,<- Int.mul_assoc]
theorem zNs(A1 B1 C1 A2 B2 C2:Int):A1*(C1*B2-B1*C2)+B1*(A1*C2-C1*A2)=C1*(A1*B2-B1*A2):=by
 simp only[Int.mul_sub,Int.mul_comm,Int.mul_left_comm];lia
theorem zNp(A1 B1 C1 A2 B2 C2:Int):A2*(C1*B2-B1*C2)+B2*(A1*C2-C1*A2)=C2*(A1*B2-B1*A2):=by
 simp only[Int.mul_sub,Int.mul_comm,Int.mul_left_comm];lia
end Sea
namespace Sea
end Sea

namespace Sea
theorem zF5{a b:Int}(h:a≠0\/b≠0):1<=a*a+b*b:=by
 have s1:0<=a*a:=by rw[<- Int.natAbs_mul_self]; exact Int.natCast_nonneg _
 have s2:0<=b*b:=by rw[<- Int.natAbs_mul_self]; exact Int.natCast_nonneg _
 rcases h with h | h
 ·have:a*a≠0:=Int.mul_ne_zero h h;lia
 ·have:b*b≠0:=Int.mul_ne_zero h h;lia
end Sea
namespace Sea
end Sea

namespace Sea
end Sea

namespace L2
open PySem PySem.Spec PyProof.Rows

structure CC where
 C:Addr
 s:Shared
 H:Hp
 fp:List Addr

def zBp(env:Env):List (Str×NameKind)->List (Str×Addr)->List (Str×Addr)
 | [],cs=>cs
 | (n,k)::r,cs=>zBp env r (if (k == NameKind.free)=true then(n,(env.cells.lookup n).getD 0)::cs else cs)
theorem zN3{scope:Scope}{env:Env}(h:∀ x∈scope.names,x.2=.free->∃ c,env.cells.lookup x.1=some c):closureFor scope env=pure (zBp env scope.names []):=by
 simp only[closureFor];have key:∀(names:List (Str×NameKind))(cs:List (Str×Addr)),(∀ x∈names,x.2=.free->∃ c,env.cells.lookup x.1=some c) ->
  (forIn names cs (λ(x:Str×NameKind) (r:List (Str×Addr))=>match x with | (name,kind)=>if (kind == NameKind.free)=true then(do let a <- cellOf env name; pure (ForInStep.yield ((name,a)::r))) else pure (ForInStep.yield r)):Sem (List (Str×Addr)))=pure (zBp env names cs):=by
  intro names
  induction names with
  | nil=>intro cs _; rfl
  | cons x r ih =>
   intro cs hx;obtain⟨n,k⟩:=x;rw[List.forIn_cons];have hr:=ih (if (k == NameKind.free)=true then(n,(env.cells.lookup n).getD 0)::cs else cs) λy hy=>hx y (List.mem_cons_of_mem _ hy);by_cases hk:(k == NameKind.free)=true
   ·obtain⟨c,hc⟩:=hx (n,k) List.mem_cons_self (by simpa using hk);have e:cellOf env n=pure c:=by unfold cellOf; rw[hc]
    rw[if_pos hk] at hr;have hc':env.cells.lookup n=some c:=hc;rw[hc'] at hr;show(((if (k == NameKind.free)=true then(do let a <- cellOf env n; pure (ForInStep.yield ((n,a)::cs))) else pure (ForInStep.yield cs)):Sem _) >>= _)=_;rw[if_pos hk,e];refine Eq.trans ?_ (hr.trans ?_)
    ·rfl
    ·rw[zBp,if_pos hk,hc']
   ·rw[if_neg hk] at hr;show(((if (k == NameKind.free)=true then(do let a <- cellOf env n; pure (ForInStep.yield ((n,a)::cs))) else pure (ForInStep.yield cs)):Sem _) >>= _)=_;rw[if_neg hk];refine Eq.trans ?_ (hr.trans ?_)
    ·rfl
    ·rw[zBp,if_neg hk]
 exact congrArg (λ(z:Sem (List (Str×Addr)))=>z >>= λcs=>pure cs) (key scope.names [] h)
theorem rY{env:Env} : ∀(names:List (Str×NameKind))(cs:List (Str×Addr)),(∀ x∈names,x.2=.free->∃ c,env.cells.lookup x.1=some c) ->
  (∀ x c,cs.lookup x=some c->env.cells.lookup x=some c)->∀ x c,(zBp env names cs).lookup x=some c->env.cells.lookup x=some c
 | [],_,_,hc=>hc
 | (n,k)::r,cs,h,hc=>by
  refine rY r _ (λy hy=>h y (List.mem_cons_of_mem _ hy)) λx c=>?_;by_cases hk:(k == NameKind.free)=true
  ·rw[if_pos hk];obtain⟨d,hd⟩:=h (n,k) List.mem_cons_self (by simpa using hk);have hd':env.cells.lookup n=some d:=hd;intro e;rw[List.lookup_cons] at e;cases hx:x == n with
   | true =>
    rw[hx,hd'] at e;have ex:x=n:=by simpa using hx
    rw[ex,hd'];exact e
   | false =>
    rw[hx] at e;exact hc x c e
  ·rw[if_neg hk];exact hc x c
theorem zEm{env:Env} : ∀(names:List (Str×NameKind))(cs:List (Str×Addr))(x:Str),((x,NameKind.free)∈names\/∃ c,cs.lookup x=some c)->∃ c,(zBp env names cs).lookup x=some c
 | [],_,_,h=>h.elim (λz=>nomatch z) id
 | (n,k)::r,cs,x,h=>by
  refine zEm r _ x ?_;by_cases hk:(k == NameKind.free)=true
  ·rw[if_pos hk];cases hx:x == n with
   | true=>exact .inr ⟨_,by rw[List.lookup_cons,hx]⟩
   | false =>
    rcases h with h | ⟨c,h⟩
    ·rcases List.mem_cons.mp h with e | e
     ·injection e with e1 _
      subst e1;simp at hx
     ·exact .inl e
    ·exact .inr ⟨c,by rw[List.lookup_cons,hx]; exact h⟩
  ·rw[if_neg hk];rcases h with h | h
   ·rcases List.mem_cons.mp h with e | e
    ·injection e with _ e2
     subst e2;exact absurd rfl hk
    ·exact .inl e
   ·exact .inr h
theorem zC4{env:Env} : ∀{names:List (Str×NameKind)}{x:Str},names.lookup x=some .free ->
  (names.map λ(n,k)=>if (k == NameKind.free&&env.scope.kind == .function&&env.kindOf n == some .cell) then(n,NameKind.cell) else(n,k)).lookup x=some .cell \/
  (names.map λ(n,k)=>if (k == NameKind.free&&env.scope.kind == .function&&env.kindOf n == some .cell) then(n,NameKind.cell) else(n,k)).lookup x=some .free
 | [],_,h=>by simp at h
 | (n,k)::r,x,h=>by
  have ih:=@zC4 env r x;show List.lookup x ((if (k == NameKind.free&&env.scope.kind == .function&&env.kindOf n == some .cell)=true then(n,NameKind.cell) else(n,k))::_)=_\/List.lookup x ((if (k == NameKind.free&&env.scope.kind == .function&&env.kindOf n == some .cell)=true then(n,NameKind.cell) else(n,k))::_)=_;by_cases hc:(k == NameKind.free&&env.scope.kind == .function&&env.kindOf n == some .cell)=true
  ·rw[if_pos hc];cases hx:x == n with
   | true=>exact .inl (by rw[List.lookup_cons,hx])
   | false =>
    rw[List.lookup_cons,hx] at h;rw[List.lookup_cons,hx];exact ih h
  ·rw[if_neg hc];cases hx:x == n with
   | true =>
    rw[List.lookup_cons,hx] at h;exact .inr (by rw[List.lookup_cons,hx]; exact h)
   | false =>
    rw[List.lookup_cons,hx] at h;rw[List.lookup_cons,hx];exact ih h
theorem zAc{env:Env} : ∀{names:List (Str×NameKind)}{x:Str}{j:NameKind},(∀ y∈names,y.2≠.cell)->(j=.cell\/j=.free) ->
  (names.map λ(n,k)=>if (k == NameKind.free&&env.scope.kind == .function&&env.kindOf n == some .cell) then(n,NameKind.cell) else(n,k)).lookup x=some j->(x,NameKind.free)∈names
 | [],_,_,_,_,h=>by simp at h
 | (n,k)::r,x,j,hn,hj,h=>by
  have ih:=@zAc env r x j (λy hy=>hn y (List.mem_cons_of_mem _ hy)) hj;have hk0:k≠.cell:=hn (n,k) List.mem_cons_self
  replace h:List.lookup x ((if (k == NameKind.free&&env.scope.kind == .function&&env.kindOf n == some .cell)=true then(n,NameKind.cell) else(n,k))::(r.map λ(n,k)=>if (k == NameKind.free&&env.scope.kind == .function&&env.kindOf n == some .cell) then(n,NameKind.cell) else(n,k)))=some j:=h
  by_cases hc:(k == NameKind.free&&env.scope.kind == .function&&env.kindOf n == some .cell)=true
  ·rw[if_pos hc] at h;have hf:k=.free:=by
    simp only[Bool.and_eq_true] at hc;simpa using hc.1.1
   cases hx:x == n with
   | true =>
    have ex:x=n:=by simpa using hx
    subst ex;rw[<- hf];exact List.mem_cons_self
   | false =>
    rw[List.lookup_cons,hx] at h;exact List.mem_cons_of_mem _ (ih h)
  ·rw[if_neg hc] at h;cases hx:x == n with
   | true =>
    rw[List.lookup_cons,hx] at h;have ex:x=n:=by simpa using hx
    have ek:k=j:=Option.some.inj h;subst ex;rcases hj with hj | hj
    ·exact absurd (ek.trans hj) hk0
    ·rw[<- hj,<- ek];exact List.mem_cons_self
   | false =>
    rw[List.lookup_cons,hx] at h;exact List.mem_cons_of_mem _ (ih h)

def wS(X:Cx)(N:List Str)(scope:Scope)(c:CC):Cx where
 prog:=X.prog
 w:=X.w
 K:=X.K
 mg:=X.mg
 base:=X.base
 A:=X.A
 N:=N
 s₀:=c.s
 H₀:=c.H
 env:=compEnvC scope (zBp X.env scope.names []) c.C X.env
 outer:=X.stack
 stack:=X.stack
 ex:=c.fp
 fn:=λ_=>false
 calm:=X.calm
 pn:=[]
 xe:=λ_ _=>False

def zH6(X:Cx)(scope:Scope):List (Str×Nat)->Prop
 | []=>True
 | p::r=>(X.N[p.2]?=some p.1/\scope.names.lookup p.1=some .free/\(X.env.kindOf p.1=some .cell\/X.env.kindOf p.1=some .free))/\zH6 X scope r
theorem zH6.mem{X:Cx}{scope:Scope} : ∀{caps:List (Str×Nat)},zH6 X scope caps->∀ p∈caps,X.N[p.2]?=some p.1/\scope.names.lookup p.1=some .free/\(X.env.kindOf p.1=some .cell\/X.env.kindOf p.1=some .free)
 | [],_,_,h=>nomatch h
 | q::r,h,p,hp=>by
  rcases List.mem_cons.mp hp with e | e
  ·rw[e]; exact h.1
  ·exact zH6.mem h.2 p e
structure rD(X:Cx)(caps:List (Str×Nat))(scope:Scope):Prop where
 kind:scope.kind=.function
 nocell:∀ y∈scope.names,y.2≠.cell
 loc:∀ y∈scope.names,y.2=.local->scope.names.lookup y.1=some .local
 clos:(scope.names.all λx=>!(x.2 == .free)||(X.env.cells.lookup x.1).isSome)=true
 cap:zH6 X scope caps
theorem rD.cells{X:Cx}{caps:List (Str×Nat)}{scope:Scope}(S:rD X caps scope):∀ x∈scope.names,x.2=.free->∃ c,X.env.cells.lookup x.1=some c:=λx hx hf=>by
 have h:=List.all_eq_true.mp S.clos x hx;rw[hf] at h;simp only[Bool.or_eq_true] at h;rcases h with h | h
 ·exact absurd h (by decide)
 ·exact Option.isSome_iff_exists.mp h

def zLo(caps:List (Str×Nat))(nt:Nat)(σ:St):St:=List.replicate nt none++caps.map λp=>(σ[p.2]?).join

def zU9(Y:Cx)(ifs:List Expr)(t:TT):Prop :=
 ∀(pins:List (Addr×Obj))(s:Shared)(σ:St)(H:Hp)(Q:Bool->Hp->Prop),Inv Y pins σ H s->t σ H Q ->
  wpAny (model Y.prog Y.w) Y.A (forIn ifs true λc r=>if r=true then do let ok <- isTrue c Y.env (eval c Y.env); pure (ForInStep.yield ok) else pure (ForInStep.yield r)) (TP Y pins σ Q) Y.xe s
def zUr:TT:=λ_ H Q=>Q true H
theorem yF{Y:Cx} : zU9 Y [] zUr:=λ_ _ _ H _ I h=>wpAny_tests_nil ⟨H,I,h⟩
theorem zKr{Y:Cx}{c:Expr}{t:TT}(h:PT Y c t):zU9 Y [c] t:=λpins s σ H Q I q=>wpAny_tests_one (h pins s σ H Q I q)

def zEc(J:It)(D:Addr)(g:TG)(tt:TT)(te:TE)(σ0:St)(H1:Hp)(Q:VK):Prop :=
 ∃ W:Nat->Nat->St->List V->Hp->Prop,(∃ m,W 0 m σ0 [] (upd H1 D (.lst [])))/\∀ i m σ ys H,W i m σ ys H->H D=some (.lst ys) /\
  ((J.stop i H/\Q (.ref D) H)\/(J.go i H/\∃ N:St->List V->Hp->Prop,(∀ σ' zs H',N σ' zs H'->∃ m',m'<m/\W (i+1) m' σ' zs H')/\∀ x H',J.yld i H x H'->g x σ H' λσ2 H2=>tt σ2 H2 λb H3 =>
   if b=true then te σ2 H3 λy H4=>H4 D=some (.lst ys)/\ys.length<sizeLine/\N σ2 (ys++[y]) (upd H4 D (.lst (ys++[y]))) else N σ2 ys H3))
def zTc(nt:Nat)(caps:List (Str×Nat))(wi:TI)(g:CC->TG)(tt:CC->TT)(te:CC->TE):TE:=λσ H Q =>
 wi σ H λJ H1=>∀(c:CC)(D:Addr),H1 D=none->zEc J D (g c) (tt c) (te c) (zLo caps nt σ) H1 Q

theorem zKn{α:Type}{t:Sem α}{Q Q':α->Shared->Prop}{M:Model}{A:Around}{E:Value->Shared->Prop}{s:Shared}(h:wpAny M A t Q (λ_ _=>False) s)(hQ:∀ a s,Q a s->Q' a s):wpAny M A t Q' E s:=wpAny_mono h hQ λ_ _ x=>x.elim
theorem Un.same{fs ex:List Addr}{H H':Hp}{h h1 h2:Heap}{C:Addr}(u:Un fs ex H H' h h1)(sb:Heap.SameBut C h1 h2)(hC:h.get? C=none):Un fs ex H H' h h2:=by
 have ne:∀ b o,h.get? b=some o->b≠C:=λb o e z=>by rw[z,hC] at e; cases e
 refine⟨λb o e n hb hx=>(sb.2 b (ne b o e)).trans (u.keep b o e n hb hx),λb o e n hb hx=>?_,u.free,λb o e hx=>?_,u.tups,u.frzs,u.tbls⟩
 ·obtain⟨sl,q⟩:=u.slot b o e n hb hx;exact⟨sl,(sb.2 b (ne b o e)).trans q⟩
 ·obtain⟨o',q⟩:=u.there b o e hx;exact⟨o',(sb.2 b (ne b o e)).trans q⟩
theorem HOk.same{P:Program}{w:World}{H:Hp}{h h':Heap}{C:Addr}(k:HOk P w H h)(sb:Heap.SameBut C h h')(hC:H C=none):HOk P w H h':=λb o e=>by
 refine(k b o e).stay (λc v hc q=>(sb.2 c ?_).trans q) (λ_ q=>q) λ_ _ q=>q;rintro rfl;rcases hc with z | z
 ·rw[z,e] at hC; cases hC
 ·rw[hC] at z; cases z

section
variable{X:Cx}{T:List Str}{caps:List (Str×Nat)}{scope:Scope}{elt target iter:Expr}{ifs:List Expr}{pos:Pos}{wi:TI}{g:CC->TG}{tt:CC->TT}{te:CC->TE}

theorem zGo{pins:List (Addr×Obj)}{σ:St}{H2:Hp}{s2:Shared}{fp:List Addr}{C D:Addr}{h1:Heap}{tk:Nat}{m:Str->Option Value}(S:rD X caps scope)(I2:Inv X pins σ H2 s2)(f2:∀ b∈fp,zQd X pins H2 b)
  (hfp:∀ b∈fp,b<s2.heap.objs.size) (hD:s2.heap.objs.size<=D) (hC:s2.heap.objs.size<=C) (hDC:C≠D) (old:∀ b o,s2.heap.get? b=some o->h1.get? b=some o)
  (acc:∃ n,h1.get? D=some { cls:=.type "list", data:=.seq ([]:List Value).toArray n }) (hn:h1.Ns C m) :
  Inv (wS X (T++caps.map (·.1)) scope ⟨C,s2,H2,fp⟩) [] (zLo caps T.length σ) (upd H2 D (.lst [])) { s2 with heap:=h1,toks:=tk }:=by
 have cs:=rY (env:=X.env) scope.names [] S.cells (λ_ _ z=>by cases z);have cellOld:∀ x c,X.env.cells.lookup x=some c->c<s2.heap.objs.size:=λx c e=>by
  obtain⟨v,q⟩:=I2.cell x c e;exact q.lt
 have stkNo:∀ b∈fp,b ∉ frs X.stack:=λb hb z=>by
  rcases List.mem_cons.mp (I2.stkSub b z) with e | e
  ·exact(f2 b hb).2.1 e
  ·exact(f2 b hb).2.2.1 e
 have fr:H2 D=none:=I2.hok.fresh hD;refine⟨⟨I2.ok.mod,S.kind,I2.ok.glob,I2.ok.blt,hC,λx y c e1 e2=>I2.ok.inj x y c (cs x c e1) (cs y c e2),λx hx=>?_,λ_ _ z=>absurd (show false=true from z) Bool.false_ne_true,I2.ok.hd,I2.ok.frames,.inl rfl,λb hb=>⟨?_,λx c e=>(f2 b hb).2.2.2.2.1 x c (cs x c e)⟩,
  λb o e=>I2.bs b o e,Nat.le_trans I2.ok.bsz I2.sz,λb o e hb=>?_,stkNo,I2.stack,I2.stkFree⟩,rfl,I2.bare,?_,⟨m,hn,λi x v e1 e2 e3=>?_⟩,λx c e=>?_,?_,λx c e=>?_,λp hp=>absurd (show p∈([]:List (Addr×Obj)) from hp) (by simp),?_,?_⟩
 ·have hx':(x,NameKind.free)∈scope.names:=by
   rcases hx with z | z
   ·exact zAc S.nocell (.inl rfl) z
   ·exact zAc S.nocell (.inr rfl) z
  exact zEm scope.names [] x (.inl hx')
 ·exact Nat.ne_of_lt (Nat.lt_of_lt_of_le (hfp b hb) hC)
 ·rcases (f2 b hb).2.2.2.1 with z | z
  ·exact I2.ok.noex b o e z
  ·exact absurd (Nat.lt_of_lt_of_le (Heap.lt_size (show X.base.get? b=some o from e)) (Nat.le_trans I2.ok.bsz z)) (Nat.lt_irrefl _)
 ·exact Un.laid old hD fr
 ·have hlt:¬ i<T.length:=λhi=>by
   unfold zLo at e2;rw[List.getElem?_append_left (by simpa using hi),List.getElem?_replicate,if_pos hi] at e2;cases e2
  have hge:T.length<=i:=Nat.le_of_not_lt hlt;have e1':(T++caps.map (·.1))[i]?=some x:=e1;rw[List.getElem?_append_right hge,List.getElem?_map] at e1';unfold zLo at e2;rw[List.getElem?_append_right (by simpa using hge),List.length_replicate,List.getElem?_map] at e2;cases hp:caps[i-T.length]? with
  | none=>rw[hp] at e1'; cases e1'
  | some p =>
   rw[hp] at e1' e2;have ex:p.1=x:=Option.some.inj e1';have ev:(σ[p.2]?).join=some v:=Option.some.inj e2;obtain⟨hN,hf,hk⟩:=S.cap.mem p (List.mem_of_getElem? hp);have ev':σ[p.2]?=some (some v):=by
    cases hq:σ[p.2]? with
    | none=>rw[hq] at ev; cases ev
    | some o =>
     rw[hq] at ev;exact congrArg some ev
   obtain⟨m2,_,hl2⟩:=I2.loc;obtain⟨u,ru,l⟩:=hl2 p.2 p.1 v hN ev' (hk.elim (λz=>.inr (.inl z)) λz=>.inr (.inr z));refine⟨u,ru,.inr ⟨?_,?_⟩⟩
   ·rw[<- ex];exact zC4 (env:=X.env) hf
   ·rcases l with ⟨kl,_⟩ | ⟨_,c,ec,hcell⟩
    ·rcases hk with z | z <;>(rw[kl] at z; cases z)
    ·obtain⟨d,hd⟩:=zEm (env:=X.env) scope.names [] p.1 (.inl (PySem.mem_of_lookup hf));have hd':=cs p.1 d hd;rw[ec] at hd';cases hd';obtain⟨o,ho,hod⟩:=hcell;exact⟨c,by rw[<- ex]; exact hd,o,old c o ho,hod⟩
 ·obtain⟨v,o,ho,hd⟩:=I2.cell x c (cs x c e);exact⟨v,o,old c o ho,hd⟩
 ·show upd H2 D (.lst []) C=none;rw[yA hDC];exact I2.hok.fresh hC
 ·show upd H2 D (.lst []) c=none;rw[yA (Nat.ne_of_lt (Nat.lt_of_lt_of_le (cellOld x c (cs x c e)) hD))];exact I2.freeC x c (cs x c e)
 ·obtain⟨n,e⟩:=acc;exact I2.hok.laid old hD ⟨Nat.zero_le _,[],n,.nil,e⟩
 ·show(zLo caps T.length σ).length=(T++caps.map (·.1)).length;unfold zLo;rw[List.length_append,List.length_append,List.length_map,List.length_map,List.length_replicate]

theorem xJ(S:rD X caps scope)(hc:X.calm=true)(hi:PI X target iter wi)(hg:∀ c,PG (wS X (T++caps.map (·.1)) scope c) target (g c))(ht:∀ c,zU9 (wS X (T++caps.map (·.1)) scope c) ifs (tt c))(he:∀ c,PE (wS X (T++caps.map (·.1)) scope c) elt (te c))
  (hs:∀ x,foldedSetIterable iter X.env x=pure x:=by intro _; rfl):PE X (.ListComp elt [⟨target,iter,ifs,0⟩] scope pos) (zTc T.length caps wi g tt te):=by
 intro pins s σ H Q I h;rw[eval_ListComp];refine wpAny_comprehension_free (use:=none) rfl hs (zN3 S.cells) S.kind S.loc (thn (hi pins s σ H _ I h) λv s1 h1=>thn h1 λitv s2 h2=>?_);obtain⟨it,fp,tn,J,H2,e,I2,TT,st2,f2,q2⟩:=h2;subst e;refine wpAny_newObj_type (wpAny_newFunctionEnv S.nocell (by intro y hy; simp at hy) (λh1 hn hsb=>?_) S.kind);dsimp only at hn hsb ⊢;generalize hg2:s2.heap.push { cls:=.type "list", dict:=none,data:=.seq ([]:List Value).toArray }=G at hn hsb ⊢;have hCv:G.objs.size=s2.heap.objs.size+1:=by rw[<- hg2,Heap.size_push]
 have hDC:G.objs.size≠s2.heap.objs.size:=by rw[hCv]; exact Nat.succ_ne_self _
 have hCle:s2.heap.objs.size<=G.objs.size:=by rw[hCv]; exact Nat.le_succ _
 have old:∀ b o,s2.heap.get? b=some o->h1.get? b=some o:=λb o e=>hsb.extBut b o (Nat.ne_of_lt (Nat.lt_of_lt_of_le (Heap.lt_size e) hCle)) (Heap.get?_push_of_some _ (hg2 ▸ Heap.get?_push_of_some _ e));have hacc:∃ n,h1.get? s2.heap.objs.size=some { cls:=.type "list", data:=.seq ([]:List Value).toArray n }:=⟨_,hsb.extBut _ _ (Ne.symm hDC) (Heap.get?_push_of_some _ (hg2 ▸ Heap.get?_push_size _ rfl))⟩;have hfp:∀ b∈fp,b<s2.heap.objs.size:=λb hb=>by
  obtain⟨o,e,_⟩:=TT.obj _ _ st2 b hb;exact Heap.lt_size e
 have cs:=rY (env:=X.env) scope.names [] S.cells (λ_ _ z=>by cases z);have I0:=zGo (T:=T) (tk:=s2.toks+([]:List (Str×Value)).length) S I2 f2 hfp (Nat.le_refl _) hCle hDC old hacc hn;have st0:tn 0 h1:=TT.keep _ _ _ st2 λb _ o e=>old b o e;obtain⟨W,⟨m0,w0⟩,turn⟩:=q2 ⟨G.objs.size,s2,H2,fp⟩ s2.heap.objs.size (I2.hok.fresh (Nat.le_refl _));have fr0:∀ b∈fp,upd H2 s2.heap.objs.size (.lst []) b=none:=λb hb=>by
  rw[yA (Nat.ne_of_lt (hfp b hb))];exact(f2 b hb).1
 have stat:∀{H':Hp},(∀ b∈fp,H' b=none)->∀ b∈fp,zQd (wS X (T++caps.map (·.1)) scope ⟨G.objs.size,s2,H2,fp⟩) [] H' b:=λ{H'} hn' b hb =>
  ⟨hn' b hb,Nat.ne_of_lt (Nat.lt_of_lt_of_le (hfp b hb) hCle),I0.ok.exfs b hb,.inl hb,λx c e=>(f2 b hb).2.2.2.2.1 x c (cs x c e),λp hp=>absurd (show p∈([]:List (Addr×Obj)) from hp) (by simp)⟩
 have loop:codeAny (model X.prog X.w) X.A (.compLoop (.ListComp elt [⟨target,iter,ifs,0⟩] scope pos) 0 (.ref it) (.ref s2.heap.objs.size) (compEnvC scope (zBp X.env scope.names []) G.objs.size X.env))
   (compPost (model X.prog X.w) X.A X.xe none (EP X pins σ Q) (.ref s2.heap.objs.size) G.objs.size) { s2 with heap:=h1,toks:=s2.toks+([]:List (Str×Value)).length }:=by
  refine codeAny_loop rfl (λn s'=>∃ i σ' ys H',Inv (wS X (T++caps.map (·.1)) scope ⟨G.objs.size,s2,H2,fp⟩) [] σ' H' s'/\tn i s'.heap/\(∀ b∈fp,H' b=none)/\W i n σ' ys H') (λn s3 hI=>?_) m0 ⟨0,_,[],_,I0,st0,fr0,w0⟩;obtain⟨i,σ3,ys,H3,I3,st3,fr3,w3⟩:=hI;show wpAny _ X.A ((compTurn (.ListComp elt [⟨target,iter,ifs,0⟩] scope pos) 0 (.ref it) (.ref s2.heap.objs.size) (compEnvC scope (zBp X.env scope.names []) G.objs.size X.env)).onRaise (λx=>do noteFrame x (compEnvC scope (zBp X.env scope.names []) G.objs.size X.env); theTreesLotGoes x)) _ _ s3;refine wpAny_noted ?_;rw[compTurn_list];refine wpAny_bind (wpAny_standAt (wpAny_bind ?_));obtain⟨hD3,turn3⟩:=turn i n σ3 ys H3 w3;rcases turn3 with ⟨stop,qn⟩ | ⟨go,N,hN,step⟩
  ·refine zKn (TT.done (wS X (T++caps.map (·.1)) scope ⟨G.objs.size,s2,H2,fp⟩) rfl rfl rfl hc i [] s3 σ3 H3 _ I3 (stat fr3) st3 stop) λr s4 ⟨hr,I4⟩=>?_;subst hr;refine wpAny_pure ?_;show ∃ m,s4.heap.Ns G.objs.size m/\∀ h',Heap.SameBut G.objs.size s4.heap h'->EP X pins σ Q (.ref s2.heap.objs.size) { s4 with heap:=h' };obtain⟨m4,hn4,_⟩:=I4.loc;refine⟨m4,hn4,λh' sb=>⟨.ref s2.heap.objs.size,H3,?_,rfl,qn⟩⟩;refine I2.call' (s':={ s4 with heap:=h' }) (ch:=fp) I4.os (Un.same I4.base sb (Heap.get?_none_of_le hCle)) (HOk.same I4.hok sb I4.free) I4.bare λb hb=>?_;obtain⟨_,f1,_,f3,f4,f5⟩:=f2 b hb;exact⟨f3,f1,f4,f5⟩
  ·refine zKn (TT.item (wS X (T++caps.map (·.1)) scope ⟨G.objs.size,s2,H2,fp⟩) rfl rfl rfl hc i [] s3 σ3 H3 _ I3 (stat fr3) st3 go) λr s4 ⟨u,hr,h4⟩=>?_;subst hr;refine wpAny_bind (zKn h4 λ_ s5 ⟨x,H5,I5,r5,y5,st5,fr5⟩=>?_);have I5':=I5.pinned (stat fr5) (TT.obj _ _ st5);refine wpAny_bind (zKn (hg _ _ s5 σ3 H5 x u _ I5' r5 (step x H5 y5)) λ_ s6 ⟨σ6,H6,I6,q6⟩=>?_);have again:∀{s7:Shared}{σ7:St}{zs:List V}{H7:Hp},Inv (wS X (T++caps.map (·.1)) scope ⟨G.objs.size,s2,H2,fp⟩) ([]++zGd fp s5.heap) σ7 H7 s7->N σ7 zs H7 ->
     ∃ m,m<n/\∃ i σ' ys H',Inv (wS X (T++caps.map (·.1)) scope ⟨G.objs.size,s2,H2,fp⟩) [] σ' H' s7/\tn i s7.heap/\(∀ b∈fp,H' b=none)/\W i m σ' ys H':=λ{s7 σ7 zs H7} I7 n7=>by
    obtain⟨m',hm,w7⟩:=hN σ7 zs H7 n7;refine⟨m',hm,i+1,σ7,zs,H7,I7.unpinned,TT.keep _ _ _ st5 λb hb o e=>(I7.pin (b,o) (List.mem_append_right _ (List.mem_append_right _ (tQ hb e)))).1,λb hb=>?_,w7⟩;obtain⟨o,e,d⟩:=TT.obj _ _ st5 b hb;exact(I7.pin (b,o) (List.mem_append_right _ (List.mem_append_right _ (tQ hb e)))).2.1
   refine wpAny_bind (zKn (ht _ _ s6 σ6 H6 _ I6 q6) λok s7 ⟨H7,I7,q7⟩=>?_);cases ok with
   | false=>exact wpAny_pure ⟨rfl,again I7 q7⟩
   | true =>
    refine wpAny_bind (wpAny_bind (zKn (he _ _ s7 σ6 H7 _ I7 q7) λy s8 ⟨yv,H8,I8,r8,hD8,hl8,q8⟩=>?_));refine wpAny_bind (zKn (zEr _ s8 σ6 H8 (.ref s2.heap.objs.size) [yv] (.ref s2.heap.objs.size) [y] (λ_ H9=>N σ6 (ys++[yv]) H9) I8 rfl (.cons r8 .nil) ⟨_,ys,yv,rfl,rfl,hD8,hl8,q8⟩) λ_ s9 ⟨_,H9,I9,_,q9⟩=>?_);exact wpAny_pure (wpAny_pure ⟨rfl,again I9 q9⟩)
 exact codeAny_compStart_list loop (TT.self _ 0 _ _ _ st0 loop)
end
end L2

namespace L2
open PySem PySem.Spec PyProof.Rows

theorem zWa:bootBuiltins "len" = some (.builtin "len"):=by decide +kernel
theorem zWh:bootBuiltins "abs" = some (.builtin "abs"):=by decide +kernel
theorem zEo:bootBuiltins "all" = some (.builtin "all"):=by decide +kernel
theorem zVa:bootBuiltins "max" = some (.builtin "max"):=by decide +kernel
theorem zSp:bootBuiltins "min" = some (.builtin "min"):=by decide +kernel
theorem zHq:bootBuiltins "isinstance" = some (.builtin "isinstance"):=by decide +kernel
theorem zSb:bootBuiltins "int" = some (.type "int"):=by decide +kernel
theorem zPi:bootBuiltins "bool" = some (.type "bool"):=by decide +kernel
theorem zSi:bootBuiltins "str" = some (.type "str"):=by decide +kernel
theorem zKi:bootBuiltins "list" = some (.type "list"):=by decide +kernel
theorem zG2:bootBuiltins "tuple" = some (.type "tuple"):=by decide +kernel
theorem zWw:bootBuiltins "zip" = some (.type "zip"):=by decide +kernel

def Has(P:Program)(w:World)(K:PySem.W.Frag)(mg:Str->Option Value)(base:Heap)(x:Str)(n:Nat)(ps:List Str)(sp:Sp):Prop :=
 ∃(f:Addr)(fd:FuncData),xK P w K mg base CX0 n f fd ps sp/\zG3 K fd ps []/\PySem.W.keepIn K (.ref f)=true/\mg x=some (.ref f)
section
variable{X:Cx}{x:Str}{p pos:Pos}{e:Expr}{es:List Expr}{t:TA}{n:Nat}{ps:List Str}{sp:Sp}
theorem xG(h:Has X.prog X.w X.K X.mg X.base x n ps sp)(hr:zFt n X.A)(hg:Gl X x)(ha:PA X (e::es) t)(hdb:(x ==("__debug__" : Str))=false:=by decide)
  (he:starEach (e::es) X.env=(false,eval e X.env)::starEach es X.env:=by rfl) (hpl:(backTo pos (starEach es X.env)).any (·.1)=false:=by rfl):PE X (.Call (.Name x p) (e::es) [] pos) (zTk sp [] E0 t):=by
 obtain⟨f,fd,F,b,k,m⟩:=h;exact zUb F hr hg m k b .nil pass0 ha hdb he hpl
end

section
variable{X:Cx}
def sC(i j:Int):Prop:=0<j/\j.natAbs<2^4096
theorem zRf:OpR X (binaryOp .FloorDiv) (rI sC λi j=>.int (i/j)):=opI λi j _ _ _ _ _ hc q=>by
 have h1:(0:Int)<j:=hc.1;have h3:j.natAbs.log2<9000:=Nat.lt_trans ((Nat.log2_lt (by lia)).mpr hc.2) (by decide);exact floordiv_int (by lia) (by rw[Int.fdiv_eq_ediv_of_nonneg i (by lia)]; exact q) (.inl (PyProof.noPylong_of_log2 h3))
theorem sC.of{i j:Int}(h:0<j)(h2:j<10^600):sC i j:=by
 exists h;have e:(10:Nat)^600<2^4096:=by decide +kernel
 lia
def zG0(i j:Int):Prop:=i.natAbs<2^4096/\j.natAbs<2^4096
theorem zGs{i:Int}(h:i.natAbs<2^4096):Builtin.Int.intBits i<=2^20:=by
 unfold Builtin.Int.intBits;split
 ·exact Nat.zero_le _
 ·have q:i.natAbs.log2<4096:=by
   rcases Nat.eq_zero_or_pos i.natAbs with h0 | hp
   ·rw[h0]; decide
   ·exact(Nat.log2_lt (Nat.ne_of_gt hp)).mpr h
  have e:(2:Nat)^20=1048576:=by decide
  lia
theorem vT:OpR X (binaryOp .Mult) (rI zG0 λi j=>.int (i*j)):=opI λ_ _ _ _ _ _ _ hc q=>mul_int q (IntMulOk.of_bits (zGs hc.1) (zGs hc.2))

theorem zKm:qK X (.builtin "isinstance") (λxs H Q=>∃ x T t b,xs=[x,.ty T]/\TyOf X.K H x t/\PySem.W.kitOne X.K t (.type T)=some b/\Q (.bl b) H):=by
 intro pins s σ H xs us Q I r h;obtain⟨x,T,t,b,rfl,ty,e,q⟩:=h;obtain⟨u,v,rfl,ru,rv⟩:=yW.two r;cases rv;exact zQa I ru ty e λtk=>⟨.bl b,H,I.tok tk,rfl,q⟩

def Sq(K:PySem.W.Frag)(H:Hp)(p:Addr)(xs:List V):Prop:=SqL K H p xs\/SqT K H p xs
inductive RIx(K:PySem.W.Frag)(x y:V)(H:Hp)(Q:VK):Prop where
 | mk (p:Addr) (xs:List V) (i:Int) (v:V) (ex:x=.ref p) (ey:y=.int i) (sq:Sq K H p xs) (at':atI xs i=some v) (q:Q v H)
def rIxA(K:PySem.W.Frag):R2:=λx y H Q=>RIx K x y H Q
theorem zBz:IxR X (rIxA X.K):=by
 intro value slice pins s σ H x y v u Q I rx ry q hs;obtain⟨p,xs,i,z,e1,e2,hq,ha,q⟩:=q;rcases hq with hq | hq
 ·exact zTx value slice pins s σ H x y v u Q I rx ry ⟨p,xs,i,z,e1,e2,hq,ha,q⟩ hs
 ·exact zWc value slice pins s σ H x y v u Q I rx ry ⟨p,xs,i,z,e1,e2,hq,ha,q⟩ hs
def iSeq(K:PySem.W.Frag)(tl:TE):TI:=λσ H R=>tl σ H λx H1=>∃ a,x=.ref a/\(((∃ xs,SqL K H1 a xs)/\R (Itl K a) H1)\/((∃ xs,SqT K H1 a xs)/\R (Itt K a) H1))
theorem xC{tg l:Expr}{tl:TE}(hl:PE X l tl):PI X tg l (iSeq X.K tl):=by
 intro pins s σ H R I h;refine thn (hl pins s σ H _ I h) λv s1 ⟨x,H1,I1,r1,q1⟩=>?_;obtain⟨a,e,q⟩:=q1;subst e;cases r1;have own:∀ b,b∈[s1.heap.objs.size]->zQd X pins H1 b:=λb hb=>by
  rw[List.mem_singleton] at hb;subst hb;exact I1.fpOk (Nat.le_refl _) (I1.hok.fresh (Nat.le_refl _))
 rcases q with ⟨⟨xs,hq⟩,q⟩ | ⟨⟨xs,hq⟩,q⟩
 ·obtain⟨its,rv,p,hz⟩:=I1.list hq;exact wpAny_pyIter_list p.isList ⟨s1.heap.objs.size,[s1.heap.objs.size],_,_,H1,rfl,I1.kept (t':=s1.toks) λb o e=>Heap.get?_push_of_some _ e,zIz a _,⟨_,Heap.get?_push_size _ rfl,rfl,rfl⟩,own,q⟩
 ·obtain⟨its,rv,p,hz⟩:=I1.tuple hq;exact wpAny_pyIter_tuple (show s1.heap.IsTuple a its.toArray from p) ⟨s1.heap.objs.size,[s1.heap.objs.size],_,_,H1,rfl,I1.kept (t':=s1.toks) λb o e=>Heap.get?_push_of_some _ e,zL0 a _,⟨_,Heap.get?_push_size _ rfl,rfl,rfl⟩,own,q⟩
end

section
variable{K:PySem.W.Frag}{a D:Addr}{xs:List V}{g:TG}{tt:TT}{te:TE}{σ0:St}{H1:Hp}{Q:VK}
theorem zFm(Pv:Nat->St->List V->Hp->Prop)(h0:Pv 0 σ0 [] (upd H1 D (.lst [])))(hl:∀ i σ ys H,i<=xs.length->Pv i σ ys H->SqL K H a xs/\H D=some (.lst ys))
  (hs:∀ i x σ ys H,xs[i]?=some x->Pv i σ ys H->g x σ H λσ2 H2=>tt σ2 H2 λb H3 =>
   if b=true then te σ2 H3 λy H4=>H4 D=some (.lst ys)/\ys.length<sizeLine/\Pv (i+1) σ2 (ys++[y]) (upd H4 D (.lst (ys++[y]))) else Pv (i+1) σ2 ys H3)
  (hd:∀ σ ys H,Pv xs.length σ ys H->Q (.ref D) H):zEc (Itl K a) D g tt te σ0 H1 Q:=by
 exists λi m σ ys H=>m=xs.length-i/\i<=xs.length/\Pv i σ ys H,⟨xs.length,by simp,Nat.zero_le _,h0⟩;rintro i m σ ys H ⟨rfl,hi,p⟩;obtain⟨q,qd⟩:=hl i σ ys H hi p;exists qd;by_cases hlt:i<xs.length
 ·refine .inr ⟨⟨xs,xs[i],q,by simp[hlt]⟩,Pv (i+1),λσ' zs H' z=>⟨xs.length-(i+1),by lia,rfl,hlt,z⟩,λx H' y=>?_⟩;obtain⟨e,y⟩:=y;subst e;exact hs i x σ ys _ (y xs q) p
 ·have e:i=xs.length:=by lia
  subst e;exact .inl ⟨⟨xs,q,Nat.le_refl _⟩,hd σ ys H p⟩
theorem zRj(Pv:Nat->St->List V->Hp->Prop)(h0:Pv 0 σ0 [] (upd H1 D (.lst [])))(hl:∀ i σ ys H,i<=xs.length->Pv i σ ys H->SqT K H a xs/\H D=some (.lst ys))
  (hs:∀ i x σ ys H,xs[i]?=some x->Pv i σ ys H->g x σ H λσ2 H2=>tt σ2 H2 λb H3 =>
   if b=true then te σ2 H3 λy H4=>H4 D=some (.lst ys)/\ys.length<sizeLine/\Pv (i+1) σ2 (ys++[y]) (upd H4 D (.lst (ys++[y]))) else Pv (i+1) σ2 ys H3)
  (hd:∀ σ ys H,Pv xs.length σ ys H->Q (.ref D) H):zEc (Itt K a) D g tt te σ0 H1 Q:=by
 exists λi m σ ys H=>m=xs.length-i/\i<=xs.length/\Pv i σ ys H,⟨xs.length,by simp,Nat.zero_le _,h0⟩;rintro i m σ ys H ⟨rfl,hi,p⟩;obtain⟨q,qd⟩:=hl i σ ys H hi p;exists qd;by_cases hlt:i<xs.length
 ·refine .inr ⟨⟨xs,xs[i],q,by simp[hlt]⟩,Pv (i+1),λσ' zs H' z=>⟨xs.length-(i+1),by lia,rfl,hlt,z⟩,λx H' y=>?_⟩;obtain⟨e,y⟩:=y;subst e;exact hs i x σ ys _ (y xs q) p
 ·have e:i=xs.length:=by lia
  subst e;exact .inl ⟨⟨xs,q,Nat.le_refl _⟩,hd σ ys H p⟩
theorem zLq{lo:Int}{n:Nat}(Pv:Nat->St->List V->Hp->Prop)(h0:Pv 0 σ0 [] (upd H1 D (.lst [])))(hl:∀ i σ ys H,i<=n->Pv i σ ys H->H D=some (.lst ys))
  (hs:∀ i σ ys H,i<n->Pv i σ ys H->g (.int (lo+i)) σ H λσ2 H2=>tt σ2 H2 λb H3 =>
   if b=true then te σ2 H3 λy H4=>H4 D=some (.lst ys)/\ys.length<sizeLine/\Pv (i+1) σ2 (ys++[y]) (upd H4 D (.lst (ys++[y]))) else Pv (i+1) σ2 ys H3)
  (hd:∀ σ ys H,Pv n σ ys H->Q (.ref D) H):zEc (Itr lo n) D g tt te σ0 H1 Q:=by
 exists λi m σ ys H=>m=n-i/\i<=n/\Pv i σ ys H,⟨n,by simp,Nat.zero_le _,h0⟩;rintro i m σ ys H ⟨rfl,hi,p⟩;have qd:=hl i σ ys H hi p;exists qd;by_cases hlt:i<n
 ·refine .inr ⟨hlt,Pv (i+1),λσ' zs H' z=>⟨n-(i+1),by lia,rfl,hlt,z⟩,λx H' y=>?_⟩;obtain⟨e,y⟩:=y;subst e y;exact hs i σ ys _ hlt p
 ·have e:i=n:=by lia
  subst e;exact .inl ⟨Nat.le_refl _,hd σ ys H p⟩
end
section
variable{K:PySem.W.Frag}{a D:Addr}{xs:List V}{g:TG}{te:TE}{σ0:St}{H1:Hp}{Q:VK}
theorem yM(Pv:Nat->St->List V->Hp->Prop)(h0:Pv 0 σ0 [] (upd H1 D (.lst [])))(hl:∀ i σ ys H,i<=xs.length->Pv i σ ys H->SqL K H a xs/\H D=some (.lst ys))
  (hs:∀ i x σ ys H,xs[i]?=some x->Pv i σ ys H->g x σ H λσ2 H2=>te σ2 H2 λy H4=>H4 D=some (.lst ys)/\ys.length<sizeLine/\Pv (i+1) σ2 (ys++[y]) (upd H4 D (.lst (ys++[y]))))
  (hd:∀ σ ys H,Pv xs.length σ ys H->Q (.ref D) H):zEc (Itl K a) D g zUr te σ0 H1 Q:=zFm Pv h0 hl (λi x σ ys H e p=>hs i x σ ys H e p) hd
theorem zCi(Pv:Nat->St->List V->Hp->Prop)(h0:Pv 0 σ0 [] (upd H1 D (.lst [])))(hl:∀ i σ ys H,i<=xs.length->Pv i σ ys H->SqT K H a xs/\H D=some (.lst ys))
  (hs:∀ i x σ ys H,xs[i]?=some x->Pv i σ ys H->g x σ H λσ2 H2=>te σ2 H2 λy H4=>H4 D=some (.lst ys)/\ys.length<sizeLine/\Pv (i+1) σ2 (ys++[y]) (upd H4 D (.lst (ys++[y]))))
  (hd:∀ σ ys H,Pv xs.length σ ys H->Q (.ref D) H):zEc (Itt K a) D g zUr te σ0 H1 Q:=zRj Pv h0 hl (λi x σ ys H e p=>hs i x σ ys H e p) hd
theorem tY{lo:Int}{n:Nat}(Pv:Nat->St->List V->Hp->Prop)(h0:Pv 0 σ0 [] (upd H1 D (.lst [])))(hl:∀ i σ ys H,i<=n->Pv i σ ys H->H D=some (.lst ys))
  (hs:∀ i σ ys H,i<n->Pv i σ ys H->g (.int (lo+i)) σ H λσ2 H2=>te σ2 H2 λy H4=>H4 D=some (.lst ys)/\ys.length<sizeLine/\Pv (i+1) σ2 (ys++[y]) (upd H4 D (.lst (ys++[y]))))
  (hd:∀ σ ys H,Pv n σ ys H->Q (.ref D) H):zEc (Itr lo n) D g zUr te σ0 H1 Q:=zLq Pv h0 hl (λi σ ys H e p=>hs i σ ys H e p) hd
end
end L2

namespace L2
open PySem PySem.Spec PyProof.Rows
theorem zNb:∀ bs:List Bool,(List.range bs.length).all (λi=>(bs[i]?).getD true)=bs.all id:=by
 intro bs;rw[Bool.eq_iff_iff,List.all_eq_true,List.all_eq_true];constructor
 ·intro h b hb;obtain⟨i,hi,e⟩:=List.getElem_of_mem hb;have q:=h i (List.mem_range.mpr hi);rw[List.getElem?_eq_getElem hi,e] at q;exact q
 ·intro h i hi;have hi':=List.mem_range.mp hi;rw[List.getElem?_eq_getElem hi'];exact h _ (List.getElem_mem hi')
theorem zRy{bs:List Bool}{its:List Value}(r:yW (bs.map V.bl) its){i:Nat}{v:Value}(h:its[i]?=some v):v=.bool ((bs[i]?).getD true):=by
 have hl:=r.length;rw[List.length_map] at hl;have hi:i<its.length:=(List.getElem?_eq_some_iff.mp h).1;have hb:i<bs.length:=by lia
 obtain⟨u,hu,ru⟩:=r.get (i:=i) (x:=.bl bs[i]) (by rw[List.getElem?_map,List.getElem?_eq_getElem hb]; rfl);rw[hu] at h;cases h;rw[List.getElem?_eq_getElem hb];exact ru
section
variable{X:Cx}
theorem tT(hc:X.calm=true):qK X (.builtin "all") (λxs H Q=>∃(p:Addr)(bs:List Bool),xs=[.ref p]/\SqL X.K H p (bs.map V.bl)/\Q (.bl (bs.all id)) H):=by
 intro pins s σ H xs us Q I r h;obtain⟨p,bs,rfl,hq,q⟩:=h;obtain⟨u,rfl,ru⟩:=yW.one r;cases ru;obtain⟨its,rv,pl,hz⟩:=I.list hq;have plt:p<s.heap.objs.size:=by
  obtain⟨_,e,_⟩:=pl.isList;exact Heap.lt_size e
 refine call_all_walk (wpAny_pyIter_list pl.isList ?_);refine⟨s.heap.objs.size,_,_,_,_,_,λi=>(bs[i]?).getD true,rfl,Walks.list (A:=X.A.in1) (show X.A.in1.handled=none from I.ok.hd hc) _ p (Nat.ne_of_lt plt) its.toArray,⟨⟨_,Heap.get?_push_size _ rfl,rfl,rfl⟩,Heap.IsList.push pl.isList _⟩,λi v s Q E hP hQ=>?_,λh' tk k=>?_⟩
 ·have e:=zRy rv (by simpa using hP);subst e;exact wpAny_truthy_bool hQ
 ·have e:(List.range its.toArray.size).all (λi=>(bs[i]?).getD true)=bs.all id:=by
   have hl:=rv.length;rw[List.length_map] at hl;rw[List.size_toArray,<- hl];exact zNb bs
  rw[e];exact⟨.bl (bs.all id),H,I.kept (t':=tk) λb o z=>k b o (λw=>by rw[List.mem_singleton] at w; exact Nat.lt_irrefl _ (w ▸ Heap.lt_size z)) (Heap.get?_push_of_some _ z),rfl,q⟩
end
end L2

namespace L2
open PySem PySem.Spec PyProof.Rows

def SI(b:Bool)(h:Heap)(i l:Addr)(k:Nat):Prop:=match b with | true=>h.IsListIter i l k | false=>h.IsTupleIter i l k
def SS(b:Bool)(h:Heap)(l:Addr)(its:Array Value):Prop:=match b with | true=>h.IsList l its | false=>h.IsTuple l its
def zIq(b:Bool):String:=match b with | true => "list_iterator" | false => "tuple_iterator"
theorem SI.obj{b:Bool}{h:Heap}{i l:Addr}{k:Nat}(x:SI b h i l k):∃ o,h.get? i=some o/\o.cls=.type (zIq b)/\o.data=.fields #[.ref l,.int k 0]:=by
 cases b <;> exact x
theorem SI.of{b:Bool}{h:Heap}{i l:Addr}{k:Nat}(x:∃ o,h.get? i=some o/\o.cls=.type (zIq b)/\o.data=.fields #[.ref l,.int k 0]):SI b h i l k:=by
 cases b <;> exact x
theorem SI.at{b:Bool}{h h':Heap}{i l:Addr}{k:Nat}(x:SI b h i l k)(e:∀ o,h.get? i=some o->h'.get? i=some o):SI b h' i l k:=by
 obtain⟨o,ho,r⟩:=x.obj;exact SI.of ⟨o,e o ho,r⟩
theorem SS.at{b:Bool}{h h':Heap}{l:Addr}{its:Array Value}(x:SS b h l its)(e:∀ o,h.get? l=some o->h'.get? l=some o):SS b h' l its:=by
 cases b <;>(obtain⟨o,ho,r⟩:=x; exact⟨o,e o ho,r⟩)
theorem SS.obj{b:Bool}{h:Heap}{l:Addr}{its:Array Value}(x:SS b h l its):∃ o,h.get? l=some o/\o.cls=.type (match b with | true => "list" | false => "tuple"):=by
 cases b <;>(obtain⟨o,ho,hc,_⟩:=x; exact⟨o,ho,hc⟩)
section
variable{prog:Program}{w:World}{A:Around}{E:Value->Shared->Prop}{s:Shared}
theorem zRb{i l:Addr}{k:Nat}{its:Array Value}{y:Value}{Q:Value->Shared->Prop}(zi:s.heap.IsTupleIter i l k)(zl:s.heap.IsTuple l its)(zy:its[k]?=some y)
  (zq:∀ h',h'.IsTupleIter i l (k+1)->Heap.SameBut i s.heap h'->Q y { s with heap:=h' }):wpAny (model prog w) A (Builtin.SmallTypes.nextOf (.ref i)) Q E s:=by
 obtain⟨ob,zo,zc,zd⟩:=id zi;obtain⟨ot,zot,_,nt,zdt⟩:=zl;unfold Builtin.SmallTypes.nextOf;refine wpAny_bind (wpAny_callSpecial?_slot (name:=Str.ofString "__next__") zi.typeIs F.slot_tuple_iterator_next (wpAny_call_entry F.slot_tuple_iterator_next zi.typeIs F.entry_tuple_iterator_next ?_ (F.args_tuple_iterator_next_1 _)));show wpAny _ _ (field (.ref i) 0 >>= _) _ _ s;refine wpAny_bind (wpAny_field zo zd (x:=.ref l) rfl ?_);show wpAny _ _ (if (Value.ref l == Value.none)=true then _ else _) _ _ s; rw[if_neg (show ¬ ((Value.ref l == Value.none)=true) from Bool.false_ne_true)];show wpAny _ _ (field (.ref i) 1 >>= _) _ _ s;refine wpAny_bind (wpAny_field zo zd (x:=.int k 0) rfl ?_);show wpAny _ _ (seqItems? (.ref l) >>= _) _ _ s; refine wpAny_bind (wpAny_seqItems zot zdt ?_);simp only[Int.toNat_natCast,zy];refine wpAny_bind (wpAny_setField zo zd (by simp) (wpAny_pure ⟨y,rfl,wpAny_pure (zq _ ?_ (Heap.SameBut.update ..))⟩));exact⟨_,Heap.get?_update_self _ zo (Obj.isFreed_of_fields (Obj.data_mapFields zd _)),(Obj.cls_mapFields ..).trans zc,by rw[Obj.data_mapFields zd]; simp[rawInt]⟩
theorem zT1{i l:Addr}{k:Nat}{its:Array Value}{Q:Value->Shared->Prop}(hh:A.handled=none)(zi:s.heap.IsTupleIter i l k)(zl:s.heap.IsTuple l its)(zy:its[k]?=none)
  (zE:∀ h' e,Heap.ExtBut i s.heap h'->(∃ o,h'.get? e=some o/\o.cls=.type "StopIteration")->E (.ref e) { s with heap:=h' }):wpAny (model prog w) A (Builtin.SmallTypes.nextOf (.ref i)) Q E s:=by
 obtain⟨ob,zo,zc,zd⟩:=id zi;obtain⟨ot,zot,_,nt,zdt⟩:=zl;unfold Builtin.SmallTypes.nextOf;refine wpAny_bind (wpAny_callSpecial?_slot (name:=Str.ofString "__next__") zi.typeIs F.slot_tuple_iterator_next (wpAny_call_entry F.slot_tuple_iterator_next zi.typeIs F.entry_tuple_iterator_next ?_ (F.args_tuple_iterator_next_1 _)));show wpAny _ _ (field (.ref i) 0 >>= _) _ _ s;refine wpAny_bind (wpAny_field zo zd (x:=.ref l) rfl ?_);show wpAny _ _ (if (Value.ref l == Value.none)=true then _ else _) _ _ s; rw[if_neg (show ¬ ((Value.ref l == Value.none)=true) from Bool.false_ne_true)];show wpAny _ _ (field (.ref i) 1 >>= _) _ _ s;refine wpAny_bind (wpAny_field zo zd (x:=.int k 0) rfl ?_);show wpAny _ _ (seqItems? (.ref l) >>= _) _ _ s; refine wpAny_bind (wpAny_seqItems zot zdt ?_);simp only[Int.toNat_natCast,zy];refine wpAny_bind (wpAny_rule (wpAny_bind (wpAny_setField zo zd (by simp) ?_)));show wpAny _ _ (newExc (.type "StopIteration") [] >>= _) _ _ _; refine wpAny_bind ?_; simp only[newExc,newTuple];refine wpAny_bind (wpAny_newObj_type ?_ (by size_fits)); refine wpAny_bind (m:=firstArgMember _ _) (wpAny_of_eq (a:=Value.none) (by first | rfl | (simp only[firstArgMember]; rfl)) ?_);refine wpAny_newObj_type ?_ (by size_fits); simp only[raiseNew]; refine wpAny_bind (wpAny_handled ?_)
 first | rw[show A.in1.handled=none from hh] | rw[hh]
 refine wpAny_bind (wpAny_pure (wpAny_throw ?_)); exact zE _ _ (((Heap.SameBut.update ..).extBut.push _).push _) ⟨_,Heap.get?_push_size _ rfl,rfl⟩
theorem zJj{b:Bool}{i l:Addr}{k:Nat}{its:Array Value}{y:Value}{Q:Value->Shared->Prop}(zi:SI b s.heap i l k)(zl:SS b s.heap l its)(zy:its[k]?=some y)
  (zq:∀ h',SI b h' i l (k+1)->Heap.SameBut i s.heap h'->Q y { s with heap:=h' }):wpAny (model prog w) A (Builtin.SmallTypes.nextOf (.ref i)) Q E s:=by
 cases b
 ·exact zRb zi zl zy zq
 ·exact wpAny_nextOf_list_item zi zl zy zq
theorem zSn{b:Bool}{i l:Addr}{k:Nat}{its:Array Value}{Q:Value->Shared->Prop}(hh:A.handled=none)(zi:SI b s.heap i l k)(zl:SS b s.heap l its)(zy:its[k]?=none)
  (zE:∀ h' e,Heap.ExtBut i s.heap h'->(∃ o,h'.get? e=some o/\o.cls=.type "StopIteration")->E (.ref e) { s with heap:=h' }):wpAny (model prog w) A (Builtin.SmallTypes.nextOf (.ref i)) Q E s:=by
 cases b
 ·exact zT1 hh zi zl zy zE
 ·exact wpAny_nextOf_list_end hh zi zl zy zE
theorem zSk{b:Bool}{l:Addr}{its:Array Value}{Q:Value->Shared->Prop}(zl:SS b s.heap l its)(h:Q (.ref s.heap.objs.size) { s with heap:=s.heap.push { cls:=.type (zIq b),data:=.fields #[.ref l,.int 0 0] } }) :
  wpAny (model prog w) A (pyIter (.ref l)) Q E s:=by
 cases b
 ·exact wpAny_pyIter_tuple zl h
 ·exact wpAny_pyIter_list zl h

theorem zOs{b1 b2:Bool}{z TI TO i1 i2 l1 l2:Addr}{k:Nat}{xs ys:Array Value}{x y a b:Value}{Q:Value->Shared->Prop}(D:ZipApart z TI TO i1 i2 l1 l2)
  (hz:IsZip s.heap z TI TO .none) (hI:IsPair s.heap TI (.ref i1) (.ref i2)) (hO:IsPair s.heap TO a b) (h1:SI b1 s.heap i1 l1 k) (h2:SI b2 s.heap i2 l2 k) (g1:SS b1 s.heap l1 xs) (g2:SS b2 s.heap l2 ys)
  (hx:xs[k]?=some x) (hy:ys[k]?=some y)
  (hQ:∀ h',IsZip h' z TI TO (rawInt s.heap.objs.size)->IsPair h' TO x y->SI b1 h' i1 l1 (k+1)->SI b2 h' i2 l2 (k+1)->IsPair h' s.heap.objs.size x y ->
   (∀ c o,c≠z->c≠TO->c≠i1->c≠i2->s.heap.get? c=some o->h'.get? c=some o)->Q (.ref s.heap.objs.size) { s with heap:=h' }) :
  wpAny (model prog w) A (Builtin.«zip.__next__» ⟨[.ref z],[]⟩) (λfin s'=>∃ v,fin=.done (.ret v)/\Q v s') E s:=by
 show wpAny _ _ (field (.ref z) 2 >>= _) _ _ _; refine wpAny_bind (wpAny_field hz rfl (x:=.bool false) rfl ?_);show wpAny _ _ (field (.ref z) 3 >>= _) _ _ _; refine wpAny_bind (wpAny_field hz rfl (x:=.ref TI) rfl ?_);refine wpAny_bind (wpAny_seqItems hI rfl ?_);show wpAny _ _ (Builtin.SmallTypes.ownedTupleIsFree (.ref z) >>= _) _ _ _; refine wpAny_bind ?_; unfold Builtin.SmallTypes.ownedTupleIsFree;refine wpAny_bind (wpAny_field hz rfl (x:=.none) rfl (wpAny_pure ?_)); simp only[if_true];refine wpAny_bind (wpAny_rule ?_); refine wpAny_bind (wpAny_field hz rfl (x:=.ref TO) rfl ?_);refine wpAny_bind (wpAny_setField_rec hz (by simp) λk1 z1 s1=>?_); replace z1:IsZip k1 z TI TO .ellipsis:=z1;refine wpAny_bind ?_; simp only[List.zipIdx_cons,List.zipIdx_nil,List.forIn_cons,List.forIn_nil];refine wpAny_bind (wpAny_bind (wpAny_onRaise ?_)); show wpAny _ _ (Builtin.SmallTypes.nextOf (.ref i1) >>= _) _ _ _
 refine wpAny_bind (zJj (h1.at λo e=>s1.extBut _ o D.i1z e) (g1.at λo e=>s1.extBut _ o D.l1z e) hx λk2 q2 s2=>wpAny_pure ?_);have o2:IsPair k2 TO a b:=s2.extBut _ _ D.TOi1 (s1.extBut _ _ D.TOz hO);refine wpAny_bind (wpAny_seqItems o2 rfl ?_);refine wpAny_bind (wpAny_updateSeq_pair o2 λk3 o3 s3=>?_); replace o3:IsPair k3 TO x b:=o3;refine wpAny_bind (wpAny_letGo (wpAny_pure ?_)); refine wpAny_bind (wpAny_bind (wpAny_onRaise ?_)); show wpAny _ _ (Builtin.SmallTypes.nextOf (.ref i2) >>= _) _ _ _
 refine wpAny_bind (zJj (h2.at λo e=>s3.extBut _ o D.TOi2.symm (s2.extBut _ o D.i12.symm (s1.extBut _ o D.i2z e))) (g2.at λo e=>s3.extBut _ o D.l2TO (s2.extBut _ o D.l2i1 (s1.extBut _ o D.l2z e))) hy λk4 q4 s4=>wpAny_pure ?_);have o4:IsPair k4 TO x b:=s4.extBut _ _ D.TOi2 o3;refine wpAny_bind (wpAny_seqItems o4 rfl ?_);refine wpAny_bind (wpAny_updateSeq_pair o4 λk5 o5 s5=>?_); replace o5:IsPair k5 TO x y:=o5;refine wpAny_bind (wpAny_letGo (wpAny_pure (wpAny_pure ?_)));refine wpAny_bind (wpAny_seqItems o5 rfl ?_); refine wpAny_bind (wpAny_newTuple ?_);have hsz:k5.objs.size=s.heap.objs.size:=by rw[s5.1,s4.1,s3.1,s2.1,s1.1]
 have z5:IsZip k5 z TI TO .ellipsis:=s5.extBut _ _ D.TOz.symm (s4.extBut _ _ D.i2z.symm (s3.extBut _ _ D.TOz.symm (s2.extBut _ _ D.i1z.symm z1)));have kp:∀ c o,c≠z->c≠TO->c≠i1->c≠i2->s.heap.get? c=some o->k5.get? c=some o:=λc o c1 c2 c3 c4 e=>s5.extBut _ _ c2 (s4.extBut _ _ c4 (s3.extBut _ _ c2 (s2.extBut _ _ c3 (s1.extBut _ _ c1 e))));have a5:SI b1 k5 i1 l1 (k+1):=q2.at λo e=>s5.extBut _ o D.TOi1.symm (s4.extBut _ o D.i12 (s3.extBut _ o D.TOi1.symm e));have b5:SI b2 k5 i2 l2 (k+1):=q4.at λo e=>s5.extBut _ o D.TOi2.symm e;have zlt:z<k5.objs.size:=Heap.lt_size z5;show wpAny _ _ (Builtin.SmallTypes.ownedTupleHandOut (.ref z) (.ref k5.objs.size) >>= _) _ _ _; refine wpAny_bind ?_; unfold Builtin.SmallTypes.ownedTupleHandOut;have z6:IsZip (k5.push { cls:=.type "tuple", data:=.seq #[x,y] }) z TI TO .ellipsis:=Heap.get?_push_of_some _ z5;refine wpAny_bind (wpAny_setField_rec z6 (by simp) λk7 z7 s7=>?_); replace z7:IsZip k7 z TI TO (rawInt k5.objs.size):=z7;refine wpAny_setField_rec z7 (by simp) λk8 z8 s8=>?_; replace z8:IsZip k8 z TI TO (rawInt k5.objs.size):=z8;have up:∀ c o,c≠z->k5.get? c=some o->k8.get? c=some o:=λc o c1 e=>s8.extBut _ _ c1 (s7.extBut _ _ c1 (Heap.get?_push_of_some _ e));have t8:IsPair k8 k5.objs.size x y:=s8.extBut _ _ (Nat.ne_of_gt zlt) (s7.extBut _ _ (Nat.ne_of_gt zlt) (Heap.get?_push_size _ rfl));rw[hsz] at z8 t8;refine wpAny_pure ⟨_,rfl,?_⟩; show Q (.ref k5.objs.size) _
 rw[hsz];exact hQ k8 z8 (up _ _ D.TOz o5) (a5.at λo e=>up _ o D.i1z e) (b5.at λo e=>up _ o D.i2z e) t8 λc o c1 c2 c3 c4 e=>up c o c1 (kp c o c1 c2 c3 c4 e)
theorem zR1{b1 b2:Bool}{z TI TO i1 i2 l1 l2:Addr}{k:Nat}{xs ys:Array Value}{a b:Value}{Q:Fin->Shared->Prop}(hh:A.handled=none)(D:ZipApart z TI TO i1 i2 l1 l2)
  (hz:IsZip s.heap z TI TO .none) (hI:IsPair s.heap TI (.ref i1) (.ref i2)) (hO:IsPair s.heap TO a b) (h1:SI b1 s.heap i1 l1 k) (h2:SI b2 s.heap i2 l2 k) (g1:SS b1 s.heap l1 xs) (g2:SS b2 s.heap l2 ys)
  (hend:xs[k]?=none\/ys[k]?=none)
  (hE:∀ h' e,(∀ c o,c≠z->c≠TO->c≠i1->c≠i2->s.heap.get? c=some o->h'.get? c=some o)->(∃ o,h'.get? e=some o/\o.cls=.type "StopIteration")->E (.ref e) { s with heap:=h' }) :
  wpAny (model prog w) A (Builtin.«zip.__next__» ⟨[.ref z],[]⟩) Q E s:=by
 show wpAny _ _ (field (.ref z) 2 >>= _) _ _ _; refine wpAny_bind (wpAny_field hz rfl (x:=.bool false) rfl ?_);show wpAny _ _ (field (.ref z) 3 >>= _) _ _ _; refine wpAny_bind (wpAny_field hz rfl (x:=.ref TI) rfl ?_);refine wpAny_bind (wpAny_seqItems hI rfl ?_);show wpAny _ _ (Builtin.SmallTypes.ownedTupleIsFree (.ref z) >>= _) _ _ _; refine wpAny_bind ?_; unfold Builtin.SmallTypes.ownedTupleIsFree;refine wpAny_bind (wpAny_field hz rfl (x:=.none) rfl (wpAny_pure ?_)); simp only[if_true];refine wpAny_bind (wpAny_rule ?_); refine wpAny_bind (wpAny_field hz rfl (x:=.ref TO) rfl ?_);refine wpAny_bind (wpAny_setField_rec hz (by simp) λk1 z1 s1=>?_); replace z1:IsZip k1 z TI TO .ellipsis:=z1;refine wpAny_bind ?_; simp only[List.zipIdx_cons,List.zipIdx_nil,List.forIn_cons,List.forIn_nil];refine wpAny_bind (wpAny_bind (wpAny_onRaise ?_)); show wpAny _ _ (Builtin.SmallTypes.nextOf (.ref i1) >>= _) _ _ _
 cases hx:xs[k]? with
 | none =>
  refine wpAny_bind (zSn hh (h1.at λo e=>s1.extBut _ o D.i1z e) (g1.at λo e=>s1.extBut _ o D.l1z e) hx λk2 e s2 he=>?_);obtain⟨oe,hoe,hce⟩:=he;have z2:IsZip k2 z TI TO .ellipsis:=s2 _ _ D.i1z.symm z1;have nez:e≠z:=λx=>by subst x; rw[z2] at hoe; cases hoe; simp at hce
  refine wpAny_setField_rec z2 (by simp) λk3 _ s3=>hE k3 e (λc o c1 _ c3 _ x=>s3.extBut _ _ c1 (s2 _ _ c3 (s1.extBut _ _ c1 x))) ⟨oe,s3.extBut _ _ nez hoe,hce⟩
 | some x =>
  have hy:ys[k]?=none:=by
   rcases hend with h | h
   ·rw[hx] at h; cases h
   ·exact h
  refine wpAny_bind (zJj (h1.at λo e=>s1.extBut _ o D.i1z e) (g1.at λo e=>s1.extBut _ o D.l1z e) hx λk2 q2 s2=>wpAny_pure ?_);have o2:IsPair k2 TO a b:=s2.extBut _ _ D.TOi1 (s1.extBut _ _ D.TOz hO);refine wpAny_bind (wpAny_seqItems o2 rfl ?_); refine wpAny_bind (wpAny_updateSeq_pair o2 λk3 o3 s3=>?_);refine wpAny_bind (wpAny_letGo (wpAny_pure ?_)); refine wpAny_bind (wpAny_bind (wpAny_onRaise ?_)); show wpAny _ _ (Builtin.SmallTypes.nextOf (.ref i2) >>= _) _ _ _
  refine wpAny_bind (zSn hh (h2.at λo e=>s3.extBut _ o D.TOi2.symm (s2.extBut _ o D.i12.symm (s1.extBut _ o D.i2z e))) (g2.at λo e=>s3.extBut _ o D.l2TO (s2.extBut _ o D.l2i1 (s1.extBut _ o D.l2z e))) hy λk4 e s4 he=>?_);obtain⟨oe,hoe,hce⟩:=he;have z4:IsZip k4 z TI TO .ellipsis:=s4 _ _ D.i2z.symm (s3.extBut _ _ D.TOz.symm (s2.extBut _ _ D.i1z.symm z1));have nez:e≠z:=λx=>by subst x; rw[z4] at hoe; cases hoe; simp at hce
  refine wpAny_setField_rec z4 (by simp) λk5 _ s5=>hE k5 e (λc o c1 c2 c3 c4 x=>s5.extBut _ _ c1 (s4 _ _ c4 (s3.extBut _ _ c2 (s2.extBut _ _ c3 (s1.extBut _ _ c1 x))))) ⟨oe,s5.extBut _ _ nez hoe,hce⟩
def zUd(b1 b2:Bool)(l1 l2:Addr)(h:Heap):Heap :=
 ((((h.push { cls:=.type (zIq b1),data:=.fields #[.ref l1,.int 0 0] }).push { cls:=.type (zIq b2),data:=.fields #[.ref l2,.int 0 0] }).push { cls:=.type "tuple", data:=.seq #[.ref h.objs.size,.ref (h.objs.size+1)] }).push { cls:=.type "tuple", data:=.seq #[.none,.none] }).push { cls:=.type "zip", data:=.fields #[.none,.bool false,.bool false,.ref (h.objs.size+2),.ref (h.objs.size+3)] }
theorem zQm(b1 b2:Bool)(l1 l2:Addr)(xs ys:Array Value) :
  Meets (Builtin.«zip.__new__» ⟨[.type "zip", .ref l1,.ref l2],[]⟩) (λ_ R s=>SS b1 s.heap l1 xs/\SS b2 s.heap l2 ys /\
   R (.ok (.ret (.ref (s.heap.objs.size+4)))) { s with heap:=zUd b1 b2 l1 l2 s.heap }) :=
 .of_wp λprog w A R s h=>by
  obtain⟨hp,g,d,tk,os⟩:=s;obtain⟨hl1,hl2,h⟩:=h;have hsub:=sub_zip;have hL1:SS b1 (Shared.heap ⟨hp,g,d,tk,os⟩) l1 xs:=hl1;have hL2:SS b2 (Shared.heap ⟨hp.push { cls:=.type (zIq b1),data:=.fields #[.ref l1,.int 0 0] },g,d,tk,os⟩) l2 ys:=SS.at hl2 λo e=>Heap.get?_push_of_some _ e
  wp_walk using zSk hL1,zSk hL2
  exists _,rfl;simp only[zUd,Heap.size_push] at h ⊢;exact h
theorem zNx{b1 b2:Bool}{l1 l2:Addr}{xs ys:Array Value}{Q:Value->Shared->Prop}(hl1:SS b1 s.heap l1 xs)(hl2:SS b2 s.heap l2 ys)
  (h:∀ h',IsZip h' (s.heap.objs.size+4) (s.heap.objs.size+2) (s.heap.objs.size+3) .none->IsPair h' (s.heap.objs.size+2) (.ref s.heap.objs.size) (.ref (s.heap.objs.size+1))->IsPair h' (s.heap.objs.size+3) .none .none ->
   SI b1 h' s.heap.objs.size l1 0->SI b2 h' (s.heap.objs.size+1) l2 0->(∀ c o,s.heap.get? c=some o->h'.get? c=some o)->Q (.ref (s.heap.objs.size+4)) { s with heap:=h' }) :
  wpAny (model prog w) A (call (.type "zip") [.ref l1,.ref l2]) Q E s:=by
 refine callType_new F.called_zip (by decide) (F.typeCall_zip_2 _ _) (F.newCall_zip_2 _ _) (λobj=>F.args_object_init_3 obj _ _) F.entry_zip_new (zQm b1 b2 l1 l2 xs ys) ⟨hl1,hl2,?_⟩;unfold zUd;generalize e1:s.heap.push { cls:=.type (zIq b1),data:=.fields #[.ref l1,.int 0 0] }=k1;have n1:k1.objs.size=s.heap.objs.size+1:=by rw[<- e1,Heap.size_push]
 generalize e2:k1.push { cls:=.type (zIq b2),data:=.fields #[.ref l2,.int 0 0] }=k2;have n2:k2.objs.size=s.heap.objs.size+2:=by rw[<- e2,Heap.size_push,n1]
 generalize e3:k2.push { cls:=.type "tuple", data:=.seq #[.ref s.heap.objs.size,.ref (s.heap.objs.size+1)] }=k3;have n3:k3.objs.size=s.heap.objs.size+3:=by rw[<- e3,Heap.size_push,n2]
 generalize e4:k3.push { cls:=.type "tuple", data:=.seq #[.none,.none] }=k4;have n4:k4.objs.size=s.heap.objs.size+4:=by rw[<- e4,Heap.size_push,n3]
 generalize e5:k4.push { cls:=.type "zip", data:=.fields #[.none,.bool false,.bool false,.ref (s.heap.objs.size+2),.ref (s.heap.objs.size+3)] }=k5;have u5:∀ c o,k4.get? c=some o->k5.get? c=some o:=λc o q=>e5 ▸ Heap.get?_push_of_some _ q;have u4:∀ c o,k3.get? c=some o->k5.get? c=some o:=λc o q=>u5 c o (e4 ▸ Heap.get?_push_of_some _ q);have u3:∀ c o,k2.get? c=some o->k5.get? c=some o:=λc o q=>u4 c o (e3 ▸ Heap.get?_push_of_some _ q);have u2:∀ c o,k1.get? c=some o->k5.get? c=some o:=λc o q=>u3 c o (e2 ▸ Heap.get?_push_of_some _ q);have u1:∀ c o,s.heap.get? c=some o->k5.get? c=some o:=λc o q=>u2 c o (e1 ▸ Heap.get?_push_of_some _ q);have g5:IsZip k5 (s.heap.objs.size+4) (s.heap.objs.size+2) (s.heap.objs.size+3) .none:=by
  rw[<- n4,<- e5];exact Heap.get?_push_size _ rfl
 have g4:IsPair k5 (s.heap.objs.size+3) .none .none:=by
  rw[<- n3];exact u5 _ _ (by rw[<- e4]; exact Heap.get?_push_size _ rfl)
 have g3:IsPair k5 (s.heap.objs.size+2) (.ref s.heap.objs.size) (.ref (s.heap.objs.size+1)):=by
  have q:=u4 k2.objs.size _ (by rw[<- e3]; exact Heap.get?_push_size _ rfl);rw[n2] at q;exact q
 have g2:SI b2 k5 (s.heap.objs.size+1) l2 0:=by
  rw[<- n1];exact SI.of ⟨_,u3 _ _ (by rw[<- e2]; exact Heap.get?_push_size _ rfl),rfl,rfl⟩
 have g1:SI b1 k5 s.heap.objs.size l1 0:=SI.of ⟨_,u2 _ _ (by rw[<- e1]; exact Heap.get?_push_size _ rfl),rfl,rfl⟩;exact⟨⟨_,g5,rfl⟩,h k5 g5 g3 g4 g1 g2 u1⟩
end
end L2

namespace L2
open PySem PySem.Spec PyProof.Rows
def SqB(b:Bool)(K:PySem.W.Frag)(H:Hp)(l:Addr)(xs:List V):Prop:=match b with | true=>SqL K H l xs | false=>SqT K H l xs
theorem Inv.sqB{X:Cx}{pins:List (Addr×Obj)}{σ:St}{H:Hp}{s:Shared}{b:Bool}{l:Addr}{xs:List V}(I:Inv X pins σ H s)(h:SqB b X.K H l xs):∃ its:List Value,yW xs its/\SS b s.heap l its.toArray/\xs.length<=sizeLine:=by
 cases b with
 | true =>
  obtain⟨its,r,p,z⟩:=I.list h;exact⟨its,r,p.isList,z⟩
 | false =>
  obtain⟨its,r,p,z⟩:=I.tuple h;exact⟨its,r,p,z⟩
theorem Inv.sqB_inj{X:Cx}{pins:List (Addr×Obj)}{σ:St}{H:Hp}{s:Shared}{b:Bool}{l:Addr}{xs ys:List V}(I:Inv X pins σ H s)(h:SqB b X.K H l xs)(h':SqB b X.K H l ys):xs=ys:=by
 cases b with
 | true=>exact I.list_inj h h'
 | false=>exact I.tuple_inj h h'
def Itz(K:PySem.W.Frag)(b1 b2:Bool)(l1 l2:Addr):It :=
 ⟨λk H=>∃ xs ys x y,SqB b1 K H l1 xs/\SqB b2 K H l2 ys/\xs[k]?=some x/\ys[k]?=some y,
   λk H v H'=>∃ T x y,v=.ref T/\H T=none/\H'=upd H T (.tup [x,y])/\(∀ xs,SqB b1 K H l1 xs->xs[k]?=some x)/\(∀ ys,SqB b2 K H l2 ys->ys[k]?=some y),
   λk H=>∃ xs ys,SqB b1 K H l1 xs/\SqB b2 K H l2 ys/\(xs.length<=k\/ys.length<=k)⟩
theorem zRl{P:Program}{w:World}{K:PySem.W.Frag}{elts:List Expr}{kt:Nat}{pt:Pos}{b1 b2:Bool}{z TI TO i1 i2 l1 l2:Addr}(D:ZipApart z TI TO i1 i2 l1 l2) :
  zUs P w K (.Tuple elts kt pt) (Itz K b1 b2 l1 l2) [z,TI,TO,i1,i2] z (λk h=>IsZip h z TI TO .none/\IsPair h TI (.ref i1) (.ref i2)/\(∃ a b,IsPair h TO a b)/\SI b1 h i1 l1 k/\SI b2 h i2 l2 k) where
 mem:=by simp
 obj:=λk h st b hb=>by
  obtain⟨hz,hI,⟨a',b',hO⟩,h1,h2⟩:=st;obtain⟨o1,g1,_,d1⟩:=h1.obj;obtain⟨o2,g2,_,d2⟩:=h2.obj;simp only[List.mem_cons,List.not_mem_nil,or_false] at hb;rcases hb with rfl | rfl | rfl | rfl | rfl
  ·exact⟨_,hz,λv e=>by cases e⟩
  ·exact⟨_,hI,λv e=>by cases e⟩
  ·exact⟨_,hO,λv e=>by cases e⟩
  ·exact⟨_,g1,λv e=>by rw[d1] at e; cases e⟩
  ·exact⟨_,g2,λv e=>by rw[d2] at e; cases e⟩
 keep:=λk h h' st kp=>by
  obtain⟨hz,hI,⟨a',b',hO⟩,h1,h2⟩:=st;exact⟨kp z (by simp) _ hz,kp TI (by simp) _ hI,⟨a',b',kp TO (by simp) _ hO⟩,h1.at λo e=>kp i1 (by simp) o e,h2.at λo e=>kp i2 (by simp) o e⟩
 item:=by
  intro X hP hw hK hc k pins s σ H E I hf st hg;subst hP hw hK;obtain⟨hz,hI,⟨a',b',hO⟩,h1,h2⟩:=st;obtain⟨xs,ys,x,y,q1,q2,hx,hy⟩:=hg;obtain⟨its1,r1,p1,_⟩:=I.sqB q1;obtain⟨its2,r2,p2,_⟩:=I.sqB q2;obtain⟨u1,e1,v1⟩:=r1.get hx;obtain⟨u2,e2,v2⟩:=r2.get hy;have hT:s.TypeIs (.ref z) "zip" :=⟨_,hz,rfl⟩;have fresh:H s.heap.objs.size=none:=I.hok.fresh (Nat.le_refl _);unfold pyNext;refine wpAny_bind (wpAny_attempt (wpAny_callSpecial?_slot (name:=Str.ofString "__next__") hT F.slot_zip_next (wpAny_call_entry F.slot_zip_next hT F.entry_zip_next (zOs D hz hI hO h1 h2 p1 p2 (by simpa using e1) (by simpa using e2) λh' z1 o1 j1 j2 t1 kp=>wpAny_pure ?_) (F.args_zip_next_1 _))));refine⟨_,rfl,wpAny_letOwnedTupleGo_zip z1 λh2' z2 sb=>?_⟩;have kp2:∀ c o,c ∉ [z,TO,i1,i2]->s.heap.get? c=some o->h2'.get? c=some o:=λc o hc e=>by
   simp only[List.mem_cons,List.not_mem_nil,or_false,not_or] at hc;exact sb.extBut c o hc.1 (kp c o hc.1 hc.2.1 hc.2.2.1 hc.2.2.2 e)
  have nH:∀ c∈[z,TO,i1,i2],c∈[z,TI,TO,i1,i2]:=λc hc=>by
   simp only[List.mem_cons,List.not_mem_nil,or_false] at hc ⊢;rcases hc with e | e | e | e <;> simp[e]
  have neT:∀ b o,s.heap.get? b=some o->b≠s.heap.objs.size:=λb o e=>Nat.ne_of_lt (Heap.lt_size e);have neH:∀ b o,H b=some o->b ∉ [z,TO,i1,i2]:=λb o e hb=>by
   rw[(hf b (nH b hb)).1] at e;cases e
  have upn:∀ b o,H b=some o->upd H s.heap.objs.size (.tup [x,y]) b=some o:=λb o e=>by
   rw[yA (xB e fresh)];exact e
  refine⟨.ref s.heap.objs.size,upd H s.heap.objs.size (.tup [x,y]),?_,rfl,⟨_,x,y,rfl,fresh,rfl,λzs hz'=>by rw[I.sqB_inj hz' q1]; exact hx,λzs hz'=>by rw[I.sqB_inj hz' q2]; exact hy⟩,?_,λb hb=>?_⟩
  ·refine Inv.step (s:=s) (h':=h2') (g':=s.gens) (d':=s.drawn) (t':=s.toks) (ch:=[z,TO,i1,i2]) I (λb hb=>?_) (λb o _ _ hc e _=>kp2 b o hc e) (λb o _ _ hc e _=>⟨o.slots,kp2 b o hc e⟩) (λb o _ e n=>?_) (λb o hc e=>⟨o,kp2 b o hc e⟩)
    (λb zs e=>upn b _ e) (λb o zs e=>upn b _ e) (λb ps e=>⟨#[],by rw[upn b _ e]; simp⟩) (λm hm=>?_) (λb o e=>?_) I.bare
   ·obtain⟨_,f1,_,f3,f4,f5⟩:=hf b (nH b hb);exact⟨f3,f1,f4,f5⟩
   ·rw[yA (neT b o e)];exact n
   ·obtain⟨o,es,ep,ho,r⟩:=hm;refine⟨o,es,ep,kp2 _ o (λhb=>?_) ho,r⟩;exact(hf _ (nH _ hb)).2.1 rfl
   ·by_cases hb:b=s.heap.objs.size
    ·subst hb;rw[zD] at e;cases e;exact⟨by show 2<=sizeLine; decide,[u1,u2],.cons v1 (.cons v2 .nil),_,sb.extBut _ _ (Nat.ne_of_gt (Heap.lt_size hz)) t1,rfl,_,rfl⟩
    ·rw[yA hb] at e;refine(I.hok b o e).stay (λc u hc q=>kp2 c u ?_ q) (λc q=>upn c _ q) λc zs q=>upn c _ q;rcases hc with hc | hc
     ·rw[hc]; exact neH b o e
     ·exact neH c _ hc
  ·exact⟨z2,sb.extBut _ _ D.TIz (kp _ _ D.TIz D.TITO D.TIi1 D.TIi2 hI),⟨_,_,sb.extBut _ _ D.TOz o1⟩,j1.at λo e=>sb.extBut _ o D.i1z e,j2.at λo e=>sb.extBut _ o D.i2z e⟩
  ·obtain⟨o,e,_⟩:∃ o,s.heap.get? b=some o/\True:=by
    obtain⟨o1,g1,_⟩:=h1.obj;obtain⟨o2,g2,_⟩:=h2.obj;simp only[List.mem_cons,List.not_mem_nil,or_false] at hb;rcases hb with rfl | rfl | rfl | rfl | rfl
    ·exact⟨_,hz,trivial⟩
    ·exact⟨_,hI,trivial⟩
    ·exact⟨_,hO,trivial⟩
    ·exact⟨_,g1,trivial⟩
    ·exact⟨_,g2,trivial⟩
   rw[yA (neT b o e)];exact(hf b hb).1
 done:=by
  intro X hP hw hK hc k pins s σ H E I hf st hg;subst hP hw hK;obtain⟨hz,hI,⟨a',b',hO⟩,h1,h2⟩:=st;obtain⟨xs,ys,q1,q2,hend⟩:=hg;obtain⟨its1,r1,p1,_⟩:=I.sqB q1;obtain⟨its2,r2,p2,_⟩:=I.sqB q2;have hT:s.TypeIs (.ref z) "zip" :=⟨_,hz,rfl⟩;have hend':its1.toArray[k]?=none\/its2.toArray[k]?=none:=by
   have l1':=r1.length;have l2':=r2.length;rcases hend with h | h
   ·exact .inl (Array.getElem?_eq_none (by rw[List.size_toArray]; lia))
   ·exact .inr (Array.getElem?_eq_none (by rw[List.size_toArray]; lia))
  have nH:∀ c∈[z,TO,i1,i2],c∈[z,TI,TO,i1,i2]:=λc hc=>by
   simp only[List.mem_cons,List.not_mem_nil,or_false] at hc ⊢;rcases hc with e | e | e | e <;> simp[e]
  have neH:∀ b o,H b=some o->b ∉ [z,TO,i1,i2]:=λb o e hb=>by
   rw[(hf b (nH b hb)).1] at e;cases e
  unfold pyNext;refine wpAny_bind (wpAny_attempt (wpAny_callSpecial?_slot (name:=Str.ofString "__next__") hT F.slot_zip_next (wpAny_call_entry F.slot_zip_next hT F.entry_zip_next (zR1 (I.ok.hd hc) D hz hI hO h1 h2 p1 p2 hend' λh' e kp he=>?_) (F.args_zip_next_1 _))));obtain⟨oe,hoe,hce⟩:=he;refine wpAny_bind (wpAny_isInstance (T := "StopIteration") (b:=true) ⟨oe,hoe,hce⟩ isSubtype_stop (wpAny_pure ⟨rfl,?_⟩));have kp2:∀ c o,c ∉ [z,TO,i1,i2]->s.heap.get? c=some o->h'.get? c=some o:=λc o hc e=>by
   simp only[List.mem_cons,List.not_mem_nil,or_false,not_or] at hc;exact kp c o hc.1 hc.2.1 hc.2.2.1 hc.2.2.2 e
  refine I.step (g':=s.gens) (d':=s.drawn) (t':=s.toks) (ch:=[z,TO,i1,i2]) (λb hb=>?_) (λb o _ _ hc e _=>kp2 b o hc e) (λb o _ _ hc e _=>⟨o.slots,kp2 b o hc e⟩) (λb o _ e n=>n) (λb o hc e=>⟨o,kp2 b o hc e⟩)
   (λb zs e=>e) (λb o zs e=>e) (λb ps e=>⟨#[],by rw[e]; simp⟩) (λm hm=>?_) (λb o e=>?_) I.bare
  ·obtain⟨_,f1,_,f3,f4,f5⟩:=hf b (nH b hb);exact⟨f3,f1,f4,f5⟩
  ·obtain⟨o,es,ep,ho,r⟩:=hm;refine⟨o,es,ep,kp2 _ o (λhb=>?_) ho,r⟩;exact(hf _ (nH _ hb)).2.1 rfl
  ·refine(I.hok b o e).stay (λc u hc q=>kp2 c u ?_ q) (λc q=>q) λc zs q=>q;rcases hc with hc | hc
   ·rw[hc]; exact neH b o e
   ·exact neH c _ hc
 self:=λ_ _ _ _ _ st h=>wpAny_pyIter_zip st.1 h
section
variable{X:Cx}
def iZip(K:PySem.W.Frag)(ta:TA):TI:=λσ H R=>ta σ H λvs H1=>∃(b1 b2:Bool)(l1 l2:Addr)(xs ys:List V),vs=[.ref l1,.ref l2]/\SqB b1 K H1 l1 xs/\SqB b2 K H1 l2 ys/\R (Itz K b1 b2 l1 l2) H1
theorem zP5{elts:List Expr}{kt:Nat}{pt:Pos}{a b:Expr}{ta:TA}{p pos:Pos}(hg:Gl X "zip")(hm:X.mg "zip" = none)(ha:PA X [a,b] ta)(hs:starEach [a,b] X.env=[(false,eval a X.env),(false,eval b X.env)]:=by rfl)(hs2:starEach [b] X.env=[(false,eval b X.env)]:=by rfl) :
  PI X (.Tuple elts kt pt) (.Call (.Name "zip" p) [a,b] [] pos) (iZip X.K ta):=by
 intro pins s σ H R I h;refine Call_ (zGn I hg hm zWw (PyProof.Rows.callWith_type1 (thn (ha pos pins s σ H _ I h) λus s1 ⟨vs,H1,I1,r1,q1⟩=>?_) (by rw[hs,hs2]) (by rw[hs2]; rfl)));obtain⟨b1,b2,l1,l2,xs,ys,e,g1,g2,q⟩:=q1;subst e;obtain⟨u1,u2,rfl,v1,v2⟩:=yW.two r1;cases v1;cases v2;obtain⟨its1,_,p1,_⟩:=I1.sqB g1;obtain⟨its2,_,p2,_⟩:=I1.sqB g2;have a1:l1<s1.heap.objs.size:=by
  obtain⟨o,e,_⟩:=p1.obj;exact Heap.lt_size e
 have a2:l2<s1.heap.objs.size:=by
  obtain⟨o,e,_⟩:=p2.obj;exact Heap.lt_size e
 refine zNx p1 p2 λh' hz hI hO j1 j2 kp=>?_;refine wpAny_pyIter_zip hz ?_;refine⟨_,_,_,_,H1,rfl,I1.kept (t':=s1.toks) kp,zRl (zipApart_new a1 a2),⟨hz,hI,⟨_,_,hO⟩,j1,j2⟩,λb hb=>?_,q⟩;have hge:s1.heap.objs.size<=b:=by
  simp only[List.mem_cons,List.not_mem_nil,or_false] at hb;rcases hb with rfl | rfl | rfl | rfl | rfl <;> lia
 exact I1.fpOk hge (I1.hok.fresh hge)
end
section
variable{K:PySem.W.Frag}{b1 b2:Bool}{l1 l2 D:Addr}{xs ys:List V}{g:TG}{tt:TT}{te:TE}{σ0:St}{H1:Hp}{Q:VK}
theorem zQi(Pv:Nat->St->List V->Hp->Prop)(h0:Pv 0 σ0 [] (upd H1 D (.lst [])))(hl:∀ i σ zs H,Pv i σ zs H->SqB b1 K H l1 xs/\SqB b2 K H l2 ys/\H D=some (.lst zs))
  (hs:∀ i x y T σ zs H,xs[i]?=some x->ys[i]?=some y->H T=none->Pv i σ zs H->g (.ref T) σ (upd H T (.tup [x,y])) λσ2 H2=>tt σ2 H2 λb H3 =>
   if b=true then te σ2 H3 λz H4=>H4 D=some (.lst zs)/\zs.length<sizeLine/\Pv (i+1) σ2 (zs++[z]) (upd H4 D (.lst (zs++[z]))) else Pv (i+1) σ2 zs H3)
  (hd:∀ σ zs H,Pv (min xs.length ys.length) σ zs H->Q (.ref D) H):zEc (Itz K b1 b2 l1 l2) D g tt te σ0 H1 Q:=by
 exists λi m σ zs H=>m=min xs.length ys.length-i/\i<=min xs.length ys.length/\Pv i σ zs H,⟨_,rfl,Nat.zero_le _,h0⟩;rintro i m σ zs H ⟨rfl,hi,p⟩;obtain⟨q1,q2,qd⟩:=hl i σ zs H p;exists qd;by_cases hlt:i<min xs.length ys.length
 ·have c1:i<xs.length:=by lia
  have c2:i<ys.length:=by lia
  refine .inr ⟨⟨xs,ys,xs[i],ys[i],q1,q2,by simp[c1],by simp[c2]⟩,Pv (i+1),λσ' zs' H' z=>⟨min xs.length ys.length-(i+1),by lia,rfl,hlt,z⟩,λv H' y=>?_⟩;obtain⟨T,x,y,rfl,hT,rfl,y1,y2⟩:=y;exact hs i x y T σ zs H (y1 xs q1) (y2 ys q2) hT p
 ·have e:i=min xs.length ys.length:=by lia
  subst e;exact .inl ⟨⟨xs,ys,q1,q2,by lia⟩,hd σ zs H p⟩
theorem zE9(Pv:Nat->St->List V->Hp->Prop)(h0:Pv 0 σ0 [] (upd H1 D (.lst [])))(hl:∀ i σ zs H,Pv i σ zs H->SqB b1 K H l1 xs/\SqB b2 K H l2 ys/\H D=some (.lst zs))
  (hs:∀ i x y T σ zs H,xs[i]?=some x->ys[i]?=some y->H T=none->Pv i σ zs H->g (.ref T) σ (upd H T (.tup [x,y])) λσ2 H2=>te σ2 H2 λz H4=>H4 D=some (.lst zs)/\zs.length<sizeLine/\Pv (i+1) σ2 (zs++[z]) (upd H4 D (.lst (zs++[z]))))
  (hd:∀ σ zs H,Pv (min xs.length ys.length) σ zs H->Q (.ref D) H):zEc (Itz K b1 b2 l1 l2) D g zUr te σ0 H1 Q:=zQi Pv h0 hl (λi x y T σ zs H e1 e2 e3 p=>hs i x y T σ zs H e1 e2 e3 p) hd
theorem zT8{tb:TS}{E:zM7}{σ:St}{H:Hp}(Pv:Nat->St->Hp->Prop)(h0:Pv 0 σ H)(hl:∀ i σ H,Pv i σ H->SqB b1 K H l1 xs/\SqB b2 K H l2 ys)
  (hs:∀ i x y T σ H,xs[i]?=some x->ys[i]?=some y->H T=none->Pv i σ H->g (.ref T) σ (upd H T (.tup [x,y])) λσ2 H2=>tb { E with nx:=Pv (i+1),ct:=Pv (i+1),bk:=E.nx } σ2 H2) (hd:∀ σ H,Pv (min xs.length ys.length) σ H->E.nx σ H) :
  ∃ W:Nat->Nat->St->Hp->Prop,(∃ m,W 0 m σ H)/\∀ i m σ H,W i m σ H ->
   ((Itz K b1 b2 l1 l2).stop i H/\E.nx σ H)\/((Itz K b1 b2 l1 l2).go i H/\∃ N:St->Hp->Prop,(∀ σ' H',N σ' H'->∃ m',m'<m/\W (i+1) m' σ' H')/\∀ x H',(Itz K b1 b2 l1 l2).yld i H x H'->g x σ H' λσ2 H2=>tb { E with nx:=N,ct:=N,bk:=E.nx } σ2 H2):=by
 exists λi m σ H=>m=min xs.length ys.length-i/\i<=min xs.length ys.length/\Pv i σ H,⟨_,rfl,Nat.zero_le _,h0⟩;rintro i m σ H ⟨rfl,hi,p⟩;obtain⟨q1,q2⟩:=hl i σ H p;by_cases hlt:i<min xs.length ys.length
 ·have c1:i<xs.length:=by lia
  have c2:i<ys.length:=by lia
  refine .inr ⟨⟨xs,ys,xs[i],ys[i],q1,q2,by simp[c1],by simp[c2]⟩,Pv (i+1),λσ' H' z=>⟨min xs.length ys.length-(i+1),by lia,rfl,hlt,z⟩,λv H' y=>?_⟩;obtain⟨T,x,y,rfl,hT,rfl,y1,y2⟩:=y;exact hs i x y T σ H (y1 xs q1) (y2 ys q2) hT p
 ·have e:i=min xs.length ys.length:=by lia
  subst e;exact .inl ⟨⟨xs,ys,q1,q2,by lia⟩,hd σ H p⟩
end
end L2

namespace L2
open PySem PySem.Spec PyProof.Rows
theorem ifD{p A B:Prop}[Decidable p](h1:p->A)(h2:¬ p->B):if decide p=true then A else B:=by
 by_cases h:p
 ·rw[if_pos (decide_eq_true h)]; exact h1 h
 ·rw[if_neg (by rw[decide_eq_false h]; exact Bool.false_ne_true)]; exact h2 h
theorem ifN{p A B:Prop}[Decidable p](h1:¬ p->A)(h2:p->B):if (!decide p)=true then A else B:=by
 by_cases h:p
 ·rw[if_neg (by rw[decide_eq_true h]; exact Bool.false_ne_true)]; exact h2 h
 ·rw[if_pos (by rw[decide_eq_false h]; rfl)]; exact h1 h
theorem ifE{x y:Int}{A B:Prop}(h1:x=y->A)(h2:x≠y->B):if decide (V.int x=V.int y)=true then A else B :=
 ifD (λh=>h1 (V.int.inj h)) λh=>h2 λe=>h (congrArg V.int e)
theorem zSz{x y:Int}{A B:Prop}(h1:x≠y->A)(h2:x=y->B):if (!decide (V.int x=V.int y))=true then A else B :=
 ifN (λh=>h1 λe=>h (congrArg V.int e)) λh=>h2 (V.int.inj h)
theorem zXf{x y:Int}(h:x=y):decide (V.int x=V.int y)=true:=decide_eq_true (congrArg V.int h)
theorem zF{H:Hp}{p:Addr}(h:H p=none)(o:HO):zZ H (upd H p o):=λb u q=>by rw[yA (xB q h)]; exact q
theorem Sq.same{K:PySem.W.Frag}{H H':Hp}{a:Addr}{xs:List V}(h:Sq K H a xs)(e:zZ H H'):Sq K H' a xs:=by
 rcases h with h | h
 ·exact .inl (e.seq h)
 ·refine .inr ?_;rcases h with h | h
  ·rcases h with h | ⟨o,h⟩
   ·exact .inl (.inl (e _ _ h))
   ·exact .inl (.inr ⟨o,e _ _ h⟩)
  ·exact .inr h
theorem xW{ns:List Int}{i:Nat}{x:V}(h:(ns.map V.int)[i]?=some x):∃ n,ns[i]?=some n/\x=.int n:=by
 rw[List.getElem?_map] at h;cases e:ns[i]? with
 | none=>rw[e] at h; cases h
 | some n=>rw[e] at h; exact⟨n,rfl,(Option.some.inj h).symm⟩
theorem yP{α:Type}{l:List α}{i:Nat}{x:α}(h:l[i]?=some x):l.take (i+1)=l.take i++[x]:=by
 rw[List.take_succ,h]; rfl
theorem small{n:Nat}(h:n<=1000):n<=sizeLine:=Nat.le_of_lt (zV h)
theorem SqT.same{K:PySem.W.Frag}{H H':Hp}{a:Addr}{xs:List V}(h:SqT K H a xs)(e:zZ H H'):SqT K H' a xs:=by
 rcases h with h | h
 ·rcases h with h | ⟨o,h⟩
  ·exact .inl (.inl (e _ _ h))
  ·exact .inl (.inr ⟨o,e _ _ h⟩)
 ·exact .inr h
theorem zJ2(K:PySem.W.Frag):PySem.W.kitOne K (.type "int") (.type "int")=some true:=rfl
theorem zIm(K:PySem.W.Frag):PySem.W.kitOne K (.type "int") (.type "bool")=some false:=rfl
theorem qQ(K:PySem.W.Frag):PySem.W.kitOne K (.type "tuple") (.type "tuple")=some true:=rfl
def zQo(t:TT):Prop:=∀(σ:St)(H:Hp)(Q Q':Bool->Hp->Prop),(∀ b H1,Q b H1->Q' b H1)->t σ H Q->t σ H Q'
def zIl(t:TE):Prop:=∀(σ:St)(H:Hp)(Q Q':VK),(∀ b H1,Q b H1->Q' b H1)->t σ H Q->t σ H Q'
def zQp(t:TA):Prop:=∀(σ:St)(H:Hp)(Q Q':List V->Hp->Prop),(∀ b H1,Q b H1->Q' b H1)->t σ H Q->t σ H Q'
def zVv(r:R2):Prop:=∀(x y:V)(H:Hp)(Q Q':VK),(∀ b H1,Q b H1->Q' b H1)->r x y H Q->r x y H Q'
def zWx(r:List V->Hp->VK->Prop):Prop:=∀(xs:List V)(H:Hp)(Q Q':VK),(∀ b H1,Q b H1->Q' b H1)->r xs H Q->r xs H Q'
theorem zIa{i:Nat} : zIl (zQf i):=λ_ _ _ _ hq ⟨v,e,z⟩=>⟨v,e,hq _ _ z⟩
theorem mo_c{v:V} : zIl (tC v):=λ_ _ _ _ hq z=>hq _ _ z
theorem zTr{r:R2}{ta tb:TE}(hr:zVv r)(ha:zIl ta)(hb:zIl tb):zIl (tOp r ta tb):=λσ _ _ _ hq z=>ha σ _ _ _ (λ_ _ z=>hb σ _ _ _ (λ_ _ z=>hr _ _ _ _ _ hq z) z) z
theorem zT2{g:Int->Int->V} : zVv (rI0 g):=λ_ _ _ _ _ hq ⟨i,j,e1,e2,z⟩=>⟨i,j,e1,e2,hq _ _ z⟩
theorem zKh{t:TE}(h:zIl t):zQo (zN6 t):=λσ _ _ _ hq z=>h σ _ _ _ (λ_ _ ⟨k,e,z⟩=>⟨k,e,hq _ _ z⟩) z
theorem zU1{t u:TT}(h:zQo t)(h':zQo u):zQo (tAnd t u):=λσ _ _ _ hq z=>h σ _ _ _ (λb _ z=>by
 cases b with
 | true=>exact h' σ _ _ _ hq z
 | false=>exact hq _ _ z) z
theorem zR6:zQp zS2:=λ_ _ _ _ hq z=>hq _ _ z
theorem zOw{te:TE}{ta:TA}(h:zIl te)(h':zQp ta):zQp (rN te ta):=λσ _ _ _ hq z=>h σ _ _ _ (λ_ _ z=>h' σ _ _ _ (λ_ _ z=>hq _ _ z) z) z
theorem zU0{r:List V->Hp->VK->Prop}{t:TA}(hr:zWx r)(h:zQp t):zIl (tCB r t):=λσ _ _ _ hq z=>h σ _ _ _ (λ_ _ z=>hr _ _ _ _ hq z) z
theorem zR5{K:PySem.W.Frag} : zWx (λxs H Q=>∃ p ys,xs=[.ref p]/\(SqL K H p ys\/SqT K H p ys)/\Q (.int ys.length) H):=λ_ _ _ _ hq ⟨p,ys,e,s,z⟩=>⟨p,ys,e,s,hq _ _ z⟩
theorem zAf(ns:List Int)(lo hi:Option Int):qJ (ns.map V.int) lo hi=((ns.drop (HT.sIx ns.length 0 lo)).take (HT.sIx ns.length ns.length hi-HT.sIx ns.length 0 lo)).map V.int:=by
 unfold qJ;rw[List.length_map,List.map_take,List.map_drop]
end L2

namespace L2
open PySem PySem.Spec PyProof.Rows
theorem zSo{A:Around}{s:Shared}{xs ys:List Int}{us ws:List Value}(r1:yW (xs.map V.int) us)(r2:yW (ys.map V.int) ws):∀ j (h1:j<us.toArray.size) (h2:j<ws.toArray.size),
  SeqAt.EqAt A s us.toArray[j] ws.toArray[j] (decide (xs[j]?=ys[j]?)):=λj h1 h2=>by
 have l1:=r1.length;have l2:=r2.length;rw[List.length_map] at l1 l2;have g1:j<us.length:=by simpa using h1
 have g2:j<ws.length:=by simpa using h2
 have k1:j<xs.length:=by lia
 have k2:j<ys.length:=by lia
 obtain⟨u,hu,t,ru⟩:=r1.get (i:=j) (x:=.int xs[j]) (by rw[List.getElem?_map,List.getElem?_eq_getElem k1]; rfl);obtain⟨w,hw,t',rw'⟩:=r2.get (i:=j) (x:=.int ys[j]) (by rw[List.getElem?_map,List.getElem?_eq_getElem k2]; rfl);have e1:us.toArray[j]=.int xs[j] t:=by
  have z:=List.getElem?_eq_getElem g1;rw[hu] at z;rw[List.getElem_toArray,<- Option.some.inj z,ru]
 have e2:ws.toArray[j]=.int ys[j] t':=by
  have z:=List.getElem?_eq_getElem g2;rw[hw] at z;rw[List.getElem_toArray,<- Option.some.inj z,rw']
 rw[e1,e2];have e3:decide (xs[j]?=ys[j]?)=(xs[j] == ys[j]):=by
  rw[List.getElem?_eq_getElem k1,List.getElem?_eq_getElem k2];by_cases h:xs[j]=ys[j]
  ·rw[h]; simp
  ·rw[decide_eq_false (λz=>h (Option.some.inj z))];exact(beq_eq_false_iff_ne.mpr h).symm
 rw[e3];exact SeqAt.EqAt.int_int _ _ _ _
theorem zOj{xs ys:List Int} : ((List.range (min xs.length ys.length)).all (λj=>decide (xs[j]?=ys[j]?))&&xs.length == ys.length)=decide (xs=ys):=by
 by_cases h:xs=ys
 ·subst h;rw[decide_eq_true rfl,Bool.and_eq_true];exact⟨List.all_eq_true.mpr λj _=>decide_eq_true rfl,by simp⟩
 ·rw[decide_eq_false h,Bool.and_eq_false_iff];by_cases hl:xs.length=ys.length
  ·left;rw[Bool.eq_false_iff];intro z;apply h;rw[List.all_eq_true] at z;refine List.ext_getElem? λj=>?_;by_cases hj:j<xs.length
   ·exact of_decide_eq_true (z j (List.mem_range.mpr (by lia)))
   ·rw[List.getElem?_eq_none (by lia),List.getElem?_eq_none (by lia)]
  ·right;exact beq_eq_false_iff_ne.mpr hl
section
variable{X:Cx}
def rEqT(K:PySem.W.Frag)(neg:Bool):R2:=λx y H Q=>∃(a b:Addr)(xs ys:List Int),x=.ref a/\y=.ref b/\SqT K H a (xs.map V.int)/\SqT K H b (ys.map V.int)/\Q (.bl (if neg then !decide (xs=ys) else decide (xs=ys))) H
theorem zOg(hu:X.A.units<cLine):OpR X (compareOp .Eq) (rEqT X.K false):=by
 intro pins s σ H x y v u Q I rx ry h;obtain⟨a,b,xs,ys,rfl,rfl,h1,h2,q⟩:=h;cases rx;cases ry;obtain⟨us,r1,p1,_⟩:=I.tuple h1;obtain⟨ws,r2,p2,_⟩:=I.tuple h2;refine SeqAt.eq_tupleAt (e:=λj=>decide (xs[j]?=ys[j]?)) (show s.heap.IsTuple a us.toArray from p1) (show s.heap.IsTuple b ws.toArray from p2) hu (zSo r1 r2) ?_;have l1:=r1.length;have l2:=r2.length;rw[List.length_map] at l1 l2;rw[List.size_toArray,List.size_toArray,<- l1,<- l2,zOj];exact⟨.bl (decide (xs=ys)),H,I,rfl,q⟩
end
end L2
namespace L2
open PySem
theorem yQ{rows:List Int}{P:Int->Prop}(bd:∀ x∈rows,P x){k:Int}(k0:0<=k)(k1:k<rows.length):∃ v:Int,atI (rows.map V.int) k=some (.int v)/\P v:=by
 have hk:k.toNat<rows.length:=by lia
 refine⟨rows[k.toNat],?_,bd _ (List.getElem_mem hk)⟩;have q:atI (rows.map V.int) ((k.toNat:Nat):Int)=some (.int rows[k.toNat]):=sW (by rw[List.getElem?_map,List.getElem?_eq_getElem hk] <;> rfl);rw[show((k.toNat:Nat):Int)=k from by lia] at q;exact q
end L2
namespace L2
theorem zG0.of{i j:Int}(hi:i.natAbs<=10^100)(hj:j.natAbs<=10^100):zG0 i j :=
 ⟨Nat.lt_of_le_of_lt hi (by decide +kernel),Nat.lt_of_le_of_lt hj (by decide +kernel)⟩
end L2

namespace L2
open PySem PySem.Spec PyProof.Rows
section
variable{X:Cx}{T:List Str}{caps:List (Str×Nat)}{scope:Scope}{elt target iter:Expr}{ifs:List Expr}{pos cpos:Pos}{wi:TI}{g:CC->TG}{tt:CC->TT}{te:CC->TE}
theorem zRd(S:rD X caps scope)(hc:X.calm=true)(hi:PI X target iter wi)(hg:∀ c,PG (wS X (T++caps.map (·.1)) scope c) target (g c))(ht:∀ c,zU9 (wS X (T++caps.map (·.1)) scope c) ifs (tt c))(he:∀ c,PE (wS X (T++caps.map (·.1)) scope c) elt (te c))
  {use:Option (Value->Sem Unit)} {Qv:Value->Shared->Prop} {pins:List (Addr×Obj)} {s:Shared} {σ:St} {H:Hp} {Q:VK} (I:Inv X pins σ H s) (h:zTc T.length caps wi g tt te σ H Q)
  (hfin:∀(D C:Addr)(s4:Shared)(H3:Hp),Inv X pins σ H3 s4->Q (.ref D) H3->∀ m,s4.heap.Ns C m->H3 C=none->C≠X.env.locals->X.s₀.heap.objs.size<=C->(∀ x c,X.env.cells.lookup x=some c->c≠C)->(∀ p∈X.pn++pins,p.1≠C)->compPost (model X.prog X.w) X.A X.xe use Qv (.ref D) C (.ok .next) s4)
  (hs:∀ x,foldedSetIterable iter X.env x=pure x:=by intro _; rfl) :
  wpAny (model X.prog X.w) X.A (comprehension (.ListComp elt [⟨target,iter,ifs,0⟩] scope pos) scope X.env cpos (newList []) false (eval iter X.env) use) Qv X.xe s:=by
 refine wpAny_comprehension_free (use:=use) rfl hs (zN3 S.cells) S.kind S.loc (thn (hi pins s σ H _ I h) λv s1 h1=>thn h1 λitv s2 h2=>?_);obtain⟨it,fp,tn,J,H2,e,I2,TT,st2,f2,q2⟩:=h2;subst e;refine wpAny_newObj_type (wpAny_newFunctionEnv S.nocell (by intro y hy; simp at hy) (λh1 hn hsb=>?_) S.kind);dsimp only at hn hsb ⊢;generalize hg2:s2.heap.push { cls:=.type "list", dict:=none,data:=.seq ([]:List Value).toArray }=G at hn hsb ⊢;have hCv:G.objs.size=s2.heap.objs.size+1:=by rw[<- hg2,Heap.size_push]
 have hDC:G.objs.size≠s2.heap.objs.size:=by rw[hCv]; exact Nat.succ_ne_self _
 have hCle:s2.heap.objs.size<=G.objs.size:=by rw[hCv]; exact Nat.le_succ _
 have old:∀ b o,s2.heap.get? b=some o->h1.get? b=some o:=λb o e=>hsb.extBut b o (Nat.ne_of_lt (Nat.lt_of_lt_of_le (Heap.lt_size e) hCle)) (Heap.get?_push_of_some _ (hg2 ▸ Heap.get?_push_of_some _ e));have hacc:∃ n,h1.get? s2.heap.objs.size=some { cls:=.type "list", data:=.seq ([]:List Value).toArray n }:=⟨_,hsb.extBut _ _ (Ne.symm hDC) (Heap.get?_push_of_some _ (hg2 ▸ Heap.get?_push_size _ rfl))⟩;have hfp:∀ b∈fp,b<s2.heap.objs.size:=λb hb=>by
  obtain⟨o,e,_⟩:=TT.obj _ _ st2 b hb;exact Heap.lt_size e
 have cs:=rY (env:=X.env) scope.names [] S.cells (λ_ _ z=>by cases z);have I0:=zGo (T:=T) (tk:=s2.toks+([]:List (Str×Value)).length) S I2 f2 hfp (Nat.le_refl _) hCle hDC old hacc hn;have st0:tn 0 h1:=TT.keep _ _ _ st2 λb _ o e=>old b o e;obtain⟨W,⟨m0,w0⟩,turn⟩:=q2 ⟨G.objs.size,s2,H2,fp⟩ s2.heap.objs.size (I2.hok.fresh (Nat.le_refl _));have fr0:∀ b∈fp,upd H2 s2.heap.objs.size (.lst []) b=none:=λb hb=>by
  rw[yA (Nat.ne_of_lt (hfp b hb))];exact(f2 b hb).1
 have stat:∀{H':Hp},(∀ b∈fp,H' b=none)->∀ b∈fp,zQd (wS X (T++caps.map (·.1)) scope ⟨G.objs.size,s2,H2,fp⟩) [] H' b:=λ{H'} hn' b hb =>
  ⟨hn' b hb,Nat.ne_of_lt (Nat.lt_of_lt_of_le (hfp b hb) hCle),I0.ok.exfs b hb,.inl hb,λx c e=>(f2 b hb).2.2.2.2.1 x c (cs x c e),λp hp=>absurd (show p∈([]:List (Addr×Obj)) from hp) (by simp)⟩
 have loop:codeAny (model X.prog X.w) X.A (.compLoop (.ListComp elt [⟨target,iter,ifs,0⟩] scope pos) 0 (.ref it) (.ref s2.heap.objs.size) (compEnvC scope (zBp X.env scope.names []) G.objs.size X.env))
   (compPost (model X.prog X.w) X.A X.xe use Qv (.ref s2.heap.objs.size) G.objs.size) { s2 with heap:=h1,toks:=s2.toks+([]:List (Str×Value)).length }:=by
  refine codeAny_loop rfl (λn s'=>∃ i σ' ys H',Inv (wS X (T++caps.map (·.1)) scope ⟨G.objs.size,s2,H2,fp⟩) [] σ' H' s'/\tn i s'.heap/\(∀ b∈fp,H' b=none)/\W i n σ' ys H') (λn s3 hI=>?_) m0 ⟨0,_,[],_,I0,st0,fr0,w0⟩;obtain⟨i,σ3,ys,H3,I3,st3,fr3,w3⟩:=hI;show wpAny _ X.A ((compTurn (.ListComp elt [⟨target,iter,ifs,0⟩] scope pos) 0 (.ref it) (.ref s2.heap.objs.size) (compEnvC scope (zBp X.env scope.names []) G.objs.size X.env)).onRaise (λx=>do noteFrame x (compEnvC scope (zBp X.env scope.names []) G.objs.size X.env); theTreesLotGoes x)) _ _ s3;refine wpAny_noted ?_;rw[compTurn_list];refine wpAny_bind (wpAny_standAt (wpAny_bind ?_));obtain⟨hD3,turn3⟩:=turn i n σ3 ys H3 w3;rcases turn3 with ⟨stop,qn⟩ | ⟨go,N,hN,step⟩
  ·refine zKn (TT.done (wS X (T++caps.map (·.1)) scope ⟨G.objs.size,s2,H2,fp⟩) rfl rfl rfl hc i [] s3 σ3 H3 _ I3 (stat fr3) st3 stop) λr s4 ⟨hr,I4⟩=>?_;subst hr;refine wpAny_pure ?_;obtain⟨m4,hn4,_⟩:=I4.loc;have J4:Inv X pins σ H3 s4:=by
    refine I2.call' (s':=s4) (ch:=fp) I4.os I4.base I4.hok I4.bare λb hb=>?_;obtain⟨_,f1,_,f3,f4,f5⟩:=f2 b hb;exact⟨f3,f1,f4,f5⟩
   refine hfin _ G.objs.size s4 H3 J4 qn m4 hn4 I4.free (Nat.ne_of_gt (Nat.lt_of_lt_of_le I2.lt hCle)) (Nat.le_trans I2.sz hCle) (λx c e z=>?_) (λp hp z=>?_)
   ·obtain⟨v,qq⟩:=I2.cell x c e;exact absurd (Nat.lt_of_lt_of_le qq.lt (by rw[z]; exact hCle)) (Nat.lt_irrefl _)
   ·exact absurd (Nat.lt_of_lt_of_le (Heap.lt_size (I2.pin p hp).1) (by rw[z]; exact hCle)) (Nat.lt_irrefl _)
  ·refine zKn (TT.item (wS X (T++caps.map (·.1)) scope ⟨G.objs.size,s2,H2,fp⟩) rfl rfl rfl hc i [] s3 σ3 H3 _ I3 (stat fr3) st3 go) λr s4 ⟨u,hr,h4⟩=>?_;subst hr;refine wpAny_bind (zKn h4 λ_ s5 ⟨x,H5,I5,r5,y5,st5,fr5⟩=>?_);have I5':=I5.pinned (stat fr5) (TT.obj _ _ st5);refine wpAny_bind (zKn (hg _ _ s5 σ3 H5 x u _ I5' r5 (step x H5 y5)) λ_ s6 ⟨σ6,H6,I6,q6⟩=>?_);have again:∀{s7:Shared}{σ7:St}{zs:List V}{H7:Hp},Inv (wS X (T++caps.map (·.1)) scope ⟨G.objs.size,s2,H2,fp⟩) ([]++zGd fp s5.heap) σ7 H7 s7->N σ7 zs H7 ->
     ∃ m,m<n/\∃ i σ' ys H',Inv (wS X (T++caps.map (·.1)) scope ⟨G.objs.size,s2,H2,fp⟩) [] σ' H' s7/\tn i s7.heap/\(∀ b∈fp,H' b=none)/\W i m σ' ys H':=λ{s7 σ7 zs H7} I7 n7=>by
    obtain⟨m',hm,w7⟩:=hN σ7 zs H7 n7;refine⟨m',hm,i+1,σ7,zs,H7,I7.unpinned,TT.keep _ _ _ st5 λb hb o e=>(I7.pin (b,o) (List.mem_append_right _ (List.mem_append_right _ (tQ hb e)))).1,λb hb=>?_,w7⟩;obtain⟨o,e,d⟩:=TT.obj _ _ st5 b hb;exact(I7.pin (b,o) (List.mem_append_right _ (List.mem_append_right _ (tQ hb e)))).2.1
   refine wpAny_bind (zKn (ht _ _ s6 σ6 H6 _ I6 q6) λok s7 ⟨H7,I7,q7⟩=>?_);cases ok with
   | false=>exact wpAny_pure ⟨rfl,again I7 q7⟩
   | true =>
    refine wpAny_bind (wpAny_bind (zKn (he _ _ s7 σ6 H7 _ I7 q7) λy s8 ⟨yv,H8,I8,r8,hD8,hl8,q8⟩=>?_));refine wpAny_bind (zKn (zEr _ s8 σ6 H8 (.ref s2.heap.objs.size) [yv] (.ref s2.heap.objs.size) [y] (λ_ H9=>N σ6 (ys++[yv]) H9) I8 rfl (.cons r8 .nil) ⟨_,ys,yv,rfl,rfl,hD8,hl8,q8⟩) λ_ s9 ⟨_,H9,I9,_,q9⟩=>?_);exact wpAny_pure (wpAny_pure ⟨rfl,again I9 q9⟩)
 exact codeAny_compStart_list loop (TT.self _ 0 _ _ _ st0 loop)
theorem vC{i:Nat}{y:Str}{py spos:Pos}(hN:X.N.Nodup)(hy:X.N[i]?=some y)(hloc:X.env.scope.names.lookup y=some .local)(S:rD X caps scope)(hc:X.calm=true)(hi:PI X target iter wi)(hg:∀ c,PG (wS X (T++caps.map (·.1)) scope c) target (g c))(ht:∀ c,zU9 (wS X (T++caps.map (·.1)) scope c) ifs (tt c))(he:∀ c,PE (wS X (T++caps.map (·.1)) scope c) elt (te c))
  (hsw:swapsWith (.ListComp elt [⟨target,iter,ifs,0⟩] scope pos) (some (.Name y py)) spos.line X.env=pure true:=by rfl) (hs:∀ x,foldedSetIterable iter X.env x=pure x:=by intro _; rfl) :
  PS X (.Assign [.Name y py] (.ListComp elt [⟨target,iter,ifs,0⟩] scope pos) spos) (zUu (zTc T.length caps wi g tt te) (zMe i)):=by
 intro pins s σ H D I h;rw[exec_Assign_Name_used _ _ _ _ hsw];refine wpAny_bind (wpAny_standAt (wpAny_bind ?_));show wpAny _ X.A (do let _ <- comprehension (.ListComp elt [⟨target,iter,ifs,0⟩] scope pos) scope X.env _ (newList []) false (eval iter X.env) (some (assign (.Name y py) X.env))) _ _ s;refine wpAny_bind (wpAny_mono (zRd (Qv:=λ_ s'=>SP X pins D .next s') S hc hi hg ht he I h (λD' C s4 H3 J4 q4 m4 hn4 hC hL hS hcell hpin=>?_) hs) (λ_ s' hq=>wpAny_pure (wpAny_pure hq)) λ_ _ e=>e);show wpAny (model X.prog X.w) X.A (assign (.Name y py) X.env (.ref D')) (λ_ s''=>∃ m,s''.heap.Ns C m/\∀ h',Heap.SameBut C s''.heap h'->SP X pins D .next { s'' with heap:=h' }) X.xe s4;refine wpAny_assign_Name (zI8 J4 hN hy (.inl hloc) (v:=.ref D') rfl (λs5 J5 hb=>?_) (.inr hloc));obtain⟨a,sb,ha⟩:=hb;have hCa:C≠a:=by
  rcases ha with z | z
  ·rw[z]; exact hL
  ·exact λe=>hcell y a z e.symm
 refine⟨m4,hn4.sameBut sb hCa,λh' sb'=>⟨_,H3,?_,q4⟩⟩;exact J5.turned (t':=s5.toks) (λb o hb e=>(sb'.2 b hb).trans e) hC hL (.inr hS) hcell hpin
end
end L2

namespace L2
open PySem PySem.Spec PyProof.Rows
theorem zH7:bootBuiltins "enumerate" = some (.type "enumerate"):=by decide +kernel
def Ite(K:PySem.W.Frag)(l:Addr):It :=
 ⟨λk H=>∃ xs x,SqL K H l xs/\xs[k]?=some x,
   λk H v H'=>∃ T x,v=.ref T/\H T=none/\H'=upd H T (.tup [.int k,x])/\∀ xs,SqL K H l xs->xs[k]?=some x,
   λk H=>∃ xs,SqL K H l xs/\xs.length<=k⟩
theorem zNv{P:Program}{w:World}{K:PySem.W.Frag}{elts:List Expr}{kt:Nat}{pt:Pos}{e it l:Addr}(hne:e≠it) :
  zUs P w K (.Tuple elts kt pt) (Ite K l) [e,it] e (λk h=>(∃ old,IsEnum h e it k old)/\h.IsListIter it l k) where
 mem:=by simp
 obj:=λk h st b hb=>by
  obtain⟨⟨old,he⟩,h1⟩:=st;obtain⟨o1,g1,_,d1⟩:=h1;simp only[List.mem_cons,List.not_mem_nil,or_false] at hb;rcases hb with rfl | rfl
  ·exact⟨_,he,λv z=>by cases z⟩
  ·exact⟨_,g1,λv z=>by rw[d1] at z; cases z⟩
 keep:=λk h h' st kp=>by
  obtain⟨⟨old,he⟩,h1⟩:=st;exact⟨⟨old,kp e (by simp) _ he⟩,h1.at λo z=>kp it (by simp) o z⟩
 item:=by
  intro X hP hw hK hc k pins s σ H E I hf st hg;subst hP hw hK;obtain⟨⟨old,he⟩,h1⟩:=st;obtain⟨xs,x,q1,hx⟩:=hg;obtain⟨its,r1,p1,_⟩:=I.list q1;obtain⟨u1,e1,v1⟩:=r1.get hx;have fresh:H s.heap.objs.size=none:=I.hok.fresh (Nat.le_refl _);refine wpAny_pyNext_enum_item he h1 p1.isList (by simpa using e1) hne λh' z1 j1 t1 _ kp=>?_;refine⟨_,rfl,wpAny_letOwnedTupleGo_enum z1 λh2' z2 sb=>?_⟩;have kp2:∀ c o,c ∉ [e,it]->s.heap.get? c=some o->h2'.get? c=some o:=λc o hc q=>by
   simp only[List.mem_cons,List.not_mem_nil,or_false,not_or] at hc;exact sb.extBut c o hc.1 (kp c o hc.1 hc.2 q)
  have neT:∀ b o,s.heap.get? b=some o->b≠s.heap.objs.size:=λb o q=>Nat.ne_of_lt (Heap.lt_size q);have neH:∀ b o,H b=some o->b ∉ [e,it]:=λb o q hb=>by
   rw[(hf b hb).1] at q;cases q
  have upn:∀ b o,H b=some o->upd H s.heap.objs.size (.tup [.int k,x]) b=some o:=λb o q=>by
   rw[yA (xB q fresh)];exact q
  refine⟨.ref s.heap.objs.size,upd H s.heap.objs.size (.tup [.int k,x]),?_,rfl,⟨_,x,rfl,fresh,rfl,λzs hz'=>by rw[I.list_inj hz' q1]; exact hx⟩,?_,λb hb=>?_⟩
  ·refine Inv.step (s:=s) (h':=h2') (g':=s.gens) (d':=s.drawn) (t':=s.toks+1) (ch:=[e,it]) I (λb hb=>?_) (λb o _ _ hc q _=>kp2 b o hc q) (λb o _ _ hc q _=>⟨o.slots,kp2 b o hc q⟩) (λb o _ q n=>?_) (λb o hc q=>⟨o,kp2 b o hc q⟩)
    (λb zs q=>upn b _ q) (λb o zs q=>upn b _ q) (λb ps q=>⟨#[],by rw[upn b _ q]; simp⟩) (λm hm=>?_) (λb o q=>?_) I.bare
   ·obtain⟨_,f1,_,f3,f4,f5⟩:=hf b hb;exact⟨f3,f1,f4,f5⟩
   ·rw[yA (neT b o q)];exact n
   ·obtain⟨o,es,ep,ho,r⟩:=hm;refine⟨o,es,ep,kp2 _ o (λhb=>?_) ho,r⟩;exact(hf _ hb).2.1 rfl
   ·by_cases hb:b=s.heap.objs.size
    ·subst hb;rw[zD] at q;cases q;exact⟨by show 2<=sizeLine; decide,[_,u1],.cons ⟨_,rfl⟩ (.cons v1 .nil),_,sb.extBut _ _ (Nat.ne_of_gt (Heap.lt_size he)) t1,rfl,_,rfl⟩
    ·rw[yA hb] at q;refine(I.hok b o q).stay (λc u hc z=>kp2 c u ?_ z) (λc z=>upn c _ z) λc zs z=>upn c _ z;rcases hc with hc | hc
     ·rw[hc]; exact neH b o q
     ·exact neH c _ hc
  ·exact⟨⟨_,z2⟩,j1.at λo z=>sb.extBut _ o (Ne.symm hne) z⟩
  ·obtain⟨o,q,_⟩:∃ o,s.heap.get? b=some o/\True:=by
    obtain⟨o1,g1,_⟩:=h1;simp only[List.mem_cons,List.not_mem_nil,or_false] at hb;rcases hb with rfl | rfl
    ·exact⟨_,he,trivial⟩
    ·exact⟨_,g1,trivial⟩
   rw[yA (neT b o q)];exact(hf b hb).1
 done:=by
  intro X hP hw hK hc k pins s σ H E I hf st hg;subst hP hw hK;obtain⟨⟨old,he⟩,h1⟩:=st;obtain⟨xs,q1,hend⟩:=hg;obtain⟨its,r1,p1,_⟩:=I.list q1;have l1':=r1.length;refine wpAny_pyNext_enum_end (I.ok.hd hc) he h1 p1.isList (Array.getElem?_eq_none (by rw[List.size_toArray]; lia)) λh' eb=>⟨rfl,?_⟩;obtain⟨f0,f1,f2,f3,f4,f5⟩:=hf it (by simp);exact I.turned (t':=s.toks) (λb o hb q=>eb b o hb q) f0 f1 f3 f4 f5
 self:=λ_ _ _ _ _ st h=>by
  obtain⟨⟨old,he⟩,_⟩:=st;exact wpAny_pyIter_enum he h
section
variable{X:Cx}
def iEnum(K:PySem.W.Frag)(ta:TA):TI:=λσ H R=>ta σ H λvs H1=>∃(l:Addr)(xs:List V),vs=[.ref l]/\H1 l=some (.lst xs)/\R (Ite K l) H1
theorem zT7{elts:List Expr}{kt:Nat}{pt:Pos}{a:Expr}{ta:TA}{p pos:Pos}(hg:Gl X "enumerate")(hm:X.mg "enumerate" = none)(ha:PA X [a] ta)(hs:starEach [a] X.env=[(false,eval a X.env)]:=by rfl) :
  PI X (.Tuple elts kt pt) (.Call (.Name "enumerate" p) [a] [] pos) (iEnum X.K ta):=by
 intro pins s σ H R I h;refine Call_ (zGn I hg hm zH7 (PyProof.Rows.callWith_type1 (thn (ha pos pins s σ H _ I h) λus s1 ⟨vs,H1,I1,r1,q1⟩=>?_) hs rfl));obtain⟨l,xs,e,hl,q⟩:=q1;subst e;obtain⟨u1,rfl,v1⟩:=yW.one r1;cases v1;obtain⟨_,its,n,_,_,eo⟩:=I1.lstM hl;refine call_enumerate_1 eo λh' he hi _ kp=>?_;refine wpAny_pyIter_enum he ?_;refine⟨_,_,_,_,H1,rfl,I1.kept (t':=s1.toks) kp,zNv (Nat.succ_ne_self _),⟨⟨_,he⟩,hi⟩,λb hb=>?_,q⟩;have hge:s1.heap.objs.size<=b:=by
  simp only[List.mem_cons,List.not_mem_nil,or_false] at hb;rcases hb with rfl | rfl <;> lia
 exact I1.fpOk hge (I1.hok.fresh hge)
end
section
variable{K:PySem.W.Frag}{l D:Addr}{xs:List V}{g:TG}{tt:TT}{te:TE}{σ0:St}{H1:Hp}{Q:VK}
theorem zOh(Pv:Nat->St->List V->Hp->Prop)(h0:Pv 0 σ0 [] (upd H1 D (.lst [])))(hl:∀ i σ zs H,Pv i σ zs H->SqL K H l xs/\H D=some (.lst zs))
  (hs:∀ i x T σ zs H,xs[i]?=some x->H T=none->Pv i σ zs H->g (.ref T) σ (upd H T (.tup [.int i,x])) λσ2 H2=>tt σ2 H2 λb H3 =>
   if b=true then te σ2 H3 λz H4=>H4 D=some (.lst zs)/\zs.length<sizeLine/\Pv (i+1) σ2 (zs++[z]) (upd H4 D (.lst (zs++[z]))) else Pv (i+1) σ2 zs H3)
  (hd:∀ σ zs H,Pv xs.length σ zs H->Q (.ref D) H):zEc (Ite K l) D g tt te σ0 H1 Q:=by
 exists λi m σ zs H=>m=xs.length-i/\i<=xs.length/\Pv i σ zs H,⟨_,rfl,Nat.zero_le _,h0⟩;rintro i m σ zs H ⟨rfl,hi,p⟩;obtain⟨q1,qd⟩:=hl i σ zs H p;exists qd;by_cases hlt:i<xs.length
 ·refine .inr ⟨⟨xs,xs[i],q1,by simp[hlt]⟩,Pv (i+1),λσ' zs' H' z=>⟨xs.length-(i+1),by lia,rfl,hlt,z⟩,λv H' y=>?_⟩;obtain⟨T,x,rfl,hT,rfl,y1⟩:=y;exact hs i x T σ zs H (y1 xs q1) hT p
 ·have e:i=xs.length:=by lia
  subst e;exact .inl ⟨⟨xs,q1,Nat.le_refl _⟩,hd σ zs H p⟩
end
end L2

namespace L2
open PySem PySem.Spec PyProof.Rows
theorem zEi{xs:List V}{us:List Value}(r:yW xs us):∀ is:List Nat,yW (is.filterMap λi=>xs[i]?) (is.filterMap λi=>us[i]?)
 | []=>.nil
 | i::is=>by
  cases e:xs[i]? with
  | none =>
   rw[List.filterMap_cons_none e,List.filterMap_cons_none (yW.none_of r e)];exact zEi r is
  | some x =>
   obtain⟨u,eu,ru⟩:=r.get e;rw[List.filterMap_cons_some e,List.filterMap_cons_some eu];exact .cons ru (zEi r is)
theorem zRe{xs:List V}{is:List Nat}{y:V}(h:y∈is.filterMap λi=>xs[i]?):y∈xs:=by
 obtain⟨i,_,e⟩:=List.mem_filterMap.mp h;exact List.mem_of_getElem? e
theorem zPg(its:List Value)(lo hi st:Option Int):slicePick its.toArray lo hi st=((sliceRange (sliceBounds lo hi st its.length).1 (sliceBounds lo hi st its.length).2.1 (sliceBounds lo hi st its.length).2.2).filterMap λi=>its[i]?).toArray:=by
 unfold slicePick;simp only[List.size_toArray,List.getElem?_toArray]
section
variable{X:Cx}{e:Expr}{te:TE}{lo hi:Option Expr}{st:Expr}{tl th ts:TO}{pos p2:Pos}
def tSlS(K:PySem.W.Frag)(te:TE)(tl th ts:TO):TE:=λσ H Q=>te σ H λx H1=>tl σ H1 λl H2=>th σ H2 λu H3=>ts σ H3 λk H4 =>
 ∃ a xs,x=.ref a/\SqL K H4 a xs/\k≠some 0/\∀ p ys,H4 p=none->(∀ y∈ys,y∈xs)->ys.length<=xs.length->Q (.ref p) (upd H4 p (.lst ys))
theorem zN4(he:PE X e te)(hl:PO X lo tl)(hu:PO X hi th)(hk:PO X (some st) ts):PE X (.Subscript e (.Slice lo hi (some st) p2) pos) (tSlS X.K te tl th ts):=by
 intro pins s σ H Q I h;refine Subscript_ (thn (he pins s σ H _ I h) λv s1 ⟨x,H1,I1,r1,q1⟩=>?_);refine wpAny_Slice (thn (hl pins s1 σ H1 _ I1 q1) λvl s2 ⟨l,H2,I2,pl,q2⟩=>thn (hu pins s2 σ H2 _ I2 q2) λvu s3 ⟨u,H3,I3,pu,q3⟩=>thn (hk pins s3 σ H3 _ I3 q3) λvk s4 ⟨k,H4,I4,pk,q4⟩=>?_);obtain⟨a,xs,rfl,hx,h0,q⟩:=q4;cases r1;have I5:Inv X pins σ H4 { s4 with heap:=s4.heap.push { cls:=.type "slice", data:=.fields #[vl,vu,vk] } }:=I4.kept (t':=s4.toks) λb ob q=>Heap.get?_push_of_some _ q;obtain⟨its,r,ht,hz⟩:=I5.list hx;have hlen:=r.length;show wpAny (model X.prog X.w) X.A (subscriptTail e (.Slice lo hi (some st) p2) (.ref a) (.ref s4.heap.objs.size)) (EP X pins σ Q) X.xe { s4 with heap:=s4.heap.push { cls:=.type "slice", data:=.fields #[vl,vu,vk] } };refine tail_any (ops:=[.ref a,.ref s4.heap.objs.size]) ht.isList.typeIs slot_list_getitem.lookup ?_ (by with_unfolding_all rfl);refine wpAny_getItem_list_slice ht.isList (Heap.IsSliceOf.new ..) pl pu pk h0 ?_ (by rw[List.size_toArray] <;> lia);have rp:=zEi r (sliceRange (sliceBounds l u k its.length).1 (sliceBounds l u k its.length).2.1 (sliceBounds l u k its.length).2.2);have hz2:=slicePick_size_le its.toArray l u k;rw[zPg,List.size_toArray,List.size_toArray] at hz2;have hsz:=Nat.le_trans (Nat.le_of_eq rp.length) (Nat.le_trans hz2 (Nat.le_of_eq hlen.symm));rw[zPg];refine⟨.ref _,_,I5.laid (t':=s4.toks) (o:=.lst _) (λb ob q=>Heap.get?_push_of_some _ q) (Nat.le_refl _) ?_,rfl,q _ _ (I5.hok.fresh (Nat.le_refl _)) (λy hy=>zRe hy) hsz⟩;exact⟨Nat.le_trans hsz hz,_,0,rp,Heap.get?_push_size _ rfl⟩
end
theorem zHm:∀{rs:List Addr}{us:List Value},yW (rs.map V.ref) us->us=rs.map Value.ref
 | [],_,r=>by cases r; rfl
 | a::rs,_,r=>by
  cases r with
  | cons r1 r2 =>
   cases r1;rw[zHm r2];rfl
section
variable{X:Cx}
theorem qU(n:Nat):(List.range n).all (λ_=>true)=true:=List.all_eq_true.mpr λ_ _=>rfl
end
theorem zZ.putNew{H H4:Hp}{D:Addr}{o:HO}(s:zZ H H4)(h:H D=none):zZ H (upd H4 D o):=λb u q=>by
 rw[yA (xB q h)];exact s _ _ q
abbrev Pr:=Addr×Int×Int
abbrev zL(ps:List Pr):List V:=(ps.map (·.1)).map V.ref
def qM(H:Hp)(M:Nat)(ps:List Pr):Prop:=∀ t∈ps,H t.1=some (.tup [.int t.2.1,.int t.2.2])/\t.2.1.natAbs<=M/\t.2.2.natAbs<=M
theorem qM.same{H H':Hp}{M:Nat}{ps:List Pr}(h:qM H M ps)(s:zZ H H'):qM H' M ps:=λt ht=>⟨s _ _ (h t ht).1,(h t ht).2⟩
theorem qM.app{H:Hp}{M:Nat}{ps qs:List Pr}(h:qM H M ps)(g:qM H M qs):qM H M (ps++qs):=λt ht=>(List.mem_append.mp ht).elim (h t) (g t)
theorem qM.sub{H:Hp}{M:Nat}{ps qs:List Pr}(h:qM H M ps)(g:∀ t∈qs,t∈ps):qM H M qs:=λt ht=>h t (g t ht)
theorem zQ(ps:List Pr):(zL ps).length=ps.length:=by simp[zL]
theorem wQ(ps qs:List Pr):zL (ps++qs)=zL ps++zL qs:=by simp[zL]
theorem qY{ps:List Pr}{i:Nat}{k:Int}(e:k=i)(h:i<ps.length):∃ t,t∈ps/\ps[i]?=some t/\atI (zL ps) k=some (.ref t.1):=by
 refine⟨ps[i],List.getElem_mem h,List.getElem?_eq_getElem h,?_⟩;rw[e];exact sW (by rw[List.getElem?_map,List.getElem?_map,List.getElem?_eq_getElem h] <;> rfl)
theorem zKa{ps:List Pr}{i:Nat}{k:Int}(e:k=(i:Int)-ps.length)(h:i<ps.length):∃ t,t∈ps/\ps[i]?=some t/\atI (zL ps) k=some (.ref t.1):=by
 refine⟨ps[i],List.getElem_mem h,List.getElem?_eq_getElem h,?_⟩;unfold atI ixN;rw[zQ,if_neg (by lia),if_pos (by lia),show(k+(ps.length:Int)).toNat=i by lia];show(zL ps)[i]?=_;rw[List.getElem?_map,List.getElem?_map,List.getElem?_eq_getElem h];rfl
theorem zCa(ps:List Pr)(n:Nat):qJ (zL ps) none (some (n:Int))=zL (ps.take n):=by
 unfold qJ;rw[show HT.sIx (zL ps).length 0 none=0 from rfl,HT.sIx_nat (zL ps).length (zL ps).length n,List.drop_zero,Nat.sub_zero];rw[zQ];simp only[zL,<- List.map_take]
 congr 2
 rw[List.take_eq_take_iff];lia
theorem zCu:∀{xs ys:List Int},xs.map V.int=ys.map V.int->xs=ys
 | [],[],_=>rfl
 | [],_::_,h=>nomatch h
 | _::_,[],h=>nomatch h
 | x::xs,y::ys,h=>by
  rw[List.map_cons,List.map_cons] at h;injection h with h1 h2
  rw[V.int.inj h1,zCu h2]
section
variable{X:Cx}
theorem zIh{pins:List (Addr×Obj)}{s:Shared}{σ:St}{H:Hp}(I:Inv X pins σ H s){A:Around}(hu:A.units<cLine){a b:Addr}{xs ys:List Int}(h1:H a=some (.tup (xs.map V.int)))(h2:H b=some (.tup (ys.map V.int))) :
  SeqAt.EqAt A s (.ref a) (.ref b) (decide (xs=ys)):=by
 by_cases e:a=b
 ·subst e;rw[h1] at h2;have z:xs=ys:=zCu (by injection (Option.some.inj h2));rw[decide_eq_true z];exact SeqAt.EqAt.same _
 ·obtain⟨us,r1,p1,_⟩:=I.tuple (SqT.of h1);obtain⟨ws,r2,p2,_⟩:=I.tuple (SqT.of h2);have q:=SeqAt.RcAt.tuples (A:=A) (s:=s) (l:=a) (b:=b) (items:=us.toArray) (items2:=ws.toArray) (e:=λj=>decide (xs[j]?=ys[j]?)) p1 p2 hu (zSo r1 r2);have l1:=r1.length;have l2:=r2.length;rw[List.length_map] at l1 l2;rw[List.size_toArray,List.size_toArray,<- l1,<- l2,zOj] at q;exact SeqAt.EqAt.of_refs e q
end
end L2

namespace L2
open PySem
def crs(p q r:Int×Int):Int:=(q.1-p.1)*(r.2-p.2)-(q.2-p.2)*(r.1-p.1)
theorem zUv{a n:Nat}(h:a<2*n):a%n=if a<n then a else a-n:=by
 by_cases h':a<n
 ·rw[if_pos h',Nat.mod_eq_of_lt h']
 ·rw[if_neg h',Nat.mod_eq_sub_mod (by lia),Nat.mod_eq_of_lt (by lia)]
def zDk:Int×Int->List (Int×Int)->List (Int×Int)
 | _,[]=>[]
 | h,d::ds=>h::zDk (h.1+d.1,h.2+d.2) ds
def zR4:Int×Int->List (Int×Int)->Int×Int
 | h,[]=>h
 | h,d::ds=>zR4 (h.1+d.1,h.2+d.2) ds
theorem zGa:∀(ds:List (Int×Int))(h d:Int×Int),zDk h (ds++[d])=zDk h ds++[zR4 h ds]
 | [],_,_=>rfl
 | e::ds,h,d=>by
  show h::zDk _ (ds++[d])=h::(zDk _ ds++[zR4 _ ds]);rw[zGa ds]
theorem zHx:∀(ds:List (Int×Int))(h d:Int×Int),zR4 h (ds++[d])=((zR4 h ds).1+d.1,(zR4 h ds).2+d.2)
 | [],_,_=>rfl
 | e::ds,h,d=>by
  show zR4 _ (ds++[d])=_;rw[zHx ds];rfl
theorem zDd:∀(ds:List (Int×Int))(h:Int×Int),(zDk h ds).length=ds.length
 | [],_=>rfl
 | e::ds,h=>by
  show(zDk _ ds).length+1=ds.length+1;rw[zDd ds]
def zFq(x y p q:Int):Nat->List (Int×Int)
 | 0=>[(x,y),(p-x,q-y),(-p,-q)]
 | 1=>[(x,y),(p,q),(-x,-y),(-p,-q)]
 | 2=>[(2*x,2*y),(p,q),(p-x,q-y),(-x,-y),(-2*p,-2*q)]
 | 3=>[(x,y),(x+p,y+q),(p,q),(-x,-y),(-x-p,-y-q),(-p,-q)]
 | 4=>[(x,y),(2*x+p,2*y+q),(x+2*p,y+2*q),(p,q),(-x,-y),(-2*x-p,-2*y-q),(-x-3*p,-y-3*q)]
 | _=>[(x,y),(2*x+p,2*y+q),(x+2*p,y+2*q),(p,q),(-x,-y),(-2*x-p,-2*y-q),(-x-2*p,-y-2*q),(-p,-q)]
def qB:Nat->List (Int×Int)
 | 0=>[(0,0),(1,0),(0,1)]
 | 1=>[(0,0),(1,0),(1,1),(0,1)]
 | 2=>[(0,0),(2,0),(2,1),(1,2),(0,2)]
 | 3=>[(0,0),(1,0),(2,1),(2,2),(1,2),(0,1)]
 | 4=>[(0,0),(1,0),(3,1),(4,3),(4,4),(3,4),(1,3)]
 | _=>[(0,0),(1,0),(3,1),(4,3),(4,4),(3,4),(1,3),(0,1)]
def zQh(c:Nat)(hx hy x y p q:Int):List (Int×Int):=(qB c).map λab=>(hx+ab.1*x+ab.2*p,hy+ab.1*y+ab.2*q)
theorem six{c:Nat}(h:c<6):c=0\/c=1\/c=2\/c=3\/c=4\/c=5:=by lia
theorem zK7{c:Nat}(hc:c<6)(hx hy x y p q:Int):zDk (hx,hy) (zFq x y p q c)=zQh c hx hy x y p q:=by
 rcases six hc with rfl | rfl | rfl | rfl | rfl | rfl <;>
  simp only[zFq,zQh,qB,zDk,List.map_cons,List.map_nil,List.cons.injEq,Prod.mk.injEq,and_true,true_and] <;> lia
theorem zBl{c:Nat}(hc:c<6):3<=(qB c).length/\(qB c).length<=8:=by
 rcases six hc with rfl | rfl | rfl | rfl | rfl | rfl <;> exact⟨by decide,by decide⟩
def zDm(vs:List (Int×Int)):Prop:=∃(c k:Nat)(hx hy x y p q:Int),c<6/\k<(qB c).length/\0<x*q-y*p/\vs=(zQh c hx hy x y p q).drop k++(zQh c hx hy x y p q).take k
theorem zDm.len{vs:List (Int×Int)}(h:zDm vs):3<=vs.length/\vs.length<=8:=by
 obtain⟨c,k,hx,hy,x,y,p,q,hc,hk,_,rfl⟩:=h;have:=zBl hc;rw[List.length_append,List.length_drop,List.length_take];unfold zQh;rw[List.length_map];lia
end L2

namespace Sea
open PySem L2
theorem zTt(a b c d x y p q:Int):(a*x+b*p)*(c*y+d*q)-(a*y+b*q)*(c*x+d*p)=(a*d-b*c)*(x*q-y*p):=by
 simp only[Int.mul_sub,Int.sub_mul,Int.mul_add,Int.add_mul,Int.mul_comm,Int.mul_left_comm];lia
theorem zUq(hx a b a' b' x p:Int):(hx+a*x+b*p)-(hx+a'*x+b'*p)=(a-a')*x+(b-b')*p:=by
 rw[Int.sub_mul,Int.sub_mul];lia
def zXa(u v w:Int×Int):Int:=(v.1-u.1)*(w.2-u.2)-(v.2-u.2)*(w.1-u.1)
theorem zQq(hx hy x y p q:Int)(u v w:Int×Int):crs (hx+u.1*x+u.2*p,hy+u.1*y+u.2*q) (hx+v.1*x+v.2*p,hy+v.1*y+v.2*q) (hx+w.1*x+w.2*p,hy+w.1*y+w.2*q)=zXa u v w*(x*q-y*p):=by
 unfold crs zXa;simp only[zUq];exact zTt _ _ _ _ _ _ _ _
def atP(vs:List (Int×Int))(i:Nat):Int×Int:=(vs[i]?).getD (0,0)
theorem zQu:∀ c<6,∀ i<(qB c).length,∀ k<(qB c).length,k≠i->k≠(i+1)%(qB c).length->0<zXa (atP (qB c) i) (atP (qB c) ((i+1)%(qB c).length)) (atP (qB c) k):=by decide +kernel
theorem zKj{c:Nat}{hx hy x y p q:Int}{i:Nat}(h:i<(qB c).length):atP (zQh c hx hy x y p q) i=(hx+(atP (qB c) i).1*x+(atP (qB c) i).2*p,hy+(atP (qB c) i).1*y+(atP (qB c) i).2*q):=by
 unfold atP zQh;rw[List.getElem?_map,List.getElem?_eq_getElem h];rfl
theorem zPx{vs:List (Int×Int)}{k j:Nat}(hk:k<vs.length)(hj:j<vs.length):atP (vs.drop k++vs.take k) j=atP vs ((j+k)%vs.length):=by
 unfold atP
 congr 1
 rw[zUv (by lia)];by_cases h:j<vs.length-k
 ·rw[List.getElem?_append_left (by rw[List.length_drop]; exact h),List.getElem?_drop,if_pos (by lia),Nat.add_comm]
 ·rw[List.getElem?_append_right (by rw[List.length_drop]; lia),List.length_drop,List.getElem?_take,if_pos (by lia),if_neg (by lia)]
  congr 1
  lia
theorem zIj{vs:List (Int×Int)}(h:zDm vs){i k:Nat}(hi:i<vs.length)(hk:k<vs.length)(h1:k≠i)(h2:k≠(i+1)%vs.length):0<crs (atP vs i) (atP vs ((i+1)%vs.length)) (atP vs k):=by
 obtain⟨c,r,hx,hy,x,y,p,q,hc,hr,tp,rfl⟩:=h;have hn:(zQh c hx hy x y p q).length=(qB c).length:=List.length_map _;have e:((zQh c hx hy x y p q).drop r++(zQh c hx hy x y p q).take r).length=(qB c).length:=by
  rw[List.length_append,List.length_drop,List.length_take,hn];lia
 have n3:=zBl hc;rw[e] at hi hk h2 ⊢;have hm:(i+1)%(qB c).length<(qB c).length:=Nat.mod_lt _ (by lia);rw[zPx (by lia) (by lia),zPx (by lia) (by lia),zPx (by lia) (by lia),hn];have hi':(i+r)%(qB c).length<(qB c).length:=Nat.mod_lt _ (by lia);have hk':(k+r)%(qB c).length<(qB c).length:=Nat.mod_lt _ (by lia);have hm':((i+1)%(qB c).length+r)%(qB c).length<(qB c).length:=Nat.mod_lt _ (by lia);rw[zKj hi',zKj hm',zKj hk',zQq];have em:((i+1)%(qB c).length+r)%(qB c).length=((i+r)%(qB c).length+1)%(qB c).length:=by
  rw[Nat.mod_add_mod,Nat.mod_add_mod]
  congr 1
  lia
 have inj:∀ a b:Nat,a<(qB c).length->b<(qB c).length->(a+r)%(qB c).length=(b+r)%(qB c).length->a=b:=λa b ha hb z=>by
  rw[zUv (by lia),zUv (by lia)] at z;split at z <;> split at z <;> lia
 refine Int.mul_pos ?_ tp;rw[em];refine zQu c hc _ hi' _ hk' (λz=>h1 (inj _ _ hk hi z)) λz=>h2 (inj _ _ hk hm ?_);rw[z,em]
def yT(u v:Int×Int):List Int:=[v.2-u.2,-(v.1-u.1),u.1*(v.2-u.2)-u.2*(v.1-u.1)]
theorem zRn(u v r:Int×Int):(v.2-u.2)*r.1 + -(v.1-u.1)*r.2-(u.1*(v.2-u.2)-u.2*(v.1-u.1)) = -(crs u v r):=by
 unfold crs;rw[Int.neg_mul];simp only[Int.mul_sub,Int.sub_mul,Int.mul_comm];lia
theorem zSu{D0 D1 D2 x y:Int}(gp:0<yD [D0,D1,D2]):(D0/(yD [D0,D1,D2]:Int)*x+D1/(yD [D0,D1,D2]:Int)*y-D2/(yD [D0,D1,D2]:Int))*(yD [D0,D1,D2]:Int)=D0*x+D1*y-D2:=by
 have e0:=yL (ns:=[D0,D1,D2]) (n:=D0) (by simp);have e1:=yL (ns:=[D0,D1,D2]) (n:=D1) (by simp);have e2:=yL (ns:=[D0,D1,D2]) (n:=D2) (by simp);generalize (yD [D0,D1,D2]:Int)=g at e0 e1 e2;rw[Int.sub_mul,Int.add_mul,Int.mul_right_comm,e0,Int.mul_right_comm,e1,e2]
theorem zVj{D0 D1 D2 x y:Int}(gp:0<yD [D0,D1,D2])(h:D0*x+D1*y-D2=0):D0/(yD [D0,D1,D2]:Int)*x+D1/(yD [D0,D1,D2]:Int)*y=D2/(yD [D0,D1,D2]:Int):=by
 have e:=zSu (x:=x) (y:=y) gp;rw[h] at e;rcases Int.mul_eq_zero.mp e with z | z
 ·lia
 ·lia
theorem zWi{D0 D1 D2 x y:Int}(gp:0<yD [D0,D1,D2])(h:D0*x+D1*y-D2<0):D0/(yD [D0,D1,D2]:Int)*x+D1/(yD [D0,D1,D2]:Int)*y<D2/(yD [D0,D1,D2]:Int):=by
 have e:=zSu (x:=x) (y:=y) gp;rw[<- e] at h;by_cases z:D0/(yD [D0,D1,D2]:Int)*x+D1/(yD [D0,D1,D2]:Int)*y<D2/(yD [D0,D1,D2]:Int)
 ·exact z
 ·have z2:=Int.mul_nonneg (show 0<=D0/(yD [D0,D1,D2]:Int)*x+D1/(yD [D0,D1,D2]:Int)*y-D2/(yD [D0,D1,D2]:Int) by lia) (show(0:Int)<=(yD [D0,D1,D2]:Int) by lia);lia
end Sea

namespace PySem.W
open PySem PySem.Calls PyProof.Rows
def vW{α:Type}(n:Nat)(lt:Nat->Nat->Bool):KasT α->(α->Prop)->Prop
 | .ret a,Q=>Q a
 | .ask i j k,Q=>i<n/\j<n/\vW n lt (k (lt i j)) Q
theorem vW.bind{α β:Type}{n:Nat}{lt:Nat->Nat->Bool}{f:α->KasT β}{Q:β->Prop} : ∀{t:KasT α},vW n lt t (λa=>vW n lt (f a) Q)->vW n lt (t.bind f) Q
 | .ret _,h=>h
 | .ask _ _ _,h=>⟨h.1,h.2.1,vW.bind h.2.2⟩
theorem vW.wp{α:Type}{n:Nat}{lt:Nat->Nat->Bool}{cmp:Nat->Nat->(Bool->Shared->Prop)->Shared->Prop}{P:α->Prop}{Q:α->Shared->Prop}{s:Shared}
  (hc:∀ i j (C:Bool->Shared->Prop),i<n->j<n->C (lt i j) s->cmp i j C s) (hq:∀ a,P a->Q a s):∀{t:KasT α},vW n lt t P->t.kasWp cmp Q s
 | .ret a,h=>hq a h
 | .ask i j _,h=>hc i j _ h.1 h.2.1 (vW.wp hc hq h.2.2)
section
variable{O:KeyOrd}(key:Nat->O.α)
def KP(p:Array Nat)(i:Nat):O.α:=key (p.getD i 0)
def SoT(p:Array Nat)(k:Nat):Prop:=∀ i j,i<=j->j<k->O.kle (KP key p i) (KP key p j)
def NiT(p:Array Nat)(k:Nat):Prop:=∀ i j,i<=j->j<k->O.kle (KP key p j) (KP key p i)
structure PIn(n:Nat)(p:Array Nat):Prop where
 perm:p.Perm (List.toArray (List.range n))
variable{key}{n:Nat}
theorem PIn.size{p:Array Nat}(h:PIn n p):p.size=n:=by rw[h.perm.size_eq]; simp
theorem PIn.lt{p:Array Nat}(h:PIn n p){i:Nat}(hi:i<n):p.getD i 0<n:=by
 have hs:=h.size;have e:p.getD i 0=p[i]'(by lia):=by simp[Array.getD,show i<p.size by lia]
 rw[e];have hm:p[i]'(by lia)∈p.toList:=by simp
 have:=(Array.perm_iff_toList_perm.mp h.perm).mem_iff.mp hm;simpa using this
theorem PIn.rev{p:Array Nat}(h:PIn n p)(i j:Nat):PIn n (kas_rev p i j):=⟨(mirror_perm _ _ _ _).trans h.perm⟩
theorem PIn.bub{p:Array Nat}(h:PIn n p)(i j:Nat):PIn n (bubble p i j):=⟨(bubble_perm _ _ _).trans h.perm⟩
theorem zCh{p q:Array Nat}{i j:Nat}(h:p[i]?=q[j]?):KP key p i=KP key q j:=by
 unfold KP; rw[Array.getD_eq_getD_getElem?,Array.getD_eq_getD_getElem?,h]
theorem zSj{p:Array Nat}{src d:Nat}(hs:src<p.size)(hd:d<=src)(k:Nat) :
  KP key (bubble p src d) k=if k=src-d then KP key p src else if src-d<k/\k<=src then KP key p (k-1) else KP key p k:=by
 have e:=getElem?_bubble hs d hd k;split
 ·rename_i h; rw[if_pos h] at e; exact zCh e
 ·rename_i h
  rw[if_neg h] at e;split
  ·rename_i h2; rw[if_pos h2] at e; exact zCh e
  ·rename_i h2; rw[if_neg h2] at e; exact zCh e
theorem zOu{p:Array Nat}{i j:Nat}(hj:j<=p.size)(k:Nat):KP key (kas_rev p i j) k=if i<=k/\k<j then KP key p (i+j-1-k) else KP key p k:=by
 have e:=getElem?_mirror_all (i:=i) hj k;split
 ·rename_i h; rw[if_pos h] at e; exact zCh e
 ·rename_i h; rw[if_neg h] at e; exact zCh e
theorem zAj{p:Array Nat}{i j:Nat}(hj:j<=p.size)(he:∀ k,i<=k->k<j->KP key p k=KP key p (j-1))(k:Nat):KP key (kas_rev p i j) k=KP key p k:=by
 rw[zOu hj];split
 ·rw[he _ (by lia) (by lia),he k (by lia) (by lia)]
 ·rfl
abbrev ltK(key:Nat->O.α)(i j:Nat):Bool:=O.blt (key i) (key j)

theorem zTi{p:Array Nat} : SoT key p 1:=by
 intro i j hij hj;have e:i=j:=by lia
 subst e;exact KeyOrd.kle_refl _
theorem zKe{p:Array Nat}(hp:PIn n p){Q:Nat->Prop} : ∀(f a:Nat),1<=a->a+f<=n->SoT key p a ->
  (∀ m,a<=m->m<=a+f->SoT key p m->(m=a+f\/O.klt (KP key p m) (KP key p (m-1)))->Q m)->vW n (ltK key) (kas_asc p f a) Q
 | 0,a,_,_,hs,q=>q a (Nat.le_refl _) (by lia) hs (.inl rfl)
 | f+1,a,h1,hn,hs,q=>by
  exists hp.lt (by lia),hp.lt (by lia);dsimp only;by_cases hl:ltK key (p.getD a 0) (p.getD (a-1) 0)=true
  ·rw[if_pos hl];exact q a (Nat.le_refl _) (by lia) hs (.inr hl)
  ·rw[if_neg hl];refine zKe hp f (a+1) (by lia) (by lia) (λi j hij hj=>?_) λm m1 m2 hm ho=>q m (by lia) (by lia) hm (ho.imp (by lia) id);by_cases hja:j<a
   ·exact hs i j hij hja
   ·have hj':j=a:=by lia
    subst hj';by_cases hi:i=j
    ·subst hi; exact KeyOrd.kle_refl _
    ·exact KeyOrd.kle_trans (hs i (j-1) (by lia) (by lia)) (KeyOrd.kle_of_not_klt hl)

theorem zIr{p:Array Nat}(hp:PIn n p){m:Nat}{Q:Nat×Array Nat->Prop}(h1:1<=m)(hm:m<=n)(hs:NiT key p m)
  (q:∀ k p',PIn n p'->1<=k->k<=n->SoT key p' k->Q (k,p')):vW n (ltK key) (kas_tail3 m n p) Q:=by
 have hz:m<=p.size:=by rw[hp.size]; exact hm
 refine vW.bind (zKe (hp.rev 0 m) (n-m) m h1 (by lia) (λi j hij hj=>?_) λk k1 k2 hk _=>q k _ (hp.rev 0 m) (by lia) (by lia) hk);rw[zOu hz,zOu hz,if_pos (by lia),if_pos (by lia)];exact hs _ _ (by lia) (by lia)

theorem zDs{Q:Array Nat×Nat×Nat->Prop} : ∀(f:Nat)(p:Array Nat)(a e:Nat),PIn n p->1<=a->a+f=n->NiT key p a->e+1<=a->(∀ i,a-(e+1)<=i->i<a->KP key p i=KP key p (a-1)) ->
  (∀ p' m e',PIn n p'->1<=m->m<=n->NiT key p' m->e'+1<=m->(∀ i,m-(e'+1)<=i->i<m->KP key p' i=KP key p' (m-1))->Q (p',m,e'))->vW n (ltK key) (kas_desc f p a e) Q
 | 0,p,a,e,hp,h1,hf,hs,he,heq,q=>q p a e hp h1 (by lia) hs he heq
 | f+1,p,a,e,hp,h1,hf,hs,he,heq,q=>by
  have hz:a<=p.size:=by rw[hp.size]; lia
  exists hp.lt (by lia),hp.lt (by lia);dsimp only;by_cases hl:ltK key (p.getD a 0) (p.getD (a-1) 0)=true
  ·rw[if_pos hl];have step:∀ p',(∀ k,KP key p' k=KP key p k)->NiT key p' (a+1):=by
    intro p' hk i j hij hj;rw[hk,hk];by_cases hja:j<a
    ·exact hs i j hij hja
    ·have hj':j=a:=by lia
     subst hj';by_cases hi:i=j
     ·subst hi; exact KeyOrd.kle_refl _
     ·exact KeyOrd.kle_trans (KeyOrd.kle_of_klt hl) (hs i (j-1) (by lia) (by lia))
   split
   ·exact zDs f _ (a+1) 0 (hp.rev _ _) (by lia) (by lia) (step _ (zAj hz heq)) (by lia) (λi i1 i2=>by congr 1; lia) q
   ·exact zDs f p (a+1) 0 hp (by lia) (by lia) (step _ λ_=>rfl) (by lia) (λi i1 i2=>by congr 1; lia) q
  ·rw[if_neg hl];exists hp.lt (by lia),hp.lt (by lia);dsimp only;by_cases hg:ltK key (p.getD (a-1) 0) (p.getD a 0)=true
   ·rw[if_pos hg];exact q p a e hp h1 (by lia) hs he heq
   ·rw[if_neg hg];have ee:KP key p a=KP key p (a-1):=KeyOrd.kle_antisymm (KeyOrd.kle_of_not_klt hg) (KeyOrd.kle_of_not_klt hl);refine zDs f p (a+1) (e+1) hp (by lia) (by lia) (λi j hij hj=>?_) (by lia) (λi i1 i2=>?_) q
    ·by_cases hja:j<a
     ·exact hs i j hij hja
     ·have hj':j=a:=by lia
      subst hj';by_cases hi:i=j
      ·subst hi; exact KeyOrd.kle_refl _
      ·rw[ee]; exact hs i (j-1) (by lia) (by lia)
    ·rw[show a+1-1=a by lia];by_cases hi:i=a
     ·rw[hi]
     ·rw[ee]; exact heq i (by lia) (by lia)

theorem zC7{p:Array Nat}(hp:PIn n p){m:Nat}{Q:Nat×Array Nat->Prop}(hm:m+1<=n)(hs:NiT key p (m+1))
  (q:∀ k p',PIn n p'->1<=k->k<=n->SoT key p' k->Q (k,p')):vW n (ltK key) (kas_descPart m n p) Q:=by
 refine vW.bind (zDs (n-(m+1)) p (m+1) 0 hp (by lia) (by lia) hs (by lia) (λi i1 i2=>by congr 1; lia) λp' k e hp' k1 k2 hs' he heq=>?_);have hz:k<=p'.size:=by rw[hp'.size]; exact k2
 dsimp only;split
 ·refine zIr (hp'.rev _ _) k1 k2 (λi j hij hj=>?_) q;rw[zAj hz heq,zAj hz heq];exact hs' i j hij hj
 ·exact zIr hp' k1 k2 hs' q

theorem zNw{p:Array Nat}(hp:PIn n p){Q:Nat×Array Nat->Prop}(hn:1<=n)
  (q:∀ k p',PIn n p'->1<=k->k<=n->SoT key p' k->Q (k,p')):vW n (ltK key) (kas_count n p) Q:=by
 refine vW.bind (zKe hp (n-1) 1 (Nat.le_refl _) (by lia) zTi λm m1 m2 hm ho=>?_);have hz:m<=p.size:=by rw[hp.size]; lia
 by_cases hmn:m=n
 ·rw[if_pos (by simpa using hmn)];exact q m p hp m1 (by lia) hm
 ·rw[if_neg (by simpa using hmn)];have hlt:O.klt (KP key p m) (KP key p (m-1)):=ho.resolve_left (by lia);split
  ·exists hp.lt (by lia),hp.lt (by lia);dsimp only;by_cases hr:ltK key (p.getD 0 0) (p.getD (m-1) 0)=true
   ·rw[if_pos hr];exact q m p hp m1 (by lia) hm
   ·rw[if_neg hr];have hall:∀ k,0<=k->k<m->KP key p k=KP key p (m-1):=by
     intro k _ hk;have a1:=hm 0 k (by lia) hk;have a2:=hm k (m-1) (by lia) (by lia);exact KeyOrd.kle_antisymm a2 (KeyOrd.kle_trans (KeyOrd.kle_of_not_klt hr) a1)
    refine zC7 (hp.rev _ _) (by lia) (λi j hij hj=>?_) q;rw[zAj hz hall,zAj hz hall];by_cases hjm:j<m
    ·rw[hall i (by lia) (by lia),hall j (by lia) hjm]; exact KeyOrd.kle_refl _
    ·have hj':j=m:=by lia
     subst hj';by_cases hi:i=j
     ·subst hi; exact KeyOrd.kle_refl _
     ·rw[hall i (by lia) (by lia)]; exact KeyOrd.kle_of_klt hlt
  ·have hm1:m=1:=by lia
   subst hm1;refine zC7 hp (by lia) (λi j hij hj=>?_) q;by_cases hi:i=j
   ·subst hi; exact KeyOrd.kle_refl _
   ·have hi0:i=0:=by lia
    have hj1:j=1:=by lia
    subst hi0; subst hj1;exact KeyOrd.kle_of_klt hlt

theorem zE2{p:Array Nat}(hp:PIn n p){k:Nat}(hk:k<n)(hs:SoT key p k){Q:Nat->Prop}
  (q:∀ l,l<=k->(∀ i,i<l->O.kle (KP key p i) (KP key p k))->(∀ i,l<=i->i<k->O.klt (KP key p k) (KP key p i))->Q l):∀(f l r:Nat),l<=r->r<=k->r-l<=f ->
   (∀ i,i<l->O.kle (KP key p i) (KP key p k))->(∀ i,r<=i->i<k->O.klt (KP key p k) (KP key p i))->vW n (ltK key) (kas_place p k f l r) Q
 | 0,l,r,h1,h2,h3,lo,hi=>q l (by lia) lo (by rw[show l=r by lia]; exact hi)
 | f+1,l,r,h1,h2,h3,lo,hi=>by
  show vW n (ltK key) (if l >= r then _ else _) Q;by_cases hlr:l >= r
  ·rw[if_pos hlr];exact q l (by lia) lo (by rw[show l=r by lia]; exact hi)
  ·rw[if_neg hlr];exists hp.lt hk,hp.lt (by lia);dsimp only;by_cases hl:ltK key (p.getD k 0) (p.getD ((l+r)/2) 0)=true
   ·rw[if_pos hl];exact zE2 hp hk hs q f l ((l+r)/2) (by lia) (by lia) (by lia) lo λi i1 i2=>KeyOrd.klt_of_klt_of_kle hl (hs _ _ i1 i2)
   ·rw[if_neg hl];exact zE2 hp hk hs q f ((l+r)/2+1) r (by lia) h2 (by lia) (λi i1=>KeyOrd.kle_trans (hs i ((l+r)/2) (by lia) (by lia)) (KeyOrd.kle_of_not_klt hl)) hi

theorem zP6{Q:Array Nat->Prop}(q:∀ p',PIn n p'->SoT key p' n->Q p'):∀(f:Nat)(p:Array Nat)(k:Nat),PIn n p->k+f=n->SoT key p k->vW n (ltK key) (kas_bin f p k) Q
 | 0,p,k,hp,h,hs=>q p hp (by rw[<- h]; exact hs)
 | f+1,p,k,hp,h,hs=>by
  have hks:k<p.size:=by rw[hp.size]; lia
  refine vW.bind (zE2 hp (by lia) hs (λl hl lo hi=>?_) k 0 k (by lia) (by lia) (by lia) (λi hi=>absurd hi (by lia)) (λi h1 h2=>absurd h2 (by lia)));refine zP6 q f _ (k+1) (hp.bub _ _) (by lia) λi j hij hj=>?_;rw[zSj hks (by lia),zSj hks (by lia),show k-(k-l)=l by lia]
  repeat' split
  all_goals first
   | (exfalso; lia)
   | exact KeyOrd.kle_refl _
   | exact lo _ (by lia)
   | exact KeyOrd.kle_of_klt (hi _ (by lia) (by lia))
   | exact hs _ _ (by lia) (by lia)

theorem zQ8{Q:Array Nat->Prop}(hn:2<=n)(q:∀ p',PIn n p'->SoT key p' n->Q p'):vW n (ltK key) (kas_sort n) Q:=by
 refine vW.bind (zNw ⟨Array.Perm.refl _⟩ (by lia) λk p hp k1 k2 hs=>?_);dsimp only;split
 ·rw[show max k 1=k by lia];exact zP6 q (n-k) p k hp (by lia) hs
 ·exact q p hp (by rw[show n=k by lia]; exact hs)
end
end PySem.W

namespace PySem.W
open PySem PySem.Calls PyProof.Rows
section
variable{prog:Program}{w:World}{A:Around}{E:Value->Shared->Prop}{s:Shared}
def sX(h:Heap)(a:Addr)(vs:List Value):Heap:=((h.update a (Obj.mapSeq λ_=>#[])).push (seqObj "tuple" vs.toArray 0)).push (seqObj "list" #[] 0)
theorem zJm{h:Heap}{a b:Addr}{vs:List Value}(hb:b≠a){o:Obj}(e:h.get? b=some o):(sX h a vs).get? b=some o:=by
 unfold sX;refine Heap.get?_push_of_some _ (Heap.get?_push_of_some _ ?_);rw[Heap.get?_update_ne _ _ _ _ hb];exact e
theorem zMc{a:Addr}{vs:List Value}{n:Nat}{κ:SortKind}{G:List Value->Prop}{P:PySem.Fin->Shared->Prop}(ho:s.heap.get? a=some (seqObj "list" vs.toArray n))(h64:vs.length<64)
  (hk:2<=vs.length->∀ Q:SortKind->Shared->Prop,Q κ { s with heap:=sX s.heap a vs }->wpAny (model prog w) A (keyKind' vs.toArray) Q E { s with heap:=sX s.heap a vs })
  (ask:2<=vs.length->(kas_sort vs.length).kasWp (kas_ask prog w A κ vs) (λp s'=>s'={ s with heap:=sX s.heap a vs }/\G (p.toList.map λi=>vs.getD i Value.none)) { s with heap:=sX s.heap a vs })
  (few:vs.length<2->G vs)
  (h:∀ out:List Value,out.length=vs.length->G out->P (.done (.ret .none)) { s with heap:=sortedHeap s.heap a vs out.toArray }) :
  wpAny (model prog w) A (Builtin.«list.sort» ⟨[.ref a],[]⟩) P E s:=by
 have ha:a<s.heap.objs.size:=Heap.lt_size ho;obtain⟨e1,ho1⟩:∃ e1,(s.heap.update a (Obj.mapSeq λ_=>(#[]:Array Value))).get? a=some (seqObj "list" #[] e1):=⟨_,get?_update_seq ho λ_=>#[]⟩;have ho3:(sX s.heap a vs).get? a=some (seqObj "list" #[] e1):=Heap.get?_push_of_some _ (Heap.get?_push_of_some _ ho1);rw[list_sort_plain];refine wpAny_bind (listItems_at ho rfl ?_);refine wpAny_bind (listUpdate_at ho rfl ?_ (by rw[List.size_toArray,sizeLine_eq]; lia) (Nat.zero_le _));refine wpAny_bind (seqEpoch_at ho1 rfl ?_);refine wpAny_bind (wpAny_newTuple ?_ (by show vs.length<=_; rw[sizeLine_eq]; lia));refine wpAny_bind (wpAny_newList ?_ (Nat.zero_le _));refine wpAny_holding ?_;show wpAny (model prog w) A _ P E { s with heap:=sX s.heap a vs };dsimp only;by_cases h2:vs.toArray.size<2
 ·rw[if_pos h2,if_pos h2];rw[List.size_toArray] at h2;refine wpAny_bind (wpAny_pure ?_);rw[StateT.run_pure];refine wpAny_bind (wpAny_pure ?_);dsimp only;refine wpAny_bind (seqEpoch_at ho3 rfl ?_);have hout:(vs.toArray.zip vs.toArray).map (·.2)=vs.toArray:=by
   apply Array.toList_inj.mp;rw[Array.toList_map,Array.toList_zip];exact List.map_snd_zip (Nat.le_refl _)
  refine wpAny_bind (listUpdate_at ho3 rfl ?_ (Nat.zero_le _) (by
   refine Nat.le_trans (Nat.le_of_eq ((congrArg Array.size hout).trans List.size_toArray)) ?_;rw[sizeLine_eq]; lia))
  simp only[bne_self_eq_false,Bool.false_eq_true,if_false];refine wpAny_pure ?_;have hq:=h vs rfl (few h2);rw[<- hout] at hq;exact hq
 ·rw[if_neg h2,if_neg h2];rw[List.size_toArray] at h2;have h2':2<=vs.length:=by lia
  refine wpAny_bind (hk h2' _ ?_);refine wpAny_bind (wpAny_mono (kat_run (E:=E) (Q:=λst' s'=>s'={ s with heap:=sX s.heap a vs }/\∃ p:Array Nat,p.size=vs.length/\arrOf st'=p.map (kas_item (vs.toArray.zip vs.toArray))/\failedOf st'=none/\G (p.toList.map λi=>vs.getD i Value.none))
   rfl h2' h64 (λp' st' s' a1 a2 a3 a4=>⟨a4.1,p',a1,a2,a3,a4.2⟩) (ask h2')) ?_ λ_ _ e=>e)
  rintro⟨⟨⟩,st'⟩ s' ⟨rfl,p,hp,har,hf,hg⟩;dsimp only;have hout:=kat_snds rfl har;have hsz:(p.toList.map λi=>vs.getD i Value.none).length=vs.length:=by rw[List.length_map,Array.length_toList,hp]
  rw[hout];refine wpAny_bind (seqEpoch_at ho3 rfl ?_);refine wpAny_bind (listUpdate_at ho3 rfl ?_ (Nat.zero_le _) (by rw[List.size_toArray,hsz,sizeLine_eq]; lia));rw[hf];simp only[bne_self_eq_false,Bool.false_eq_true,if_false];exact wpAny_pure (h _ hsz hg)
def zBd(h:Heap)(vs:List Value):Heap:=((h.push (seqObj "list" #[] 0)).update h.objs.size (Obj.mapSeq (· ++ vs.toArray))).push (seqObj "list" vs.toArray 0)
theorem zJy{h:Heap}{b:Addr}{vs:List Value}{o:Obj}(e:h.get? b=some o):(zBd h vs).get? b=some o:=by
 have hlt:b<h.objs.size:=Heap.lt_size e;unfold zBd;refine Heap.get?_push_of_some _ ?_;rw[Heap.get?_update_ne _ _ _ _ (Nat.ne_of_lt hlt),Heap.get?_push_ne _ _ _ (Nat.ne_of_lt hlt)];exact e
theorem zPp{l:Addr}{vs:List Value}{κ:SortKind}{G:List Value->Prop}{Q:Value->Shared->Prop}(hl:s.heap.IsList l vs.toArray)(h64:vs.length<64)
  (hk:2<=vs.length->∀ s':Shared,(∀ b o,s.heap.get? b=some o->s'.heap.get? b=some o)->∀(E':Value->Shared->Prop)(Q:SortKind->Shared->Prop),Q κ s'->wpAny (model prog w) A.in1.in1 (keyKind' vs.toArray) Q E' s')
  (ask:2<=vs.length->∀ s':Shared,(∀ b o,s.heap.get? b=some o->s'.heap.get? b=some o)->(kas_sort vs.length).kasWp (kas_ask prog w A.in1.in1 κ vs) (λp s''=>s''=s'/\G (p.toList.map λi=>vs.getD i Value.none)) s')
  (few:vs.length<2->G vs)
  (h:∀ out:List Value,out.length=vs.length->G out->Q (.ref (s.heap.objs.size+1)) { s with heap:=sortedAll s.heap vs out.toArray }) :
  wpAny (model prog w) A (call (.builtin "sorted") [.ref l]) Q E s:=by
 refine Calls.call_function_entry kind_sorted plain_sorted entry_sorted (args_sorted1 _) ?_;unfold Builtin.«sorted»;refine wpAny_bind (m:=checkCount "sorted" 1 1 _) (wpAny_pure ?_);refine wpAny_bind (collect_list hl ?_ (by rw[sizeLine_eq]; lia));refine wpAny_bind (wpAny_newList ?_ (by rw[sizeLine_eq]; lia));have hsz:((s.heap.push (seqObj "list" #[] 0)).update s.heap.objs.size (Obj.mapSeq (· ++ vs.toArray))).objs.size=s.heap.objs.size+1:=by
  rw[Heap.size_update,size_push']
 have hoL:(zBd s.heap vs).get? (s.heap.objs.size+1)=some (seqObj "list" vs.toArray 0):=by
  unfold zBd;rw[<- hsz]; exact Heap.get?_push_size _ rfl
 have keep:∀ b o,s.heap.get? b=some o->(sX (zBd s.heap vs) (s.heap.objs.size+1) vs).get? b=some o:=λb o e=>by
  have hlt:b<s.heap.objs.size:=Heap.lt_size e;exact zJm (Nat.ne_of_lt (Nat.lt_succ_of_lt hlt)) (zJy e)
 show wpAny _ _ _ _ _ { s with heap:=zBd s.heap vs };rw[hsz];refine wpAny_bind (wpAny_holding (wpAny_call_entry slot_list_sort ⟨_,hoL,rfl⟩ entry_list_sort ?body (args_list_sort _)))
 case body =>
  exact zMc (s:={ s with heap:=zBd s.heap vs }) hoL h64 (λh2 Q' hq=>hk h2 _ keep _ Q' hq) (λh2=>ask h2 _ keep) few λout hz hg=>⟨_,rfl,wpAny_pure ⟨_,rfl,h out hz hg⟩⟩
end
end PySem.W

namespace L2
open PySem PySem.Spec PyProof.Rows PySem.W
theorem zI5:∀ a:List Int,HT.lexLt a a=false
 | []=>rfl
 | x::xs=>by rw[HT.lexLt_cons,if_pos rfl]; exact zI5 xs
theorem zK5:∀ a b c:List Int,HT.lexLt a b=true->HT.lexLt b c=true->HT.lexLt a c=true
 | [],[],_,h,_=>nomatch h
 | [],_::_,[],_,h=>nomatch h
 | [],_::_,_::_,_,_=>rfl
 | _::_,[],_,h,_=>nomatch h
 | _::_,_::_,[],_,h=>nomatch h
 | x::xs,y::ys,z::zs,h1,h2=>by
  rw[HT.lexLt_cons] at h1 h2 ⊢;by_cases e1:x=y
  ·rw[if_pos e1] at h1;by_cases e2:y=z
   ·rw[if_pos e2] at h2;rw[if_pos (e1.trans e2)];exact zK5 xs ys zs h1 h2
   ·rw[if_neg e2] at h2;rw[if_neg (by lia),e1];exact h2
  ·rw[if_neg e1] at h1;have g1:=of_decide_eq_true h1;by_cases e2:y=z
   ·rw[if_neg (by lia),<- e2];exact h1
   ·rw[if_neg e2] at h2;have g2:=of_decide_eq_true h2;rw[if_neg (by lia)];exact decide_eq_true (by lia)
theorem zK3:∀ a b c:List Int,HT.lexLt a c=true->HT.lexLt a b=true\/HT.lexLt b c=true
 | [],_,[],h=>nomatch h
 | [],[],_::_,_=>.inr rfl
 | [],_::_,_::_,_=>.inl rfl
 | _::_,_,[],h=>nomatch h
 | _::_,[],_::_,_=>.inr rfl
 | x::xs,y::ys,z::zs,h=>by
  rw[HT.lexLt_cons] at h ⊢;rw[HT.lexLt_cons];by_cases e1:x=y
  ·by_cases e2:y=z
   ·rw[if_pos (e1.trans e2)] at h;rw[if_pos e1,if_pos e2];exact zK3 xs ys zs h
   ·rw[if_neg (by lia)] at h;right;rw[if_neg e2,<- e1];exact h
  ·by_cases e2:y=z
   ·rw[if_neg (by lia)] at h;left;rw[if_neg e1,e2];exact h
   ·rw[if_neg e1,if_neg e2];by_cases g:x<y
    ·exact .inl (decide_eq_true g)
    ·right;by_cases e3:x=z
     ·exact decide_eq_true (by lia)
     ·rw[if_neg e3] at h;have:=of_decide_eq_true h;exact decide_eq_true (by lia)
theorem zI7:∀ a b:List Int,HT.lexLt a b=false->HT.lexLt b a=false->a=b
 | [],[],_,_=>rfl
 | [],_::_,h,_=>nomatch h
 | _::_,[],_,h=>nomatch h
 | x::xs,y::ys,h1,h2=>by
  rw[HT.lexLt_cons] at h1 h2;by_cases e:x=y
  ·rw[if_pos e] at h1;rw[if_pos e.symm] at h2;rw[e,zI7 xs ys h1 h2]
  ·rw[if_neg e] at h1;rw[if_neg (λz=>e z.symm)] at h2;have g1:=of_decide_eq_false h1;have g2:=of_decide_eq_false h2;lia
def ordL:KeyOrd where
 α:=List Int
 blt:=HT.lexLt
 irrefl:=zI5
 trans:=zK5
 negTrans:=zK3
 total:=zI7
def zT3(h:Heap)(v:Value)(ns:List Int):Prop:=∃(a:Addr)(o:Obj)(n:Nat)(its:List Value),v=.ref a/\h.get? a=some o/\o.cls=.type "tuple" /\ o.data=.seq its.toArray n/\yW (ns.map V.int) its
theorem zT3.keep{h h':Heap}{v:Value}{t:List Int}(e:zT3 h v t)(k:∀ b o,h.get? b=some o->h'.get? b=some o):zT3 h' v t:=by
 obtain⟨a,o,n,its,e1,e2,e3⟩:=e;exact⟨a,o,n,its,e1,k _ _ e2,e3⟩
section
variable{prog:Program}{w:World}{A:Around}{E:Value->Shared->Prop}{s:Shared}
theorem zKy{C:Bool->Shared->Prop} : ∀{ns ms:List Int}{us ws:List Value}(_:yW (ns.map V.int) us)(_:yW (ms.map V.int) ws)(_:ns.length=ms.length)(i:Nat)(_:C (HT.lexLt ns ms) s),KatLex prog w A true false C (us.zip ws) i s
 | [],[],_,_,r1,r2,_,i,h=>by
  cases r1;cases r2;exact kat_nil h
 | [],_::_,_,_,_,_,hl,_,_=>nomatch hl
 | _::_,[],_,_,_,_,hl,_,_=>nomatch hl
 | x::xs,y::ys,_,_,r1,r2,hl,i,h=>by
  cases r1 with
  | cons p1 q1 =>
   cases r2 with
   | cons p2 q2 =>
    obtain⟨t,rfl⟩:=p1;obtain⟨t',rfl⟩:=p2;rw[List.zip_cons_cons];refine kat_cons (wpAny_eqBool_int ?_);rw[HT.lexLt_cons] at h;by_cases e:x=y
    ·rw[if_pos e] at h;rw[show(x == y)=true from by simpa using e];exact kat_yes (zKy q1 q2 (by simpa using hl) (i+1) h)
    ·rw[if_neg e] at h;rw[show(x == y)=false from by simpa using e];refine kat_no ?_;cases i with
     | zero=>exact oneLt_int h
     | succ i=>exact kat_one _ _ (wpAny_lt_int h)
theorem zTg{u v:Value}{a b:List Int}{C:Bool->Shared->Prop}(hu:zT3 s.heap u a)(hv:zT3 s.heap v b)(hl:a.length=b.length)(h:C (HT.lexLt a b) s):wpAny (model prog w) A (keyLt' (tuples' true) u v) C E s:=by
 obtain⟨p,o,n,us,rfl,ho,_,hd,r1⟩:=hu;obtain⟨q,o',n',ws,rfl,ho',_,hd',r2⟩:=hv;refine kat_lt ho hd ho' hd' ?_;have l1:=r1.length;have l2:=r2.length;rw[List.length_map] at l1 l2;rw[show decide (us.toArray.size<ws.toArray.size)=false from decide_eq_false (by rw[List.size_toArray,List.size_toArray]; lia)];exact zKy r1 r2 hl 0 h
theorem zOm{h:Heap} : ∀(vs:List Value),(∀ v∈vs,∃ x xs,zT3 h v (x::xs))->∃ fs:List Value,KatTups h vs fs/\fs.length=vs.length/\∀ v∈fs,∃ i t,v=Value.int i t
 | [],_=>⟨[],.nil,rfl,λ_ hv=>absurd hv (List.not_mem_nil)⟩
 | v::vs,hv=>by
  obtain⟨fs,a1,a2,a3⟩:=zOm vs λu hu=>hv u (.tail _ hu);obtain⟨x,xs,p,o,n,its,rfl,ho,hc,hd,r⟩:=hv v (.head _);cases r with
  | cons p1 q1 =>
   obtain⟨t,rfl⟩:=p1;refine⟨.int x t::fs,KatTups.cons ho hc hd rfl a1,by rw[List.length_cons,List.length_cons,a2],λu hu=>?_⟩;rcases List.mem_cons.mp hu with rfl | hu
   ·exact⟨_,_,rfl⟩
   ·exact a3 u hu
theorem zJ1{l:Addr}{vs:List Value}{ks:List (List Int)}{m:Nat}{Q:Value->Shared->Prop}(hl:s.heap.IsList l vs.toArray)(h64:vs.length<64)(hT:∀ i,i<vs.length->zT3 s.heap (vs.getD i Value.none) (ks.getD i [])/\(ks.getD i []).length=m+1)
  (h:∀ is:List Nat,is.Perm (List.range vs.length)->(is.map λi=>ks.getD i []).Pairwise (λa b=>HT.lexLt b a=false) ->
   Q (.ref (s.heap.objs.size+1)) { s with heap:=sortedAll s.heap vs (is.map λi=>vs.getD i Value.none).toArray }) :
  wpAny (model prog w) A (call (.builtin "sorted") [.ref l]) Q E s:=by
 refine zPp (κ:=tuples' true) (G:=λout=>∃ is:List Nat,is.Perm (List.range vs.length)/\(is.map λi=>ks.getD i []).Pairwise (λa b=>HT.lexLt b a=false)/\out=is.map λi=>vs.getD i Value.none)
  hl h64 (λh2 s' kp E' Q' hq=>?_) (λh2 s' kp=>?_) (λh2=>?_) λout hz ⟨is,p1,p2,e⟩=>by rw[e]; exact h is p1 p2
 ·obtain⟨fs,a1,a2,a3⟩:=zOm (h:=s'.heap) vs λv hv=>by
   obtain⟨i,hi,rfl⟩:=List.getElem_of_mem hv;obtain⟨e,en⟩:=hT i hi;have e':=e.keep kp;rw[show vs.getD i Value.none=vs[i] by simp[hi]] at e';cases ek:ks.getD i [] with
   | nil=>rw[ek] at en; cases en
   | cons x xs=>rw[ek] at e'; exact⟨x,xs,e'⟩
  refine kat_kind (T:=Value.type "int") a1 (by lia) (λv hv=>?_) rfl (by first | exact hq | (rw[show(Value.type "int" != Value.type "tuple")=true from by first | decide | simp]; exact hq));obtain⟨i,t,rfl⟩:=a3 v hv;exact .now
 ·refine vW.wp (n:=vs.length) (lt:=ltK (O:=ordL) λi=>ks.getD i []) (λi j C hi hj hc=>?_) (λp hp=>⟨rfl,hp⟩) (zQ8 (O:=ordL) (key:=λi=>ks.getD i []) h2 λp hp hs=>?_)
  ·exact zTg ((hT i hi).1.keep kp) ((hT j hj).1.keep kp) (by rw[(hT i hi).2,(hT j hj).2]) hc
  ·refine⟨p.toList,by simpa using Array.perm_iff_toList_perm.mp hp.perm,?_,rfl⟩;rw[List.pairwise_map,List.pairwise_iff_getElem];intro i j hi hj hij;have hi':i<p.size:=by simpa using hi
   have hj':j<p.size:=by simpa using hj
   have q:=hs i j (Nat.le_of_lt hij) (by rw[<- hp.size]; exact hj');unfold KP at q;rw[show p.getD i 0=p.toList[i] by simp[Array.getD,hi'],show p.getD j 0=p.toList[j] by simp[Array.getD,hj']] at q;exact q
 ·refine⟨List.range vs.length,.refl _,?_,?_⟩
  ·rw[List.pairwise_map,List.pairwise_iff_getElem];intro i j hi hj hij;rw[List.length_range] at hj;lia
  ·refine List.ext_getElem (by simp) λi h1 h3=>?_;rw[List.getElem_map,List.getElem_range];simp[h1]
end
theorem zFs{α β:Type}(f:α->β)(d:α)(e:β)(xs:List α):((List.range xs.length).map λi=>f (xs.getD i d))=xs.map f:=by
 refine List.ext_getElem (by simp) λi h1 h2=>?_;have hi:i<xs.length:=by simpa using h1
 rw[List.getElem_map,List.getElem_range,List.getElem_map];simp[hi]
theorem qP:∀ rs:List Addr,yW (rs.map V.ref) (rs.map Value.ref)
 | []=>.nil
 | _::rs=>.cons rfl (qP rs)
section
variable{X:Cx}
theorem zBw:bootBuiltins "sorted" = some (.builtin "sorted"):=by decide +kernel
theorem zC6:qK X (.builtin "sorted") (λxs H Q=>∃(l:Addr)(ts:List (Addr×List Int))(m:Nat),xs=[.ref l]/\SqL X.K H l ((ts.map (·.1)).map V.ref)/\ts.length<64/\(∀ t∈ts,H t.1=some (.tup (t.2.map V.int))/\t.2.length=m+1) /\
  ∀(p:Addr)(us:List (Addr×List Int)),H p=none->us.Perm ts->us.Pairwise (λa b=>HT.lexLt b.2 a.2=false)->Q (.ref p) (upd H p (.lst ((us.map (·.1)).map V.ref)))):=by
 intro pins s σ H xs us Q I r h;obtain⟨l,ts,m,rfl,hq,h64,hts,q⟩:=h;obtain⟨u,rfl,ru⟩:=yW.one r;cases ru;obtain⟨its,rv,pl,hz⟩:=I.list hq;have ei:=zHm rv;subst ei;have hn:((ts.map (·.1)).map Value.ref).length=ts.length:=by rw[List.length_map,List.length_map]
 refine zJ1 (ks:=ts.map (·.2)) (m:=m) pl.isList (by rw[hn]; exact h64) (λi hi=>?_) λis hp hs=>?_
 ·rw[hn] at hi;have ht:=hts ts[i] (List.getElem_mem hi);have e1:((ts.map (·.1)).map Value.ref).getD i Value.none=Value.ref ts[i].1:=by simp[hi]
  have e2:(ts.map (·.2)).getD i []=ts[i].2:=by simp[hi]
  rw[e1,e2];refine⟨?_,ht.2⟩;obtain⟨its,r1,⟨o,e,c,n,d⟩,_⟩:=I.tuple (SqT.of ht.1);exact⟨_,o,n,its,rfl,e,c,d,r1⟩
 ·rw[hn] at hp;have lt:∀ i∈is,i<ts.length:=λi hi=>List.mem_range.mp (hp.mem_iff.mp hi)
  let d:Addr×List Int:=(0,[])
  have pm:(is.map λi=>ts.getD i d).Perm ts:=by
   have z:=hp.map λi=>ts.getD i d;have e:=zFs (λt:Addr×List Int=>t) d d ts;rw[show(List.range ts.length).map (λi=>ts.getD i d)=ts from by simpa using e] at z;exact z
  have e1:(is.map λi=>((ts.map (·.1)).map Value.ref).getD i Value.none)=((is.map λi=>ts.getD i d).map (·.1)).map Value.ref:=by
   simp only[List.map_map];refine List.map_congr_left λi hi=>?_;have:=lt i hi;simp[this]
  have e2:(is.map λi=>(ts.map (·.2)).getD i [])=(is.map λi=>ts.getD i d).map (·.2):=by
   rw[List.map_map];refine List.map_congr_left λi hi=>?_;have:=lt i hi;simp[this]
  rw[e2,List.pairwise_map] at hs;rw[e1];obtain⟨e,at'⟩:=sortedAll_at s.heap ((ts.map (·.1)).map Value.ref) (((is.map λi=>ts.getD i d).map (·.1)).map Value.ref).toArray;have fr:H (s.heap.objs.size+1)=none:=I.hok.fresh (Nat.le_succ _);refine⟨.ref (s.heap.objs.size+1),_,I.laid (t':=s.toks) (a:=s.heap.objs.size+1) (o:=.lst (((is.map λi=>ts.getD i d).map (·.1)).map V.ref)) (λb ob q=>sortedAll_old q) (Nat.le_succ _) ?_,rfl,q _ _ fr pm hs⟩;refine⟨?_,_,e,qP _,at'⟩;rw[List.length_map,List.length_map,pm.length_eq];exact Nat.le_trans (Nat.le_of_lt h64) (by rw[sizeLine_eq]; decide)
end
end L2
namespace L2
open PySem PySem.Spec PyProof.Rows
end L2

namespace Sea
open PySem L2
end Sea

namespace L2
open PySem PySem.Spec PyProof.Rows
section
variable{κ:Type}[DecidableEq κ]
def zUg(kvs:List (κ×V))(k:κ):Option V:=(kvs.find? λkv=>decide (kv.1=k)).map (·.2)
def zLh(kvs:List (κ×V))(k:κ)(v:V):List (κ×V) :=
 if (kvs.any λkv=>decide (kv.1=k))=true then kvs.map (λkv=>if kv.1=k then(kv.1,v) else kv) else kvs++[(k,v)]
theorem zLk{p:κ×V}{r:List (κ×V)}{k:κ}(e:p.1=k):zUg (p::r) k=some p.2:=by simp[zUg,List.find?_cons,e]
theorem zK9{p:κ×V}{r:List (κ×V)}{k:κ}(e:¬ p.1=k):zUg (p::r) k=zUg r k:=by simp[zUg,List.find?_cons,e]
theorem zK4(k:κ):∀ kvs:List (κ×V),(kvs.any λkv=>decide (kv.1=k))=(zUg kvs k).isSome
 | []=>rfl
 | p::r=>by
  rw[List.any_cons];by_cases e:p.1=k
  ·simp only[zLk e,decide_eq_true e,Bool.true_or,Option.isSome_some]
  ·rw[zK9 e,decide_eq_false e,Bool.false_or]; exact zK4 k r
theorem zE4(kvs:List (κ×V))(k:κ)(v:V):(zLh kvs k v).length<=kvs.length+1:=by
 unfold zLh;split
 ·rw[List.length_map]; lia
 ·rw[List.length_append,List.length_cons,List.length_nil]; lia
theorem zUt.isSome_eq{o:Option V}{u:Option Value}(r:zUt o u):o.isSome=u.isSome:=by
 cases o with
 | none=>cases u with
  | none=>rfl
  | some _=>exact(show False from r).elim
 | some _=>cases u with
  | none=>exact(show False from r).elim
  | some _=>rfl
theorem KV.any{kvs:List (κ×V)}{vs:List (κ×Value)}(r:KV kvs vs)(k:κ):(kvs.any λkv=>decide (kv.1=k))=vs.any λkv=>decide (kv.1=k):=by
 unfold KV at r
 induction r with
 | nil=>rfl
 | cons h t ih=>rw[List.any_cons,List.any_cons,ih,h.1]
theorem KV.repl{kvs:List (κ×V)}{vs:List (κ×Value)}(r:KV kvs vs)(k:κ){y:V}{u:Value}(ry:uC y u) :
  KV (kvs.map λkv=>if kv.1=k then(kv.1,y) else kv) (vs.map λkv=>if kv.1=k then(kv.1,u) else kv):=by
 unfold KV at r ⊢
 induction r with
 | nil=>exact .nil
 | @cons p q ps qs h t ih =>
  rw[List.map_cons,List.map_cons];refine .cons ?_ ih;obtain⟨h1,h2⟩:=h;by_cases e:p.1=k
  ·rw[if_pos e,if_pos (h1.symm.trans e)]; exact⟨h1,ry⟩
  ·rw[if_neg e,if_neg (λz=>e (h1.trans z))]; exact⟨h1,h2⟩
theorem KV.put{kvs:List (κ×V)}{vs:List (κ×Value)}(r:KV kvs vs)(k:κ){y:V}{u:Value}(ry:uC y u):KV (zLh kvs k y) (stored vs k u):=by
 unfold zLh stored;rw[r.any k];by_cases e:(vs.any λkv=>decide (kv.1=k))=true
 ·rw[if_pos e,if_pos e]; exact r.repl k ry
 ·rw[if_neg e,if_neg e]; exact Paired.snoc r ⟨rfl,ry⟩
theorem KV.length{kvs:List (κ×V)}{vs:List (κ×Value)}(r:KV kvs vs):kvs.length=vs.length:=Paired.length r
end


theorem zV6{P:Program}{w:World}{k:Key}{u:Value}(r:uC (kV k) u):(uQ P w).is k u=true:=by
 cases k with
 | inl i=>obtain⟨t,e⟩:=(show ∃ t,u=Value.int i t from r); subst e; exact zJ0 P w i t
 | inr x=>obtain⟨t,e⟩:=(show ∃ t,u=Value.str x t from r); subst e; exact zKf P w x t
theorem zI0{P:Program}{w:World} : ∀{ks:List Key}{us:List Value},yW (ks.map kV) us->ItemsAre (uQ P w) ks us
 | [],_,r=>by rw[List.map_nil] at r; cases r; exact .nil
 | k::ks,_,r=>by
  rw[List.map_cons] at r;cases r with
  | cons h t=>exact .cons (zV6 h) (zI0 t)

abbrev KT(H:Hp):List (List Key×V)->List (List Key×Addr×Value)->Prop:=Paired λp q=>p.1=q.1/\H q.2.1=some (.tup (p.1.map kV))/\uC p.2 q.2.2
theorem KT.val{H:Hp}{kvs:List (List Key×V)}{xs:List (List Key×Addr×Value)}(r:KT H kvs xs)(k:List Key):zUt (zUg kvs k) ((atKey xs k).map (·.2)):=by
 induction r with
 | nil=>exact True.intro
 | @cons p q ps qs h t ih =>
  obtain⟨h1,_,h2⟩:=h;by_cases e:p.1=k
  ·have e':q.1=k:=h1.symm.trans e;have b:atKey (q::qs) k=some q.2:=by simp[atKey,List.find?_cons,e']
   rw[zLk e,b]; exact h2
  ·have e':¬ q.1=k:=λz=>e (h1.trans z);have b:atKey (q::qs) k=atKey qs k:=by simp[atKey,List.find?_cons,e']
   rw[zK9 e,b]; exact ih
theorem KT.repl{H:Hp}{kvs:List (List Key×V)}{xs:List (List Key×Addr×Value)}(r:KT H kvs xs)(k:List Key){y:V}{u:Value}(ry:uC y u) :
  KT H (kvs.map λkv=>if kv.1=k then(kv.1,y) else kv) (xs.map (putAt k u)):=by
 induction r with
 | nil=>exact .nil
 | @cons p q ps qs h t ih =>
  rw[List.map_cons,List.map_cons];refine .cons ?_ ih;obtain⟨h1,h2,h3⟩:=h;unfold putAt;by_cases e:p.1=k
  ·rw[if_pos e,if_pos (h1.symm.trans e)]; exact⟨h1,h2,ry⟩
  ·rw[if_neg e,if_neg (λz=>e (h1.trans z))]; exact⟨h1,h2,h3⟩
theorem KT.put{H:Hp}{kvs:List (List Key×V)}{xs:List (List Key×Addr×Value)}(r:KT H kvs xs)(k:List Key){b:Addr}{y:V}{u:Value}(hb:H b=some (.tup (k.map kV)))(ry:uC y u) :
  KT H (zLh kvs k y) (storedH xs k b u):=by
 have e:(kvs.any λkv=>decide (kv.1=k))=(atKey xs k).isSome:=by
  rw[zK4,(r.val k).isSome_eq,Option.isSome_map]
 unfold zLh storedH;rw[e];by_cases q:(atKey xs k).isSome=true
 ·rw[if_pos q,if_pos q]; exact r.repl k ry
 ·rw[if_neg q,if_neg q]; exact Paired.snoc r ⟨rfl,hb,ry⟩
theorem KT.keeps{H H':Hp}{kvs:List (List Key×V)}{xs:List (List Key×Addr×Value)}(r:KT H kvs xs)(ht:∀ b ys,H b=some (.tup ys)->H' b=some (.tup ys)):KT H' kvs xs :=
 Paired.mapP r λ_ _ z=>⟨z.1,ht _ _ z.2.1,z.2.2⟩

section
variable{P:Program}{w:World}{H:Hp}{h:Heap}{a:Addr}
theorem zV5{u:HO}(ok:HOk P w H h)(e:Rd H a u):vF P w H h a u:=e.ok ok
theorem dk_rd{kvs:List (Key×V)}(ok:HOk P w H h)(e:Rd H a (.dK kvs)):kvs.length<=sizeLine/\(a == sysModules)=false/\∃ vs,KV kvs vs/\h.DictOf (uQ P w) a vs :=
 show vF P w H h a (.dK kvs) from zV5 ok e
theorem dk_of{kvs:List (Key×V)}(ok:HOk P w H h)(e:H a=some (.dK kvs)):kvs.length<=sizeLine/\(a == sysModules)=false/\∃ vs,KV kvs vs/\h.DictOf (uQ P w) a vs:=dk_rd ok (.inl e)
theorem zSx{ks:List Key}(ok:HOk P w H h)(e:H a=some (.tup (ks.map kV))):(tupleKind (uQ P w)).is h ks a:=by
 obtain⟨_,its,r,o,h1,h2,n,h3⟩:=(show vF P w H h a (.tup (ks.map kV)) from ok a _ e);exact⟨o,its.toArray,n,h1,h2,h3,by simpa using zI0 r⟩
theorem dt_rd{kvs:List (List Key×V)}(ok:HOk P w H h)(e:Rd H a (.dT kvs)):kvs.length<=sizeLine/\(a == sysModules)=false /\
  ∃ xs,KT H kvs xs/\h.DictOfH (tupleKind (uQ P w)) a xs:=by
 obtain⟨z,y,xs,r,o,es,ep,h1,h2,h3,h4,h5⟩:=(show vF P w H h a (.dT kvs) from zV5 ok e);refine⟨z,y,xs,r,o,es,ep,h1,h2,h3,h4,λx hx=>?_,h5⟩;have all:∀{l:List (List Key×V)}{m:List (List Key×Addr×Value)},KT H l m->∀ x∈m,(tupleKind (uQ P w)).is h x.1 x.2.1:=by
  intro l m q
  induction q with
  | nil=>intro x hx; exact nomatch hx
  | @cons p q ps qs hq t ih =>
   intro x hx;rcases List.mem_cons.mp hx with e | hx
   ·subst e;exact zSx ok (by rw[<- hq.1]; exact hq.2.1)
   ·exact ih x hx
 exact all r x hx
theorem zWp{kvs:List (List Key×V)}(ok:HOk P w H h)(e:H a=some (.dT kvs)):kvs.length<=sizeLine/\(a == sysModules)=false /\
  ∃ xs,KT H kvs xs/\h.DictOfH (tupleKind (uQ P w)) a xs:=dt_rd ok (.inl e)
end

def zVl(H:Hp)(a:Addr)(y v:V)(H':Hp):Prop :=
 (∃ kvs k,H a=some (.dK kvs)/\y=kV k/\kvs.length<sizeLine/\H'=upd H a (.dK (zLh kvs k v))) \/
 ∃ kvs k b,H a=some (.dT kvs)/\y=.ref b/\H b=some (.tup (k.map kV))/\kvs.length<sizeLine/\H'=upd H a (.dT (zLh kvs k v))
theorem zVl.t{H:Hp}{a b:Addr}{kvs:List (List Key×V)}{k:List Key}{v:V}(e:H a=some (.dT kvs))(eb:H b=some (.tup (k.map kV)))(hl:kvs.length<sizeLine) :
  zVl H a (.ref b) v (upd H a (.dT (zLh kvs k v))):=.inr ⟨kvs,k,b,e,rfl,eb,hl,rfl⟩


section
variable{X:Cx}{pins:List (Addr×Obj)}{σ:St}{H:Hp}{s:Shared}{a:Addr}{y v:V}{u r:Value}{o:Option V}{A:Around}{E:Value->Shared->Prop}

theorem Inv.big(I:Inv X pins σ H s):sysModules<s.heap.objs.size:=by
 have h:mainGlobals<s.heap.objs.size:=(I.mod.glob.keeps I.bk).lt;exact Nat.lt_trans (by decide) h

theorem zN2{h':Heap}{t':Nat}{ob:HO}(I:Inv X pins σ H s)(mu:Mut (H a))(hs:Heap.SameBut a s.heap h')(he:∃ q,h'.get? a=some q)(new:vF X.prog X.w (upd H a ob) h' a ob) :
  Inv X pins σ (upd H a ob) { s with heap:=h',toks:=t' } :=
 I.write (x:=a) (e:=a) mu (.inl rfl) (λb q hb z=>(hs.2 b hb).trans z) he new
theorem zU4{P:Program}{w:World}{H':Hp}{h':Heap}{kvs:List (Key×V)}{vs:List (Key×Value)}(z:kvs.length<=sizeLine)(hd:(a == sysModules)=false)(rel:KV kvs vs)(dd:h'.DictOf (uQ P w) a vs) :
  vF P w H' h' a (.dK kvs):=⟨z,hd,vs,rel,dd⟩
theorem zN8{H':Hp}{Q:Unit->Shared->Prop}(hu:A.units+1<cLine)(I:Inv X pins σ H s)(g:zVl H a y v H')(ry:uC y u)(rv:uC v r)(h:∀ s',Inv X pins σ H' s'->Q () s') :
  wpAny (model X.prog X.w) A (setItem (.ref a) u r) Q E s:=by
 rcases g with ⟨kvs,k,e,ey,l,eH⟩ | ⟨kvs,k,b,e,ey,eb,l,eH⟩
 ·subst ey eH;obtain⟨z,hd,vs,rel,dd⟩:=dk_of I.hok e;have hz:vs.length<=sizeLine:=by rw[<- rel.length]; exact z
  have hl:(zLh kvs k v).length<=sizeLine:=by have:=zE4 kvs k v; lia
  refine wpAny_setItem_pairs (hsz:=hz) (zV6 ry) dd λh' dd' hs=>h _ ?_;have he:∃ q,h'.get? a=some q:=let ⟨q,_,_,hq,_⟩:=dd';⟨q,hq⟩;exact zN2 I (by rw[e]; exact True.intro) hs he (zU4 hl hd (rel.put k rv) dd')
 ·subst ey eH;cases (show u=Value.ref b from ry);obtain⟨z,hd,xs,rel,dd⟩:=zWp I.hok e;have hz:xs.length<=sizeLine:=by rw[<- Paired.length rel]; exact z
  have hl:(zLh kvs k v).length<=sizeLine:=by have:=zE4 kvs k v; lia
  refine wpAny_setItem_heap (hsz:=hz) (tupleKind_room_in1 hu) (zSx I.hok eb) dd λh' dd' hs=>h _ ?_;obtain⟨q,es,ep,hq,h2,h3,h4,_,h5⟩:=dd';refine zN2 I (by rw[e]; exact True.intro) hs ⟨q,hq⟩ ⟨hl,hd,_,(rel.put k eb rv).keeps λc ys ec=>?_,q,es,ep,hq,h2,h3,h4,h5⟩;rw[yA (tZ ec e (λz=>nomatch z))];exact ec
end



def sDPut(td ty tv:TE):TS:=λD σ H=>tv σ H λv H1=>td σ H1 λx H2=>ty σ H2 λy H3=>∃ a H4,x=.ref a/\zVl H3 a y v H4/\D.nx σ H4
section
variable{X:Cx}{o i e value:Expr}{pos pos' tpos:Pos}{td ty tv:TE}
theorem zTq(hu:X.A.units+1<cLine)(ho:PE X o td)(hi:PE X i ty)(hv:PE X value tv)(hs:swapsWith value (some (.Subscript o i pos')) pos.line X.env=pure false) :
  PS X (.Assign [.Subscript o i pos'] value pos) (sDPut td ty tv):=by
 intro pins s σ H D I h;refine wpAny_Assign_Subscript (thn (hv pins s σ H _ I h) λr s1 ⟨v,H1,I1,rv,q1⟩=>thn (ho pins s1 σ H1 _ I1 q1) λu s2 ⟨x,H2,I2,rx,q2⟩=>thn (hi pins s2 σ H2 _ I2 q2) λiv s3 ⟨y,H3,I3,ry,a,H4,ex,g,q3⟩=>?_) hs;subst ex;obtain rfl:u=Value.ref a:=rx;exact zN8 hu I3 g ry rv λs4 I4=>⟨σ,H4,I4,q3⟩
end


theorem zRt{P:Program}{w:World}{H:Hp}(h:Heap)(hb:sysModules<h.objs.size):vF P w H (h.push { cls:=.type "dict", data:=.dict #[] }) h.objs.size (.dT []) :=
 ⟨Nat.zero_le _,beq_eq_false_iff_ne.mpr (Ne.symm (Nat.ne_of_lt hb)),[],.nil,_,#[],0,Heap.get?_push_size _ rfl,⟨rfl,rfl,rfl⟩,rfl,rfl,List.nodup_nil⟩
def zWg:TE:=λ_ H Q=>∀ p,H p=none->Q (.ref p) (upd H p (.dT []))
section
variable{X:Cx}{pos:Pos}
theorem zQx:PE X (.Dict [] [] pos) zWg:=λpins s σ H Q I h =>
 wpAny_Dict_empty ⟨.ref s.heap.objs.size,_,I.laid (a:=s.heap.objs.size) (o:=.dT []) (t':=s.toks) (λ_ _ q=>Heap.get?_push_of_some _ q) (Nat.le_refl _) (zRt s.heap I.big),rfl,h _ (I.hok.fresh (Nat.le_refl _))⟩
end

end L2

namespace L2
open PySem PySem.Spec PyProof.Rows
def zQg(h:Heap)(a:Addr)(rows:Array DictEntry)(age:Nat):Prop:=∃ ob,h.get? a=some ob/\ob.ExactDict/\ob.data=.dict rows age
theorem zQg.at{h h':Heap}{a:Addr}{rows:Array DictEntry}{age:Nat}(x:zQg h a rows age)(e:∀ ob,h.get? a=some ob->h'.get? a=some ob):zQg h' a rows age:=let ⟨ob,g,r⟩:=x;⟨ob,e _ g,r⟩
theorem zQg.typeIs{z:Shared}{a:Addr}{rows:Array DictEntry}{age:Nat}(x:zQg z.heap a rows age):z.TypeIs (.ref a) "dict" := let ⟨ob,g,c,_⟩:=x;⟨ob,g,c.1⟩
section
variable{prog:Program}{w:World}{A:Around}{E:Value->Shared->Prop}{z:Shared}{it a:Addr}{rows:Array DictEntry}{age k:Nat}
theorem zQj{R:Value->Shared->Prop}(hs:(a == sysModules)=false)(x:zQg z.heap a rows age)(hR:R (.ref z.heap.objs.size) { z with heap:=z.heap.push { cls:=.type "dict_keyiterator", data:=.fields #[.ref a,.int 0 0,.int rows.size 0,.int age 0] } }) :
  wpAny (model prog w) A (pyIter (.ref a)) R E z:=by
 have ty:=x.typeIs;obtain⟨ob,g,_,dat⟩:=x;refine wpAny_pyIter_slot ty F.slot_dict_iter (wpAny_call_entry F.slot_dict_iter ty F.entry_dict_iter ?walk (F.args_dict_iter_1 _))
 case walk =>
  unfold Builtin.«dict.__iter__» Builtin.Dict.dictSlotNone;refine wpAny_bind (wpAny_bind (wpAny_notOrdered_dict ty (show wpAny _ _ (pure (Value.ref a)) _ _ z from wpAny_pure ?_)));show wpAny _ _ (Builtin.Dict.showsAll a >>= _) _ _ z;unfold Builtin.Dict.showsAll;rw[if_neg (by rw[hs]; decide)];refine wpAny_bind (wpAny_pure (wpAny_bind (wpAny_dictEntries g dat (wpAny_bind (wpAny_dictEpoch g dat ?_)))));refine wpAny_bind (wpAny_newObj_type (wpAny_pure ⟨_,rfl, "dict_keyiterator", _,⟨_,Heap.get?_push_size _ rfl,rfl⟩,F.slot_dict_keyiterator_next.lookup,?_⟩));simpa [rawInt] using hR
theorem zRq{R:Option Value->Shared->Prop}(ki:z.heap.IsKeyIter it a k rows.size age)(x:zQg z.heap a rows age)(hk:k<rows.size)
  (hR:∀ h',h'.IsKeyIter it a (k+1) rows.size age->Heap.SameBut it z.heap h'->R (some rows[k].key) { z with heap:=h' }):wpAny (model prog w) A (pyNext (.ref it)) R E z:=by
 have ty:=ki.typeIs;obtain⟨oi,gi,ci,di⟩:=id ki;obtain⟨ob,g,_,dat⟩:=x;unfold pyNext;refine wpAny_bind (wpAny_attempt (wpAny_callSpecial?_slot (name:=Str.ofString "__next__") ty F.slot_dict_keyiterator_next (wpAny_call_entry F.slot_dict_keyiterator_next ty F.entry_dict_keyiterator_next ?walk (F.args_dict_keyiterator_next_1 _))))
 case walk =>
  refine wpAny_bind (wpAny_pure (wpAny_bind (wpAny_bind ?_)))
  first | refine wpAny_bind (wpAny_typeNameOfWhole_keyiter ty (wpAny_pure (wpAny_bind (wpAny_fieldsOf gi di ?_)))) | refine wpAny_bind (wpAny_typeNameOf_keyiter ty (wpAny_pure (wpAny_bind (wpAny_fieldsOf gi di ?_))))
  simp only[show Builtin.Dict_items.ownsTuple "dict_keyiterator" = false by decide,Bool.false_eq_true,if_false];show wpAny _ _ (if (Value.ref a == Value.none)=true then _ else _) _ _ z;rw[if_neg (show ¬ ((Value.ref a == Value.none)=true) from Bool.false_ne_true)];refine wpAny_bind (wpAny_pure (wpAny_bind (wpAny_dictEntries g dat ?_)));rw[if_neg (by simp)];refine wpAny_bind (wpAny_pure (wpAny_bind (wpAny_dictEpoch g dat ?_)));rw[if_neg (by simp)];refine wpAny_pure ?_;simp only[show ¬ ((k:Int)<0) from by lia,if_false,Int.toNat_natCast,Array.getElem?_eq_getElem hk];refine wpAny_bind ?_
  first | refine wpAny_bind (wpAny_typeNameOfWhole_keyiter ty (wpAny_pure (wpAny_bind (wpAny_isOneOf_keyiter ty ?_)))) | refine wpAny_bind (wpAny_typeNameOf_keyiter ty (wpAny_pure (wpAny_bind (wpAny_isOneOf_keyiter ty ?_))))
  show wpAny _ _ (setField (.ref it) 1 (rawInt ((k:Int)+1)) >>= _) _ _ z;refine wpAny_bind (wpAny_setField gi di (by simp) ?_);have ki':(z.heap.update it (Obj.mapFields (·.setIfInBounds 1 (rawInt ((k:Int)+1))))).IsKeyIter it a (k+1) rows.size age :=
   ⟨_,Heap.get?_update_self _ gi (Obj.isFreed_of_fields (Obj.data_mapFields di _)),(Obj.cls_mapFields ..).trans ci,by rw[Obj.data_mapFields di]; simp[rawInt]⟩
  refine wpAny_bind (wpAny_holding (wpAny_bind (wpAny_isOneOf_keyiter (s:={ z with heap:=z.heap.update it (Obj.mapFields (·.setIfInBounds 1 (rawInt ((k:Int)+1)))) }) ki'.typeIs ?_)));show wpAny _ _ (pure rows[k].key) _ _ _;exact wpAny_pure (wpAny_pure ⟨_,rfl,wpAny_pure (hR _ ki' (Heap.SameBut.update ..))⟩)
theorem zSy{R:Option Value->Shared->Prop}(hh:A.handled=none)(ki:z.heap.IsKeyIter it a k rows.size age)(x:zQg z.heap a rows age)(hk:rows.size<=k)
  (hR:∀ h',Heap.ExtBut it z.heap h'->R none { z with heap:=h' }):wpAny (model prog w) A (pyNext (.ref it)) R E z:=by
 have ty:=ki.typeIs;obtain⟨oi,gi,ci,di⟩:=id ki;obtain⟨ob,g,_,dat⟩:=x;unfold pyNext;refine wpAny_bind (wpAny_attempt (wpAny_callSpecial?_slot (name:=Str.ofString "__next__") ty F.slot_dict_keyiterator_next (wpAny_call_entry F.slot_dict_keyiterator_next ty F.entry_dict_keyiterator_next ?walk (F.args_dict_keyiterator_next_1 _))))
 case walk =>
  refine wpAny_bind (wpAny_pure (wpAny_bind (wpAny_bind ?_)))
  first | refine wpAny_bind (wpAny_typeNameOfWhole_keyiter ty (wpAny_pure (wpAny_bind (wpAny_fieldsOf gi di ?_)))) | refine wpAny_bind (wpAny_typeNameOf_keyiter ty (wpAny_pure (wpAny_bind (wpAny_fieldsOf gi di ?_))))
  simp only[show Builtin.Dict_items.ownsTuple "dict_keyiterator" = false by decide,Bool.false_eq_true,if_false];show wpAny _ _ (if (Value.ref a == Value.none)=true then _ else _) _ _ z;rw[if_neg (show ¬ ((Value.ref a == Value.none)=true) from Bool.false_ne_true)];refine wpAny_bind (wpAny_pure (wpAny_bind (wpAny_dictEntries g dat ?_)));rw[if_neg (by simp)];refine wpAny_bind (wpAny_pure (wpAny_bind (wpAny_dictEpoch g dat ?_)));rw[if_neg (by simp)];refine wpAny_pure ?_;simp only[show ¬ ((k:Int)<0) from by lia,if_false,Int.toNat_natCast,Array.getElem?_eq_none hk];refine wpAny_bind ?_
  first | refine wpAny_bind (wpAny_typeNameOfWhole_keyiter ty (wpAny_pure ?_)) | refine wpAny_bind (wpAny_typeNameOf_keyiter ty (wpAny_pure ?_))
  show wpAny _ _ (setField (.ref it) 0 .none >>= _) _ _ z;refine wpAny_bind (wpAny_setField gi di (by simp) (show wpAny _ _ (newExc (.type "StopIteration") [] >>= _) _ _ _ from wpAny_bind ?_));simp only[newExc,newTuple];refine wpAny_bind (wpAny_newObj_type (wpAny_bind (m:=firstArgMember _ _) (wpAny_of_eq (a:=Value.none) (by first | rfl | (simp only[firstArgMember]; rfl)) (wpAny_newObj_type ?_ (by size_fits)))) (by size_fits));simp only[raiseNew];refine wpAny_bind (wpAny_handled ?_);rw[show A.in1.handled=none from hh];refine wpAny_bind (wpAny_pure (wpAny_throw ?_));refine wpAny_bind (wpAny_isInstance (T := "StopIteration") (b:=true) ⟨_,Heap.get?_push_size _ rfl,rfl⟩ isSubtype_stop ?_);exact wpAny_pure (hR _ (((Heap.SameBut.update ..).extBut.push _).push _))
theorem zOb(hh:A.handled=none)(hne:a≠it):Walks prog w A it [it,a] [it] rows.size (λi v=>∃ h:i<rows.size,v=rows[i].key) (λi h=>h.IsKeyIter it a i rows.size age/\zQg h a rows age) where
 sub:=λb hb=>by simp at hb; simp[hb]
 frame:=λ_ _ _ st hk=>⟨st.1.at λo e=>hk it (by simp) o e,st.2.at λo e=>hk a (by simp) o e⟩
 item:=λi s Q E hi st hQ=>zRq st.1 st.2 hi λh' ki' hs' =>
  hQ _ h' s.toks ⟨hi,rfl⟩ ⟨ki',st.2.at λo e=>hs'.extBut a o hne e⟩ λb o hb e=>hs'.extBut b o (λh=>hb (by simp[h])) e
 done:=λs Q E st hQ=>zSy hh st.1 st.2 (Nat.le_refl _) λh' he'=>hQ h' s.toks λb o hb e=>he' b o (λh=>hb (by simp[h])) e
 self:=λ_ _ _ _ st hQ=>wpAny_pyIter_keyiter st.1 hQ
theorem zTh(hs:(a == sysModules)=false):PySem.W.KdlSrc prog w "dict" a a rows.size (λi v=>∃ h:i<rows.size,v=rows[i].key) (λh=>zQg h a rows age) where
 type:=λ_ x=>x.typeIs
 there:=λ_ x=>let ⟨_,g,_⟩:=x;⟨Heap.lt_size g,Heap.lt_size g⟩
 keep:=λ_ _ x hk=>x.at λo e=>hk a (.inl rfl) o e
 notList:=by decide
 notTuple:=by decide
 hint:=λ_ _ _ _ x hq=>PySem.W.kdl_hint_dict x.typeIs hq
 iter:=λ_ s hh x=>⟨_,_,(λ_ _ hq=>zQj hs x hq),zOb hh (let ⟨_,g,_⟩:=x; Nat.ne_of_lt (Heap.lt_size g)),⟨⟨_,Heap.get?_push_size _ rfl,rfl,rfl⟩,x.at λo e=>Heap.get?_push_of_some _ e⟩⟩
end
section
variable{X:Cx}
theorem zIf(hc:X.calm=true):qK X (.type "list") (λxs H Q=>∃(d:Addr)(kvs:List (List Key×V)),xs=[.ref d]/\H d=some (.dT kvs) /\
  ∀(p:Addr)(ts:List (Addr×List Key)),H p=none->ts.map (·.2)=kvs.map (·.1)->(∀ t∈ts,H t.1=some (.tup (t.2.map kV)))->Q (.ref p) (upd H p (.lst ((ts.map (·.1)).map V.ref)))):=by
 intro pins s σ H xs us Q I r h;obtain⟨d,kvs,rfl,hd,q⟩:=h;obtain⟨u,rfl,ru⟩:=yW.one r;cases ru;obtain⟨hz,hsm,ys,rel,ob,es,age,g,ex,dat,hes,hjunk⟩:=zWp I.hok hd;have hsz:es.size=ys.length:=size_of_entries hes;have hlen:kvs.length=ys.length:=Paired.length rel;refine PySem.W.kdl_call (zTh (rows:=es) (age:=age) hsm) (show X.A.handled=none from I.ok.hd hc) ⟨ob,g,ex,dat⟩ (by rw[hsz,<- hlen]; exact hz) λh' tk acc c keep at' its=>?_;have eqs:acc.toList=((ys.map λy=>(y.2.1,y.1)).map (·.1)).map Value.ref:=by
  refine List.ext_getElem? λj=>?_;by_cases hj:j<ys.length
  ·have ja:j<acc.size:=by rw[its.1,hsz]; exact hj
   obtain⟨hj',e⟩:=its.2 j acc[j] (by simp[ja]);have ek:=entry_at hes j;rw[Array.getElem?_eq_getElem hj',List.getElem?_eq_getElem hj,Option.map_some] at ek;have ev:es[j].key=Value.ref ys[j].2.1:=by rw[Option.some.inj ek]; rfl
   rw[Array.getElem?_toList,Array.getElem?_eq_getElem ja,e,ev,List.getElem?_map,List.getElem?_map,List.getElem?_map,List.getElem?_eq_getElem hj];rfl
  ·rw[List.getElem?_eq_none (by rw[Array.length_toList,its.1,hsz]; lia),List.getElem?_eq_none (by simp; lia)]
 have props:(ys.map λy=>(y.2.1,y.1)).map (·.2)=kvs.map (·.1)/\∀ t∈ys.map (λy=>(y.2.1,y.1)),H t.1=some (.tup (t.2.map kV)):=by
  clear hes hsz hlen q eqs hd hz hjunk
  induction rel with
  | nil=>exact⟨rfl,λt ht=>nomatch ht⟩
  | @cons p y ps zs hp t ih =>
   refine⟨by rw[List.map_cons,List.map_cons,List.map_cons,ih.1,hp.1],λt' ht'=>?_⟩;rcases List.mem_cons.mp ht' with e | ht'
   ·subst e;show H y.2.1=some (.tup (y.1.map kV));rw[<- hp.1];exact hp.2.1
   ·exact ih.2 t' ht'
 have fr:H s.heap.objs.size=none:=I.hok.fresh (Nat.le_refl _);refine⟨.ref s.heap.objs.size,_,I.laid (t':=tk) (a:=s.heap.objs.size) (o:=.lst (((ys.map λy=>(y.2.1,y.1)).map (·.1)).map V.ref)) keep (Nat.le_refl _) ?_,rfl,q _ _ fr props.1 props.2⟩;exists by rw[List.length_map,List.length_map,List.length_map,<- hlen]; exact hz,_,c,qP _;rw[<- eqs,Array.toArray_toList];exact at'
end
end L2

namespace Sea
open PySem L2
abbrev Sd:=Addr×Int×Int×Int
abbrev zJ(ss:List Sd):List V:=(ss.map (·.1)).map V.ref
def vP(H:Hp)(ss:List Sd):Prop:=∀ t∈ss,H t.1=some (.tup [.int t.2.1,.int t.2.2.1,.int t.2.2.2])/\(t.2.1≠0\/t.2.2.1≠0)/\t.2.1.natAbs<=10^9/\t.2.2.1.natAbs<=10^9/\t.2.2.2.natAbs<=10^13
theorem vP.same{H H':Hp}{ss:List Sd}(h:vP H ss)(s:zZ H H'):vP H' ss:=λt ht=>⟨s _ _ (h t ht).1,(h t ht).2⟩
theorem zK(ss:List Sd):(zJ ss).length=ss.length:=by simp[zJ]
theorem xZ{ss:List Sd}{i:Nat}{v:V}(h:(zJ ss)[i]?=some v):∃ t,ss[i]?=some t/\v=.ref t.1/\i<ss.length:=by
 rw[List.getElem?_map,List.getElem?_map] at h;cases e:ss[i]? with
 | none=>rw[e] at h; cases h
 | some t=>rw[e] at h; exact⟨t,rfl,(Option.some.inj h).symm,(List.getElem?_eq_some_iff.mp e).1⟩
theorem yO{ss:List Sd}{i:Nat}{k:Int}(e:k=i)(h:i<ss.length):∃ t,t∈ss/\ss[i]?=some t/\atI (zJ ss) k=some (.ref t.1):=by
 refine⟨ss[i],List.getElem_mem h,List.getElem?_eq_getElem h,?_⟩;rw[e];exact sW (by rw[List.getElem?_map,List.getElem?_map,List.getElem?_eq_getElem h] <;> rfl)
def rS(ss:List Sd)(x y:Int):Bool:=ss.all λt=>decide (t.2.1*x+t.2.2.1*y<=0)
def WK(ss:List Sd)(n:Nat)(k:List Int):Prop:=∃ j t,j<n/\ss[j]?=some t/\((k=vK [-t.2.2.1,t.2.1]/\rS ss (-t.2.2.1) t.2.1=true)\/(k=vK [t.2.2.1,-t.2.1]/\rS ss t.2.2.1 (-t.2.1)=true))
theorem zUo(ss:List Sd)(k:List Int):¬ WK ss 0 k:=λ⟨_,_,h,_⟩=>absurd h (Nat.not_lt_zero _)
theorem zUk{ss:List Sd}{n:Nat}{t:Sd}(h:ss[n]?=some t)(k:List Int):WK ss (n+1) k↔WK ss n k\/(k=vK [-t.2.2.1,t.2.1]/\rS ss (-t.2.2.1) t.2.1=true)\/(k=vK [t.2.2.1,-t.2.1]/\rS ss t.2.2.1 (-t.2.1)=true):=by
 constructor
 ·rintro⟨j,u,hj,hu,r⟩;by_cases e:j=n
  ·subst e;rw[h] at hu;cases hu;exact .inr r
  ·exact .inl ⟨j,u,by lia,hu,r⟩
 ·rintro(⟨j,u,hj,hu,r⟩ | r)
  ·exact⟨j,u,by lia,hu,r⟩
  ·exact⟨n,t,by lia,h,r⟩
theorem zQ4{ss:List Sd}{x y g:Int}(hg:0<g):rS ss (x*g) (y*g)=rS ss x y:=by
 unfold rS
 congr 1
 funext t
 refine decide_eq_decide.mpr ?_;have e:t.2.1*(x*g)+t.2.2.1*(y*g)=(t.2.1*x+t.2.2.1*y)*g:=by rw[Int.add_mul,Int.mul_assoc,Int.mul_assoc]
 rw[e];constructor
 ·intro h;by_cases c:t.2.1*x+t.2.2.1*y<=0
  ·exact c
  ·have:=Int.mul_pos (show 0<t.2.1*x+t.2.2.1*y by lia) hg;lia
 ·intro h;have:=Int.mul_nonneg (show 0<=-(t.2.1*x+t.2.2.1*y) by lia) (Int.le_of_lt hg);rw[Int.neg_mul] at this;lia
theorem gcd2{x y:Int}(n:x≠0\/y≠0)(m0:x.natAbs<=10^9)(m1:y.natAbs<=10^9):0<yD [x,y]/\(yD [x,y]:Int)<10^600:=by
 have gp:0<yD [x,y]:=by
  rcases n with n | n
  ·exact xO (n:=x) (by simp) n
  ·exact xO (n:=y) (by simp) n
 have z:(yD [x,y]:Int)<=10^9:=by
  rcases n with n | n
  ·have:=zBc (ns:=[x,y]) (n:=x) (by simp) n;lia
  ·have:=zBc (ns:=[x,y]) (n:=y) (by simp) n;lia
 exact⟨gp,Int.lt_of_le_of_lt z (by decide +kernel)⟩
theorem zKb{ss:List Sd}{x y:Int}(gp:0<yD [x,y]):rS ss (x/(yD [x,y]:Int)) (y/(yD [x,y]:Int))=rS ss x y:=by
 have gI:(0:Int)<(yD [x,y]:Int):=by lia
 have e1:=yL (ns:=[x,y]) (n:=x) (by simp);have e2:=yL (ns:=[x,y]) (n:=y) (by simp);have z:=zQ4 (ss:=ss) (x:=x/(yD [x,y]:Int)) (y:=y/(yD [x,y]:Int)) gI;rw[e1,e2] at z;exact z.symm
def zM8(ns:List Int):List Key:=ns.map Sum.inl
theorem zG4(ns:List Int):(zM8 ns).map kV=ns.map V.int:=by
 unfold zM8;rw[List.map_map];rfl
theorem zRi{a b:List Int}(h:zM8 a=zM8 b):a=b:=by
 have z:=congrArg (List.map kV) h;rw[zG4,zG4] at z;exact zCu z
structure zO0(kvs:List (List Key×V))(ks:List (List Int)):Prop where
 keys:kvs.map (·.1)=ks.map zM8
 nodup:ks.Nodup
theorem zO0.nil:zO0 [] []:=⟨rfl,List.nodup_nil⟩
theorem zO0.put{kvs:List (List Key×V)}{ks:List (List Int)}(h:zO0 kvs ks)(k:List Int)(v:V):∃ ks',zO0 (zLh kvs (zM8 k) v) ks'/\(∀ x,x∈ks'↔x∈ks\/x=k)/\ks'.length<=ks.length+1:=by
 have hm:∀ kv∈kvs,∃ x∈ks,kv.1=zM8 x:=λkv hkv=>by
  have z:kv.1∈ks.map zM8:=by rw[<- h.keys]; exact List.mem_map_of_mem hkv
  obtain⟨x,hx,e⟩:=List.mem_map.mp z;exact⟨x,hx,e.symm⟩
 unfold zLh;by_cases c:(kvs.any λkv=>decide (kv.1=zM8 k))=true
 ·rw[if_pos c];obtain⟨kv,hkv,e⟩:=List.any_eq_true.mp c;obtain⟨x,hx,ex⟩:=hm kv hkv;have exk:x=k:=zRi (ex.symm.trans (of_decide_eq_true e));refine⟨ks,⟨?_,h.nodup⟩,λy=>⟨.inl,λz=>z.elim id λz=>by rw[z,<- exk]; exact hx⟩,Nat.le_succ _⟩;rw[List.map_map,<- h.keys];refine List.map_congr_left λa _=>?_;show(if a.1=zM8 k then(a.1,v) else a).1=a.1;split <;> rfl
 ·rw[if_neg c];have nk:k ∉ ks:=λhk=>c (by
   have z:zM8 k∈kvs.map (·.1):=by rw[h.keys]; exact List.mem_map_of_mem hk
   obtain⟨kv,hkv,e⟩:=List.mem_map.mp z;exact List.any_eq_true.mpr ⟨kv,hkv,decide_eq_true e⟩)
  refine⟨ks++[k],⟨by rw[List.map_append,List.map_append,h.keys]; rfl,?_⟩,λy=>by rw[List.mem_append,List.mem_singleton],by rw[List.length_append]; exact Nat.le_refl _⟩;rw[List.nodup_append];refine⟨h.nodup,by simp,λa ha b hb=>?_⟩;rw[List.mem_singleton] at hb;intro e;exact nk (hb ▸ e ▸ ha)
theorem zO0.len{kvs:List (List Key×V)}{ks:List (List Int)}(h:zO0 kvs ks):kvs.length=ks.length:=by
 have z:=congrArg List.length h.keys;rwa[List.length_map,List.length_map] at z
theorem zO0.refs{H:Hp}{kvs:List (List Key×V)}{ks:List (List Int)}{ts:List (Addr×List Key)}(h:zO0 kvs ks)(e:ts.map (·.2)=kvs.map (·.1))(ht:∀ t∈ts,H t.1=some (.tup (t.2.map kV))) :
  ∃ us:List (Addr×List Int),us.map (·.1)=ts.map (·.1)/\us.map (·.2)=ks/\∀ u∈us,H u.1=some (.tup (u.2.map V.int)):=by
 rw[h.keys] at e;clear h
 induction ts generalizing ks with
 | nil =>
  cases ks with
  | nil=>exact⟨[],rfl,rfl,λu hu=>nomatch hu⟩
  | cons k ks=>exact absurd e (by simp)
 | cons t ts ih =>
  cases ks with
  | nil=>exact absurd e (by simp)
  | cons k ks =>
   rw[List.map_cons,List.map_cons] at e;injection e with e1 e2
   obtain⟨us,h1,h2,h3⟩:=ih e2 λt' ht'=>ht t' (List.mem_cons_of_mem _ ht');refine⟨(t.1,k)::us,by rw[List.map_cons,List.map_cons,h1],by rw[List.map_cons,h2],λu hu=>?_⟩;rcases List.mem_cons.mp hu with rfl | hu
   ·have z:=ht t (List.mem_cons_self ..);rw[e1,zG4] at z;exact z
   ·exact h3 u hu
structure zVi(H:Hp)(l:Addr)(ss:List Sd)(us:List (Addr×List Int)):Prop where
 at':H l=some (.lst ((us.map (·.1)).map V.ref))
 all:∀ u∈us,H u.1=some (.tup (u.2.map V.int))
 rises:(us.map (·.2)).Pairwise (λa b=>HT.lexLt b a=false)
 nodup:(us.map (·.2)).Nodup
 mem:∀ k,k∈us.map (·.2)↔WK ss ss.length k
 few:us.length<=80
structure zJh(H0:Hp)(D:Addr)(ss:List Sd)(H:Hp):Prop where
 same:zZ H0 H
 new:H0 D=none
 at':H D=some (.lst (zJ ss))
 all:vP H ss
theorem zJh.app{H0 H H2:Hp}{D p:Addr}{ss:List Sd}{a b c:Int}(P:zJh H0 D ss H)(s:zZ H H2)(hp:H p=none)(ep:H2 p=some (.tup [.int a,.int b,.int c]))(n:a≠0\/b≠0)(ma:a.natAbs<=10^9)(mb:b.natAbs<=10^9)(mc:c.natAbs<=10^13) :
  zJh H0 D (ss++[(p,a,b,c)]) (upd H2 D (.lst (zJ ss++[.ref p]))):=by
 have npD:p≠D:=λe=>by rw[e,P.at'] at hp; cases hp
 refine⟨(P.same.trans s).putNew P.new,P.new,by rw[zD]; simp[zJ],λt ht=>?_⟩;rcases List.mem_append.mp ht with h | h
 ·obtain⟨h1,h2⟩:=P.all t h;refine⟨?_,h2⟩;rw[yA (tZ h1 P.at' (by intro z; cases z))];exact s _ _ h1
 ·rw[List.mem_singleton] at h;subst h;refine⟨?_,n,ma,mb,mc⟩;show upd H2 D _ p=_;rw[yA npD];exact ep
theorem cutS{ok:Addr->List Sd->Hp->Prop}{G:Prop}{R:Addr->List Sd->Hp->Prop}(h1:(∀ D ss H,ok D ss H->R D ss H)->G)(h2:∀ D ss H,ok D ss H->R D ss H):G:=h1 h2
end Sea

namespace Sea
open PySem L2
theorem zA9{i j:Int}(h:i.natAbs<=10^18):zJg i j:=.inl ⟨by lia,by lia⟩
theorem zQe{i j:Int}(h:j.natAbs<=10^18):zJg i j:=.inr ⟨by lia,by lia⟩
abbrev P3:=Int×Int×Int
abbrev zB1(qs:List (Addr×P3)):List V:=(qs.map (·.1)).map V.ref
def zMa(H:Hp)(qs:List (Addr×P3)):Prop:=∀ t∈qs,H t.1=some (.tup [.int t.2.1,.int t.2.2.1,.int t.2.2.2])/\0<t.2.2.2/\Nat.gcd (Nat.gcd t.2.1.natAbs t.2.2.1.natAbs) t.2.2.2.natAbs=1
theorem zMa.same{H H':Hp}{qs:List (Addr×P3)}(h:zMa H qs)(s:zZ H H'):zMa H' qs:=λt ht=>⟨s _ _ (h t ht).1,(h t ht).2⟩
def sv(t p:P3):Int:=t.1*p.1+t.2.1*p.2.1-t.2.2*p.2.2
def tn(e s:P3):Int:=e.1*s.2.1-e.2.1*s.1
def dl(e p q:P3):Int:=e.1*(p.2.1*q.2.2-q.2.1*p.2.2)-e.2.1*(p.1*q.2.2-q.1*p.2.2)
theorem zR9(a b u v X Y:Int):(a*a+b*b)*(u*X+v*Y)=(a*Y-b*X)*(a*v-b*u)+(a*X+b*Y)*(a*u+b*v):=by
 simp only[Int.mul_sub,Int.sub_mul,Int.mul_add,Int.add_mul,Int.mul_comm,Int.mul_left_comm];lia
theorem zHh(s p q:P3):sv s p*q.2.2-sv s q*p.2.2=s.1*(p.1*q.2.2-q.1*p.2.2)+s.2.1*(p.2.1*q.2.2-q.2.1*p.2.2):=by
 unfold sv;simp only[Int.mul_sub,Int.sub_mul,Int.add_mul,Int.mul_add,Int.mul_comm,Int.mul_left_comm];lia
theorem zPf{e p q:P3}(hp:sv e p=0)(hq:sv e q=0)(s:P3):(e.1*e.1+e.2.1*e.2.1)*(sv s p*q.2.2-sv s q*p.2.2)=dl e p q*tn e s:=by
 have z:=zHh e p q;rw[hp,hq,Int.zero_mul,Int.zero_mul,Int.sub_self] at z;rw[zHh s p q,zR9,<- z,Int.zero_mul,Int.add_zero];rfl
theorem zKl{x y h:Int}(hh:h*h=1):(x*h)*(y*h)=x*y:=by
 have e:(x*h)*(y*h)=x*y*(h*h):=by simp only[Int.mul_comm,Int.mul_left_comm]
 rw[e,hh,Int.mul_one]
theorem zM0{e p q:P3}{h:Int}(hh:h*h=1)(hN:0<e.1*e.1+e.2.1*e.2.1)(hp:sv e p=0)(hq:sv e q=0)(pw:0<p.2.2)(qw:0<q.2.2)(s:P3)(hs:(dl e p q*h)*(tn e s*h)<=0)(hv:sv s q<=0):sv s p<=0:=by
 have k:=zPf hp hq s;rw[<- zKl (x:=dl e p q) (y:=tn e s) hh] at k;rw[<- k] at hs;have h1:sv s p*q.2.2-sv s q*p.2.2<=0:=by
  by_cases c:sv s p*q.2.2-sv s q*p.2.2<=0
  ·exact c
  ·have:=Int.mul_pos hN (show 0<sv s p*q.2.2-sv s q*p.2.2 by lia);lia
 have h2:sv s q*p.2.2<=0:=by
  have:=Int.mul_nonneg (show 0<=-sv s q by lia) (Int.le_of_lt pw);rw[Int.neg_mul] at this;lia
 by_cases c:sv s p<=0
 ·exact c
 ·have:=Int.mul_pos (show 0<sv s p by lia) qw;lia
theorem zVq{e p q s:P3}{h:Int}(hh:h*h=1)(hN:0<e.1*e.1+e.2.1*e.2.1)(hp:sv e p=0)(hq:sv e q=0)(pw:0<p.2.2)(h0:sv s p=0)(hv:sv s q<=0)(ht:0<tn e s*h):0<=dl e p q*h:=by
 have k:=zPf hp hq s;rw[h0,Int.zero_mul,<- zKl (x:=dl e p q) (y:=tn e s) hh] at k;have h2:0<=-sv s q*p.2.2:=Int.mul_nonneg (by lia) (Int.le_of_lt pw);rw[Int.neg_mul] at h2;have h3:=Int.mul_nonneg (Int.le_of_lt hN) (show 0<=0-sv s q*p.2.2 by lia);rw[k] at h3;by_cases c:0<=dl e p q*h
 ·exact c
 ·have:=Int.mul_pos (show 0 < -(dl e p q*h) by lia) ht;rw[Int.neg_mul] at this;lia
theorem zWn{e p q s:P3}{h:Int}(hh:h*h=1)(hN:0<e.1*e.1+e.2.1*e.2.1)(hp:sv e p=0)(hq:sv e q=0)(pw:0<p.2.2)(h0:sv s p=0)(hv:0<sv s q)(ht:0<tn e s*h):dl e p q*h<=0:=by
 have k:=zPf hp hq s;rw[h0,Int.zero_mul,<- zKl (x:=dl e p q) (y:=tn e s) hh] at k;have h2:=Int.mul_pos hv pw;have h3:=Int.mul_nonneg (Int.le_of_lt hN) (show 0<=sv s q*p.2.2 by lia);have h4:(e.1*e.1+e.2.1*e.2.1)*(0-sv s q*p.2.2) = -((e.1*e.1+e.2.1*e.2.1)*(sv s q*p.2.2)):=by rw[Int.zero_sub,Int.mul_neg]
 rw[h4] at k;by_cases c:dl e p q*h<=0
 ·exact c
 ·have:=Int.mul_pos (show 0<dl e p q*h by lia) ht;lia
def pt3(l:List Int):P3:=match l with
 | [x,y,w]=>(x,y,w)
 | _=>(0,0,1)
def crL(e s:P3):List Int:=vK (upL (e.2.2*s.2.1-e.2.1*s.2.2) (e.1*s.2.2-e.2.2*s.1) (e.1*s.2.1-e.2.1*s.1))
def ftL(t:P3):List Int:=vK (upL (t.1*t.2.2) (t.2.1*t.2.2) (t.1*t.1+t.2.1*t.2.1))
structure zSf(l:List Int)(p:P3):Prop where
 list:l=[p.1,p.2.1,p.2.2]
 pos:0<p.2.2
 low:Nat.gcd (Nat.gcd p.1.natAbs p.2.1.natAbs) p.2.2.natAbs=1
theorem zBi{e s:P3}(h:tn e s≠0):zSf (crL e s) (pt3 (crL e s))/\sv e (pt3 (crL e s))=0/\sv s (pt3 (crL e s))=0:=by
 obtain⟨x,y,w,el,sp⟩:=zCm (X:=e.2.2*s.2.1-e.2.1*s.2.2) (Y:=e.1*s.2.2-e.2.2*s.1) (W:=e.1*s.2.1-e.2.1*s.1) h;have e1:crL e s=[x,y,w]:=el;rw[e1];refine⟨⟨rfl,by have:=sp.pos; show 0<w; lia,sp.low⟩,?_,?_⟩
 ·have z:=zHr (A:=e.1) (B:=e.2.1) (C:=e.2.2) h sp (zNs e.1 e.2.1 e.2.2 s.1 s.2.1 s.2.2);show e.1*x+e.2.1*y-e.2.2*w=0;lia
 ·have z:=zHr (A:=s.1) (B:=s.2.1) (C:=s.2.2) h sp (zNp e.1 e.2.1 e.2.2 s.1 s.2.1 s.2.2);show s.1*x+s.2.1*y-s.2.2*w=0;lia
theorem qA{t:P3}(h:t.1≠0\/t.2.1≠0):0<t.1*t.1+t.2.1*t.2.1:=zF5 h
theorem zTu{t:P3}(h:t.1≠0\/t.2.1≠0):zSf (ftL t) (pt3 (ftL t))/\sv t (pt3 (ftL t))=0:=by
 have hw:=qA h;obtain⟨x,y,w,el,sp⟩:=zCm (X:=t.1*t.2.2) (Y:=t.2.1*t.2.2) (W:=t.1*t.1+t.2.1*t.2.1) (by lia);have e1:ftL t=[x,y,w]:=el;rw[e1];exists ⟨rfl,by have:=sp.pos; show 0<w; lia,sp.low⟩;have z:=zHr (A:=t.1) (B:=t.2.1) (C:=t.2.2) (show t.1*t.1+t.2.1*t.2.1≠0 by lia) sp (by simp only[Int.mul_add,Int.mul_comm,Int.mul_left_comm]);show t.1*x+t.2.1*y-t.2.2*w=0;lia
def inW(ss:List Sd)(p:P3):Prop:=∀ t∈ss,sv t.2 p<=0
def zDj(ss:List Sd)(e:P3)(h:Int):Option Nat->Prop
 | none=>∀ t∈ss,tn e t.2*h<=0
 | some j=>∃ t,ss[j]?=some t/\0<tn e t.2*h/\∀ u∈ss,0<tn e u.2*h->sv u.2 (pt3 (crL e t.2))<=0
theorem wI{x h:Int}(h0:0<x*h):x≠0:=λz=>by rw[z,Int.zero_mul] at h0; exact absurd h0 (by decide)
theorem zK6{ss:List Sd}{e z:P3}{h:Int}{j:Nat}{t:Sd}(hh:h*h=1)(hN:0<e.1*e.1+e.2.1*e.2.1)(hz:sv e z=0)(zw:0<z.2.2)(wz:inW ss z)(gt:ss[j]?=some t)(h0:0<tn e t.2*h)(ha:∀ u∈ss,0<tn e u.2*h->sv u.2 (pt3 (crL e t.2))<=0):inW ss (pt3 (crL e t.2)):=λu hu=>by
 obtain⟨sp,c1,c2⟩:=zBi (wI h0);by_cases hp:0<tn e u.2*h
 ·exact ha u hu hp
 ·have d0:=zVq hh hN c1 hz sp.pos c2 (wz t (List.mem_of_getElem? gt)) h0;refine zM0 hh hN c1 hz sp.pos zw u.2 ?_ (wz u hu);have:=Int.mul_nonneg d0 (show 0<=-(tn e u.2*h) by lia);rw[Int.mul_neg] at this;lia
theorem zNh{ss:List Sd}{e z p:P3}(hN:0<e.1*e.1+e.2.1*e.2.1)(hz:sv e z=0)(zw:0<z.2.2)(wz:inW ss z)(hp:sv e p=0)(pw:0<p.2.2)(n1:zDj ss e 1 none)(n2:zDj ss e (-1) none):inW ss p:=λu hu=>by
 have e1:=n1 u hu;have e2:=n2 u hu;rw[Int.mul_one] at e1;have e0:tn e u.2=0:=by
  rw[Int.mul_neg,Int.mul_one] at e2;lia
 refine zM0 (h:=1) (by decide) hN hp hz pw zw u.2 ?_ (wz u hu);rw[e0,Int.zero_mul,Int.mul_zero];exact Int.le_refl _
theorem zOp(t p z:P3)(b a:Int):sv t (b*p.1+a*z.1,b*p.2.1+a*z.2.1,b*p.2.2+a*z.2.2)=b*sv t p+a*sv t z:=by
 unfold sv;simp only[Int.mul_sub,Int.mul_add,Int.mul_comm,Int.mul_left_comm];lia
theorem zUl{ss:List Sd}{e p z:P3}(wp:inW ss p)(wz:inW ss z)(pw:0<p.2.2)(zw:0<z.2.2)(hp:0<sv e p)(hz:sv e z<=0):∃ m:P3,sv e m=0/\0<m.2.2/\inW ss m:=by
 refine⟨(-sv e z*p.1+sv e p*z.1,-sv e z*p.2.1+sv e p*z.2.1,-sv e z*p.2.2+sv e p*z.2.2),?_,?_,λt ht=>?_⟩
 ·rw[zOp,Int.neg_mul,Int.mul_comm (sv e p)];lia
 ·have h1:=Int.mul_nonneg (show 0<=-sv e z by lia) (Int.le_of_lt pw);have h2:=Int.mul_pos hp zw;show 0 < -sv e z*p.2.2+sv e p*z.2.2;lia
 ·rw[zOp];have h1:=Int.mul_nonneg (show 0<=-sv e z by lia) (show 0<=-sv t.2 p by have:=wp t ht; lia);have h2:=Int.mul_nonneg (Int.le_of_lt hp) (show 0<=-sv t.2 z by have:=wz t ht; lia);rw[Int.mul_neg] at h1 h2;lia
end Sea

namespace L2
open PySem PySem.Spec PyProof.Rows
section
variable{X:Cx}{pos:Pos}
def rNeE(K:PySem.W.Frag):R2:=λx y H Q=>∃(a b:Addr)(rs:List Addr),x=.ref a/\y=.ref b/\SqL K H a (rs.map V.ref)/\SqL K H b []/\Q (.bl (!rs.isEmpty)) H
theorem zWq(hu:X.A.units<cLine):OpR X (compareOp .NotEq) (rNeE X.K):=by
 intro pins s σ H x y v u Q I rx ry h;obtain⟨a,b,rs,rfl,rfl,h1,h2,q⟩:=h;cases rx;cases ry;obtain⟨us,r1,p1,_⟩:=I.list h1;obtain⟨ws,r2,p2,_⟩:=I.list h2;have e1:=zHm r1;have e2:=yW.zero r2;subst e1 e2;cases rs with
 | nil =>
  refine SeqAt.RcNeAt.lists (e:=λ_=>true) p1.isList p2.isList rfl hu (λj g _=>absurd g (by simp)) X.prog X.w _ _ ?_;exact⟨.bl false,H,I,rfl,q⟩
 | cons r rs =>
  refine SeqAt.RcNeAt.lists_lengths p1.isList p2.isList (by simp) hu X.prog X.w _ _ ?_;exact⟨.bl true,H,I,rfl,q⟩
end
end L2
namespace Sea
open PySem L2
theorem zTe(ss:List Sd)(n:Nat):qJ (zJ ss) (some (n:Int)) none=zJ (ss.drop n):=by
 unfold qJ;rw[HT.sIx_nat (zJ ss).length 0 n,show HT.sIx (zJ ss).length (zJ ss).length none=(zJ ss).length from rfl,List.take_of_length_le (by rw[List.length_drop] <;> lia)];rw[zK];simp only[zJ,<- List.map_drop]
 congr 2
 by_cases h:n<=ss.length
 ·rw[Nat.min_eq_left h]
 ·rw[Nat.min_eq_right (by lia),List.drop_length,List.drop_eq_nil_of_le (by lia)]
theorem zAr(ss:List Sd):zJ ss=ss.map λt=>V.ref t.1:=by simp[zJ]
end Sea

namespace Sea
open PySem L2
theorem zUf(e p q:P3):dl e p q = -dl e q p:=by
 unfold dl;simp only[Int.mul_sub];lia
def zIo(ss:List Sd)(e:P3)(h:Int)(qs:List P3):Prop:=zDj ss e h none\/∃(j:Nat)(t:Sd),ss[j]?=some t/\0<tn e t.2*h/\(∀ u∈ss,0<tn e u.2*h->sv u.2 (pt3 (crL e t.2))<=0)/\pt3 (crL e t.2)∈qs
theorem zIo.app{ss:List Sd}{e:P3}{h:Int}{qs rs:List P3}(f:zIo ss e h qs):zIo ss e h (qs++rs):=by
 rcases f with f | ⟨j,t,g,p,a,m⟩
 ·exact .inl f
 ·exact .inr ⟨j,t,g,p,a,List.mem_append_left _ m⟩
theorem zQz{e s:P3}(h:tn e s≠0)(b1:e.1.natAbs<=10^9)(b2:e.2.1.natAbs<=10^9)(b3:e.2.2.natAbs<=10^13)(c1:s.1.natAbs<=10^9)(c2:s.2.1.natAbs<=10^9)(c3:s.2.2.natAbs<=10^13) :
  (pt3 (crL e s)).1.natAbs<=10^40/\(pt3 (crL e s)).2.1.natAbs<=10^40/\(pt3 (crL e s)).2.2.natAbs<=10^40:=by
 obtain⟨x,y,w,el,sp⟩:=zCm (X:=e.2.2*s.2.1-e.2.1*s.2.2) (Y:=e.1*s.2.2-e.2.2*s.1) (W:=e.1*s.2.1-e.2.1*s.1) h;have e1:crL e s=[x,y,w]:=el;rw[e1];have z1:=zI e.2.2 s.2.1 b3 c2;have z2:=zI e.2.1 s.2.2 b2 c3;have z3:=zI e.1 s.2.2 b1 c3;have z4:=zI e.2.2 s.1 b3 c1;have z5:=zI e.1 s.2.1 b1 c2;have z6:=zI e.2.1 s.1 b2 c1;have x1:=sp.xle;have x2:=sp.yle;have x3:=sp.wle;refine⟨?_,?_,?_⟩
 ·show x.natAbs<=10^40;lia
 ·show y.natAbs<=10^40;lia
 ·show w.natAbs<=10^40;lia
end Sea

namespace Sea
open PySem L2
def zCd(x:Int):Int:=if x<0 then -x else x
def xF(a b:Int):Int:=zCd a+zCd b
theorem rK{a b:Int}(h:a≠0\/b≠0):0<xF a b:=by
 unfold xF zCd;split <;> split <;> lia
theorem par{e1 e2 s1 s2:Int}(h:e1*s2=e2*s1)(hs:e2*s2<=0):zCd e2*s1+zCd s2*e1=0:=by
 unfold zCd;rw[Int.mul_comm e1 s2] at h;by_cases c:e2<0
 ·rw[if_pos c];by_cases d:s2<0
  ·have:=Int.mul_pos_of_neg_of_neg c d;lia
  ·rw[if_neg d,Int.neg_mul];lia
 ·rw[if_neg c];by_cases d:s2<0
  ·rw[if_pos d,Int.neg_mul];lia
  ·rw[if_neg d];have z:e2*s2=0:=by
    have:=Int.mul_nonneg (show 0<=e2 by lia) (show 0<=s2 by lia);lia
   rcases Int.mul_eq_zero.mp z with z | z
   ·rw[z,Int.zero_mul] at h;rw[z,Int.zero_mul,h];rfl
   ·rw[z,Int.zero_mul] at h;rw[z,Int.zero_mul,<- h];rfl
theorem zGg{x y:Int}(h:x+y<0)(hp:0<=x*y):x<=0/\y<=0:=by
 by_cases cx:x<=0
 ·by_cases cy:y<=0
  ·exact⟨cx,cy⟩
  ·by_cases c0:x=0
   ·lia
   ·have:=Int.mul_neg_of_neg_of_pos (show x<0 by lia) (show 0<y by lia);lia
 ·by_cases cy:y<0
  ·have:=Int.mul_neg_of_pos_of_neg (show 0<x by lia) cy;lia
  ·lia
theorem zVp(x:Int):0<=x*x:=by
 by_cases h:0<=x
 ·exact Int.mul_nonneg h h
 ·exact Int.le_of_lt (Int.mul_pos_of_neg_of_neg (by lia) (by lia))
theorem zRp{e s f P:P3}(ht:tn e s=0)(hN:0<e.1*e.1+e.2.1*e.2.1)(he:e.1≠0\/e.2.1≠0)(fw:0<f.2.2)(pw:0<P.2.2)(h1:sv e f=0)(h2:0<sv s f)(h3:sv s P<=0)(h4:0<sv e P) :
  xF e.1 e.2.1*s.1+xF s.1 s.2.1*e.1=0/\xF e.1 e.2.1*s.2.1+xF s.1 s.2.1*e.2.1=0/\xF e.1 e.2.1*s.2.2+xF s.1 s.2.1*e.2.2<0:=by
 have d1:=zHh e P f;have d2:=zHh s P f;rw[h1,Int.zero_mul] at d1;have p1:=Int.mul_pos h4 fw;have p2:=Int.mul_pos h2 pw;have p3:sv s P*f.2.2<=0:=by
  have:=Int.mul_nonneg (show 0<=-sv s P by lia) (Int.le_of_lt fw);rw[Int.neg_mul] at this;lia
 have k:=zR9 e.1 e.2.1 s.1 s.2.1 (P.1*f.2.2-f.1*P.2.2) (P.2.1*f.2.2-f.2.1*P.2.2);rw[<- d1,<- d2,show e.1*s.2.1-e.2.1*s.1=0 from ht,Int.mul_zero,Int.zero_add] at k;have n1:(e.1*e.1+e.2.1*e.2.1)*(sv s P*f.2.2-sv s f*P.2.2)<0:=Int.mul_neg_of_pos_of_neg hN (by lia);rw[k] at n1;have dot:e.1*s.1+e.2.1*s.2.1<0:=by
  by_cases c:e.1*s.1+e.2.1*s.2.1<0
  ·exact c
  ·have:=Int.mul_nonneg (show 0<=sv e P*f.2.2-0 by lia) (show 0<=e.1*s.1+e.2.1*s.2.1 by lia);lia
 have cr:e.1*s.2.1=e.2.1*s.1:=by unfold tn at ht; lia
 have pr:0<=(e.1*s.1)*(e.2.1*s.2.1):=by
  have e0:(e.1*s.1)*(e.2.1*s.2.1)=(e.1*s.2.1)*(e.2.1*s.1):=by simp only[Int.mul_comm,Int.mul_left_comm]
  rw[e0,<- cr];exact zVp _
 obtain⟨o1,o2⟩:=zGg dot pr;have a1:=par (e1:=e.1) (e2:=e.1) (s1:=s.1) (s2:=s.1) rfl o1;have a2:=par (e1:=e.1) (e2:=e.2.1) (s1:=s.1) (s2:=s.2.1) cr o2;have a3:=par (e1:=e.2.1) (e2:=e.1) (s1:=s.2.1) (s2:=s.1) cr.symm o1;have a4:=par (e1:=e.2.1) (e2:=e.2.1) (s1:=s.2.1) (s2:=s.2.1) rfl o2;have z1:xF e.1 e.2.1*s.1+xF s.1 s.2.1*e.1=0:=by
  unfold xF;rw[Int.add_mul,Int.add_mul];lia
 have z2:xF e.1 e.2.1*s.2.1+xF s.1 s.2.1*e.2.1=0:=by
  unfold xF;rw[Int.add_mul,Int.add_mul];lia
 exists z1,z2;have up:=rK he;generalize xF e.1 e.2.1=u at z1 z2 up ⊢;generalize xF s.1 s.2.1=v at z1 z2 ⊢;have q:(u*s.2.2+v*e.2.2)*f.2.2=(u*s.1+v*e.1)*f.1+(u*s.2.1+v*e.2.1)*f.2.1-u*sv s f-v*sv e f:=by
  unfold sv;simp only[Int.mul_sub,Int.mul_add,Int.add_mul,Int.mul_comm,Int.mul_left_comm];lia
 rw[z1,z2,h1,Int.zero_mul,Int.zero_mul,Int.mul_zero] at q;have q2:=Int.mul_pos up h2;by_cases c:u*s.2.2+v*e.2.2<0
 ·exact c
 ·have:=Int.mul_nonneg (show 0<=u*s.2.2+v*e.2.2 by lia) (Int.le_of_lt fw);lia
structure zR0(ss:List Sd)(j:Nat)(e:Sd)(P:P3):Prop where
 at':ss[j]?=some e
 pos:0<P.2.2
 ahead:inW (ss.take j) P
 out:0<sv e.2 P
 no:∀ z:P3,sv e.2 z=0->0<z.2.2->¬ inW (ss.take j) z
theorem zR0.none{ss:List Sd}{j:Nat}{e:Sd}{P:P3}(S:zR0 ss j e P)(z:P3)(zw:0<z.2.2):¬ inW ss z:=λwz=>by
 obtain⟨m,m1,m2,m3⟩:=zUl S.ahead (λu hu=>wz u (List.mem_of_mem_take hu)) S.pos zw S.out (wz e (List.mem_of_getElem? S.at'));exact S.no m m1 m2 m3
theorem zH8{e p f s:P3}(hN:0<e.1*e.1+e.2.1*e.2.1)(hp:sv e p=0)(hf:sv e f=0)(pw:0<p.2.2)(fw:0<f.2.2)(ht:tn e s=0)(hs:sv s f<=0):sv s p<=0:=by
 refine zM0 (h:=1) (by decide) hN hp hf pw fw s ?_ hs;rw[ht,Int.zero_mul,Int.mul_zero];exact Int.le_refl _
theorem zD4{x h:Int} : x * -h = -(x*h):=Int.mul_neg _ _
theorem zK1{ss:List Sd}{e f:P3}{h:Int}(hh:h*h=1)(hN:0<e.1*e.1+e.2.1*e.2.1)(hf:sv e f=0)(fw:0<f.2.2)(no:∀ z:P3,sv e z=0->0<z.2.2->¬ inW ss z)(bes:∀ t∈ss,tn e t.2=0->sv t.2 f<=0){r:Option Nat}(n:zDj ss e h none)(o:zDj ss e (-h) r):False:=by
 cases r with
 | none =>
  refine no f hf fw λt ht=>bes t ht ?_;have a:=n t ht;have b:=o t ht;rw[zD4] at b;have z:tn e t.2*h=0:=by lia
  rcases Int.mul_eq_zero.mp z with z | z
  ·exact z
  ·rw[z] at hh;exact absurd hh (by decide)
 | some j =>
  obtain⟨t,gt,hp,ha⟩:=o;obtain⟨sp,c1,c2⟩:=zBi (wI hp);refine no _ c1 sp.pos λu hu=>?_;by_cases c:0<tn e u.2 * -h
  ·exact ha u hu c
  ·have a:=n u hu;rw[zD4] at c;have z:tn e u.2*h=0:=by lia
   rcases Int.mul_eq_zero.mp z with z | z
   ·exact zH8 hN c1 hf sp.pos fw z (bes u hu z)
   ·rw[z] at hh;exact absurd hh (by decide)
theorem three{ss:List Sd}{e f P:P3}{a b:Sd}{h:Int}(hh:h*h=1)(hN:0<e.1*e.1+e.2.1*e.2.1)(hf:sv e f=0)(fw:0<f.2.2)(no:∀ z:P3,sv e z=0->0<z.2.2->¬ inW ss z)(bes:∀ t∈ss,tn e t.2=0->sv t.2 f<=0)
  (ma:a∈ss) (mb:b∈ss) (ha:0<tn e a.2*h) (hb:0<tn e b.2 * -h) (ta:∀ u∈ss,0<tn e u.2*h->sv u.2 (pt3 (crL e a.2))<=0) (tb:∀ u∈ss,0<tn e u.2 * -h->sv u.2 (pt3 (crL e b.2))<=0)
  (pw:0<P.2.2) (wP:inW ss P) (oP:0<sv e P) :
  0<tn b.2 e*h/\0<tn e a.2*h/\0<tn a.2 b.2*h/\(tn b.2 e*a.2.2.2+tn e a.2*b.2.2.2+tn a.2 b.2*e.2.2)*h<0:=by
 obtain⟨sa,a1,a2⟩:=zBi (wI ha);obtain⟨sb,b1,b2⟩:=zBi (wI hb);have hh' : -h * -h=1:=by rw[Int.neg_mul_neg]; exact hh
 have outb:0<sv b.2 (pt3 (crL e a.2)):=by
  by_cases c:0<sv b.2 (pt3 (crL e a.2))
  ·exact c
  ·refine absurd ?_ (no _ a1 sa.pos);have d:=zVq hh' hN b1 a1 sb.pos b2 (show sv b.2 (pt3 (crL e a.2))<=0 by lia) hb;intro u hu;by_cases c1:0<tn e u.2*h
   ·exact ta u hu c1
   ·by_cases c2:0<tn e u.2 * -h
    ·refine zM0 hh' hN a1 b1 sa.pos sb.pos u.2 ?_ (tb u hu c2);rw[zUf,Int.neg_mul] ;have:=Int.mul_nonneg d (Int.le_of_lt c2);rw[Int.neg_mul];lia
    ·rw[zD4] at c2;have z:tn e u.2*h=0:=by lia
     rcases Int.mul_eq_zero.mp z with z | z
     ·exact zH8 hN a1 hf sa.pos fw z (bes u hu z)
     ·rw[z] at hh;exact absurd hh (by decide)
 have A:0<tn b.2 e*h:=by
  rw[zD4] at hb;have z:tn b.2 e = -tn e b.2:=by unfold tn; rw[Int.mul_comm b.2.1,Int.mul_comm b.2.2.1]; lia
  rw[z,Int.neg_mul];lia
 have S:∀ z:P3,tn b.2 e*sv a.2 z+tn e a.2*sv b.2 z+tn a.2 b.2*sv e z = -((tn b.2 e*a.2.2.2+tn e a.2*b.2.2.2+tn a.2 b.2*e.2.2)*z.2.2):=λz=>by
  unfold tn sv;simp only[Int.mul_sub,Int.sub_mul,Int.mul_add,Int.add_mul,Int.mul_comm,Int.mul_left_comm];lia
 have k1:=S (pt3 (crL e a.2));rw[a1,a2,Int.mul_zero,Int.mul_zero,Int.zero_add,Int.add_zero] at k1;have k2:=S P;generalize tn b.2 e*a.2.2.2+tn e a.2*b.2.2.2+tn a.2 b.2*e.2.2=M at k1 k2 ⊢;have m1:M*h<0:=by
  have p:=Int.mul_pos ha outb;have e1:tn e a.2*h*sv b.2 (pt3 (crL e a.2)) = -(M*h*(pt3 (crL e a.2)).2.2):=by
   rw[Int.mul_right_comm,k1,Int.neg_mul,Int.mul_right_comm]
  rw[e1] at p;by_cases c:M*h<0
  ·exact c
  ·have:=Int.mul_nonneg (show 0<=M*h by lia) (Int.le_of_lt sa.pos);lia
 refine⟨A,ha,?_,m1⟩;have e2:tn b.2 e*h*sv a.2 P+tn e a.2*h*sv b.2 P+tn a.2 b.2*h*sv e P = -(M*h*P.2.2):=by
  have z:(tn b.2 e*sv a.2 P+tn e a.2*sv b.2 P+tn a.2 b.2*sv e P)*h = -(M*P.2.2)*h:=by rw[k2]
  rw[Int.neg_mul,Int.mul_right_comm M] at z;rw[<- z,Int.add_mul,Int.add_mul,Int.mul_right_comm,Int.mul_right_comm (tn e a.2),Int.mul_right_comm (tn a.2 b.2)]
 have x1:=Int.mul_nonneg (Int.le_of_lt A) (show 0<=-sv a.2 P by have:=wP a ma; lia);have x2:=Int.mul_nonneg (Int.le_of_lt ha) (show 0<=-sv b.2 P by have:=wP b mb; lia);have x3:=Int.mul_pos (show 0 < -(M*h) by lia) pw;rw[Int.mul_neg] at x1 x2;rw[Int.neg_mul] at x3;by_cases c:0<tn a.2 b.2*h
 ·exact c
 ·have:=Int.mul_nonneg (show 0<=-(tn a.2 b.2*h) by lia) (Int.le_of_lt oP);rw[Int.neg_mul] at this;lia
theorem xU{x h:Int}(hh:h=1\/h = -1)(hx:0<x*h):zCd x=x*h:=by
 unfold zCd;rcases hh with rfl | rfl
 ·rw[if_neg (by lia)];lia
 ·rw[if_pos (by lia)];lia
theorem zL3(a b e:P3):tn b e*a.1+tn e a*b.1+tn a b*e.1=0/\tn b e*a.2.1+tn e a*b.2.1+tn a b*e.2.1=0:=by
 unfold tn;constructor
 ·simp only[Int.sub_mul,Int.mul_sub,Int.mul_comm,Int.mul_left_comm];lia
 ·simp only[Int.sub_mul,Int.mul_sub,Int.mul_comm,Int.mul_left_comm];lia
def zA0(ss:List Sd)(cs:List (Int×Int)):Prop :=
 (∃(i j:Nat)(u v:Int)(s t:Sd),cs=[((i:Int),u),((j:Int),v)]/\i<j/\ss[i]?=some s/\ss[j]?=some t/\0<u/\0<v/\u<=10^19/\v<=10^19 /\
  u*s.2.1+v*t.2.1=0/\u*s.2.2.1+v*t.2.2.1=0/\u*s.2.2.2+v*t.2.2.2<0) \/
 ∃(i j k:Nat)(u v x:Int)(s t r:Sd),cs=[((i:Int),u),((j:Int),v),((k:Int),x)]/\i<j/\j<k/\ss[i]?=some s/\ss[j]?=some t/\ss[k]?=some r/\0<u/\0<v/\0<x/\u<=10^19/\v<=10^19/\x<=10^19 /\
  u*s.2.1+v*t.2.1+x*r.2.1=0/\u*s.2.2.1+v*t.2.2.1+x*r.2.2.1=0/\u*s.2.2.2+v*t.2.2.2+x*r.2.2.2<0
theorem zW4{x g:Int}(hg:0<g)(h:x*g=0):x=0:=by
 rcases Int.mul_eq_zero.mp h with z | z
 ·exact z
 ·lia
theorem n_of{x g:Int}(hg:0<g)(h:x*g<0):x<0:=by
 by_cases c:x<0
 ·exact c
 ·have:=Int.mul_nonneg (show 0<=x by lia) (Int.le_of_lt hg);lia
theorem zSq{ws:List Int}{n:Int}(h:n∈ws)(h0:0<n)(hb:n<=10^30):0<yD ws/\(yD ws:Int)<10^600:=by
 exists xO h (by lia);have h1:=zBc h (show n≠0 by lia);exact Int.lt_of_le_of_lt (show(yD ws:Int)<=10^30 by lia) (by decide +kernel)
theorem zE1{ws:List Int}{n:Int}(h:n∈ws)(h0:0<n):0<n/(yD ws:Int)/\n/(yD ws:Int)<=n:=by
 have gp:=xO h (show n≠0 by lia);have e:=yL h;have p:0<n/(yD ws:Int):=by
  by_cases c:0<n/(yD ws:Int)
  ·exact c
  ·have:=Int.mul_nonneg (show 0<=-(n/(yD ws:Int)) by lia) (show(0:Int)<=(yD ws:Int) by lia);rw[Int.neg_mul] at this;lia
 exists p;have:=Int.mul_le_mul_of_nonneg_left (show(1:Int)<=(yD ws:Int) by lia) (Int.le_of_lt p);lia
theorem zPw{ss:List Sd}{i j:Nat}{s t:Sd}{U V:Int}(hij:i<j)(gs:ss[i]?=some s)(gt:ss[j]?=some t)(hU:0<U)(hV:0<V)(bU:U<=10^19)(bV:V<=10^19)
  (z1:U*s.2.1+V*t.2.1=0) (z2:U*s.2.2.1+V*t.2.2.1=0) (z3:U*s.2.2.2+V*t.2.2.2<0):zA0 ss ([(i:Int),(j:Int)].zip (vK [U,V])):=by
 have mU:U∈[U,V]:=by simp
 have mV:V∈[U,V]:=by simp
 have gp:(0:Int)<(yD [U,V]:Int):=by have:=xO mU (show U≠0 by lia); lia
 have pU:=zE1 mU hU;have pV:=zE1 mV hV;have eU:=yL mU;have eV:=yL mV;have sum:∀ a b:Int,(U/(yD [U,V]:Int)*a+V/(yD [U,V]:Int)*b)*(yD [U,V]:Int)=U*a+V*b:=λa b=>by
  rw[Int.add_mul,Int.mul_right_comm,eU,Int.mul_right_comm,eV]
 refine .inl ⟨i,j,U/(yD [U,V]:Int),V/(yD [U,V]:Int),s,t,rfl,hij,gs,gt,pU.1,pV.1,Int.le_trans pU.2 bU,Int.le_trans pV.2 bV,?_,?_,?_⟩
 ·exact zW4 gp (by rw[sum]; exact z1)
 ·exact zW4 gp (by rw[sum]; exact z2)
 ·exact n_of gp (by rw[sum]; exact z3)
theorem zJz{ss:List Sd}{i j k:Nat}{s t r:Sd}{U V X:Int}(hij:i<j)(hjk:j<k)(gs:ss[i]?=some s)(gt:ss[j]?=some t)(gr:ss[k]?=some r)(hU:0<U)(hV:0<V)(hX:0<X)(bU:U<=10^19)(bV:V<=10^19)(bX:X<=10^19)
  (z1:U*s.2.1+V*t.2.1+X*r.2.1=0) (z2:U*s.2.2.1+V*t.2.2.1+X*r.2.2.1=0) (z3:U*s.2.2.2+V*t.2.2.2+X*r.2.2.2<0):zA0 ss ([(i:Int),(j:Int),(k:Int)].zip (vK [U,V,X])):=by
 have mU:U∈[U,V,X]:=by simp
 have mV:V∈[U,V,X]:=by simp
 have mX:X∈[U,V,X]:=by simp
 have gp:(0:Int)<(yD [U,V,X]:Int):=by have:=xO mU (show U≠0 by lia); lia
 have pU:=zE1 mU hU;have pV:=zE1 mV hV;have pX:=zE1 mX hX;have eU:=yL mU;have eV:=yL mV;have eX:=yL mX;have sum:∀ a b c:Int,(U/(yD [U,V,X]:Int)*a+V/(yD [U,V,X]:Int)*b+X/(yD [U,V,X]:Int)*c)*(yD [U,V,X]:Int)=U*a+V*b+X*c:=λa b c=>by
  rw[Int.add_mul,Int.add_mul,Int.mul_right_comm,eU,Int.mul_right_comm,eV,Int.mul_right_comm,eX]
 refine .inr ⟨i,j,k,U/(yD [U,V,X]:Int),V/(yD [U,V,X]:Int),X/(yD [U,V,X]:Int),s,t,r,rfl,hij,hjk,gs,gt,gr,pU.1,pV.1,pX.1,Int.le_trans pU.2 bU,Int.le_trans pV.2 bV,Int.le_trans pX.2 bX,?_,?_,?_⟩
 ·exact zW4 gp (by rw[sum]; exact z1)
 ·exact zW4 gp (by rw[sum]; exact z2)
 ·exact n_of gp (by rw[sum]; exact z3)
theorem sum2{u v:Int}{s t z:P3}(h1:u*s.1+v*t.1=0)(h2:u*s.2.1+v*t.2.1=0):u*sv s z+v*sv t z = -((u*s.2.2+v*t.2.2)*z.2.2):=by
 have e:u*sv s z+v*sv t z=(u*s.1+v*t.1)*z.1+(u*s.2.1+v*t.2.1)*z.2.1-(u*s.2.2+v*t.2.2)*z.2.2:=by
  unfold sv;simp only[Int.mul_sub,Int.mul_add,Int.add_mul,Int.mul_comm,Int.mul_left_comm];lia
 rw[e,h1,h2,Int.zero_mul,Int.zero_mul];lia
theorem sum3{u v x:Int}{s t r z:P3}(h1:u*s.1+v*t.1+x*r.1=0)(h2:u*s.2.1+v*t.2.1+x*r.2.1=0):u*sv s z+v*sv t z+x*sv r z = -((u*s.2.2+v*t.2.2+x*r.2.2)*z.2.2):=by
 have e:u*sv s z+v*sv t z+x*sv r z=(u*s.1+v*t.1+x*r.1)*z.1+(u*s.2.1+v*t.2.1+x*r.2.1)*z.2.1-(u*s.2.2+v*t.2.2+x*r.2.2)*z.2.2:=by
  unfold sv;simp only[Int.mul_sub,Int.mul_add,Int.add_mul,Int.mul_comm,Int.mul_left_comm];lia
 rw[e,h1,h2,Int.zero_mul,Int.zero_mul];lia
theorem zHw{u x:Int}(hu:0<u)(hx:x<=0):u*x<=0:=by
 have:=Int.mul_nonneg (Int.le_of_lt hu) (show 0<=-x by lia);rw[Int.mul_neg] at this;lia
theorem zA0.no{ss:List Sd}{cs:List (Int×Int)}(h:zA0 ss cs)(z:P3)(zw:0<z.2.2):¬ inW ss z:=λwz=>by
 rcases h with ⟨i,j,u,v,s,t,_,_,gs,gt,hu,hv,_,_,z1,z2,z3⟩ | ⟨i,j,k,u,v,x,s,t,r,_,_,_,gs,gt,gr,hu,hv,hx,_,_,_,z1,z2,z3⟩
 ·have e:=sum2 (z:=z) (s:=s.2) (t:=t.2) z1 z2;have a1:=zHw hu (wz s (List.mem_of_getElem? gs));have a2:=zHw hv (wz t (List.mem_of_getElem? gt));have a3:=Int.mul_neg_of_neg_of_pos z3 zw;lia
 ·have e:=sum3 (z:=z) (s:=s.2) (t:=t.2) (r:=r.2) z1 z2;have a1:=zHw hu (wz s (List.mem_of_getElem? gs));have a2:=zHw hv (wz t (List.mem_of_getElem? gt));have a4:=zHw hx (wz r (List.mem_of_getElem? gr));have a3:=Int.mul_neg_of_neg_of_pos z3 zw;lia
def goB(ss:List Sd):List (Int×Int)->Int->P3->Bool
 | [],_,T=>decide ([T.1,T.2.1]=[0,0])&&decide (T.2.2<0)
 | c::cs,last,T=>if last<c.1/\c.1<ss.length/\1<=c.2 then
   match ss[c.1.toNat]? with
   | some t=>goB ss cs c.1 (T.1+c.2*t.2.1,T.2.1+c.2*t.2.2.1,T.2.2+c.2*t.2.2.2)
   | none=>false
  else false
def rB(ss:List Sd)(cs:List (Int×Int)):Bool:=decide (2<=cs.length)&&(decide (cs.length<=3)&&goB ss cs (-1) (0,0,0))
theorem rW{ss:List Sd}{n w last:Int}{t:Sd}{T:P3}{cs:List (Int×Int)}(h1:last<n)(h2:n<ss.length)(h3:1<=w)(g:ss[n.toNat]?=some t):goB ss ((n,w)::cs) last T=goB ss cs n (T.1+w*t.2.1,T.2.1+w*t.2.2.1,T.2.2+w*t.2.2.2):=by
 rw[goB,if_pos ⟨h1,h2,h3⟩];show(match ss[n.toNat]? with | some t=>goB ss cs n (T.1+w*t.2.1,T.2.1+w*t.2.2.1,T.2.2+w*t.2.2.2) | none=>false)=_;rw[g]
theorem zSc{ss:List Sd}{n w last:Int}{T:P3}{cs:List (Int×Int)}(h:¬ (last<n/\n<ss.length/\1<=w)):goB ss ((n,w)::cs) last T=false:=by
 rw[goB,if_neg h]
theorem zA0.b{ss:List Sd}{cs:List (Int×Int)}(h:zA0 ss cs):rB ss cs=true:=by
 rcases h with ⟨i,j,u,v,s,t,rfl,hij,gs,gt,hu,hv,_,_,z1,z2,z3⟩ | ⟨i,j,k,u,v,x,s,t,r,rfl,hij,hjk,gs,gt,gr,hu,hv,hx,_,_,_,z1,z2,z3⟩
 ·have hi:=(List.getElem?_eq_some_iff.mp gs).1;have hj:=(List.getElem?_eq_some_iff.mp gt).1;unfold rB;rw[rW (t:=s) (by lia) (by lia) (by lia) (by rw[Int.toNat_natCast]; exact gs),rW (t:=t) (by lia) (by lia) (by lia) (by rw[Int.toNat_natCast]; exact gt),goB];show(decide (2<=2)&&(decide (2<=3)&&(decide ([0+u*s.2.1+v*t.2.1,0+u*s.2.2.1+v*t.2.2.1]=[0,0])&&decide (0+u*s.2.2.2+v*t.2.2.2<0))))=true;rw[Int.zero_add,Int.zero_add,Int.zero_add,z1,z2,decide_eq_true z3];rfl
 ·have hi:=(List.getElem?_eq_some_iff.mp gs).1;have hj:=(List.getElem?_eq_some_iff.mp gt).1;have hk:=(List.getElem?_eq_some_iff.mp gr).1;unfold rB;rw[rW (t:=s) (by lia) (by lia) (by lia) (by rw[Int.toNat_natCast]; exact gs),rW (t:=t) (by lia) (by lia) (by lia) (by rw[Int.toNat_natCast]; exact gt),rW (t:=r) (by lia) (by lia) (by lia) (by rw[Int.toNat_natCast]; exact gr),goB];show(decide (2<=3)&&(decide (3<=3)&&(decide ([0+u*s.2.1+v*t.2.1+x*r.2.1,0+u*s.2.2.1+v*t.2.2.1+x*r.2.2.1]=[0,0])&&decide (0+u*s.2.2.2+v*t.2.2.2+x*r.2.2.2<0))))=true;rw[Int.zero_add,Int.zero_add,Int.zero_add,z1,z2,decide_eq_true z3];rfl
theorem zA0.range{ss:List Sd}{cs:List (Int×Int)}(h:zA0 ss cs):(cs.length=2\/cs.length=3)/\∀ c∈cs,0<=c.1/\c.1<ss.length:=by
 rcases h with ⟨i,j,u,v,s,t,rfl,_,gs,gt,_⟩ | ⟨i,j,k,u,v,x,s,t,r,rfl,_,_,gs,gt,gr,_⟩
 ·have h1:=(List.getElem?_eq_some_iff.mp gs).1;have h2:=(List.getElem?_eq_some_iff.mp gt).1;refine⟨.inl rfl,λc hc=>?_⟩;simp only[List.mem_cons,List.not_mem_nil,or_false] at hc;rcases hc with rfl | rfl
  ·exact⟨by show(0:Int)<=(i:Int); lia,by show(i:Int)<_; lia⟩
  ·exact⟨by show(0:Int)<=(j:Int); lia,by show(j:Int)<_; lia⟩
 ·have h1:=(List.getElem?_eq_some_iff.mp gs).1;have h2:=(List.getElem?_eq_some_iff.mp gt).1;have h3:=(List.getElem?_eq_some_iff.mp gr).1;refine⟨.inr rfl,λc hc=>?_⟩;simp only[List.mem_cons,List.not_mem_nil,or_false] at hc;rcases hc with rfl | rfl | rfl
  ·exact⟨by show(0:Int)<=(i:Int); lia,by show(i:Int)<_; lia⟩
  ·exact⟨by show(0:Int)<=(j:Int); lia,by show(j:Int)<_; lia⟩
  ·exact⟨by show(0:Int)<=(k:Int); lia,by show(k:Int)<_; lia⟩
def zSt(ss:List Sd)(P:P3):Prop:=P=(0,0,1)\/(∃ t∈ss,P=pt3 (ftL t.2))\/∃ t∈ss,∃ u∈ss,tn t.2 u.2≠0/\P=pt3 (crL t.2 u.2)
theorem zAw{e:P3}{h:Int}(hh:h*h=1)(hN:0<e.1*e.1+e.2.1*e.2.1):∀ ss:List Sd,(∀ t∈ss,tn e t.2*h<=0)\/∃ t∈ss,0<tn e t.2*h/\∀ u∈ss,0<tn e u.2*h->sv u.2 (pt3 (crL e t.2))<=0
 | []=>.inl λ_ h=>nomatch h
 | s::ss=>by
  by_cases hs:0<tn e s.2*h
  ·obtain⟨sp1,r1,r2⟩:=zBi (wI hs);rcases zAw hh hN ss with n | ⟨t,mt,ht,a⟩
   ·refine .inr ⟨s,List.mem_cons_self ..,hs,λu hu hp=>?_⟩;rcases List.mem_cons.mp hu with rfl | hu
    ·exact Int.le_of_eq r2
    ·have:=n u hu;lia
   ·obtain⟨sp0,q1,q2⟩:=zBi (wI ht);by_cases hin:sv s.2 (pt3 (crL e t.2))<=0
    ·refine .inr ⟨t,List.mem_cons_of_mem _ mt,ht,λu hu hp=>?_⟩;rcases List.mem_cons.mp hu with rfl | hu
     ·exact hin
     ·exact a u hu hp
    ·have d1:=zWn hh hN r1 q1 sp1.pos r2 (show 0<sv s.2 (pt3 (crL e t.2)) by lia) hs;refine .inr ⟨s,List.mem_cons_self ..,hs,λu hu hp=>?_⟩;rcases List.mem_cons.mp hu with rfl | hu
     ·exact Int.le_of_eq r2
     ·refine zM0 hh hN r1 q1 sp1.pos sp0.pos u.2 ?_ (a u hu hp);have:=Int.mul_nonneg (show 0<=-(dl e (pt3 (crL e s.2)) (pt3 (crL e t.2))*h) by lia) (Int.le_of_lt hp);rw[Int.neg_mul] at this;lia
  ·rcases zAw hh hN ss with n | ⟨t,mt,ht,a⟩
   ·refine .inl λu hu=>?_;rcases List.mem_cons.mp hu with rfl | hu
    ·lia
    ·exact n u hu
   ·refine .inr ⟨t,List.mem_cons_of_mem _ mt,ht,λu hu hp=>?_⟩;rcases List.mem_cons.mp hu with rfl | hu
    ·exact absurd hp hs
    ·exact a u hu hp
end Sea

namespace L2
open PySem PySem.Spec PyProof.Rows PySem.W
section
variable{X:Cx}
theorem zI1:qK X (.builtin "sorted") (λxs H Q=>∃(l:Addr)(ns:List Int),xs=[.ref l]/\SqL X.K H l (ns.map V.int)/\ns.length<64 /\
  ∀(p:Addr)(ms:List Int),H p=none->ms.Perm ns->ms.Pairwise (·<=·)->Q (.ref p) (upd H p (.lst (ms.map V.int)))):=by
 intro pins s σ H xs us Q I r h;obtain⟨l,ns,rfl,hq,h64,q⟩:=h;obtain⟨u,rfl,ru⟩:=yW.one r;cases ru;obtain⟨its,rv,pl,hz⟩:=I.list hq;have hn:=rv.length;rw[List.length_map] at hn;refine sorted_ints (ns:=ns) pl.isList (zMy rv) (by lia) λout ms a1 a2 a3=>?_;obtain⟨e,at'⟩:=sortedAll_at s.heap its out;have fr:H (s.heap.objs.size+1)=none:=I.hok.fresh (Nat.le_succ _);refine⟨.ref (s.heap.objs.size+1),_,I.laid (t':=s.toks) (a:=s.heap.objs.size+1) (o:=.lst (ms.map V.int)) (λb ob q=>sortedAll_old q) (Nat.le_succ _) ?_,rfl,q _ ms fr a2 a3⟩;refine⟨?_,out.toList,e,zE8 a1,by simpa using at'⟩;rw[List.length_map,a2.length_eq];exact Nat.le_trans (Nat.le_of_lt h64) (by rw[sizeLine_eq]; decide)
end
theorem zNz{ns:List Int}{i:Nat}{k:Int}(e:k=i)(h:i<ns.length):∃ n,ns[i]?=some n/\atI (ns.map V.int) k=some (.int n):=by
 refine⟨ns[i],List.getElem?_eq_getElem h,?_⟩;rw[e];exact sW (by rw[List.getElem?_map,List.getElem?_eq_getElem h] <;> rfl)
theorem zM4{a b:Int}{ms:List Int}(h:ms.Perm [a,b])(s:ms.Pairwise (·<=·)):(ms=[a,b]/\a<=b)\/(ms=[b,a]/\b<=a):=by
 match ms,h,s,h.length_eq with
 | [c,d],h,s,_ =>
  have le:c<=d:=by simpa using s
  have mc:c∈[a,b]:=h.mem_iff.mp (List.mem_cons_self ..);rw[List.mem_cons,List.mem_singleton] at mc;rcases mc with rfl | rfl
  ·have z:=List.perm_cons c |>.mp h
   have e:=List.perm_singleton.mp z;cases e;exact .inl ⟨rfl,le⟩
  ·have z:=List.perm_cons c |>.mp (h.trans (List.Perm.swap c a []))
   have e:=List.perm_singleton.mp z;cases e;exact .inr ⟨rfl,le⟩
theorem zB3(K:PySem.W.Frag):PySem.W.kitOne K (.type "list") (.type "list")=some true:=rfl
def zHy(H:Hp)(cs:List Pr):Prop:=∀ t∈cs,H t.1=some (.tup [.int t.2.1,.int t.2.2])
theorem zHy.same{H H':Hp}{cs:List Pr}(h:zHy H cs)(s:zZ H H'):zHy H' cs:=λt ht=>s _ _ (h t ht)
end L2

namespace Sea
open PySem L2
theorem zW2{a b x y u v:Int}(hn:a≠0\/b≠0)(h1:a*x+b*y=0)(h2:a*u+b*v=0):x*v-y*u=0:=by
 have e1:a*(x*v-y*u)=(a*x+b*y)*v-(a*u+b*v)*y:=by
  simp only[Int.mul_sub,Int.add_mul,Int.mul_add,Int.mul_comm,Int.mul_left_comm];lia
 have e2:b*(x*v-y*u)=(a*u+b*v)*x-(a*x+b*y)*u:=by
  simp only[Int.mul_sub,Int.add_mul,Int.mul_add,Int.mul_comm,Int.mul_left_comm];lia
 rw[h1,h2,Int.zero_mul,Int.zero_mul,Int.sub_self] at e1 e2;rcases hn with h | h
 ·exact(Int.mul_eq_zero.mp e1).resolve_left h
 ·exact(Int.mul_eq_zero.mp e2).resolve_left h
theorem zR2{x y u v:Int}(h1:Nat.gcd x.natAbs y.natAbs=1)(h2:Nat.gcd u.natAbs v.natAbs=1)(h:x*v-y*u=0)(hp:0<x*u+y*v):x=u/\y=v:=by
 have e:x.natAbs*v.natAbs=y.natAbs*u.natAbs:=by
  rw[<- Int.natAbs_mul,<- Int.natAbs_mul]
  congr 1
  lia
 have d1:x.natAbs ∣ u.natAbs:=Nat.Coprime.dvd_of_dvd_mul_left (m:=y.natAbs) h1 (by rw[<- e]; exact Nat.dvd_mul_right _ _);have d2:u.natAbs ∣ x.natAbs:=Nat.Coprime.dvd_of_dvd_mul_right (n:=v.natAbs) h2 (by rw[e]; exact Nat.dvd_mul_left _ _);have h1':Nat.gcd y.natAbs x.natAbs=1:=by rw[Nat.gcd_comm]; exact h1
 have h2':Nat.gcd v.natAbs u.natAbs=1:=by rw[Nat.gcd_comm]; exact h2
 have d3:y.natAbs ∣ v.natAbs:=Nat.Coprime.dvd_of_dvd_mul_left (m:=x.natAbs) h1' (by rw[e]; exact Nat.dvd_mul_right _ _);have d4:v.natAbs ∣ y.natAbs:=Nat.Coprime.dvd_of_dvd_mul_right (n:=u.natAbs) h2' (by rw[<- e]; exact Nat.dvd_mul_left _ _);have ex:=Nat.dvd_antisymm d1 d2;have ey:=Nat.dvd_antisymm d3 d4;have sx:x=u\/x = -u:=by lia
 have sy:y=v\/y = -v:=by lia
 have q1:0<=u*u:=by
  by_cases c:0<=u
  ·exact Int.mul_nonneg c c
  ·exact Int.le_of_lt (Int.mul_pos_of_neg_of_neg (by lia) (by lia))
 have q2:0<=v*v:=by
  by_cases c:0<=v
  ·exact Int.mul_nonneg c c
  ·exact Int.le_of_lt (Int.mul_pos_of_neg_of_neg (by lia) (by lia))
 rcases sx with rfl | rfl
 ·rcases sy with rfl | rfl
  ·exact⟨rfl,rfl⟩
  ·rw[Int.neg_mul,Int.mul_comm v] at h;have z:x*v=0:=by lia
   rcases Int.mul_eq_zero.mp z with z | z
   ·rw[z,Int.zero_mul,Int.neg_mul] at hp;lia
   ·rw[z];exact⟨rfl,rfl⟩
 ·rcases sy with rfl | rfl
  ·rw[Int.neg_mul,Int.mul_comm y] at h;have z:u*y=0:=by lia
   rcases Int.mul_eq_zero.mp z with z | z
   ·rw[z];exact⟨rfl,rfl⟩
   ·rw[z,Int.zero_mul,Int.neg_mul] at hp;lia
  ·rw[Int.neg_mul,Int.neg_mul] at hp;lia
structure uD(ss:List Sd)(x y:Int):Prop where
 low:Nat.gcd x.natAbs y.natAbs=1
 way:∀ t∈ss,t.2.1*x+t.2.2.1*y<=0
 edge:∃ t∈ss,(t.2.1≠0\/t.2.2.1≠0)/\t.2.1*x+t.2.2.1*y=0
theorem zEf{a b p q:Int}(h:a*p+b*q=0)(hp:p<=0)(hq:q<=0)(hab:0<a*b):p=0/\q=0:=by
 have ha:a≠0:=λz=>by rw[z,Int.zero_mul] at hab; lia
 have hb:b≠0:=λz=>by rw[z,Int.mul_zero] at hab; lia
 by_cases c:0<a
 ·have cb:0<b:=by
   by_cases d:0<b
   ·exact d
   ·have:=Int.mul_neg_of_pos_of_neg c (show b<0 by lia);lia
  have z1:=Int.mul_nonneg (Int.le_of_lt c) (show 0<=-p by lia);have z2:=Int.mul_nonneg (Int.le_of_lt cb) (show 0<=-q by lia);rw[Int.mul_neg] at z1 z2;exact⟨(Int.mul_eq_zero.mp (show a*p=0 by lia)).resolve_left ha,(Int.mul_eq_zero.mp (show b*q=0 by lia)).resolve_left hb⟩
 ·have cb:b<0:=by
   by_cases d:b<0
   ·exact d
   ·have:=Int.mul_neg_of_neg_of_pos (show a<0 by lia) (show 0<b by lia);lia
  have z1:=Int.mul_nonneg (show 0<=-a by lia) (show 0<=-p by lia);have z2:=Int.mul_nonneg (show 0<=-b by lia) (show 0<=-q by lia);rw[Int.neg_mul_neg] at z1 z2;exact⟨(Int.mul_eq_zero.mp (show a*p=0 by lia)).resolve_left ha,(Int.mul_eq_zero.mp (show b*q=0 by lia)).resolve_left hb⟩
theorem zW9(a b x1 y1 x2 y2 x3 y3:Int):(x2*y3-y2*x3)*(a*x1+b*y1)+(x3*y1-y3*x1)*(a*x2+b*y2)+(x1*y2-y1*x2)*(a*x3+b*y3)=0:=by
 simp only[Int.mul_sub,Int.sub_mul,Int.add_mul,Int.mul_add,Int.mul_comm,Int.mul_left_comm];lia
theorem zLa{x y:Int}(h:Nat.gcd x.natAbs y.natAbs=1):x≠0\/y≠0:=by
 by_cases c:x=0
 ·right;intro z;rw[c,z] at h;exact absurd h (by decide)
 ·exact .inl c
theorem uD.contra{ss:List Sd}{x1 y1 x2 y2 x3 y3:Int}(w1:uD ss x1 y1)(w2:uD ss x2 y2)(w3:uD ss x3 y3)(h:x1*y2-y1*x2=0)(hn:x1*x2+y1*y2<0):x1*y3-y1*x3=0:=by
 obtain⟨t,mt,nt,et⟩:=w3.edge;have p1:=w1.way t mt;have p2:=w2.way t mt;have hN:=zF5 (zLa w1.low);have e:(x1*x1+y1*y1)*(t.2.1*x2+t.2.2.1*y2)=(x1*x2+y1*y2)*(t.2.1*x1+t.2.2.1*y1)+(x1*y2-y1*x2)*(t.2.2.1*x1-t.2.1*y1):=by
  simp only[Int.mul_sub,Int.sub_mul,Int.add_mul,Int.mul_add,Int.mul_comm,Int.mul_left_comm];lia
 rw[h,Int.zero_mul,Int.add_zero] at e;have z1:=Int.mul_nonneg (show 0<=x1*x1+y1*y1 by lia) (show 0<=-(t.2.1*x2+t.2.2.1*y2) by lia);have z2:=Int.mul_nonneg (show 0<=-(x1*x2+y1*y2) by lia) (show 0<=-(t.2.1*x1+t.2.2.1*y1) by lia);rw[Int.mul_neg] at z1;rw[Int.neg_mul_neg] at z2;have z:t.2.1*x1+t.2.2.1*y1=0:=(Int.mul_eq_zero.mp (show(x1*x2+y1*y2)*(t.2.1*x1+t.2.2.1*y1)=0 by lia)).resolve_left (by lia);exact zW2 nt z et
theorem zVx{x y u v:Int}(h:x*v-y*u=0)(n1:x≠0\/y≠0)(n2:u≠0\/v≠0):x*u+y*v≠0:=λz=>by
 have e:(x*x+y*y)*(u*u+v*v)=(x*u+y*v)*(x*u+y*v)+(x*v-y*u)*(x*v-y*u):=by
  simp only[Int.mul_sub,Int.sub_mul,Int.add_mul,Int.mul_add,Int.mul_comm,Int.mul_left_comm];lia
 rw[h,z,Int.zero_mul,Int.add_zero] at e;have q1:=zF5 n1;have q2:=zF5 n2;have:=Int.mul_pos (show 0<x*x+y*y by lia) (show 0<u*u+v*v by lia);lia
theorem uD.same{ss:List Sd}{x1 y1 x2 y2:Int}(w1:uD ss x1 y1)(w2:uD ss x2 y2)(d:¬ (x1=x2/\y1=y2))(h:x1*y2-y1*x2=0):x1*x2+y1*y2<0:=by
 have:=zVx h (zLa w1.low) (zLa w2.low);by_cases c:0<x1*x2+y1*y2
 ·exact absurd (zR2 w1.low w2.low h c) d
 ·lia
theorem zMf{ss:List Sd}{x1 y1 x2 y2 x3 y3:Int}(w1:uD ss x1 y1)(w2:uD ss x2 y2)(w3:uD ss x3 y3)(d12:¬ (x1=x2/\y1=y2))(d13:¬ (x1=x3/\y1=y3))(d23:¬ (x2=x3/\y2=y3)):False:=by
 have par:∀{x1 y1 x2 y2 x3 y3:Int},uD ss x1 y1->uD ss x2 y2->uD ss x3 y3->¬ (x1=x2/\y1=y2)->¬ (x1=x3/\y1=y3)->¬ (x2=x3/\y2=y3)->x1*y2-y1*x2≠0:=λ{x1 y1 x2 y2 x3 y3} w1 w2 w3 d12 d13 d23 h=>by
  have n12:=w1.same w2 d12 h;have h13:=w1.contra w2 w3 h n12;have n13:=w1.same w3 d13 h13;have hN:=zF5 (zLa w1.low);have e:(x1*x1+y1*y1)*(x2*x3+y2*y3)=(x1*x2+y1*y2)*(x1*x3+y1*y3)+(x1*y2-y1*x2)*(x1*y3-y1*x3):=by
   simp only[Int.mul_sub,Int.sub_mul,Int.add_mul,Int.mul_add,Int.mul_comm,Int.mul_left_comm];lia
  have e2:(x1*x1+y1*y1)*(x2*y3-y2*x3)=(x1*x2+y1*y2)*(x1*y3-y1*x3)-(x1*y2-y1*x2)*(x1*x3+y1*y3):=by
   simp only[Int.mul_sub,Int.sub_mul,Int.add_mul,Int.mul_add,Int.mul_comm,Int.mul_left_comm];lia
  rw[h,h13,Int.zero_mul,Int.add_zero] at e;rw[h,h13,Int.zero_mul,Int.mul_zero,Int.sub_self] at e2;have z:=(Int.mul_eq_zero.mp e2).resolve_left (by lia);have n23:=w2.same w3 d23 z;have p:=Int.mul_pos_of_neg_of_neg n12 n13;have q:=Int.mul_neg_of_pos_of_neg (show 0<x1*x1+y1*y1 by lia) n23;lia
 have sw:∀ x y u v:Int,x*v-y*u = -(u*y-v*x):=λx y u v=>by rw[Int.mul_comm u,Int.mul_comm v]; lia
 have a0:x2*y3-y2*x3≠0:=par w2 w3 w1 d23 (λz=>d12 ⟨z.1.symm,z.2.symm⟩) (λz=>d13 ⟨z.1.symm,z.2.symm⟩);have b0:x3*y1-y3*x1≠0:=par w3 w1 w2 (λz=>d13 ⟨z.1.symm,z.2.symm⟩) (λz=>d23 ⟨z.1.symm,z.2.symm⟩) d12;have c0:x1*y2-y1*x2≠0:=par w1 w2 w3 d12 d13 d23;obtain⟨t1,m1,n1,e1⟩:=w1.edge;obtain⟨t2,m2,n2,e2⟩:=w2.edge;obtain⟨t3,m3,n3,e3⟩:=w3.edge;have r1:=zW9 t1.2.1 t1.2.2.1 x1 y1 x2 y2 x3 y3;have r2:=zW9 t2.2.1 t2.2.2.1 x1 y1 x2 y2 x3 y3;have r3:=zW9 t3.2.1 t3.2.2.1 x1 y1 x2 y2 x3 y3;rw[e1,Int.mul_zero,Int.zero_add] at r1;rw[e2,Int.mul_zero,Int.add_zero] at r2;rw[e3,Int.mul_zero,Int.add_zero] at r3;have k1:¬ 0<(x3*y1-y3*x1)*(x1*y2-y1*x2):=λp=>by
  have z:=zEf r1 (w2.way t1 m1) (w3.way t1 m1) p;exact c0 (zW2 n1 e1 z.1)
 have k2:¬ 0<(x2*y3-y2*x3)*(x1*y2-y1*x2):=λp=>by
  have z:=zEf r2 (w1.way t2 m2) (w3.way t2 m2) p;exact c0 (zW2 n2 z.1 e2)
 have k3:¬ 0<(x2*y3-y2*x3)*(x3*y1-y3*x1):=λp=>by
  have z:=zEf r3 (w1.way t3 m3) (w2.way t3 m3) p;exact c0 (zW2 n3 z.1 z.2)
 generalize x2*y3-y2*x3=a at *;generalize x3*y1-y3*x1=b at *;generalize x1*y2-y1*x2=c at *;have sg:∀{p q:Int},p≠0->q≠0->¬ 0<p*q->(0<p/\q<0)\/(p<0/\0<q):=λ{p q} hp hq h=>by
  by_cases cp:0<p
  ·by_cases cq:0<q
   ·exact absurd (Int.mul_pos cp cq) h
   ·exact .inl ⟨cp,by lia⟩
  ·by_cases cq:0<q
   ·exact .inr ⟨by lia,cq⟩
   ·exact absurd (Int.mul_pos_of_neg_of_neg (by lia) (by lia)) h
 have s1:=sg b0 c0 k1;have s2:=sg a0 c0 k2;have s3:=sg a0 b0 k3;lia
theorem WK.dir{ss:List Sd}{n:Nat}{k:List Int}(hn:∀ t∈ss,t.2.1≠0\/t.2.2.1≠0)(h:WK ss n k):∃ x y:Int,k=[x,y]/\uD ss x y:=by
 obtain⟨j,t,_,gt,h⟩:=h;have mt:=List.mem_of_getElem? gt;have nt:=hn t mt;have one:∀ X Y:Int,(X≠0\/Y≠0)->t.2.1*X+t.2.2.1*Y=0->k=vK [X,Y]->rS ss X Y=true->∃ x y:Int,k=[x,y]/\uD ss x y:=λX Y nXY e ek hw=>by
  obtain⟨x,y,exy,gp,_,low,_⟩:=zFl nXY;have ex:x=X/(yD [X,Y]:Int)/\y=Y/(yD [X,Y]:Int):=by
   have z:[X/(yD [X,Y]:Int),Y/(yD [X,Y]:Int)]=[x,y]:=exy;cases z;exact⟨rfl,rfl⟩
  refine⟨x,y,ek.trans exy,low,λu hu=>?_,t,mt,nt,?_⟩
  ·have z:=zKb (ss:=ss) gp;rw[hw,<- ex.1,<- ex.2] at z;exact of_decide_eq_true (List.all_eq_true.mp z u hu)
  ·have g0:(0:Int)<(yD [X,Y]:Int):=by lia
   have eX:=yL (ns:=[X,Y]) (n:=X) (by simp);have eY:=yL (ns:=[X,Y]) (n:=Y) (by simp);rw[<- ex.1] at eX;rw[<- ex.2] at eY;have z:(t.2.1*x+t.2.2.1*y)*(yD [X,Y]:Int)=0:=by
    rw[Int.add_mul,Int.mul_assoc,Int.mul_assoc,eX,eY];exact e
   rcases Int.mul_eq_zero.mp z with z | z
   ·exact z
   ·lia
 rcases h with ⟨e,hw⟩ | ⟨e,hw⟩
 ·exact one _ _ (by lia) (by rw[Int.mul_neg,Int.mul_comm t.2.2.1]; lia) e hw
 ·exact one _ _ (by lia) (by rw[Int.mul_neg,Int.mul_comm t.2.2.1]; lia) e hw
theorem zQt{ss:List Sd}{n:Nat}{ks:List (List Int)}(hn:∀ t∈ss,t.2.1≠0\/t.2.2.1≠0)(nd:ks.Nodup)(h:∀ k∈ks,WK ss n k):ks.length<=2:=by
 match ks,nd,h with
 | [],_,_=>exact Nat.zero_le _
 | [_],_,_=>exact(by decide:1<=2)
 | [_,_],_,_=>exact Nat.le_refl 2
 | a::b::c::r,nd,h =>
  obtain⟨x1,y1,rfl,w1⟩:=(h a (by simp)).dir hn;obtain⟨x2,y2,rfl,w2⟩:=(h b (by simp)).dir hn;obtain⟨x3,y3,rfl,w3⟩:=(h c (by simp)).dir hn;simp only[List.nodup_cons,List.mem_cons,not_or] at nd;exact(zMf w1 w2 w3 (λz=>nd.1.1 (by rw[z.1,z.2])) (λz=>nd.1.2.1 (by rw[z.1,z.2])) (λz=>nd.2.1.1 (by rw[z.1,z.2]))).elim
end Sea

namespace Sea
open PySem L2
def dt(s g:P3):Int:=s.1*g.1+s.2.1*g.2.1
theorem zBm(s t:P3):tn s t = -tn t s:=by
 unfold tn;rw[Int.mul_comm s.1,Int.mul_comm s.2.1];lia
theorem zJl(s:P3):tn s s=0:=by
 unfold tn;rw[Int.mul_comm];lia
theorem zPz(t e g:P3):tn t e*(g.1*g.1+g.2.1*g.2.1)=tn t g*dt e g+tn g e*dt t g:=by
 unfold tn dt;simp only[Int.mul_sub,Int.sub_mul,Int.mul_add,Int.add_mul,Int.mul_comm,Int.mul_left_comm];lia
theorem zVg(t u e g:P3):tn t u*tn e g=tn t e*tn u g+tn t g*tn e u:=by
 unfold tn;simp only[Int.mul_sub,Int.sub_mul,Int.mul_comm,Int.mul_left_comm];lia
theorem uE{x y:Int}(h:0<x*y)(hy:0<y):0<x:=by
 by_cases c:0<x
 ·exact c
 ·have:=Int.mul_nonneg (show 0<=-x by lia) (Int.le_of_lt hy);rw[Int.neg_mul] at this;lia
theorem zG7{α:Type}{p q:α->Bool} : ∀{l:List α},(∀ a∈l,p a=true->q a=true)->(∃ a∈l,q a=true/\p a=false)->l.countP p<l.countP q
 | [],_,⟨_,h,_⟩=>nomatch h
 | x::l,h,⟨a,ha,q1,p1⟩=>by
  have le:l.countP p<=l.countP q:=List.countP_mono_left λb hb=>h b (List.mem_cons_of_mem _ hb);rw[List.countP_cons,List.countP_cons];rcases List.mem_cons.mp ha with rfl | ha
  ·rw[q1,p1];simp;lia
  ·have z:=zG7 (λb hb=>h b (List.mem_cons_of_mem _ hb)) ⟨a,ha,q1,p1⟩;by_cases hx:p x=true
   ·rw[hx,h x (List.mem_cons_self ..) hx];lia
   ·have hx':p x=false:=by simpa using hx
    rw[hx',if_neg (by decide)];lia
structure zJp(ss:List Sd)(g:P3):Prop where
 nz:∀ t∈ss,t.2.1≠0\/t.2.2.1≠0
 gz:g.1≠0\/g.2.1≠0
 ways:∀ t∈ss,∀ h:Int,(h=1\/h = -1)->(∀ s∈ss,tn t.2 s.2*h<=0)->tn t.2 g*h<=0
 lead:¬ ∀ s∈ss,dt s.2 g<=0
 one:∀ t∈ss,tn t.2 g=0->0<dt t.2 g->∀ P:P3,0<P.2.2->sv t.2 P=0->¬ inW ss P
theorem zJp.right{ss:List Sd}{g:P3}(B:zJp ss g)(two:∀ t∈ss,0<tn t.2 g->∃ e∈ss,0<tn t.2 e.2/\(∀ u∈ss,0<tn t.2 u.2->sv u.2 (pt3 (crL t.2 e.2))<=0)/\¬ (0<tn g e.2/\inW ss (pt3 (crL t.2 e.2)))) :
  ∀(n:Nat)(t:Sd),t∈ss->0<tn t.2 g->ss.countP (λu=>decide (0<tn u.2 g)&&decide (0<tn t.2 u.2))<n->∀ P:P3,0<P.2.2->sv t.2 P=0->inW ss P->False
 | 0,_,_,_,h,_,_,_,_=>absurd h (Nat.not_lt_zero _)
 | n+1,t,mt,ht,hc,P,pw,oP,wP=>by
  have hN:=qA (B.nz t mt);obtain⟨e,me,he,ha,hno⟩:=two t mt ht;obtain⟨j,gj⟩:=List.getElem?_of_mem me;have w1:=zK6 (h:=1) (by decide) hN oP pw wP gj (by lia) (λu hu hp=>ha u hu (by lia));obtain⟨sp,c1,c2⟩:=zBi (show tn t.2 e.2≠0 by lia);have hge:¬ 0<tn g e.2:=λz=>hno ⟨z,w1⟩;have an:=zBm g e.2;by_cases h0:tn g e.2=0
  ·have k:=zPz t.2 e.2 g;rw[h0,Int.zero_mul,Int.add_zero] at k;have p:=Int.mul_pos he (qA B.gz);rw[k,Int.mul_comm] at p;exact B.one e me (by lia) (uE p ht) _ sp.pos c2 w1
  ·have heg:0<tn e.2 g:=by lia
   refine zJp.right B two n e me heg (Nat.lt_of_lt_of_le (zG7 (q:=λu=>decide (0<tn u.2 g)&&decide (0<tn t.2 u.2)) (λu hu hp=>?_) ⟨e,me,?_,?_⟩) (Nat.le_of_lt_succ hc)) _ sp.pos c2 w1
   ·rw[Bool.and_eq_true,decide_eq_true_iff,decide_eq_true_iff] at hp ⊢;exists hp.1;have k:=zVg t.2 u.2 e.2 g;have p1:=Int.mul_pos he hp.1;have p2:=Int.mul_pos ht hp.2;exact uE (y:=tn e.2 g) (by lia) heg
   ·rw[decide_eq_true heg,decide_eq_true he];rfl
   ·rw[decide_eq_false (p:=0<tn e.2 e.2) (by rw[zJl]; decide),Bool.and_false]
theorem zJp.left{ss:List Sd}{g:P3}(B:zJp ss g)(rt:∀ t∈ss,0<tn t.2 g->∀ P:P3,0<P.2.2->sv t.2 P=0->inW ss P->False) :
  ∀(n:Nat)(t:Sd),t∈ss->0<tn g t.2->ss.countP (λu=>decide (0<tn g u.2)&&decide (0<tn u.2 t.2))<n->∀ P:P3,0<P.2.2->sv t.2 P=0->inW ss P->False
 | 0,_,_,_,h,_,_,_,_=>absurd h (Nat.not_lt_zero _)
 | n+1,t,mt,ht,hc,P,pw,oP,wP=>by
  have hN:=qA (B.nz t mt);have at':=zBm t.2 g;rcases zAw (h:=-1) (by decide) hN ss with no | ⟨e,me,he,ha⟩
  ·have:=B.ways t mt (-1) (.inr rfl) no;lia
  ·obtain⟨j,gj⟩:=List.getElem?_of_mem me;have w1:=zK6 (h:=-1) (by decide) hN oP pw wP gj he ha;obtain⟨sp,c1,c2⟩:=zBi (wI he);have a1:=zBm t.2 e.2;have a2:=zBm g e.2;have het:0<tn e.2 t.2:=by lia
   by_cases h1:0<tn e.2 g
   ·exact rt e me h1 _ sp.pos c2 w1
   ·by_cases h0:tn e.2 g=0
    ·have k:=zPz e.2 t.2 g;rw[h0,Int.zero_mul,Int.zero_add] at k;have p:=Int.mul_pos het (qA B.gz);rw[k,Int.mul_comm] at p;exact B.one e me h0 (uE p ht) _ sp.pos c2 w1
    ·have hge:0<tn g e.2:=by lia
     refine zJp.left B rt n e me hge (Nat.lt_of_lt_of_le (zG7 (q:=λu=>decide (0<tn g u.2)&&decide (0<tn u.2 t.2)) (λu hu hp=>?_) ⟨e,me,?_,?_⟩) (Nat.le_of_lt_succ hc)) _ sp.pos c2 w1
     ·rw[Bool.and_eq_true,decide_eq_true_iff,decide_eq_true_iff] at hp ⊢;exists hp.1;have k:=zVg u.2 t.2 e.2 g;have p1:=Int.mul_pos hp.2 ht;have p2:=Int.mul_pos hp.1 het;have e1:tn u.2 t.2*tn g e.2=tn u.2 e.2*tn g t.2+tn g u.2*tn e.2 t.2:=by
       have b1:=zBm e.2 g;have b2:=zBm u.2 g;rw[b1,at',b2,Int.mul_neg,Int.mul_neg,Int.neg_mul] at k;lia
      exact uE (y:=tn g e.2) (by lia) hge
     ·rw[decide_eq_true hge,decide_eq_true het];rfl
     ·rw[decide_eq_false (p:=0<tn e.2 e.2) (by rw[zJl]; decide),Bool.and_false]
theorem zW0{ss:List Sd}{g:P3}(B:zJp ss g)(two:∀ t∈ss,0<tn t.2 g->∃ e∈ss,0<tn t.2 e.2/\(∀ u∈ss,0<tn t.2 u.2->sv u.2 (pt3 (crL t.2 e.2))<=0)/\¬ (0<tn g e.2/\inW ss (pt3 (crL t.2 e.2))))
  {z:P3} (zw:0<z.2.2) (wz:inW ss z):False:=by
 have rt:∀ t∈ss,0<tn t.2 g->∀ P:P3,0<P.2.2->sv t.2 P=0->inW ss P->False:=λt mt ht=>B.right two _ t mt ht (Nat.lt_succ_self _);have lf:∀ t∈ss,0<tn g t.2->∀ P:P3,0<P.2.2->sv t.2 P=0->inW ss P->False:=λt mt ht=>B.left rt _ t mt ht (Nat.lt_succ_self _)
 let e0:P3:=(g.2.1*z.2.2,-(g.1*z.2.2),g.2.1*z.1-g.1*z.2.1)
 have o0:sv e0 z=0:=by
  show g.2.1*z.2.2*z.1 + -(g.1*z.2.2)*z.2.1-(g.2.1*z.1-g.1*z.2.1)*z.2.2=0;simp only[Int.sub_mul,Int.mul_sub,Int.neg_mul,Int.mul_neg,Int.mul_comm,Int.mul_left_comm];lia
 have t0:∀ t:P3,tn e0 t=dt t g*z.2.2:=λt=>by
  show g.2.1*z.2.2*t.2.1 - -(g.1*z.2.2)*t.1=(t.1*g.1+t.2.1*g.2.1)*z.2.2;simp only[Int.add_mul,Int.mul_add,Int.neg_mul,Int.mul_neg,Int.mul_comm,Int.mul_left_comm];lia
 have n0:e0.1≠0\/e0.2.1≠0:=by
  rcases B.gz with h | h
  ·right;show -(g.1*z.2.2)≠0;have:=Int.mul_ne_zero h (show z.2.2≠0 by lia);lia
  ·left;exact Int.mul_ne_zero h (by lia)
 have hN:=qA n0;rcases zAw (h:=1) (by decide) hN ss with no | ⟨t,mt,ht,ha⟩
 ·refine B.lead λs hs=>?_;have:=no s hs;rw[t0,Int.mul_one] at this;by_cases c:dt s.2 g<=0
  ·exact c
  ·have:=Int.mul_pos (show 0<dt s.2 g by lia) zw;lia
 ·obtain⟨j,gj⟩:=List.getElem?_of_mem mt;have w1:=zK6 (h:=1) (by decide) hN o0 zw wz gj ht ha;obtain⟨sp,c1,c2⟩:=zBi (wI ht);have hd:0<dt t.2 g:=by
   rw[t0,Int.mul_one] at ht;exact uE ht zw
  have an:=zBm g t.2;by_cases h1:0<tn t.2 g
  ·exact rt t mt h1 _ sp.pos c2 w1
  ·by_cases h0:tn t.2 g=0
   ·exact B.one t mt h0 hd _ sp.pos c2 w1
   ·exact lf t mt (by lia) _ sp.pos c2 w1
end Sea

namespace L2
open PySem PySem.Spec PyProof.Rows PySem.W
def zSd(h:Heap)(v:Value)(x:Int):Prop:=∃(a:Addr)(o:Obj)(n:Nat)(t:Tok)(rest:List Value),v=.ref a/\h.get? a=some o/\o.cls=.type "tuple" /\ o.data=.seq (Value.int x t::rest).toArray n
theorem zSd.keep{h h':Heap}{v:Value}{x:Int}(e:zSd h v x)(k:∀ b o,h.get? b=some o->h'.get? b=some o):zSd h' v x:=by
 obtain⟨a,o,n,t,r,e1,e2,e3⟩:=e;exact⟨a,o,n,t,r,e1,k _ _ e2,e3⟩
theorem zRo:kas_sort 2=.ask 1 0 λc=>if c=true then .ret #[1,0] else .ret #[0,1]:=by
 have e:kas_sort 2=.ask 1 0 λc=>match c with | true=>.ret #[1,0] | false=>.ret #[0,1]:=by
  unfold kas_sort;show KasT.ask 1 0 _=_
  congr 1
  funext c
  cases c <;> rfl
 rw[e]
 congr 1
 funext c
 cases c <;> rfl
section
variable{prog:Program}{w:World}{A:Around}{E:Value->Shared->Prop}{s:Shared}
theorem zOn{u v:Value}{x y:Int}{C:Bool->Shared->Prop}(hu:zSd s.heap u x)(hv:zSd s.heap v y)(hn:x≠y)(h:C (decide (x<y)) s):wpAny (model prog w) A (keyLt' (tuples' true) u v) C E s:=by
 obtain⟨p,o,n,t,us,rfl,ho,_,hd⟩:=hu;obtain⟨q,o',n',t',ws,rfl,ho',_,hd'⟩:=hv;refine kat_lt ho hd ho' hd' ?_;show KatLex prog w A true _ C ((Value.int x t,Value.int y t')::us.zip ws) 0 s;refine kat_cons (wpAny_eqBool_int ?_);rw[show(x == y)=false from by simpa using hn];exact kat_no (oneLt_int h)
theorem zL9{l:Addr}{u v:Value}{x y:Int}{Q:Value->Shared->Prop}(hl:s.heap.IsList l [u,v].toArray)(hu:zSd s.heap u x)(hv:zSd s.heap v y)(hn:x≠y)
  (h:Q (.ref (s.heap.objs.size+1)) { s with heap:=sortedAll s.heap [u,v] (if y<x then [v,u] else [u,v]).toArray }) :
  wpAny (model prog w) A (call (.builtin "sorted") [.ref l]) Q E s:=by
 refine zPp (κ:=tuples' true) (G:=λout=>out=if y<x then [v,u] else [u,v]) hl (by show 2<64; decide) (λh2 s' kp E' Q' hq=>?_) (λh2 s' kp=>?_) (λh2=>absurd (show 2<2 from h2) (by decide)) λout hz e=>by rw[e]; exact h
 ·have hu':=hu.keep kp;have hv':=hv.keep kp;obtain⟨p,o,n,t,us,e1,ho,hc,hd⟩:=hu';obtain⟨q,o',n',t',ws,e2,ho',hc',hd'⟩:=hv';have a1:KatTups s'.heap [u,v] [.int x t,.int y t']:=by
   rw[e1,e2];exact KatTups.cons ho hc hd rfl (KatTups.cons ho' hc' hd' rfl .nil)
  refine kat_kind (T:=Value.type "int") a1 (by show 0<2; decide) (λz hz=>?_) rfl (by first | exact hq | (rw[show(Value.type "int" != Value.type "tuple")=true from by first | decide | simp]; exact hq));rcases List.mem_cons.mp hz with rfl | hz
  ·exact .now
  ·rw[List.mem_singleton] at hz;rw[hz];exact .now
 ·rw[show [u,v].length=2 from rfl,zRo];show kas_ask prog w A.in1.in1 (tuples' true) [u,v] 1 0 _ s';refine zOn (hv.keep kp) (hu.keep kp) (λz=>hn z.symm) ?_;by_cases c:y<x
  ·rw[decide_eq_true c,if_pos c];exact⟨rfl,rfl⟩
  ·rw[decide_eq_false c,if_neg c];exact⟨rfl,rfl⟩
end
section
variable{X:Cx}
theorem zJb:qK X (.builtin "sorted") (λxs H Q=>∃(l a b:Addr)(x y:Int)(us ws:List V),xs=[.ref l]/\SqL X.K H l [.ref a,.ref b]/\H a=some (.tup (.int x::us))/\H b=some (.tup (.int y::ws))/\x≠y /\
  ∀ p:Addr,H p=none->Q (.ref p) (upd H p (.lst (if y<x then [.ref b,.ref a] else [.ref a,.ref b])))):=by
 intro pins s σ H xs us Q I r h;obtain⟨l,a,b,x,y,us',ws',rfl,hq,ha,hb,hn,q⟩:=h;obtain⟨u,rfl,ru⟩:=yW.one r;cases ru;obtain⟨its,rv,pl,hz⟩:=I.list hq;have ei:=zHm (rs:=[a,b]) rv;subst ei;have tf:∀{a:Addr}{x:Int}{us:List V},H a=some (.tup (.int x::us))->zSd s.heap (.ref a) x:=λ{a x us} ha=>by
  obtain⟨its,r1,⟨o,e,c,n,d⟩,_⟩:=I.tuple (SqT.of ha);cases r1 with
  | cons p1 q1 =>
   obtain⟨t,rfl⟩:=p1;exact⟨_,o,n,t,_,rfl,e,c,d⟩
 refine zL9 (u:=.ref a) (v:=.ref b) pl.isList (tf ha) (tf hb) hn ?_;have fr:H (s.heap.objs.size+1)=none:=I.hok.fresh (Nat.le_succ _);by_cases c:y<x
 ·rw[if_pos c];have q':=q _ fr;rw[if_pos c] at q';obtain⟨e,at'⟩:=sortedAll_at s.heap [.ref a,.ref b] [Value.ref b,Value.ref a].toArray;exact⟨.ref (s.heap.objs.size+1),_,I.laid (t':=s.toks) (a:=s.heap.objs.size+1) (o:=.lst [.ref b,.ref a]) (λb ob q=>sortedAll_old q) (Nat.le_succ _) ⟨(by show 2<=sizeLine; rw[sizeLine_eq]; decide),_,e,qP [b,a],at'⟩,rfl,q'⟩
 ·rw[if_neg c];have q':=q _ fr;rw[if_neg c] at q';obtain⟨e,at'⟩:=sortedAll_at s.heap [.ref a,.ref b] [Value.ref a,Value.ref b].toArray;exact⟨.ref (s.heap.objs.size+1),_,I.laid (t':=s.toks) (a:=s.heap.objs.size+1) (o:=.lst [.ref a,.ref b]) (λb ob q=>sortedAll_old q) (Nat.le_succ _) ⟨(by show 2<=sizeLine; rw[sizeLine_eq]; decide),_,e,qP [a,b],at'⟩,rfl,q'⟩
def tOrT(K:PySem.W.Frag)(ta tb:TE):TE:=λσ H Q=>ta σ H λx H1=>∃ k,TruV K x H1 k/\if k=true then Q x H1 else tb σ H1 Q
theorem zVc{a b:Expr}{rest:List Expr}{pos:Pos}{ta tb:TE}(ha:PE X a ta)(hb:PE X (.BoolOp .Or (b::rest) pos) tb):PE X (.BoolOp .Or (a::b::rest) pos) (tOrT X.K ta tb):=by
 intro pins s σ H Q I h;refine BoolOp_or (thn (ha pins s σ H _ I h) λv s1 ⟨x,H1,I1,r1,q1⟩=>?_);obtain⟨k,tk,q1⟩:=q1;refine thn (zUy pins s1 σ H1 x v (λc H2=>H2=H1/\c=k) I1 r1 ⟨k,tk,rfl,rfl⟩) λc s2 ⟨H2,I2,e,ec⟩=>?_;subst e ec;cases c with
 | false=>exact hb pins s2 σ H2 Q I2 q1
 | true=>exact⟨x,H2,I2,r1,q1⟩
end
theorem zD8{a b:Str}{A B:Prop}(h:a≠b)(hB:B):if decide (V.str a=V.str b)=true then A else B:=by
 rw[decide_eq_false (λz=>h (by injection z))];exact hB
theorem zM6{a:Str}{A B:Prop}(hA:A):if decide (V.str a=V.str a)=true then A else B:=by
 rw[decide_eq_true rfl];exact hA
theorem cut4{ok:Addr->Int->Int->Hp->Prop}{G:Prop}{R:Addr->Int->Int->Hp->Prop}(h1:(∀ p x y G,ok p x y G->R p x y G)->G)(h2:∀ p x y G,ok p x y G->R p x y G):G:=h1 h2
end L2

namespace Sea
open PySem L2
def Far(ss:List Sd)(g P:P3)(ws:List (Int×Int×Int)):Prop :=
 (∃(i:Nat)(p q:Int)(s:Sd),ws=[((i:Int),p,q)]/\ss[i]?=some s/\0<p/\0<q/\p<=10^19/\q<=10^19/\Nat.gcd p.natAbs q.natAbs=1/\p*s.2.1=q*g.1/\p*s.2.2.1=q*g.2.1/\sv s.2 P=0) \/
 ∃(i j:Nat)(p q p' q':Int)(s t:Sd),ws=[((i:Int),p,q),((j:Int),p',q')]/\i<j/\ss[i]?=some s/\ss[j]?=some t/\(0<p/\0<q/\p<=10^19/\q<=10^19/\Nat.gcd p.natAbs q.natAbs=1)/\(0<p'/\0<q'/\p'<=10^19/\q'<=10^19/\Nat.gcd p'.natAbs q'.natAbs=1) /\
  p*s.2.1*q'+p'*t.2.1*q=q*q'*g.1/\p*s.2.2.1*q'+p'*t.2.2.1*q=q*q'*g.2.1/\sv s.2 P=0/\sv t.2 P=0
theorem zRk(x:Int):zCd (-x)=zCd x:=by
 unfold zCd;split <;> split <;> lia
theorem zQr{s g:P3}(ht:tn s g=0)(hd:0<dt s g):xF g.1 g.2.1*s.1=xF s.1 s.2.1*g.1/\xF g.1 g.2.1*s.2.1=xF s.1 s.2.1*g.2.1:=by
 have cr:g.1*s.2.1=g.2.1*s.1:=by
  unfold tn at ht;rw[Int.mul_comm g.1,Int.mul_comm g.2.1];rw[Int.mul_comm s.1,Int.mul_comm s.2.1] at ht;rw[Int.mul_comm s.2.1 g.1,Int.mul_comm s.1 g.2.1];lia
 have pr:0<=(g.1 * -s.1)*(g.2.1 * -s.2.1):=by
  have e0:(g.1 * -s.1)*(g.2.1 * -s.2.1)=(g.1*s.2.1)*(g.2.1*s.1):=by
   simp only[Int.mul_neg,Int.neg_mul,Int.neg_neg,Int.mul_comm,Int.mul_left_comm]
  rw[e0,<- cr];exact zVp _
 obtain⟨o1,o2⟩:=zGg (show g.1 * -s.1+g.2.1 * -s.2.1<0 by
  unfold dt at hd;rw[Int.mul_neg,Int.mul_neg,Int.mul_comm g.1,Int.mul_comm g.2.1];lia) pr
 have cn:g.1 * -s.2.1=g.2.1 * -s.1:=by rw[Int.mul_neg,Int.mul_neg,cr]
 have a1:=par (e1:=g.1) (e2:=g.1) (s1:=-s.1) (s2:=-s.1) rfl o1;have a2:=par (e1:=g.1) (e2:=g.2.1) (s1:=-s.1) (s2:=-s.2.1) cn o2;have a3:=par (e1:=g.2.1) (e2:=g.1) (s1:=-s.2.1) (s2:=-s.1) cn.symm o1;have a4:=par (e1:=g.2.1) (e2:=g.2.1) (s1:=-s.2.1) (s2:=-s.2.1) rfl o2;rw[zRk,Int.mul_neg] at a1 a2 a3 a4;unfold xF;constructor
 ·rw[Int.add_mul,Int.add_mul];lia
 ·rw[Int.add_mul,Int.add_mul];lia
theorem zP2{x y k:Int}(hk:k≠0)(h:x*k=y*k):x=y:=Int.eq_of_mul_eq_mul_right hk h
theorem zHa{t b x y:Int}(pt:wT t b x y)(ht:0<t)(hb:0<b):0<x/\0<y:=by
 have hy:=pt.pos;refine⟨?_,by lia⟩;have e:=pt.eq;have p:=Int.mul_pos (show 0<y by lia) ht;rw[<- e] at p;exact uE p hb
theorem zT4{ss:List Sd}{g P:P3}{i:Nat}{s:Sd}{x y:Int}(gs:ss[i]?=some s)(ns:s.2.1≠0\/s.2.2.1≠0)(ng:g.1≠0\/g.2.1≠0)(ht:tn s.2 g=0)(hd:0<dt s.2 g)(pt:wT (xF g.1 g.2.1) (xF s.2.1 s.2.2.1) x y)(b1:xF g.1 g.2.1<=10^19)(b2:xF s.2.1 s.2.2.1<=10^19)(on:sv s.2 P=0):Far ss g P [((i:Int),x,y)]:=by
 obtain⟨e1,e2⟩:=zQr ht hd;have pS:=rK ns;have pG:=rK ng;obtain⟨px,py⟩:=zHa pt pG pS;have xl:=pt.xle;have yl:=pt.yle;have e:=pt.eq;refine .inl ⟨i,x,y,s,rfl,gs,px,py,by lia,by lia,pt.low,?_,?_,on⟩
 ·refine zP2 (k:=xF s.2.1 s.2.2.1) (by lia) ?_;rw[Int.mul_right_comm,e,Int.mul_assoc,show xF g.1 g.2.1*s.2.1=xF s.2.1 s.2.2.1*g.1 from e1,Int.mul_assoc,Int.mul_comm g.1]
 ·refine zP2 (k:=xF s.2.1 s.2.2.1) (by lia) ?_;rw[Int.mul_right_comm,e,Int.mul_assoc,show xF g.1 g.2.1*s.2.2.1=xF s.2.1 s.2.2.1*g.2.1 from e2,Int.mul_assoc,Int.mul_comm g.2.1]
theorem zQ3(s t g:P3):tn g t*s.1+tn s g*t.1=tn s t*g.1/\tn g t*s.2.1+tn s g*t.2.1=tn s t*g.2.1:=by
 unfold tn;constructor
 ·simp only[Int.sub_mul,Int.mul_sub,Int.mul_comm,Int.mul_left_comm];lia
 ·simp only[Int.sub_mul,Int.mul_sub,Int.mul_comm,Int.mul_left_comm];lia
theorem zOo{p q p' q' A B W a b c:Int}(hW:W≠0)(h1:p*W=q*A)(h2:p'*W=q'*B)(h:A*a+B*b=W*c):p*a*q'+p'*b*q=q*q'*c:=by
 refine zP2 hW ?_;have e:(p*a*q'+p'*b*q)*W=p*W*(a*q')+p'*W*(b*q):=by
  simp only[Int.add_mul,Int.mul_add,Int.mul_comm,Int.mul_left_comm]
 rw[e,h1,h2];have e2:q*A*(a*q')+q'*B*(b*q)=q*q'*(A*a+B*b):=by
  simp only[Int.mul_add,Int.add_mul,Int.mul_comm,Int.mul_left_comm]
 rw[e2,h];simp only[Int.mul_comm,Int.mul_left_comm]
theorem zTv{ss:List Sd}{g P:P3}{i j:Nat}{s t:Sd}{p q p' q':Int}(gs:ss[i]?=some s)(gt:ss[j]?=some t)(hW:0<tn s.2 t.2)(hA:0<tn g t.2)(hB:0<tn s.2 g)(p1:wT (tn g t.2) (tn s.2 t.2) p q)(p2:wT (tn s.2 g) (tn s.2 t.2) p' q')
  (bA:tn g t.2<=10^19) (bB:tn s.2 g<=10^19) (bW:tn s.2 t.2<=10^19) (o1:sv s.2 P=0) (o2:sv t.2 P=0) (hij:i≠j):Far ss g P (if j<i then [((j:Int),p',q'),((i:Int),p,q)] else [((i:Int),p,q),((j:Int),p',q')]):=by
 obtain⟨c1,c2⟩:=zQ3 s.2 t.2 g;obtain⟨a1,a2⟩:=zHa p1 hA hW;obtain⟨a3,a4⟩:=zHa p2 hB hW;have x1:=p1.xle;have x2:=p1.yle;have x3:=p2.xle;have x4:=p2.yle;have k1:=zOo (show tn s.2 t.2≠0 by lia) p1.eq p2.eq c1;have k2:=zOo (show tn s.2 t.2≠0 by lia) p1.eq p2.eq c2;have w1:0<p/\0<q/\p<=10^19/\q<=10^19/\Nat.gcd p.natAbs q.natAbs=1:=⟨a1,a2,by lia,by lia,p1.low⟩;have w2:0<p'/\0<q'/\p'<=10^19/\q'<=10^19/\Nat.gcd p'.natAbs q'.natAbs=1:=⟨a3,a4,by lia,by lia,p2.low⟩;by_cases c:j<i
 ·rw[if_pos c];refine .inr ⟨j,i,p',q',p,q,t,s,rfl,c,gt,gs,w2,w1,?_,?_,o2,o1⟩
  ·rw[Int.mul_comm q' q];have z:p*s.2.1*q'+p'*t.2.1*q=q*q'*g.1:=k1;lia
  ·rw[Int.mul_comm q' q];have z:p*s.2.2.1*q'+p'*t.2.2.1*q=q*q'*g.2.1:=k2;lia
 ·rw[if_neg c];exact .inr ⟨i,j,p,q,p',q',s,t,rfl,by lia,gs,gt,w1,w2,k1,k2,o1,o2⟩
def qL(o:Int×Int)(p q n:Int):Int×Int:=(o.1*q+n*p*o.2,o.2*q)
def xR(ss:List Sd)(g:P3):List (Int×Int×Int)->Int->Int×Int->Int×Int->Int×Int->Option (Int×Int)
 | [],_,A,B,C=>if A.1=g.1*A.2/\B.1=g.2.1*B.2 then some C else none
 | u::ws,last,A,B,C=>if last<u.1/\u.1<ss.length/\1<=u.2.1/\1<=u.2.2 then
   match ss[u.1.toNat]? with
   | some t=>xR ss g ws u.1 (qL A u.2.1 u.2.2 t.2.1) (qL B u.2.1 u.2.2 t.2.2.1) (qL C u.2.1 u.2.2 t.2.2.2)
   | none=>none
  else none
def wV(ss:List Sd)(g:P3)(ws:List (Int×Int×Int)):Option (Int×Int):=if ws.length<=2 then xR ss g ws (-1) (0,1) (0,1) (0,1) else none
theorem uF{ss:List Sd}{g:P3}{n p q last:Int}{t:Sd}{A B C:Int×Int}{ws:List (Int×Int×Int)}(h1:last<n)(h2:n<ss.length)(h3:1<=p)(h4:1<=q)(gt:ss[n.toNat]?=some t) :
  xR ss g ((n,p,q)::ws) last A B C=xR ss g ws n (qL A p q t.2.1) (qL B p q t.2.2.1) (qL C p q t.2.2.2):=by
 rw[xR,if_pos ⟨h1,h2,h3,h4⟩];show(match ss[n.toNat]? with | some t=>xR ss g ws n (qL A p q t.2.1) (qL B p q t.2.2.1) (qL C p q t.2.2.2) | none=>none)=_;rw[gt]
theorem zGh{ss:List Sd}{g:P3}{n p q last:Int}{A B C:Int×Int}{ws:List (Int×Int×Int)}(h:¬ (last<n/\n<ss.length/\1<=p/\1<=q)):xR ss g ((n,p,q)::ws) last A B C=none:=by
 rw[xR,if_neg h]
theorem zP4{a b c x y w:Int}(h:a*x+b*y-c*w=0):a*x+b*y=c*w:=by lia
theorem Far.bound{ss:List Sd}{g P:P3}{ws:List (Int×Int×Int)}(h:Far ss g P ws)(sm:∀ t∈ss,t.2.2.2.natAbs<=10^13):∃ x y:Int,wV ss g ws=some (x,y)/\(g.1*P.1+g.2.1*P.2.1)*y=x*P.2.2/\x.natAbs<=10^60/\y.natAbs<=10^60:=by
 rcases h with ⟨i,p,q,s,rfl,gs,hp,hq,bp,bq,_,e1,e2,on⟩ | ⟨i,j,p,q,p',q',s,t,rfl,hij,gs,gt,⟨hp,hq,bp,bq,_⟩,⟨hp',hq',bp',bq',_⟩,e1,e2,o1,o2⟩
 ·have hi:=(List.getElem?_eq_some_iff.mp gs).1;refine⟨0*q+s.2.2.2*p*1,1*q,?_,?_,?_,?_⟩
  ·unfold wV;rw[if_pos (by show 1<=2; decide),uF (t:=s) (by lia) (by lia) (by lia) (by lia) (by rw[Int.toNat_natCast]; exact gs),xR];show(if 0*q+s.2.1*p*1=g.1*(1*q)/\0*q+s.2.2.1*p*1=g.2.1*(1*q) then some (0*q+s.2.2.2*p*1,1*q) else none)=_;rw[if_pos];constructor
   ·rw[Int.zero_mul,Int.zero_add,Int.mul_one,Int.one_mul,Int.mul_comm s.2.1,Int.mul_comm g.1];exact e1
   ·rw[Int.zero_mul,Int.zero_add,Int.mul_one,Int.one_mul,Int.mul_comm s.2.2.1,Int.mul_comm g.2.1];exact e2
  ·have o:=zP4 (show s.2.1*P.1+s.2.2.1*P.2.1-s.2.2.2*P.2.2=0 from on);have z:(g.1*P.1+g.2.1*P.2.1)*(1*q)=(q*g.1)*P.1+(q*g.2.1)*P.2.1:=by
    simp only[Int.one_mul,Int.mul_one,Int.add_mul,Int.mul_add,Int.mul_comm,Int.mul_left_comm]
   rw[z,<- e1,<- e2];have z2:p*s.2.1*P.1+p*s.2.2.1*P.2.1=p*(s.2.1*P.1+s.2.2.1*P.2.1):=by
    simp only[Int.mul_add,Int.mul_comm,Int.mul_left_comm]
   rw[z2,o,Int.zero_mul,Int.zero_add,Int.mul_one];simp only[Int.mul_comm,Int.mul_left_comm]
  ·have z:=zI s.2.2.2 p (sm s (List.mem_of_getElem? gs)) (show p.natAbs<=10^19 by lia);lia
  ·lia
 ·have hi:=(List.getElem?_eq_some_iff.mp gs).1;have hj:=(List.getElem?_eq_some_iff.mp gt).1;refine⟨(0*q+s.2.2.2*p*1)*q'+t.2.2.2*p'*(1*q),1*q*q',?_,?_,?_,?_⟩
  ·unfold wV;rw[if_pos (by show 2<=2; decide),uF (t:=s) (by lia) (by lia) (by lia) (by lia) (by rw[Int.toNat_natCast]; exact gs),uF (t:=t) (by lia) (by lia) (by lia) (by lia) (by rw[Int.toNat_natCast]; exact gt),xR];show(if (0*q+s.2.1*p*1)*q'+t.2.1*p'*(1*q)=g.1*(1*q*q')/\(0*q+s.2.2.1*p*1)*q'+t.2.2.1*p'*(1*q)=g.2.1*(1*q*q') then some ((0*q+s.2.2.2*p*1)*q'+t.2.2.2*p'*(1*q),1*q*q') else none)=_;rw[if_pos];constructor
   ·rw[Int.zero_mul,Int.zero_add,Int.mul_one,Int.one_mul,Int.mul_comm s.2.1,Int.mul_comm t.2.1,Int.mul_comm g.1];exact e1
   ·rw[Int.zero_mul,Int.zero_add,Int.mul_one,Int.one_mul,Int.mul_comm s.2.2.1,Int.mul_comm t.2.2.1,Int.mul_comm g.2.1];exact e2
  ·have oa:=zP4 (show s.2.1*P.1+s.2.2.1*P.2.1-s.2.2.2*P.2.2=0 from o1);have ob:=zP4 (show t.2.1*P.1+t.2.2.1*P.2.1-t.2.2.2*P.2.2=0 from o2);have z:(g.1*P.1+g.2.1*P.2.1)*(1*q*q')=(q*q'*g.1)*P.1+(q*q'*g.2.1)*P.2.1:=by
    simp only[Int.one_mul,Int.mul_one,Int.add_mul,Int.mul_add,Int.mul_comm,Int.mul_left_comm]
   rw[z,<- e1,<- e2];have z2:(p*s.2.1*q'+p'*t.2.1*q)*P.1+(p*s.2.2.1*q'+p'*t.2.2.1*q)*P.2.1=p*q'*(s.2.1*P.1+s.2.2.1*P.2.1)+p'*q*(t.2.1*P.1+t.2.2.1*P.2.1):=by
    simp only[Int.mul_add,Int.add_mul,Int.mul_comm,Int.mul_left_comm];lia
   rw[z2,oa,ob,Int.zero_mul,Int.zero_add,Int.mul_one,Int.one_mul];simp only[Int.add_mul,Int.mul_add,Int.mul_comm,Int.mul_left_comm]
  ·have z1:=zI s.2.2.2 p (sm s (List.mem_of_getElem? gs)) (show p.natAbs<=10^19 by lia);have z2:=zI (s.2.2.2*p) q' z1 (show q'.natAbs<=10^19 by lia);have z3:=zI t.2.2.2 p' (sm t (List.mem_of_getElem? gt)) (show p'.natAbs<=10^19 by lia);have z4:=zI (t.2.2.2*p') q z3 (show q.natAbs<=10^19 by lia);rw[Int.zero_mul,Int.zero_add,Int.mul_one,Int.one_mul];lia
  ·have z:=zI q q' (show q.natAbs<=10^19 by lia) (show q'.natAbs<=10^19 by lia);rw[Int.one_mul];lia
theorem Far.low{ss:List Sd}{g P:P3}{ws:List (Int×Int×Int)}(h:Far ss g P ws):ws.length<=2/\∀ u∈ws,Nat.gcd u.2.1.natAbs u.2.2.natAbs=1/\u.1.natAbs<=ss.length/\u.2.1.natAbs<=10^19/\u.2.2.natAbs<=10^19:=by
 rcases h with ⟨i,p,q,s,rfl,gs,hp,hq,bp,bq,lo,_⟩ | ⟨i,j,p,q,p',q',s,t,rfl,hij,gs,gt,⟨hp,hq,bp,bq,lo⟩,⟨hp',hq',bp',bq',lo'⟩,_⟩
 ·have hi:=(List.getElem?_eq_some_iff.mp gs).1;refine⟨(by show 1<=2; decide),λu hu=>?_⟩;rw[List.mem_singleton] at hu;subst hu;exact⟨lo,(by show(i:Int).natAbs<=_; lia),(by show p.natAbs<=_; lia),(by show q.natAbs<=_; lia)⟩
 ·have hi:=(List.getElem?_eq_some_iff.mp gs).1;have hj:=(List.getElem?_eq_some_iff.mp gt).1;refine⟨(by show 2<=2; decide),λu hu=>?_⟩;rcases List.mem_cons.mp hu with rfl | hu
  ·exact⟨lo,(by show(i:Int).natAbs<=_; lia),(by show p.natAbs<=_; lia),(by show q.natAbs<=_; lia)⟩
  ·rw[List.mem_singleton] at hu;subst hu;exact⟨lo',(by show(j:Int).natAbs<=_; lia),(by show p'.natAbs<=_; lia),(by show q'.natAbs<=_; lia)⟩
theorem zRv{t:P3}(h:t.1≠0\/t.2.1≠0)(b1:t.1.natAbs<=10^9)(b2:t.2.1.natAbs<=10^9)(b3:t.2.2.natAbs<=10^13):(pt3 (ftL t)).1.natAbs<=10^40/\(pt3 (ftL t)).2.1.natAbs<=10^40/\(pt3 (ftL t)).2.2.natAbs<=10^40:=by
 have hw:=qA h;obtain⟨x,y,w,el,sp⟩:=zCm (X:=t.1*t.2.2) (Y:=t.2.1*t.2.2) (W:=t.1*t.1+t.2.1*t.2.1) (by lia);have e1:ftL t=[x,y,w]:=el;rw[e1];have z1:=zI t.1 t.2.2 b1 b3;have z2:=zI t.2.1 t.2.2 b2 b3;have z3:=zI t.1 t.1 b1 b1;have z4:=zI t.2.1 t.2.1 b2 b2;have x1:=sp.xle;have x2:=sp.yle;have x3:=sp.wle;refine⟨?_,?_,?_⟩
 ·show x.natAbs<=10^40;lia
 ·show y.natAbs<=10^40;lia
 ·show w.natAbs<=10^40;lia
theorem zSt.small{ss:List Sd}{P:P3}(c:zSt ss P)(sm:∀ t∈ss,(t.2.1≠0\/t.2.2.1≠0)/\t.2.1.natAbs<=10^9/\t.2.2.1.natAbs<=10^9/\t.2.2.2.natAbs<=10^13):P.1.natAbs<=10^40/\P.2.1.natAbs<=10^40/\P.2.2.natAbs<=10^40:=by
 rcases c with rfl | ⟨t,mt,rfl⟩ | ⟨t,mt,u,mu,h,rfl⟩
 ·exact⟨by decide,by decide,by decide⟩
 ·obtain⟨n,b1,b2,b3⟩:=sm t mt;exact zRv n b1 b2 b3
 ·obtain⟨_,b1,b2,b3⟩:=sm t mt;obtain⟨_,d1,d2,d3⟩:=sm u mu;exact zQz h b1 b2 b3 d1 d2 d3
def Sz(o:Int×Int):Prop:=o.1.natAbs<=10^100/\o.2.natAbs<=10^100
def zW5(p q:Int):Prop:=p.natAbs<=10^40/\q.natAbs<=10^40
def zUn(n:Int):Prop:=n.natAbs<=10^13
theorem zW5.up{p q:Int}(h:zW5 p q):p.natAbs<=10^100/\q.natAbs<=10^100:=⟨Nat.le_trans h.1 (by decide),Nat.le_trans h.2 (by decide)⟩
theorem zUn.up{n:Int}(h:zUn n):n.natAbs<=10^100:=Nat.le_trans (show n.natAbs<=10^13 from h) (by decide)
theorem zCr{o:Int×Int}{p q n:Int}(h:o=(0,1))(hb:zW5 p q)(hn:zUn n):Sz (qL o p q n):=by
 subst h;have z:=zI n p hn hb.1;have hq:=hb.2;show(0*q+n*p*1).natAbs<=10^100/\(1*q).natAbs<=10^100;rw[Int.zero_mul,Int.zero_add,Int.mul_one,Int.one_mul];exact⟨Nat.le_trans z (by decide),Nat.le_trans hq (by decide)⟩
end Sea

namespace Sea
open PySem L2
structure FarNums(x y m:Int)(P:P3):Prop where
 a1:(-x*P.2.2).natAbs<=10^60
 a2:(-y*P.2.2).natAbs<=10^60
 top:(x*P.1+y*P.2.1).natAbs<=10^60
 t0:(-(x*P.1+y*P.2.1)).natAbs<=10^60
 t1:(-(x*P.1+y*P.2.1)-1).natAbs<=10^60
 u1:(-x*P.2.2*m).natAbs<=10^60
 u2:(-y*P.2.2*m).natAbs<=10^60
 u3:(-(x*P.1+y*P.2.1)*m-1).natAbs<=10^60
 nw : -x*P.2.2≠0\/-y*P.2.2≠0
 nm : -x*P.2.2*m≠0\/-y*P.2.2*m≠0
 wd:P.2.2.natAbs<=10^60
end Sea

namespace L2
open PySem PySem.Spec PyProof.Rows
section
variable{X:Cx}{pos:Pos}
theorem zPj(hc:X.calm=true):qK X (.builtin "min") (λxs H Q=>∃(p:Addr)(i j:Int),xs=[.ref p]/\SqT X.K H p [.int i,.int j]/\Q (.int (if j<i then j else i)) H):=by
 intro pins s σ H xs us Q I r h;obtain⟨p,i,j,rfl,hq,q⟩:=h;obtain⟨u,rfl,r1⟩:=zL5 r;cases r1;obtain⟨its,rv,pt,hz⟩:=I.tuple hq;obtain⟨u1,u2,rfl,⟨t,rfl⟩,⟨t',rfl⟩⟩:=zQc rv;have hT:s.heap.IsTuple p (intItems #[(i,t),(j,t')]):=by
  have z:s.heap.IsTuple p [Value.int i t,Value.int j t'].toArray:=pt;simpa [intItems] using z
 have hlt:p<s.heap.objs.size:=by obtain⟨o,ho,_⟩:=hT; exact Heap.lt_size ho
 refine call_min_walk (wpAny_pyIter_tuple hT ?_);refine⟨_,[_,p],[_],_,_,_,_,rfl,Walks.tuple (A:=X.A.in1) (I.ok.hd hc) _ p (Nat.ne_of_lt hlt) (intItems #[(i,t),(j,t')]),
  ⟨⟨_,Heap.get?_push_size _ rfl,rfl,rfl⟩,hT.push _⟩,λc hc=>?_,by simp[intItems],CmpOf.ints_lt (numAt #[(i,t),(j,t')]) (λ_ _=>intItems_at),λv h' tk hP hk=>?_⟩
 ·show c<(s.heap.push _).objs.size;rw[Heap.size_push];rcases List.mem_cons.mp hc with rfl | hc
  ·exact Nat.lt_succ_self _
  ·rcases List.mem_cons.mp hc with rfl | hc
   ·exact Nat.lt_succ_of_lt hlt
   ·cases hc
 ·have hold:∀ c o,s.heap.get? c=some o->h'.get? c=some o:=λc o e=>by
   refine hk c o (λhm=>?_) (Heap.get?_push_of_some _ e);rcases List.mem_cons.mp hm with e1 | hm
   ·have:=Heap.lt_size e;rw[e1] at this;exact Nat.lt_irrefl _ this
   ·cases hm
  have hP':(intItems #[(i,t),(j,t')])[argBest (λa b=>decide (numAt #[(i,t),(j,t')] a<numAt #[(i,t),(j,t')] b)) 1]?=some v:=by
   have hsz2:(intItems #[(i,t),(j,t')]).size-1=1:=by simp[intItems]
   rw[<- hsz2];exact hP
  refine⟨.int (if j<i then j else i),H,I.kept (t':=tk) hold,?_,q⟩;by_cases hba:j<i
  ·have e:argBest (λa b=>decide (numAt #[(i,t),(j,t')] a<numAt #[(i,t),(j,t')] b)) 1=1:=by simp[argBest,numAt,hba]
   rw[e] at hP';rw[if_pos hba];exact⟨t',by simpa [intItems] using hP'.symm⟩
  ·have e:argBest (λa b=>decide (numAt #[(i,t),(j,t')] a<numAt #[(i,t),(j,t')] b)) 1=0:=by simp[argBest,numAt,hba]
   rw[e] at hP';rw[if_neg hba];exact⟨t,by simpa [intItems] using hP'.symm⟩
def rEqV2(K:PySem.W.Frag):R2:=λx y H Q=>∃(a b p1 p2 q1 q2:Addr)(x1 x2 y1 y2:List Int),x=.ref a/\y=.ref b/\SqL K H a [.ref p1,.ref p2]/\SqL K H b [.ref q1,.ref q2] /\
 H p1=some (.tup (x1.map V.int))/\H p2=some (.tup (x2.map V.int))/\H q1=some (.tup (y1.map V.int))/\H q2=some (.tup (y2.map V.int))/\Q (.bl (decide (x1=y1)&&decide (x2=y2))) H
theorem zUh(hu:X.A.units+64<cLine):OpR X (compareOp .Eq) (rEqV2 X.K):=by
 intro pins s σ H x y v u Q I rx ry h;obtain⟨a,b,p1,p2,q1,q2,x1,x2,y1,y2,rfl,rfl,h1,h2,e1,e2,f1,f2,q⟩:=h;cases rx;cases ry;obtain⟨us,r1,k1,_⟩:=I.list h1;obtain⟨ws,r2,k2,_⟩:=I.list h2;obtain⟨u1,u2,rfl,g1,g2⟩:=zQc r1;obtain⟨w1,w2,rfl,g3,g4⟩:=zQc r2;cases g1;cases g2;cases g3;cases g4;have z1:=zIh I (A:=X.A.in1) (show X.A.units+1<cLine by lia) e1 f1;have z2:=zIh I (A:=X.A.in1) (show X.A.units+1<cLine by lia) e2 f2;refine SeqAt.eq_listAt (e:=λj=>if j=0 then decide (x1=y1) else decide (x2=y2)) k1.isList k2.isList rfl (show X.A.units<cLine by lia) (λj g _=>?_) ?_
 ·match j,g with
  | 0,_=>exact z1
  | 1,_=>exact z2
  | j+2,g=>exact absurd g (by simp)
 ·refine⟨.bl (decide (x1=y1)&&decide (x2=y2)),H,I,?_,q⟩;show Value.bool ((List.range 2).all _)=_;rw[show List.range 2=[0,1] from rfl,List.all_cons,List.all_cons,List.all_nil,Bool.and_true];rfl
end
end L2

namespace Sea
open PySem L2
def awB(N:Nat):List (Int×Int)->Int->Bool
 | [],_=>true
 | c::cs,least=>if least<=c.1/\c.1<N/\1<=c.2 then awB N cs (c.1+1) else false
def yJ(ss:List Sd)(f:Sd->Int)(n:Int):Int:=match ss[n.toNat]? with
 | some t=>f t
 | none=>0
def uU(ss:List Sd)(f:Sd->Int):List (Int×Int)->Int->Int
 | [],T=>T
 | c::cs,T=>uU ss f cs (T+c.2*yJ ss f c.1)
def fAt(k:Int)(t:Sd):Int:=if k=0 then t.2.1 else if k=1 then t.2.2.1 else t.2.2.2
theorem zEv{ss:List Sd} : ∀(cs:List (Int×Int))(last:Int)(T:P3),-1<=last->goB ss cs last T=(awB ss.length cs (last+1)&&(decide ([uU ss (fAt 0) cs T.1,uU ss (fAt 1) cs T.2.1]=[0,0])&&decide (uU ss (fAt 2) cs T.2.2<0)))
 | [],_,_,_=>rfl
 | (n,v)::cs,last,T,hl=>by
  by_cases h:last<n/\n<ss.length/\1<=v
  ·obtain⟨h1,h2,h3⟩:=h;have hn:n.toNat<ss.length:=by lia
   have g:ss[n.toNat]?=some ss[n.toNat]:=List.getElem?_eq_getElem hn;rw[rW h1 h2 h3 g,zEv cs n _ (by lia)];have e:awB ss.length ((n,v)::cs) (last+1)=awB ss.length cs (n+1):=by
    rw[awB,if_pos ⟨show last+1<=n by lia,h2,h3⟩]
   have s:∀ f:Sd->Int,yJ ss f n=f ss[n.toNat]:=λf=>by
    unfold yJ;rw[g]
   rw[e,uU,uU,uU,s,s,s];rfl
  ·rw[zSc h,awB,if_neg (λz=>h ⟨by have:last+1<=n:=z.1; lia,z.2⟩)];rfl
theorem zEw{N:Nat} : ∀{cs:List (Int×Int)}{least:Int},0<=least->awB N cs least=true->∀ c∈cs,0<=c.1/\c.1<N
 | [],_,_,_,_,h=>nomatch h
 | a::cs,least,hl,h,c,hc=>by
  rw[awB] at h;split at h
  ·rename_i hh
   rcases List.mem_cons.mp hc with e | e
   ·rw[e];exact⟨by have:=hh.1; lia,hh.2.1⟩
   ·exact zEw (least:=a.1+1) (by have:=hh.1; lia) h c e
  ·cases h
theorem tI{t b x y:Int}(hb:b=1)(p:wT t b x y):x=t/\y=1:=by
 subst hb;have h1:=p.pos;have h2:=p.yle;have hy:y=1:=by
  have:(1:Int).natAbs=1:=rfl;lia
 have h3:=p.eq;rw[hy] at h3;exact⟨by lia,hy⟩
abbrev Wo:=Addr×Addr×Int×Int
def zEb(ws:List Wo):List V:=ws.map λt=>V.ref t.1
def zQl(H:Hp)(ws:List Wo):Prop:=∀ t∈ws,H t.1=some (.tup [.int t.2.2.1,.ref t.2.1])/\H t.2.1=some (.tup [.int t.2.2.2,.int 1])
theorem zQl.same{H H':Hp}{ws:List Wo}(h:zQl H ws)(s:zZ H H'):zQl H' ws:=λt ht=>⟨s _ _ (h t ht).1,s _ _ (h t ht).2⟩
theorem zHk(ws:List Wo):(zEb ws).length=ws.length:=List.length_map ..
theorem wO{ps:List Pr}{i:Nat}{v:V}(h:(zL ps)[i]?=some v):∃ t,ps[i]?=some t/\v=.ref t.1/\i<ps.length:=by
 unfold zL at h;rw[List.getElem?_map,List.getElem?_map] at h;cases e:ps[i]? with
 | none=>rw[e] at h; cases h
 | some t =>
  rw[e] at h;cases h;exact⟨t,rfl,rfl,(List.getElem?_eq_some_iff.mp e).1⟩
theorem zLt(a b:Int):decide ([a,b]=[(0:Int),0])=(decide (a=0)&&decide (b=0)):=by
 rw[<- Bool.decide_and];exact decide_eq_decide.mpr ⟨λz=>⟨(List.cons.inj z).1,(List.cons.inj (List.cons.inj z).2).1⟩,λz=>by rw[z.1,z.2]⟩
theorem zOl{α β:Type}{f:α->β}{ws:List α}{i:Nat}{t:α}(h:ws[i]?=some t):(ws.drop i).map f=f t::(ws.drop (i+1)).map f:=by
 obtain⟨hi,e⟩:=List.getElem?_eq_some_iff.mp h;rw[List.drop_eq_getElem_cons hi,e];rfl
structure zV2(H0:Hp)(D:Addr)(cs:List Pr)(H:Hp):Prop where
 same:zZ H0 H
 new:H0 D=none
 at':H D=some (.lst (zL cs))
 all:zHy H cs
theorem zV2.app{H0 H H2:Hp}{D p:Addr}{cs:List Pr}{a b:Int}(P:zV2 H0 D cs H)(s:zZ H H2)(hp:H p=none)(ep:H2 p=some (.tup [.int a,.int b])) :
  zV2 H0 D (cs++[(p,a,b)]) (upd H2 D (.lst (zL cs++[.ref p]))):=by
 have npD:p≠D:=λe=>by rw[e,P.at'] at hp; cases hp
 refine⟨(P.same.trans s).putNew P.new,P.new,by rw[zD,wQ]; rfl,λt ht=>?_⟩;rcases List.mem_append.mp ht with h | h
 ·have h1:=P.all t h;rw[yA (tZ h1 P.at' (by intro z; cases z))];exact s _ _ h1
 ·rw[List.mem_singleton] at h;subst h;show upd H2 D _ p=_;rw[yA npD];exact ep
theorem by3(a b c v:Int):∃ x:Int,atI [V.int a,V.int b,V.int c] (v%3)=some (.int x):=by
 have cc:v%3=0\/v%3=1\/v%3=2:=by lia
 rcases cc with e | e | e
 ·exact⟨a,by rw[e]; rfl⟩
 ·exact⟨b,by rw[e]; rfl⟩
 ·exact⟨c,by rw[e]; rfl⟩
def wF(n:Nat)(cs:List Pr):List Pr:=cs.filter λc=>decide (c.2.1<(n:Int))
theorem zPs(ss:List Sd)(f:Sd->Int):∀(cs:List (Int×Int))(T:Int),uU ss f cs T=T+(cs.map λc=>c.2*yJ ss f c.1).sum
 | [],T=>by simp[uU]
 | c::cs,T=>by
  rw[uU,zPs ss f cs,List.map_cons,List.sum_cons];lia
theorem zQ5{H H2:Hp}{W p1 p2:Addr}{ws:List Wo}{n v:Int}{o:HO}{xs:List V}(h:zQl H ws)(s:zZ H H2)(eW:H2 W=some (.lst xs))(e2:H2 p2=some (.tup [.int n,.ref p1]))(e1:H2 p1=some (.tup [.int v,.int 1])):zQl (upd H2 W o) (ws++[(p2,p1,n,v)]):=λu hu=>by
 have keep:∀(b:Addr)(ys:List V),H2 b=some (.tup ys)->upd H2 W o b=some (.tup ys):=λb ys e=>by
  rw[yA (tZ e eW (by intro z; cases z))];exact e
 rcases List.mem_append.mp hu with h' | h'
 ·obtain⟨z1,z2⟩:=(h.same s) u h';exact⟨keep _ _ z1,keep _ _ z2⟩
 ·rw[List.mem_singleton] at h';subst h';exact⟨keep _ _ e2,keep _ _ e1⟩
end Sea

namespace L2
open PySem PySem.Spec PyProof.Rows
theorem zPd:bootBuiltins "sum" = some (.builtin "sum"):=by decide +kernel
theorem zGj(ns:List Int):∀ n,n<=ns.length->preSum (λi=>ns.getD i 0) n=(ns.take n).sum
 | 0,_=>by simp[preSum]
 | n+1,h=>by
  have hn:n<ns.length:=h;rw[preSum,zGj ns n (Nat.le_of_lt hn),List.take_succ,List.getElem?_eq_getElem hn,List.sum_append];simp[List.getD,List.getElem?_eq_getElem hn]
theorem zEq:∀{ns:List Int}{us:List Value},yW (ns.map V.int) us->∀(i:Nat)(v:Value),us[i]?=some v->∃ t,v=.int (ns.getD i 0) t
 | [],us,r,i,v,h=>by
  have e:=yW.zero r;subst e;simp at h
 | n::ns,us,r,i,v,h=>by
  cases r with
  | cons r1 r2 =>
   match i,h with
   | 0,h =>
    obtain⟨t,rfl⟩:=r1;exact⟨t,(Option.some.inj h).symm⟩
   | i+1,h=>exact zEq r2 i v h
section
variable{X:Cx}
theorem zFj(hc:X.calm=true):qK X (.builtin "sum") (λxs H Q=>∃(p:Addr)(ns:List Int),xs=[.ref p]/\SqL X.K H p (ns.map V.int)/\Q (.int ns.sum) H):=by
 intro pins s σ H xs us Q I r h;obtain⟨p,ns,rfl,hq,q⟩:=h;obtain⟨u,rfl,r1⟩:=zL5 r;cases r1;obtain⟨its,rv,pl,hz⟩:=I.list hq;have hL:s.heap.IsList p its.toArray:=pl.isList;have hlt:p<s.heap.objs.size:=by obtain⟨o,ho,_⟩:=hL; exact Heap.lt_size ho
 have nn:its.length=ns.length:=by
  have z:=rv.length;rw[List.length_map] at z;exact z.symm
 refine call_sum_walkG (wpAny_pyIter_list hL ?_);refine⟨_,[_,p],[_],_,_,_,λi=>ns.getD i 0,rfl,Walks.list (A:=X.A.in1) (I.ok.hd hc) _ p (Nat.ne_of_lt hlt) its.toArray,
  ⟨⟨_,Heap.get?_push_size _ rfl,rfl,rfl⟩,hL.push _⟩,λc hc=>?_,λi v hv=>zEq rv i v (by simpa using hv),λh' tk t' hk=>?_⟩
 ·have sz:(s.heap.push { cls:=.type "list_iterator", data:=.fields #[.ref p,.int 0 0] }).objs.size=s.heap.objs.size+1:=Heap.size_push ..;show c<(s.heap.push { cls:=.type "list_iterator", data:=.fields #[.ref p,.int 0 0] }).objs.size;rw[sz];simp only[List.mem_cons,List.not_mem_nil,or_false] at hc;rcases hc with e | e
  ·rw[e]; exact Nat.lt_succ_self _
  ·rw[e]; exact Nat.lt_succ_of_lt hlt
 ·refine⟨.int ns.sum,H,I.kept (t':=tk) λc o e=>hk c o (λhm=>?_) (Heap.get?_push_of_some _ e),⟨t',?_⟩,q⟩
  ·have e1:=List.mem_singleton.mp hm;have z:=Heap.lt_size e;rw[e1] at z;exact Nat.lt_irrefl _ z
  ·have e:its.toArray.size=ns.length:=by simp[nn]
   rw[e,zGj ns ns.length (Nat.le_refl _),List.take_length]
end
end L2

namespace L2
open PySem PySem.Spec PyProof.Rows
end L2

namespace Sea
open PySem L2
def rG(F:Int×Int->Int):List (Int×Int)->Int
 | []=>0
 | c::cs=>F c+rG F cs
theorem zC8(ss:List Sd)(f:Sd->Int):∀(cs:List (Int×Int))(T:Int),uU ss f cs T=T+rG (λc=>c.2*yJ ss f c.1) cs
 | [],T=>by simp[uU,rG]
 | c::cs,T=>by
  rw[uU,zC8 ss f cs,rG];lia
theorem zE7(F:Int×Int->Int)(p:Int×Int->Bool):∀ cs:List (Int×Int),rG F cs=rG F (cs.filter p)+rG F (cs.filter λc=>!p c)
 | []=>rfl
 | c::cs=>by
  rw[rG,zE7 F p cs,List.filter_cons,List.filter_cons];cases p c with
  | true =>
   rw[if_pos rfl,if_neg (by decide),rG];lia
  | false =>
   rw[if_neg (by decide),if_pos (by decide),rG];lia
theorem zGy{F:Int×Int->Int} : ∀{cs:List (Int×Int)},(∀ c∈cs,F c<=0)->rG F cs<=0
 | [],_=>Int.le_refl _
 | c::cs,h=>by
  have h1:=h c (List.mem_cons_self ..);have h2:=zGy λc hc=>h c (List.mem_cons_of_mem _ hc);rw[rG];lia
theorem zCv{F G:Int×Int->Int} : ∀{cs:List (Int×Int)},(∀ c∈cs,F c=G c)->rG F cs=rG G cs
 | [],_=>rfl
 | c::cs,h=>by
  rw[rG,rG,h c (List.mem_cons_self ..),zCv λc hc=>h c (List.mem_cons_of_mem _ hc)]
theorem zK0(A B C:Int×Int->Int)(x y w:Int):∀ cs:List (Int×Int),rG (λc=>A c*x+B c*y-C c*w) cs=rG A cs*x+rG B cs*y-rG C cs*w
 | []=>by simp[rG]
 | c::cs=>by
  rw[rG,rG,rG,rG,zK0 A B C x y w cs,Int.add_mul,Int.add_mul,Int.add_mul];lia
theorem zKo{F:Int×Int->Int}{b:Nat} : ∀{cs:List (Int×Int)},(∀ c∈cs,(F c).natAbs<=b)->(rG F cs).natAbs<=cs.length*b
 | [],_=>Nat.zero_le _
 | c::cs,h=>by
  have h1:=h c (List.mem_cons_self ..);have h2:=zKo λc hc=>h c (List.mem_cons_of_mem _ hc);rw[rG,List.length_cons,Nat.succ_mul];lia
abbrev zHt(ss:List Sd)(n:Int)(z:P3):Int:=yJ ss (λt=>sv t.2 z) n
theorem zUe(ss:List Sd)(n:Int)(z:P3):zHt ss n z=yJ ss (fAt 0) n*z.1+yJ ss (fAt 1) n*z.2.1-yJ ss (fAt 2) n*z.2.2:=by
 unfold zHt yJ;cases ss[n.toNat]? with
 | none=>simp
 | some t=>rfl
theorem zN7(ss:List Sd)(cs:List (Int×Int))(z:P3):rG (λc=>c.2*zHt ss c.1 z) cs=uU ss (fAt 0) cs 0*z.1+uU ss (fAt 1) cs 0*z.2.1-uU ss (fAt 2) cs 0*z.2.2:=by
 rw[zC8,zC8,zC8,Int.zero_add,Int.zero_add,Int.zero_add,<- zK0];refine zCv λc _=>?_;rw[zUe,Int.mul_sub,Int.mul_add,Int.mul_assoc,Int.mul_assoc,Int.mul_assoc]
theorem zP9{ss:List Sd}{n:Int}{z:P3}(h:inW ss z):zHt ss n z<=0:=by
 unfold zHt yJ;cases g:ss[n.toNat]? with
 | none=>exact Int.le_refl _
 | some t=>exact h t (List.mem_of_getElem? g)
theorem zOa{N:Nat} : ∀{cs:List (Int×Int)}{least:Int},awB N cs least=true->∀ c∈cs,1<=c.2
 | [],_,_,_,h=>nomatch h
 | a::cs,least,h,c,hc=>by
  rw[awB] at h;split at h
  ·rename_i hh
   rcases List.mem_cons.mp hc with e | e
   ·rw[e];exact hh.2.2
   ·exact zOa (least:=a.1+1) h c e
  ·cases h
theorem zI9{N:Nat} : ∀{cs:List (Int×Int)}{least:Int},awB N cs least=true->∀ c∈cs,least<=c.1
 | [],_,_,_,h=>nomatch h
 | a::cs,least,h,c,hc=>by
  rw[awB] at h;split at h
  ·rename_i hh
   rcases List.mem_cons.mp hc with e | e
   ·rw[e];exact hh.1
   ·have:=zI9 (least:=a.1+1) h c e;have:=hh.1;lia
  ·cases h
def tO(n:Nat)(cs:List (Int×Int)):List (Int×Int):=cs.filter λc=>decide (c.1<(n:Int))
theorem zM1(n:Nat)(cs:List Pr):(wF n cs).map (·.2)=tO n (cs.map (·.2)):=by
 unfold wF tO;rw[List.filter_map];rfl
theorem zKs{ss es:List Sd}{n:Int}{z:P3}(h0:0<=n)(h:n<ss.length):zHt (ss++es) n z=zHt ss n z:=by
 unfold zHt yJ;rw[List.getElem?_append_left (by lia)]
structure zTp(ss es:List Sd)(cs:List (Int×Int)):Prop where
 out:∀ v:P3,0<v.2.2->inW es v->uU ss (fAt 2) (tO ss.length cs) 0*v.2.2<uU ss (fAt 0) (tO ss.length cs) 0*v.1+uU ss (fAt 1) (tO ss.length cs) 0*v.2.1
 ins:∀ v:P3,inW ss v->uU ss (fAt 0) (tO ss.length cs) 0*v.1+uU ss (fAt 1) (tO ss.length cs) 0*v.2.1<=uU ss (fAt 2) (tO ss.length cs) 0*v.2.2
 few:(∃ z:P3,0<z.2.2/\inW ss z)->(tO ss.length cs).length<=2
theorem zTp.of{ss es:List Sd}{cs:List (Int×Int)}(h:rB (ss++es) cs=true):awB (ss++es).length cs 0=true/\zTp ss es cs:=by
 unfold rB at h;obtain⟨_,h⟩:=Bool.and_eq_true_iff.mp h;obtain⟨h3,h⟩:=Bool.and_eq_true_iff.mp h;have h3:=of_decide_eq_true h3;rw[zEv cs (-1) _ (by decide)] at h;obtain⟨aw,h⟩:=Bool.and_eq_true_iff.mp h;obtain⟨z01,z2⟩:=Bool.and_eq_true_iff.mp h;have z01:=of_decide_eq_true z01;have z2:uU (ss++es) (fAt 2) cs 0<0:=of_decide_eq_true z2;have z0:uU (ss++es) (fAt 0) cs 0=0:=by injection z01
 have z1:uU (ss++es) (fAt 1) cs 0=0:=by
  injection z01 with _ z
  injection z
 have aw0:awB (ss++es).length cs 0=true:=aw;have rg:=zEw (Int.le_refl 0) aw0;have one:=zOa aw0;have all:∀ v:P3,0<v.2.2->0<rG (λc=>c.2*zHt (ss++es) c.1 v) cs:=λv vw=>by
  rw[zN7,z0,z1,Int.zero_mul,Int.zero_mul];have:=Int.mul_neg_of_neg_of_pos z2 vw;lia
 have fs:∀ v:P3,rG (λc=>c.2*zHt (ss++es) c.1 v) (tO ss.length cs)=rG (λc=>c.2*zHt ss c.1 v) (tO ss.length cs):=λv=>zCv λc hc=>by
  obtain⟨mc,lc⟩:=List.mem_filter.mp hc;show c.2*zHt (ss++es) c.1 v=c.2*zHt ss c.1 v;rw[zKs (rg c mc).1 (of_decide_eq_true lc)]
 have ins:∀ v:P3,inW ss v->rG (λc=>c.2*zHt ss c.1 v) (tO ss.length cs)<=0:=λv wv=>zGy λc hc=>Int.mul_nonpos_of_nonneg_of_nonpos (by have:=one c (List.mem_filter.mp hc).1; lia) (zP9 wv);refine⟨aw0,λv vw wv=>?_,λv wv=>?_,λ⟨z,zw,wz⟩=>?_⟩
 ·have a:=all v vw;rw[zE7 _ (λc=>decide (c.1<(ss.length:Int)))] at a;have f:=fs v;unfold tO at f;rw[f] at a;have r:rG (λc=>c.2*zHt (ss++es) c.1 v) (cs.filter λc=>!decide (c.1<(ss.length:Int)))<=0:=zGy λc hc=>by
   obtain⟨mc,lc⟩:=List.mem_filter.mp hc;have lc:¬ c.1<(ss.length:Int):=by simpa using lc
   have k:=rg c mc;rw[List.length_append] at k;refine Int.mul_nonpos_of_nonneg_of_nonpos (by have:=one c mc; lia) ?_;unfold zHt yJ;rw[List.getElem?_append_right (by lia),List.getElem?_eq_getElem (show c.1.toNat-ss.length<es.length by lia)];exact wv _ (List.getElem_mem _)
  have e:=zN7 ss (tO ss.length cs) v;unfold tO at e ⊢;lia
 ·have a:=ins v wv;rw[zN7] at a;lia
 ·by_cases c:(tO ss.length cs).length<=2
  ·exact c
  ·have l1:(tO ss.length cs).length<=cs.length:=List.length_filter_le ..;have l2:(tO ss.length cs).length=cs.length:=by lia
   have al:=List.length_filter_eq_length_iff.mp l2;have a:=all z zw;have b:rG (λc=>c.2*zHt (ss++es) c.1 z) cs<=0:=zGy λc hc=>by
    show c.2*zHt (ss++es) c.1 z<=0;rw[zKs (rg c hc).1 (of_decide_eq_true (al c hc))];exact Int.mul_nonpos_of_nonneg_of_nonpos (by have:=one c hc; lia) (zP9 wz)
   lia
theorem zB2{ss:List Sd}{g:P3}{N:Nat} : ∀(cs:List (Int×Int))(last a b c:Int),-1<=last->awB N cs (last+1)=true->a+rG (λu=>u.2*yJ ss (fAt 0) u.1) (tO ss.length cs)=g.1->b+rG (λu=>u.2*yJ ss (fAt 1) u.1) (tO ss.length cs)=g.2.1 ->
  xR ss g ((tO ss.length cs).map λu=>(u.1,u.2,1)) last (a,1) (b,1) (c,1)=some (c+rG (λu=>u.2*yJ ss (fAt 2) u.1) (tO ss.length cs),1)
 | [],last,a,b,c,_,_,ha,hb=>by
  have ha:a+0=g.1:=ha;have hb:b+0=g.2.1:=hb;show(if a=g.1*1/\b=g.2.1*1 then some (c,(1:Int)) else none)=some (c+0,1);rw[if_pos ⟨by lia,by lia⟩,Int.add_zero]
 | (n,v)::cs,last,a,b,c,hl,aw,ha,hb=>by
  rw[awB] at aw;split at aw
  ·rename_i hh
   have h1:last+1<=n:=hh.1;have h3:1<=v:=hh.2.2;by_cases lt:n<(ss.length:Int)
   ·have ef:tO ss.length ((n,v)::cs)=(n,v)::tO ss.length cs:=by
     unfold tO;rw[List.filter_cons,if_pos (decide_eq_true lt)]
    rw[ef] at ha hb ⊢;have hn:n.toNat<ss.length:=by lia
    have gt:ss[n.toNat]?=some ss[n.toNat]:=List.getElem?_eq_getElem hn;have sa:∀ f:Sd->Int,yJ ss f n=f ss[n.toNat]:=λf=>by
     unfold yJ;rw[gt]
    have ea:∀(x:Int)(k:Int),qL (x,1) v 1 k=(x+v*k,1):=λx k=>by
     unfold qL;rw[Int.mul_one,Int.mul_one,Int.mul_one,Int.mul_comm k]
    rw[List.map_cons,uF (t:=ss[n.toNat]) (by lia) lt h3 (by decide) gt,ea,ea,ea];have ha:a+(v*yJ ss (fAt 0) n+rG (λu=>u.2*yJ ss (fAt 0) u.1) (tO ss.length cs))=g.1:=ha;have hb:b+(v*yJ ss (fAt 1) n+rG (λu=>u.2*yJ ss (fAt 1) u.1) (tO ss.length cs))=g.2.1:=hb;have e2:rG (λu=>u.2*yJ ss (fAt 2) u.1) ((n,v)::tO ss.length cs)=v*yJ ss (fAt 2) n+rG (λu=>u.2*yJ ss (fAt 2) u.1) (tO ss.length cs):=rfl;rw[sa] at ha hb e2;have e0:fAt 0 ss[n.toNat]=ss[n.toNat].2.1:=rfl;have e1:fAt 1 ss[n.toNat]=ss[n.toNat].2.2.1:=rfl;have e3:fAt 2 ss[n.toNat]=ss[n.toNat].2.2.2:=rfl;rw[e0] at ha;rw[e1] at hb;rw[e2,e3,zB2 cs n _ _ _ (by lia) aw (by lia) (by lia),Int.add_assoc]
   ·have ef:tO ss.length ((n,v)::cs)=tO ss.length cs:=by
     unfold tO;rw[List.filter_cons,if_neg (by rw[decide_eq_false lt]; decide)]
    rw[ef] at ha hb ⊢;have e:tO ss.length cs=[]:=by
     unfold tO;rw[List.filter_eq_nil_iff];intro u hu z;have:=zI9 aw u hu;have:=of_decide_eq_true z;have k:n+1<=u.1:=by assumption
     lia
    rw[e] at ha hb ⊢;have ha:a+0=g.1:=ha;have hb:b+0=g.2.1:=hb;show(if a=g.1*1/\b=g.2.1*1 then some (c,(1:Int)) else none)=some (c+0,1);rw[if_pos ⟨by lia,by lia⟩,Int.add_zero]
  ·cases aw
theorem zFf{ss:List Sd}{g:P3} : ∀{ws:List (Int×Int×Int)}{last:Int}{A B C:Int×Int}{x y:Int},0<C.2->xR ss g ws last A B C=some (x,y)->0<y
 | [],_,A,B,C,x,y,hC,h=>by
  rw[xR] at h;split at h
  ·cases h;exact hC
  ·cases h
 | u::ws,last,A,B,C,x,y,hC,h=>by
  rw[xR] at h;split at h
  ·rename_i hh
   split at h
   ·exact zFf (Int.mul_pos hC (by have:=hh.2.2.2; lia)) h
   ·cases h
  ·cases h
theorem zM2{ss:List Sd}{g:P3}{ws:List (Int×Int×Int)}{x y:Int}(h:wV ss g ws=some (x,y)):0<y:=by
 unfold wV at h;split at h
 ·exact zFf (by decide) h
 ·cases h
theorem zTd{ss:List Sd}{g P:P3}{ws:List (Int×Int×Int)}{x y:Int}(hy:0<y)(pw:0<P.2.2)(e:(g.1*P.1+g.2.1*P.2.1)*y=x*P.2.2)(h:sv g P<=0):x<=g.2.2*y:=by
 have k:(g.1*P.1+g.2.1*P.2.1)*y<=(g.2.2*P.2.2)*y:=Int.mul_le_mul_of_nonneg_right (by unfold sv at h; lia) (Int.le_of_lt hy);rw[e] at k;refine Int.le_of_mul_le_mul_right (a:=P.2.2) ?_ pw;have z:g.2.2*y*P.2.2=g.2.2*P.2.2*y:=by rw[Int.mul_assoc,Int.mul_comm y,<- Int.mul_assoc]
 rw[z];exact k
end Sea

namespace Sea
open PySem L2
theorem zDz{a b:Int}{m n:Nat}(h1:a.natAbs<=m)(h2:b.natAbs<=n):xF a b<=((m+n:Nat):Int):=by
 unfold xF zCd;split <;> split <;> lia
structure PIb(t:TE)(σ:St)(i:Int)(n:Nat):Prop where
 rd:∀(H:Hp)(Q:VK),Q (.int i) H->t σ H Q
 le:i.natAbs<=n
section
variable{σ:St}{ta tb:TE}{i j:Int}{m n:Nat}
theorem PIb.var{k:Nat}(h:σ[k]?=some (some (.int i)))(hn:i.natAbs<=n):PIb (zQf k) σ i n:=⟨λ_ _ q=>⟨_,h,q⟩,hn⟩
theorem PIb.con(h:i.natAbs<=n):PIb (tC (.int i)) σ i n:=⟨λ_ _ q=>q,h⟩
theorem PIb.add(a:PIb ta σ i m)(b:PIb tb σ j n):PIb (tOp (rI0 λi j=>.int (i+j)) ta tb) σ (i+j) (m+n) :=
 ⟨λ_ _ q=>a.rd _ _ (b.rd _ _ ⟨i,j,rfl,rfl,q⟩),Nat.le_trans (Int.natAbs_add_le ..) (Nat.add_le_add a.le b.le)⟩
theorem PIb.sub(a:PIb ta σ i m)(b:PIb tb σ j n):PIb (tOp (rI0 λi j=>.int (i-j)) ta tb) σ (i-j) (m+n) :=
 ⟨λ_ _ q=>a.rd _ _ (b.rd _ _ ⟨i,j,rfl,rfl,q⟩),Nat.le_trans (Int.natAbs_sub_le ..) (Nat.add_le_add a.le b.le)⟩
theorem PIb.neg(a:PIb ta σ i m):PIb (tUn (rU λi=>.int (-i)) ta) σ (-i) m:=⟨λ_ _ q=>a.rd _ _ ⟨i,rfl,q⟩,by rw[Int.natAbs_neg]; exact a.le⟩
theorem PIb.mul(a:PIb ta σ i m)(b:PIb tb σ j n)(h:m<=10^9):PIb (tOp (rI zJg λi j=>.int (i*j)) ta tb) σ (i*j) (m*n) :=
 ⟨λ_ _ q=>a.rd _ _ (b.rd _ _ ⟨i,j,rfl,rfl,.inl ⟨by have:=a.le; lia,by have:=a.le; lia⟩,q⟩),zI i j a.le b.le⟩
end
def PPs(M:Nat)(ta:TA)(σ:St)(vs:List (Int×Int)):Prop:=∀(H:Hp)(Q:List V->Hp->Prop),(∀(ps:List Pr)(H':Hp),zZ H H'->qM H' M ps->ps.map (·.2)=vs->Q (zL ps) H')->ta σ H Q
theorem PPs.nil{M:Nat}{σ:St} : PPs M zS2 σ []:=λH _ q=>q [] H (zZ.refl _) (λ_ ht=>nomatch ht) rfl
theorem PPs.cons{M m n:Nat}{σ:St}{ta tb:TE}{tr:TA}{i j:Int}{vs:List (Int×Int)}(a:PIb ta σ i m)(b:PIb tb σ j n)(r:PPs M tr σ vs)(hm:m<=M:=by decide)(hn:n<=M:=by decide):PPs M (rN (tTup (rN ta (rN tb zS2))) tr) σ ((i,j)::vs):=λ_ _ q =>
 a.rd _ _ (b.rd _ _ ⟨(by show 2<=sizeLine; decide),λp hp=>r _ _ λps _ s pk e=>q ((p,i,j)::ps) _ ((zF hp _).trans s) (λt ht=>by
  rcases List.mem_cons.mp ht with h | h
  ·rw[h];exact⟨s _ _ zD,Nat.le_trans a.le hm,Nat.le_trans b.le hn⟩
  ·exact pk t h) (by rw[List.map_cons,e])⟩)
theorem zBy{M:Nat}{σ:St}{ta:TA}{vs:List (Int×Int)}(r:PPs M ta σ vs){H:Hp}{Q:VK}(n:vs.length<=1000)(q:∀ (l:Addr) (ps:List Pr) (H':Hp),zZ H H'->H l=none->H' l=some (.lst (zL ps))->qM H' M ps->ps.map (·.2)=vs->Q (.ref l) H'):zGq ta σ H Q :=
 r _ _ λps _ s pk e=>⟨by
  rw[zQ,<- List.length_map (f:=(·.2)),e];exact Nat.le_of_lt (zV n),λl hl=>q l ps _ (s.trans (zF hl _)) (s.free hl) zD (pk.same (zF hl _)) e⟩
theorem zAn{M:Nat}{σ:St}{ta tr:TA}{vs:List (Int×Int)}(r:PPs M ta σ vs){H:Hp}{K:List V->Hp->Prop}(n:vs.length<=1000)(q:∀ (l:Addr) (ps:List Pr) (H':Hp),zZ H H'->H l=none->H' l=some (.lst (zL ps))->qM H' M ps->ps.map (·.2)=vs->tr σ H' λxs H2=>K (.ref l::xs) H2):rN (zGq ta) tr σ H K :=
 zBy (Q:=λx H1=>tr σ H1 λxs H2=>K (x::xs) H2) r n q
abbrev qF(xs:List (Addr×List Pr)):List V:=(xs.map (·.1)).map V.ref
structure zIb(G:Hp)(lo:Addr)(M:Nat)(xs:List (Addr×List Pr)):Prop where
 at':G lo=some (.lst (qF xs))
 all:∀ u∈xs,u.1≠lo/\G u.1=some (.lst (zL u.2))/\qM G M u.2
theorem zIb.same{G G2:Hp}{lo:Addr}{M:Nat}{xs:List (Addr×List Pr)}(L:zIb G lo M xs)(s:zZ G G2):zIb G2 lo M xs:=⟨s _ _ L.at',λu hu=>⟨(L.all u hu).1,s _ _ (L.all u hu).2.1,(L.all u hu).2.2.same s⟩⟩
theorem zIb.app{G:Hp}{lo l:Addr}{M:Nat}{xs:List (Addr×List Pr)}{ps:List Pr}(L:zIb G lo M xs)(n:l≠lo)(e:G l=some (.lst (zL ps)))(pk:qM G M ps):zIb (upd G lo (.lst (qF xs++[.ref l]))) lo M (xs++[(l,ps)]):=by
 have pr:∀{qs:List Pr}{o:HO},qM G M qs->qM (upd G lo o) M qs:=λh t ht=>⟨by rw[yA (tZ (h t ht).1 L.at' (by intro z; cases z))]; exact(h t ht).1,(h t ht).2⟩;refine⟨by rw[zD]; simp[qF],λu hu=>?_⟩;rcases List.mem_append.mp hu with h | h
 ·obtain⟨h1,h2,h3⟩:=L.all u h;exact⟨h1,by rw[yA h1]; exact h2,pr h3⟩
 ·rw[List.mem_singleton] at h;subst h;exact⟨n,by show upd G lo _ l=_; rw[yA n]; exact e,pr pk⟩
theorem zQy{G:Hp}{lo:Addr}{M:Nat}{xs:List V}{qs:List Pr}(e:G lo=some (.lst xs))(h:qM G M qs)(o:HO):qM (upd G lo o) M qs:=λt ht=>⟨by rw[yA (tZ (h t ht).1 e (by intro z; cases z))]; exact(h t ht).1,(h t ht).2⟩
theorem zQv{M:Nat}{σ:St}{t0 t1 t2 t3:TA}{v0 v1 v2 v3:List (Int×Int)}(r0:PPs M t0 σ v0)(r1:PPs M t1 σ v1)(r2:PPs M t2 σ v2)(r3:PPs M t3 σ v3){H:Hp}{Q:VK}(n0:v0.length<=1000)(n1:v1.length<=1000)(n2:v2.length<=1000)(n3:v3.length<=1000)
  (q:∀(lo:Addr)(xs:List (Addr×List Pr))(H':Hp),zZ H H'->H lo=none->zIb H' lo M xs->xs.map (λu=>u.2.map (·.2))=[v0,v1,v2,v3]->Q (.ref lo) H'):zGq (rN (zGq t0) (rN (zGq t1) (rN (zGq t2) (rN (zGq t3) zS2)))) σ H Q:=by
 show(rN (zGq t0) (rN (zGq t1) (rN (zGq t2) (rN (zGq t3) zS2)))) σ H (λxs H1=>xs.length<=sizeLine/\∀ p,H1 p=none->Q (.ref p) (upd H1 p (.lst xs)));refine zAn r0 n0 λl0 p0 G0 s0 h0 e0 k0 m0=>?_;refine zAn r1 n1 λl1 p1 G1 s1 h1 e1 k1 m1=>?_;refine zAn r2 n2 λl2 p2 G2 s2 h2 e2 k2 m2=>?_;refine zAn r3 n3 λl3 p3 G3 s3 h3 e3 k3 m3=>?_;refine⟨(by show 4<=sizeLine; decide),λlo hlo=>?_⟩;have so:=zF hlo (.lst [.ref l0,.ref l1,.ref l2,.ref l3]);have ne:∀{l:Addr}{o:HO},G3 l=some o->l≠lo:=λe z=>by rw[z,hlo] at e; cases e
 have f0:=s3 _ _ (s2 _ _ (s1 _ _ e0));have f1:=s3 _ _ (s2 _ _ e1);have f2:=s3 _ _ e2;refine q lo [(l0,p0),(l1,p1),(l2,p2),(l3,p3)] _ ((((s0.trans s1).trans s2).trans s3).trans so) ((((s0.trans s1).trans s2).trans s3).free hlo) ⟨zD,λu hu=>?_⟩ (by simp only[List.map_cons,List.map_nil,m0,m1,m2,m3]);simp only[List.mem_cons,List.not_mem_nil,or_false] at hu;rcases hu with rfl | rfl | rfl | rfl
 ·exact⟨ne f0,so _ _ f0,(((k0.same s1).same s2).same s3).same so⟩
 ·exact⟨ne f1,so _ _ f1,((k1.same s2).same s3).same so⟩
 ·exact⟨ne f2,so _ _ f2,(k2.same s3).same so⟩
 ·exact⟨ne e3,so _ _ e3,k3.same so⟩
theorem zRg{M:Nat}{σ:St}{t0 t1 t2 t3:TA}{v0 v1 v2 v3:List (Int×Int)}{H:Hp}{g:TG}{u:TS}{D:zM7}(r0:PPs M t0 σ v0)(r1:PPs M t1 σ v1)(r2:PPs M t2 σ v2)(r3:PPs M t3 σ v3)(n0:v0.length<=1000)(n1:v1.length<=1000)(n2:v2.length<=1000)(n3:v3.length<=1000)
  (q:∀(lo:Addr)(xs:List (Addr×List Pr))(H':Hp),zZ H H'->H lo=none->zIb H' lo M xs->xs.map (λu=>u.2.map (·.2))=[v0,v1,v2,v3]->g (.ref lo) σ H' (u D)):zXc (zUu (zGq (rN (zGq t0) (rN (zGq t1) (rN (zGq t2) (rN (zGq t3) zS2))))) g) u D σ H :=
 zQv (Q:=λx H1=>g x σ H1 (u D)) r0 r1 r2 r3 n0 n1 n2 n3 q
theorem zPn{M:Nat}{σ:St}{ta:TA}{vs:List (Int×Int)}{H:Hp}{g:TG}{u:TS}{D:zM7}(r:PPs M ta σ vs)(n:vs.length<=1000)(q:∀ (l:Addr) (ps:List Pr) (H':Hp),zZ H H'->H l=none->H' l=some (.lst (zL ps))->qM H' M ps->ps.map (·.2)=vs->g (.ref l) σ H' (u D)):zXc (zUu (zGq ta) g) u D σ H :=
 zBy (Q:=λx H1=>g x σ H1 (u D)) r n q
end Sea

namespace Sea
open PySem L2
structure Rel(b x y:Int)(P P':P3):Prop where
 pos:0<P.2.2
 pos':0<P'.2.2
 ex:(b*P.1+x*P.2.2)*P'.2.2=P'.1*P.2.2
 ey:(b*P.2.1+y*P.2.2)*P'.2.2=P'.2.1*P.2.2
section
variable{b x y:Int}
theorem zN5{p q p' q':Int}(h:p'*q=q'*p)(hq:1<=q)(hq':1<=q')(l:Nat.gcd p.natAbs q.natAbs=1)(l':Nat.gcd p'.natAbs q'.natAbs=1):p'=p/\q'=q:=by
 have d1:q.natAbs ∣ q'.natAbs*p.natAbs:=by rw[<- Int.natAbs_mul,<- h,Int.natAbs_mul]; exact Nat.dvd_mul_left _ _
 have d2:q'.natAbs ∣ p'.natAbs*q.natAbs:=by rw[<- Int.natAbs_mul,h,Int.natAbs_mul]; exact Nat.dvd_mul_right _ _
 have e1:=Nat.Coprime.dvd_of_dvd_mul_right (Nat.Coprime.symm l) d1;have e2:=Nat.Coprime.dvd_of_dvd_mul_left (Nat.Coprime.symm l') d2;have eq:q'=q:=by
  have:=Nat.dvd_antisymm e1 e2;lia
 refine⟨?_,eq⟩;rw[eq,Int.mul_comm] at h;exact Int.eq_of_mul_eq_mul_left (by lia) h
end
end Sea

namespace L2
open PySem PySem.Spec PyProof.Rows
inductive Deep(K:PySem.W.Frag)(H:Hp):Nat->V->V->Bool->Prop where
 | same (n:Nat) (a:Addr):Deep K H n (.ref a) (.ref a) true
 | int (n:Nat) (i j:Int):Deep K H n (.int i) (.int j) (i == j)
 | str (n:Nat) (i j:Str):Deep K H n (.str i) (.str j) (i == j)
 | lst {n:Nat} {a b:Addr} {xs ys:List V} {e:Nat->Bool} (ne:a≠b) (ha:SqL K H a xs) (hb:SqL K H b ys) (hl:xs.length=ys.length) (he:∀(j:Nat)(h1:j<xs.length)(h2:j<ys.length),Deep K H n xs[j] ys[j] (e j)):Deep K H (n+1) (.ref a) (.ref b) ((List.range xs.length).all e)
 | lstN {n:Nat} {a b:Addr} {xs ys:List V} (ne:a≠b) (ha:SqL K H a xs) (hb:SqL K H b ys) (hl:xs.length≠ys.length):Deep K H (n+1) (.ref a) (.ref b) false
 | tup {n:Nat} {a b:Addr} {xs ys:List V} {e:Nat->Bool} (ne:a≠b) (ha:SqT K H a xs) (hb:SqT K H b ys) (he:∀(j:Nat)(h1:j<xs.length)(h2:j<ys.length),Deep K H n xs[j] ys[j] (e j)):Deep K H (n+1) (.ref a) (.ref b) ((List.range (min xs.length ys.length)).all e&&xs.length == ys.length)
 | tl {n:Nat} {a b:Addr} {xs ys:List V} (ne:a≠b) (ha:SqT K H a xs) (hb:SqL K H b ys):Deep K H (n+1) (.ref a) (.ref b) false
section
variable{X:Cx}{pins:List (Addr×Obj)}{σ:St}{H:Hp}{s:Shared}
theorem yW.at{xs:List V}{us:List Value}(r:yW xs us){j:Nat}(h1:j<xs.length)(h2:j<us.length):uC xs[j] us[j]:=by
 obtain⟨u,e,ru⟩:=r.get (List.getElem?_eq_getElem h1);rw[List.getElem?_eq_getElem h2] at e;cases e;exact ru
theorem Deep.at(I:Inv X pins σ H s){n:Nat}{x y:V}{r:Bool}(d:Deep X.K H n x y r):∀{A:Around}{u v:Value},A.units+n<cLine->uC x u->uC y v->SeqAt.EqAt A s u v r/\(u≠v->(∃ a,x=.ref a)->SeqAt.RcAt A s u v r):=by
 induction d with
 | same n a =>
  intro A u v hu rx ry;cases rx;cases ry;exact⟨SeqAt.EqAt.same _,λh=>absurd rfl h⟩
 | int n i j =>
  intro A u v hu rx ry;obtain⟨t,rfl⟩:=rx;obtain⟨t',rfl⟩:=ry;exact⟨SeqAt.EqAt.int_int _ _ _ _,λ_ ⟨a,e⟩=>nomatch e⟩
 | str n i j =>
  intro A u v hu rx ry;obtain⟨t,rfl⟩:=rx;obtain⟨t',rfl⟩:=ry;exact⟨SeqAt.EqAt.str_str _ _ _ _,λ_ ⟨a,e⟩=>nomatch e⟩
 | lst ne ha hb hl he ih =>
  intro A u v hu rx ry;cases rx;cases ry;obtain⟨us,r1,k1,_⟩:=I.list ha;obtain⟨ws,r2,k2,_⟩:=I.list hb;have l1:=r1.length;have l2:=r2.length;have z:=SeqAt.RcAt.lists (A:=A) (s:=s) k1.isList k2.isList (by rw[List.size_toArray,List.size_toArray]; lia) (by lia) (λj h1 h2=>(ih j (by simpa [l1] using h1) (by simpa [l2] using h2) (A:=A.in1) (show A.units+1+_<cLine by lia) (r1.at _ (by simpa using h1)) (r2.at _ (by simpa using h2))).1);rw[List.size_toArray,<- l1] at z;exact⟨SeqAt.EqAt.of_refs ne z,λ_ _=>z⟩
 | lstN ne ha hb hl =>
  intro A u v hu rx ry;cases rx;cases ry;obtain⟨us,r1,k1,_⟩:=I.list ha;obtain⟨ws,r2,k2,_⟩:=I.list hb;have l1:=r1.length;have l2:=r2.length;have z:=SeqAt.RcAt.lists_lengths (A:=A) (s:=s) k1.isList k2.isList (by rw[List.size_toArray,List.size_toArray,bne_iff_ne]; lia) (by lia);exact⟨SeqAt.EqAt.of_refs ne z,λ_ _=>z⟩
 | tup ne ha hb he ih =>
  intro A u v hu rx ry;cases rx;cases ry;obtain⟨us,r1,k1,_⟩:=I.tuple ha;obtain⟨ws,r2,k2,_⟩:=I.tuple hb;have l1:=r1.length;have l2:=r2.length;have z:=SeqAt.RcAt.tuples (A:=A) (s:=s) (show s.heap.IsTuple _ us.toArray from k1) (show s.heap.IsTuple _ ws.toArray from k2) (by lia) (λj h1 h2=>(ih j (by simpa [l1] using h1) (by simpa [l2] using h2) (A:=A.in1) (show A.units+1+_<cLine by lia) (r1.at _ (by simpa using h1)) (r2.at _ (by simpa using h2))).1);rw[List.size_toArray,List.size_toArray,<- l1,<- l2] at z;exact⟨SeqAt.EqAt.of_refs ne z,λ_ _=>z⟩
 | tl ne ha hb =>
  intro A u v hu rx ry;cases rx;cases ry;obtain⟨us,r1,k1,_⟩:=I.tuple ha;obtain⟨ws,r2,k2,_⟩:=I.list hb;have z:=SeqAt.RcAt.tuple_list (A:=A) (s:=s) (show s.heap.IsTuple _ us.toArray from k1) k2.isList (by lia);exact⟨SeqAt.EqAt.of_refs ne z,λ_ _=>z⟩
end
end L2

namespace L2
open PySem PySem.Spec PyProof.Rows
end L2

namespace Sea
open PySem L2
def awF(N:Nat):List (Int×Int×Int)->Int->Bool
 | [],_=>true
 | c::cs,least=>if least<=c.1/\c.1<N/\1<=c.2.1/\1<=c.2.2 then awF N cs (c.1+1) else false
def qH(ss:List Sd)(f:Sd->Int):List (Int×Int×Int)->Int×Int->Int×Int
 | [],T=>T
 | c::cs,T=>qH ss f cs (qL T c.2.1 c.2.2 (yJ ss f c.1))
theorem zBx{ss:List Sd}{g:P3} : ∀(ws:List (Int×Int×Int))(last:Int)(A B C:Int×Int),-1<=last->xR ss g ws last A B C=if awF ss.length ws (last+1)=true/\(qH ss (fAt 0) ws A).1=g.1*(qH ss (fAt 0) ws A).2/\(qH ss (fAt 1) ws B).1=g.2.1*(qH ss (fAt 1) ws B).2 then some (qH ss (fAt 2) ws C) else none
 | [],last,A,B,C,_=>by
  show(if A.1=g.1*A.2/\B.1=g.2.1*B.2 then some C else none)=if awF ss.length [] (last+1)=true/\A.1=g.1*A.2/\B.1=g.2.1*B.2 then some C else none
  have e:awF ss.length [] (last+1)=true:=rfl;simp only[e,true_and]
 | (n,p,q)::ws,last,A,B,C,hl=>by
  by_cases h:last<n/\n<ss.length/\1<=p/\1<=q
  ·obtain⟨h1,h2,h3,h4⟩:=h;have gt:ss[n.toNat]?=some ss[n.toNat]:=List.getElem?_eq_getElem (by lia);rw[uF h1 h2 h3 h4 gt,zBx ws n _ _ _ (by lia)];have ea:awF ss.length ((n,p,q)::ws) (last+1)=awF ss.length ws (n+1):=by
    rw[awF,if_pos ⟨by show last+1<=n; lia,h2,h3,h4⟩]
   have es:∀(k:Int)(T:Int×Int),qH ss (fAt k) ((n,p,q)::ws) T=qH ss (fAt k) ws (qL T p q (fAt k ss[n.toNat])):=λk T=>by
    rw[qH];unfold yJ;dsimp only;rw[gt]
   rw[ea,es,es,es];rfl
  ·rw[zGh h,if_neg];rintro⟨z,_⟩;rw[awF] at z;split at z
   ·next c=>exact h ⟨by have:=c.1; dsimp only at this; lia,c.2⟩
   ·cases z
theorem zDb{ss:List Sd}{g:P3}(ws:List (Int×Int×Int)):wV ss g ws=if ws.length<=2/\awF ss.length ws 0=true/\(qH ss (fAt 0) ws (0,1)).1=g.1*(qH ss (fAt 0) ws (0,1)).2/\(qH ss (fAt 1) ws (0,1)).1=g.2.1*(qH ss (fAt 1) ws (0,1)).2 then some (qH ss (fAt 2) ws (0,1)) else none:=by
 unfold wV;by_cases h:ws.length<=2
 ·rw[if_pos h,zBx ws (-1) _ _ _ (by decide)];simp only[h,true_and];rfl
 ·rw[if_neg h,if_neg λz=>h z.1]
theorem zTf{x y N B:Int}(hB:B≠0)(pos:1<=y)(low:Nat.gcd x.natAbs y.natAbs=1)(eq:x*B=y*N):wT N B x y:=by
 have dy:y.natAbs ∣ x.natAbs*B.natAbs:=by rw[<- Int.natAbs_mul,eq,Int.natAbs_mul]; exact Nat.dvd_mul_right _ _
 have d1:=Nat.Coprime.dvd_of_dvd_mul_left (Nat.Coprime.symm low) dy;have dx:x.natAbs ∣ y.natAbs*N.natAbs:=by rw[<- Int.natAbs_mul,<- eq,Int.natAbs_mul]; exact Nat.dvd_mul_right _ _
 have d2:=Nat.Coprime.dvd_of_dvd_mul_left low dx;refine⟨pos,low,eq,?_,Nat.le_of_dvd (by lia) d1⟩;by_cases h:N=0
 ·subst h;rw[Int.mul_zero] at eq;rcases Int.mul_eq_zero.mp eq with z | z
  ·rw[z]; exact Nat.le_refl _
  ·exact absurd z hB
 ·exact Nat.le_of_dvd (by lia) d2
theorem zOi{N B x y p q s x2 y2 x3 y3:Int}(p1:wT N B x y)(p2:wT (p*s) (q*1) x2 y2)(p3:wT (x*y2+x2*y) (y*y2) x3 y3)(hB:B*q≠0):wT (N*q+s*p*B) (B*q) x3 y3:=by
 have e1:=p1.eq;have e2:=p2.eq;have e3:=p3.eq;have n1:=p1.pos;have n2:=p2.pos;refine zTf hB p3.pos p3.low ?_;have z:(y*y2)*(x3*(B*q))=(y*y2)*(y3*(N*q+s*p*B)):=by
  rw[Int.mul_one] at e2;have a1:(y*y2)*(x3*(B*q))=x3*(y*y2)*(B*q):=by grind
  rw[a1,e3];have a2:y3*(x*y2+x2*y)*(B*q)=y3*(x*B*(y2*q)+x2*q*(y*B)):=by grind
  rw[a2,e1,e2];grind
 exact Int.eq_of_mul_eq_mul_left (Int.mul_ne_zero (by lia) (by lia)) z
abbrev zSe(cs:List (Int×Int)):List (Int×Int×Int):=cs.map λc=>(c.1,c.2,1)
theorem zR7(N:Nat):∀(cs:List (Int×Int))(least:Int),awF N (zSe cs) least=awB N cs least
 | [],_=>rfl
 | c::cs,least=>by
  show(if least<=c.1/\c.1<N/\1<=c.2/\(1:Int)<=1 then awF N (zSe cs) (c.1+1) else false)=awB N (c::cs) least;rw[awB,zR7 N cs];by_cases h:least<=c.1/\c.1<N/\1<=c.2
  ·rw[if_pos h,if_pos ⟨h.1,h.2.1,h.2.2,by decide⟩]
  ·rw[if_neg h,if_neg λz=>h ⟨z.1,z.2.1,z.2.2.1⟩]
theorem zN1(ss:List Sd)(f:Sd->Int):∀(cs:List (Int×Int))(T:Int),qH ss f (zSe cs) (T,1)=(uU ss f cs T,1)
 | [],_=>rfl
 | c::cs,T=>by
  show qH ss f (zSe cs) (qL (T,1) c.2 1 (yJ ss f c.1))=(uU ss f cs (T+c.2*yJ ss f c.1),1);rw[<- zN1 ss f cs];unfold qL;dsimp only;rw[Int.mul_one,Int.mul_one,Int.mul_one,Int.mul_comm (yJ ss f c.1)]
end Sea

namespace L2
open PySem PySem.Spec PyProof.Rows
section
variable{X:Cx}
def zN0(i j:Int):Prop:=zJg i j\/zG0 i j
theorem zJ4:OpR X (binaryOp .Mult) (rI zN0 λi j=>.int (i*j)):=by
 intro pins s σ H x y v u Q I rx ry h;obtain⟨i,j,ex,ey,c,q⟩:=h;rcases c with c | c
 ·exact zSh pins s σ H x y v u Q I rx ry ⟨i,j,ex,ey,c,q⟩
 ·exact vT pins s σ H x y v u Q I rx ry ⟨i,j,ex,ey,c,q⟩
end
end L2

namespace L2
open PySem PySem.Spec PyProof.Rows
section
variable{X:Cx}
def rNeDT(K:PySem.W.Frag):R2:=λx y H Q=>∃(a b:Addr)(xs ys:List V)(e:Nat->Bool),x=.ref a/\y=.ref b/\SqT K H a xs/\SqT K H b ys/\(∀(j:Nat)(h1:j<xs.length)(h2:j<ys.length),Deep K H 8 xs[j] ys[j] (e j))/\Q (.bl (!((List.range (min xs.length ys.length)).all e&&xs.length == ys.length))) H
theorem zT5(hu:X.A.units+64<cLine):OpR X (compareOp .NotEq) (rNeDT X.K):=by
 intro pins s σ H x y v u Q I rx ry h;obtain⟨a,b,xs,ys,e,rfl,rfl,ha,hb,he,q⟩:=h;cases rx;cases ry;obtain⟨us,r1,k1,_⟩:=I.tuple ha;obtain⟨ws,r2,k2,_⟩:=I.tuple hb;have l1:=r1.length;have l2:=r2.length;refine SeqAt.RcNeAt.tuples (e:=e) (show s.heap.IsTuple _ us.toArray from k1) (show s.heap.IsTuple _ ws.toArray from k2) (show X.A.units<cLine by lia) (λj h1 h2=>?_) X.prog X.w _ _ ?_
 ·exact(Deep.at I (he j (by simpa [l1] using h1) (by simpa [l2] using h2)) (A:=X.A.in1) (show X.A.units+1+8<cLine by lia) (r1.at _ (by simpa using h1)) (r2.at _ (by simpa using h2))).1
 ·rw[List.size_toArray,List.size_toArray,<- l1,<- l2];exact⟨.bl _,H,I,rfl,q⟩
def rNeDL(K:PySem.W.Frag):R2:=λx y H Q=>∃(a b:Addr)(xs ys:List V),x=.ref a/\y=.ref b/\SqL K H a xs/\SqL K H b ys/\xs.length=ys.length/\(∀(j:Nat)(h1:j<xs.length)(h2:j<ys.length),Deep K H 8 xs[j] ys[j] true)/\Q (.bl false) H
theorem zTo(hu:X.A.units+64<cLine):OpR X (compareOp .NotEq) (rNeDL X.K):=by
 intro pins s σ H x y v u Q I rx ry h;obtain⟨a,b,xs,ys,rfl,rfl,ha,hb,hl,he,q⟩:=h;cases rx;cases ry;obtain⟨us,r1,k1,_⟩:=I.list ha;obtain⟨ws,r2,k2,_⟩:=I.list hb;have l1:=r1.length;have l2:=r2.length;refine SeqAt.RcNeAt.lists (e:=λ_=>true) k1.isList k2.isList (by rw[List.size_toArray,List.size_toArray]; lia) (show X.A.units<cLine by lia) (λj h1 h2=>?_) X.prog X.w _ _ ?_
 ·exact(Deep.at I (he j (by simpa [l1] using h1) (by simpa [l2] using h2)) (A:=X.A.in1) (show X.A.units+1+8<cLine by lia) (r1.at _ (by simpa using h1)) (r2.at _ (by simpa using h2))).1
 ·rw[qU];exact⟨.bl _,H,I,rfl,q⟩
end
end L2

namespace L2
open PySem PySem.Spec PyProof.Rows
theorem walk_of2{l:PySem.W.OpenLaw}{n k:Nat}{q:Program}{loose:List Str}{XP:(Str->Option Value)->Heap->Prop}{YP:World->Heap->Prop}{d:DefRec}{KK:Params->PySem.W.Frag}{K:PySem.W.Frag}{sp:Sp}{x:Str}
  (hn:l.most=some n) (hn2:n<=sizeLine) (hdf:d.params.defaults=[]) (hr:zFt k callerA)
  (hY:∀(w:World)(h:Heap),YP w h->(KK w.params).In h) (sub:∀(p:Params)(h:Heap),(KK p).In h->K.In h)
  (F:∀(w:World)(mg:Str->Option Value)(fa:Addr)(h:Heap),(KK w.params).In h->h.Ns mainGlobals mg->mg d.name=some (.ref fa) ->
   ∃ fd:FuncData,(∀(s:Shared)(u:Value),BindsTo s fd ⟨[u],[]⟩ [(x,u)]) /\
    ∀ base:Heap,K.In base->base.Ns mainGlobals mg->xK l.prog w K mg base CX0 k fa fd [x] sp)
  (hsp:∀(H:Hp)(a:Addr)(ns:List Int),ns.length<=n->SqL K H a (ns.map V.int)->sp [.ref a] H (λv _=>v=.bl true) λ_ _ _=>False) :
  PySem.W.WalkO q loose XP YP l.row.toRowW d [] (λf vs=>PySem.call f vs):=by
 refine Att.attach_call hn hdf λw s₀ s₁ mg mb fa o pm cd doc a vs ns G Y ho hd hcd hmg hobj hints hlen hg=>?_;have KX:=hY w _ Y;obtain⟨fd,hb,hF⟩:=F w mg fa _ KX G.T.g hmg;exact zQs (sub _ _ KX) G.T.g G.T.b G.T.builtins G.T.nolimit hg hobj hints (Nat.le_trans hlen hn2) hr hF hb (λH hO hS=>hsp H a ns hlen hS) λH e s' z=>z
theorem zTm{e:Addr×Obj}{K:PySem.W.Frag}{h:Heap}(n:List.lookup e.1 K=none)(X:PySem.W.Frag.In (e::K) h):PySem.W.Frag.In K h:=λa o q=>X a o (by
 rw[List.lookup_cons];by_cases z:a=e.1
 ·rw[z,n] at q;cases q
 ·rw[beq_eq_false_iff_ne.mpr z];exact q)
end L2

namespace L2
open PySem PySem.Spec PyProof.Rows
theorem sz0:0<=sizeLine:=by decide
theorem sz1:1<=sizeLine:=by decide
theorem sz2:2<=sizeLine:=by decide
theorem sz3:3<=sizeLine:=by decide
theorem gt2:(0:Int)<2:=by decide
theorem gt3:(0:Int)<3:=by decide
theorem gt4:(0:Int)<4:=by decide
theorem gt5:(0:Int)<5:=by decide
section
variable{X:Cx}{x:Str}{p pos:Pos}{a b e c:Expr}{es:List Expr}{t:TA}{te ta tb:TE}{id T:String}{r:List V->Hp->VK->Prop}{n:Nat}{ps:List Str}{sp:Sp}
theorem zVt(h:starEach (e::es) X.env=(false,eval e X.env)::starEach es X.env)(ha:PE X e te)(hr:PA X es t):PA X (e::es) (rN te t):=zU ha hr h
theorem zVs(h:PE X (.Name x pos) te):PE X (.Name x pos) te:=h
theorem m_sub(h:PE X (.Subscript a b pos) te):PE X (.Subscript a b pos) te:=h
theorem zWm(h:PE X (.Call (.Name x p) (e::es) [] pos) te):PE X (.Call (.Name x p) (e::es) [] pos) te:=h
theorem m_bin{op:Operator}(h:PE X (.BinOp a op b pos) te):PE X (.BinOp a op b pos) te:=h
theorem m_cmp{op:CmpOp}(h:PE X (.Compare a [op] [b] pos) te):PE X (.Compare a [op] [b] pos) te:=h
theorem zV4{op:CmpOp}{tt:TT}(h:PT X (.Compare a [op] [b] pos) tt):PT X (.Compare a [op] [b] pos) tt:=h
theorem zTy{op:BoolOp}{tt:TT}(h:PW X (.BoolOp op es pos) tt):PT X (.BoolOp op es pos) tt:=h.pt
theorem m_val{tt:TE}(he:∀ whole,isTrue e X.env whole=(do let v <- whole; standAt e.pos; holding [v] (truthy v)))(h:PE X e tt):PT X e (tB tt):=zV0 h he
theorem m_ix(hs:zPc b)(ha:PE X a ta)(hb:PE X b tb):PE X (.Subscript a b pos) (tOp (rIxA X.K) ta tb):=zGu zBz ha hb hs
theorem zU2(x:Str)(h:PE X (.Name x pos) te):PE X (.Name x pos) te:=h
theorem zJc(hc:qK X (.builtin id) r)(hv:bootBuiltins x=some (.builtin id))(hm:X.mg x=none)(hg:Gl X x)(hn:x ≠ "__name__")(hdb:(x ==("__debug__" : Str))=false)
  (he:starEach (e::es) X.env=(false,eval e X.env)::starEach es X.env) (hpl:(backTo pos (starEach es X.env)).any (·.1)=false) (ha:PA X (e::es) t):PE X (.Call (.Name x p) (e::es) [] pos) (tCB r t):=wM hc hg hm hv ha hn hdb he hpl
theorem zV9(hc:qK X (.type T) r)(hv:bootBuiltins x=some (.type T))(hm:X.mg x=none)(hg:Gl X x)(hn:x ≠ "__name__")(hdb:(x ==("__debug__" : Str))=false)
  (he:starEach (e::es) X.env=(false,eval e X.env)::starEach es X.env) (hpl:(backTo pos (starEach es X.env)).any (·.1)=false) (ha:PA X (e::es) t):PE X (.Call (.Name x p) (e::es) [] pos) (tCB r t):=zFh hc hg hm hv ha hn hdb he hpl
theorem m_own{P:Program}{w:World}{K:PySem.W.Frag}{mg:Str->Option Value}{B:Heap}(h:Has P w K mg B x n ps sp)(e1:X.prog=P/\X.w=w/\X.K=K/\X.mg=mg/\X.base=B)(hr:zFt n X.A)(hg:Gl X x)(hdb:(x ==("__debug__" : Str))=false)
  (he:starEach (e::es) X.env=(false,eval e X.env)::starEach es X.env) (hpl:(backTo pos (starEach es X.env)).any (·.1)=false) (ha:PA X (e::es) t):PE X (.Call (.Name x p) (e::es) [] pos) (zTk sp [] E0 t):=by
 obtain⟨rfl,rfl,rfl,rfl,rfl⟩:=e1;exact xG h hr hg ha hdb he hpl
theorem zX(i:Nat){te:TE}{pos':Pos}(hN:X.N.Nodup)(he:PE X e te)(hi:X.N[i]?=some x:=by rfl)(hx:Loc X.env.scope x:=by first | exact Or.inl rfl | exact Or.inr rfl)(hs:swapsWith e (some (.Name x pos')) pos.line X.env=pure false:=by rfl)
  (hf:X.fn x=true\/X.env.scope.names.lookup x=some .local:=by first | exact .inl rfl | exact .inr rfl | assumption):PS X (.Assign [.Name x pos'] e pos) (zUu te (zMe i)):=zNl hN hi hx he hs hf
theorem yS(i:Nat)(hN:X.N.Nodup)(hi:X.N[i]?=some x:=by rfl)(hx:Loc X.env.scope x:=by first | exact Or.inl rfl | exact Or.inr rfl)(hf:X.fn x=true\/X.env.scope.names.lookup x=some .local:=by first | exact .inl rfl | exact .inr rfl | assumption) :
  PG X (.Name x pos) (zMe i):=zP0 hN hi hx hf
theorem zH3{o:Expr}{to:TE}{apos cpos:Pos}(ho:PE X o to)(ha:PA X (e::es) t)
  (hbase:attributeBase o "append" X.env (eval o X.env)=eval o X.env:=by rfl)
  (hfew:((backTo cpos (starEach (e::es) X.env)).all (λx=>!x.1)&&(backToKw cpos (keywordEach [] X.env)).all (λx=>x.1.isSome)
   && decide ((e::es).length+([]:List Keyword).length+(if ([]:List Keyword).isEmpty then 0 else 1)<30))=true:=by rfl)
  (hline:(apos.endLine == cpos.line)=true:=by rfl) (hs:starEach (e::es) X.env=(false,eval e X.env)::starEach es X.env:=by rfl) (hplain:(backTo cpos (starEach es X.env)).any (·.1)=false:=by rfl) :
  PE X (.Call (.Attribute o "append" apos) (e::es) [] cpos) (tBM X.K "list" zNc to t):=pe_bm PySem.F.plainAttrs_list PySem.F.slot_list_append PySem.F.type_list_append zEr ho ha hbase hfew hline hs hplain
end
end L2

-- LAW
namespace Sea
open PySem L2
local macro_rules | `(tactic| ac_rfl) => `(tactic| exact ⟨rfl, rfl, rfl, by decide +kernel, rfl, by decide +kernel, by decide +kernel⟩)
structure Zs(mg:Str->Option Value):Prop where
 abs:mg "abs" = none
 all:mg "all" = none
 bool:mg "bool" = none
 enumerate:mg "enumerate" = none
 int:mg "int" = none
 isinstance:mg "isinstance" = none
 len:mg "len" = none
 list:mg "list" = none
 max:mg "max" = none
 min:mg "min" = none
 range:mg "range" = none
 sorted:mg "sorted" = none
 str:mg "str" = none
 sum:mg "sum" = none
 tuple:mg "tuple" = none
 zip:mg "zip" = none
theorem yN:zT ["numbers", "shared", "number", "rest", "smaller"] ["numbers"] (zM wR):=by ac_rfl
theorem zEe:zT ["numbers", "shared"] ["numbers"] (zM zAl):=by ac_rfl
theorem zH4:zT ["numbers"] ["numbers"] (zM rT):=by ac_rfl
theorem zO1:zT ["top", "bottom"] ["top", "bottom"] (zM zDt):=by ac_rfl
theorem zOq:zT ["one", "other"] ["one", "other"] (zM zD3):=by ac_rfl
theorem zMb:zT ["one", "other"] ["one", "other"] (zM zCk):=by ac_rfl
theorem zF9:zT ["one", "other"] ["one", "other"] (zM zAd):=by ac_rfl
theorem zNg:zT ["x", "y", "w"] ["x", "y", "w"] (zM zDo):=by ac_rfl
theorem zNr:zT ["one", "other"] ["one", "other"] (zM zDw):=by ac_rfl
theorem zF8:zT ["one", "other"] ["one", "other"] (zM qZ):=by ac_rfl
theorem zLp:zT ["direction"] ["direction"] (zM zBt):=by ac_rfl
theorem zEn:zT ["side"] ["side"] (zM vL):=by ac_rfl
theorem zJt:zT ["side", "spot"] ["side", "spot"] (zM zAq):=by ac_rfl
theorem zMk:zT ["side", "spot"] ["side", "spot"] (zM zCj):=by ac_rfl
theorem tL:zT ["one", "other", "w", "x", "y"] ["one", "other"] (zM sN):=by ac_rfl
theorem zB8:zT ["sides", "place", "side"] ["sides", "place"] (zM sJ):=by ac_rfl
theorem zNy:zT ["side"] ["side"] (zM zEa):=by ac_rfl
theorem xQ:zT ["sides", "edge", "hand", "found", "place", "number", "side"] ["sides", "edge", "hand"] (zM sF):=by ac_rfl
theorem zBa:zT ["sides", "edge", "numbers"] ["sides", "edge"] (zM tF):=by ac_rfl
theorem rL:zT ["sides", "edge", "place"] ["sides", "edge"] (zM wY):=by ac_rfl
theorem rQ:zT ["sides", "place", "number"] ["sides"] (zM zAs):=by ac_rfl
theorem zFv:zT ["sides"] ["sides"] (zM vZ):=by ac_rfl
theorem zE6:zT ["sides", "direction", "side"] ["sides", "direction"] (zM zAp):=by ac_rfl
theorem zBu:zT ["sides", "found", "side", "direction"] ["sides"] (zM zDr):=by ac_rfl
theorem zPl:zT ["direction"] ["direction"] (zM zD2):=by ac_rfl
theorem zC9:zT ["numbers", "weights", "least"] ["numbers", "weights"] (zM rO):=by ac_rfl
theorem yR:zT ["sides", "last", "edge", "numbers", "one", "other", "weights"] ["sides", "last"] (zM wC):=by ac_rfl
theorem rH:zT ["sides", "last", "edge", "number", "side"] ["sides"] (zM zCo):=by ac_rfl
theorem qT:zT ["sides", "direction", "way"] ["sides", "direction"] (zM vN):=by ac_rfl
theorem uI:zT ["sides", "direction", "number", "side", "place"] ["sides", "direction"] (zM vI):=by ac_rfl
theorem xE:zT ["sides", "numbers", "direction", "one", "other", "whole", "shares"] ["sides", "numbers", "direction"] (zM wB):=by ac_rfl
theorem wG:zT ["sides", "direction", "number", "one", "end", "place"] ["sides", "direction"] (zM vJ):=by ac_rfl
theorem zCp:zT ["sides", "direction", "shown", "way"] ["sides", "direction"] (zM zCn):=by ac_rfl
theorem zDh:zT ["start", "end"] ["start", "end"] (zM uM):=by ac_rfl
theorem rC:zT ["start", "end", "way"] ["start", "end"] (zM wX):=by ac_rfl
theorem qN:zT ["corners", "following"] ["corners"] (zM vH):=by ac_rfl
theorem xS:zT ["sides", "shown", "shares", "east", "north"] ["sides", "shown"] (zM wE):=by ac_rfl
theorem vQ:zT ["edge", "place", "way", "left", "steps"] ["edge", "place", "way"] (zM uN):=by ac_rfl
theorem uZ:zT ["sides", "edge", "told"] ["sides", "edge"] (zM xL):=by ac_rfl
theorem xN:zT ["sides", "corners", "shown", "edges", "apart", "weights", "edge", "told"] ["sides", "corners"] (zM vY):=by ac_rfl
theorem uA:zT ["sides", "weights", "least", "pair"] ["sides", "weights"] (zM uJ):=by ac_rfl
theorem rR:zT ["sides", "weights", "at", "total", "pair"] ["sides", "weights", "at"] (zM zAy):=by ac_rfl
theorem zMw:zT ["sides", "weights", "direction"] ["sides", "weights", "direction"] (zM zB0):=by ac_rfl
theorem zMu:zT ["sides", "weights", "direction"] ["sides", "weights", "direction"] (zM zB6):=by ac_rfl
theorem zAk:zT ["sides", "paper", "weights"] ["sides", "paper"] (zM vO):=by ac_rfl
theorem zEg:zT ["sides", "place"] ["sides", "place"] (zM vM):=by ac_rfl
theorem qC:zT ["sides", "corners", "direction", "weights", "most"] ["sides", "corners", "direction", "weights"] (zM uO):=by ac_rfl
theorem rF:zT ["sides", "weights", "edge", "most"] ["sides", "weights", "edge"] (zM uB):=by ac_rfl
theorem zA7:zT ["sides", "corners", "papers", "edges"] ["sides", "corners", "papers"] (zM tK):=by ac_rfl
theorem zCl:zT ["sides", "corners", "on_bank", "off_bank", "edges"] ["sides", "corners", "on_bank", "off_bank"] (zM sQ):=by ac_rfl
theorem zF2:zT ["sides", "corners", "paper"] ["sides", "corners", "paper"] (zM tJ):=by ac_rfl
theorem yG:zT ["_law_d", "_law_weights", "_law_rows", "_law_at", "_law_way_here", "_law_number", "_law_top", "_law_bottom"] ["_law_d", "_law_weights"] (zM wZ):=by ac_rfl
theorem xX:zT ["_law_d", "_law_place", "_law_x", "_law_y", "_law_w", "_law_by", "_law_menu"] ["_law_d", "_law_place"] (zM tE):=by ac_rfl
theorem zMl:zT ["_law_number"] ["_law_number"] (zM zCg):=by ac_rfl
theorem wL:zT ["_law_script", "_law_many_here", "_law_rows", "_law_mix", "_law_cell", "_law_rest"] ["_law_script", "_law_many_here"] (zM zBq):=by ac_rfl
theorem zO2:zT ["_law_one", "_law_two", "_law_few", "_law_most"] ["_law_one", "_law_two", "_law_few", "_law_most"] (zM zDp):=by ac_rfl
theorem zLv:zT ["_law_some", "_law_sides_here"] ["_law_some", "_law_sides_here"] (zM zB5):=by ac_rfl
theorem zD5:zT ["_law_one", "_law_two", "_law_wide", "_law_x", "_law_y"] ["_law_one", "_law_two", "_law_wide"] (zM zG6):=by ac_rfl
theorem rJ:zT ["_law_d", "_law_a", "_law_b", "_law_c"] ["_law_d"] (zM zD1):=by ac_rfl
theorem tR:zT ["_law_some", "_law_many_here", "_law_rows", "_law_x", "_law_y"] ["_law_some", "_law_many_here"] (zM zBs):=by ac_rfl
theorem zKg:zT ["_law_one", "_law_other"] ["_law_one", "_law_other"] (zM zAt):=by ac_rfl
theorem xY:zT ["_law_d", "_law_wide", "_law_one", "_law_other"] ["_law_d", "_law_wide"] (zM tM):=by ac_rfl
theorem yU:zT ["_law_d", "_law_wide", "_law_one", "_law_other", "_law_x", "_law_y", "_law_p", "_law_q", "_law_leads", "_law_turned_here", "_law_here", "_law_row", "_law_found", "_law_dx", "_law_dy", "_law_at"] ["_law_d", "_law_wide"] (zM zDx):=by ac_rfl
theorem zD7:zT ["_law_one", "_law_other"] ["_law_one", "_law_other"] (zM zGw):=by ac_rfl
theorem xA:zT ["_law_places", "_law_found", "_law_at", "_law_x", "_law_y", "_law_p", "_law_q", "_law_by"] ["_law_places"] (zM tG):=by ac_rfl
theorem xD:zT ["_law_some", "_law_many_here", "_law_sides_here", "_law_places", "_law_x", "_law_y", "_law_a", "_law_b"] ["_law_some"] (zM zAm):=by ac_rfl
theorem zO8:zT ["_law_told", "_law_due"] ["_law_told", "_law_due"] (zM zBv):=by ac_rfl
theorem zJ8:zT ["_law_paper"] ["_law_paper"] (zM zAz):=by ac_rfl
theorem zL2:zT ["_law_found"] ["_law_found"] (zM zCb):=by ac_rfl
theorem zI4:zT ["_law_found", "_law_many_here"] ["_law_found", "_law_many_here"] (zM rV):=by ac_rfl
theorem yY:zT ["_law_sides_here", "_law_paper", "_law_last", "_law_total", "_law_pair", "_law_a", "_law_b", "_law_c"] ["_law_sides_here", "_law_paper"] (zM sI):=by ac_rfl
theorem zJ5:zT ["_law_one", "_law_weight", "_law_number"] ["_law_one", "_law_weight", "_law_number"] (zM zAu):=by ac_rfl
theorem tP:zT ["_law_sides_here", "_law_direction", "_law_weights", "_law_last", "_law_total", "_law_pair"] ["_law_sides_here", "_law_direction", "_law_weights"] (zM zB9):=by ac_rfl
theorem zDv:zT ["_law_sides_here", "_law_place", "_law_x", "_law_y", "_law_w"] ["_law_sides_here", "_law_place"] (zM zHd):=by ac_rfl
theorem yK:zT ["_law_sides_here", "_law_places", "_law_paper", "_law_rows", "_law_x", "_law_y", "_law_top", "_law_a", "_law_b", "_law_c", "_law_weights", "_law_one", "_law_other"] ["_law_sides_here", "_law_places", "_law_paper"] (zM vV):=by ac_rfl
theorem uL:zT ["_law_d", "_law_paper", "_law_rows", "_law_x", "_law_y", "_law_at", "_law_more", "_law_one", "_law_other", "_law_menu"] ["_law_d", "_law_paper"] (zM zD9):=by ac_rfl
theorem zAi:zT ["_law_script", "_law_some", "_law_sides_here", "_law_places", "_law_paper", "_law_k", "_law_handed", "_law_found"] ["_law_script"] (zM zJ7):=by ac_rfl
set_option hygiene false in
local macro_rules | `(tactic| fail) => `(tactic| first | with_reducible exact uG | with_reducible exact yH | ((with_reducible apply zVt); exact rfl; fail; fail) | with_reducible exact zGe | with_reducible exact vR | with_reducible exact uW | ((with_reducible apply zVs); first | ((with_reducible apply zU2 "bool"); exact zFb (v := .ty "bool") rfl Z.bool zPi rfl) | ((with_reducible apply zU2 "int"); exact zFb (v := .ty "int") rfl Z.int zSb rfl) | ((with_reducible apply zU2 "list"); exact zFb (v := .ty "list") rfl Z.list zKi rfl) | ((with_reducible apply zU2 "str"); exact zFb (v := .ty "str") rfl Z.str zSi rfl) | ((with_reducible apply zU2 "tuple"); exact zFb (v := .ty "tuple") rfl Z.tuple zG2 rfl) | exact pv 0 | exact pv 1 | exact pv 2 | exact pv 3 | exact pv 4 | exact pv 5 | exact pv 6 | exact pv 7 | exact pv 8 | exact pv 9 | exact pv 10 | exact pv 11 | exact pv 12 | exact pv 13 | exact pv 14 | exact pv 15) | ((with_reducible apply m_sub); first | ((with_reducible apply zG5 zOr); fail; fail; fail) | ((with_reducible apply m_ix); exact λ_ _ => rfl; fail; fail)) | ((with_reducible apply m_bin); first | ((with_reducible apply xH zIg); fail; fail) | ((with_reducible apply xH zWe); fail; fail) | ((with_reducible apply xH zSh); fail; fail) | ((with_reducible apply xH zRf); fail; fail) | ((with_reducible apply xH zVr); fail; fail) | ((with_reducible apply xH zVf); fail; fail)) | ((with_reducible apply zWm); first | ((with_reducible apply m_own); (with_reducible assumption); exact ⟨rfl, rfl, rfl, rfl, rfl⟩; exact hr.mono (by decide); exact rfl; decide; exact rfl; exact rfl; fail) | ((with_reducible apply zJc zQw zWh); exact Z.abs; exact rfl; decide; decide; exact rfl; exact rfl; fail) | ((with_reducible apply zJc (tT rfl) zEo); exact Z.all; exact rfl; decide; decide; exact rfl; exact rfl; fail) | ((with_reducible apply zJc zKm zHq); exact Z.isinstance; exact rfl; decide; decide; exact rfl; exact rfl; fail) | ((with_reducible apply zJc zIw zWa); exact Z.len; exact rfl; decide; decide; exact rfl; exact rfl; fail) | ((with_reducible apply zJc (zPy rfl) zVa); exact Z.max; exact rfl; decide; decide; exact rfl; exact rfl; fail) | ((with_reducible apply zJc (zOy rfl) zSp); exact Z.min; exact rfl; decide; decide; exact rfl; exact rfl; fail) | ((with_reducible apply zJc zC6 zBw); exact Z.sorted; exact rfl; decide; decide; exact rfl; exact rfl; fail) | ((with_reducible apply zJc (zFj rfl) zPd); exact Z.sum; exact rfl; decide; decide; exact rfl; exact rfl; fail) | ((with_reducible apply zV9 call_bool1 zPi); exact Z.bool; exact rfl; decide; decide; exact rfl; exact rfl; fail) | ((with_reducible apply zV9 call_int1 zSb); exact Z.int; exact rfl; decide; decide; exact rfl; exact rfl; fail) | ((with_reducible apply zV9 zI3 zKi); exact Z.list; exact rfl; decide; decide; exact rfl; exact rfl; fail) | ((with_reducible apply zV9 call_str_any zSi); exact Z.str; exact rfl; decide; decide; exact rfl; exact rfl; fail) | ((with_reducible apply zV9 zB4 zG2); exact Z.tuple; exact rfl; decide; decide; exact rfl; exact rfl; fail)) | ((with_reducible apply zC5); fail) | ((with_reducible apply zUz); fail) | ((with_reducible apply pe_un zVu); fail) | ((with_reducible apply zSv); fail) | ((with_reducible apply m_cmp); first | ((with_reducible apply vE zVm); fail; fail; exact xI _) | ((with_reducible apply vE zQ6); fail; fail; exact xI _) | ((with_reducible apply vE zJe); fail; fail; exact xI _) | ((with_reducible apply vE zRc); fail; fail; exact xI _) | ((with_reducible apply vE zS0); fail; fail; exact xI _) | ((with_reducible apply vE zV3); fail; fail; exact xI _) | ((with_reducible apply vE zO5); fail; fail; exact xI _) | ((with_reducible apply vE zJr); fail; fail; exact xI _)) | ((with_reducible apply zV4); first | ((with_reducible apply wA zVm); fail; fail; exact xI _) | ((with_reducible apply wA zQ6); fail; fail; exact xI _) | ((with_reducible apply wA zJe); fail; fail; exact xI _) | ((with_reducible apply wA zRc); fail; fail; exact xI _) | ((with_reducible apply wA zS0); fail; fail; exact xI _) | ((with_reducible apply wA zV3); fail; fail; exact xI _) | ((with_reducible apply wA zO5); fail; fail; exact xI _) | ((with_reducible apply wA zJr); fail; fail; exact xI _)) | ((with_reducible apply zTy); fail) | ((with_reducible apply zP8); fail) | ((with_reducible apply zDa); fail) | ((with_reducible apply zSs); fail; fail) | ((with_reducible apply zDl); fail; fail) | ((with_reducible apply zKz); fail) | ((with_reducible apply zGb); fail) | ((with_reducible apply zGr); fail; fail) | ((with_reducible apply pe_or); fail; fail) | ((with_reducible apply zQ2); fail; fail; fail) | with_reducible exact zEt | ((with_reducible apply zHg); fail) | ((with_reducible apply m_val); exact λ_ => rfl; fail))
set_option hygiene false in
local macro_rules | `(tactic| specialize $e) => `(tactic| refine F.ok $e (λvs H Q E h => ?_) (λcdv A outer s H vs Q E hr h => ?_))
local macro_rules | `(tactic| nofun) => `(tactic| ((any_goals fail); try dsimp only [L2.cxOf]))
section
variable{P:Program}{w:World}{mg:Str->Option Value}{base:Heap}{f:Addr}{fd:FuncData}
def sK(K:PySem.W.Frag):Sp:=λvs H Q _=>∃(a:Addr)(ns:List Int),vs=[.ref a]/\Sq K H a (ns.map V.int)/\Q (.int (yD ns)) H
theorem zBo(F:Fun K "common_factor" "common_factor" wR f fd)(Z:Zs mg):xK P w K mg base CX0 1 f fd ["numbers"] (sK K):=by
 specialize yN
 ·obtain⟨a,ns,rfl,_⟩:=h;rfl
 obtain⟨a,ns,rfl,hS,q⟩:=h
 refine'⟨_,(zG (zX 1 yN.nd uG)
   (zG (wU PassesOwn.never rfl (xC (pv 0)) (yS 2 yN.nd) (zG (zX 3 yN.nd ?_)
   (zH (zDq PassesOwn.never ?_ (zG (zX 4 yN.nd ?_)
   (zG (zX 1 yN.nd (pv 3))
   (zH (zX 3 yN.nd (pv 4)))))))))
   (zH (zO (pv 1))))),?_⟩
 nofun
 have mono:∀(σ:St)(H:Hp)(Q Q':Bool->Hp->Prop),(∀ b H1,Q b H1->Q' b H1)->zN6 (tOp rNe (zQf 3) (tC (.int 0))) σ H Q->zN6 (tOp rNe (zQf 3) (tC (.int 0))) σ H Q':=λσ H Q Q' hq z=>by
  obtain⟨v,hv,hs,k,hk,z⟩:=z;exact⟨v,hv,hs,k,hk,hq _ _ z⟩
 rcases hS with hS | hS
 ·refine⟨_,rfl,a,rfl,.inl ⟨⟨_,hS⟩,wD (K:=K) (a:=a) (xs:=ns.map V.int) (λi σ H'=>H'=H/\∃(u v z:Option V),σ=[some (.ref a),some (.int (yD (ns.take i))),u,v,z]) ⟨rfl,none,none,none,rfl⟩ (λi σ H' _ ⟨e,_⟩=>by rw[e]; exact hS) ?_ ?_⟩⟩
  ·rintro i x σ H' hi ⟨rfl,u,v,z,rfl⟩;obtain⟨n,hn,rfl⟩:=xW hi;exists _,rfl,n,rfl;refine zBr (λσ H1=>H1=H'/\∃(g r:Int)(y:Option V),σ=[some (.ref a),some (.int g),some (.int n),some (.int r),y]/\0<=g/\0<=r/\Nat.gcd g.toNat r.toNat=yD (ns.take (i+1)))
    (λσ _=>match σ with | [_,_,_,some (.int r),_]=>r.toNat | _=>0) ⟨rfl,_,_,_,rfl,Int.natCast_nonneg _,by split <;> lia,?_⟩ ?_ mono
   ·rw[yP hn,zIx,zKv]; rfl
   ·rintro σ H1 ⟨rfl,g,r,y,rfl,h1,h2,h3⟩;exists _,rfl,rfl,_,rfl;refine zSz (λhr0=>?_) (λhr0=>?_)
    ·refine⟨_,rfl,_,rfl,_,_,rfl,rfl,(by show(0:Int)<r; lia),_,rfl,_,rfl,⟨rfl,_,_,_,rfl,h2,Int.emod_nonneg g hr0,?_⟩,?_⟩
     ·rw[zHe h1 (by lia)]; exact h3
     ·have h4:=Int.emod_lt_of_pos g (show 0<r by lia);show(g%r).toNat<r.toNat;lia
    ·subst hr0;have h5:g=((yD (ns.take (i+1)):Nat):Int):=by
      rw[<- h3];show g=((Nat.gcd g.toNat 0:Nat):Int);rw[Nat.gcd_zero_right];lia
     exact⟨rfl,some (.int n),some (.int 0),y,by rw[h5]⟩
  ·rintro σ H' ⟨rfl,u,v,z,rfl⟩;exists _,rfl;rw[List.length_map,List.take_length];exact q
 ·refine⟨_,rfl,a,rfl,.inr ⟨⟨_,hS⟩,zS7 (K:=K) (a:=a) (xs:=ns.map V.int) (λi σ H'=>H'=H/\∃(u v z:Option V),σ=[some (.ref a),some (.int (yD (ns.take i))),u,v,z]) ⟨rfl,none,none,none,rfl⟩ (λi σ H' _ ⟨e,_⟩=>by rw[e]; exact hS) ?_ ?_⟩⟩
  ·rintro i x σ H' hi ⟨rfl,u,v,z,rfl⟩;obtain⟨n,hn,rfl⟩:=xW hi;exists _,rfl,n,rfl;refine zBr (λσ H1=>H1=H'/\∃(g r:Int)(y:Option V),σ=[some (.ref a),some (.int g),some (.int n),some (.int r),y]/\0<=g/\0<=r/\Nat.gcd g.toNat r.toNat=yD (ns.take (i+1)))
    (λσ _=>match σ with | [_,_,_,some (.int r),_]=>r.toNat | _=>0) ⟨rfl,_,_,_,rfl,Int.natCast_nonneg _,by split <;> lia,?_⟩ ?_ mono
   ·rw[yP hn,zIx,zKv]; rfl
   ·rintro σ H1 ⟨rfl,g,r,y,rfl,h1,h2,h3⟩;exists _,rfl,rfl,_,rfl;refine zSz (λhr0=>?_) (λhr0=>?_)
    ·refine⟨_,rfl,_,rfl,_,_,rfl,rfl,(by show(0:Int)<r; lia),_,rfl,_,rfl,⟨rfl,_,_,_,rfl,h2,Int.emod_nonneg g hr0,?_⟩,?_⟩
     ·rw[zHe h1 (by lia)]; exact h3
     ·have h4:=Int.emod_lt_of_pos g (show 0<r by lia);show(g%r).toNat<r.toNat;lia
    ·subst hr0;have h5:g=((yD (ns.take (i+1)):Nat):Int):=by
      rw[<- h3];show g=((Nat.gcd g.toNat 0:Nat):Int);rw[Nat.gcd_zero_right];lia
     exact⟨rfl,some (.int n),some (.int 0),y,by rw[h5]⟩
  ·rintro σ H' ⟨rfl,u,v,z,rfl⟩;exists _,rfl;rw[List.length_map,List.take_length];exact q
def wJ(K:PySem.W.Frag):Sp:=λvs H Q _=>∃(a:Addr)(ns:List Int),vs=[.ref a]/\Sq K H a (ns.map V.int)/\ns.length<=1000/\0<yD ns/\(yD ns:Int)<10^600 /\
 ∀(p:Addr)(H':Hp),zZ H H'->H p=none->H' p=some (.tup ((vK ns).map V.int))->Q (.ref p) H'
theorem zJn(F:Fun K "lowest" "lowest" zAl f fd)(Z:Zs mg)(yAe:Has P w K mg base "common_factor" 1 ["numbers"] (sK K)):xK P w K mg base CX0 2 f fd ["numbers"] (wJ K):=by
 specialize zEe
 ·obtain⟨a,ns,rfl,_⟩:=h;rfl
 obtain⟨a,ns,rfl,hS,hl,hg,hg2,q⟩:=h
 refine'⟨_,(zG (zX 1 zEe.nd ?_)
   (zH (zO (zFh zB4 rfl Z.tuple zG2 (zU (xJ (T:=["number"]) (caps:=[("shared", 1)]) ⟨rfl,by decide +kernel,by decide +kernel,rfl,⟨⟨rfl,rfl,Or.inl rfl⟩,True.intro⟩⟩ rfl (xC (pv 0)) (λ_=>(yS 0 (show(["number", "shared"]:List Str).Nodup by decide +kernel))) (λ_=>yF) (λ_=>?_)) yH))))),?_⟩
 nofun
 exists _,rfl,a,ns,rfl,hS;have fin:∀(D:Addr)(H':Hp),H D=none->zZ H H'->H' D=some (.lst ((vK ns).map V.int))->∀ l,H' l=none->Q (.ref l) (upd H' l (.tup ((vK ns).map V.int))):=λD H' hD hs e l hl =>
  q l _ (hs.trans (zF hl _)) (hs.free hl) zD
 have len:∀ i,((ns.take i).map λn=>V.int (n/(yD ns:Int))).length<sizeLine:=λi=>zV (by rw[List.length_map,List.length_take]; lia);rcases hS with hS | hS
 ·refine⟨_,rfl,a,rfl,.inl ⟨⟨_,hS⟩,λc D hD=>yM (K:=K) (a:=a) (xs:=ns.map V.int) (λi σ ys H'=>H'=upd H D (.lst ys)/\ys=(ns.take i).map (λn=>V.int (n/(yD ns:Int)))/\∃ u,σ=[u,some (.int (yD ns))])
   ⟨rfl,rfl,none,rfl⟩ (λi σ ys H' _ ⟨e,_⟩=>by rw[e]; exact⟨(zF hD _).seq hS,zD⟩) ?_ ?_⟩⟩
  ·rintro i x σ ys H' hi ⟨rfl,rfl,u,rfl⟩;obtain⟨n,hn,rfl⟩:=xW hi;exists _,rfl,_,rfl,_,_,rfl,rfl,sC.of (by lia) hg2,zD,len i;refine⟨zBe,?_,_,rfl⟩;rw[yP hn,List.map_append];rfl
  ·rintro σ ys H' ⟨rfl,rfl,u,rfl⟩;rw[List.length_map,List.take_length];have e:(ns.map λn=>V.int (n/(yD ns:Int)))=(vK ns).map V.int:=by unfold vK; rw[List.map_map]; rfl
   rw[e];exact⟨D,_,rfl,.inl ⟨SqL.of zD,fin D _ hD (zF hD _) zD⟩⟩
 ·refine⟨_,rfl,a,rfl,.inr ⟨⟨_,hS⟩,λc D hD=>zCi (K:=K) (a:=a) (xs:=ns.map V.int) (λi σ ys H'=>H'=upd H D (.lst ys)/\ys=(ns.take i).map (λn=>V.int (n/(yD ns:Int)))/\∃ u,σ=[u,some (.int (yD ns))])
   ⟨rfl,rfl,none,rfl⟩ (λi σ ys H' _ ⟨e,_⟩=>by rw[e]; exact⟨SqT.same hS (zF hD _),zD⟩) ?_ ?_⟩⟩
  ·rintro i x σ ys H' hi ⟨rfl,rfl,u,rfl⟩;obtain⟨n,hn,rfl⟩:=xW hi;exists _,rfl,_,rfl,_,_,rfl,rfl,sC.of (by lia) hg2,zD,len i;refine⟨zBe,?_,_,rfl⟩;rw[yP hn,List.map_append];rfl
  ·rintro σ ys H' ⟨rfl,rfl,u,rfl⟩;rw[List.length_map,List.take_length];have e:(ns.map λn=>V.int (n/(yD ns:Int)))=(vK ns).map V.int:=by unfold vK; rw[List.map_map]; rfl
   rw[e];exact⟨D,_,rfl,.inl ⟨SqL.of zD,fin D _ hD (zF hD _) zD⟩⟩
def sP(K:PySem.W.Frag):Sp:=λvs H Q _=>∃(a:Addr)(ns:List Int)(l:Int),vs=[.ref a]/\Sq K H a (ns.map V.int)/\ns.length<=1000/\atI (ns.map V.int) (-1)=some (.int l)/\l∈ns/\l≠0/\l.natAbs<10^500 /\
 ∀(p:Addr)(H':Hp),zZ H H'->H p=none->H' p=some (.tup ((vK (if l<0 then ns.map (λn=>-n) else ns)).map V.int))->Q (.ref p) H'
theorem zH2(F:Fun K "upright" "upright" rT f fd)(Z:Zs mg)(yBt:Has P w K mg base "lowest" 2 ["numbers"] (wJ K)):xK P w K mg base CX0 3 f fd ["numbers"] (sP K):=by
 specialize zH4
 ·obtain⟨a,ns,l,rfl,_⟩:=h;rfl
 obtain⟨a,ns,l,rfl,hS,hl,hat,hm,h0,hb,q⟩:=h
 refine'⟨_,(zG (yC ?_ (zH (zO (xG yBt (hr.mono (by decide)) rfl (zU (xJ (T:=["number"]) (caps:=[]) ⟨rfl,by decide +kernel,by decide +kernel,rfl,True.intro⟩ rfl (xC (pv 0)) (λ_=>(yS 0 (show(["number"]:List Str).Nodup by decide +kernel))) (λ_=>yF) (λ_=>?_)) yH)))) zS)
   (zH (zO ?_))),?_⟩
 nofun
 exists _,rfl,_,rfl,a,_,_,_,rfl,rfl,hS,hat,_,_,rfl,rfl,_,rfl;have gp:0<yD ns:=xO hm h0;have gb:(yD ns:Int)<10^600:=by
  have h1:=zBc hm h0;have h2:(10:Nat)^500<10^600:=by decide +kernel
  have h3:((10:Int)^600)=((10^600:Nat):Int):=by rw[Int.natCast_pow]; rfl
  rw[h3];lia
 refine ifD (λhneg=>?_) (λhneg=>?_)
 ·have len:∀ i,((ns.take i).map λn=>V.int (-n)).length<sizeLine:=λi=>zV (by rw[List.length_map,List.length_take]; lia);have fin:∀(D:Addr)(H':Hp),H D=none->zZ H H'->H' D=some (.lst ((ns.map λn=>-n).map V.int))->wJ K [.ref D] H' Q E0:=λD H' hD hs e=>by
   refine⟨D,ns.map λn=>-n,rfl,.inl (SqL.of e),by rw[List.length_map]; exact hl,by rw[zLl]; exact gp,by rw[zLl]; exact gb,λp H2 s2 hp e2=>?_⟩;exact q p H2 (hs.trans s2) (hs.free hp) (by rw[if_pos hneg]; exact e2)
  rcases hS with hS | hS
  ·refine⟨_,rfl,a,rfl,.inl ⟨⟨_,hS⟩,λc D hD=>yM (K:=K) (a:=a) (xs:=ns.map V.int) (λi σ ys H'=>H'=upd H D (.lst ys)/\ys=(ns.take i).map (λn=>V.int (-n))/\∃ u,σ=[u])
    ⟨rfl,rfl,none,rfl⟩ (λi σ ys H' _ ⟨e,_⟩=>by rw[e]; exact⟨(zF hD _).seq hS,zD⟩) ?_ ?_⟩⟩
   ·rintro i x σ ys H' hi ⟨rfl,rfl,u,rfl⟩;obtain⟨n,hn,rfl⟩:=xW hi;exists _,rfl,_,rfl,zD,len i;refine⟨zBe,?_,_,rfl⟩;rw[yP hn,List.map_append];rfl
   ·rintro σ ys H' ⟨rfl,rfl,u,rfl⟩;rw[List.length_map,List.take_length];have e:(ns.map λn=>V.int (-n))=(ns.map λn=>-n).map V.int:=by rw[List.map_map]; rfl
    rw[e];exact fin D _ hD (zF hD _) zD
  ·refine⟨_,rfl,a,rfl,.inr ⟨⟨_,hS⟩,λc D hD=>zCi (K:=K) (a:=a) (xs:=ns.map V.int) (λi σ ys H'=>H'=upd H D (.lst ys)/\ys=(ns.take i).map (λn=>V.int (-n))/\∃ u,σ=[u])
    ⟨rfl,rfl,none,rfl⟩ (λi σ ys H' _ ⟨e,_⟩=>by rw[e]; exact⟨SqT.same hS (zF hD _),zD⟩) ?_ ?_⟩⟩
   ·rintro i x σ ys H' hi ⟨rfl,rfl,u,rfl⟩;obtain⟨n,hn,rfl⟩:=xW hi;exists _,rfl,_,rfl,zD,len i;refine⟨zBe,?_,_,rfl⟩;rw[yP hn,List.map_append];rfl
   ·rintro σ ys H' ⟨rfl,rfl,u,rfl⟩;rw[List.length_map,List.take_length];have e:(ns.map λn=>V.int (-n))=(ns.map λn=>-n).map V.int:=by rw[List.map_map]; rfl
    rw[e];exact fin D _ hD (zF hD _) zD
 ·refine⟨_,rfl,a,ns,rfl,hS,hl,gp,gb,λp H2 s2 hp e2=>?_⟩;exact q p H2 s2 hp (by rw[if_neg hneg]; exact e2)
def wH(K:PySem.W.Frag):Sp:=λvs H Q _=>∃(t b:Int),vs=[.int t,.int b]/\b≠0/\b.natAbs<10^500 /\
 ∀(p:Addr)(x y:Int)(H':Hp),zZ H H'->H p=none->H' p=some (.tup [.int x,.int y])->wT t b x y->Q (.ref p) H'
theorem zOz(F:Fun K "part" "part" zDt f fd)(Z:Zs mg)(yBm:Has P w K mg base "upright" 3 ["numbers"] (sP K)):xK P w K mg base CX0 4 f fd ["top", "bottom"] (wH K):=by
 specialize zO1
 ·obtain⟨t,b,rfl,_⟩:=h;rfl
 obtain⟨t,b,rfl,hb,hb2,q⟩:=h
 refine'⟨_,(zH (zO ?_)),?_⟩
 nofun
 refine⟨_,rfl,_,rfl,sz2,λp hp=>⟨p,[t,b],b,rfl,.inr (SqT.of zD),by show 2<=1000; decide,rfl,by simp,hb,hb2,λr H2 s2 hr2 e2=>?_⟩⟩;obtain⟨x,y,exy,hxy⟩:=zMq t hb;rw[exy] at e2;exact q r x y H2 ((zF hp _).trans s2) ((zF hp _).free hr2) e2 hxy
def zV8(K:PySem.W.Frag)(R:Int->Int->Int->Int->Hp->VK->Prop):Sp:=λvs H Q _=>∃(a b:Addr)(x1 y1 x2 y2:Int),vs=[.ref a,.ref b]/\SqT K H a [.int x1,.int y1]/\SqT K H b [.int x2,.int y2] /\
 1<=y1/\1<=y2/\((y1=1/\y2=1)\/(x1.natAbs<=10^200/\y1.natAbs<=10^200/\x2.natAbs<=10^200/\y2.natAbs<=10^200))/\R x1 y1 x2 y2 H Q
def zJf(K:PySem.W.Frag):Sp:=zV8 K λx1 y1 x2 y2 H Q=>∀(p:Addr)(x y:Int)(H':Hp),zZ H H'->H p=none->H' p=some (.tup [.int x,.int y])->wT (x1*y2+x2*y1) (y1*y2) x y->Q (.ref p) H'
theorem zTl{x y:Int}(h:y=1\/(x.natAbs<=10^200/\y.natAbs<=10^200)):zN0 x y:=by
 rcases h with rfl | ⟨h1,h2⟩
 ·exact .inl (.inr ⟨by decide,by decide⟩)
 ·exact .inr ⟨Nat.lt_of_le_of_lt h1 (by decide +kernel),Nat.lt_of_le_of_lt h2 (by decide +kernel)⟩
theorem zOf(F:Fun K "plus" "plus" zD3 f fd)(Z:Zs mg)(yCt:Has P w K mg base "part" 4 ["top", "bottom"] (wH K)):xK P w K mg base CX0 5 f fd ["one", "other"] (zJf K):=by
 specialize zOq
 ·obtain⟨a,b,x1,y1,x2,y2,rfl,_⟩:=h;rfl
 obtain⟨a,b,x1,y1,x2,y2,rfl,ha,hb,p1,p2,sz,q⟩:=h
 refine'⟨_,(zH (zO (xG yCt (hr.mono (by decide)) rfl (zU (xH zIg (xH zJ4 ?_ ?_) (xH zJ4 ?_ ?_)) (zU (xH zJ4 ?_ ?_) yH))))),?_⟩
 nofun
 have c1:zN0 x1 y2:=zTl (sz.imp (λz=>z.2) λz=>⟨z.1,z.2.2.2⟩);have c2:zN0 x2 y1:=zTl (sz.imp (λz=>z.1) λz=>⟨z.2.2.1,z.2.1⟩);have c3:zN0 y1 y2:=zTl (sz.imp (λz=>z.2) λz=>⟨z.2.1,z.2.2.2⟩);have nb:(y1*y2).natAbs<10^500:=by
  rcases sz with ⟨rfl,rfl⟩ | ⟨_,z1,_,z2⟩
  ·decide +kernel
  ·exact Nat.lt_of_le_of_lt (zI _ _ z1 z2) (by decide +kernel)
 refine⟨_,rfl,a,_,_,.int x1,rfl,rfl,.inr ha,rfl,_,rfl,b,_,_,.int y2,rfl,rfl,.inr hb,rfl,_,_,rfl,rfl,c1,
  _,rfl,b,_,_,.int x2,rfl,rfl,.inr hb,rfl,_,rfl,a,_,_,.int y1,rfl,rfl,.inr ha,rfl,_,_,rfl,rfl,c2,_,_,rfl,rfl,
  _,rfl,a,_,_,.int y1,rfl,rfl,.inr ha,rfl,_,rfl,b,_,_,.int y2,rfl,rfl,.inr hb,rfl,_,_,rfl,rfl,c3,
  _,_,rfl,Int.mul_ne_zero (by lia) (by lia),nb,λp x y H' sH hp ep po=>?_⟩
 exact q p x y H' sH hp ep po
def zGc(K:PySem.W.Frag):Sp:=λvs H Q _=>∃(a b:Addr)(x1 y1 x2:Int),vs=[.ref a,.ref b]/\SqT K H a [.int x1,.int y1]/\SqT K H b [.int x2,.int 1]/\1<=y1/\y1.natAbs<=10^200/\x2.natAbs<=10^13 /\
 ∀(p:Addr)(x y:Int)(H':Hp),zZ H H'->H p=none->H' p=some (.tup [.int x,.int y])->wT (x1*x2) (y1*1) x y->Q (.ref p) H'
theorem zMs(F:Fun K "times" "times" zCk f fd)(Z:Zs mg)(yCt:Has P w K mg base "part" 4 ["top", "bottom"] (wH K)):xK P w K mg base CX0 5 f fd ["one", "other"] (zGc K):=by
 specialize zMb
 ·obtain⟨a,b,x1,y1,x2,rfl,_⟩:=h;rfl
 obtain⟨a,b,x1,y1,x2,rfl,ha,hb,p1,m1,m2,q⟩:=h
 refine'⟨_,(zH (zO ?_)),?_⟩
 nofun
 refine⟨_,rfl,a,_,_,.int x1,rfl,rfl,.inr ha,rfl,_,rfl,b,_,_,.int x2,rfl,rfl,.inr hb,rfl,_,_,rfl,rfl,zQe (Nat.le_trans m2 (by decide)),
  _,rfl,a,_,_,.int y1,rfl,rfl,.inr ha,rfl,_,rfl,b,_,_,.int 1,rfl,rfl,.inr hb,rfl,_,_,rfl,rfl,.inr ⟨by decide,by decide⟩,
  _,_,rfl,by lia,by rw[Int.mul_one]; exact Nat.lt_of_le_of_lt m1 (by decide +kernel),λp x y H' sH hp ep po=>?_⟩
 exact q p x y H' sH hp ep po
def spOne(K:PySem.W.Frag)(R:Int->Int->Hp->VK->Prop):Sp:=λvs H Q _=>∃(a b:Addr)(x1 x2:Int),vs=[.ref a,.ref b]/\SqT K H a [.int x1,.int 1]/\SqT K H b [.int x2,.int 1]/\R x1 x2 H Q
theorem zWj{x:Int} : zJg x 1:=.inr ⟨by decide,by decide⟩
def zAv(K:PySem.W.Frag):Sp:=spOne K λx1 x2 H Q=>Q (.bl (decide (x1<x2))) H
def qR(K:PySem.W.Frag):Sp:=λvs H Q _=>∃(a b:Addr)(x1 y1 x2 y2:Int),vs=[.ref a,.ref b]/\SqT K H a [.int x1,.int y1]/\SqT K H b [.int x2,.int y2]/\x1.natAbs<=10^100/\y1.natAbs<=10^100/\x2.natAbs<=10^100/\y2.natAbs<=10^100/\Q (.bl (decide (x1*y2<x2*y1))) H
theorem zMm(F:Fun K "below" "below" zAd f fd)(Z:Zs mg)  : xK P w K mg base CX0 1 f fd ["one", "other"] (zAv K):=by
 specialize zF9
 ·obtain⟨a,b,x1,x2,rfl,_⟩:=h;rfl
 obtain⟨a,b,x1,x2,rfl,ha,hb,q⟩:=h
 refine'⟨_,(zH (zO ?_)),?_⟩
 nofun
 refine⟨_,rfl,a,_,_,.int x1,rfl,rfl,.inr ha,rfl,_,rfl,b,_,_,.int 1,rfl,rfl,.inr hb,rfl,_,_,rfl,rfl,zWj,
  _,rfl,b,_,_,.int x2,rfl,rfl,.inr hb,rfl,_,rfl,a,_,_,.int 1,rfl,rfl,.inr ha,rfl,_,_,rfl,rfl,zWj,_,_,rfl,rfl,?_⟩
 rw[Int.mul_one,Int.mul_one];exact q
theorem zIc(F:Fun K "below" "below" zAd f fd)(Z:Zs mg)  : xK P w K mg base CX0 1 f fd ["one", "other"] (qR K):=by
 specialize zF9
 ·obtain⟨a,b,x1,y1,x2,y2,rfl,_⟩:=h;rfl
 obtain⟨a,b,x1,y1,x2,y2,rfl,ha,hb,m1,m2,m3,m4,q⟩:=h;exists _,(zH (zO (vE zJe (xH vT (zGu zBz (pv 0) uG (λ_ _=>rfl)) (zGu zBz (pv 1) uG (λ_ _=>rfl))) (xH vT (zGu zBz (pv 1) uG (λ_ _=>rfl)) (zGu zBz (pv 0) uG (λ_ _=>rfl))) (xI _))))
 try dsimp only[L2.cxOf]
 exact⟨_,rfl,a,_,_,.int x1,rfl,rfl,.inr ha,rfl,_,rfl,b,_,_,.int y2,rfl,rfl,.inr hb,rfl,_,_,rfl,rfl,zG0.of m1 m4,
  _,rfl,b,_,_,.int x2,rfl,rfl,.inr hb,rfl,_,rfl,a,_,_,.int y1,rfl,rfl,.inr ha,rfl,_,_,rfl,rfl,zG0.of m3 m2,_,_,rfl,rfl,q⟩
def zCf(K:PySem.W.Frag):Sp:=λvs H Q _=>∃(X Y W:Int),vs=[.int X,.int Y,.int W]/\W≠0/\W.natAbs<10^500/\∀(p:Addr)(H':Hp),zZ H H'->H p=none->H' p=some (.tup ((vK (upL X Y W)).map V.int))->Q (.ref p) H'
theorem zNa(F:Fun K "spot" "spot" zDo f fd)(Z:Zs mg)(yBm:Has P w K mg base "upright" 3 ["numbers"] (sP K)):xK P w K mg base CX0 4 f fd ["x", "y", "w"] (zCf K):=by
 specialize zNg
 ·obtain⟨X,Y,W,rfl,_⟩:=h;rfl
 obtain⟨X,Y,W,rfl,hw,hw2,q⟩:=h
 refine'⟨_,(zH (zO ?_)),?_⟩
 nofun
 refine⟨_,rfl,_,rfl,_,rfl,sz3,λp hp=>⟨p,[X,Y,W],W,rfl,.inr (SqT.of zD),by show 3<=1000; decide,rfl,by simp,hw,hw2,λr H2 s2 hr2 e2=>?_⟩⟩;exact q r H2 ((zF hp _).trans s2) ((zF hp _).free hr2) e2
def zVn(K:PySem.W.Frag):Sp:=λvs H Q _=>∃(a b:Addr)(us ws:List V)(x1 y1 x2 y2:Int),vs=[.ref a,.ref b]/\Sq K H a us/\Sq K H b ws/\atI us 0=some (.int x1)/\atI us 1=some (.int y1)/\atI ws 0=some (.int x2)/\atI ws 1=some (.int y2) /\
 x1.natAbs<=10^18/\y1.natAbs<=10^18/\Q (.int (x1*y2-y1*x2)) H
def uK(K:PySem.W.Frag):Sp:=zVn K
theorem zNe(F:Fun K "turn" "turn" zDw f fd)(Z:Zs mg)  : xK P w K mg base CX0 1 f fd ["one", "other"] (uK K):=by
 specialize zNr
 ·obtain⟨a,b,us,ws,x1,y1,x2,y2,rfl,_⟩:=h;rfl
 obtain⟨a,b,us,ws,x1,y1,x2,y2,rfl,ha,hb,u0,u1,w0,w1,m1,m2,q⟩:=h
 refine'⟨_,(zH (zO ?_)),?_⟩
 nofun
 exact⟨_,rfl,a,_,_,.int x1,rfl,rfl,ha,u0,_,rfl,b,_,_,.int y2,rfl,rfl,hb,w1,_,_,rfl,rfl,zA9 (by lia),
  _,rfl,a,_,_,.int y1,rfl,rfl,ha,u1,_,rfl,b,_,_,.int x2,rfl,rfl,hb,w0,_,_,rfl,rfl,zA9 (by lia),_,_,rfl,rfl,q⟩
def vD(K:PySem.W.Frag):Sp:=λvs H Q _=>∃(a b:Addr)(us ws:List V)(x1 y1 x2 y2:Int),vs=[.ref a,.ref b]/\Sq K H a us/\Sq K H b ws/\atI us 0=some (.int x1)/\atI us 1=some (.int y1)/\atI ws 0=some (.int x2)/\atI ws 1=some (.int y2) /\
 x1.natAbs<=10^18/\y1.natAbs<=10^18/\Q (.int (x1*x2+y1*y2)) H
def zDc(K:PySem.W.Frag):Sp:=λvs H Q _=>∃(a b:Addr)(x1 y1 x2 y2:Int),vs=[.ref a,.ref b]/\SqT K H a [.int x1,.int y1]/\SqT K H b [.int x2,.int y2]/\x2.natAbs<=10^18/\y2.natAbs<=10^18/\Q (.int (x1*x2+y1*y2)) H
theorem zLx(F:Fun K "along" "along" qZ f fd)(Z:Zs mg)  : xK P w K mg base CX0 1 f fd ["one", "other"] (vD K):=by
 specialize zF8
 ·obtain⟨a,b,us,ws,x1,y1,x2,y2,rfl,_⟩:=h;rfl
 obtain⟨a,b,us,ws,x1,y1,x2,y2,rfl,ha,hb,u0,u1,w0,w1,m1,m2,q⟩:=h
 refine'⟨_,(zH (zO ?_)),?_⟩
 nofun
 exact⟨_,rfl,a,_,_,.int x1,rfl,rfl,ha,u0,_,rfl,b,_,_,.int x2,rfl,rfl,hb,w0,_,_,rfl,rfl,zA9 (by lia),
  _,rfl,a,_,_,.int y1,rfl,rfl,ha,u1,_,rfl,b,_,_,.int y2,rfl,rfl,hb,w1,_,_,rfl,rfl,zA9 (by lia),_,_,rfl,rfl,q⟩
theorem zH1(F:Fun K "along" "along" qZ f fd)(Z:Zs mg)  : xK P w K mg base CX0 1 f fd ["one", "other"] (zDc K):=by
 specialize zF8
 ·obtain⟨a,b,x1,y1,x2,y2,rfl,_⟩:=h;rfl
 obtain⟨a,b,x1,y1,x2,y2,rfl,ha,hb,m1,m2,q⟩:=h
 refine'⟨_,(zH (zO ?_)),?_⟩
 nofun
 exact⟨_,rfl,a,_,_,.int x1,rfl,rfl,.inr ha,rfl,_,rfl,b,_,_,.int x2,rfl,rfl,.inr hb,rfl,_,_,rfl,rfl,zQe m1,
  _,rfl,a,_,_,.int y1,rfl,rfl,.inr ha,rfl,_,rfl,b,_,_,.int y2,rfl,rfl,.inr hb,rfl,_,_,rfl,rfl,zQe m2,_,_,rfl,rfl,q⟩
def zCx(K:PySem.W.Frag):Sp:=wJ K
theorem zMp(F:Fun K "plain" "plain" zBt f fd)(Z:Zs mg)(yBt:Has P w K mg base "lowest" 2 ["numbers"] (wJ K)):xK P w K mg base CX0 3 f fd ["direction"] (zCx K):=by
 specialize zLp
 ·obtain⟨a,ns,rfl,_⟩:=h;rfl
 obtain⟨a,ns,rfl,h⟩:=h;exact⟨_,(zH (zO (xG yBt (hr.mono (by decide)) rfl (zU (pv 0) yH)))),⟨_,rfl,a,ns,rfl,h⟩⟩
def qW(K:PySem.W.Frag):Sp:=wJ K
theorem zFn(F:Fun K "plain_side" "plain_side" vL f fd)(Z:Zs mg)(yBt:Has P w K mg base "lowest" 2 ["numbers"] (wJ K)):xK P w K mg base CX0 3 f fd ["side"] (qW K):=by
 specialize zEn
 ·obtain⟨a,ns,rfl,_⟩:=h;rfl
 obtain⟨a,ns,rfl,h⟩:=h;exact⟨_,(zH (zO (xG yBt (hr.mono (by decide)) rfl (zU (pv 0) yH)))),⟨_,rfl,a,ns,rfl,h⟩⟩
def zR8(K:PySem.W.Frag)(R:Int->Int->Int->Int->Int->Int->Hp->VK->Prop):Sp:=λvs H Q _=>∃(a b:Addr)(A B C x y z:Int),vs=[.ref a,.ref b]/\Sq K H a [.int A,.int B,.int C]/\Sq K H b [.int x,.int y,.int z]/\A.natAbs<=10^18/\B.natAbs<=10^18/\C.natAbs<=10^18/\R A B C x y z H Q
def zFg(K:PySem.W.Frag):Sp:=zR8 K λA B C x y z H Q=>Q (.int (A*x+B*y-C*z)) H
theorem zJq(F:Fun K "beyond" "beyond" zAq f fd)(Z:Zs mg)  : xK P w K mg base CX0 1 f fd ["side", "spot"] (zFg K):=by
 specialize zJt
 ·obtain⟨a,b,A,B,C,x,y,z,rfl,_⟩:=h;rfl
 obtain⟨a,b,A',B,C,x,y,z,rfl,ha,hb,m1,m2,m3,q⟩:=h
 refine'⟨_,(zH (zO ?_)),?_⟩
 nofun
 exact⟨_,rfl,a,_,_,.int A',rfl,rfl,ha,rfl,_,rfl,b,_,_,.int x,rfl,rfl,hb,rfl,_,_,rfl,rfl,zA9 (by lia),_,rfl,a,_,_,.int B,rfl,rfl,ha,rfl,_,rfl,b,_,_,.int y,rfl,rfl,hb,rfl,_,_,rfl,rfl,zA9 (by lia),_,_,rfl,rfl,_,rfl,a,_,_,.int C,rfl,rfl,ha,rfl,_,rfl,b,_,_,.int z,rfl,rfl,hb,rfl,_,_,rfl,rfl,zA9 (by lia),_,_,rfl,rfl,q⟩
def tN(K:PySem.W.Frag):Sp:=zR8 K λA B C x y z H Q=>Q (.bl (decide (A*x+B*y-C*z<=0))) H
theorem zL6(F:Fun K "holds" "holds" zCj f fd)(Z:Zs mg)(yBr:Has P w K mg base "beyond" 1 ["side", "spot"] (zFg K)):xK P w K mg base CX0 2 f fd ["side", "spot"] (tN K):=by
 specialize zMk
 ·obtain⟨a,b,A,B,C,x,y,z,rfl,_⟩:=h;rfl
 obtain⟨a,b,A',B,C,x,y,z,rfl,ha,hb,m1,m2,m3,q⟩:=h
 refine'⟨_,(zH (zO ?_)),?_⟩
 nofun
 exact⟨_,rfl,_,rfl,a,b,A',B,C,x,y,z,rfl,ha,hb,m1,m2,m3,_,_,rfl,rfl,q⟩
def vX(K:PySem.W.Frag):Sp:=λvs H Q _=>∃(a b:Addr)(A1 B1 C1 A2 B2 C2:Int),vs=[.ref a,.ref b]/\Sq K H a [.int A1,.int B1,.int C1]/\Sq K H b [.int A2,.int B2,.int C2] /\
 A1.natAbs<=10^18/\B1.natAbs<=10^18/\C1.natAbs<=10^18/\A2.natAbs<=10^18/\B2.natAbs<=10^18 /\
 (A1*B2-B1*A2=0->Q .non H)/\(A1*B2-B1*A2≠0->∀(p:Addr)(H':Hp),zZ H H'->H p=none->H' p=some (.tup ((vK (upL (C1*B2-B1*C2) (A1*C2-C1*A2) (A1*B2-B1*A2))).map V.int))->Q (.ref p) H')
theorem zHn(F:Fun K "crossing" "crossing" sN f fd)(Z:Zs mg)(yBm:Has P w K mg base "upright" 3 ["numbers"] (sP K))(yCq:Has P w K mg base "turn" 1 ["one", "other"] (uK K)):xK P w K mg base CX0 4 f fd ["one", "other"] (vX K):=by
 specialize tL
 ·obtain⟨a,b,A1,B1,C1,A2,B2,C2,rfl,_⟩:=h;rfl
 obtain⟨a,b,A1,B1,C1,A2,B2,C2,rfl,ha,hb,m1,m2,m3,m4,m5,q0,q⟩:=h
 refine'⟨_,(zG (zX 2 tL.nd ?_)
   (zG (yC ?_ (zH (zO uW)) zS)
   (zG (zX 3 tL.nd ?_)
   (zG (zX 4 tL.nd ?_)
   (zH (zO ?_)))))),?_⟩
 nofun
 exists _,rfl,_,rfl,a,b,_,_,A1,B1,A2,B2,rfl,ha,hb,rfl,rfl,rfl,rfl,m1,m2;exists _,rfl,rfl,_,rfl;refine ifE (λhw=>q0 hw) (λhw=>?_);have z1:=zI A1 B2 m1 m5;have z2:=zI B1 A2 m2 m4;have z0:(10:Nat)^18*10^18=10^36:=by decide
 have z3:(10:Nat)^36+10^36<=10^40:=by decide
 exists _,rfl,a,_,_,.int C1,rfl,rfl,ha,rfl,_,rfl,b,_,_,.int B2,rfl,rfl,hb,rfl,_,_,rfl,rfl,zA9 (by lia),_,rfl,a,_,_,.int B1,rfl,rfl,ha,rfl,_,rfl,b,_,_,.int C2,rfl,rfl,hb,rfl,_,_,rfl,rfl,zA9 (by lia),_,_,rfl,rfl;exists _,rfl,a,_,_,.int A1,rfl,rfl,ha,rfl,_,rfl,b,_,_,.int C2,rfl,rfl,hb,rfl,_,_,rfl,rfl,zA9 (by lia),_,rfl,a,_,_,.int C1,rfl,rfl,ha,rfl,_,rfl,b,_,_,.int A2,rfl,rfl,hb,rfl,_,_,rfl,rfl,zA9 (by lia),_,_,rfl,rfl;refine⟨_,rfl,_,rfl,_,rfl,sz3,λp hp=>⟨p,[C1*B2-B1*C2,A1*C2-C1*A2,A1*B2-B1*A2],A1*B2-B1*A2,rfl,.inr (SqT.of zD),by show 3<=1000; decide,rfl,by simp,hw,zSm (by lia),λr H2 s2 hr2 e2=>?_⟩⟩;exact q hw r H2 ((zF hp _).trans s2) ((zF hp _).free hr2) e2
def zGv(ss:List Sd)(p:P3):Bool:=ss.all λt=>decide (sv t.2 p<=0)
theorem sM{ss:List Sd}{p:P3} : zGv ss p=true↔inW ss p:=by
 unfold zGv inW;rw[List.all_eq_true];exact⟨λh t ht=>of_decide_eq_true (h t ht),λh t ht=>decide_eq_true (h t ht)⟩
def uP(K:PySem.W.Frag):Sp:=λvs H Q _=>∃(l p:Addr)(ss:List Sd)(P:P3),vs=[.ref l,.ref p]/\SqL K H l (zJ ss)/\vP H ss/\Sq K H p [.int P.1,.int P.2.1,.int P.2.2]/\Q (.bl (zGv ss P)) H
theorem zG1(F:Fun K "in_water" "in_water" sJ f fd)(Z:Zs mg)(yCj:Has P w K mg base "holds" 2 ["side", "spot"] (tN K)):xK P w K mg base CX0 3 f fd ["sides", "place"] (uP K):=by
 specialize zB8
 ·obtain⟨l,p,ss,P,rfl,_⟩:=h;rfl
 obtain⟨l,p,ss,P,rfl,hl,ok,hp,q⟩:=h
 refine'⟨_,(zG (wU PassesOwn.never rfl (xC (pv 0)) (yS 2 zB8.nd) (zH (yC ?_ (zH (zO vR)) zS)))
   (zH (zO vR))),?_⟩
 nofun
 refine⟨_,rfl,l,rfl,.inl ⟨⟨_,hl⟩,wD (K:=K) (a:=l) (xs:=zJ ss) (λi σ H'=>H=H'/\(∀ j t,j<i->ss[j]?=some t->sv t.2 P<=0)/\∃ u2:Option V,σ=[some (.ref l),some (.ref p),u2])
  ⟨rfl,λj t hj=>absurd hj (Nat.not_lt_zero _),none,rfl⟩ (λi σ H' _ ⟨e,_⟩=>by rw[<- e]; exact hl) ?_ ?_⟩⟩
 ·rintro i v σ H' hi ⟨rfl,hall,u2,rfl⟩;obtain⟨t,gt,rfl,hil⟩:=xZ hi;obtain⟨et,_,b1,b2,b3⟩:=ok t (List.mem_of_getElem? gt);exists _,rfl,_,rfl,t.1,p,t.2.1,t.2.2.1,t.2.2.2,P.1,P.2.1,P.2.2,rfl,.inr (SqT.of et),hp,by lia,by lia,by lia,_,rfl;refine ifN (λhpos=>?_) (λhneg=>?_)
  ·have e:zGv ss P=false:=by
    unfold zGv;rw[Bool.eq_false_iff];intro z;exact hpos (of_decide_eq_true (List.all_eq_true.mp z t (List.mem_of_getElem? gt)))
   rw[e] at q;exact q
  ·refine⟨rfl,λj t' hj ht'=>?_,_,rfl⟩;by_cases e:j=i
   ·rw[e,gt] at ht';cases ht';exact hneg
   ·exact hall j t' (by lia) ht'
 ·rintro σ H' ⟨rfl,hall,u2,rfl⟩;have e:zGv ss P=true:=sM.mpr λt ht=>by
   obtain⟨j,hj,ej⟩:=List.getElem_of_mem ht;exact hall j t (by rw[zK]; exact hj) (by rw[List.getElem?_eq_getElem hj,ej])
  rw[e] at q;exact q
def zEu(K:PySem.W.Frag):Sp:=λvs H Q _=>∃(a:Addr)(t:P3),vs=[.ref a]/\Sq K H a [.int t.1,.int t.2.1,.int t.2.2]/\(t.1≠0\/t.2.1≠0)/\t.1.natAbs<=10^9/\t.2.1.natAbs<=10^9 /\
 ∀(p:Addr)(H':Hp),zZ H H'->H p=none->H' p=some (.tup ((ftL t).map V.int))->Q (.ref p) H'
theorem zNi(F:Fun K "foot" "foot" zEa f fd)(Z:Zs mg)(yCl:Has P w K mg base "spot" 4 ["x", "y", "w"] (zCf K))(yBy:Has P w K mg base "along" 1 ["one", "other"] (vD K)):xK P w K mg base CX0 5 f fd ["side"] (zEu K):=by
 specialize zNy
 ·obtain⟨a,t,rfl,_⟩:=h;rfl
 obtain⟨a,t,rfl,ha,hn,b1,b2,q⟩:=h
 refine'⟨_,(zH (zO ?_)),?_⟩
 nofun
 have pos:=qA hn;have z1:=zI t.1 t.1 b1 b1;have z2:=zI t.2.1 t.2.1 b2 b2;refine⟨_,rfl,a,_,_,.int t.1,rfl,rfl,ha,rfl,_,rfl,a,_,_,.int t.2.2,rfl,rfl,ha,rfl,_,_,rfl,rfl,zA9 (by lia),
  _,rfl,a,_,_,.int t.2.1,rfl,rfl,ha,rfl,_,rfl,a,_,_,.int t.2.2,rfl,rfl,ha,rfl,_,_,rfl,rfl,zA9 (by lia),
  _,rfl,_,rfl,a,a,_,_,t.1,t.2.1,t.1,t.2.1,rfl,ha,ha,rfl,rfl,rfl,rfl,by lia,by lia,
  t.1*t.2.2,t.2.1*t.2.2,t.1*t.1+t.2.1*t.2.1,rfl,by lia,Nat.lt_of_le_of_lt (show(t.1*t.1+t.2.1*t.2.1).natAbs<=10^40 by lia) (by decide +kernel),λp H' s' hp ep=>q p H' s' hp ep⟩
def zHp:Option Nat->V
 | none=>.non
 | some j=>.int j
theorem tH{ss:List Sd}{i:Nat}{t u:Sd}(gt:ss[i]?=some t)(hu:u∈ss.take (i+1)):u∈ss.take i\/u=t:=by
 rw[yP gt] at hu;rcases List.mem_append.mp hu with h | h
 ·exact .inl h
 ·exact .inr (List.mem_singleton.mp h)
theorem zK8{ss:List Sd}{i j:Nat}{t:Sd}(h:(ss.take i)[j]?=some t):(ss.take (i+1))[j]?=some t:=by
 rw[List.getElem?_take] at h ⊢;split at h
 ·rw[if_pos (by lia)];exact h
 ·cases h
def zIi(ss:List Sd)(e:P3)(h:Int)(H:Hp)(x y:V):Prop:=(x=.non/\y=.non/\zDj ss e h none)\/∃(j:Nat)(t:Sd)(p:Addr),x=.int j/\y=.ref p/\H p=some (.tup ((crL e t.2).map V.int))/\ss[j]?=some t/\0<tn e t.2*h/\∀ u∈ss,0<tn e u.2*h->sv u.2 (pt3 (crL e t.2))<=0
theorem zIi.skip{ss:List Sd}{e:P3}{h:Int}{H:Hp}{x y:V}{i:Nat}{t:Sd}(S:zIi (ss.take i) e h H x y)(gt:ss[i]?=some t)(hn:¬ 0<tn e t.2*h):zIi (ss.take (i+1)) e h H x y:=by
 rcases S with ⟨e1,e2,S⟩ | ⟨j,u,p,e1,e2,ep,gu,hu,ha⟩
 ·refine .inl ⟨e1,e2,λv hv=>?_⟩;rcases tH gt hv with hv | rfl
  ·exact S v hv
  ·lia
 ·refine .inr ⟨j,u,p,e1,e2,ep,zK8 gu,hu,λv hv hp=>?_⟩;rcases tH gt hv with hv | rfl
  ·exact ha v hv hp
  ·exact absurd hp hn
theorem zIi.keep{ss:List Sd}{e:P3}{h:Int}{H H':Hp}{x y:V}(S:zIi ss e h H x y)(s:zZ H H'):zIi ss e h H' x y:=by
 rcases S with S | ⟨j,u,p,e1,e2,ep,r⟩
 ·exact .inl S
 ·exact .inr ⟨j,u,p,e1,e2,s _ _ ep,r⟩
def tD(K:PySem.W.Frag):Sp:=λvs H Q _=>∃(l a:Addr)(ss:List Sd)(e:P3)(h:Int),vs=[.ref l,.ref a,.int h]/\SqL K H l (zJ ss)/\vP H ss/\ss.length<=1000/\Sq K H a [.int e.1,.int e.2.1,.int e.2.2]/\(e.1≠0\/e.2.1≠0)/\e.1.natAbs<=10^9/\e.2.1.natAbs<=10^9/\e.2.2.natAbs<=10^13/\(h=1\/h = -1) /\
 ∀(r:Option Nat)(H':Hp),zZ H H'->zDj ss e h r->Q (zHp r) H'
theorem zHc(F:Fun K "edge_end" "edge_end" sF f fd)(Z:Zs mg)(yCq:Has P w K mg base "turn" 1 ["one", "other"] (uK K))(yCj:Has P w K mg base "holds" 2 ["side", "spot"] (tN K))(yBd:Has P w K mg base "crossing" 4 ["one", "other"] (vX K)):xK P w K mg base CX0 5 f fd ["sides", "edge", "hand"] (tD K):=by
 specialize xQ
 ·obtain⟨l,a,ss,e,h,rfl,_⟩:=h;rfl
 obtain⟨l,a,ss,e,hd,rfl,hl,ok,hlen,ha,hn,b1,b2,b3,h1,q⟩:=h;have hh:hd*hd=1:=by rcases h1 with rfl | rfl <;> rfl
 have hN:=qA hn
 refine'⟨_,(zG (zX 3 xQ.nd uW)
   (zG (zX 4 xQ.nd uW)
   (zG (wU PassesOwn.never rfl (xV rfl Z.range ?_) (yS 5 xQ.nd) (zG (zX 6 xQ.nd ?_)
   (zH (yC ?_ (zG (zX 3 xQ.nd (pv 5))
   (zH (zX 4 xQ.nd ?_))) zS))))
   (zH (zO (pv 3)))))),?_⟩
 nofun
 refine⟨_,rfl,l,_,rfl,.inl hl,_,rfl,(by rw[zK]; lia),(by rw[zK]; lia),tS (lo:=0) (n:=(((zJ ss).length:Nat):Int).toNat) (λi σ H'=>zZ H H'/\∃(x y:V)(u5 u6:Option V),zIi (ss.take i) e hd H' x y/\σ=[some (.ref l),some (.ref a),some (.int hd),some x,some y,u5,u6])
  ⟨zZ.refl _,.non,.non,none,none,.inl ⟨rfl,rfl,λt ht=>nomatch ht⟩,rfl⟩ ?_ ?_⟩
 ·rintro i σ H' hi ⟨sH,x,y,u5,u6,S,rfl⟩;have hil:i<ss.length:=by rw[Int.toNat_natCast,zK] at hi; exact hi
  obtain⟨t,mt,gt,at'⟩:=yO (ss:=ss) (i:=i) (k:=0+(i:Int)) (by lia) hil;obtain⟨et0,nt,c1,c2,c3⟩:=ok t mt;have et:Sq K H' t.1 [.int t.2.1,.int t.2.2.1,.int t.2.2.2]:=.inr (SqT.of (sH _ _ et0));have hae:=ha.same sH;have z1:=zI e.1 t.2.2.1 b1 c2;have z2:=zI e.2.1 t.2.1 b2 c1;exists _,rfl,_,rfl,l,_,_,_,rfl,rfl,.inl (sH.seq hl),at';exists _,rfl,_,rfl,a,t.1,_,_,e.1,e.2.1,t.2.1,t.2.2.1,rfl,hae,et,rfl,rfl,rfl,rfl,by lia,by lia,_,rfl,_,_,rfl,rfl,.inl ⟨by lia,by lia⟩,_,_,rfl,rfl,_,rfl;refine ifD (λhpos=>?_) (λhneg=>?_)
  ·have hpos':0<tn e t.2*hd:=hpos;have put:∀(H2:Hp)(p:Addr),zZ H' H2->H2 p=some (.tup ((crL e t.2).map V.int))->(∀ u∈ss.take i,0<tn e u.2*hd->sv u.2 (pt3 (crL e t.2))<=0)->zIi (ss.take (i+1)) e hd H2 (.int (0+(i:Int))) (.ref p):=λH2 p s2 ep hb=>by
    refine .inr ⟨i,t,p,by rw[Int.zero_add],rfl,ep,?_,hpos',λu hu hp=>?_⟩
    ·rw[List.getElem?_take,if_pos (by lia)];exact gt
    ·rcases tH gt hu with hu | rfl
     ·exact hb u hu hp
     ·exact Int.le_of_eq (zBi (wI hpos')).2.2
   rcases S with ⟨rfl,rfl,S⟩ | ⟨j,u,p,rfl,rfl,ep,gu,hu,hb⟩
   ·exists _,rfl,rfl,_,rfl;refine uT ?_;refine⟨_,rfl,_,rfl,_,rfl,a,t.1,e.1,e.2.1,e.2.2,t.2.1,t.2.2.1,t.2.2.2,rfl,hae,et,by lia,by lia,by lia,by lia,by lia,λz=>absurd z (wI hpos'),λ_ p2 H2 s2 hp2 ep2=>?_⟩;exact⟨sH.trans s2,_,_,_,_,put H2 p2 s2 ep2 λv hv hp=>by have:=S v hv; lia,rfl⟩
   ·obtain⟨sp0,q1,q2⟩:=zBi (wI hu);exists _,rfl,rfl,_,rfl;refine vS ?_;have ep3:Sq K H' p [.int (pt3 (crL e u.2)).1,.int (pt3 (crL e u.2)).2.1,.int (pt3 (crL e u.2)).2.2]:=.inr (SqT.of (by rw[ep]; rw[sp0.list]; rfl));exists _,rfl,_,rfl,t.1,p,t.2.1,t.2.2.1,t.2.2.2,_,_,_,rfl,et,ep3,by lia,by lia,by lia,_,rfl;refine ifN (λhout=>?_) (λhin=>?_)
    ·have hout':0<sv t.2 (pt3 (crL e u.2)):=by
      have:¬ sv t.2 (pt3 (crL e u.2))<=0:=hout;lia
     refine⟨_,rfl,_,rfl,_,rfl,a,t.1,e.1,e.2.1,e.2.2,t.2.1,t.2.2.1,t.2.2.2,rfl,hae,et,by lia,by lia,by lia,by lia,by lia,λz=>absurd z (wI hpos'),λ_ p2 H2 s2 hp2 ep2=>?_⟩;obtain⟨sp1,r1,r2⟩:=zBi (wI hpos');have d1:=zWn hh hN r1 q1 sp1.pos r2 hout' hpos';refine⟨sH.trans s2,_,_,_,_,put H2 p2 s2 ep2 λv hv hp=>?_,rfl⟩;refine zM0 hh hN r1 q1 sp1.pos sp0.pos v.2 ?_ (hb v hv hp);have:=Int.mul_nonneg (show 0<=-(dl e (pt3 (crL e t.2)) (pt3 (crL e u.2))*hd) by lia) (Int.le_of_lt hp);rw[Int.neg_mul] at this;lia
    ·refine⟨sH,_,_,_,_,.inr ⟨j,u,p,rfl,rfl,ep,zK8 gu,hu,λv hv hp=>?_⟩,rfl⟩;rcases tH gt hv with hv | rfl
     ·exact hb v hv hp
     ·exact hin
  ·refine vS ?_;exact⟨sH,x,y,_,_,S.skip gt hneg,rfl⟩
 ·rintro σ H' ⟨sH,x,y,u5,u6,S,rfl⟩;rw[Int.toNat_natCast,zK,List.take_length] at S;rcases S with ⟨rfl,rfl,S⟩ | ⟨j,u,p,rfl,rfl,ep,gu,hu,hb⟩
  ·exact⟨_,rfl,q none H' sH S⟩
  ·exact⟨_,rfl,q (some j) H' sH ⟨u,gu,hu,hb⟩⟩
structure zWs(ss:List Sd)(e:P3)(qs:List (Addr×P3)):Prop where
 each:∀ q∈qs,∃(h:Int)(j:Nat)(t:Sd),h*h=1/\ss[j]?=some t/\0<tn e t.2*h/\(∀ u∈ss,0<tn e u.2*h->sv u.2 (pt3 (crL e t.2))<=0)/\q.2=pt3 (crL e t.2)
 none:qs=[]->zDj ss e 1 none/\zDj ss e (-1) none
 full:zIo ss e 1 (qs.map (·.2))/\zIo ss e (-1) (qs.map (·.2))
def zA6(K:PySem.W.Frag):Sp:=λvs H Q _=>∃(l a:Addr)(ss:List Sd)(e:P3),vs=[.ref l,.ref a]/\SqL K H l (zJ ss)/\vP H ss/\ss.length<=1000/\Sq K H a [.int e.1,.int e.2.1,.int e.2.2]/\(e.1≠0\/e.2.1≠0)/\e.1.natAbs<=10^9/\e.2.1.natAbs<=10^9/\e.2.2.natAbs<=10^13 /\
 ∀(D:Addr)(qs:List (Addr×P3))(H':Hp),zZ H H'->H D=none->H' D=some (.lst (zB1 qs))->zMa H' qs->qs.length<=2->zWs ss e qs->Q (.ref D) H'
theorem zFr(F:Fun K "edge_ends" "edge_ends" tF f fd)(Z:Zs mg)(yBd:Has P w K mg base "crossing" 4 ["one", "other"] (vX K))(yBg:Has P w K mg base "edge_end" 5 ["sides", "edge", "hand"] (tD K)):xK P w K mg base CX0 6 f fd ["sides", "edge"] (zA6 K):=by
 specialize zBa
 ·obtain⟨l,a,ss,e,rfl,_⟩:=h;rfl
 obtain⟨l,a,ss,e,rfl,hl,ok,hlen,ha,hn,b1,b2,b3,q⟩:=h
 refine'⟨_,(zG (zX 2 zBa.nd ?_)
   (zH (zO (xJ (T:=["number"]) (caps:=[("edge", 1),("sides", 0)]) ⟨rfl,by decide +kernel,by decide +kernel,rfl,⟨⟨rfl,rfl,Or.inl rfl⟩,⟨rfl,rfl,Or.inl rfl⟩,True.intro⟩⟩ rfl (xC (pv 2)) (λ_=>(yS 0 (show(["number", "edge", "sides"]:List Str).Nodup by decide +kernel))) (λ_=>(zKr ?_)) (λ_=>?_))))),?_⟩
 nofun
 refine⟨_,rfl,_,rfl,_,rfl,l,a,ss,e,-1,rfl,hl,ok,hlen,ha,hn,b1,b2,b3,.inr rfl,λr1 H1 s1 k1=>?_⟩;refine⟨_,rfl,_,rfl,l,a,ss,e,1,rfl,s1.seq hl,ok.same s1,hlen,ha.same s1,hn,b1,b2,b3,.inl rfl,λr2 H2 s2 k2=>?_⟩;refine⟨sz2,λnl hnl=>?_⟩;have snl:zZ H2 (upd H2 nl (.lst [zHp r1,zHp r2])):=zF hnl _;have enl:upd H2 nl (.lst [zHp r1,zHp r2]) nl=some (.lst [zHp r1,zHp r2]):=zD;generalize upd H2 nl (.lst [zHp r1,zHp r2])=H3 at snl enl ⊢;have s3:=(s1.trans s2).trans snl;have one:∀(i:Nat)(v:V),[zHp r1,zHp r2][i]?=some v->(v=.non/\((i=0/\zDj ss e (-1) none)\/(i=1/\zDj ss e 1 none)))\/∃(j:Nat)(t:Sd)(h:Int),v=.int j/\((i=0/\h = -1)\/(i=1/\h=1))/\h*h=1/\ss[j]?=some t/\0<tn e t.2*h/\∀ u∈ss,0<tn e u.2*h->sv u.2 (pt3 (crL e t.2))<=0:=λi v hv=>by
  match i,hv with
  | 0,hv =>
   cases hv;cases r1 with
   | none=>exact .inl ⟨rfl,.inl ⟨rfl,k1⟩⟩
   | some j=>obtain⟨t,g,p,r⟩:=k1; exact .inr ⟨j,t,-1,rfl,.inl ⟨rfl,rfl⟩,rfl,g,p,r⟩
  | 1,hv =>
   cases hv;cases r2 with
   | none=>exact .inl ⟨rfl,.inr ⟨rfl,k2⟩⟩
   | some j=>obtain⟨t,g,p,r⟩:=k2; exact .inr ⟨j,t,1,rfl,.inr ⟨rfl,rfl⟩,rfl,g,p,r⟩
 refine⟨_,rfl,nl,rfl,.inl ⟨⟨_,SqL.of enl⟩,λc D hD=>zFm (K:=K) (a:=nl) (xs:=[zHp r1,zHp r2]) (λi σ ys H'=>zZ H3 H'/\H' D=some (.lst ys)/\(∃ qs:List (Addr×P3),ys=zB1 qs/\qs.length<=i/\zMa H' qs/\(∀ q∈qs,∃(h:Int)(j:Nat)(t:Sd),h*h=1/\ss[j]?=some t/\0<tn e t.2*h/\(∀ u∈ss,0<tn e u.2*h->sv u.2 (pt3 (crL e t.2))<=0)/\q.2=pt3 (crL e t.2)) /\
   ((0<i->zIo ss e (-1) (qs.map (·.2)))/\(1<i->zIo ss e 1 (qs.map (·.2)))))/\∃ u0:Option V,σ=[u0,some (.ref a),some (.ref l)])
  ⟨zF hD _,zD,⟨[],rfl,Nat.le_refl _,(λt ht=>nomatch ht),(λt ht=>nomatch ht),⟨λz=>absurd z (Nat.not_lt_zero _),λz=>absurd z (Nat.not_lt_zero _)⟩⟩,none,rfl⟩ (λi σ ys H' _ ⟨e1,e2,_⟩=>⟨SqL.of (e1 _ _ enl),e2⟩) ?_ ?_⟩⟩
 ·rintro i v σ ys H' hi ⟨sH,eD,⟨qs,rfl,hq,okq,each,non⟩,u0,rfl⟩;have hi2:i<2:=(List.getElem?_eq_some_iff.mp hi).1;rcases one i v hi with ⟨rfl,hcase⟩ | ⟨j,t,h,rfl,hih,hh,gt,hp,hb⟩
  ·exists _,rfl,rfl,_,rfl;refine vS ?_;refine⟨sH,eD,⟨qs,rfl,by lia,okq,each,?_⟩,_,rfl⟩;rcases hcase with ⟨rfl,k⟩ | ⟨rfl,k⟩
   ·exact⟨λ_=>.inl k,λz'=>absurd z' (by decide)⟩
   ·exact⟨λ_=>non.1 (by decide),λ_=>.inl k⟩
  ·exists _,rfl,rfl,_,rfl;refine uT ?_;have hj:j<ss.length:=(List.getElem?_eq_some_iff.mp gt).1;obtain⟨t',mt,gt',at'⟩:=yO (ss:=ss) (i:=j) (k:=(j:Int)) rfl hj;rw[gt] at gt';cases gt';obtain⟨et0,_,c1,c2,c3⟩:=ok t mt;have s3H:=s3.trans sH;refine⟨_,rfl,_,rfl,_,rfl,l,_,_,_,rfl,rfl,.inl (s3H.seq hl),at',a,t.1,e.1,e.2.1,e.2.2,t.2.1,t.2.2.1,t.2.2.2,rfl,ha.same s3H,.inr (SqT.of (s3H _ _ et0)),by lia,by lia,by lia,by lia,by lia,λz=>absurd z (wI hp),λ_ p H5 s5 hp5 ep5=>?_⟩;obtain⟨sp,_,_⟩:=zBi (wI hp);have ep5':H5 p=some (.tup [.int (pt3 (crL e t.2)).1,.int (pt3 (crL e t.2)).2.1,.int (pt3 (crL e t.2)).2.2]):=by
    have z:H5 p=some (.tup ((crL e t.2).map V.int)):=ep5;rw[z,sp.list];rfl
   have npD:p≠D:=λz=>by rw[z,eD] at hp5; cases hp5
   refine⟨s5 _ _ eD,zV (by simp only[List.length_map]; lia),(sH.trans s5).putNew hD,zD,⟨qs++[(p,pt3 (crL e t.2))],by simp[zB1],by rw[List.length_append]; show qs.length+1<=i+1; lia,λu hu=>?_,λu hu=>?_,?_⟩,_,rfl⟩
   ·rcases List.mem_append.mp hu with hu | hu
    ·obtain⟨g1,g2⟩:=okq u hu;exact⟨by rw[yA (tZ (s5 _ _ g1) (s5 _ _ eD) (by intro z; cases z))]; exact s5 _ _ g1,g2⟩
    ·rw[List.mem_singleton] at hu;subst hu;refine⟨?_,sp.pos,sp.low⟩;show upd H5 D _ p=_;rw[yA npD];exact ep5'
   ·rcases List.mem_append.mp hu with hu | hu
    ·exact each u hu
    ·rw[List.mem_singleton] at hu;subst hu;exact⟨h,j,t,hh,gt,hp,hb,rfl⟩
   ·have me:zIo ss e h ((qs++[(p,pt3 (crL e t.2))]).map (·.2)):=.inr ⟨j,t,gt,hp,hb,by rw[List.map_append]; exact List.mem_append_right _ (List.mem_singleton.mpr rfl)⟩;rcases hih with ⟨rfl,rfl⟩ | ⟨rfl,rfl⟩
    ·exact⟨λ_=>me,λz'=>absurd z' (by decide)⟩
    ·exact⟨λ_=>by rw[List.map_append]; exact(non.1 (by decide)).app,λ_=>me⟩
 ·rintro σ ys H' ⟨sH,eD,⟨qs,rfl,hq,okq,each,non⟩,u0,rfl⟩;have f1:=non.2 (by show 1<2; decide);have f2:=non.1 (by show 0<2; decide);refine q D qs H' (s3.trans sH) (s3.free hD) eD okq hq ⟨each,λz=>?_,f1,f2⟩;rw[z] at f1 f2;refine⟨?_,?_⟩
  ·rcases f1 with f | ⟨_,_,_,_,_,m⟩
   ·exact f
   ·exact nomatch m
  ·rcases f2 with f | ⟨_,_,_,_,_,m⟩
   ·exact f
   ·exact nomatch m
def zMh(H:Hp)(p:Addr)(P:P3):Prop:=H p=some (.tup [.int P.1,.int P.2.1,.int P.2.2])/\0<P.2.2/\Nat.gcd (Nat.gcd P.1.natAbs P.2.1.natAbs) P.2.2.natAbs=1
theorem zMh.same{H H':Hp}{p:Addr}{P:P3}(h:zMh H p P)(s:zZ H H'):zMh H' p P:=⟨s _ _ h.1,h.2⟩
def vB(K:PySem.W.Frag):Sp:=λvs H Q _=>∃(l a:Addr)(ss:List Sd)(e:P3),vs=[.ref l,.ref a]/\SqL K H l (zJ ss)/\vP H ss/\ss.length<=900/\Sq K H a [.int e.1,.int e.2.1,.int e.2.2]/\(e.1≠0\/e.2.1≠0)/\e.1.natAbs<=10^9/\e.2.1.natAbs<=10^9/\e.2.2.natAbs<=10^13 /\
 (∀ H',zZ H H'->(∀ z:P3,sv e z=0->0<z.2.2->¬ inW ss z)->Q .non H') /\
 ∀(p:Addr)(P:P3)(H':Hp),zZ H H'->zMh H' p P->inW ss P->sv e P=0->(P=pt3 (ftL e)\/∃ t∈ss,tn e t.2≠0/\P=pt3 (crL e t.2))->Q (.ref p) H'
theorem zCy(F:Fun K "spot_on_edge" "spot_on_edge" wY f fd)(Z:Zs mg)(yBc:Has P w K mg base "edge_ends" 6 ["sides", "edge"] (zA6 K))(yCo:Has P w K mg base "foot" 5 ["side"] (zEu K))(yBf:Has P w K mg base "in_water" 3 ["sides", "place"] (uP K)):xK P w K mg base CX0 7 f fd ["sides", "edge"] (vB K):=by
 specialize rL
 ·obtain⟨l,a,ss,e,rfl,_⟩:=h;rfl
 obtain⟨l,a,ss,e,rfl,hl,ok,hlen,ha,hn,b1,b2,b3,qn,q⟩:=h;have hN:=qA hn
 refine'⟨_,(zG (wU PassesOwn.never rfl (xC (xH uH ?_ ?_)) (yS 2 rL.nd) (zH (yC ?_ (zH (zO (pv 2))) zS)))
   (zH (zO uW))),?_⟩
 nofun
 refine⟨_,rfl,_,rfl,l,a,ss,e,rfl,hl,ok,by lia,ha,hn,b1,b2,b3,λD qs H1 s1 hD eD okq hq ends=>?_⟩;refine⟨_,rfl,a,e,rfl,ha.same s1,hn,b1,b2,λfp H2 s2 hfp efp=>?_⟩;obtain⟨sf,f1⟩:=zTu hn;have efp':H2 fp=some (.tup [.int (pt3 (ftL e)).1,.int (pt3 (ftL e)).2.1,.int (pt3 (ftL e)).2.2]):=by
  rw[efp,sf.list];rfl
 refine⟨sz1,λfl hfl=>?_⟩;have sfl:zZ H2 (upd H2 fl (.lst [.ref fp])):=zF hfl _;have efl:upd H2 fl (.lst [.ref fp]) fl=some (.lst [.ref fp]):=zD;generalize upd H2 fl (.lst [.ref fp])=H3 at sfl efl ⊢;refine⟨D,fl,_,_,rfl,rfl,sfl _ _ (s2 _ _ eD),efl,small (by simp only[List.length_map]; show qs.length+1<=1000; lia),λL hL=>?_⟩;have sL:zZ H3 (upd H3 L (.lst (zB1 qs++[.ref fp]))):=zF hL _;have eL:upd H3 L (.lst (zB1 qs++[.ref fp])) L=some (.lst (zB1 (qs++[(fp,pt3 (ftL e))]))):=by rw[zD]; simp[zB1]
 generalize upd H3 L (.lst (zB1 qs++[.ref fp]))=H4 at sL eL ⊢;have s24:=sfl.trans sL;have s14:=s2.trans s24;have s04:=s1.trans s14;have okA:zMa H4 (qs++[(fp,pt3 (ftL e))]):=λu hu=>by
  rcases List.mem_append.mp hu with hu | hu
  ·exact okq.same s14 u hu
  ·rw[List.mem_singleton] at hu;subst hu;exact⟨s24 _ _ efp',sf.pos,sf.low⟩
 refine⟨L,rfl,.inl ⟨⟨_,SqL.of eL⟩,wD (K:=K) (a:=L) (xs:=zB1 (qs++[(fp,pt3 (ftL e))])) (λi σ H'=>H4=H'/\(∀ j u,j<i->(qs++[(fp,pt3 (ftL e))])[j]?=some u->¬ inW ss u.2)/\∃ u2:Option V,σ=[some (.ref l),some (.ref a),u2])
  ⟨rfl,λj t hj=>absurd hj (Nat.not_lt_zero _),none,rfl⟩ (λi σ H' _ ⟨e1,_⟩=>by rw[<- e1]; exact SqL.of eL) ?_ ?_⟩⟩
 ·rintro i v σ H' hi ⟨rfl,hall,u2,rfl⟩;rw[List.getElem?_map,List.getElem?_map] at hi;cases gu:(qs++[(fp,pt3 (ftL e))])[i]? with
  | none=>rw[gu] at hi; cases hi
  | some u =>
   rw[gu] at hi;cases hi;obtain⟨eu,pu,lu⟩:=okA u (List.mem_of_getElem? gu);exists _,rfl,_,rfl,l,u.1,ss,u.2,rfl,s04.seq hl,ok.same s04,.inr (SqT.of eu),_,rfl;by_cases hw:zGv ss u.2=true
   ·rw[hw];refine uT ?_;have on:sv e u.2=0/\(u.2=pt3 (ftL e)\/∃ t∈ss,tn e t.2≠0/\u.2=pt3 (crL e t.2)):=by
     rcases List.mem_append.mp (List.mem_of_getElem? gu) with hu | hu
     ·obtain⟨h,j,t,_,gt,hp,_,eq⟩:=ends.each u hu;rw[eq];exact⟨(zBi (wI hp)).2.1,.inr ⟨t,List.mem_of_getElem? gt,wI hp,rfl⟩⟩
     ·rw[List.mem_singleton] at hu;rw[hu];exact⟨f1,.inl rfl⟩
    exact⟨_,rfl,q u.1 u.2 _ s04 ⟨eu,pu,lu⟩ (sM.mp hw) on.1 on.2⟩
   ·have hw':zGv ss u.2=false:=by simpa using hw
    rw[hw'];refine vS ?_;refine⟨rfl,λj t hj ht=>?_,_,rfl⟩;by_cases ej:j=i
    ·rw[ej,gu] at ht;cases ht;exact λz=>hw (sM.mpr z)
    ·exact hall j t (by lia) ht
 ·rintro σ H' ⟨rfl,hall,u2,rfl⟩;refine qn _ s04 λz hz zw wz=>?_;have nin:∀ u∈qs++[(fp,pt3 (ftL e))],¬ inW ss u.2:=λu hu=>by
   obtain⟨j,hj,ej⟩:=List.getElem_of_mem hu;exact hall j u (by simp only[List.length_map]; exact hj) (by rw[List.getElem?_eq_getElem hj,ej])
  cases qs with
  | nil =>
   obtain⟨n1,n2⟩:=ends.none rfl;exact nin (fp,pt3 (ftL e)) (by simp) (zNh hN hz zw wz f1 sf.pos n1 n2)
  | cons u us =>
   obtain⟨h,j,t,hh,gt,hp,hb,eq⟩:=ends.each u (List.mem_cons_self ..);refine nin u (by simp) ?_;rw[eq];exact zK6 hh hN hz zw wz gt hp hb
theorem zE3(ss:List Sd)(n:Nat):qJ (zJ ss) none (some (n:Int))=zJ (ss.take n):=by
 unfold qJ;rw[show HT.sIx (zJ ss).length 0 none=0 from rfl,HT.sIx_nat (zJ ss).length (zJ ss).length n,List.drop_zero,Nat.sub_zero];rw[zK];simp only[zJ,<- List.map_take]
 congr 2
 rw[List.take_eq_take_iff];lia
def zBh(K:PySem.W.Frag):Sp:=λvs H Q _=>∃(l:Addr)(ss:List Sd),vs=[.ref l]/\SqL K H l (zJ ss)/\vP H ss/\ss.length<=900 /\
 (∀(t:Addr)(j:Nat)(e:Sd)(P:P3)(H':Hp),zZ H H'->H' t=some (.tup [.non,.int j])->zR0 ss j e P->Q (.ref t) H') /\
 ∀(t p:Addr)(P:P3)(H':Hp),zZ H H'->H' t=some (.tup [.ref p,.non])->zMh H' p P->inW ss P->zSt ss P->Q (.ref t) H'
theorem zJx(F:Fun K "sought" "sought" zAs f fd)(Z:Zs mg)(yCj:Has P w K mg base "holds" 2 ["side", "spot"] (tN K))(yAi:Has P w K mg base "spot_on_edge" 7 ["sides", "edge"] (vB K))(yCl:Has P w K mg base "spot" 4 ["x", "y", "w"] (zCf K)):xK P w K mg base CX0 8 f fd ["sides"] (zBh K):=by
 specialize rQ
 ·obtain⟨l,ss,rfl,_⟩:=h;rfl
 obtain⟨l,ss,rfl,hl,ok,hlen,qn,q⟩:=h
 refine'⟨_,(zG (zX 1 rQ.nd ?_)
   (zG (wU PassesOwn.never rfl (xV rfl Z.range ?_) (yS 2 rQ.nd) (zH (yC ?_ (zG (zX 1 rQ.nd ?_)
   (zH (yC ?_ (zH (zO ?_)) zS))) zS)))
   (zH (zO ?_)))),?_⟩
 nofun
 refine⟨0,0,1,rfl,by decide,by decide +kernel,λp0 H1 s1 hp0 ep0=>?_⟩;have ep0':zMh H1 p0 (0,0,1):=⟨ep0,by decide,by decide⟩;refine⟨_,rfl,l,_,rfl,.inl (s1.seq hl),_,rfl,(by rw[zK]; lia),(by rw[zK]; lia),tS (lo:=0) (n:=(((zJ ss).length:Nat):Int).toNat) (λi σ H'=>zZ H H'/\∃(p:Addr)(P:P3)(u2:Option V),zMh H' p P/\inW (ss.take i) P/\zSt ss P/\σ=[some (.ref l),some (.ref p),u2])
  ⟨s1,p0,(0,0,1),none,ep0',(λt ht=>nomatch ht),.inl rfl,rfl⟩ ?_ ?_⟩
 ·rintro i σ H' hi ⟨sH,p,P,u2,ep,wp,cp,rfl⟩;have hil:i<ss.length:=by rw[Int.toNat_natCast,zK] at hi; exact hi
  obtain⟨t,mt,gt,at'⟩:=yO (ss:=ss) (i:=i) (k:=0+(i:Int)) (by lia) hil;obtain⟨et0,nt,c1,c2,c3⟩:=ok t mt;have et:Sq K H' t.1 [.int t.2.1,.int t.2.2.1,.int t.2.2.2]:=.inr (SqT.of (sH _ _ et0));exists _,rfl,_,rfl,l,_,_,_,rfl,rfl,.inl (sH.seq hl),at',_,rfl,t.1,p,t.2.1,t.2.2.1,t.2.2.2,P.1,P.2.1,P.2.2,rfl,et,.inr (SqT.of ep.1),by lia,by lia,by lia,_,rfl;refine ifN (λhout=>?_) (λhin=>?_)
  ·have hout':0<sv t.2 P:=by
    have:¬ sv t.2 P<=0:=hout;lia
   refine⟨_,rfl,_,rfl,_,rfl,l,_,rfl,sH.seq hl,λc hc=>?_⟩;rw[show(0:Int)+(i:Int)=((i:Nat):Int) from Int.zero_add _,zE3];have sc:=zF hc (.lst (zJ (ss.take i)));have ec:upd H' c (.lst (zJ (ss.take i))) c=some (.lst (zJ (ss.take i))):=zD;generalize upd H' c (.lst (zJ (ss.take i)))=H2 at sc ec ⊢;have sH2:=sH.trans sc;rw[show(0:Int)+(i:Int)=((i:Nat):Int) from Int.zero_add _] at at';refine⟨_,rfl,_,rfl,l,_,_,_,rfl,rfl,.inl (sH2.seq hl),at',c,t.1,ss.take i,t.2,rfl,SqL.of ec,(λu hu=>ok.same sH2 u (List.mem_of_mem_take hu)),by rw[List.length_take]; lia,et.same sc,nt,c1,c2,c3,λH3 s3 no=>?_,λp3 P3' H3 s3 ep3 wp3 on3 cd3=>?_⟩
   ·exists _,rfl,rfl,_,rfl;refine uT ?_;refine⟨_,rfl,sz2,λtt htt=>?_⟩;exact qn tt i t P _ ((sH2.trans s3).trans (zF htt _)) zD ⟨gt,ep.2.1,wp,hout',no⟩
   ·exists _,rfl,rfl,_,rfl;refine vS ?_;refine⟨sH2.trans s3,p3,P3',_,ep3,λu hu=>?_,?_,rfl⟩
    ·rw[yP gt] at hu;rcases List.mem_append.mp hu with hu | hu
     ·exact wp3 u hu
     ·rw[List.mem_singleton] at hu;rw[hu,on3];exact Int.le_refl _
    ·rcases cd3 with h | ⟨u,hu,ht,h⟩
     ·exact .inr (.inl ⟨t,mt,h⟩)
     ·exact .inr (.inr ⟨t,mt,u,List.mem_of_mem_take hu,ht,h⟩)
  ·refine⟨sH,p,P,_,ep,λu hu=>?_,cp,rfl⟩;rw[yP gt] at hu;rcases List.mem_append.mp hu with hu | hu
   ·exact wp u hu
   ·rw[List.mem_singleton] at hu;rw[hu];exact hin
 ·rintro σ H' ⟨sH,p,P,u2,ep,wp,cp,rfl⟩;rw[Int.toNat_natCast,zK,List.take_length] at wp;refine⟨_,rfl,sz2,λtt htt=>?_⟩;have st:=zF htt (.tup [.ref p,.non]);exact q tt p P _ (sH.trans st) zD (ep.same st) wp cp
def sU(K:PySem.W.Frag):Sp:=λvs H Q _=>∃(l:Addr)(ss:List Sd),vs=[.ref l]/\SqL K H l (zJ ss)/\vP H ss/\ss.length<=900 /\
 (∀ H':Hp,zZ H H'->(∀ z:P3,0<z.2.2->¬ inW ss z)->Q .non H') /\
 ∀(p:Addr)(P:P3)(H':Hp),zZ H H'->zMh H' p P->inW ss P->zSt ss P->Q (.ref p) H'
theorem zF0(F:Fun K "some_spot" "some_spot" vZ f fd)(Z:Zs mg)(yBn:Has P w K mg base "sought" 8 ["sides"] (zBh K)):xK P w K mg base CX0 9 f fd ["sides"] (sU K):=by
 specialize zFv
 ·obtain⟨l,ss,rfl,_⟩:=h;rfl
 obtain⟨l,ss,rfl,hl,ok,hlen,qn,q⟩:=h
 refine'⟨_,(zH (zO ?_)),?_⟩
 nofun
 refine⟨_,rfl,l,ss,rfl,hl,ok,hlen,λt j e P H' sH et st=>?_,λt p P H' sH et ep wp cp=>?_⟩
 ·exact⟨t,_,_,.non,rfl,rfl,.inr (SqT.of et),rfl,qn H' sH st.none⟩
 ·exact⟨t,_,_,.ref p,rfl,rfl,.inr (SqT.of et),rfl,q p P H' sH ep wp cp⟩
def zBb(K:PySem.W.Frag):Sp:=λvs H Q _=>∃(l d:Addr)(ss:List Sd)(x y:Int),vs=[.ref l,.ref d]/\SqL K H l (zJ ss)/\vP H ss/\Sq K H d [.int x,.int y]/\Q (.bl (rS ss x y)) H
theorem zJ6(F:Fun K "is_way" "is_way" zAp f fd)(Z:Zs mg)(yBy:Has P w K mg base "along" 1 ["one", "other"] (vD K)):xK P w K mg base CX0 2 f fd ["sides", "direction"] (zBb K):=by
 specialize zE6
 ·obtain⟨l,d,ss,x,y,rfl,_⟩:=h;rfl
 obtain⟨l,d,ss,x,y,rfl,hl,ok,hd,q⟩:=h
 refine'⟨_,(zG (wU PassesOwn.never rfl (xC (pv 0)) (yS 2 zE6.nd) (zH (yC ?_ (zH (zO vR)) zS)))
   (zH (zO vR))),?_⟩
 nofun
 refine⟨_,rfl,l,rfl,.inl ⟨⟨_,hl⟩,wD (K:=K) (a:=l) (xs:=zJ ss) (λi σ H'=>H'=H/\(∀ j t,j<i->ss[j]?=some t->t.2.1*x+t.2.2.1*y<=0)/\∃ u2:Option V,σ=[some (.ref l),some (.ref d),u2])
  ⟨rfl,λj t hj=>absurd hj (Nat.not_lt_zero _),none,rfl⟩ (λi σ H' _ ⟨e,_⟩=>by rw[e]; exact hl) ?_ ?_⟩⟩
 ·rintro i v σ H' hi ⟨rfl,hall,u2,rfl⟩;obtain⟨t,gt,rfl,hil⟩:=xZ hi;obtain⟨et,_,b1,b2,_⟩:=ok t (List.mem_of_getElem? gt);exists _,rfl,_,rfl,t.1,d,_,_,t.2.1,t.2.2.1,x,y,rfl,.inr (SqT.of et),hd,rfl,rfl,rfl,rfl,by lia,by lia,_,_,rfl,rfl,_,rfl;refine ifD (λhpos=>?_) (λhneg=>?_)
  ·have e:rS ss x y=false:=by
    unfold rS;rw[Bool.eq_false_iff];intro z;have z2:=of_decide_eq_true (List.all_eq_true.mp z t (List.mem_of_getElem? gt));lia
   rw[e] at q;exact q
  ·refine⟨rfl,λj t' hj ht'=>?_,_,rfl⟩;by_cases e:j=i
   ·rw[e,gt] at ht';cases ht';lia
   ·exact hall j t' (by lia) ht'
 ·rintro σ H' ⟨rfl,hall,u2,rfl⟩;have e:rS ss x y=true:=by
   unfold rS;rw[List.all_eq_true];intro t ht;obtain⟨j,hj,ej⟩:=List.getElem_of_mem ht;exact decide_eq_true (hall j t (by rw[zK]; exact hj) (by rw[List.getElem?_eq_getElem hj,ej]))
  rw[e] at q;exact q
def zHz(K:PySem.W.Frag):Sp:=λvs H Q _=>∃(l:Addr)(ss:List Sd),vs=[.ref l]/\SqL K H l (zJ ss)/\vP H ss/\ss.length<=400 /\
 ∀(p:Addr)(us:List (Addr×List Int))(H':Hp),zZ H H'->H p=none->zVi H' p ss us->Q (.ref p) H'
theorem zNj(F:Fun K "ways" "ways" zDr f fd)(Z:Zs mg)(yBv:Has P w K mg base "is_way" 2 ["sides", "direction"] (zBb K))(yCe:Has P w K mg base "plain" 3 ["direction"] (zCx K)):xK P w K mg base CX0 4 f fd ["sides"] (zHz K):=by
 specialize zBu
 ·obtain⟨l,ss,rfl,_⟩:=h;rfl
 obtain⟨l,ss,rfl,hl,ok,h31,q⟩:=h;have nz:∀ t∈ss,t.2.1≠0\/t.2.2.1≠0:=λt ht=>(ok t ht).2.1;have hu1:=Nat.lt_of_le_of_lt (Nat.add_le_add_left (show 1<=64 by decide) _) hr.units
 refine'⟨_,(zG (zX 1 zBu.nd zQx)
   (zG (wU PassesOwn.never rfl (xC (pv 0)) (yS 2 zBu.nd) (zH (wU PassesOwn.never rfl (zHi ?_) (yS 3 zBu.nd) (zH (yC ?_ (zH (zTq hu1 (pv 1) ?_ vR rfl)) zS)))))
   (zH (zO (wM zC6 rfl Z.sorted zBw (zU (zFh (zIf rfl) rfl Z.list zKi (zU (pv 1) yH)) yH)))))),?_⟩
 nofun
 refine λd hd=>?_;have two:∀ k,WK ss ss.length k->k.length=1+1:=λk ⟨_,t,_,_,h⟩=>by
  rcases h with ⟨e,_⟩ | ⟨e,_⟩ <;> rw[e] <;> rfl
 refine⟨_,rfl,l,rfl,.inl ⟨⟨_,(zF hd _).seq hl⟩,wD (K:=K) (a:=l) (xs:=zJ ss) (λi σ H'=>zZ H H'/\(∃ kvs ks,H' d=some (.dT kvs)/\zO0 kvs ks/\ks.length<=2*i/\∀ k,k∈ks↔WK ss i k)/\∃ u2 u3:Option V,σ=[some (.ref l),some (.ref d),u2,u3])
  ⟨zF hd _,⟨[],[],zD,.nil,Nat.le_refl _,λk=>⟨(λz=>nomatch z),λz=>absurd z (zUo ss k)⟩⟩,none,none,rfl⟩ (λi σ H' _ ⟨e,_⟩=>e.seq hl) ?_ ?_⟩⟩
 ·rintro i v σ H' hi ⟨sH,⟨kvs,ks,eD,tk,hks,mem⟩,u2,u3,rfl⟩;obtain⟨t,gt,rfl,hil⟩:=xZ hi;obtain⟨et0,nt,b1,b2,_⟩:=ok t (List.mem_of_getElem? gt);have et:=sH _ _ et0;have st:Sq K H' t.1 [.int t.2.1,.int t.2.2.1,.int t.2.2.2]:=.inr (SqT.of et);refine⟨_,rfl,t.1,_,_,.int t.2.2.1,rfl,rfl,st,rfl,_,rfl,_,rfl,t.1,_,_,.int t.2.1,rfl,rfl,st,rfl,sz2,λp1 hp1=>?_⟩;have sp1:zZ H' (upd H' p1 (.tup [.int (-t.2.2.1),.int t.2.1])):=zF hp1 _;have ep1:upd H' p1 (.tup [.int (-t.2.2.1),.int t.2.1]) p1=some (.tup [.int (-t.2.2.1),.int t.2.1]):=zD;generalize upd H' p1 (.tup [.int (-t.2.2.1),.int t.2.1])=G1 at sp1 ep1 ⊢;have st1:=st.same sp1;refine⟨_,rfl,t.1,_,_,.int t.2.2.1,rfl,rfl,st1,rfl,_,rfl,t.1,_,_,.int t.2.1,rfl,rfl,st1,rfl,_,rfl,sz2,λp2 hp2=>?_⟩;have sp2:zZ G1 (upd G1 p2 (.tup [.int t.2.2.1,.int (-t.2.1)])):=zF hp2 _;have ep2:upd G1 p2 (.tup [.int t.2.2.1,.int (-t.2.1)]) p2=some (.tup [.int t.2.2.1,.int (-t.2.1)]):=zD;generalize upd G1 p2 (.tup [.int t.2.2.1,.int (-t.2.1)])=G2 at sp2 ep2 ⊢;refine⟨sz2,λpl hpl=>?_⟩;have spl:zZ G2 (upd G2 pl (.lst [.ref p1,.ref p2])):=zF hpl _;have epl:upd G2 pl (.lst [.ref p1,.ref p2]) pl=some (.lst [.ref p1,.ref p2]):=zD;have sAll:=(sp1.trans sp2).trans spl;have ep1':=spl _ _ (sp2 _ _ ep1);have ep2':=spl _ _ ep2;have eD':=sAll _ _ eD;generalize upd G2 pl (.lst [.ref p1,.ref p2])=G3 at spl epl sAll ep1' ep2' eD' ⊢;have npl:pl≠d:=λz=>by rw[z] at epl; rw[epl] at eD'; cases eD'
  refine⟨pl,rfl,⟨_,SqL.of epl⟩,wD (K:=K) (a:=pl) (xs:=[.ref p1,.ref p2]) (λj σ H'=>zZ H H'/\H' pl=some (.lst [.ref p1,.ref p2])/\H' p1=some (.tup [.int (-t.2.2.1),.int t.2.1])/\H' p2=some (.tup [.int t.2.2.1,.int (-t.2.1)]) /\
    (∃ kvs ks,H' d=some (.dT kvs)/\zO0 kvs ks/\ks.length<=2*i+j/\∀ k,k∈ks↔WK ss i k\/(0<j/\k=vK [-t.2.2.1,t.2.1]/\rS ss (-t.2.2.1) t.2.1=true)\/(1<j/\k=vK [t.2.2.1,-t.2.1]/\rS ss t.2.2.1 (-t.2.1)=true))/\∃ u3:Option V,σ=[some (.ref l),some (.ref d),some (.ref t.1),u3])
   ⟨sH.trans sAll,epl,ep1',ep2',⟨kvs,ks,eD',tk,by lia,λk=>(mem k).trans ⟨.inl,λz=>by
    rcases z with z | ⟨z,_⟩ | ⟨z,_⟩
    ·exact z
    ·exact absurd z (Nat.not_lt_zero _)
    ·exact absurd z (Nat.not_lt_zero _)⟩⟩,_,rfl⟩ (λi σ H' _ ⟨_,e,_⟩=>SqL.of e) ?_ ?_⟩
  ·rintro j v σ H4 hj ⟨s4,e4l,e41,e42,⟨kvs,ks,eD4,tk,hks4,mem⟩,u3,rfl⟩;have hj2:j<2:=(List.getElem?_eq_some_iff.mp hj).1;obtain⟨pj,X,Y,rfl,epj,hXY,hn,bX,bY⟩:∃(pj:Addr)(X Y:Int),v=.ref pj/\H4 pj=some (.tup [.int X,.int Y])/\((j=0/\X = -t.2.2.1/\Y=t.2.1)\/(j=1/\X=t.2.2.1/\Y = -t.2.1))/\(X≠0\/Y≠0)/\X.natAbs<=10^9/\Y.natAbs<=10^9:=by
    match j,hj with
    | 0,h=>cases h; exact⟨p1,_,_,rfl,e41,.inl ⟨rfl,rfl,rfl⟩,by lia,by lia,by lia⟩
    | 1,h=>cases h; exact⟨p2,_,_,rfl,e42,.inr ⟨rfl,rfl,rfl⟩,by lia,by lia,by lia⟩
   have step:∀ k,(k=vK [X,Y]/\rS ss X Y=true)\/(WK ss i k\/(0<j/\k=vK [-t.2.2.1,t.2.1]/\rS ss (-t.2.2.1) t.2.1=true)\/(1<j/\k=vK [t.2.2.1,-t.2.1]/\rS ss t.2.2.1 (-t.2.1)=true)) ↔
     WK ss i k\/(0<j+1/\k=vK [-t.2.2.1,t.2.1]/\rS ss (-t.2.2.1) t.2.1=true)\/(1<j+1/\k=vK [t.2.2.1,-t.2.1]/\rS ss t.2.2.1 (-t.2.1)=true):=λk=>by
    rcases hXY with ⟨rfl,rfl,rfl⟩ | ⟨rfl,rfl,rfl⟩
    ·constructor
     ·rintro(h | h | h | h)
      ·exact .inr (.inl ⟨by decide,h⟩)
      ·exact .inl h
      ·exact absurd h.1 (by decide)
      ·exact absurd h.1 (by decide)
     ·rintro(h | h | h)
      ·exact .inr (.inl h)
      ·exact .inl h.2
      ·exact absurd h.1 (by decide)
    ·constructor
     ·rintro(h | h | h | h)
      ·exact .inr (.inr ⟨by decide,h⟩)
      ·exact .inl h
      ·exact .inr (.inl ⟨by decide,h.2⟩)
      ·exact absurd h.1 (by decide)
     ·rintro(h | h | h)
      ·exact .inr (.inl h)
      ·exact .inr (.inr (.inl ⟨by decide,h.2⟩))
      ·exact .inl h.2
   obtain⟨gp,g6⟩:=gcd2 hn bX bY;exists _,rfl,_,rfl,l,pj,ss,X,Y,rfl,s4.seq hl,ok.same s4,.inr (SqT.of epj),_,rfl;by_cases hw:rS ss X Y=true
   ·rw[hw];refine uT ?_;refine⟨_,rfl,_,rfl,pj,[X,Y],rfl,.inr (SqT.of epj),by show 2<=1000; decide,gp,g6,λpk G5 s5 hpk epk=>?_⟩;have eD5:=s5 _ _ eD4;obtain⟨ks',tk',mem',len'⟩:=tk.put (vK [X,Y]) (.bl true);have kl:=tk.len;exists d,_,rfl,zVl.t eD5 (by rw[zG4]; exact epk) (by rw[kl]; exact Nat.lt_of_le_of_lt (Nat.le_trans hks4 (show 2*i+j<=1000 by lia)) (by decide));have keepT:∀(b:Addr)(xs:List V),G5 b=some (.tup xs)->upd G5 d (.dT (zLh kvs (zM8 (vK [X,Y])) (.bl true))) b=some (.tup xs):=λb xs e=>by
     rw[yA (tZ e eD5 (by intro z; cases z))];exact e
    refine⟨(s4.trans s5).putNew hd,?_,keepT _ _ (s5 _ _ e41),keepT _ _ (s5 _ _ e42),⟨_,ks',zD,tk',by lia,λk=>?_⟩,_,rfl⟩
    ·rw[yA npl];exact s5 _ _ e4l
    ·rw[mem' k,<- step k,<- mem k];constructor
     ·rintro(h | h)
      ·exact .inr h
      ·exact .inl ⟨h,hw⟩
     ·rintro(h | h)
      ·exact .inr h.1
      ·exact .inl h
   ·have hw':rS ss X Y=false:=by simpa using hw
    rw[hw'];refine vS ?_;refine⟨s4,e4l,e41,e42,⟨kvs,ks,eD4,tk,by lia,λk=>?_⟩,_,rfl⟩;rw[mem k,<- step k];constructor
    ·exact .inr
    ·rintro(h | h)
     ·exact absurd h.2 hw
     ·exact h
  ·rintro σ H4 ⟨s4,_,_,_,⟨kvs,ks,eD4,tk,hks4,mem⟩,u3,rfl⟩;refine⟨s4,⟨kvs,ks,eD4,tk,by show ks.length<=2*(i+1); have:ks.length<=2*i+2:=hks4; lia,λk=>?_⟩,_,_,rfl⟩;rw[mem k,zUk gt];constructor
   ·rintro(h | h | h)
    ·exact .inl h
    ·exact .inr (.inl h.2)
    ·exact .inr (.inr h.2)
   ·rintro(h | h | h)
    ·exact .inl h
    ·exact .inr (.inl ⟨by show 0<2; decide,h⟩)
    ·exact .inr (.inr ⟨by show 1<2; decide,h⟩)
 ·rintro σ H' ⟨sH,⟨kvs,ks,eD,tk,hks,mem⟩,u2,u3,rfl⟩;rw[zK] at hks mem;refine⟨_,rfl,d,kvs,rfl,eD,λp1 ts hp1 ets hts=>?_⟩;have sp1:=zF hp1 (.lst ((ts.map (·.1)).map V.ref));obtain⟨us,u1,u2,u3⟩:=tk.refs ets hts;have few2:=zQt nz tk.nodup λk hk=>(mem k).mp hk;refine⟨p1,us,1,rfl,by rw[u1]; exact SqL.of zD,by have z:=congrArg List.length u2; rw[List.length_map] at z; lia,λt ht=>⟨sp1 _ _ (u3 t ht),?_⟩,λp2 us2 hp2 pm ri=>?_⟩
  ·have z:t.2∈ks:=by rw[<- u2]; exact List.mem_map_of_mem ht
   exact two t.2 ((mem _).mp z)
  have sp2:=zF hp2 (.lst ((us2.map (·.1)).map V.ref));have pm2:(us2.map (·.2)).Perm ks:=by rw[<- u2]; exact pm.map _
  refine q p2 us2 _ (((sH).trans sp1).trans sp2) ((sH).free (sp1.free hp2)) ⟨zD,λu hu=>sp2 _ _ (sp1 _ _ (u3 u (pm.mem_iff.mp hu))),List.pairwise_map.mpr ri,pm2.nodup_iff.mpr tk.nodup,λk=>(pm2.mem_iff).trans (mem k),by have z:=pm2.length_eq; rw[List.length_map] at z; lia⟩
def zFp(K:PySem.W.Frag):Sp:=λvs H Q _=>∃(a:Addr)(us:List V)(x y:Int),vs=[.ref a]/\Sq K H a us/\atI us 0=some (.int x)/\atI us 1=some (.int y)/\Q (.int (xF x y)) H
theorem zNd(F:Fun K "span" "span" zD2 f fd)(Z:Zs mg)  : xK P w K mg base CX0 1 f fd ["direction"] (zFp K):=by
 specialize zPl
 ·obtain⟨a,us,x,y,rfl,_⟩:=h;rfl
 obtain⟨a,us,x,y,rfl,ha,h0,h1,q⟩:=h
 refine'⟨_,(zH (zO ?_)),?_⟩
 nofun
 exact⟨_,rfl,a,_,_,.int x,rfl,rfl,ha,h0,_,rfl,_,rfl,a,_,_,.int y,rfl,rfl,ha,h1,_,rfl,_,_,rfl,rfl,q⟩
def zAh(K:PySem.W.Frag):Sp:=λvs H Q _=>∃(a b:Addr)(ns ws:List Int),vs=[.ref a,.ref b]/\SqL K H a (ns.map V.int)/\SqL K H b (ws.map V.int)/\ns.length=ws.length/\ws.length<=900/\0<yD ws/\(yD ws:Int)<10^600 /\
 ∀(D:Addr)(cs:List Pr)(H':Hp),zZ H H'->H D=none->H' D=some (.lst (zL cs))->zHy H' cs->cs.map (·.2)=ns.zip (vK ws)->Q (.ref D) H'
theorem zIv(F:Fun K "weighed" "weighed" rO f fd)(Z:Zs mg)(yBt:Has P w K mg base "lowest" 2 ["numbers"] (wJ K)):xK P w K mg base CX0 3 f fd ["numbers", "weights"] (zAh K):=by
 specialize zC9
 ·obtain⟨a,b,ns,ws,rfl,_⟩:=h;rfl
 obtain⟨a,b,ns,ws,rfl,ha,hb,hn,hl,hg,hg2,q⟩:=h
 refine'⟨_,(zG (zX 2 zC9.nd ?_)
   (zH (zO (xJ (T:=["at"]) (caps:=[("least", 2),("numbers", 0)]) ⟨rfl,by decide +kernel,by decide +kernel,rfl,⟨⟨rfl,rfl,Or.inl rfl⟩,⟨rfl,rfl,Or.inl rfl⟩,True.intro⟩⟩ rfl (xV rfl Z.range ?_) (λ_=>(yS 0 (show(["at", "least", "numbers"]:List Str).Nodup by decide +kernel))) (λ_=>yF) (λ_=>?_))))),?_⟩
 nofun
 refine⟨_,rfl,b,ws,rfl,.inl hb,by lia,hg,hg2,λp H1 s1 hp ep=>?_⟩;have hlow:(vK ws).length=ws.length:=by unfold vK; rw[List.length_map]
 have ha1:=s1.seq ha;refine⟨_,rfl,a,_,rfl,.inl ha1,_,rfl,(by rw[List.length_map]; lia),(by rw[List.length_map]; lia),λcc D hD=>tY (lo:=0) (n:=(((ns.map V.int).length:Nat):Int).toNat) (λi σ ys G=>zZ H1 G/\G D=some (.lst ys)/\(∃ cs:List Pr,ys=zL cs/\zHy G cs/\cs.map (·.2)=(ns.zip (vK ws)).take i)/\∃ u0:Option V,σ=[u0,some (.ref p),some (.ref a)])
  ⟨zF hD _,zD,⟨[],rfl,(λt ht=>nomatch ht),rfl⟩,none,rfl⟩ (λi σ ys G _ ⟨_,e,_⟩=>e) ?_ ?_⟩
 ·rintro i σ ys G hi ⟨sG,eD,⟨cs,rfl,okc,mc⟩,u0,rfl⟩;rw[Int.toNat_natCast,List.length_map] at hi;have lc:cs.length<=i:=by
   have z:=congrArg List.length mc;rw[List.length_map,List.length_take] at z;lia
  obtain⟨n,gn,an⟩:=zNz (ns:=ns) (i:=i) (k:=0+(i:Int)) (by lia) hi;obtain⟨m,gm,am⟩:=zNz (ns:=vK ws) (i:=i) (k:=0+(i:Int)) (by lia) (by lia);refine⟨_,rfl,_,rfl,a,_,_,_,rfl,rfl,.inl (sG.seq ha1),an,_,rfl,_,rfl,p,_,_,_,rfl,rfl,.inr (SqT.of (sG _ _ ep)),am,sz2,λt ht=>?_⟩;have st:=zF ht (.tup [.int n,.int m]);have ntD:t≠D:=λz=>by rw[z,eD] at ht; cases ht
  refine⟨st _ _ eD,zV (by rw[zQ]; lia),(sG.trans st).putNew hD,zD,⟨cs++[(t,n,m)],by simp[zL],λu hu=>?_,?_⟩,_,rfl⟩
  ·rcases List.mem_append.mp hu with hu | hu
   ·rw[yA (tZ (st _ _ (okc u hu)) (st _ _ eD) (by intro z; cases z))];exact st _ _ (okc u hu)
   ·rw[List.mem_singleton] at hu;subst hu;show upd _ D _ t=_;rw[yA ntD];exact zD
  ·rw[List.map_append,mc,yP (x:=(n,m)) (by rw[List.getElem?_zip_eq_some]; exact⟨gn,gm⟩)];rfl
 ·rintro σ ys G ⟨sG,eD,⟨cs,rfl,okc,mc⟩,u0,rfl⟩;rw[Int.toNat_natCast,List.length_map,List.take_of_length_le (by rw[List.length_zip]; lia)] at mc;exact q D cs G (s1.trans sG) (s1.free hD) eD okc mc
theorem zPa{a b c d:Int}(ha:a.natAbs<=10^9)(hb:b.natAbs<=10^9)(hc:c.natAbs<=10^9)(hd:d.natAbs<=10^9):zCd (a*b-c*d)<=10^19:=by
 have z1:=zI a b ha hb;have z2:=zI c d hc hd;unfold zCd;split <;> lia
def tV(K:PySem.W.Frag):Sp:=λvs H Q _=>∃(l:Addr)(ss:List Sd)(j:Nat)(e:Sd)(P:P3),vs=[.ref l,.int j]/\SqL K H l (zJ ss)/\vP H ss/\ss.length<=900/\zR0 ss j e P/\(∀ t∈ss.take j,tn e.2 t.2=0->sv t.2 (pt3 (ftL e.2))<=0) /\
 ∀(D:Addr)(cs:List Pr)(H':Hp),zZ H H'->H D=none->H' D=some (.lst (zL cs))->zHy H' cs->zA0 ss (cs.map (·.2))->Q (.ref D) H'
theorem zBf(F:Fun K "clash_of_three" "clash_of_three" wC f fd)(Z:Zs mg)(yBj:Has P w K mg base "weighed" 3 ["numbers", "weights"] (zAh K))(yCq:Has P w K mg base "turn" 1 ["one", "other"] (uK K))(yBg:Has P w K mg base "edge_end" 5 ["sides", "edge", "hand"] (tD K)):xK P w K mg base CX0 6 f fd ["sides", "last"] (tV K):=by
 specialize yR
 ·obtain⟨l,ss,j,e,P,rfl,_⟩:=h;rfl
 obtain⟨l,ss,j,e,P,rfl,hl,ok,hlen,st,bes,q⟩:=h;have hj:j<ss.length:=(List.getElem?_eq_some_iff.mp st.at').1;obtain⟨e',me,ge,at'⟩:=yO (ss:=ss) (i:=j) (k:=(j:Int)) rfl hj;rw[st.at'] at ge;cases ge;obtain⟨ee,ne,c1,c2,c3⟩:=ok e me;have hN:=qA ne;obtain⟨sf,f1⟩:=zTu ne
 refine'⟨_,(zG (zX 2 yR.nd ?_)
   (zG (zX 3 yR.nd (wM zI1 rfl Z.sorted zBw ?_))
   (zG (zX 4 yR.nd ?_)
   (zG (zX 5 yR.nd ?_)
   (zG (zX 6 yR.nd ?_)
   (zH (zO (xG yBj (hr.mono (by decide)) rfl (zU (xH uH (pv 3) ?_) (zU (pv 6) yH)))))))))),?_⟩
 nofun
 exists _,rfl,_,rfl,l,_,_,_,rfl,rfl,.inl hl,at';refine⟨_,rfl,_,rfl,_,rfl,l,_,rfl,hl,λc hc=>?_⟩;rw[zE3];have sc:=zF hc (.lst (zJ (ss.take j)));have ec:upd H c (.lst (zJ (ss.take j))) c=some (.lst (zJ (ss.take j))):=zD;generalize upd H c (.lst (zJ (ss.take j)))=H1 at sc ec ⊢;refine⟨_,rfl,_,rfl,c,e.1,ss.take j,e.2,-1,rfl,SqL.of ec,(λu hu=>ok.same sc u (List.mem_of_mem_take hu)),by rw[List.length_take]; lia,.inr (SqT.of (sc _ _ ee)),ne,c1,c2,c3,.inr rfl,λr1 H2 s2 k1=>?_⟩;have sH2:=sc.trans s2;refine⟨_,rfl,_,rfl,_,rfl,l,_,rfl,sH2.seq hl,λd hd=>?_⟩;rw[zE3];have sd:=zF hd (.lst (zJ (ss.take j)));have ed:upd H2 d (.lst (zJ (ss.take j))) d=some (.lst (zJ (ss.take j))):=zD;generalize upd H2 d (.lst (zJ (ss.take j)))=H3 at sd ed ⊢;have sH3:=sH2.trans sd;refine⟨_,rfl,d,e.1,ss.take j,e.2,1,rfl,SqL.of ed,(λu hu=>ok.same sH3 u (List.mem_of_mem_take hu)),by rw[List.length_take]; lia,.inr (SqT.of (sH3 _ _ ee)),ne,c1,c2,c3,.inl rfl,λr2 H4 s4 k2=>?_⟩;have sH4:=sH3.trans s4;obtain⟨i1,rfl⟩:∃ i1,r1=some i1:=by
  cases r1 with
  | some i1=>exact⟨i1,rfl⟩
  | none=>exact(zK1 (h:=-1) (by decide) hN f1 sf.pos st.no bes k1 (show zDj (ss.take j) e.2 (- -1) r2 from k2)).elim
 obtain⟨i2,rfl⟩:∃ i2,r2=some i2:=by
  cases r2 with
  | some i2=>exact⟨i2,rfl⟩
  | none=>exact(zK1 (h:=1) (by decide) hN f1 sf.pos st.no bes k2 k1).elim
 obtain⟨a,ga,ha,ta⟩:=k1;obtain⟨b,gb,hb,tb⟩:=k2;refine⟨sz2,λnl hnl=>?_⟩;have snl:zZ H4 (upd H4 nl (.lst [zHp (some i1),zHp (some i2)])):=zF hnl _;have enl:upd H4 nl (.lst [zHp (some i1),zHp (some i2)]) nl=some (.lst ([(i1:Int),(i2:Int)].map V.int)):=zD;generalize upd H4 nl (.lst [zHp (some i1),zHp (some i2)])=H5 at snl enl ⊢;have sH5:=sH4.trans snl;refine⟨nl,[(i1:Int),(i2:Int)],rfl,SqL.of enl,(by show 2<64; decide),λsn ms hsn pm pw=>?_⟩;have di:i1≠i2:=λz=>by
  rw[z,gb] at ga;cases ga;lia
 obtain⟨x,y,s1,t1,h,rfl,hxy,gx,gy,h1,hs1,ht1,as1,at1⟩:∃(x y:Nat)(s1 t1:Sd)(h:Int),ms=[(x:Int),(y:Int)]/\x<y/\(ss.take j)[x]?=some s1/\(ss.take j)[y]?=some t1/\(h=1\/h = -1)/\0<tn e.2 s1.2*h/\0<tn e.2 t1.2 * -h /\
   (∀ u∈ss.take j,0<tn e.2 u.2*h->sv u.2 (pt3 (crL e.2 s1.2))<=0)/\(∀ u∈ss.take j,0<tn e.2 u.2 * -h->sv u.2 (pt3 (crL e.2 t1.2))<=0):=by
  rcases zM4 pm pw with ⟨rfl,le⟩ | ⟨rfl,le⟩
  ·exact⟨i1,i2,a,b,-1,rfl,by lia,ga,gb,.inr rfl,ha,hb,ta,tb⟩
  ·exact⟨i2,i1,b,a,1,rfl,by lia,gb,ga,.inl rfl,hb,ha,tb,ta⟩
 have hh:h*h=1:=by rcases h1 with rfl | rfl <;> rfl
 obtain⟨A1,A2,A3,A4⟩:=three hh hN f1 sf.pos st.no bes (List.mem_of_getElem? gx) (List.mem_of_getElem? gy) hs1 ht1 as1 at1 st.pos st.ahead st.out;have gx':ss[x]?=some s1/\x<j:=by
  rw[List.getElem?_take] at gx;split at gx
  ·exact⟨gx,by lia⟩
  ·cases gx
 have gy':ss[y]?=some t1/\y<j:=by
  rw[List.getElem?_take] at gy;split at gy
  ·exact⟨gy,by lia⟩
  ·cases gy
 obtain⟨_,mx,gx2,atx⟩:=yO (ss:=ss) (i:=x) (k:=(x:Int)) rfl (by lia);rw[gx'.1] at gx2;cases gx2;obtain⟨_,my,gy2,aty⟩:=yO (ss:=ss) (i:=y) (k:=(y:Int)) rfl (by lia);rw[gy'.1] at gy2;cases gy2;obtain⟨es,ns,d1,d2,d3⟩:=ok s1 mx;obtain⟨et,nt,g1,g2,g3⟩:=ok t1 my;have ssn:zZ H5 (upd H5 sn (.lst ([(x:Int),(y:Int)].map V.int))):=zF hsn _;have esn:upd H5 sn (.lst ([(x:Int),(y:Int)].map V.int)) sn=some (.lst ([(x:Int),(y:Int)].map V.int)):=zD;generalize upd H5 sn (.lst ([(x:Int),(y:Int)].map V.int))=H6 at ssn esn ⊢;have sH6:=sH5.trans ssn;have hl6:Sq K H6 l (zJ ss):=.inl (sH6.seq hl);have ee6:Sq K H6 e.1 [.int e.2.1,.int e.2.2.1,.int e.2.2.2]:=.inr (SqT.of (sH6 _ _ ee));have es6:Sq K H6 s1.1 [.int s1.2.1,.int s1.2.2.1,.int s1.2.2.2]:=.inr (SqT.of (sH6 _ _ es));have et6:Sq K H6 t1.1 [.int t1.2.1,.int t1.2.2.1,.int t1.2.2.2]:=.inr (SqT.of (sH6 _ _ et));exists _,rfl,_,rfl,sn,_,_,.int (x:Int),rfl,rfl,.inl (SqL.of esn),rfl,l,_,_,_,rfl,rfl,hl6,atx;exists _,rfl,_,rfl,sn,_,_,.int (y:Int),rfl,rfl,.inl (SqL.of esn),rfl,l,_,_,_,rfl,rfl,hl6,aty;refine⟨_,rfl,_,rfl,t1.1,e.1,_,_,t1.2.1,t1.2.2.1,e.2.1,e.2.2.1,rfl,et6,ee6,rfl,rfl,rfl,rfl,by lia,by lia,_,rfl,
  _,rfl,_,rfl,e.1,s1.1,_,_,e.2.1,e.2.2.1,s1.2.1,s1.2.2.1,rfl,ee6,es6,rfl,rfl,rfl,rfl,by lia,by lia,_,rfl,
  _,rfl,_,rfl,s1.1,t1.1,_,_,s1.2.1,s1.2.2.1,t1.2.1,t1.2.2.1,rfl,es6,et6,rfl,rfl,rfl,rfl,by lia,by lia,_,rfl,sz3,λwl hwl=>?_⟩
 refine⟨_,rfl,_,rfl,sz1,λol hol=>?_⟩;have swl:=zF hwl (.lst ([zCd (tn t1.2 e.2),zCd (tn e.2 s1.2),zCd (tn s1.2 t1.2)].map V.int));have sol:=zF hol (.lst [.int (j:Int)]);refine⟨sn,ol,_,_,rfl,rfl,sol _ _ (swl _ _ esn),zD,small (by show 2+1<=1000; decide),λnc hnc=>?_⟩;have snc:=zF hnc (.lst ([(x:Int),(y:Int),(j:Int)].map V.int));have pU:0<zCd (tn t1.2 e.2):=by rw[xU h1 A1]; exact A1
 have pV:0<zCd (tn e.2 s1.2):=by rw[xU h1 A2]; exact A2
 have pX:0<zCd (tn s1.2 t1.2):=by rw[xU h1 A3]; exact A3
 have bU:zCd (tn t1.2 e.2)<=10^19:=zPa g1 c2 g2 c1;have bV:zCd (tn e.2 s1.2)<=10^19:=zPa c1 d2 c2 d1;have bX:zCd (tn s1.2 t1.2)<=10^19:=zPa d1 g2 d2 g1;have gk:=zSq (ws:=[zCd (tn t1.2 e.2),zCd (tn e.2 s1.2),zCd (tn s1.2 t1.2)]) (List.mem_cons_self ..) pU (by lia);refine⟨_,rfl,nc,wl,[(x:Int),(y:Int),(j:Int)],[zCd (tn t1.2 e.2),zCd (tn e.2 s1.2),zCd (tn s1.2 t1.2)],rfl,SqL.of zD,SqL.of (snc _ _ (sol _ _ zD)),rfl,(by show 3<=900; decide),gk.1,gk.2,λD cs H' s' hD eD okc mc=>?_⟩;have sAll:=((swl.trans sol).trans snc).trans s';have sBack:=(swl.trans sol).trans snc;refine q D cs H' (sH6.trans sAll) (sH6.free (sBack.free hD)) eD okc ?_;rw[mc];obtain⟨w1,w2⟩:=zL3 s1.2 t1.2 e.2;have f:∀ a b c:Int,tn t1.2 e.2*h*a+tn e.2 s1.2*h*b+tn s1.2 t1.2*h*c=(tn t1.2 e.2*a+tn e.2 s1.2*b+tn s1.2 t1.2*c)*h:=λa b c=>by
  rw[Int.add_mul,Int.add_mul,Int.mul_right_comm,Int.mul_right_comm (tn e.2 s1.2),Int.mul_right_comm (tn s1.2 t1.2)]
 refine zJz hxy gy'.2 gx'.1 gy'.1 st.at' pU pV pX bU bV bX ?_ ?_ ?_
 ·rw[xU h1 A1,xU h1 A2,xU h1 A3,f];have w1':tn t1.2 e.2*s1.2.1+tn e.2 s1.2*t1.2.1+tn s1.2 t1.2*e.2.1=0:=w1;rw[w1',Int.zero_mul]
 ·rw[xU h1 A1,xU h1 A2,xU h1 A3,f];have w2':tn t1.2 e.2*s1.2.2.1+tn e.2 s1.2*t1.2.2.1+tn s1.2 t1.2*e.2.2.1=0:=w2;rw[w2',Int.zero_mul]
 ·rw[xU h1 A1,xU h1 A2,xU h1 A3,f];exact A4
def zC2(K:PySem.W.Frag):Sp:=λvs H Q _=>∃(l:Addr)(ss:List Sd),vs=[.ref l]/\SqL K H l (zJ ss)/\vP H ss/\ss.length<=900 /\
 (∀(P:P3)(H':Hp),zZ H H'->0<P.2.2->inW ss P->zSt ss P->Q .non H') /\
 ∀(D:Addr)(cs:List Pr)(H':Hp),zZ H H'->H D=none->H' D=some (.lst (zL cs))->zHy H' cs->zA0 ss (cs.map (·.2))->Q (.ref D) H'
theorem zMo(F:Fun K "clash" "clash" zCo f fd)(Z:Zs mg)(yAd:Has P w K mg base "clash_of_three" 6 ["sides", "last"] (tV K))(yCq:Has P w K mg base "turn" 1 ["one", "other"] (uK K))(yCj:Has P w K mg base "holds" 2 ["side", "spot"] (tN K))(yCo:Has P w K mg base "foot" 5 ["side"] (zEu K))(yBj:Has P w K mg base "weighed" 3 ["numbers", "weights"] (zAh K))(yCs:Has P w K mg base "span" 1 ["direction"] (zFp K))(yBn:Has P w K mg base "sought" 8 ["sides"] (zBh K)):xK P w K mg base CX0 9 f fd ["sides"] (zC2 K):=by
 specialize rH
 ·obtain⟨l,ss,rfl,_⟩:=h;rfl
 obtain⟨l,ss,rfl,hl,ok,hlen,qn,q⟩:=h
 refine'⟨_,(zG (zX 1 rH.nd ?_)
   (zG (yC ?_ (zH (zO uW)) zS)
   (zG (zX 2 rH.nd ?_)
   (zG (wU PassesOwn.never rfl (xV rfl Z.range (zU (pv 1) yH)) (yS 3 rH.nd) (zG (zX 4 rH.nd ?_)
   (zH (yC ?_ (zH (zO ?_)) zS))))
   (zH (zO ?_)))))),?_⟩
 nofun
 refine⟨_,rfl,l,ss,rfl,hl,ok,hlen,λt j e P H1 s1 et st=>?_,λt p P H1 s1 et ep wp cp=>?_⟩
 ·exists t,_,_,.int j,rfl,rfl,.inr (SqT.of et),rfl;exists _,rfl,rfl,_,rfl;refine vS ?_;have hj:j<ss.length:=(List.getElem?_eq_some_iff.mp st.at').1;obtain⟨e',me,ge,at'⟩:=yO (ss:=ss) (i:=j) (k:=(j:Int)) rfl hj;rw[st.at'] at ge;cases ge;obtain⟨ee,ne,c1,c2,c3⟩:=ok e me;have hN:=qA ne;obtain⟨sf,f1⟩:=zTu ne;exists _,rfl,_,rfl,l,_,_,_,rfl,rfl,.inl (s1.seq hl),at';refine⟨_,rfl,_,rfl,(by lia),(by lia),tS (lo:=0) (n:=((j:Nat):Int).toNat) (λi σ H'=>zZ H1 H'/\(∀ u∈ss.take i,tn e.2 u.2=0->sv u.2 (pt3 (ftL e.2))<=0)/\∃ u3 u4:Option V,σ=[some (.ref l),some (.int j),some (.ref e.1),u3,u4])
   ⟨zZ.refl _,(λt ht=>nomatch ht),none,none,rfl⟩ ?_ ?_⟩
  ·rintro i σ H' hi ⟨sH,bes,u3,u4,rfl⟩;rw[Int.toNat_natCast] at hi;obtain⟨u,mu,gu,atu⟩:=yO (ss:=ss) (i:=i) (k:=0+(i:Int)) (by lia) (by lia);obtain⟨eu0,nu,d1,d2,d3⟩:=ok u mu;have s0:=s1.trans sH;have eu:Sq K H' u.1 [.int u.2.1,.int u.2.2.1,.int u.2.2.2]:=.inr (SqT.of (s0 _ _ eu0));have ee':Sq K H' e.1 [.int e.2.1,.int e.2.2.1,.int e.2.2.2]:=.inr (SqT.of (s0 _ _ ee));exists _,rfl,_,rfl,l,_,_,_,rfl,rfl,.inl (s0.seq hl),atu;exists _,rfl,_,rfl,e.1,u.1,_,_,e.2.1,e.2.2.1,u.2.1,u.2.2.1,rfl,ee',eu,rfl,rfl,rfl,rfl,by lia,by lia,rfl,_,rfl;refine ifE (λh0=>?_) (λh0=>?_)
   ·have h0':tn e.2 u.2=0:=h0;refine⟨_,rfl,_,rfl,e.1,e.2,rfl,ee',ne,c1,c2,λfp H2 s2 hfp efp=>?_⟩;have efp':H2 fp=some (.tup [.int (pt3 (ftL e.2)).1,.int (pt3 (ftL e.2)).2.1,.int (pt3 (ftL e.2)).2.2]):=by
     rw[efp,sf.list];rfl
    exists u.1,fp,u.2.1,u.2.2.1,u.2.2.2,(pt3 (ftL e.2)).1,(pt3 (ftL e.2)).2.1,(pt3 (ftL e.2)).2.2,rfl,eu.same s2,.inr (SqT.of efp'),by lia,by lia,by lia,_,rfl;refine ifN (λhout=>?_) (λhin=>?_)
    ·have hout':0<sv u.2 (pt3 (ftL e.2)):=by
      have:¬ sv u.2 (pt3 (ftL e.2))<=0:=hout;lia
     obtain⟨z1,z2,z3⟩:=zRp h0' hN ne sf.pos st.pos f1 hout' (st.ahead u (List.mem_of_getElem? (i:=i) (by rw[List.getElem?_take,if_pos hi]; exact gu))) st.out;refine⟨_,rfl,_,rfl,sz2,λnl hnl=>?_⟩;have snl:=zF hnl (.lst ([0+(i:Int),(j:Int)].map V.int));refine⟨_,rfl,e.1,_,e.2.1,e.2.2.1,rfl,(ee'.same s2).same snl,rfl,rfl,_,rfl,u.1,_,u.2.1,u.2.2.1,rfl,(eu.same s2).same snl,rfl,rfl,sz2,λwl hwl=>?_⟩;have swl:=zF hwl (.lst ([xF e.2.1 e.2.2.1,xF u.2.1 u.2.2.1].map V.int));have pU:=rK ne;have pV:=rK nu;have bU:xF e.2.1 e.2.2.1<=10^19:=Int.le_trans (zDz c1 c2) (by decide);have bV:xF u.2.1 u.2.2.1<=10^19:=Int.le_trans (zDz d1 d2) (by decide);have gk:=zSq (ws:=[xF e.2.1 e.2.2.1,xF u.2.1 u.2.2.1]) (List.mem_cons_self ..) pU (by lia);refine⟨nl,wl,[0+(i:Int),(j:Int)],[xF e.2.1 e.2.2.1,xF u.2.1 u.2.2.1],rfl,SqL.of (swl _ _ zD),SqL.of zD,rfl,(by show 2<=900; decide),gk.1,gk.2,λD cs H5 s5 hD eD okc mc=>?_⟩;have sB:=(s0.trans s2).trans (snl.trans swl);refine q D cs H5 (sB.trans s5) (sB.free hD) eD okc ?_;rw[mc,Int.zero_add];exact zPw hi gu st.at' pU pV bU bV z1 z2 z3
    ·refine⟨sH.trans s2,λv hv hz=>?_,_,_,rfl⟩;rcases tH gu hv with hv | rfl
     ·exact bes v hv hz
     ·exact hin
   ·refine vS ?_;refine⟨sH,λv hv hz=>?_,_,_,rfl⟩;rcases tH gu hv with hv | rfl
    ·exact bes v hv hz
    ·exact absurd hz h0
  ·rintro σ H' ⟨sH,bes,u3,u4,rfl⟩;rw[Int.toNat_natCast] at bes;have s0:=s1.trans sH;exact⟨_,rfl,_,rfl,l,ss,j,e,P,rfl,s0.seq hl,ok.same s0,hlen,st,bes,λD cs H5 s5 hD eD okc cl=>q D cs H5 (s0.trans s5) (s0.free hD) eD okc cl⟩
 ·exists t,_,_,.non,rfl,rfl,.inr (SqT.of et),rfl;exists _,rfl,rfl,_,rfl;refine uT ?_;exact qn P H1 s1 ep.2.1 wp cp
theorem zT6{x y:Int}(n:x≠0\/y≠0)(m0:x.natAbs<=2*10^9)(m1:y.natAbs<=2*10^9):0<yD [x,y]/\(yD [x,y]:Int)<10^600:=by
 have lt:∀ z:Int,z∈[x,y]->z≠0->z.natAbs<=2*10^9->0<yD [x,y]/\(yD [x,y]:Int)<10^600:=λz hz h0 hb=>by
  exists xO hz h0;have h1:=zBc hz h0;exact Int.lt_of_le_of_lt (show(yD [x,y]:Int)<=10^30 by lia) (by decide +kernel)
 rcases n with h | h
 ·exact lt x (by simp) h m0
 ·exact lt y (by simp) h m1
theorem zGz{ss:List Sd}{x y:Int} : rS ss x y=true↔∀ t∈ss,t.2.1*x+t.2.2.1*y<=0:=by
 unfold rS;rw[List.all_eq_true];exact⟨λh t ht=>of_decide_eq_true (h t ht),λh t ht=>decide_eq_true (h t ht)⟩
theorem zNf{X Y x y a b:Int}(n:X≠0\/Y≠0)(e:vK [X,Y]=[x,y]):(a*x+b*y)*(yD [X,Y]:Int)=a*X+b*Y:=by
 have z:[X/(yD [X,Y]:Int),Y/(yD [X,Y]:Int)]=[x,y]:=e;cases z;rw[Int.add_mul,Int.mul_assoc,Int.mul_assoc,yL (ns:=[X,Y]) (n:=X) (by simp),yL (ns:=[X,Y]) (n:=Y) (by simp)]
def zWb(ss:List Sd)(g:P3):Prop:=∀ t∈ss,∀ h:Int,(h=1\/h = -1)->(∀ s∈ss,tn t.2 s.2*h<=0)->tn t.2 g*h<=0
def qX(K:PySem.W.Frag):Sp:=λvs H Q _=>∃(l a:Addr)(ss:List Sd)(g:P3),vs=[.ref l,.ref a]/\SqL K H l (zJ ss)/\vP H ss/\ss.length<=400/\Sq K H a [.int g.1,.int g.2.1]/\(g.1≠0\/g.2.1≠0)/\g.1.natAbs<=2*10^9/\g.2.1.natAbs<=2*10^9 /\
 (∀ H':Hp,zZ H H'->zWb ss g->(¬ ∀ s∈ss,dt s.2 g<=0)->Q .non H') /\
 ∀(p:Addr)(x y:Int)(H':Hp),zZ H H'->H' p=some (.tup [.int x,.int y])->Nat.gcd x.natAbs y.natAbs=1->0<g.1*x+g.2.1*y->rS ss x y=true->x.natAbs<=2*10^9->y.natAbs<=2*10^9->Q (.ref p) H'
theorem zFc(F:Fun K "way_onward" "way_onward" vN f fd)(Z:Zs mg)(yCr:Has P w K mg base "ways" 4 ["sides"] (zHz K))(yCe:Has P w K mg base "plain" 3 ["direction"] (zCx K))(yBy:Has P w K mg base "along" 1 ["one", "other"] (vD K))(yBv:Has P w K mg base "is_way" 2 ["sides", "direction"] (zBb K)):xK P w K mg base CX0 5 f fd ["sides", "direction"] (qX K):=by
 specialize qT
 ·obtain⟨l,a,ss,g,rfl,_⟩:=h;rfl
 obtain⟨l,a,ss,g,rfl,hl,ok,hlen,ha,gz,m1,m2,qn,q⟩:=h;have nz:∀ t∈ss,t.2.1≠0\/t.2.2.1≠0:=λt ht=>(ok t ht).2.1
 refine'⟨_,(zG (wU PassesOwn.never rfl (xC (xH uH ?_ ?_)) (yS 2 qT.nd) (zH (yC ?_ (zH (zO (pv 2))) zS)))
   (zH (zO uW))),?_⟩
 nofun
 refine⟨_,rfl,l,ss,rfl,hl,ok,hlen,λp us H1 s1 hp W=>?_⟩;obtain⟨gp,g6⟩:=zT6 gz m1 m2;refine⟨_,rfl,a,[g.1,g.2.1],rfl,ha.same s1,by show 2<=1000; decide,gp,g6,λdp H2 s2 hdp edp=>?_⟩;obtain⟨gx,gy,exy,_,_,glow,_,gdot,gxl,gyl⟩:=zFl gz;rw[exy] at edp;refine⟨sz1,λol hol=>?_⟩;have sol:=zF hol (.lst [.ref dp]);have wf:=W.few;refine⟨p,ol,_,_,rfl,rfl,sol _ _ (s2 _ _ W.at'),zD,small (by simp only[List.length_map]; show us.length+1<=1000; lia),λc hc=>?_⟩;have sc:=zF hc (.lst ((us.map (·.1)).map V.ref++[.ref dp]));have ec:upd (upd H2 ol (.lst [.ref dp])) c (.lst ((us.map (·.1)).map V.ref++[.ref dp])) c=some (.lst (((us++[(dp,[gx,gy])]).map (·.1)).map V.ref)):=by rw[zD]; simp
 have s12:zZ H1 (upd (upd H2 ol (.lst [.ref dp])) c (.lst ((us.map (·.1)).map V.ref++[.ref dp]))):=s2.trans (sol.trans sc);have edp':=(sol.trans sc) _ _ edp;generalize upd (upd H2 ol (.lst [.ref dp])) c (.lst ((us.map (·.1)).map V.ref++[.ref dp]))=H3 at sc ec s12 edp' ⊢;have s3:=s1.trans s12;have each:∀ u∈us++[(dp,[gx,gy])],∃ x y:Int,u.2=[x,y]/\H3 u.1=some (.tup [.int x,.int y])/\Nat.gcd x.natAbs y.natAbs=1/\x.natAbs<=2*10^9/\y.natAbs<=2*10^9:=λu hu=>by
  rcases List.mem_append.mp hu with hu | hu
  ·have mk:u.2∈us.map (·.2):=List.mem_map_of_mem hu;have wk:=(W.mem u.2).mp mk;obtain⟨x,y,e,ew⟩:=wk.dir nz;have z:=s12 _ _ (W.all u hu);rw[e] at z;obtain⟨j,t,_,gt,hk⟩:=wk;obtain⟨_,nt,c1,c2,_⟩:=ok t (List.mem_of_getElem? gt);have bd:x.natAbs<=2*10^9/\y.natAbs<=2*10^9:=by
    rcases hk with ⟨hk,_⟩ | ⟨hk,_⟩
    ·obtain⟨x',y',e',_,_,_,_,_,l1,l2⟩:=zFl (X:=-t.2.2.1) (Y:=t.2.1) (by lia);rw[e,e'] at hk;cases hk;lia
    ·obtain⟨x',y',e',_,_,_,_,_,l1,l2⟩:=zFl (X:=t.2.2.1) (Y:=-t.2.1) (by lia);rw[e,e'] at hk;cases hk;lia
   exact⟨x,y,e,z,ew.low,bd.1,bd.2⟩
  ·rw[List.mem_singleton] at hu;subst hu;exact⟨gx,gy,rfl,edp',glow,by lia,by lia⟩
 refine⟨c,rfl,.inl ⟨⟨_,SqL.of ec⟩,wD (K:=K) (a:=c) (xs:=((us++[(dp,[gx,gy])]).map (·.1)).map V.ref) (λi σ H'=>H3=H'/\(∀ j u x y,j<i->(us++[(dp,[gx,gy])])[j]?=some u->u.2=[x,y]->0<g.1*x+g.2.1*y->rS ss x y=true->False)/\∃ u2:Option V,σ=[some (.ref l),some (.ref a),u2])
  ⟨rfl,λj u x y hj=>absurd hj (Nat.not_lt_zero _),none,rfl⟩ (λi σ H' _ ⟨e,_⟩=>by rw[<- e]; exact SqL.of ec) ?_ ?_⟩⟩
 ·rintro i v σ H' hi ⟨rfl,hall,u2,rfl⟩;rw[List.getElem?_map,List.getElem?_map] at hi;cases gu:(us++[(dp,[gx,gy])])[i]? with
  | none=>rw[gu] at hi; cases hi
  | some u =>
   rw[gu] at hi;cases hi;obtain⟨x,y,exy',eu,lu,bx,by'⟩:=each u (List.mem_of_getElem? gu);have keep:(¬ (0<g.1*x+g.2.1*y/\rS ss x y=true))->∀ j u' x' y',j<i+1->(us++[(dp,[gx,gy])])[j]?=some u'->u'.2=[x',y']->0<g.1*x'+g.2.1*y'->rS ss x' y'=true->False:=λhno j u' x' y' hj gu' e' h1 h2=>by
    by_cases ej:j=i
    ·rw[ej,gu] at gu';cases gu';rw[exy'] at e';cases e';exact hno ⟨h1,h2⟩
    ·exact hall j u' x' y' (by lia) gu' e' h1 h2
   exists _,rfl,_,rfl,a,u.1,_,_,g.1,g.2.1,x,y,rfl,ha.same s3,.inr (SqT.of eu),rfl,rfl,rfl,rfl,by lia,by lia,_,_,rfl,rfl,_,rfl;refine ifD (λhpos=>?_) (λhneg=>?_)
   ·exists _,rfl,_,rfl,l,u.1,ss,x,y,rfl,s3.seq hl,ok.same s3,.inr (SqT.of eu),_,rfl;by_cases hw:rS ss x y=true
    ·rw[hw];refine uT ?_;exact⟨_,rfl,q u.1 x y _ s3 eu lu hpos hw bx by'⟩
    ·have hw':rS ss x y=false:=by simpa using hw
     rw[hw'];refine vS ?_;exact⟨rfl,keep (λz=>hw z.2),_,rfl⟩
   ·refine vS ?_;exact⟨rfl,keep (λz=>hneg z.1),_,rfl⟩
 ·rintro σ H' ⟨rfl,hall,u2,rfl⟩;have none':∀ u∈us++[(dp,[gx,gy])],∀ x y,u.2=[x,y]->0<g.1*x+g.2.1*y->rS ss x y=true->False:=λu hu x y e h1 h2=>by
   obtain⟨j,hj,ej⟩:=List.getElem_of_mem hu;exact hall j u x y (by simp only[List.length_map]; exact hj) (by rw[List.getElem?_eq_getElem hj,ej]) e h1 h2
  refine qn _ s3 (λt mt h hh hall'=>?_) (λhall'=>?_)
  ·have nt:=nz t mt;have key:∀ X Y:Int,(X≠0\/Y≠0)->rS ss X Y=true->vK [X,Y]∈us.map (·.2)->g.1*X+g.2.1*Y<=0:=λX Y n hw hm=>by
    obtain⟨x,y,e,gp',_⟩:=zFl n;obtain⟨u,hu,eu⟩:=List.mem_map.mp hm;have sc':=zNf (a:=g.1) (b:=g.2.1) n e;by_cases c:g.1*X+g.2.1*Y<=0
    ·exact c
    ·rw[<- sc'] at c;have p1:0<g.1*x+g.2.1*y:=uE (y:=(yD [X,Y]:Int)) (by lia) (by lia);have z:=zKb (ss:=ss) gp';have e2:[X/(yD [X,Y]:Int),Y/(yD [X,Y]:Int)]=[x,y]:=e;cases e2;rw[hw] at z;exact(none' u (List.mem_append_left _ hu) _ _ (eu.trans e) p1 z).elim
   have gj:=List.getElem?_of_mem mt;obtain⟨j,gj⟩:=gj;have hj:=(List.getElem?_eq_some_iff.mp gj).1;rcases hh with rfl | rfl
   ·have hw:rS ss (-t.2.2.1) t.2.1=true:=zGz.mpr λs hs=>by
     have z:=hall' s hs;unfold tn at z;rw[Int.mul_neg,Int.mul_comm s.2.1,Int.mul_comm s.2.2.1];lia
    have z:=key _ _ (by lia) hw ((W.mem _).mpr ⟨j,t,hj,gj,.inl ⟨rfl,hw⟩⟩);unfold tn;rw[Int.mul_neg,Int.mul_comm g.1,Int.mul_comm g.2.1] at z;lia
   ·have hw:rS ss t.2.2.1 (-t.2.1)=true:=zGz.mpr λs hs=>by
     have z:=hall' s hs;unfold tn at z;rw[Int.mul_neg,Int.mul_comm s.2.1,Int.mul_comm s.2.2.1];lia
    have z:=key _ _ (by lia) hw ((W.mem _).mpr ⟨j,t,hj,gj,.inr ⟨rfl,hw⟩⟩);unfold tn;rw[Int.mul_neg,Int.mul_comm g.1,Int.mul_comm g.2.1] at z;lia
  ·have hw:rS ss g.1 g.2.1=true:=zGz.mpr hall';have z:=zKb (ss:=ss) gp;have e2:[g.1/(yD [g.1,g.2.1]:Int),g.2.1/(yD [g.1,g.2.1]:Int)]=[gx,gy]:=exy;cases e2;rw[hw] at z;refine none' (dp,_) (List.mem_append_right _ (List.mem_singleton.mpr rfl)) _ _ rfl ?_ z;rw[Int.mul_comm g.1,Int.mul_comm g.2.1];exact gdot
abbrev Wt:=Addr×Int×Addr×Int×Int
abbrev zP(ws:List Wt):List V:=(ws.map (·.1)).map V.ref
def qG(H:Hp)(ws:List Wt):Prop:=∀ t∈ws,H t.1=some (.tup [.int t.2.1,.ref t.2.2.1])/\H t.2.2.1=some (.tup [.int t.2.2.2.1,.int t.2.2.2.2])
theorem qG.same{H H':Hp}{ws:List Wt}(h:qG H ws)(s:zZ H H'):qG H' ws:=λt ht=>⟨s _ _ (h t ht).1,s _ _ (h t ht).2⟩
abbrev wtN(ws:List Wt):List (Int×Int×Int):=ws.map λt=>(t.2.1,t.2.2.2)
def zXb(H:Hp)(ss:List Sd)(g:P3)(Q:VK):Prop:=∀(f p D:Addr)(P:P3)(ws:List Wt)(H':Hp),zZ H H'->H' f=some (.tup [.str "far", .ref p,.ref D])->zMh H' p P->inW ss P->zSt ss P->H D=none->H' D=some (.lst (zP ws))->qG H' ws->Far ss g P (wtN ws)->Q (.ref f) H'
def qS(K:PySem.W.Frag):Sp:=λvs H Q _=>∃(l a:Addr)(ss:List Sd)(g:P3),vs=[.ref l,.ref a]/\SqL K H l (zJ ss)/\vP H ss/\ss.length<=400/\Sq K H a [.int g.1,.int g.2.1]/\(g.1≠0\/g.2.1≠0)/\g.1.natAbs<=2*10^9/\g.2.1.natAbs<=2*10^9 /\
 (∀ H':Hp,zZ H H'->(∀ t∈ss,tn t.2 g=0->0<dt t.2 g->∀ P:P3,0<P.2.2->sv t.2 P=0->¬ inW ss P)->Q .non H')/\zXb H ss g Q
theorem zEh(F:Fun K "far_by_one" "far_by_one" vI f fd)(Z:Zs mg)(yCq:Has P w K mg base "turn" 1 ["one", "other"] (uK K))(yBy:Has P w K mg base "along" 1 ["one", "other"] (vD K))(yCt:Has P w K mg base "part" 4 ["top", "bottom"] (wH K))(yCs:Has P w K mg base "span" 1 ["direction"] (zFp K))(yAi:Has P w K mg base "spot_on_edge" 7 ["sides", "edge"] (vB K)):xK P w K mg base CX0 8 f fd ["sides", "direction"] (qS K):=by
 specialize uI
 ·obtain⟨l,a,ss,g,rfl,_⟩:=h;rfl
 obtain⟨l,a,ss,g,rfl,hl,ok,hlen,ha,gz,m1,m2,qn,q⟩:=h
 refine'⟨_,(zG (wU PassesOwn.never rfl (xV rfl Z.range ?_) (yS 2 uI.nd) (zG (zX 3 uI.nd ?_)
   (zH (yC ?_ (zG (zX 4 uI.nd ?_)
   (zH (yC ?_ (zH (zO ?_)) zS))) zS))))
   (zH (zO uW))),?_⟩
 nofun
 refine⟨_,rfl,l,_,rfl,.inl hl,_,rfl,(by rw[zK]; lia),(by rw[zK]; lia),tS (lo:=0) (n:=(((zJ ss).length:Nat):Int).toNat) (λi σ H'=>zZ H H'/\(∀ t∈ss.take i,tn t.2 g=0->0<dt t.2 g->∀ P:P3,0<P.2.2->sv t.2 P=0->¬ inW ss P)/\∃ u2 u3 u4:Option V,σ=[some (.ref l),some (.ref a),u2,u3,u4])
  ⟨zZ.refl _,(λt ht=>nomatch ht),none,none,none,rfl⟩ ?_ ?_⟩
 ·rintro i σ H' hi ⟨sH,bes,u2,u3,u4,rfl⟩;have hil:i<ss.length:=by rw[Int.toNat_natCast,zK] at hi; exact hi
  obtain⟨t,mt,gt,at'⟩:=yO (ss:=ss) (i:=i) (k:=0+(i:Int)) (by lia) hil;obtain⟨et0,nt,c1,c2,c3⟩:=ok t mt;have et:Sq K H' t.1 [.int t.2.1,.int t.2.2.1,.int t.2.2.2]:=.inr (SqT.of (sH _ _ et0));have ha':=ha.same sH;exists _,rfl,_,rfl,l,_,_,_,rfl,rfl,.inl (sH.seq hl),at';exists _,rfl,_,rfl,t.1,a,_,_,t.2.1,t.2.2.1,g.1,g.2.1,rfl,et,ha',rfl,rfl,rfl,rfl,by lia,by lia,rfl,_,rfl;have skip:∀ H2:Hp,zZ H' H2->(tn t.2 g=0->0<dt t.2 g->∀ P:P3,0<P.2.2->sv t.2 P=0->¬ inW ss P)->(∀ u∈ss.take (i+1),tn u.2 g=0->0<dt u.2 g->∀ P:P3,0<P.2.2->sv u.2 P=0->¬ inW ss P):=λH2 _ hno u hu=>by
   rcases tH gt hu with hu | rfl
   ·exact bes u hu
   ·exact hno
  refine ifE (λh0=>?_) (λh0=>?_)
  ·exists _,rfl,_,rfl,t.1,a,_,_,t.2.1,t.2.2.1,g.1,g.2.1,rfl,et,ha',rfl,rfl,rfl,rfl,by lia,by lia,_,_,rfl,rfl,_,rfl;refine ifD (λh1=>?_) (λh1=>?_)
   ·have h0':tn t.2 g=0:=h0;have h1':0<dt t.2 g:=h1;refine⟨_,rfl,_,rfl,l,t.1,ss,t.2,rfl,sH.seq hl,ok.same sH,by lia,et,nt,c1,c2,c3,λH2 s2 no=>?_,λp P H2 s2 ep wp on cd=>?_⟩
    ·exists _,rfl,rfl,_,rfl;refine vS ?_;exact⟨sH.trans s2,skip H2 s2 (λ_ _ P pw oP wP=>no P oP pw wP),_,_,_,rfl⟩
    ·exists _,rfl,rfl,_,rfl;refine uT ?_;have pS:=rK nt;have bS:xF t.2.1 t.2.2.1<=10^19:=Int.le_trans (zDz c1 c2) (by decide);have bG:xF g.1 g.2.1<=10^19:=Int.le_trans (zDz m1 m2) (by decide);refine⟨_,rfl,_,rfl,_,rfl,a,_,g.1,g.2.1,rfl,ha'.same s2,rfl,rfl,_,rfl,t.1,_,t.2.1,t.2.2.1,rfl,et.same s2,rfl,rfl,xF g.1 g.2.1,xF t.2.1 t.2.2.1,rfl,by lia,Nat.lt_of_le_of_lt (show(xF t.2.1 t.2.2.1).natAbs<=10^40 by lia) (by decide +kernel),λpp x y H3 s3 hpp epp pt=>?_⟩;refine⟨sz2,λpr hpr=>?_⟩;have spr:=zF hpr (.tup [.int (0+(i:Int)),.ref pp]);refine⟨sz1,λD hD=>?_⟩;have sD:=zF hD (.lst [.ref pr]);refine⟨sz3,λft hft=>?_⟩;have sft:=zF hft (.tup [.str "far", .ref p,.ref D]);have s23:=s2.trans s3;have sAll:=(spr.trans sD).trans sft;refine q ft p D P [(pr,(i:Int),pp,x,y)] _ ((sH.trans s23).trans sAll) zD (ep.same (s3.trans sAll)) wp ?_ ((sH.trans s23).free (spr.free hD)) (sft _ _ zD) (λu hu=>?_) (zT4 gt nt gz h0' h1' pt bG bS on)
     ·rcases cd with h | ⟨v,hv,ht,h⟩
      ·exact .inr (.inl ⟨t,mt,h⟩)
      ·exact .inr (.inr ⟨t,mt,v,hv,ht,h⟩)
     ·rw[List.mem_singleton] at hu;subst hu;refine⟨?_,sAll _ _ epp⟩;refine sft _ _ (sD _ _ ?_);rw[zD,Int.zero_add]
   ·refine⟨sH,skip H' (zZ.refl _) (λ_ z=>absurd z h1),_,_,_,rfl⟩
  ·refine vS ?_;exact⟨sH,skip H' (zZ.refl _) (λz=>absurd z h0),_,_,_,rfl⟩
 ·rintro σ H' ⟨sH,bes,u2,u3,u4,rfl⟩;rw[Int.toNat_natCast,zK,List.take_length] at bes;exact qn H' sH bes
theorem zHo{s t:P3}{m n:Nat}(a1:s.1.natAbs<=m)(a2:s.2.1.natAbs<=m)(b1:t.1.natAbs<=n)(b2:t.2.1.natAbs<=n):(tn s t).natAbs<=m*n+m*n:=by
 have z1:=zI s.1 t.2.1 a1 b2;have z2:=zI s.2.1 t.1 a2 b1;unfold tn;lia
def tU(K:PySem.W.Frag):Sp:=λvs H Q _=>∃(l n a:Addr)(ss:List Sd)(g P:P3)(i j:Nat)(s t:Sd),vs=[.ref l,.ref n,.ref a]/\SqL K H l (zJ ss)/\vP H ss/\SqL K H n [.int i,.int j]/\Sq K H a [.int g.1,.int g.2.1]/\g.1.natAbs<=2*10^9/\g.2.1.natAbs<=2*10^9 /\
 ss[i]?=some s/\ss[j]?=some t/\0<tn s.2 t.2/\0<tn g t.2/\0<tn s.2 g/\sv s.2 P=0/\sv t.2 P=0 /\
 ∀(D:Addr)(ws:List Wt)(H':Hp),zZ H H'->H D=none->H' D=some (.lst (zP ws))->qG H' ws->Far ss g P (wtN ws)->Q (.ref D) H'
theorem zBj(F:Fun K "weights_of_two" "weights_of_two" wB f fd)(Z:Zs mg)(yCt:Has P w K mg base "part" 4 ["top", "bottom"] (wH K))(yCq:Has P w K mg base "turn" 1 ["one", "other"] (uK K)):xK P w K mg base CX0 5 f fd ["sides", "numbers", "direction"] (tU K):=by
 specialize xE
 ·obtain⟨l,n,a,ss,g,P,i,j,s,t,rfl,_⟩:=h;rfl
 obtain⟨l,n,a,ss,g,P,i,j,s,t,rfl,hl,ok,hn,ha,m1,m2,gs,gt,hW,hA,hB,o1,o2,q⟩:=h;have hi:=(List.getElem?_eq_some_iff.mp gs).1;have hj:=(List.getElem?_eq_some_iff.mp gt).1;obtain⟨_,ms,gs2,ats⟩:=yO (ss:=ss) (i:=i) (k:=(i:Int)) rfl hi;rw[gs] at gs2;cases gs2;obtain⟨_,mt,gt2,att⟩:=yO (ss:=ss) (i:=j) (k:=(j:Int)) rfl hj;rw[gt] at gt2;cases gt2;obtain⟨es0,ns,c1,c2,c3⟩:=ok s ms;obtain⟨et0,nt,d1,d2,d3⟩:=ok t mt;have es:Sq K H s.1 [.int s.2.1,.int s.2.2.1,.int s.2.2.2]:=.inr (SqT.of es0);have et:Sq K H t.1 [.int t.2.1,.int t.2.2.1,.int t.2.2.2]:=.inr (SqT.of et0);have hij:i≠j:=λz=>by
  rw[z,gt] at gs;cases gs;rw[zJl] at hW;lia
 have bW:=zHo (s:=s.2) (t:=t.2) c1 c2 d1 d2;have bA:=zHo (s:=g) (t:=t.2) m1 m2 d1 d2;have bB:=zHo (s:=s.2) (t:=g) c1 c2 m1 m2;have big:(tn s.2 t.2).natAbs<10^500:=Nat.lt_of_le_of_lt (show(tn s.2 t.2).natAbs<=10^40 by lia) (by decide +kernel)
 refine'⟨_,(zG (zX 3 xE.nd ?_)
   (zG (zX 4 xE.nd ?_)
   (zG (zX 5 xE.nd ?_)
   (zG (zX 6 xE.nd ?_)
   (zH (zO (wM zJb rfl Z.sorted zBw ?_))))))),?_⟩
 nofun
 exists _,rfl,_,rfl,n,_,_,.int (i:Int),rfl,rfl,.inl hn,rfl,l,_,_,_,rfl,rfl,.inl hl,ats;exists _,rfl,_,rfl,n,_,_,.int (j:Int),rfl,rfl,.inl hn,rfl,l,_,_,_,rfl,rfl,.inl hl,att;refine⟨_,rfl,_,rfl,s.1,t.1,_,_,s.2.1,s.2.2.1,t.2.1,t.2.2.1,rfl,es,et,rfl,rfl,rfl,rfl,by lia,by lia,?_⟩;refine⟨_,rfl,_,rfl,a,t.1,_,_,g.1,g.2.1,t.2.1,t.2.2.1,rfl,ha,et,rfl,rfl,rfl,rfl,by lia,by lia,_,rfl,tn g t.2,tn s.2 t.2,rfl,by lia,big,λp1 x1 y1 H1 s1 hp1 ep1 pt1=>?_⟩;refine⟨_,rfl,_,rfl,s.1,a,_,_,s.2.1,s.2.2.1,g.1,g.2.1,rfl,es.same s1,ha.same s1,rfl,rfl,rfl,rfl,by lia,by lia,_,rfl,tn s.2 g,tn s.2 t.2,rfl,by lia,big,λp2 x2 y2 H2 s2 hp2 ep2 pt2=>?_⟩;refine⟨sz2,λsl hsl=>?_⟩;have ssl:=zF hsl (.lst [.ref p1,.ref p2]);have esl:upd H2 sl (.lst [.ref p1,.ref p2]) sl=some (.lst [.ref p1,.ref p2]):=zD;generalize upd H2 sl (.lst [.ref p1,.ref p2])=H3 at ssl esl ⊢;have s03:=(s1.trans s2).trans ssl;have hn3:=s03.seq hn;refine⟨_,rfl,n,_,_,.int (i:Int),rfl,rfl,.inl hn3,rfl,_,rfl,sl,_,_,.ref p1,rfl,rfl,.inl (SqL.of esl),rfl,sz2,λa1 ha1=>?_⟩;have sa1:=zF ha1 (.tup [.int (i:Int),.ref p1]);refine⟨_,rfl,n,_,_,.int (j:Int),rfl,rfl,.inl (sa1.seq hn3),rfl,_,rfl,sl,_,_,.ref p2,rfl,rfl,.inl (SqL.of (sa1 _ _ esl)),rfl,sz2,λa2 ha2=>?_⟩;have sa2:=zF ha2 (.tup [.int (j:Int),.ref p2]);refine⟨sz2,λtl htl=>?_⟩;have stl:=zF htl (.lst [.ref a1,.ref a2]);refine⟨tl,a1,a2,(i:Int),(j:Int),_,_,rfl,SqL.of zD,stl _ _ (sa2 _ _ zD),stl _ _ zD,by lia,λD hD=>?_⟩;have sD:=zF hD (.lst (if (j:Int)<(i:Int) then [.ref a2,.ref a1] else [.ref a1,.ref a2]));have s37:=((sa1.trans sa2).trans stl).trans sD;have w1:=s37 _ _ (ssl _ _ (s2 _ _ ep1));have w2:=s37 _ _ (ssl _ _ ep2);have v1:=sD _ _ (stl _ _ (sa2 _ _ (zD (H:=H3) (a:=a1) (o:=.tup [.int (i:Int),.ref p1]))));have v2:=sD _ _ (stl _ _ (zD (H:=upd H3 a1 (.tup [.int (i:Int),.ref p1])) (a:=a2) (o:=.tup [.int (j:Int),.ref p2])));have fr:=zTv (P:=P) gs gt hW hA hB pt1 pt2 (by lia) (by lia) (by lia) o1 o2 hij;have frD:H D=none:=s03.free (sa1.free (sa2.free (stl.free hD)));by_cases c:j<i
 ·have c':(j:Int)<(i:Int):=by lia
  rw[if_pos c] at fr;refine q D [(a2,(j:Int),p2,x2,y2),(a1,(i:Int),p1,x1,y1)] _ (s03.trans s37) frD (by rw[zD,if_pos c']; rfl) (λu hu=>?_) fr;rcases List.mem_cons.mp hu with rfl | hu
  ·exact⟨v2,w2⟩
  ·rw[List.mem_singleton] at hu;subst hu;exact⟨v1,w1⟩
 ·have c':¬ (j:Int)<(i:Int):=by lia
  rw[if_neg c] at fr;refine q D [(a1,(i:Int),p1,x1,y1),(a2,(j:Int),p2,x2,y2)] _ (s03.trans s37) frD (by rw[zD,if_neg c']; rfl) (λu hu=>?_) fr;rcases List.mem_cons.mp hu with rfl | hu
  ·exact⟨v1,w1⟩
  ·rw[List.mem_singleton] at hu;subst hu;exact⟨v2,w2⟩
def zS5(ss:List Sd)(g:P3)(rs:List Sd):Prop:=∀ t∈rs,0<tn t.2 g->∃ e∈ss,0<tn t.2 e.2/\(∀ u∈ss,0<tn t.2 u.2->sv u.2 (pt3 (crL t.2 e.2))<=0)/\¬ (0<tn g e.2/\inW ss (pt3 (crL t.2 e.2)))
def zAg(K:PySem.W.Frag):Sp:=λvs H Q _=>∃(l a:Addr)(ss:List Sd)(g:P3),vs=[.ref l,.ref a]/\SqL K H l (zJ ss)/\vP H ss/\ss.length<=400/\Sq K H a [.int g.1,.int g.2.1]/\g.1.natAbs<=2*10^9/\g.2.1.natAbs<=2*10^9/\zWb ss g /\
 (∀ H':Hp,zZ H H'->zS5 ss g ss->Q .non H')/\zXb H ss g Q
theorem zE0(F:Fun K "far_by_two" "far_by_two" vJ f fd)(Z:Zs mg)(yCq:Has P w K mg base "turn" 1 ["one", "other"] (uK K))(yBf:Has P w K mg base "in_water" 3 ["sides", "place"] (uP K))(yAb:Has P w K mg base "weights_of_two" 5 ["sides", "numbers", "direction"] (tU K))(yBd:Has P w K mg base "crossing" 4 ["one", "other"] (vX K))(yBg:Has P w K mg base "edge_end" 5 ["sides", "edge", "hand"] (tD K)):xK P w K mg base CX0 6 f fd ["sides", "direction"] (zAg K):=by
 specialize wG
 ·obtain⟨l,a,ss,g,rfl,_⟩:=h;rfl
 obtain⟨l,a,ss,g,rfl,hl,ok,hlen,ha,m1,m2,nw,qn,q⟩:=h
 refine'⟨_,(zG (wU PassesOwn.never rfl (xV rfl Z.range ?_) (yS 2 wG.nd) (zG (zX 3 wG.nd ?_)
   (zH (yC ?_ (zG (zX 4 wG.nd ?_)
   (zG (zX 5 wG.nd ?_)
   (zH (yC ?_ (zH (zO ?_)) zS)))) zS))))
   (zH (zO uW))),?_⟩
 nofun
 refine⟨_,rfl,l,_,rfl,.inl hl,_,rfl,(by rw[zK]; lia),(by rw[zK]; lia),tS (lo:=0) (n:=(((zJ ss).length:Nat):Int).toNat) (λi σ H'=>zZ H H'/\zS5 ss g (ss.take i)/\∃ u2 u3 u4 u5:Option V,σ=[some (.ref l),some (.ref a),u2,u3,u4,u5])
  ⟨zZ.refl _,(λt ht=>nomatch ht),none,none,none,none,rfl⟩ ?_ ?_⟩
 ·rintro i σ H' hi ⟨sH,bes,u2,u3,u4,u5,rfl⟩;have hil:i<ss.length:=by rw[Int.toNat_natCast,zK] at hi; exact hi
  obtain⟨t,mt,gt,at'⟩:=yO (ss:=ss) (i:=i) (k:=0+(i:Int)) (by lia) hil;obtain⟨et0,nt,c1,c2,c3⟩:=ok t mt;have et:Sq K H' t.1 [.int t.2.1,.int t.2.2.1,.int t.2.2.2]:=.inr (SqT.of (sH _ _ et0));have ha':=ha.same sH;exists _,rfl,_,rfl,l,_,_,_,rfl,rfl,.inl (sH.seq hl),at';exists _,rfl,_,rfl,t.1,a,_,_,t.2.1,t.2.2.1,g.1,g.2.1,rfl,et,ha',rfl,rfl,rfl,rfl,by lia,by lia,_,_,rfl,rfl,_,rfl;refine ifD (λh0=>?_) (λh0=>?_)
  ·have h0':0<tn t.2 g:=h0;refine⟨_,rfl,_,rfl,l,t.1,ss,t.2,1,rfl,sH.seq hl,ok.same sH,by lia,et,nt,c1,c2,c3,.inl rfl,λr H1 s1 k1=>?_⟩;cases r with
   | none =>
    have:=nw t mt 1 (.inl rfl) k1;lia
   | some j =>
    obtain⟨e,ge,he,hb⟩:=k1;have he':0<tn t.2 e.2:=by lia
    have hj:=(List.getElem?_eq_some_iff.mp ge).1;obtain⟨_,me,ge2,ate⟩:=yO (ss:=ss) (i:=j) (k:=(j:Int)) rfl hj;rw[ge] at ge2;cases ge2;obtain⟨ee0,ne,d1,d2,d3⟩:=ok e me;have sH1:=sH.trans s1;have ee:Sq K H1 e.1 [.int e.2.1,.int e.2.2.1,.int e.2.2.2]:=.inr (SqT.of (sH1 _ _ ee0));have et1:=et.same s1;refine⟨_,rfl,_,rfl,_,rfl,l,_,_,_,rfl,rfl,.inl (sH1.seq hl),ate,t.1,e.1,t.2.1,t.2.2.1,t.2.2.2,e.2.1,e.2.2.1,e.2.2.2,rfl,et1,ee,by lia,by lia,by lia,by lia,by lia,λz=>absurd z (show tn t.2 e.2≠0 by lia),λ_ p H2 s2 hp ep=>?_⟩;obtain⟨sp,o1,o2⟩:=zBi (show tn t.2 e.2≠0 by lia);have ep':zMh H2 p (pt3 (crL t.2 e.2)):=by
     refine⟨?_,sp.pos,sp.low⟩;have z:H2 p=some (.tup ((crL t.2 e.2).map V.int)):=ep;rw[z,sp.list];rfl
    have sH2:=sH1.trans s2;have keep:¬ (0<tn g e.2/\inW ss (pt3 (crL t.2 e.2)))->zS5 ss g (ss.take (i+1)):=λhno u hu hg=>by
     rcases tH gt hu with hu | rfl
     ·exact bes u hu hg
     ·exact⟨e,me,he',λv hv hp=>hb v hv (by lia),hno⟩
    exists _,rfl,_,rfl,_,rfl,l,_,_,_,rfl,rfl,.inl (sH2.seq hl),ate,a,e.1,_,_,g.1,g.2.1,e.2.1,e.2.2.1,rfl,ha.same sH2,ee.same s2,rfl,rfl,rfl,rfl,by lia,by lia,_,_,rfl,rfl,_,rfl;refine ifD (λh1=>?_) (λh1=>?_)
    ·have h1':0<tn g e.2:=h1;exists _,rfl,_,rfl,l,p,ss,pt3 (crL t.2 e.2),rfl,sH2.seq hl,ok.same sH2,.inr (SqT.of ep'.1),_,rfl;by_cases hw:zGv ss (pt3 (crL t.2 e.2))=true
     ·rw[hw];refine uT ?_;refine⟨_,rfl,_,rfl,_,rfl,_,rfl,sz2,λnl hnl=>?_⟩;have snl:=zF hnl (.lst [.int (0+(i:Int)),.int (j:Int)]);have enl:upd H2 nl (.lst [.int (0+(i:Int)),.int (j:Int)]) nl=some (.lst [.int (i:Int),.int (j:Int)]):=by rw[zD,Int.zero_add]
      have sH3:=sH2.trans snl;refine⟨_,rfl,l,nl,a,ss,g,pt3 (crL t.2 e.2),i,j,t,e,rfl,sH3.seq hl,ok.same sH3,SqL.of enl,ha.same sH3,m1,m2,gt,ge,he',h1',h0',o1,o2,λD ws H4 s4 hD eD okw fr=>?_⟩;refine⟨sz3,λft hft=>?_⟩;have sft:=zF hft (.tup [.str "far", .ref p,.ref D]);refine q ft p D (pt3 (crL t.2 e.2)) ws _ ((sH3.trans s4).trans sft) zD ((ep'.same (snl.trans s4)).same sft) (sM.mp hw) (.inr (.inr ⟨t,mt,e,me,by lia,rfl⟩)) (sH3.free hD) (sft _ _ eD) (okw.same sft) fr
     ·have hw':zGv ss (pt3 (crL t.2 e.2))=false:=by simpa using hw
      rw[hw'];refine vS ?_;exact⟨sH2,keep (λz=>hw (sM.mpr z.2)),_,_,_,_,rfl⟩
    ·refine vS ?_;exact⟨sH2,keep (λz=>h1 z.1),_,_,_,_,rfl⟩
  ·refine⟨sH,λu hu hg=>?_,_,_,_,_,rfl⟩;rcases tH gt hu with hu | rfl
   ·exact bes u hu hg
   ·exact absurd hg h0
 ·rintro σ H' ⟨sH,bes,u2,u3,u4,u5,rfl⟩;rw[Int.toNat_natCast,zK,List.take_length] at bes;exact qn H' sH bes
def zGf(K:PySem.W.Frag):Sp:=λvs H Q _=>∃(l a:Addr)(ss:List Sd)(g:P3),vs=[.ref l,.ref a]/\SqL K H l (zJ ss)/\vP H ss/\ss.length<=400/\Sq K H a [.int g.1,.int g.2.1]/\(g.1≠0\/g.2.1≠0)/\g.1.natAbs<=2*10^9/\g.2.1.natAbs<=2*10^9 /\
 (∀(t D:Addr)(cs:List Pr)(H':Hp),zZ H H'->H' t=some (.tup [.str "none", .ref D])->H D=none->H' D=some (.lst (zL cs))->zHy H' cs->zA0 ss (cs.map (·.2))->Q (.ref t) H') /\
 (∀(t p:Addr)(x y:Int)(Z:P3)(H':Hp),zZ H H'->H' t=some (.tup [.str "open", .ref p])->H' p=some (.tup [.int x,.int y])->Nat.gcd x.natAbs y.natAbs=1->0<g.1*x+g.2.1*y->rS ss x y=true->x.natAbs<=2*10^9->y.natAbs<=2*10^9->0<Z.2.2->inW ss Z->zSt ss Z->Q (.ref t) H')/\zXb H ss g Q
theorem zL8(F:Fun K "reach" "reach" zCn f fd)(Z:Zs mg)(yAt:Has P w K mg base "far_by_one" 8 ["sides", "direction"] (qS K))(yAn:Has P w K mg base "far_by_two" 6 ["sides", "direction"] (zAg K))(yAp:Has P w K mg base "way_onward" 5 ["sides", "direction"] (qX K))(yCa:Has P w K mg base "clash" 9 ["sides"] (zC2 K)):xK P w K mg base CX0 10 f fd ["sides", "direction"] (zGf K):=by
 specialize zCp
 ·obtain⟨l,a,ss,g,rfl,_⟩:=h;rfl
 obtain⟨l,a,ss,g,rfl,hl,ok,hlen,ha,gz,m1,m2,qc,qo,qf⟩:=h;have nz:∀ t∈ss,t.2.1≠0\/t.2.2.1≠0:=λt ht=>(ok t ht).2.1
 refine'⟨_,(zG (zX 2 zCp.nd ?_)
   (zG (yC ?_ (zH (zO ?_)) zS)
   (zG (zX 3 zCp.nd ?_)
   (zG (yC ?_ (zH (zO ?_)) zS)
   (zH (zO (zVc ?_ (zGb ?_)))))))),?_⟩
 nofun
 refine⟨_,rfl,l,ss,rfl,hl,ok,by lia,λP0 H1 s1 pw wp cp=>?_,λD cs H1 s1 hD eD okc cl=>?_⟩
 ·exists _,rfl,rfl,_,rfl;refine vS ?_;refine⟨_,rfl,_,rfl,l,a,ss,g,rfl,s1.seq hl,ok.same s1,hlen,ha.same s1,gz,m1,m2,λH2 s2 nw nl=>?_,λp x y H2 s2 ep low pos hw bx by'=>?_⟩
  ·exists _,rfl,rfl,_,rfl;refine vS ?_;have s12:=s1.trans s2;refine⟨_,rfl,_,rfl,l,a,ss,g,rfl,s12.seq hl,ok.same s12,hlen,ha.same s12,gz,m1,m2,λH3 s3 b1=>?_,λft p D P ws H3 s3 ef ep wP cP hD eD okw fr=>?_⟩
   ·exists false,rfl;refine vS ?_;have s13:=s12.trans s3;refine⟨_,rfl,_,rfl,l,a,ss,g,rfl,s13.seq hl,ok.same s13,hlen,ha.same s13,m1,m2,nw,λH4 s4 b2=>?_,λft p D P ws H4 s4 ef ep wP cP hD eD okw fr=>?_⟩
    ·exact(zW0 ⟨nz,gz,nw,nl,b1⟩ b2 pw wp).elim
    ·exact qf ft p D P ws H4 (s13.trans s4) ef ep wP cP (s13.free hD) eD okw fr
   ·exists true,.inr (.inl ⟨_,SqT.of ef,rfl⟩);refine uT ?_;exact qf ft p D P ws H3 (s12.trans s3) ef ep wP cP (s12.free hD) eD okw fr
  ·exists _,rfl,rfl,_,rfl;refine uT ?_;refine⟨_,rfl,sz2,λt ht=>?_⟩;have st:=zF ht (.tup [.str "open", .ref p]);exact qo t p x y P0 _ ((s1.trans s2).trans st) zD (st _ _ ep) low pos hw bx by' pw wp cp
 ·exists _,rfl,rfl,_,rfl;refine uT ?_;refine⟨_,rfl,sz2,λt ht=>?_⟩;have st:=zF ht (.tup [.str "none", .ref D]);exact qc t D cs _ (s1.trans st) zD hD (st _ _ eD) (okc.same st) cl
def qE(K:PySem.W.Frag):Sp:=λvs H Q _=>∃(a b:Addr)(x1 y1 x2 y2:Int),vs=[.ref a,.ref b]/\Sq K H a [.int x1,.int y1]/\Sq K H b [.int x2,.int y2] /\
 ∀ p,H p=none->Q (.ref p) (upd H p (.tup [.int (x2-x1),.int (y2-y1)]))
theorem zDn(F:Fun K "stretch_way" "stretch_way" uM f fd)(Z:Zs mg)  : xK P w K mg base CX0 1 f fd ["start", "end"] (qE K):=by
 specialize zDh
 ·obtain⟨a,b,x1,y1,x2,y2,rfl,_⟩:=h;rfl
 obtain⟨a,b,x1,y1,x2,y2,rfl,ha,hb,q⟩:=h
 refine'⟨_,(zH (zO ?_)),?_⟩
 nofun
 exact⟨_,rfl,b,_,_,.int x2,rfl,rfl,hb,rfl,_,rfl,a,_,_,.int x1,rfl,rfl,ha,rfl,_,_,rfl,rfl,
  _,rfl,b,_,_,.int y2,rfl,rfl,hb,rfl,_,rfl,a,_,_,.int y1,rfl,rfl,ha,rfl,_,_,rfl,rfl,sz2,λp hp=>q p hp⟩
theorem zV7{D0 D1 D2:Int}(n:D0≠0\/D1≠0)(m0:D0.natAbs<=10^9)(m1:D1.natAbs<=10^9):0<yD [D0,D1,D2]/\(yD [D0,D1,D2]:Int)<=10^9/\(yD [D0,D1,D2]:Int)<10^600:=by
 have gp:0<yD [D0,D1,D2]:=by
  rcases n with n | n
  ·exact xO (n:=D0) (by simp) n
  ·exact xO (n:=D1) (by simp) n
 have z:(yD [D0,D1,D2]:Int)<=10^9:=by
  rcases n with n | n
  ·have:=zBc (ns:=[D0,D1,D2]) (n:=D0) (by simp) n;lia
  ·have:=zBc (ns:=[D0,D1,D2]) (n:=D1) (by simp) n;lia
 exact⟨gp,z,Int.lt_of_le_of_lt z (by decide +kernel)⟩
def sZ(K:PySem.W.Frag):Sp:=λvs H Q _=>∃(a b:Addr)(u v:Int×Int),vs=[.ref a,.ref b]/\Sq K H a [.int u.1,.int u.2]/\Sq K H b [.int v.1,.int v.2]/\u≠v/\u.1.natAbs<=10^6/\u.2.natAbs<=10^6/\v.1.natAbs<=10^6/\v.2.natAbs<=10^6 /\
 ∀(p:Addr)(H':Hp),zZ H H'->H p=none->H' p=some (.tup ((vK (yT u v)).map V.int))->Q (.ref p) H'
theorem zC3(F:Fun K "stretch_side" "stretch_side" wX f fd)(Z:Zs mg)(yAq:Has P w K mg base "plain_side" 3 ["side"] (qW K))(yCq:Has P w K mg base "turn" 1 ["one", "other"] (uK K))(yAk:Has P w K mg base "stretch_way" 1 ["start", "end"] (qE K)):xK P w K mg base CX0 4 f fd ["start", "end"] (sZ K):=by
 specialize rC
 ·obtain⟨a,b,u,v,rfl,_⟩:=h;rfl
 obtain⟨a,b,u,v,rfl,ha,hb,hne,m1,m2,m3,m4,q⟩:=h
 refine'⟨_,(zG (zX 2 rC.nd ?_)
   (zH (zO ?_))),?_⟩
 nofun
 refine⟨_,rfl,_,rfl,a,b,u.1,u.2,v.1,v.2,rfl,ha,hb,λd hd=>?_⟩;have sd:zZ H (upd H d (.tup [.int (v.1-u.1),.int (v.2-u.2)])):=zF hd _;have ed:Sq K (upd H d (.tup [.int (v.1-u.1),.int (v.2-u.2)])) d [.int (v.1-u.1),.int (v.2-u.2)]:=.inr (SqT.of zD);have nn:v.2-u.2≠0\/-(v.1-u.1)≠0:=by
  by_cases h1:v.2-u.2=0
  ·right;intro h2;exact hne (Prod.ext (by lia) (by lia))
  ·exact .inl h1
 obtain⟨g1,_,g2⟩:=zV7 (D0:=v.2-u.2) (D1:=-(v.1-u.1)) (D2:=u.1*(v.2-u.2)-u.2*(v.1-u.1)) nn (by lia) (by lia);refine⟨_,rfl,d,_,_,_,rfl,rfl,ed,rfl,_,rfl,d,_,_,_,rfl,rfl,ed,rfl,_,rfl,_,rfl,_,rfl,a,d,_,_,u.1,u.2,v.1-u.1,v.2-u.2,rfl,ha.same sd,ed,rfl,rfl,rfl,rfl,by lia,by lia,sz3,λt ht=>?_⟩;have st:=zF ht (.tup [.int (v.2-u.2),.int (-(v.1-u.1)),.int (u.1*(v.2-u.2)-u.2*(v.1-u.1))]);refine⟨t,yT u v,rfl,.inr (SqT.of zD),by show 3<=1000; decide,g1,g2,λp H3 s3 hp e3=>?_⟩;exact q p H3 ((sd.trans st).trans s3) ((sd.trans st).free hp) e3
theorem zUm(ps:List Pr)(k:Nat):qJ (zL ps) (some (k:Int)) none=zL (ps.drop k)/\qJ (zL ps) none (some (k:Int))=zL (ps.take k):=by
 refine⟨?_,zCa ps k⟩;unfold qJ;rw[HT.sIx_nat (zL ps).length 0 k,show HT.sIx (zL ps).length (zL ps).length none=(zL ps).length from rfl,List.take_of_length_le (by rw[List.length_drop] <;> lia)];rw[zQ];simp only[zL,<- List.map_drop]
 congr 2
 by_cases h:k<=ps.length
 ·rw[Nat.min_eq_left h]
 ·rw[Nat.min_eq_right (by lia),List.drop_length,List.drop_eq_nil_of_le (by lia)]
def sS(H:Hp)(ss:List Addr)(vs:List (Int×Int))(m:Nat):Prop:=ss.length=m/\∀ i<m,∃ p,ss[i]?=some p/\H p=some (.tup ((vK (yT (atP vs i) (atP vs ((i+1)%vs.length)))).map V.int))
theorem sS.same{H H':Hp}{ss:List Addr}{vs:List (Int×Int)}{m:Nat}(h:sS H ss vs m)(s:zZ H H'):sS H' ss vs m :=
 ⟨h.1,λi hi=>by
  obtain⟨p,e1,e2⟩:=h.2 i hi;exact⟨p,e1,s _ _ e2⟩⟩
theorem zEx{ps:List Pr}{i:Nat}{t:Pr}(h:ps[i]?=some t):atP (ps.map (·.2)) i=t.2:=by
 unfold atP;rw[List.getElem?_map,h];rfl
def uR(K:PySem.W.Frag):Sp:=λvs H Q _=>∃(l:Addr)(ps:List Pr),vs=[.ref l]/\H l=some (.lst (zL ps))/\qM H (10^6) ps/\3<=ps.length/\ps.length<=8 /\
 (∀ i<ps.length,atP (ps.map (·.2)) i≠atP (ps.map (·.2)) ((i+1)%ps.length)) /\
 ∀(D:Addr)(ss:List Addr)(H':Hp),zZ H H'->H D=none->H' D=some (.lst (ss.map V.ref))->sS H' ss (ps.map (·.2)) ps.length->Q (.ref D) H'
theorem zEj(F:Fun K "bank_sides" "bank_sides" vH f fd)(Z:Zs mg)(yAf:Has P w K mg base "stretch_side" 4 ["start", "end"] (sZ K)):xK P w K mg base CX0 5 f fd ["corners"] (uR K):=by
 specialize qN
 ·obtain⟨l,ps,rfl,_⟩:=h;rfl
 obtain⟨l,ps,rfl,el,pk,n3,n8,hne,q⟩:=h
 refine'⟨_,(zG (zX 1 qN.nd (xH uH ?_ ?_))
   (zH (zO (xJ (T:=["number"]) (caps:=[("corners", 0),("following", 1)]) ⟨rfl,by decide +kernel,by decide +kernel,rfl,⟨⟨rfl,rfl,Or.inl rfl⟩,⟨rfl,rfl,Or.inl rfl⟩,True.intro⟩⟩ rfl (xV rfl Z.range ?_) (λ_=>(yS 0 (show(["number", "corners", "following"]:List Str).Nodup by decide +kernel))) (λ_=>yF) (λ_=>?_))))),?_⟩
 nofun
 obtain⟨c1,c2⟩:=zUm ps 1;refine⟨_,rfl,_,rfl,l,_,rfl,SqL.of el,λf1 hf1=>?_⟩;rw[show qJ (zL ps) (some 1) none=zL (ps.drop 1) from c1];have sf1:=zF hf1 (.lst (zL (ps.drop 1)));refine⟨_,rfl,_,rfl,l,_,rfl,SqL.of (sf1 _ _ el),λf2 hf2=>?_⟩;rw[show qJ (zL ps) none (some 1)=zL (ps.take 1) from c2];have sf2:=zF hf2 (.lst (zL (ps.take 1)));refine⟨f1,f2,_,_,rfl,rfl,sf2 _ _ zD,zD,small (by rw[zQ,zQ,List.length_drop,List.length_take]; lia),λg hg=>?_⟩;have sA:=(sf1.trans sf2).trans (zF hg (.lst (zL (ps.drop 1)++zL (ps.take 1))));have eg:upd (upd (upd H f1 (.lst (zL (ps.drop 1)))) f2 (.lst (zL (ps.take 1)))) g (.lst (zL (ps.drop 1)++zL (ps.take 1))) g=some (.lst (zL (ps.drop 1++ps.take 1))):=by rw[zD,wQ]
 generalize upd (upd (upd H f1 (.lst (zL (ps.drop 1)))) f2 (.lst (zL (ps.take 1)))) g (.lst (zL (ps.drop 1)++zL (ps.take 1)))=H1 at sA eg ⊢;have el1:=sA _ _ el;have pk1:=pk.same sA;have nf:(ps.drop 1++ps.take 1).length=ps.length:=by rw[List.length_append,List.length_drop,List.length_take]; lia
 have getf:∀ i,i<ps.length->(ps.drop 1++ps.take 1)[i]?=ps[(i+1)%ps.length]?:=λi hi=>by
  by_cases h:i+1<ps.length
  ·rw[List.getElem?_append_left (by rw[List.length_drop]; lia),List.getElem?_drop,Nat.mod_eq_of_lt h,Nat.add_comm]
  ·rw[List.getElem?_append_right (by rw[List.length_drop]; lia),List.length_drop,List.getElem?_take,if_pos (by lia)]
   congr 1
   rw[show i+1=ps.length by lia,Nat.mod_self];lia
 refine⟨_,rfl,l,_,rfl,.inl (SqL.of el1),_,rfl,(by rw[zQ]; lia),(by rw[zQ]; lia),λc D hD=>?_⟩;refine tY (lo:=0) (n:=(((zL ps).length:Nat):Int).toNat) (λj σ zs H'=>zZ H1 H'/\H' D=some (.lst zs)/\(∃ ss:List Addr,zs=ss.map V.ref/\sS H' ss (ps.map (·.2)) j)/\∃ u0:Option V,σ=[u0,some (.ref l),some (.ref g)])
  ⟨zF hD _,zD,⟨[],rfl,rfl,λi hi=>absurd hi (Nat.not_lt_zero _)⟩,none,rfl⟩ (λi σ ys H' _ ⟨_,e,_⟩=>e) ?_ ?_
 ·rintro j σ zs H' hj ⟨sH,eD,⟨ss,rfl,hss⟩,u0,rfl⟩;have hjn:j<ps.length:=by rw[Int.toNat_natCast,zQ] at hj; exact hj
  obtain⟨t0,m0,g0,a0⟩:=qY (ps:=ps) (i:=j) (k:=0+(j:Int)) (by lia) hjn;obtain⟨t1,m1,g1,a1⟩:=qY (ps:=ps.drop 1++ps.take 1) (i:=j) (k:=0+(j:Int)) (by lia) (by lia);rw[getf j hjn] at g1;have m1':t1∈ps:=List.mem_of_getElem? g1;obtain⟨e0,b00,b01⟩:=pk1 t0 m0;obtain⟨e1,b10,b11⟩:=pk1 t1 m1';have p0:=zEx g0;have p1:=zEx g1;have hn:=hne j hjn;rw[p0,p1] at hn;refine⟨_,rfl,_,rfl,l,_,_,_,rfl,rfl,.inl (SqL.of (sH _ _ el1)),a0,_,rfl,_,rfl,g,_,_,_,rfl,rfl,.inl (SqL.of (sH _ _ eg)),a1,t0.1,t1.1,t0.2,t1.2,rfl,.inr (SqT.of (sH _ _ e0)),.inr (SqT.of (sH _ _ e1)),hn,b00,b01,b10,b11,λp H2 s2 hp ep=>?_⟩;have nD:p≠D:=λz=>by rw[z,eD] at hp; cases hp
  refine⟨s2 _ _ eD,zV (by rw[List.length_map,hss.1]; lia),(sH.trans s2).putNew hD,zD,⟨ss++[p],by rw[List.map_append]; rfl,by rw[List.length_append,hss.1]; rfl,λi hi=>?_⟩,_,rfl⟩;by_cases hij:i=j
  ·refine⟨p,?_,?_⟩
   ·rw[hij,List.getElem?_append_right (by rw[hss.1]; lia),hss.1,Nat.sub_self];rfl
   ·rw[yA nD,hij,List.length_map,p0,p1];exact ep
  ·obtain⟨p',e1',e2'⟩:=hss.2 i (by lia);refine⟨p',?_,?_⟩
   ·rw[List.getElem?_append_left (by rw[hss.1]; lia)];exact e1'
   ·rw[yA (tZ e2' eD (by intro z; cases z))];exact s2 _ _ e2'
 ·rintro σ zs H' ⟨sH,eD,⟨ss,rfl,hss⟩,u0,rfl⟩;rw[Int.toNat_natCast,zQ] at hss;exact q D ss H' (sA.trans sH) (sA.free hD) eD hss
def tW(K:PySem.W.Frag):Sp:=λvs H Q _=>∃(l D0:Addr)(ss:List Sd)(cs:List Pr),vs=[.ref l,.ref D0]/\SqL K H l (zJ ss)/\vP H ss/\H D0=some (.lst (zL cs))/\zHy H cs/\cs.length<=900/\(∀ c∈cs,0<=c.2.1) /\
 ∀(T d L:Addr)(ws:List Wo)(H':Hp),zZ H H'->H' T=some (.tup [.str "cannot", .ref d,.ref L])->H' d=some (.tup [.int (uU ss (fAt 0) ((wF ss.length cs).map (·.2)) 0),.int (uU ss (fAt 1) ((wF ss.length cs).map (·.2)) 0)]) ->
  H' L=some (.lst (zEb ws))->zQl H' ws->ws.map (·.2.2)=(wF ss.length cs).map (·.2)->Q (.ref T) H'
theorem zBk(F:Fun K "word_of_cannot" "word_of_cannot" wE f fd)(Z:Zs mg)(yCt:Has P w K mg base "part" 4 ["top", "bottom"] (wH K)):xK P w K mg base CX0 5 f fd ["sides", "shown"] (tW K):=by
 specialize xS
 ·obtain⟨l,D0,ss,cs,rfl,_⟩:=h;rfl
 obtain⟨l,D0,ss,cs,rfl,hl,ok,eD0,okc,h900,c0,q⟩:=h;have nl:=zK ss
 refine'⟨_,(zG (vC (T:=["pair"]) (caps:=[("sides", 0)]) (i:=2) xS.nd rfl rfl ⟨rfl,by decide +kernel,by decide +kernel,rfl,⟨⟨rfl,rfl,Or.inl rfl⟩,True.intro⟩⟩ rfl (xC (pv 1)) (λ_=>(yS 0 (show(["pair", "sides"]:List Str).Nodup by decide +kernel))) (λ_=>(zKr ?_)) (λ_=>(pv 0)))
   (zG (zX 3 xS.nd (wM (zFj rfl) rfl Z.sum zPd (zU (xJ (T:=["pair"]) (caps:=[("sides", 0)]) ⟨rfl,by decide +kernel,by decide +kernel,rfl,⟨⟨rfl,rfl,Or.inl rfl⟩,True.intro⟩⟩ rfl (xC (pv 2)) (λ_=>(yS 0 (show(["pair", "sides"]:List Str).Nodup by decide +kernel))) (λ_=>yF) (λ_=>?_)) yH)))
   (zG (zX 4 xS.nd (wM (zFj rfl) rfl Z.sum zPd (zU (xJ (T:=["pair"]) (caps:=[("sides", 0)]) ⟨rfl,by decide +kernel,by decide +kernel,rfl,⟨⟨rfl,rfl,Or.inl rfl⟩,True.intro⟩⟩ rfl (xC (pv 2)) (λ_=>(yS 0 (show(["pair", "sides"]:List Str).Nodup by decide +kernel))) (λ_=>yF) (λ_=>?_)) yH)))
   (zH (zO (zC5 (zU zGe (zU ?_ (zU (xJ (T:=["pair"]) (caps:=[]) ⟨rfl,by decide +kernel,by decide +kernel,rfl,True.intro⟩ rfl (xC (pv 2)) (λ_=>(yS 0 (show(["pair"]:List Str).Nodup by decide +kernel))) (λ_=>yF) (λ_=>?_)) yH))))))))),?_⟩
 nofun
 refine⟨_,rfl,D0,rfl,.inl ⟨⟨_,SqL.of eD0⟩,λcc D hD=>zFm (K:=K) (a:=D0) (xs:=zL cs) (λj σ ys G=>zZ H G/\G D=some (.lst ys)/\ys=zL (wF ss.length (cs.take j))/\∃ u0:Option V,σ=[u0,some (.ref l)])
  ⟨zF hD _,zD,rfl,none,rfl⟩ (λj σ ys G _ ⟨e,e2,_⟩=>⟨e.seq (SqL.of eD0),e2⟩) ?_ ?_⟩⟩
 ·rintro j x σ ys G hj ⟨sG,eY,rfl,u0,rfl⟩;obtain⟨t,gt,rfl,hjl⟩:=wO hj;have et:=sG _ _ (okc t (List.mem_of_getElem? gt));exists _,rfl,t.1,_,_,.int t.2.1,rfl,rfl,.inr (SqT.of et),rfl,_,rfl,l,_,rfl,.inl (sG.seq hl),_,_,rfl,rfl,_,rfl;rw[nl];have e1:cs.take (j+1)=cs.take j++[t]:=by rw[List.take_succ,gt]; rfl
  refine ifD (λh1=>?_) (λh1=>?_)
  ·have e2:wF ss.length (cs.take (j+1))=wF ss.length (cs.take j)++[t]:=by
    unfold wF;rw[e1,List.filter_append,List.filter_cons,decide_eq_true h1];rfl
   refine⟨_,rfl,eY,zV (by rw[zQ]; exact Nat.le_trans (List.length_filter_le _ _) (by rw[List.length_take]; lia)),sG.putNew hD,zD,?_,_,rfl⟩;rw[e2,wQ];rfl
  ·have e2:wF ss.length (cs.take (j+1))=wF ss.length (cs.take j):=by
    unfold wF;rw[e1,List.filter_append,List.filter_cons,decide_eq_false h1];simp
   exact⟨sG,eY,by rw[e2],_,rfl⟩
 rintro σ ys G1 ⟨s1,eD1,rfl,u0,rfl⟩;rw[zQ,List.take_length] at eD1;have oks:zHy G1 (wF ss.length cs):=λt ht=>s1 _ _ (okc t (List.mem_filter.mp ht).1);have rg:∀ t∈wF ss.length cs,0<=t.2.1/\t.2.1<(ss.length:Int):=λt ht=>⟨c0 t (List.mem_filter.mp ht).1,of_decide_eq_true (List.mem_filter.mp ht).2⟩;have nsh:(wF ss.length cs).length<=900:=Nat.le_trans (List.length_filter_le _ _) h900;have hl:=s1.seq hl;have ok:=ok.same s1;have eqs:∀ k:Int,((wF ss.length cs).map λc=>c.2.2*yJ ss (fAt k) c.2.1).sum=uU ss (fAt k) ((wF ss.length cs).map (·.2)) 0:=λk=>by
  rw[zPs,List.map_map,Int.zero_add];rfl
 generalize wF ss.length cs=sh at oks rg nsh eqs q eD1;have s00:zZ G1 G1:=zZ.refl _;refine⟨_,rfl,D,rfl,.inl ⟨⟨_,SqL.of eD1⟩,λcc E1 hD=>yM (K:=K) (a:=D) (xs:=zL sh) (λj σ ys G=>zZ G1 G/\G E1=some (.lst ys)/\ys=((sh.take j).map λc=>c.2.2*yJ ss (fAt 0) c.2.1).map V.int/\∃ u0:Option V,σ=[u0,some (.ref l)])
  ⟨zF hD _,zD,rfl,none,rfl⟩ (λj σ ys G _ ⟨e,e2,_⟩=>⟨e.seq (SqL.of eD1),e2⟩) ?_ ?_⟩⟩
 ·rintro j x σ ys G hj ⟨sG,eY,rfl,u0,rfl⟩;obtain⟨t,gt,rfl,hjl⟩:=wO hj;have mt:=List.mem_of_getElem? gt;have s0:=s00.trans sG;have et:=s0 _ _ (oks t mt);obtain⟨r0,r1⟩:=rg t mt;obtain⟨sd,msd,gsd,asd⟩:=yO (ss:=ss) (i:=t.2.1.toNat) (k:=t.2.1) (by lia) (by lia);obtain⟨es,_,b1,b2,_⟩:=(ok.same s0) sd msd;have ef:yJ ss (fAt 0) t.2.1=sd.2.1:=by
   unfold yJ;rw[gsd];rfl
  have sq:Sq K G t.1 [.int t.2.1,.int t.2.2]:=.inr (SqT.of et);exists _,rfl,t.1,_,_,.int t.2.2,rfl,rfl,sq,rfl,_,rfl,_,rfl,t.1,_,_,.int t.2.1,rfl,rfl,sq,rfl,l,_,_,.ref sd.1,rfl,rfl,.inl (s0.seq hl),asd,sd.1,_,_,.int sd.2.1,rfl,rfl,.inr (SqT.of es),rfl,_,_,rfl,rfl,zQe (by lia),eY;refine⟨zV (by rw[List.length_map,List.length_map,List.length_take]; lia),sG.putNew hD,zD,?_,_,rfl⟩;rw[List.take_succ,gt,List.map_append,List.map_append,<- ef];rfl
 rintro σ ys G2 ⟨s2,eE1,rfl,u1,rfl⟩;rw[zQ,List.take_length] at eE1;exists E1,_,rfl,SqL.of eE1;rw[eqs 0];have eD2:=s2 _ _ eD1;refine⟨_,rfl,D,rfl,.inl ⟨⟨_,SqL.of eD2⟩,λcc N1 hD=>yM (K:=K) (a:=D) (xs:=zL sh) (λj σ ys G=>zZ G2 G/\G N1=some (.lst ys)/\ys=((sh.take j).map λc=>c.2.2*yJ ss (fAt 1) c.2.1).map V.int/\∃ u0:Option V,σ=[u0,some (.ref l)])
  ⟨zF hD _,zD,rfl,none,rfl⟩ (λj σ ys G _ ⟨e,e2,_⟩=>⟨e.seq (SqL.of eD2),e2⟩) ?_ ?_⟩⟩
 ·rintro j x σ ys G hj ⟨sG,eY,rfl,u0,rfl⟩;obtain⟨t,gt,rfl,hjl⟩:=wO hj;have mt:=List.mem_of_getElem? gt;have s0:=s2.trans sG;have et:=s0 _ _ (oks t mt);obtain⟨r0,r1⟩:=rg t mt;obtain⟨sd,msd,gsd,asd⟩:=yO (ss:=ss) (i:=t.2.1.toNat) (k:=t.2.1) (by lia) (by lia);obtain⟨es,_,b1,b2,_⟩:=(ok.same s0) sd msd;have ef:yJ ss (fAt 1) t.2.1=sd.2.2.1:=by
   unfold yJ;rw[gsd];rfl
  have sq:Sq K G t.1 [.int t.2.1,.int t.2.2]:=.inr (SqT.of et);exists _,rfl,t.1,_,_,.int t.2.2,rfl,rfl,sq,rfl,_,rfl,_,rfl,t.1,_,_,.int t.2.1,rfl,rfl,sq,rfl,l,_,_,.ref sd.1,rfl,rfl,.inl (s0.seq hl),asd,sd.1,_,_,.int sd.2.2.1,rfl,rfl,.inr (SqT.of es),rfl,_,_,rfl,rfl,zQe (by lia),eY;refine⟨zV (by rw[List.length_map,List.length_map,List.length_take]; lia),sG.putNew hD,zD,?_,_,rfl⟩;rw[List.take_succ,gt,List.map_append,List.map_append,<- ef];rfl
 rintro σ ys G3 ⟨s3,eN1,rfl,u2,rfl⟩;rw[zQ,List.take_length] at eN1;exists N1,_,rfl,SqL.of eN1;rw[eqs 1];have eD3:=s3 _ _ eD2;have s13:=s2.trans s3;refine⟨_,rfl,_,rfl,sz2,λd hd=>?_⟩;have sd3:=zF hd (.tup [.int (uU ss (fAt 0) (sh.map (·.2)) 0),.int (uU ss (fAt 1) (sh.map (·.2)) 0)]);have ed:upd G3 d (.tup [.int (uU ss (fAt 0) (sh.map (·.2)) 0),.int (uU ss (fAt 1) (sh.map (·.2)) 0)]) d=some (.tup [.int (uU ss (fAt 0) (sh.map (·.2)) 0),.int (uU ss (fAt 1) (sh.map (·.2)) 0)]):=zD;generalize upd G3 d (.tup [.int (uU ss (fAt 0) (sh.map (·.2)) 0),.int (uU ss (fAt 1) (sh.map (·.2)) 0)])=G4 at sd3 ed ⊢;have s14:=s13.trans sd3;have eD4:=sd3 _ _ eD3;have ok4:=oks.same s14;refine⟨_,rfl,D,rfl,.inl ⟨⟨_,SqL.of eD4⟩,λcc L hL=>yM (K:=K) (a:=D) (xs:=zL sh) (λj σ ys G=>zZ G4 G/\G L=some (.lst ys)/\(∃ ws:List Wo,ys=zEb ws/\zQl G ws/\ws.map (·.2.2)=(sh.take j).map (·.2))/\∃ u0:Option V,σ=[u0])
  ⟨zF hL _,zD,⟨[],rfl,(λt ht=>nomatch ht),rfl⟩,none,rfl⟩ (λj σ ys G _ ⟨e,e2,_⟩=>⟨e.seq (SqL.of eD4),e2⟩) ?_ ?_⟩⟩
 ·rintro j x σ ys G hj ⟨sG,eY,⟨ws,rfl,okw,mw⟩,u0,rfl⟩;obtain⟨t,gt,rfl,hjl⟩:=wO hj;have et:=sG _ _ (ok4 t (List.mem_of_getElem? gt));have sq:Sq K G t.1 [.int t.2.1,.int t.2.2]:=.inr (SqT.of et);have nw:ws.length<=j:=by
   have z:=congrArg List.length mw;rw[List.length_map,List.length_map,List.length_take] at z;lia
  refine⟨_,rfl,t.1,_,_,.int t.2.1,rfl,rfl,sq,rfl,_,rfl,t.1,_,_,.int t.2.2,rfl,rfl,sq,rfl,t.2.2,1,rfl,by decide,by decide +kernel,λp1 x1 y1 G5 s5 hp1 ep1 po=>?_⟩;obtain⟨e1,e2⟩:=tI rfl po;rw[e1,e2] at ep1;refine⟨sz2,λp2 hp2=>?_⟩;have s6:=zF hp2 (.tup [.int t.2.1,.ref p1]);have eY6:=s6 _ _ (s5 _ _ eY);refine⟨eY6,zV (by rw[zHk]; lia),(sG.trans (s5.trans s6)).putNew hL,zD,⟨ws++[(p2,p1,t.2.1,t.2.2)],by simp[zEb],zQ5 okw (s5.trans s6) eY6 zD (s6 _ _ ep1),?_⟩,_,rfl⟩;rw[List.map_append,mw,List.take_succ,gt];simp
 rintro σ ys G5 ⟨s5,eL,⟨ws,rfl,okw,mw⟩,u3,rfl⟩;rw[zQ,List.take_length] at mw;refine⟨sz3,λT hT=>?_⟩;have sT:=zF hT (.tup [.str "cannot", .ref d,.ref L]);exact q T d L ws _ (s1.trans (s14.trans (s5.trans sT))) zD (sT _ _ (s5 _ _ ed)) (sT _ _ eL) (okw.same sT) mw
def qO(g P:P3)(x y:Int):Int:=if (g.2.2*P.2.2-g.1*P.1-g.2.1*P.2.1)/(P.2.2*(g.1*x+g.2.1*y))+1>0 then(g.2.2*P.2.2-g.1*P.1-g.2.1*P.2.1)/(P.2.2*(g.1*x+g.2.1*y))+1 else 0
def qD(K:PySem.W.Frag):Sp:=λvs H Q _=>∃(e p v:Addr)(g P:P3)(x y:Int),vs=[.ref e,.ref p,.ref v]/\Sq K H e [.int g.1,.int g.2.1,.int g.2.2]/\Sq K H p [.int P.1,.int P.2.1,.int P.2.2]/\Sq K H v [.int x,.int y] /\
 g.1.natAbs<=10^9/\g.2.1.natAbs<=10^9/\g.2.2.natAbs<=10^13/\x.natAbs<=2*10^9/\y.natAbs<=2*10^9/\0<g.1*x+g.2.1*y/\0<P.2.2/\P.1.natAbs<=10^40/\P.2.1.natAbs<=10^40/\P.2.2.natAbs<=10^40 /\
 ∀(q:Addr)(H':Hp),zZ H H'->H q=none->H' q=some (.tup ((vK (upL (P.1+qO g P x y*x*P.2.2) (P.2.1+qO g P x y*y*P.2.2) P.2.2)).map V.int))->Q (.ref q) H'
theorem zDi(F:Fun K "gone_beyond" "gone_beyond" uN f fd)(Z:Zs mg)(yCl:Has P w K mg base "spot" 4 ["x", "y", "w"] (zCf K))(yBy:Has P w K mg base "along" 1 ["one", "other"] (vD K)):xK P w K mg base CX0 5 f fd ["edge", "place", "way"] (qD K):=by
 specialize vQ
 ·obtain⟨e,p,v,g,P,x,y,rfl,_⟩:=h;rfl
 obtain⟨e,p,v,g,P,x,y,rfl,he,hp,hv,g1,g2,g3,x1,y1,al,pw,px,py,pz,q⟩:=h
 refine'⟨_,(zG (zX 3 vQ.nd ?_)
   (zG (zX 4 vQ.nd ?_)
   (zH (zO (xG yCl (hr.mono (by decide)) rfl (zU (xH zIg ?_ (xH vT ?_ ?_)) (zU (xH zIg ?_ (xH vT ?_ ?_)) (zU ?_ yH)))))))),?_⟩
 nofun
 exists _,rfl,e,_,_,.int g.2.2,rfl,rfl,he,rfl,_,rfl,p,_,_,.int P.2.2,rfl,rfl,hp,rfl,_,_,rfl,rfl,zA9 (by lia),_,rfl,e,_,_,.int g.1,rfl,rfl,he,rfl,_,rfl,p,_,_,.int P.1,rfl,rfl,hp,rfl,_,_,rfl,rfl,zA9 (by lia),_,_,rfl,rfl,_,rfl,e,_,_,.int g.2.1,rfl,rfl,he,rfl,_,rfl,p,_,_,.int P.2.1,rfl,rfl,hp,rfl,_,_,rfl,rfl,zA9 (by lia),_,_,rfl,rfl;have a1:=zI g.1 x g1 x1;have a2:=zI g.2.1 y g2 y1;have ab:g.1*x+g.2.1*y<=4*10^18:=by
  have e1:(10:Nat)^9*(2*10^9)=2*10^18:=by decide
  lia
 have big:∀{n:Nat},n<=10^70->n<2^4096:=λh=>Nat.lt_of_le_of_lt h (by decide +kernel);have dp:0<P.2.2*(g.1*x+g.2.1*y):=Int.mul_pos pw al;have dv:sC (g.2.2*P.2.2-g.1*P.1-g.2.1*P.2.1) (P.2.2*(g.1*x+g.2.1*y)):=by
  refine⟨dp,big ?_⟩;have z:=zI P.2.2 (g.1*x+g.2.1*y) (n:=4*10^18) pz (by lia);exact Nat.le_trans z (by decide)
 have sb:(qO g P x y).natAbs<=10^55:=by
  have z1:=zI g.2.2 P.2.2 g3 pz;have z2:=zI g.1 P.1 g1 px;have z3:=zI g.2.1 P.2.1 g2 py;have e1:(10:Nat)^13*10^40=10^53:=by decide
  have e2:(10:Nat)^9*10^40=10^49:=by decide
  have z4:(g.2.2*P.2.2-g.1*P.1-g.2.1*P.2.1)/(P.2.2*(g.1*x+g.2.1*y))<=((g.2.2*P.2.2-g.1*P.1-g.2.1*P.2.1).natAbs:Int):=Int.le_trans (Int.ediv_le_ediv dp Int.le_natAbs) (Int.ediv_le_self _ (Int.natCast_nonneg _));unfold qO;generalize (g.2.2*P.2.2-g.1*P.1-g.2.1*P.2.1)/(P.2.2*(g.1*x+g.2.1*y))=d at z4 ⊢;rw[e1] at z1;rw[e2] at z2 z3;split <;> lia
 have mx:=zI (qO g P x y) x sb x1;have my:=zI (qO g P x y) y sb y1;have e3:(10:Nat)^55*(2*10^9)<=10^70:=by decide
 have bz:P.2.2.natAbs<2^4096:=big (Nat.le_trans pz (by decide));exists _,rfl,_,rfl,p,_,_,.int P.2.2,rfl,rfl,hp,rfl,_,rfl,_,rfl,e,v,_,_,g.1,g.2.1,x,y,rfl,he,hv,rfl,rfl,rfl,rfl,by lia,by lia,_,_,rfl,rfl,.inr ⟨by lia,by lia⟩,_,_,rfl,rfl,dv,_,_,rfl,rfl,0,_,rfl;refine⟨_,rfl,p,_,_,.int P.1,rfl,rfl,hp,rfl,_,rfl,_,rfl,v,_,_,.int x,rfl,rfl,hv,rfl,qO g P x y,x,rfl,rfl,zQe (by lia),_,rfl,p,_,_,.int P.2.2,rfl,rfl,hp,rfl,_,_,rfl,rfl,⟨big (Nat.le_trans mx e3),bz⟩,_,_,rfl,rfl,
  _,rfl,p,_,_,.int P.2.1,rfl,rfl,hp,rfl,_,rfl,_,rfl,v,_,_,.int y,rfl,rfl,hv,rfl,qO g P x y,y,rfl,rfl,zQe (by lia),_,rfl,p,_,_,.int P.2.2,rfl,rfl,hp,rfl,_,_,rfl,rfl,⟨big (Nat.le_trans my e3),bz⟩,_,_,rfl,rfl,
  _,rfl,p,_,_,.int P.2.2,rfl,rfl,hp,rfl,_,_,_,rfl,by lia,zSm pz,q⟩
theorem zNk{t Z:P3}{x y n:Int} : sv t (Z.1+n*x*Z.2.2,Z.2.1+n*y*Z.2.2,Z.2.2)=sv t Z+n*Z.2.2*(t.1*x+t.2.1*y):=by
 unfold sv;simp only[Int.mul_add,Int.mul_comm,Int.mul_left_comm,Int.mul_assoc];lia
theorem zLj{t:P3}{X Y W x y w:Int}(p:zKp X Y W x y w):sv t (x,y,w)*W=sv t (X,Y,W)*w:=by
 unfold sv;show(t.1*x+t.2.1*y-t.2.2*w)*W=(t.1*X+t.2.1*Y-t.2.2*W)*w;rw[Int.sub_mul,Int.add_mul,Int.mul_assoc,Int.mul_assoc,p.ex,p.ey,Int.sub_mul,Int.add_mul,Int.mul_assoc t.1,Int.mul_assoc t.2.1,Int.mul_assoc t.2.2,Int.mul_assoc t.2.2,Int.mul_comm w W]
theorem zPt{ss:List Sd}{g P:P3}{x y:Int}(al:0<g.1*x+g.2.1*y)(wy:rS ss x y=true)(pw:0<P.2.2)(wp:inW ss P) :
  ∃ Z:P3,vK (upL (P.1+qO g P x y*x*P.2.2) (P.2.1+qO g P x y*y*P.2.2) P.2.2)=[Z.1,Z.2.1,Z.2.2]/\0<Z.2.2/\Nat.gcd (Nat.gcd Z.1.natAbs Z.2.1.natAbs) Z.2.2.natAbs=1/\inW ss Z/\0<sv g Z:=by
 obtain⟨X,Y,W,el,sp⟩:=zCm (X:=P.1+qO g P x y*x*P.2.2) (Y:=P.2.1+qO g P x y*y*P.2.2) (W:=P.2.2) (by lia);have wp1:0<W:=by have:=sp.pos; lia
 have s0:0<=qO g P x y:=by
  unfold qO;split <;> lia
 refine⟨(X,Y,W),el,wp1,sp.low,λt ht=>?_,?_⟩
 ·have z:=zLj (t:=t.2) sp;rw[zNk] at z;have z1:=wp t ht;have z2:t.2.1*x+t.2.2.1*y<=0:=of_decide_eq_true (List.all_eq_true.mp wy t ht);have z3:=Int.mul_nonpos_of_nonneg_of_nonpos (Int.mul_nonneg s0 (Int.le_of_lt pw)) z2;have z4:=Int.mul_nonpos_of_nonpos_of_nonneg (show sv t.2 P+qO g P x y*P.2.2*(t.2.1*x+t.2.2.1*y)<=0 by lia) (Int.le_of_lt wp1);rw[<- z] at z4;by_cases c:sv t.2 (X,Y,W)<=0
  ·exact c
  ·have:=Int.mul_pos (show 0<sv t.2 (X,Y,W) by lia) pw;lia
 ·have z:=zLj (t:=g) sp;rw[zNk] at z;have dp:0<P.2.2*(g.1*x+g.2.1*y):=Int.mul_pos pw al;have k:0<sv g P+qO g P x y*P.2.2*(g.1*x+g.2.1*y):=by
   rw[Int.mul_assoc];have e1:g.2.2*P.2.2-g.1*P.1-g.2.1*P.2.1 = -sv g P:=by
    unfold sv;lia
   unfold qO;rw[e1];generalize P.2.2*(g.1*x+g.2.1*y)=D at dp ⊢;have q1:=Int.lt_ediv_add_one_mul_self (-sv g P) dp;split
   ·lia
   ·rename_i h
    have q2 : -sv g P/D<0:=by lia
    have q3 : -sv g P<0:=by
     by_cases c:0<=-sv g P
     ·have:=Int.ediv_nonneg c (Int.le_of_lt dp);lia
     ·lia
    lia
  refine uE (y:=P.2.2) ?_ pw;rw[z];exact Int.mul_pos k wp1
def uV(K:PySem.W.Frag):Sp:=λvs H Q _=>∃(l e:Addr)(ss:List Sd)(g:P3),vs=[.ref l,.ref e]/\SqL K H l (zJ ss)/\vP H ss/\ss.length<=400/\Sq K H e [.int g.1,.int g.2.1,.int g.2.2]/\(g.1≠0\/g.2.1≠0)/\g.1.natAbs<=10^9/\g.2.1.natAbs<=10^9/\g.2.2.natAbs<=10^13/\(∃ z:P3,0<z.2.2/\inW ss z) /\
 (∀(T p:Addr)(Z:P3)(H':Hp),zZ H H'->H' T=some (.tup [.ref p,.non])->zMh H' p Z->inW ss Z->0<sv g Z->Q (.ref T) H') /\
 ∀(T D:Addr)(P:P3)(ws:List Wt)(H':Hp),zZ H H'->H' T=some (.tup [.non,.ref D])->H D=none->H' D=some (.lst (zP ws))->qG H' ws->0<P.2.2->Far ss g P (wtN ws)->sv g P<=0->Q (.ref T) H'
theorem qI(F:Fun K "beyond_or_weights" "beyond_or_weights" xL f fd)(Z:Zs mg)(yCj:Has P w K mg base "holds" 2 ["side", "spot"] (tN K))(yAm:Has P w K mg base "gone_beyond" 5 ["edge", "place", "way"] (qD K))(yAw:Has P w K mg base "some_spot" 9 ["sides"] (sU K))(yCk:Has P w K mg base "reach" 10 ["sides", "direction"] (zGf K)):xK P w K mg base CX0 11 f fd ["sides", "edge"] (uV K):=by
 specialize uZ
 ·obtain⟨l,e,ss,g,rfl,_⟩:=h;rfl
 obtain⟨l,e,ss,g,rfl,hl,ok,hlen,he,gz,g1,g2,g3,⟨z0,zw0,wz0⟩,qa,qb⟩:=h;have sm:∀ t∈ss,(t.2.1≠0\/t.2.2.1≠0)/\t.2.1.natAbs<=10^9/\t.2.2.1.natAbs<=10^9/\t.2.2.2.natAbs<=10^13:=λt ht=>(ok t ht).2
 refine'⟨_,(zG (zX 2 uZ.nd ?_)
   (zG (yC ?_ (zH (zO ?_)) zS)
   (zG (yC ?_ (zH (zO ?_)) zS)
   (zH (zO ?_))))),?_⟩
 nofun
 refine⟨_,rfl,_,rfl,e,_,_,.int g.1,rfl,rfl,he,rfl,_,rfl,e,_,_,.int g.2.1,rfl,rfl,he,rfl,sz2,λd hd=>?_⟩;have sd:zZ H (upd H d (.tup [.int g.1,.int g.2.1])):=zF hd _;have ed:upd H d (.tup [.int g.1,.int g.2.1]) d=some (.tup [.int g.1,.int g.2.1]):=zD;generalize upd H d (.tup [.int g.1,.int g.2.1])=H0 at sd ed ⊢;refine⟨l,d,ss,g,rfl,sd.seq hl,ok.same sd,hlen,.inr (SqT.of ed),gz,by lia,by lia,λt D cs H1 s1 et hD eD okc cl=>absurd wz0 (cl.no z0 zw0),λt p x y Z0 H1 s1 et ep _ al wy bx by' zw wz cz=>?_,λt p D P ws H1 s1 et ep wp cp hD eD okw fr=>?_⟩
 ·have s01:=sd.trans s1;exists _,rfl,t,_,_,.str "open", rfl,rfl,.inr (SqT.of et),rfl,rfl,_,rfl;refine zM6 ?_;refine⟨_,rfl,_,rfl,l,ss,rfl,s01.seq hl,ok.same s01,by lia,λH2 s2 no=>absurd wz0 (no z0 zw0),λp2 P2 H2 s2 ep2 wp2 cp2=>?_⟩;obtain⟨c1,c2,c3⟩:=cp2.small sm;have s02:=s01.trans s2;refine⟨_,rfl,t,_,_,.ref p,rfl,rfl,.inr (SqT.of (s2 _ _ et)),rfl,e,p2,p,g,P2,x,y,rfl,he.same s02,.inr (SqT.of ep2.1),.inr (SqT.of (s2 _ _ ep)),g1,g2,g3,bx,by',al,ep2.2.1,c1,c2,c3,λq2 H3 s3 hq2 eq2=>?_⟩;obtain⟨Z2,eZ2,Z2w,Z2l,wZ2,bZ2⟩:=zPt (g:=g) al wy ep2.2.1 wp2;rw[eZ2] at eq2;exact⟨sz2,λT hT=>qa T q2 Z2 _ ((s02.trans s3).trans (zF hT _)) zD ⟨zF hT _ _ _ eq2,Z2w,Z2l⟩ wZ2 bZ2⟩
 ·have s01:=sd.trans s1;exists _,rfl,t,_,_,.str "far", rfl,rfl,.inr (SqT.of et),rfl,rfl,_,rfl;refine zD8 (by decide) ?_;exists _,rfl,_,rfl,t,_,_,.ref p,rfl,rfl,.inr (SqT.of et),rfl,e,p,g.1,g.2.1,g.2.2,P.1,P.2.1,P.2.2,rfl,he.same s01,.inr (SqT.of ep.1),by lia,by lia,by lia,_,rfl;refine ifD (λhh=>?_) (λhh=>?_)
  ·refine⟨_,rfl,t,_,_,.ref D,rfl,rfl,.inr (SqT.of et),rfl,sz2,λT hT=>qb T D P ws _ (s01.trans (zF hT _)) zD (sd.free hD) (zF hT _ _ _ eD) (okw.same (zF hT _)) ep.2.1 fr ?_⟩;unfold sv;lia
  ·refine⟨_,rfl,t,_,_,.ref p,rfl,rfl,.inr (SqT.of et),rfl,sz2,λT hT=>qa T p P _ (s01.trans (zF hT _)) zD ⟨zF hT _ _ _ ep.1,ep.2⟩ wp ?_⟩;unfold sv;lia
def yX(vs:List (Int×Int)):List P3:=(List.range vs.length).map λi=>pt3 (vK (yT (atP vs i) (atP vs ((i+1)%vs.length))))
theorem zPh{u v:Int×Int}(n:u≠v)(m1:u.1.natAbs<=10^6)(m2:u.2.natAbs<=10^6)(m3:v.1.natAbs<=10^6)(m4:v.2.natAbs<=10^6):∃ x y z:Int,vK (yT u v)=[x,y,z]/\(x≠0\/y≠0)/\x.natAbs<=10^9/\y.natAbs<=10^9/\z.natAbs<=10^13:=by
 have nD:v.2-u.2≠0\/-(v.1-u.1)≠0:=by
  by_cases h1:v.2=u.2
  ·refine .inr λz=>n (Prod.ext (by lia) h1.symm)
  ·exact .inl (by lia)
 have d1:(v.2-u.2).natAbs<=2*10^6:=by clear m1 m3 n nD; lia
 have d2:(v.1-u.1).natAbs<=2*10^6:=by clear m2 m4 n nD d1; lia
 have p1:=zI u.1 (v.2-u.2) m1 d1;have p2:=zI u.2 (v.1-u.1) m2 d2;have d3:(-(v.1-u.1)).natAbs<=2*10^6:=by rw[Int.natAbs_neg]; exact d2
 have d4:(u.1*(v.2-u.2)-u.2*(v.1-u.1)).natAbs<=4*10^12:=by
  clear m1 m2 m3 m4 n nD d1 d2 d3;generalize u.1*(v.2-u.2)=A at p1 ⊢;generalize u.2*(v.1-u.1)=B at p2 ⊢;lia
 clear p1 p2 m1 m2 m3 m4 n;obtain⟨gp,_,_⟩:=zV7 (D2:=u.1*(v.2-u.2)-u.2*(v.1-u.1)) nD (Nat.le_trans d1 (by decide)) (Nat.le_trans d3 (by decide));have gI:(0:Int)<(yD (yT u v):Int):=by
  have:0<yD (yT u v):=gp;lia
 have a0:=xM (v.2-u.2) gI (xP (ns:=yT u v) (by simp[yT]));have a1:=xM (-(v.1-u.1)) gI (xP (ns:=yT u v) (by simp[yT]));have a2:=xM (u.1*(v.2-u.2)-u.2*(v.1-u.1)) gI (xP (ns:=yT u v) (by simp[yT]));have c0:=yL (ns:=yT u v) (n:=v.2-u.2) (by simp[yT]);have c1:=yL (ns:=yT u v) (n:=-(v.1-u.1)) (by simp[yT]);refine⟨(v.2-u.2)/(yD (yT u v):Int),-(v.1-u.1)/(yD (yT u v):Int),(u.1*(v.2-u.2)-u.2*(v.1-u.1))/(yD (yT u v):Int),rfl,?_,Nat.le_trans a0 (Nat.le_trans d1 (by decide)),Nat.le_trans a1 (Nat.le_trans d3 (by decide)),Nat.le_trans a2 (Nat.le_trans d4 (by decide))⟩;rcases nD with h | h
 ·exact .inl λz=>h (by rw[<- c0,z,Int.zero_mul])
 ·exact .inr λz=>h (by rw[<- c1,z,Int.zero_mul])
theorem sS.sd{H:Hp}{ps:List Pr}{as:List Addr}(pk:qM H (10^6) ps)(ne:∀ i<ps.length,atP (ps.map (·.2)) i≠atP (ps.map (·.2)) ((i+1)%ps.length))(h:sS H as (ps.map (·.2)) ps.length) :
  ∃ es:List Sd,as.map V.ref=zJ es/\vP H es/\es.map (·.2)=yX (ps.map (·.2)):=by
 have lp:(ps.map (·.2)).length=ps.length:=List.length_map ..;have atB:∀ i<ps.length,(atP (ps.map (·.2)) i).1.natAbs<=10^6/\(atP (ps.map (·.2)) i).2.natAbs<=10^6:=λi hi=>by
  rw[zEx (List.getElem?_eq_getElem hi)];exact(pk _ (List.getElem_mem hi)).2
 refine⟨(List.range ps.length).map λi=>(as.getD i 0,pt3 (vK (yT (atP (ps.map (·.2)) i) (atP (ps.map (·.2)) ((i+1)%(ps.map (·.2)).length))))),?_,λt ht=>?_,?_⟩
 ·unfold zJ;refine List.ext_getElem? λi=>?_;rw[List.map_map,List.getElem?_map,List.getElem?_map,List.getElem?_map];by_cases hi:i<ps.length
  ·rw[List.getElem?_range hi,List.getElem?_eq_getElem (show i<as.length by rw[h.1]; exact hi)];simp[List.getD,List.getElem?_eq_getElem (show i<as.length by rw[h.1]; exact hi)]
  ·rw[List.getElem?_eq_none (by rw[h.1]; lia),List.getElem?_eq_none (by rw[List.length_range]; lia)];rfl
 ·obtain⟨i,hi,rfl⟩:=List.mem_map.mp ht;have hi':=List.mem_range.mp hi;have hj:(i+1)%ps.length<ps.length:=Nat.mod_lt _ (by lia);obtain⟨p,e1,e2⟩:=h.2 i hi';rw[lp] at e2;obtain⟨x,y,z,exyz,nn,b1,b2,b3⟩:=zPh (ne i hi') (atB i hi').1 (atB i hi').2 (atB _ hj).1 (atB _ hj).2;have ep:as.getD i 0=p:=by
   unfold List.getD;rw[e1];rfl
  show H (as.getD i 0)=_/\_;rw[lp,ep,exyz];rw[exyz] at e2;exact⟨e2,nn,b1,b2,b3⟩
 ·rw[List.map_map];unfold yX;rw[lp];rfl
abbrev zW(tl:List (Addr×List Wt)):List V:=(tl.map (·.1)).map V.ref
structure zH0(H0:Hp)(W:Addr)(tl:List (Addr×List Wt))(G:Hp):Prop where
 same:zZ H0 G
 new:H0 W=none
 at':G W=some (.lst (zW tl))
 all:∀ u∈tl,u.1≠W/\G u.1=some (.lst (zP u.2))/\qG G u.2
theorem zH0.step{H0 G G2:Hp}{W D:Addr}{tl:List (Addr×List Wt)}{ws:List Wt}(P:zH0 H0 W tl G)(s:zZ G G2)(hD:G D=none)(eD:G2 D=some (.lst (zP ws)))(okw:qG G2 ws) :
  zH0 H0 W (tl++[(D,ws)]) (upd G2 W (.lst (zW tl++[.ref D]))):=by
 have eW:=s _ _ P.at';have tupK:∀{b:Addr}{xs:List V}{o:HO},G2 b=some (.tup xs)->upd G2 W o b=some (.tup xs):=λe=>by
  rw[yA (tZ e eW (by intro z; cases z))];exact e
 have wk:∀{us:List Wt}{o:HO},qG G2 us->qG (upd G2 W o) us:=λh t ht=>⟨tupK (h t ht).1,tupK (h t ht).2⟩;refine⟨(P.same.trans s).putNew P.new,P.new,by rw[zD]; simp[zW],λu hu=>?_⟩;rcases List.mem_append.mp hu with h | h
 ·obtain⟨h1,h2,h3⟩:=P.all u h;refine⟨h1,?_,wk (h3.same s)⟩;rw[yA h1];exact s _ _ h2
 ·rw[List.mem_singleton] at h;subst h;have nD:D≠W:=λe=>by rw[e,P.at'] at hD; cases hD
  refine⟨nD,?_,wk okw⟩;show upd G2 W _ D=_;rw[yA nD];exact eD
def WordQ(H:Hp)(ss:List Sd)(vs:List (Int×Int))(Q:VK):Prop :=
 (∀(T D:Addr)(cs:List Pr)(H':Hp),zZ H H'->H' T=some (.tup [.str "none", .ref D])->H' D=some (.lst (zL cs))->zHy H' cs->zA0 ss (cs.map (·.2))->Q (.ref T) H') /\
 (∀(T d L:Addr)(ws:List Wo)(es:List Sd)(cs:List Pr)(H':Hp),zZ H H'->H' T=some (.tup [.str "cannot", .ref d,.ref L])->H' d=some (.tup [.int (uU ss (fAt 0) ((wF ss.length cs).map (·.2)) 0),.int (uU ss (fAt 1) ((wF ss.length cs).map (·.2)) 0)]) ->
  H' L=some (.lst (zEb ws))->zQl H' ws->ws.map (·.2.2)=(wF ss.length cs).map (·.2)->es.map (·.2)=yX vs->zA0 (ss++es) (cs.map (·.2))->(∃ z:P3,0<z.2.2/\inW ss z)->Q (.ref T) H') /\
 (∀(T p1 p2:Addr)(P1 P2:P3)(H':Hp),zZ H H'->H' T=some (.tup [.str "can", .ref p1,.ref p2])->zMh H' p1 P1->zMh H' p2 P2->inW ss P1->(∀ e∈yX vs,sv e P1<=0)->inW ss P2->(∃ e∈yX vs,0<sv e P2)->Q (.ref T) H') /\
 ∀(T W:Addr)(tl:List (Addr×List Wt))(H':Hp),zZ H H'->H W=none->H' T=some (.tup [.str "must", .ref W])->H' W=some (.lst (zW tl))->(∀ u∈tl,u.1≠W/\H' u.1=some (.lst (zP u.2))/\qG H' u.2)->tl.length=vs.length ->
  (∀(j:Nat)(u:Addr×List Wt)(e:P3),tl[j]?=some u->(yX vs)[j]?=some e->∃ P:P3,0<P.2.2/\Far ss e P (wtN u.2)/\sv e P<=0)->(∃ z:P3,0<z.2.2/\inW ss z)->Q (.ref T) H'
def zA1(K:PySem.W.Frag):Sp:=λvs H Q _=>∃(l c:Addr)(ss:List Sd)(ps:List Pr),vs=[.ref l,.ref c]/\H l=some (.lst (zJ ss))/\vP H ss/\ss.length<=300/\H c=some (.lst (zL ps))/\qM H (10^6) ps/\3<=ps.length/\ps.length<=8/\(∀ i<ps.length,atP (ps.map (·.2)) i≠atP (ps.map (·.2)) ((i+1)%ps.length))/\WordQ H ss (ps.map (·.2)) Q
theorem zF1(F:Fun K "bank_word" "bank_word" vY f fd)(Z:Zs mg)(yAw:Has P w K mg base "some_spot" 9 ["sides"] (sU K))(yAa:Has P w K mg base "beyond_or_weights" 11 ["sides", "edge"] (uV K))(yAc:Has P w K mg base "word_of_cannot" 5 ["sides", "shown"] (tW K))(yCa:Has P w K mg base "clash" 9 ["sides"] (zC2 K))(yAs:Has P w K mg base "bank_sides" 5 ["corners"] (uR K)):xK P w K mg base CX0 12 f fd ["sides", "corners"] (zA1 K):=by
 specialize xN
 ·obtain⟨l,c,ss,ps,rfl,_⟩:=h;rfl
 obtain⟨l,c,ss,ps,rfl,el,ok,hlen,ec,pk,p3,p8,ne,q0,q1,q2,q3⟩:=h
 refine'⟨_,(zG (zX 2 xN.nd ?_)
   (zG (yC ?_ (zH (zO ?_)) zS)
   (zG (zX 3 xN.nd ?_)
   (zG (zX 4 xN.nd (xG yCa (hr.mono (by decide)) rfl (zU (xH uH (pv 0) (pv 3)) yH)))
   (zG (yC ?_ (zH (zO ?_)) zS)
   (zG (zX 5 xN.nd ?_)
   (zG (wU PassesOwn.never rfl (xC (pv 3)) (yS 6 xN.nd) (zG (zX 7 xN.nd ?_)
   (zG (yC ?_ (zH (zO (zC5 (zU zGe (zU (xG yAw (hr.mono (by decide)) rfl (zU (xH uH (pv 0) (pv 3)) yH)) (zU ?_ yH)))))) zS)
   (zH (zAe (zH3 (pv 5) ?_))))))
   (zH (zO ?_))))))))),?_⟩
 nofun
 refine⟨_,rfl,l,ss,rfl,SqL.of el,ok,by lia,λP0 H1 s1 pw wp cp=>?_,λD cs H1 s1 hD eD okc cl=>?_⟩;rotate_left
 ·exists _,rfl,rfl,_,rfl;refine uT ?_;exact⟨_,rfl,sz2,λT hT=>q0 T D cs _ (s1.trans (zF hT _)) zD (zF hT _ _ _ eD) (λt ht=>zF hT _ _ _ (okc t ht)) cl⟩
 exists _,rfl,rfl,_,rfl;refine vS ?_;have here:∃ z:P3,0<z.2.2/\inW ss z:=⟨P0,pw,wp⟩;refine⟨_,rfl,c,ps,rfl,s1 _ _ ec,pk.same s1,p3,p8,ne,λE0 as H2 s2 hE eE sat=>?_⟩;have s12:=s1.trans s2;obtain⟨es,ees,oke,mes⟩:=sS.sd (pk.same s12) ne sat;rw[ees] at eE;have nes:es.length=ps.length:=by
  have z:=congrArg List.length mes;unfold yX at z;rw[List.length_map,List.length_map,List.length_range,List.length_map] at z;exact z
 have el2:=s12 _ _ el;have ok2:=ok.same s12;refine⟨_,rfl,_,rfl,l,E0,_,_,rfl,rfl,el2,eE,?_,λA hA=>?_⟩
 ·rw[zK,zK];exact Nat.le_trans (show ss.length+es.length<=1000 by lia) (by decide)
 have sA:zZ H2 (upd H2 A (.lst (zJ ss++zJ es))):=zF hA _;have eA:upd H2 A (.lst (zJ ss++zJ es)) A=some (.lst (zJ (ss++es))):=by rw[zD]; simp[zJ]
 generalize upd H2 A (.lst (zJ ss++zJ es))=H3 at sA eA ⊢;have okA:vP H3 (ss++es):=λt ht=>(List.mem_append.mp ht).elim (λh=>(ok2.same sA) t h) λh=>(oke.same sA) t h;have both:∀ z:P3,inW (ss++es) z↔inW ss z/\∀ e∈yX (ps.map (·.2)),sv e z<=0:=λz=>by
  rw[<- mes];constructor
  ·exact λh=>⟨λt ht=>h t (List.mem_append_left _ ht),λe he=>by
    obtain⟨t,mt,rfl⟩:=List.mem_map.mp he;exact h t (List.mem_append_right _ mt)⟩
  ·exact λh t ht=>(List.mem_append.mp ht).elim (h.1 t) λmt=>h.2 t.2 (List.mem_map_of_mem mt)
 have s13:=s12.trans sA;refine⟨A,ss++es,rfl,SqL.of eA,okA,by rw[List.length_append]; lia,λP1 H4 s4 pw1 wp1 cp1=>?_,λD cs H4 s4 hD eD okc cl=>?_⟩;rotate_left
 ·exists _,rfl,rfl,_,rfl;refine uT ?_;have s14:=s13.trans s4;refine⟨_,rfl,_,rfl,l,D,ss,cs,rfl,SqL.of (s14 _ _ el),ok.same s14,eD,okc,?_,?_,λT d L ws H5 s5 eT ed eL okL mws=>?_⟩
  ·have z:=cl.range.1;rw[List.length_map] at z;lia
  ·exact λc hc=>(cl.range.2 c.2 (List.mem_map_of_mem hc)).1
  ·exact q1 T d L ws es cs _ (s14.trans s5) eT ed eL okL mws mes cl here
 exists _,rfl,rfl,_,rfl;refine vS ?_;have inn:∃ z:P3,0<z.2.2/\inW ss z/\∀ e∈yX (ps.map (·.2)),sv e z<=0:=⟨P1,pw1,((both P1).mp wp1).1,((both P1).mp wp1).2⟩;have s14:=s13.trans s4;have s34:=sA.trans s4;have eE4:=s34 _ _ eE;have el4:=s14 _ _ el;have ok4:=ok.same s14;have oke4:=oke.same s34;refine⟨sz0,λW hW=>?_⟩;have M0:zH0 H4 W [] (upd H4 W (.lst [])):=⟨zF hW _,hW,zD,(λu hu=>nomatch hu)⟩;generalize upd H4 W (.lst [])=H5 at M0 ⊢;refine⟨_,rfl,E0,rfl,.inl ⟨⟨_,SqL.of (M0.same _ _ eE4)⟩,wD (K:=K) (a:=E0) (xs:=zJ es) (λi σ G=>(∃ tl:List (Addr×List Wt),tl.length=i/\zH0 H4 W tl G/\∀(j:Nat)(u:Addr×List Wt)(t:Sd),tl[j]?=some u->es[j]?=some t->∃ P:P3,0<P.2.2/\Far ss t.2 P (wtN u.2)/\sv t.2 P<=0)/\∃ u6 u7:Option V,σ=[some (.ref l),some (.ref c),some .non,some (.ref E0),some .non,some (.ref W),u6,u7])
  ⟨⟨[],rfl,M0,λj u t h=>absurd h (by simp)⟩,none,none,rfl⟩ (λi σ G _ ⟨⟨_,_,e,_⟩,_⟩=>e.same.seq (SqL.of eE4)) ?_ ?_⟩⟩
 ·rintro i v σ G hi ⟨⟨tl,ntl,M,each⟩,u6,u7,rfl⟩;obtain⟨t,gt,rfl,hil⟩:=xZ hi;have mt:=List.mem_of_getElem? gt;have sG:=M.same;have eG:=oke4.same sG;obtain⟨et,nt,b1,b2,b3⟩:=eG t mt;refine⟨_,rfl,_,rfl,l,t.1,ss,t.2,rfl,SqL.of (sG _ _ el4),ok4.same sG,by lia,.inr (SqT.of et),nt,b1,b2,b3,here,λT p Z2 G2 s2 eT ez wz bz=>?_,λT D P ws G2 s2 eT hD eD okw pwP fr bP=>?_⟩
  ·have sG2:=sG.trans s2;exists _,rfl,T,_,_,.ref p,rfl,rfl,.inr (SqT.of eT),rfl,rfl,_,rfl;refine uT ?_;refine⟨_,rfl,_,rfl,l,E0,_,_,rfl,rfl,sG2 _ _ el4,sG2 _ _ eE4,?_,λA2 hA2=>?_⟩
   ·rw[zK,zK];exact Nat.le_trans (show ss.length+es.length<=1000 by lia) (by decide)
   have sA2:zZ G2 (upd G2 A2 (.lst (zJ ss++zJ es))):=zF hA2 _;have eA2:upd G2 A2 (.lst (zJ ss++zJ es)) A2=some (.lst (zJ (ss++es))):=by rw[zD]; simp[zJ]
   generalize upd G2 A2 (.lst (zJ ss++zJ es))=G3 at sA2 eA2 ⊢;have sG3:=sG2.trans sA2;refine⟨A2,ss++es,rfl,SqL.of eA2,okA.same (s4.trans sG3),by rw[List.length_append]; lia,λG4 s5 no=>absurd wp1 (no P1 pw1),λp2 P2 G4 s5 ep2 wp2 _=>?_⟩;refine⟨_,rfl,T,_,_,.ref p,rfl,rfl,.inr (SqT.of ((sA2.trans s5) _ _ eT)),rfl,sz3,λT2 hT2=>?_⟩;have sT2:=zF hT2 (.tup [.str "can", .ref p2,.ref p]);refine q2 T2 p2 p P2 Z2 _ (s14.trans (sG3.trans (s5.trans sT2))) zD ⟨sT2 _ _ ep2.1,ep2.2⟩ ⟨(sA2.trans (s5.trans sT2)) _ _ ez.1,ez.2⟩ ((both P2).mp wp2).1 ((both P2).mp wp2).2 wz ⟨t.2,?_,bz⟩;rw[<- mes];exact List.mem_map_of_mem mt
  ·exists _,rfl,T,_,_,.non,rfl,rfl,.inr (SqT.of eT),rfl,rfl,_,rfl;refine vS ?_;have eY2:=s2 _ _ M.at';exists _,rfl,.inl ⟨rfl,_,SqL.of eY2⟩,_,rfl,T,_,_,.ref D,rfl,rfl,.inr (SqT.of eT),rfl,W,_,_,rfl,rfl,eY2,zV (by rw[List.length_map,List.length_map]; lia);refine⟨⟨tl++[(D,ws)],by rw[List.length_append,ntl]; rfl,M.step s2 hD eD okw,λj u t' gj gt'=>?_⟩,_,_,rfl⟩;by_cases hj:j<tl.length
   ·rw[List.getElem?_append_left hj] at gj;exact each j u t' gj gt'
   ·rw[List.getElem?_append_right (by lia)] at gj;have hj2:j-tl.length=0:=by
     have z:j-tl.length<1:=(List.getElem?_eq_some_iff.mp gj).1;lia
    rw[hj2] at gj;have e1:(D,ws)=u:=Option.some.inj gj;have e2:j=i:=by lia
    rw[e2,gt] at gt';cases gt';subst e1;exact⟨P,pwP,fr,bP⟩
 ·rintro σ G ⟨⟨tl,ntl,M,each⟩,u6,u7,rfl⟩;rw[zK] at ntl;refine⟨_,rfl,sz2,λT2 hT2=>?_⟩;have sT2:=zF hT2 (.tup [.str "must", .ref W]);refine q3 T2 W tl _ (s14.trans (M.same.trans sT2)) (s14.free hW) zD (sT2 _ _ M.at') (λu hu=>⟨(M.all u hu).1,sT2 _ _ (M.all u hu).2.1,(M.all u hu).2.2.same sT2⟩) (by rw[List.length_map]; lia) (λj u e gj ge=>?_) here;rw[<- mes,List.getElem?_map] at ge;cases gt:es[j]? with
  | none=>rw[gt] at ge; cases ge
  | some t =>
   rw[gt] at ge;have ge:t.2=e:=Option.some.inj ge;rw[<- ge];exact each j u t gj gt
theorem yB(ws:List Wt):(zP ws).length=ws.length:=by simp
theorem zCs{ws:List Wt}{i:Nat}{v:V}(h:(zP ws)[i]?=some v):∃ t,ws[i]?=some t/\v=.ref t.1/\i<ws.length:=by
 unfold zP at h;rw[List.getElem?_map,List.getElem?_map] at h;cases e:ws[i]? with
 | none=>rw[e] at h; cases h
 | some t =>
  rw[e] at h;cases h;exact⟨t,rfl,rfl,(List.getElem?_eq_some_iff.mp e).1⟩
def vU(K:PySem.W.Frag):Sp:=λvs H Q _=>∃(l W:Addr)(ss:List Sd)(ws:List Wt),vs=[.ref l,.ref W]/\SqL K H l (zJ ss)/\SqL K H W (zP ws)/\qG H ws/\Q (.bl (awF ss.length (wtN ws) 0)) H
theorem zDe(F:Fun K "are_weights" "are_weights" uJ f fd)(Z:Zs mg):xK P w K mg base CX0 1 f fd ["sides", "weights"] (vU K):=by
 specialize uA
 ·obtain⟨l,W,ss,ws,rfl,_⟩:=h;rfl
 obtain⟨l,W,ss,ws,rfl,hl,hW,ok,q⟩:=h
 refine'⟨_,(zG (zX 2 uA.nd uG)
   (zG (wU PassesOwn.never rfl (xC (pv 1)) (yS 3 uA.nd) (zG (yC (PW.pt (zDl ?_ (zDl ?_ (zDa (wA zJe (wM (zPj rfl) rfl Z.min zSp ?_) uG (xI _)))))) (zH (zO vR)) zS)
   (zH (zX 2 uA.nd ?_))))
   (zH (zO vR)))),?_⟩
 nofun
 refine⟨_,rfl,W,rfl,.inl ⟨⟨_,hW⟩,wD (K:=K) (a:=W) (xs:=zP ws) (λi σ H'=>H'=H/\∃(least:Int)(u3:Option V),awF ss.length (wtN ws) 0=awF ss.length (wtN (ws.drop i)) least/\σ=[some (.ref l),some (.ref W),some (.int least),u3])
  ⟨rfl,0,none,rfl,rfl⟩ (λi σ H' _ ⟨e,_⟩=>by rw[e]; exact hW) ?_ ?_⟩⟩
 ·rintro i v σ H' hi ⟨rfl,least,u3,he,rfl⟩;obtain⟨t,gt,rfl,hil⟩:=zCs hi;obtain⟨e1,e2⟩:=ok t (List.mem_of_getElem? gt);rw[show wtN (ws.drop i)=(t.2.1,t.2.2.2)::wtN (ws.drop (i+1)) from zOl gt,awF] at he;dsimp only at he;have sq:Sq K H' t.1 [.int t.2.1,.ref t.2.2.1]:=.inr (SqT.of e1);exists _,rfl,t.1,_,_,.int t.2.1,rfl,rfl,sq,rfl,_,rfl,_,_,rfl,rfl,_,rfl;refine ifD (λh1=>?_) (λh1=>?_)
  ·rw[if_neg (λz=>by have:=z.1; lia)] at he;rw[he] at q;exact uT q
  exists _,rfl,t.1,_,_,.int t.2.1,rfl,rfl,sq,rfl,_,rfl,l,_,rfl,.inl hl,_,_,rfl,rfl,_,rfl;rw[zK];refine ifD (λh2=>?_) (λh2=>?_)
  ·rw[if_neg (λz=>by have:=z.2.1; lia)] at he;rw[he] at q;exact uT q
  exists _,rfl,t.1,_,_,.ref t.2.2.1,rfl,rfl,sq,rfl,t.2.2.1,t.2.2.2.1,t.2.2.2.2,rfl,SqT.of e2,_,_,rfl,rfl,_,rfl;refine ifD (λh3=>?_) (λh3=>?_)
  ·rw[if_neg (λz=>by have:=z.2.2.1; have:=z.2.2.2; split at h3 <;> lia)] at he;rw[he] at q;exact q
  rw[if_pos ⟨by lia,by lia,by split at h3 <;> lia,by split at h3 <;> lia⟩] at he;exists _,rfl,t.1,_,_,.int t.2.1,rfl,rfl,sq,rfl,_,_,rfl,rfl;exact⟨rfl,_,_,he,rfl⟩
 ·rintro σ H' ⟨rfl,least,u3,he,rfl⟩;rw[yB,List.drop_length] at he;rw[he] at q;exact q
def WtSz(ws:List Wt):Prop:=(∀ t∈ws,t.2.2.2.2=1)\/(ws.length<=2/\∀ t∈ws,t.2.2.2.1.natAbs<=10^60/\t.2.2.2.2.natAbs<=10^60)
def rP(K:PySem.W.Frag):Sp:=λvs H Q _=>∃(l W:Addr)(k:Int)(ss:List Sd)(ws:List Wt),vs=[.ref l,.ref W,.int k]/\SqL K H l (zJ ss)/\vP H ss/\SqL K H W (zP ws)/\qG H ws/\WtSz ws/\0<=k/\k<3/\(∀ t∈ws,0<=t.2.1/\t.2.1<ss.length/\1<=t.2.2.2.2) /\
 ∀(p:Addr)(x y:Int)(H':Hp),zZ H H'->H p=none->H' p=some (.tup [.int x,.int y])->1<=(qH ss (fAt k) (wtN ws) (0,1)).2->wT (qH ss (fAt k) (wtN ws) (0,1)).1 (qH ss (fAt k) (wtN ws) (0,1)).2 x y->Q (.ref p) H'
theorem at3{k a b c:Int}(h0:0<=k)(h3:k<3):atI [V.int a,V.int b,V.int c] k=some (.int (if k=0 then a else if k=1 then b else c)):=by
 have cc:k=0\/k=1\/k=2:=by lia
 rcases cc with e | e | e <;>(rw[e]; rfl)
def zRw(ws:List Wt)(i:Nat)(N B:Int):Prop:=((∀ t∈ws,t.2.2.2.2=1)/\B=1)\/(ws.length<=2/\(∀ t∈ws,t.2.2.2.1.natAbs<=10^60/\t.2.2.2.2.natAbs<=10^60)/\N.natAbs<=10^(90*i)/\B.natAbs<=10^(90*i))
theorem zRw.step{ws:List Wt}{i:Nat}{N B s:Int}{t:Wt}(h:zRw ws i N B)(ht:t∈ws)(hi:i<ws.length)(hs:s.natAbs<=10^13):zRw ws (i+1) (qL (N,B) t.2.2.2.1 t.2.2.2.2 s).1 (qL (N,B) t.2.2.2.1 t.2.2.2.2 s).2:=by
 unfold qL;dsimp only;rcases h with ⟨h1,rfl⟩ | ⟨h1,h2,h3,h4⟩
 ·exact .inl ⟨h1,by rw[h1 t ht]; rfl⟩
 ·refine .inr ⟨h1,h2,?_,?_⟩
  ·obtain⟨b1,b2⟩:=h2 t ht;have z1:=zI N t.2.2.2.2 h3 b2;have z2:=zI (s*t.2.2.2.1) B (zI s t.2.2.2.1 hs b1) h4;refine Nat.le_trans (Int.natAbs_add_le _ _) (Nat.le_trans (Nat.add_le_add z1 z2) ?_);have c:i=0\/i=1:=by lia
   rcases c with rfl | rfl <;> decide +kernel
  ·obtain⟨b1,b2⟩:=h2 t ht;refine Nat.le_trans (zI B t.2.2.2.2 h4 b2) ?_;have c:i=0\/i=1:=by lia
   rcases c with rfl | rfl <;> decide +kernel
theorem zJs(F:Fun K "sum_at" "sum_at" zAy f fd)(Z:Zs mg)(yCw:Has P w K mg base "plus" 5 ["one", "other"] (zJf K))(yCb:Has P w K mg base "times" 5 ["one", "other"] (zGc K))(yCt:Has P w K mg base "part" 4 ["top", "bottom"] (wH K)):xK P w K mg base CX0 6 f fd ["sides", "weights", "at"] (rP K):=by
 specialize rR
 ·obtain⟨l,W,k,ss,ws,rfl,_⟩:=h;rfl
 obtain⟨l,W,k,ss,ws,rfl,hl,ok,hW,okw,wsz,k0,k3,rg,q⟩:=h
 refine'⟨_,(zG (zX 3 rR.nd ?_)
   (zG (wU PassesOwn.never rfl (xC (pv 1)) (yS 4 rR.nd) (zH (zX 3 rR.nd ?_)))
   (zH (zO (pv 3))))),?_⟩
 nofun
 refine⟨0,1,rfl,by decide,by decide +kernel,λp0 x0 y0 H0 s0 hp0 ep0 po0=>?_⟩;refine⟨_,rfl,W,rfl,.inl ⟨⟨_,s0.seq hW⟩,wD (K:=K) (a:=W) (xs:=zP ws) (λi σ H'=>zZ H H'/\∃(p:Addr)(x y N B:Int)(u4:Option V),H p=none/\H' p=some (.tup [.int x,.int y])/\wT N B x y/\1<=B/\zRw ws i N B/\qH ss (fAt k) (wtN ws) (0,1)=qH ss (fAt k) (wtN (ws.drop i)) (N,B)/\σ=[some (.ref l),some (.ref W),some (.int k),some (.ref p),u4])
  ⟨s0,p0,x0,y0,0,1,none,hp0,ep0,po0,by decide,(wsz.imp (λz=>⟨z,rfl⟩) λz=>⟨z.1,z.2,by decide,by decide⟩),rfl,rfl⟩ (λi σ H' _ ⟨e,_⟩=>e.seq hW) ?_ ?_⟩⟩
 ·rintro i v σ H' hi ⟨sH,p,x,y,N,B,u4,hp,ep,po,bp,sz,he,rfl⟩;obtain⟨t,gt,rfl,hil⟩:=zCs hi;have mt:=List.mem_of_getElem? gt;obtain⟨w1,w2⟩:=(okw.same sH) t mt;obtain⟨r0,r1,r2⟩:=rg t mt;rw[show wtN (ws.drop i)=(t.2.1,t.2.2.2)::wtN (ws.drop (i+1)) from zOl gt,qH] at he;dsimp only at he;obtain⟨sd,msd,gsd,asd⟩:=yO (ss:=ss) (i:=t.2.1.toNat) (k:=t.2.1) (by lia) (by lia);obtain⟨es,_,b1,b2,b3⟩:=(ok.same sH) sd msd;have sq:Sq K H' t.1 [.int t.2.1,.ref t.2.2.1]:=.inr (SqT.of w1);have ef:yJ ss (fAt k) t.2.1=fAt k sd:=by
   unfold yJ;rw[gsd]
  rw[ef] at he;refine⟨_,rfl,_,rfl,t.1,_,_,.ref t.2.2.1,rfl,rfl,sq,rfl,_,rfl,_,rfl,t.1,_,_,.int t.2.1,rfl,rfl,sq,rfl,l,_,_,.ref sd.1,rfl,rfl,.inl (sH.seq hl),asd,_,rfl,sd.1,_,_,.int (fAt k sd),rfl,rfl,.inr (SqT.of es),at3 k0 k3,fAt k sd,1,rfl,by decide,by decide +kernel,λp1 x1 y1 H1 s1 hp1 ep1 po1=>?_⟩;obtain⟨e1,e2⟩:=tI rfl po1;rw[e1,e2] at ep1;clear e1 e2 po1;have bf:(fAt k sd).natAbs<=10^13:=by
   unfold fAt;split
   ·lia
   ·split <;> lia
  have sz':=sz.step mt hil bf;have bq:t.2.2.2.2.natAbs<=10^200:=by
   rcases sz with ⟨z,_⟩ | ⟨_,z,_⟩
   ·rw[z t mt]; decide
   ·exact Nat.le_trans (z t mt).2 (by decide +kernel)
  refine⟨t.2.2.1,p1,t.2.2.2.1,t.2.2.2.2,fAt k sd,rfl,SqT.of (s1 _ _ w2),SqT.of ep1,r2,bq,bf,λp2 x2 y2 H2 s2 hp2 ep2 po2=>?_⟩;refine⟨p,p2,x,y,x2,y2,rfl,SqT.of (s2 _ _ (s1 _ _ ep)),SqT.of ep2,po.pos,po2.pos,?_,λp3 x3 y3 H3 s3 hp3 ep3 po3=>?_⟩
  ·rcases sz with ⟨z,rfl⟩ | ⟨n2,z,zN,zB⟩
   ·refine .inl ⟨(tI rfl po).2,(tI (by rw[z t mt]; rfl) po2).2⟩
   ·have c:i=0\/i=1:=by lia
    have pw:10^(90*i)<=10^200:=by rcases c with rfl | rfl <;> decide +kernel
    refine .inr ⟨Nat.le_trans po.xle (Nat.le_trans zN pw),Nat.le_trans po.yle (Nat.le_trans zB pw),Nat.le_trans po2.xle (Nat.le_trans (zI _ _ (z t mt).1 bf) (by decide +kernel)),Nat.le_trans po2.yle ?_⟩;rw[Int.mul_one];exact bq
  have s13:=(s1.trans s2).trans s3;have bp':1<=B*t.2.2.2.2:=by have:=Int.mul_pos (show 0<B by lia) (show 0<t.2.2.2.2 by lia); lia
  exact⟨sH.trans s13,p3,x3,y3,_,_,_,sH.free (s1.free (s2.free hp3)),ep3,zOi po po2 po3 (by lia),bp',sz',he,rfl⟩
 ·rintro σ H' ⟨sH,p,x,y,N,B,u4,hp,ep,po,bp,sz,he,rfl⟩;rw[yB,List.drop_length] at he;have he:qH ss (fAt k) (wtN ws) (0,1)=(N,B):=he;refine⟨_,rfl,q p x y H' sH hp ep ?_ ?_⟩
  ·rw[he]; exact bp
  ·rw[he]; exact po
def zCt(K:PySem.W.Frag):Sp:=λvs H Q _=>∃(l W d:Addr)(ss:List Sd)(ws:List Wt)(g1 g2:Int),vs=[.ref l,.ref W,.ref d]/\SqL K H l (zJ ss)/\vP H ss/\SqL K H W (zP ws)/\qG H ws/\WtSz ws/\(∀ t∈ws,0<=t.2.1/\t.2.1<ss.length/\1<=t.2.2.2.2)/\SqT K H d [.int g1,.int g2] /\
 ∀ H':Hp,zZ H H'->Q (.bl (decide ((qH ss (fAt 0) (wtN ws) (0,1)).1=g1*(qH ss (fAt 0) (wtN ws) (0,1)).2)&&decide ((qH ss (fAt 1) (wtN ws) (0,1)).1=g2*(qH ss (fAt 1) (wtN ws) (0,1)).2))) H'
theorem zMd(F:Fun K "makes" "makes" zB0 f fd)(Z:Zs mg)(yBu:Has P w K mg base "sum_at" 6 ["sides", "weights", "at"] (rP K))(yCt:Has P w K mg base "part" 4 ["top", "bottom"] (wH K)):xK P w K mg base CX0 7 f fd ["sides", "weights", "direction"] (zCt K):=by
 specialize zMw
 ·obtain⟨l,W,d,ss,ws,g1,g2,rfl,_⟩:=h;rfl
 obtain⟨l,W,d,ss,ws,g1,g2,rfl,hl,ok,hW,okw,wsz,rg,hd,q⟩:=h;have hu64:=hr.units
 refine'⟨_,(zH (zO (vE (zUh hu64) (xJ (T:=["at"]) (caps:=[("sides", 0),("weights", 1)]) ⟨rfl,by decide +kernel,by decide +kernel,rfl,⟨⟨rfl,rfl,Or.inl rfl⟩,⟨rfl,rfl,Or.inl rfl⟩,True.intro⟩⟩ rfl (xV rfl Z.range (zU uG yH)) (λ_=>(yS 0 (show(["at", "sides", "weights"]:List Str).Nodup by decide +kernel))) (λ_=>yF) (λ_=>?_)) (xJ (T:=["number"]) (caps:=[]) ⟨rfl,by decide +kernel,by decide +kernel,rfl,True.intro⟩ rfl (xC (pv 2)) (λ_=>(yS 0 (show(["number"]:List Str).Nodup by decide +kernel))) (λ_=>yF) (λ_=>?_)) (xI _)))),?_⟩
 nofun
 refine⟨2,rfl,by decide,by decide,λcc D hD=>tY (lo:=0) (n:=2) (λi σ ys G=>zZ H G/\G D=some (.lst ys)/\(∃ ps:List Addr,ys=ps.map V.ref/\ps.length=i/\∀(j:Nat)(p:Addr),ps[j]?=some p->∃ x y:Int,G p=some (.tup ([x,y].map V.int))/\1<=(qH ss (fAt (j:Int)) (wtN ws) (0,1)).2/\wT (qH ss (fAt (j:Int)) (wtN ws) (0,1)).1 (qH ss (fAt (j:Int)) (wtN ws) (0,1)).2 x y)/\∃ u0:Option V,σ=[u0,some (.ref l),some (.ref W)])
  ⟨zF hD _,zD,⟨[],rfl,rfl,(λj p h=>nomatch h)⟩,none,rfl⟩ (λi σ ys G _ ⟨_,e,_⟩=>e) ?_ ?_⟩
 ·rintro i σ ys G hi ⟨sG,eD,⟨ps,rfl,np,hps⟩,u0,rfl⟩;refine⟨_,rfl,_,rfl,_,rfl,l,W,0+(i:Int),ss,ws,rfl,sG.seq hl,ok.same sG,sG.seq hW,okw.same sG,wsz,by lia,by lia,rg,λp x y G2 s2 hp ep bp po=>?_⟩;have npD:p≠D:=λe=>by rw[e,eD] at hp; cases hp
  refine⟨s2 _ _ eD,zV (by rw[List.length_map]; lia),(sG.trans s2).putNew hD,zD,⟨ps++[p],by rw[List.map_append]; rfl,by rw[List.length_append,np]; rfl,λj p' hj=>?_⟩,_,rfl⟩;rcases Nat.lt_or_ge j ps.length with h | h
  ·rw[List.getElem?_append_left h] at hj;obtain⟨x',y',z,z2⟩:=hps j p' hj;exact⟨x',y',by rw[yA (tZ z eD (by intro z; cases z))]; exact s2 _ _ z,z2⟩
  ·rw[List.getElem?_append_right h] at hj;have ej:j=i:=by
    have:=(List.getElem?_eq_some_iff.mp hj).1;have e1:[p].length=1:=rfl;lia
   rw[ej,np,Nat.sub_self] at hj;cases hj;rw[Int.zero_add] at bp po;rw[ej];exact⟨x,y,by rw[yA npD]; exact ep,bp,po⟩
 rintro σ ys G ⟨sG,eD,⟨ps,rfl,np,hps⟩,u0,rfl⟩;obtain⟨p1,p2,rfl⟩:∃ p1 p2,ps=[p1,p2]:=by
  match ps,np with
  | [p1,p2],_=>exact⟨p1,p2,rfl⟩
 obtain⟨x1,y1,h1,bp1,po1⟩:=hps 0 p1 rfl;obtain⟨x2,y2,h2,bp2,po2⟩:=hps 1 p2 rfl;refine⟨_,rfl,d,rfl,.inr ⟨⟨_,hd.same sG⟩,λc2 D2 hD2=>zCi (K:=K) (a:=d) (xs:=[.int g1,.int g2]) (λi σ ys G2=>zZ G G2/\G2 D2=some (.lst ys)/\(∃ qs:List Addr,ys=qs.map V.ref/\qs.length=i/\∀(j:Nat)(p:Addr),qs[j]?=some p->G2 p=some (.tup ([if j=0 then g1 else g2,1].map V.int)))/\∃ u0:Option V,σ=[u0])
  ⟨zF hD2 _,zD,⟨[],rfl,rfl,(λj p h=>nomatch h)⟩,none,rfl⟩ (λi σ ys G2 _ ⟨e,e2,_⟩=>⟨(hd.same sG).same e,e2⟩) ?_ ?_⟩⟩
 ·rintro i x σ ys G2 hi ⟨s2,eD2,⟨qs,rfl,nq,hqs⟩,u0,rfl⟩;have ex:x=.int (if i=0 then g1 else g2)/\i<2:=by
   have hi2:i<2:=(List.getElem?_eq_some_iff.mp hi).1
   match i,hi with
   | 0,h=>exact⟨(Option.some.inj h).symm,hi2⟩
   | 1,h=>exact⟨(Option.some.inj h).symm,hi2⟩
  obtain⟨rfl,hi2⟩:=ex;refine⟨_,rfl,if i=0 then g1 else g2,1,rfl,by decide,by decide +kernel,λp x3 y3 G3 s3 hp ep po=>?_⟩;obtain⟨e1,e2⟩:=tI rfl po;rw[e1,e2] at ep;have npD:p≠D2:=λe=>by rw[e,eD2] at hp; cases hp
  refine⟨s3 _ _ eD2,zV (by rw[List.length_map]; lia),(s2.trans s3).putNew hD2,zD,⟨qs++[p],by rw[List.map_append]; rfl,by rw[List.length_append,nq]; rfl,λj p' hj=>?_⟩,_,rfl⟩;rcases Nat.lt_or_ge j qs.length with h | h
  ·rw[List.getElem?_append_left h] at hj;have z:=hqs j p' hj;rw[yA (tZ z eD2 (by intro z; cases z))];exact s3 _ _ z
  ·rw[List.getElem?_append_right h] at hj;have ej:j=i:=by
    have:=(List.getElem?_eq_some_iff.mp hj).1;have e1:[p].length=1:=rfl;lia
   rw[ej,nq,Nat.sub_self] at hj;cases hj;rw[yA npD,ej];exact ep
 rintro σ ys G2 ⟨s2,eD2,⟨qs,rfl,nq,hqs⟩,u0,rfl⟩;obtain⟨q1,q2,rfl⟩:∃ q1 q2,qs=[q1,q2]:=by
  match qs,nq with
  | [q1,q2],_=>exact⟨q1,q2,rfl⟩
 exists D,D2,p1,p2,q1,q2,_,_,_,_,rfl,rfl,SqL.of (s2 _ _ eD),SqL.of eD2,s2 _ _ h1,s2 _ _ h2,hqs 0 q1 rfl,hqs 1 q2 rfl;have one:∀{N B x y g:Int},1<=B->wT N B x y->decide ([x,y]=[g,1])=decide (N=g*B):=λ{N B x y g} hB po=>decide_eq_decide.mpr ⟨λz=>by
   injection z with z1 z2
   injection z2 with z2 _
   have e:=po.eq;rw[z1,z2,Int.one_mul] at e;exact e.symm,λz=>by
   have e:=po.eq;have u:=zN5 (p:=g) (q:=1) (p':=x) (q':=y) (by
    rw[Int.mul_one];rw[z] at e;exact Int.eq_of_mul_eq_mul_right (show B≠0 by lia) (by rw[e,Int.mul_assoc])) (by decide) po.pos (by simp) po.low
   rw[u.1,u.2]⟩
 rw[show(if (0:Nat)=0 then g1 else g2)=g1 from rfl,show(if (1:Nat)=0 then g1 else g2)=g2 from rfl,one bp1 po1,one bp2 po2];exact q G2 (sG.trans s2)
theorem zJd{N:Nat} : ∀{cs:List (Int×Int×Int)}{least:Int},0<=least->awF N cs least=true->∀ c∈cs,0<=c.1/\c.1<N/\1<=c.2.2
 | [],_,_,_=>λc hc=>nomatch hc
 | c::cs,least,h0,h=>by
  rw[awF] at h;split at h
  ·next z =>
   intro d hd;rcases List.mem_cons.mp hd with rfl | hd
   ·exact⟨by lia,z.2.1,z.2.2.2⟩
   ·exact zJd (by lia) h d hd
  ·cases h
def zCq(K:PySem.W.Frag):Sp:=λvs H Q _=>∃(l W d:Addr)(ss:List Sd)(ws:List Wt)(g:P3),vs=[.ref l,.ref W,.ref d]/\SqL K H l (zJ ss)/\vP H ss/\SqL K H W (zP ws)/\qG H ws/\(∀ t∈ws,t.2.2.2.1.natAbs<=10^60/\t.2.2.2.2.natAbs<=10^60)/\SqT K H d [.int g.1,.int g.2.1] /\
 (∀ H':Hp,zZ H H'->(g.1=0/\g.2.1=0)\/wV ss g (wtN ws)=none->Q .non H') /\
 ∀(p:Addr)(N B x y:Int)(H':Hp),zZ H H'->H p=none->H' p=some (.tup [.int x,.int y])->(g.1≠0\/g.2.1≠0)->wV ss g (wtN ws)=some (N,B)->1<=B->wT N B x y->Q (.ref p) H'
theorem zLw(F:Fun K "shown" "shown" zB6 f fd)(Z:Zs mg)(yBu:Has P w K mg base "sum_at" 6 ["sides", "weights", "at"] (rP K))(yCd:Has P w K mg base "makes" 7 ["sides", "weights", "direction"] (zCt K))(yAl:Has P w K mg base "are_weights" 1 ["sides", "weights"] (vU K)):xK P w K mg base CX0 8 f fd ["sides", "weights", "direction"] (zCq K):=by
 specialize zMu
 ·obtain⟨l,W,d,ss,ws,g,rfl,_⟩:=h;rfl
 obtain⟨l,W,d,ss,ws,g,rfl,hl,ok,hW,okw,wsz,hd,qn,q⟩:=h;have hu:=hr.units0;rw[zDb] at qn q
 refine'⟨_,(zG (yC (PW.pt (zDl (wA (zOg hu) (pv 2) ?_ (xI _)) (zDl ?_ (zDa ?_)))) (zH (zO uW)) zS)
   (zG (yC ?_ (zH (zO uW)) zS)
   (zH (zO ?_)))),?_⟩
 nofun
 refine⟨_,rfl,sz2,λz hz=>?_⟩;have sz:=zF hz (.tup [.int 0,.int 0]);have ez:upd H z (.tup [.int 0,.int 0]) z=some (.tup [.int 0,.int 0]):=zD;generalize upd H z (.tup [.int 0,.int 0])=H1 at sz ez ⊢;exists d,z,[g.1,g.2.1],[0,0],rfl,rfl,hd.same sz,SqT.of ez,_,rfl;refine ifD (λe=>?_) (λe=>?_)
 ·refine uT ?_;injection e with e1 e2
  injection e2 with e2 _
  exact qn H1 sz (.inl ⟨e1,e2⟩)
 have gz:g.1≠0\/g.2.1≠0:=by
  by_cases z1:g.1=0
  ·exact .inr λz2=>e (by rw[z1,z2])
  ·exact .inl z1
 exists _,rfl,W,_,rfl,.inl (sz.seq hW),_,_,rfl,rfl,_,rfl;rw[yB];refine ifD (λh1=>?_) (λh1=>?_)
 ·refine uT ?_;exact qn H1 sz (.inr (if_neg λc=>by have:=c.1; simp only[List.length_map] at this; lia))
 exists _,rfl,_,rfl,l,W,ss,ws,rfl,sz.seq hl,sz.seq hW,okw.same sz,_,rfl;cases hb:awF ss.length (wtN ws) 0 with
 | false =>
  refine uT ?_;exact qn H1 sz (.inr (if_neg λc=>by rw[hb] at c; cases c.2.1))
 | true =>
  refine vS ?_;have n2:ws.length<=2:=by lia
  have rg:∀ t∈ws,0<=t.2.1/\t.2.1<ss.length/\1<=t.2.2.2.2:=λt ht=>zJd (Int.le_refl 0) hb (t.2.1,t.2.2.2) (List.mem_map_of_mem (f:=λt:Wt=>(t.2.1,t.2.2.2)) ht);refine⟨_,rfl,_,rfl,_,rfl,l,W,d,ss,ws,g.1,g.2.1,rfl,sz.seq hl,ok.same sz,sz.seq hW,okw.same sz,.inr ⟨n2,wsz⟩,rg,hd.same sz,λH2 s2=>⟨_,rfl,?_⟩⟩;cases hm:(decide ((qH ss (fAt 0) (wtN ws) (0,1)).1=g.1*(qH ss (fAt 0) (wtN ws) (0,1)).2)&&decide ((qH ss (fAt 1) (wtN ws) (0,1)).1=g.2.1*(qH ss (fAt 1) (wtN ws) (0,1)).2)) with
  | false =>
   refine uT ?_;exact qn H2 (sz.trans s2) (.inr (if_neg λc=>by rw[decide_eq_true c.2.2.1,decide_eq_true c.2.2.2] at hm; cases hm))
  | true =>
   refine vS ?_;rw[Bool.and_eq_true] at hm;have c1:=of_decide_eq_true hm.1;have c2:=of_decide_eq_true hm.2;have s12:=sz.trans s2;refine⟨_,rfl,_,rfl,l,W,2,ss,ws,rfl,s12.seq hl,ok.same s12,s12.seq hW,okw.same s12,.inr ⟨n2,wsz⟩,by decide,by decide,rg,λp x y H3 s3 hp ep bp po=>?_⟩;exact q p _ _ x y H3 (s12.trans s3) (s12.free hp) ep gz (if_pos ⟨by simp only[List.length_map]; exact n2,hb,c1,c2⟩) bp po
def zAb(K:PySem.W.Frag):Sp:=λvs H Q _=>∃(l D:Addr)(ss:List Sd)(cs:List Pr),vs=[.ref l,.ref D]/\SqL K H l (zJ ss)/\vP H ss/\SqL K H D (zL cs)/\zHy H cs/\cs.length<=900 /\
 ∀ H':Hp,zZ H H'->Q (.bl (rB ss (cs.map (·.2)))) H'
theorem zFi(F:Fun K "good_clash" "good_clash" vO f fd)(Z:Zs mg)(yCc:Has P w K mg base "below" 1 ["one", "other"] (zAv K))(yCt:Has P w K mg base "part" 4 ["top", "bottom"] (wH K))(yBu:Has P w K mg base "sum_at" 6 ["sides", "weights", "at"] (rP K))(yAl:Has P w K mg base "are_weights" 1 ["sides", "weights"] (vU K))(yCd:Has P w K mg base "makes" 7 ["sides", "weights", "direction"] (zCt K)):xK P w K mg base CX0 8 f fd ["sides", "paper"] (zAb K):=by
 specialize zAk
 ·obtain⟨l,D,ss,cs,rfl,_⟩:=h;rfl
 obtain⟨l,D,ss,cs,rfl,hl,ok,hD,okc,h900,q⟩:=h;have nr:=zQ cs;unfold rB at q;rw[List.length_map] at q
 refine'⟨_,(zG (yC ?_ (zH (zO vR)) zS)
   (zG (vC (T:=["pair"]) (caps:=[]) (i:=2) zAk.nd rfl rfl ⟨rfl,by decide +kernel,by decide +kernel,rfl,True.intro⟩ rfl (xC (pv 1)) (λ_=>(yS 0 (show(["pair"]:List Str).Nodup by decide +kernel))) (λ_=>yF) (λ_=>?_))
   (zG (yC ?_ (zH (zO vR)) zS)
   (zH (zO ?_))))),?_⟩
 nofun
 exists _,rfl,D,_,rfl,.inl hD,_,_,rfl,rfl,_,rfl;rw[nr];refine ifD (λh1=>?_) (λh1=>?_)
 ·refine uT ?_;rw[show decide (2<=cs.length)=false from decide_eq_false (by lia)] at q;exact q H (zZ.refl _)
 exists _,rfl,D,_,rfl,.inl hD,_,_,rfl,rfl,_,rfl;rw[nr];refine ifD (λh2=>?_) (λh2=>?_)
 ·rw[show decide (2<=cs.length)=true from decide_eq_true (by lia),show decide (cs.length<=3)=false from decide_eq_false (by lia)] at q;exact q H (zZ.refl _)
 rw[show decide (2<=cs.length)=true from decide_eq_true (by lia),show decide (cs.length<=3)=true from decide_eq_true (by lia),Bool.true_and,Bool.true_and,zEv _ _ _ (by decide)] at q;refine⟨_,rfl,D,rfl,.inl ⟨⟨_,hD⟩,λcc W hW=>yM (K:=K) (a:=D) (xs:=zL cs) (λi σ ys G=>zZ H G/\G W=some (.lst ys)/\(∃ ws:List Wt,ys=zP ws/\qG G ws/\wtN ws=zSe ((cs.take i).map (·.2)))/\∃ u0:Option V,σ=[u0])
  ⟨zF hW _,zD,⟨[],rfl,(λt ht=>nomatch ht),rfl⟩,none,rfl⟩ (λi σ ys G _ ⟨e,e2,_⟩=>⟨e.seq hD,e2⟩) ?_ ?_⟩⟩
 ·rintro i x σ ys G hi ⟨sG,eW,⟨ws,rfl,okw,mw⟩,u0,rfl⟩;obtain⟨t,gt,rfl,hil⟩:=wO hi;have et:=sG _ _ (okc t (List.mem_of_getElem? gt));have sq:Sq K G t.1 [.int t.2.1,.int t.2.2]:=.inr (SqT.of et);have nw:ws.length<=i:=by
   have z:=congrArg List.length mw;simp only[List.length_map,List.length_take] at z;lia
  refine⟨_,rfl,t.1,_,_,.int t.2.1,rfl,rfl,sq,rfl,_,rfl,t.1,_,_,.int t.2.2,rfl,rfl,sq,rfl,sz2,λp1 hp1=>?_⟩;have s1:zZ G (upd G p1 (.tup [.int t.2.2,.int 1])):=zF hp1 _;have e1:upd G p1 (.tup [.int t.2.2,.int 1]) p1=some (.tup [.int t.2.2,.int 1]):=zD;generalize upd G p1 (.tup [.int t.2.2,.int 1])=G1 at s1 e1 ⊢;refine⟨sz2,λp2 hp2=>?_⟩;have s2:zZ G1 (upd G1 p2 (.tup [.int t.2.1,.ref p1])):=zF hp2 _;have e2:upd G1 p2 (.tup [.int t.2.1,.ref p1]) p2=some (.tup [.int t.2.1,.ref p1]):=zD;generalize upd G1 p2 (.tup [.int t.2.1,.ref p1])=G2 at s2 e2 ⊢;have eW2:=s2 _ _ (s1 _ _ eW);have keep:∀(b:Addr)(xs:List V)(o:HO),G2 b=some (.tup xs)->upd G2 W o b=some (.tup xs):=λb xs o e=>by
   rw[yA (tZ e eW2 (by intro z; cases z))];exact e
  refine⟨eW2,zV (by rw[yB]; lia),(sG.trans (s1.trans s2)).putNew hW,zD,⟨ws++[(p2,t.2.1,p1,t.2.2,1)],by simp,λu hu=>?_,?_⟩,_,rfl⟩
  ·rcases List.mem_append.mp hu with h | h
   ·obtain⟨z1,z2⟩:=(okw.same (s1.trans s2)) u h;exact⟨keep _ _ _ z1,keep _ _ _ z2⟩
   ·rw[List.mem_singleton] at h;subst h;exact⟨keep _ _ _ e2,keep _ _ _ (s2 _ _ e1)⟩
  ·show(ws++[(p2,t.2.1,p1,t.2.2,(1:Int))]).map _=_;rw[List.map_append,yP gt,List.map_append];unfold zSe at mw ⊢;rw[List.map_append,<- mw];rfl
 rintro σ ys G ⟨sG,eW,⟨ws,rfl,okw,mw⟩,u0,rfl⟩;rw[nr,List.take_length] at mw;have hl':=sG.seq hl;have ok':=ok.same sG;have one:∀ t∈ws,t.2.2.2.2=1:=λt ht=>by
  have z:(t.2.1,t.2.2.2)∈zSe (cs.map (·.2)):=by rw[<- mw]; exact List.mem_map_of_mem (f:=λt:Wt=>(t.2.1,t.2.2.2)) ht
  obtain⟨c,_,e⟩:=List.mem_map.mp z;exact(congrArg (λu:Int×Int×Int=>u.2.2) e).symm
 have aw:awF ss.length (wtN ws) 0=awB ss.length (cs.map (·.2)) 0:=by rw[mw,zR7]
 have sm:∀ k:Int,qH ss (fAt k) (wtN ws) (0,1)=(uU ss (fAt k) (cs.map (·.2)) 0,1):=λk=>by rw[mw,zN1]
 exists _,rfl,_,rfl,l,W,ss,ws,rfl,hl',SqL.of eW,okw,_,rfl;rw[aw];cases hb:awB ss.length (cs.map (·.2)) 0 with
 | false =>
  refine uT ?_;have z:=q G sG;rw[show(-1:Int)+1=0 by decide,hb] at z;exact uT z
 | true =>
  refine vS ?_;have rg:∀ t∈ws,0<=t.2.1/\t.2.1<ss.length/\1<=t.2.2.2.2:=λt ht=>by
   have z:(t.2.1,t.2.2.2)∈zSe (cs.map (·.2)):=by rw[<- mw]; exact List.mem_map_of_mem (f:=λt:Wt=>(t.2.1,t.2.2.2)) ht
   obtain⟨c,hc,e⟩:=List.mem_map.mp z;have r:=zEw (Int.le_refl 0) hb c hc;have e1:c.1=t.2.1:=congrArg (λu:Int×Int×Int=>u.1) e;rw[e1] at r;exact⟨r.1,r.2,by rw[one t ht]; decide⟩
  rw[show(-1:Int)+1=0 by decide,hb,Bool.true_and] at q;refine⟨_,rfl,_,rfl,sz2,λd hd=>?_⟩;have sd:zZ G (upd G d (.tup [.int 0,.int 0])):=zF hd _;have ed:upd G d (.tup [.int 0,.int 0]) d=some (.tup [.int 0,.int 0]):=zD;generalize upd G d (.tup [.int 0,.int 0])=G1 at sd ed ⊢;refine⟨l,W,d,ss,ws,0,0,rfl,sd.seq hl',ok'.same sd,SqL.of (sd _ _ eW),okw.same sd,.inl one,rg,SqT.of ed,λG2 s2=>⟨_,rfl,?_⟩⟩;rw[sm,sm];dsimp only;rw[Int.zero_mul];simp only[zLt] at q;cases hm:(decide (uU ss (fAt 0) (cs.map (·.2)) 0=0)&&decide (uU ss (fAt 1) (cs.map (·.2)) 0=0)) with
  | false =>
   have z:=q G2 (sG.trans (sd.trans s2));rw[hm] at z;exact uT z
  | true =>
   refine vS ?_;rw[hm,Bool.true_and] at q;have s12:=sd.trans s2;refine⟨_,rfl,_,rfl,l,W,2,ss,ws,rfl,s12.seq hl',ok'.same s12,SqL.of (s12 _ _ eW),okw.same s12,.inl one,by decide,by decide,rg,λp x0 y0 G3 s3 hp ep bp po=>?_⟩;rw[sm] at po;obtain⟨e3,e4⟩:=tI rfl po;rw[e3,e4] at ep;refine⟨0,1,rfl,by decide,by decide +kernel,λp4 x y G4 s4 hp4 ep4 po=>?_⟩;obtain⟨e1,e2⟩:=tI rfl po;rw[e1,e2] at ep4;exact⟨p,p4,_,0,rfl,SqT.of (s4 _ _ ep),SqT.of ep4,q G4 (sG.trans (s12.trans (s3.trans s4)))⟩
def qV(K:PySem.W.Frag):Sp:=λvs H Q _=>∃(l p:Addr)(ss:List Sd)(P:P3),vs=[.ref l,.ref p]/\SqL K H l (zJ ss)/\vP H ss/\SqT K H p [.int P.1,.int P.2.1,.int P.2.2]/\Q (.bl (decide (1<=P.2.2)&&zGv ss P)) H
theorem zFd(F:Fun K "good_place" "good_place" vM f fd)(Z:Zs mg)(yBf:Has P w K mg base "in_water" 3 ["sides", "place"] (uP K)):xK P w K mg base CX0 4 f fd ["sides", "place"] (qV K):=by
 specialize zEg
 ·obtain⟨l,p,ss,P,rfl,_⟩:=h;rfl
 obtain⟨l,p,ss,P,rfl,hl,ok,hp,q⟩:=h
 refine'⟨_,(zH (zO ?_)),?_⟩
 nofun
 exists _,rfl,p,_,_,.int P.2.2,rfl,rfl,.inr hp,rfl,_,_,rfl,rfl,_,rfl;refine ifD (λh1=>?_) (λh1=>?_)
 ·rw[decide_eq_true h1,Bool.true_and] at q;exact⟨_,rfl,_,rfl,l,p,ss,P,rfl,hl,ok,.inr hp,q⟩
 ·rw[decide_eq_false h1] at q;exact q
inductive Bp where
 | no (D:Addr) (cs:List Pr)
 | cannot (d L:Addr) (X Y:Int) (ws:List Wt)
 | must (W:Addr) (tl:List (Addr×List Wt))
 | can (p q:Addr) (P Q:P3)
def zHu(H:Hp)(t:Addr):Bp->Prop
 | .no D cs=>H t=some (.tup [.str "none", .ref D])/\H D=some (.lst (zL cs))/\zHy H cs
 | .cannot d L X Y ws=>H t=some (.tup [.str "cannot", .ref d,.ref L])/\H d=some (.tup [.int X,.int Y])/\H L=some (.lst (zP ws))/\qG H ws
 | .must W tl=>H t=some (.tup [.str "must", .ref W])/\H W=some (.lst (zW tl))/\∀ u∈tl,H u.1=some (.lst (zP u.2))/\qG H u.2
 | .can p q P Q=>H t=some (.tup [.str "can", .ref p,.ref q])/\H p=some (.tup [.int P.1,.int P.2.1,.int P.2.2])/\H q=some (.tup [.int Q.1,.int Q.2.1,.int Q.2.2])
def zJi(n mW mD:Nat):Bp->Prop
 | .no _ cs=>cs.length<=n
 | .cannot _ _ X Y ws=>X.natAbs<=mD/\Y.natAbs<=mD/\ws.length<=n/\∀ t∈ws,t.2.2.2.1.natAbs<=mW/\t.2.2.2.2.natAbs<=mW
 | .must _ tl=>tl.length<=n/\∀ u∈tl,u.2.length<=n/\∀ t∈u.2,t.2.2.2.1.natAbs<=mW/\t.2.2.2.2.natAbs<=mW
 | .can _ _ _ _=>True
def zF4(ss:List Sd)(vs:List (Int×Int)):Bp->Prop
 | .no _ cs=>rB ss (cs.map (·.2))=true
 | .cannot _ _ X Y ws=>(X≠0\/Y≠0)/\∃ N B,wV ss (X,Y,0) (wtN ws)=some (N,B)/\∀ v∈vs,N<(X*v.1+Y*v.2)*B
 | .must _ tl=>tl.length=vs.length/\∀(i:Nat)(u:Addr×List Wt)(e:P3),tl[i]?=some u->(yX vs)[i]?=some e->∃ N B,wV ss e (wtN u.2)=some (N,B)/\N<=e.2.2*B
 | .can _ _ P Q=>(1<=P.2.2/\zGv ss P=true)/\(1<=Q.2.2/\zGv ss Q=true)/\(∀ e∈yX vs,sv e P<=0)/\¬ ∀ e∈yX vs,sv e Q<=0
theorem zHu.same{H H':Hp}{t:Addr}{pp:Bp}(h:zHu H t pp)(s:zZ H H'):zHu H' t pp:=by
 cases pp with
 | no D cs=>exact⟨s _ _ h.1,s _ _ h.2.1,h.2.2.same s⟩
 | cannot d L X Y ws=>exact⟨s _ _ h.1,s _ _ h.2.1,s _ _ h.2.2.1,h.2.2.2.same s⟩
 | must W tl=>exact⟨s _ _ h.1,s _ _ h.2.1,λu hu=>⟨s _ _ (h.2.2 u hu).1,(h.2.2 u hu).2.same s⟩⟩
 | can p q P Q=>exact⟨s _ _ h.1,s _ _ h.2.1,s _ _ h.2.2⟩
theorem zT9{N B x y A:Int}(p:wT N B x y)(hB:1<=B):x<A*y↔N<A*B:=by
 have e:=p.eq;have y0:=p.pos;constructor
 ·intro h;have z:=Int.mul_lt_mul_of_pos_right h (show 0<B by lia);rw[e,show A*y*B=y*(A*B) by rw[Int.mul_assoc,Int.mul_left_comm]] at z;exact Int.lt_of_mul_lt_mul_left z (by lia)
 ·intro h;have z:=Int.mul_lt_mul_of_pos_left h (show 0<y by lia);rw[<- e,show y*(A*B)=A*y*B by rw[Int.mul_assoc,Int.mul_left_comm]] at z;exact Int.lt_of_mul_lt_mul_right z (by lia)
theorem zHs{T:Int×Int}{p q n:Int}{a b:Nat}(h1:T.1.natAbs<=a)(h2:T.2.natAbs<=b)(hp:p.natAbs<=10^40)(hq:q.natAbs<=10^40)(hn:n.natAbs<=10^13):(qL T p q n).1.natAbs<=a*10^40+10^13*10^40*b/\(qL T p q n).2.natAbs<=b*10^40 :=
 ⟨Nat.le_trans (Int.natAbs_add_le _ _) (Nat.add_le_add (zI _ _ h1 hq) (zI _ _ (zI _ _ hn hp) h2)),zI _ _ h2 hq⟩
theorem zCw{ss:List Sd}(sm:∀ t∈ss,t.2.2.2.natAbs<=10^13)(n:Int):(yJ ss (fAt 2) n).natAbs<=10^13:=by
 unfold yJ;split
 ·rename_i t ht
  exact sm t (List.mem_of_getElem? ht)
 ·decide
theorem zEl{ss:List Sd}{g:P3}{ws:List Wt}{N B:Int}(h:wV ss g (wtN ws)=some (N,B))(sm:∀ t∈ss,t.2.2.2.natAbs<=10^13)(bw:∀ t∈ws,t.2.2.2.1.natAbs<=10^40/\t.2.2.2.2.natAbs<=10^40):N.natAbs<=10^100/\B.natAbs<=10^100:=by
 rw[zDb] at h;split at h
 ·rename_i hc
  injection h with h
  have e1:N=(qH ss (fAt 2) (wtN ws) (0,1)).1:=by rw[h]
  have e2:B=(qH ss (fAt 2) (wtN ws) (0,1)).2:=by rw[h]
  rw[e1,e2]
  match ws,hc.1,bw with
  | [],_,_=>exact⟨show(0:Int).natAbs<=_ by decide,show(1:Int).natAbs<=_ by decide⟩
  | [c],_,bw =>
   have z:=bw c (List.mem_cons_self ..);have y:=zHs (T:=(0,1)) (a:=0) (b:=1) (by decide) (by decide) z.1 z.2 (zCw sm c.2.1);exact⟨Nat.le_trans y.1 (by decide),Nat.le_trans y.2 (by decide)⟩
  | [c,d],_,bw =>
   have z:=bw c (List.mem_cons_self ..);have z':=bw d (List.mem_cons_of_mem _ (List.mem_cons_self ..));have y:=zHs (T:=(0,1)) (a:=0) (b:=1) (by decide) (by decide) z.1 z.2 (zCw sm c.2.1);have x:=zHs y.1 y.2 z'.1 z'.2 (zCw sm d.2.1);exact⟨Nat.le_trans x.1 (by decide),Nat.le_trans x.2 (by decide)⟩
  | _::_::_::_,h,_=>exact absurd h (by simp only[List.map_cons,List.length_cons]; lia)
 ·cases h
def zM5(N B X Y:Int)(ps:List Pr):List Bool:=ps.map λt=>decide (N<(X*t.2.1+Y*t.2.2)*B)
def rZ(K:PySem.W.Frag):Sp:=λvs H Q _=>∃(l c d L:Addr)(ss:List Sd)(ps:List Pr)(X Y:Int)(ws:List Wt),vs=[.ref l,.ref c,.ref d,.ref L]/\SqL K H l (zJ ss)/\vP H ss/\H c=some (.lst (zL ps))/\qM H (10^6) ps/\ps.length<=100/\SqT K H d [.int X,.int Y]/\X.natAbs<=10^50/\Y.natAbs<=10^50/\SqL K H L (zP ws)/\qG H ws/\(∀ t∈ws,t.2.2.2.1.natAbs<=10^40/\t.2.2.2.2.natAbs<=10^40) /\
 ∀(b:Bool)(H':Hp),zZ H H'->(b=true↔zF4 ss (ps.map (·.2)) (.cannot d L X Y ws))->Q (.bl b) H'
theorem zDf(F:Fun K "good_cannot" "good_cannot" uO f fd)(Z:Zs mg)(yCc:Has P w K mg base "below" 1 ["one", "other"] (zAv K))(yCt:Has P w K mg base "part" 4 ["top", "bottom"] (wH K))(yBy:Has P w K mg base "along" 1 ["one", "other"] (vD K))(yBz:Has P w K mg base "shown" 8 ["sides", "weights", "direction"] (zCq K))(yBl:Has P w K mg base "below" 1 ["one", "other"] (qR K))(yBi:Has P w K mg base "along" 1 ["one", "other"] (zDc K)):xK P w K mg base CX0 9 f fd ["sides", "corners", "direction", "weights"] (rZ K):=by
 specialize qC
 ·obtain⟨l,c,d,L,ss,ps,X,Y,ws,rfl,_⟩:=h;rfl
 obtain⟨l,c,d,L,ss,ps,X,Y,ws,rfl,hl,ok,ec,pk,np,hd,bX,bY,hL,okw,wsz,q⟩:=h;refine⟨_,(zG (zNl (i:=4) qC.nd rfl (Or.inr rfl) (xG yBz (hr.mono (by decide)) rfl (zU (pv 0) (zU (pv 3) (zU (pv 2) yH)))))
   (zG (yC (wA zO5 (pv 4) uW (xI _)) (zH (zO vR)) zS)
   (zH (zO (wM (tT rfl) rfl Z.all zEo (zU (xJ (T:=["corner"]) (caps:=[("direction", 2),("most", 4)]) ⟨rfl,by decide +kernel,by decide +kernel,rfl,⟨⟨rfl,rfl,Or.inl rfl⟩,⟨rfl,rfl,Or.inl rfl⟩,True.intro⟩⟩ rfl (xC (pv 1)) (λ_=>(zP0 (i:=0) (show(["corner", "direction", "most"]:List Str).Nodup by decide +kernel) rfl (Or.inl rfl))) (λ_=>yF) (λ_=>(xG yBl (hr.mono (by decide)) rfl (zU (pv 2) (zU (xG yCt (hr.mono (by decide)) rfl (zU (xG yBi (hr.mono (by decide)) rfl (zU (pv 1) (zU (pv 0) yH))) (zU uG yH))) yH))))) yH)))))),?_⟩
 try dsimp only[L2.cxOf]
 refine⟨_,rfl,_,rfl,_,rfl,l,L,d,ss,ws,(X,Y,0),rfl,hl,ok,hL,okw,λt ht=>⟨Nat.le_trans (wsz t ht).1 (by decide),Nat.le_trans (wsz t ht).2 (by decide)⟩,hd,λH1 s1 no=>?_,λp N B x y H1 s1 hp ep gz so bp po=>?_⟩
 ·exists _,rfl,rfl,_,rfl;refine uT ?_;refine q false H1 s1 ⟨(λz=>nomatch z),λ⟨z1,N,B,z2,_⟩=>?_⟩;rcases no with ⟨n1,n2⟩ | no
  ·exact absurd z1 (λz=>z.elim (λh=>h n1) (λh=>h n2))
  ·rw[no] at z2;cases z2
 exists _,rfl,rfl,_,rfl;refine vS ?_;obtain⟨bN,bB⟩:=zEl so (λu hu=>(ok u hu).2.2.2.2) wsz;have bx:=po.xle;have by':=po.yle;have ec1:=s1 _ _ ec;have pk1:=pk.same s1;refine⟨_,rfl,c,rfl,.inl ⟨⟨_,SqL.of ec1⟩,λcc D hD=>yM (K:=K) (a:=c) (xs:=zL ps) (λi σ ys H'=>ys=(zM5 N B X Y (ps.take i)).map V.bl/\zZ H1 H'/\H' D=some (.lst ys)/\∃ u0:Option V,σ=[u0,some (.ref d),some (.ref p)])
  ⟨rfl,zF hD _,zD,none,rfl⟩ (λi σ ys H' _ ⟨_,e2,e3,_⟩=>⟨SqL.of (e2 _ _ ec1),e3⟩) ?_ ?_⟩⟩
 ·rintro i v σ ys H2 hi ⟨rfl,s2,eD,u0,rfl⟩;obtain⟨t,gt,rfl,hil⟩:=wO hi;obtain⟨et,b1,b2⟩:=pk1 t (List.mem_of_getElem? gt);have hd2:=(hd.same s1).same s2;refine⟨_,rfl,_,rfl,_,rfl,d,t.1,X,Y,t.2.1,t.2.2,rfl,hd2,SqT.of (s2 _ _ et),Nat.le_trans b1 (by decide),Nat.le_trans b2 (by decide),X*t.2.1+Y*t.2.2,1,rfl,by decide,by decide,λp2 x2 y2 H3 s3 hp2 ep2 po2=>?_⟩;obtain⟨rfl,rfl⟩:=tI rfl po2;have bA:(X*t.2.1+Y*t.2.2).natAbs<=10^100:=Nat.le_trans (Nat.le_trans (Int.natAbs_add_le _ _) (Nat.add_le_add (zI _ _ bX b1) (zI _ _ bY b2))) (by decide);refine⟨p,p2,x,y,X*t.2.1+Y*t.2.2,1,rfl,SqT.of (s3 _ _ (s2 _ _ ep)),SqT.of ep2,Nat.le_trans bx bN,Nat.le_trans by' bB,bA,by decide,?_⟩;have s23:=s2.trans s3;have nD:(upd H3 D (.lst ((zM5 N B X Y (ps.take i)).map V.bl++[.bl (decide (x*1<(X*t.2.1+Y*t.2.2)*y))]))) D=_:=zD;refine⟨s3 _ _ eD,zV ?_,?_,s23.putNew hD,zD,_,rfl⟩
  ·unfold zM5;rw[List.length_map,List.length_map,List.length_take];lia
  ·have hb:decide (x*1<(X*t.2.1+Y*t.2.2)*y)=decide (N<(X*t.2.1+Y*t.2.2)*B):=by
    rw[Int.mul_one];exact decide_eq_decide.mpr (zT9 po bp)
   show _++[V.bl (decide (x*1<(X*t.2.1+Y*t.2.2)*y))]=_;rw[hb];unfold zM5;rw[yP gt,List.map_append,List.map_append];rfl
 ·rintro σ ys H2 ⟨rfl,s2,eD,u0,rfl⟩;rw[zQ,List.take_length] at eD;refine⟨D,zM5 N B X Y ps,rfl,SqL.of eD,q _ H2 (s1.trans s2) ?_⟩;unfold zM5;rw[List.all_map,List.all_eq_true];constructor
  ·intro h;refine⟨gz,N,B,so,λv hv=>?_⟩;obtain⟨t,ht,rfl⟩:=List.mem_map.mp hv;exact of_decide_eq_true (h t ht)
  ·rintro⟨_,N',B',so',h⟩ t ht;rw[so] at so';cases so';exact decide_eq_true (h t.2 (List.mem_map_of_mem ht))
theorem zTw{N B x y A:Int}(p:wT N B x y)(hB:1<=B):A*y<x↔A*B<N:=by
 have e:=p.eq;have y0:=p.pos;constructor
 ·intro h;have z:=Int.mul_lt_mul_of_pos_right h (show 0<B by lia);rw[e,show A*y*B=y*(A*B) by rw[Int.mul_assoc,Int.mul_left_comm]] at z;exact Int.lt_of_mul_lt_mul_left z (by lia)
 ·intro h;have z:=Int.mul_lt_mul_of_pos_left h (show 0<y by lia);rw[<- e,show y*(A*B)=A*y*B by rw[Int.mul_assoc,Int.mul_left_comm]] at z;exact Int.lt_of_mul_lt_mul_right z (by lia)
def rA(K:PySem.W.Frag):Sp:=λvs H Q _=>∃(l W e:Addr)(ss:List Sd)(ws:List Wt)(E:P3),vs=[.ref l,.ref W,.ref e]/\SqL K H l (zJ ss)/\vP H ss/\SqL K H W (zP ws)/\qG H ws/\(∀ t∈ws,t.2.2.2.1.natAbs<=10^40/\t.2.2.2.2.natAbs<=10^40)/\SqT K H e [.int E.1,.int E.2.1,.int E.2.2]/\(E.1≠0\/E.2.1≠0)/\E.2.2.natAbs<=10^13 /\
 ∀(b:Bool)(H':Hp),zZ H H'->(b=true↔∃ N B,wV ss E (wtN ws)=some (N,B)/\N<=E.2.2*B)->Q (.bl b) H'
theorem zCz(F:Fun K "shows_within" "shows_within" uB f fd)(Z:Zs mg)(yCc:Has P w K mg base "below" 1 ["one", "other"] (zAv K))(yCt:Has P w K mg base "part" 4 ["top", "bottom"] (wH K))(yBz:Has P w K mg base "shown" 8 ["sides", "weights", "direction"] (zCq K))(yBl:Has P w K mg base "below" 1 ["one", "other"] (qR K)):xK P w K mg base CX0 9 f fd ["sides", "weights", "edge"] (rA K):=by
 refine F.ok rF (λvs H Q E h=>?_) (λcdv A outer s H vs Q E0 hr h=>?_)
 ·obtain⟨l,W,e,ss,ws,E,rfl,_⟩:=h;rfl
 obtain⟨l,W,e,ss,ws,E,rfl,hl,ok,hW,okw,wsz,he,ez,b3,q⟩:=h;refine⟨_,(zG (zNl (i:=3) rF.nd rfl (Or.inl rfl) (xG yBz (hr.mono (by decide)) rfl (zU (pv 0) (zU (pv 1) (zU (zC5 (zU (zGu zBz (pv 2) uG (λ_ _=>rfl)) (zU (zGu zBz (pv 2) uG (λ_ _=>rfl)) yH))) yH)))))
   (zH (zO (zGr (vE zJr (pv 3) uW (xI _)) (zGb (zSv (xG yBl (hr.mono (by decide)) rfl (zU (xG yCt (hr.mono (by decide)) rfl (zU (zGu zBz (pv 2) uG (λ_ _=>rfl)) (zU uG yH))) (zU (pv 3) yH))))))))),?_⟩
 try dsimp only[L2.cxOf]
 refine⟨_,rfl,_,rfl,_,rfl,e,_,_,.int E.1,rfl,rfl,.inr he,rfl,_,rfl,e,_,_,.int E.2.1,rfl,rfl,.inr he,rfl,sz2,λd hd=>?_⟩;have sd:=zF hd (.tup [.int E.1,.int E.2.1]);have ed:upd H d (.tup [.int E.1,.int E.2.1]) d=some (.tup [.int E.1,.int E.2.1]):=zD;generalize upd H d (.tup [.int E.1,.int E.2.1])=H1 at sd ed ⊢;refine⟨l,W,d,ss,ws,E,rfl,sd.seq hl,ok.same sd,sd.seq hW,okw.same sd,λt ht=>⟨Nat.le_trans (wsz t ht).1 (by decide),Nat.le_trans (wsz t ht).2 (by decide)⟩,SqT.of ed,λH2 s2 no=>?_,λp N B x y H2 s2 hp ep _ so bp po=>?_⟩
 ·exists _,rfl,rfl,_,rfl;refine vS ?_;refine q false H2 (sd.trans s2) ⟨(λz=>nomatch z),λ⟨N,B,z2,_⟩=>?_⟩;rcases no with ⟨n1,n2⟩ | no
  ·exact absurd ez (λz=>z.elim (λh=>h n1) (λh=>h n2))
  ·rw[no] at z2;cases z2
 obtain⟨bN,bB⟩:=zEl so (λu hu=>(ok u hu).2.2.2.2) wsz;exists _,rfl,rfl,_,rfl;refine uT ?_;have s12:=sd.trans s2;refine⟨_,rfl,e,_,_,.int E.2.2,rfl,rfl,.inr (he.same s12),rfl,E.2.2,1,rfl,by decide,by decide,λp2 x2 y2 H3 s3 hp2 ep2 po2=>?_⟩;obtain⟨rfl,rfl⟩:=tI rfl po2;exists _,rfl,p2,p,E.2.2,1,x,y,rfl,SqT.of ep2,SqT.of (s3 _ _ ep),Nat.le_trans b3 (by decide),by decide,Nat.le_trans po.xle bN,Nat.le_trans po.yle bB;refine⟨_,rfl,q _ H3 (s12.trans s3) ?_⟩;have g:=zTw (A:=E.2.2) po bp;rw[Int.mul_one];constructor
 ·intro h;exists N,B,so;have h':¬ E.2.2*y<x:=λz=>by rw[decide_eq_true z] at h; cases h
  rw[g] at h';exact Int.not_lt.mp h'
 ·rintro⟨N',B',so',h⟩;rw[so] at so';cases so';rw[decide_eq_false (λz=>absurd (g.mp z) (Int.not_lt.mpr h))];rfl
def zA4(K:PySem.W.Frag):Sp:=λvs H Q _=>∃(l c W:Addr)(ss:List Sd)(ps:List Pr)(tl:List (Addr×List Wt)),vs=[.ref l,.ref c,.ref W]/\SqL K H l (zJ ss)/\vP H ss/\H c=some (.lst (zL ps))/\qM H (10^6) ps/\3<=ps.length/\ps.length<=8/\(∀ i<ps.length,atP (ps.map (·.2)) i≠atP (ps.map (·.2)) ((i+1)%ps.length))/\H W=some (.lst (zW tl))/\(∀ u∈tl,H u.1=some (.lst (zP u.2))/\qG H u.2/\∀ t∈u.2,t.2.2.2.1.natAbs<=10^40/\t.2.2.2.2.natAbs<=10^40) /\
 ∀(b:Bool)(H':Hp),zZ H H'->(b=true↔zF4 ss (ps.map (·.2)) (.must W tl))->Q (.bl b) H'
theorem zFz(F:Fun K "good_must" "good_must" tK f fd)(Z:Zs mg)(yAh:Has P w K mg base "shows_within" 9 ["sides", "weights", "edge"] (rA K))(yAs:Has P w K mg base "bank_sides" 5 ["corners"] (uR K)):xK P w K mg base CX0 10 f fd ["sides", "corners", "papers"] (zA4 K):=by
 specialize zA7
 ·obtain⟨l,c,W,ss,ps,tl,rfl,_⟩:=h;rfl
 obtain⟨l,c,W,ss,ps,tl,rfl,hl,ok,ec,pk,p3,p8,ne,eW,all,q⟩:=h
 refine'⟨_,(zG (zX 3 zA7.nd ?_)
   (zG (yC ?_ (zH (zO vR)) zS)
   (zH (zO (wM (tT rfl) rfl Z.all zEo (zU (xJ (T:=["number"]) (caps:=[("edges", 3),("papers", 2),("sides", 0)]) ⟨rfl,by decide +kernel,by decide +kernel,rfl,⟨⟨rfl,rfl,Or.inl rfl⟩,⟨rfl,rfl,Or.inl rfl⟩,⟨rfl,rfl,Or.inl rfl⟩,True.intro⟩⟩ rfl (xV rfl Z.range ?_) (λ_=>(yS 0 (show(["number", "edges", "papers", "sides"]:List Str).Nodup by decide +kernel))) (λ_=>yF) (λ_=>?_)) yH)))))),?_⟩
 nofun
 refine⟨_,rfl,c,ps,rfl,ec,pk,p3,p8,ne,λD as H1 s1 hD eD sa=>?_⟩;obtain⟨es,eas,oke,mes⟩:=sS.sd (pk.same s1) ne sa;rw[eas] at eD;have nes:es.length=ps.length:=by
  have z:=congrArg List.length mes;unfold yX at z;rw[List.length_map,List.length_map,List.length_range,List.length_map] at z;exact z
 have nt:(zW tl).length=tl.length:=by rw[List.length_map,List.length_map]
 have eW1:=s1 _ _ eW;exists _,rfl,W,_,rfl,.inl (SqL.of eW1),_,rfl,D,_,rfl,.inl (SqL.of eD),rfl,_,rfl;rw[nt,zK];refine zSz (λhne=>?_) (λheq=>?_)
 ·refine q false H1 s1 ⟨(λz=>nomatch z),λz=>absurd ?_ hne⟩;have z1:tl.length=(ps.map (·.2)).length:=z.1;rw[List.length_map] at z1;rw[z1,nes]
 have htl:tl.length=es.length:=by lia
 refine⟨_,rfl,D,_,rfl,.inl (SqL.of eD),_,rfl,(by lia),(by rw[zK]; lia),λcc B hB=>tY (lo:=0) (n:=(zJ es).length) (λi σ ys H'=>zZ H1 H'/\H' B=some (.lst ys)/\(∃ bs:List Bool,ys=bs.map V.bl/\bs.length=i/\∀(j:Nat)(b:Bool),bs[j]?=some b->(b=true↔∃(u:Addr×List Wt)(t:Sd)(N M:Int),tl[j]?=some u/\es[j]?=some t/\wV ss t.2 (wtN u.2)=some (N,M)/\N<=t.2.2.2*M))/\∃ u0:Option V,σ=[u0,some (.ref D),some (.ref W),some (.ref l)])
  ⟨zF hB _,zD,⟨[],rfl,rfl,λj b h=>by cases h⟩,none,rfl⟩ (λi σ ys H' _ ⟨_,e2,_⟩=>e2) ?_ ?_⟩
 ·rintro i σ ys H2 hi ⟨s2,eB,⟨bs,rfl,nb,hbs⟩,u0,rfl⟩;rw[zK] at hi;have gu:tl[i]?=some tl[i]:=List.getElem?_eq_getElem (by lia);have gt:es[i]?=some es[i]:=List.getElem?_eq_getElem hi;obtain⟨a1,a2,a3⟩:=all tl[i] (List.getElem_mem _);obtain⟨ett,nt',_,_,b3⟩:=oke es[i] (List.getElem_mem _);have s12:=s1.trans s2;refine⟨_,rfl,_,rfl,_,rfl,W,_,_,.ref tl[i].1,rfl,rfl,.inl (SqL.of (s12 _ _ eW)),?_,_,rfl,_,rfl,D,_,_,.ref es[i].1,rfl,rfl,.inl (SqL.of (s2 _ _ eD)),?_,l,tl[i].1,es[i].1,ss,tl[i].2,es[i].2,rfl,s12.seq hl,ok.same s12,SqL.of (s12 _ _ a1),a2.same s12,a3,SqT.of (s2 _ _ ett),nt',b3,λb H3 s3 hb=>?_⟩
  ·rw[Int.zero_add];exact sW (by rw[List.getElem?_map,List.getElem?_map,gu]; rfl)
  ·rw[Int.zero_add];exact sW (by rw[List.getElem?_map,List.getElem?_map,gt]; rfl)
  refine⟨s3 _ _ eB,zV (by rw[List.length_map]; lia),(s2.trans s3).putNew hB,zD,⟨bs++[b],by rw[List.map_append]; rfl,by rw[List.length_append,nb]; rfl,λj b' hj=>?_⟩,_,rfl⟩;by_cases hji:j<bs.length
  ·rw[List.getElem?_append_left hji] at hj;exact hbs j b' hj
  ·rw[List.getElem?_append_right (by lia)] at hj;have hj0:j-bs.length=0:=by
    have:=(List.getElem?_eq_some_iff.mp hj).1;simp only[List.length_singleton] at this;lia
   rw[hj0] at hj;cases hj;obtain rfl:j=i:=by lia
   rw[hb];constructor
   ·rintro⟨N,M,z1,z2⟩;exact⟨_,_,N,M,gu,gt,z1,z2⟩
   ·rintro⟨u,t,N,M,g1,g2,z1,z2⟩;rw[gu] at g1;rw[gt] at g2;cases g1;cases g2;exact⟨N,M,z1,z2⟩
 ·rintro σ ys H2 ⟨s2,eB,⟨bs,rfl,nb,hbs⟩,u0,rfl⟩;rw[zK] at nb;refine⟨B,bs,rfl,SqL.of eB,q _ H2 (s1.trans s2) ?_⟩;rw[List.all_eq_true];constructor
  ·intro h;refine⟨by rw[List.length_map]; lia,λi u e gu ge=>?_⟩;rw[<- mes,List.getElem?_map] at ge;cases gt:es[i]? with
   | none=>rw[gt] at ge; cases ge
   | some t =>
    rw[gt] at ge;cases ge;have hi:=(List.getElem?_eq_some_iff.mp gt).1;have gb:bs[i]?=some bs[i]:=List.getElem?_eq_getElem (by lia);obtain⟨u',t',N,M,g1,g2,z1,z2⟩:=(hbs i _ gb).mp (h _ (List.getElem_mem _));rw[gu] at g1;rw[gt] at g2;cases g1;cases g2;exact⟨N,M,z1,z2⟩
  ·rintro⟨_,h⟩ b hb;obtain⟨i,hi,rfl⟩:=List.getElem_of_mem hb;have gb:bs[i]?=some bs[i]:=List.getElem?_eq_getElem hi;refine(hbs i _ gb).mpr ?_;have gu:tl[i]?=some tl[i]:=List.getElem?_eq_getElem (by lia);have gt:es[i]?=some es[i]:=List.getElem?_eq_getElem (by lia);obtain⟨N,M,z1,z2⟩:=h i tl[i] es[i].2 gu (by rw[<- mes,List.getElem?_map,gt]; rfl);exact⟨_,_,N,M,gu,gt,z1,z2⟩
theorem rM{es:List Sd}{vs:List P3}{z:P3}(m:es.map (·.2)=vs):zGv es z=true↔∀ e∈vs,sv e z<=0:=by
 rw[sM,<- m];constructor
 ·intro h e he;obtain⟨t,mt,rfl⟩:=List.mem_map.mp he;exact h t mt
 ·intro h t ht;exact h t.2 (List.mem_map_of_mem ht)
def zCc(K:PySem.W.Frag):Sp:=λvs H Q _=>∃(l c p r:Addr)(ss:List Sd)(ps:List Pr)(P R:P3),vs=[.ref l,.ref c,.ref p,.ref r]/\SqL K H l (zJ ss)/\vP H ss/\H c=some (.lst (zL ps))/\qM H (10^6) ps/\3<=ps.length/\ps.length<=8/\(∀ i<ps.length,atP (ps.map (·.2)) i≠atP (ps.map (·.2)) ((i+1)%ps.length))/\SqT K H p [.int P.1,.int P.2.1,.int P.2.2]/\SqT K H r [.int R.1,.int R.2.1,.int R.2.2] /\
 ∀(b:Bool)(H':Hp),zZ H H'->(b=true↔zF4 ss (ps.map (·.2)) (.can p r P R))->Q (.bl b) H'
theorem zHl(F:Fun K "good_can" "good_can" sQ f fd)(Z:Zs mg)(yBf:Has P w K mg base "in_water" 3 ["sides", "place"] (uP K))(yAs:Has P w K mg base "bank_sides" 5 ["corners"] (uR K))(yAr:Has P w K mg base "good_place" 4 ["sides", "place"] (qV K)):xK P w K mg base CX0 6 f fd ["sides", "corners", "on_bank", "off_bank"] (zCc K):=by
 specialize zCl
 ·obtain⟨l,c,p,r,ss,ps,P,R,rfl,_⟩:=h;rfl
 obtain⟨l,c,p,r,ss,ps,P,R,rfl,hl,ok,ec,pk,p3,p8,ne,hp,hr',q⟩:=h
 refine'⟨_,(zG (yC ?_ (zH (zO vR)) zS)
   (zG (zX 4 zCl.nd ?_)
   (zH (zO ?_)))),?_⟩
 nofun
 exists _,rfl,_,rfl,l,p,ss,P,rfl,hl,ok,hp,_,rfl;cases h1:(decide (1<=P.2.2)&&zGv ss P) with
 | false =>
  refine uT ?_;refine uT ?_;exact q false H (zZ.refl _) ⟨(λz=>nomatch z),λz=>by rw[decide_eq_true z.1.1,z.1.2] at h1; cases h1⟩
 | true =>
  refine vS ?_;exists _,rfl,_,rfl,l,r,ss,R,rfl,hl,ok,hr',_,rfl;cases h2:(decide (1<=R.2.2)&&zGv ss R) with
  | false =>
   refine uT ?_;exact q false H (zZ.refl _) ⟨(λz=>nomatch z),λz=>by rw[decide_eq_true z.2.1.1,z.2.1.2] at h2; cases h2⟩
  | true =>
   refine vS ?_;rw[Bool.and_eq_true] at h1 h2;refine⟨_,rfl,c,ps,rfl,ec,pk,p3,p8,ne,λD as H1 s1 hD eD sa=>?_⟩;obtain⟨es,eas,oke,mes⟩:=sS.sd (pk.same s1) ne sa;rw[eas] at eD;exists _,rfl,_,rfl,D,p,es,P,rfl,SqL.of eD,oke,.inr (hp.same s1),_,rfl;cases h3:zGv es P with
   | false =>
    refine vS ?_;exact q _ H1 s1 ⟨(λz=>nomatch z),λz=>by rw[(rM mes).mpr z.2.2.1] at h3; cases h3⟩
   | true =>
    refine uT ?_;exists _,rfl,_,rfl,D,r,es,R,rfl,SqL.of eD,oke,.inr (hr'.same s1),_,rfl;refine q _ H1 s1 ⟨λz=>⟨⟨of_decide_eq_true h1.1,h1.2⟩,⟨of_decide_eq_true h2.1,h2.2⟩,(rM mes).mp h3,λy=>?_⟩,λz=>?_⟩
    ·rw[(rM mes).mpr y] at z;cases z
    ·cases h4:zGv es R with
     | false=>rfl
     | true=>exact absurd ((rM mes).mp h4) z.2.2.2
def zA3(K:PySem.W.Frag):Sp:=λvs H Q _=>∃(l c t:Addr)(ss:List Sd)(ps:List Pr)(pp:Bp),vs=[.ref l,.ref c,.ref t]/\SqL K H l (zJ ss)/\vP H ss/\H c=some (.lst (zL ps))/\qM H (10^6) ps/\3<=ps.length/\ps.length<=8/\(∀ i<ps.length,atP (ps.map (·.2)) i≠atP (ps.map (·.2)) ((i+1)%ps.length))/\zHu H t pp/\zJi 900 (10^40) (10^50) pp /\
 ∀(b:Bool)(H':Hp),zZ H H'->(b=true↔zF4 ss (ps.map (·.2)) pp)->Q (.bl b) H'
theorem zFw(F:Fun K "good_bank" "good_bank" tJ f fd)(Z:Zs mg)(yBe:Has P w K mg base "good_can" 6 ["sides", "corners", "on_bank", "off_bank"] (zCc K))(yBa:Has P w K mg base "good_must" 10 ["sides", "corners", "papers"] (zA4 K))(yAj:Has P w K mg base "good_cannot" 9 ["sides", "corners", "direction", "weights"] (rZ K))(yAo:Has P w K mg base "good_clash" 8 ["sides", "paper"] (zAb K)):xK P w K mg base CX0 11 f fd ["sides", "corners", "paper"] (zA3 K):=by
 specialize zF2
 ·obtain⟨l,c,t,ss,ps,pp,rfl,_⟩:=h;rfl
 obtain⟨l,c,t,ss,ps,pp,rfl,hl,ok,ec,pk,p3,p8,ne,hp,hz,q⟩:=h
 refine'⟨_,(zG (yC ?_ (zH (zO ?_)) zS)
   (zG (yC ?_ (zH (zO ?_)) zS)
   (zG (yC ?_ (zH (zO ?_)) zS)
   (zH (zO ?_))))),?_⟩
 nofun
 cases pp with
 | no D cs =>
  obtain⟨e,eD,okc⟩:=hp;have n9:cs.length<=900:=hz;exists _,rfl,t,_,_,_,rfl,rfl,.inr (SqT.of e),rfl,rfl,_,rfl;refine zM6 ?_;exact⟨_,rfl,_,rfl,t,_,_,.ref D,rfl,rfl,.inr (SqT.of e),rfl,l,D,ss,cs,rfl,hl,ok,SqL.of eD,okc,n9,λH2 s2=>q _ H2 s2 Iff.rfl⟩
 | cannot d L X Y ws =>
  obtain⟨e,ed,eL,okw⟩:=hp;obtain⟨bX,bY,_,wsz⟩:=hz;have e1:Sq K H t _:=.inr (SqT.of e);exists _,rfl,t,_,_,_,rfl,rfl,e1,rfl,rfl,_,rfl;refine zD8 (by decide) ?_;exists _,rfl,t,_,_,_,rfl,rfl,e1,rfl,rfl,_,rfl;refine zM6 ?_;exact⟨_,rfl,_,rfl,_,rfl,t,_,_,.ref d,rfl,rfl,e1,rfl,_,rfl,t,_,_,.ref L,rfl,rfl,e1,rfl,l,c,d,L,ss,ps,X,Y,ws,rfl,hl,ok,ec,pk,by lia,SqT.of ed,bX,bY,SqL.of eL,okw,wsz,λb H2 s2 hb=>q b H2 s2 hb⟩
 | must W tl =>
  obtain⟨e,eW,all⟩:=hp;have e1:Sq K H t _:=.inr (SqT.of e);exists _,rfl,t,_,_,_,rfl,rfl,e1,rfl,rfl,_,rfl;refine zD8 (by decide) ?_;exists _,rfl,t,_,_,_,rfl,rfl,e1,rfl,rfl,_,rfl;refine zD8 (by decide) ?_;exists _,rfl,t,_,_,_,rfl,rfl,e1,rfl,rfl,_,rfl;refine zM6 ?_;exact⟨_,rfl,_,rfl,_,rfl,t,_,_,.ref W,rfl,rfl,e1,rfl,l,c,W,ss,ps,tl,rfl,hl,ok,ec,pk,p3,p8,ne,eW,λu hu=>⟨(all u hu).1,(all u hu).2,(hz.2 u hu).2⟩,λb H2 s2 hb=>q b H2 s2 hb⟩
 | can p r P R =>
  obtain⟨e,ep,er⟩:=hp;have e1:Sq K H t _:=.inr (SqT.of e);exists _,rfl,t,_,_,_,rfl,rfl,e1,rfl,rfl,_,rfl;refine zD8 (by decide) ?_;exists _,rfl,t,_,_,_,rfl,rfl,e1,rfl,rfl,_,rfl;refine zD8 (by decide) ?_;exists _,rfl,t,_,_,_,rfl,rfl,e1,rfl,rfl,_,rfl;refine zD8 (by decide) ?_;exact⟨_,rfl,_,rfl,_,rfl,t,_,_,.ref p,rfl,rfl,e1,rfl,_,rfl,t,_,_,.ref r,rfl,rfl,e1,rfl,l,c,p,r,ss,ps,P,R,rfl,hl,ok,ec,pk,p3,p8,ne,SqT.of ep,SqT.of er,λb H2 s2 hb=>q b H2 s2 hb⟩
theorem vG(ws vs:List Wt):zP (ws++vs)=zP ws++zP vs:=by simp[zP]
theorem zLu(ws:List Wt)(j:Nat)(t:Wt):(zP ws).set j (.ref t.1)=zP (ws.set j t):=by
 simp[zP,List.map_set]
theorem zPm{ws:List Wt}{i:Nat}{k:Int}(e:k=i)(h:i<ws.length):∃ t,t∈ws/\atI (zP ws) k=some (.ref t.1):=by
 exists ws[i],List.getElem_mem h;rw[e];exact sW (by rw[List.getElem?_map,List.getElem?_map,List.getElem?_eq_getElem h] <;> rfl)
theorem zJo(ws:List Wt)(lo hi:Option Int):∃ qs:List Wt,qJ (zP ws) lo hi=zP qs/\(∀ t∈qs,t∈ws)/\qs.length<=ws.length:=by
 refine⟨(ws.drop (HT.sIx (zP ws).length 0 lo)).take (HT.sIx (zP ws).length (zP ws).length hi-HT.sIx (zP ws).length 0 lo),?_,λt ht=>List.mem_of_mem_drop (List.mem_of_mem_take ht),?_⟩
 ·show((zP ws).drop _).take _=_;simp only[zP,List.map_drop,List.map_take]
 ·rw[List.length_take,List.length_drop];lia
theorem zPe:∀{ys:List V}{ws:List Wt},(∀ y∈ys,y∈zP ws)->∃ qs:List Wt,ys=zP qs/\∀ t∈qs,t∈ws
 | [],_,_=>⟨[],rfl,λt ht=>nomatch ht⟩
 | y::ys,ws,h=>by
  obtain⟨qs,e,g⟩:=zPe (ys:=ys) (ws:=ws) λz hz=>h z (List.mem_cons_of_mem _ hz);have hy:=h y (List.mem_cons_self ..);rw[zP,List.map_map] at hy;obtain⟨t,ht,et⟩:=List.mem_map.mp hy;refine⟨t::qs,?_,λz hz=>?_⟩
  ·rw[e,<- et];rfl
  ·rcases List.mem_cons.mp hz with rfl | hz
   ·exact ht
   ·exact g z hz
def WtB(m:Nat)(ws:List Wt):Prop:=∀ t∈ws,t.2.2.2.1.natAbs<=m/\t.2.2.2.2.natAbs<=m
def wW(ws vs:List Wt):Prop:=∀ m,10<=m->WtB m ws->WtB (10*m) vs
theorem wW.of{ws vs:List Wt}(h:∀ t∈vs,t∈ws\/∀ m,10<=m->WtB m ws->t.2.2.2.1.natAbs<=10*m/\t.2.2.2.2.natAbs<=10*m):wW ws vs:=λm m10 b t ht=>by
 rcases h t ht with h | h
 ·have:=b t h;lia
 ·exact h m m10 b
structure zSr(H0:Hp)(D:Addr)(ws:List Wt)(H:Hp):Prop where
 same:zZ H0 H
 new:H0 D=none
 at':H D=some (.lst (zP ws))
 all:qG H ws
theorem zSr.put{H0 H H2:Hp}{D p q:Addr}{ws:List Wt}{n a b:Int}(P:zSr H0 D ws H)(s:zZ H H2)(eq':H2 q=some (.tup [.int a,.int b]))(ep:H2 p=some (.tup [.int n,.ref q]))(j:Nat) :
  zSr H0 D (ws.set j (p,n,q,a,b)) (upd H2 D (.lst ((zP ws).set j (.ref p)))):=by
 have eD:=s _ _ P.at';have keep:∀(b:Addr)(ys:List V),H2 b=some (.tup ys)->upd H2 D (.lst ((zP ws).set j (.ref p))) b=some (.tup ys):=λb ys e=>by
  rw[yA (tZ e eD (by intro z; cases z))];exact e
 refine⟨(P.same.trans s).putNew P.new,P.new,by rw[zD,<- zLu],λt ht=>?_⟩;rcases List.mem_or_eq_of_mem_set ht with h | h
 ·obtain⟨h1,h2⟩:=P.all t h;exact⟨keep _ _ (s _ _ h1),keep _ _ (s _ _ h2)⟩
 ·subst h;exact⟨keep _ _ ep,keep _ _ eq'⟩
theorem zFa{ws:List Wt}{j:Nat}{t:Wt}(h:∀ m,10<=m->WtB m ws->t.2.2.2.1.natAbs<=10*m/\t.2.2.2.2.natAbs<=10*m):wW ws (ws.set j t):=wW.of λu hu=>by
 rcases List.mem_or_eq_of_mem_set hu with h' | h'
 ·exact .inl h'
 ·rw[h'];exact .inr h
theorem zTa{w:Int}(h0:0<=w)(h1:w<9)(h2:¬ w=0):w=1\/w=2\/w=3\/w=4\/w=5\/w=6\/w=7\/w=8:=by
 obtain⟨n,rfl⟩:=Int.eq_ofNat_of_zero_le h0;exact(by decide:∀ n:Nat,n<9->¬ (n:Int)=0->(n:Int)=1\/(n:Int)=2\/(n:Int)=3\/(n:Int)=4\/(n:Int)=5\/(n:Int)=6\/(n:Int)=7\/(n:Int)=8) n (Int.ofNat_lt.mp h1) h2
theorem uS{x m:Nat}(h:x<=m):x<=10*m:=by lia
theorem zJk{x:Int}{m:Nat}(h:x.natAbs<=m):(-x).natAbs<=10*m:=by lia
theorem zVz{x e:Int}{m:Nat}(h:x.natAbs<=m)(h10:10<=m)(e0:0<=e)(e1:e<2):(x+1+e).natAbs<=10*m:=by lia
theorem cut0{G R:Prop}(h1:R->G)(h2:R):G:=h1 h2
def rE(K:PySem.W.Frag):Sp:=λvs H Q _=>∃(a l:Addr)(rows:List Int)(ws:List Wt),vs=[.ref a,.ref l]/\SqL K H a (rows.map V.int)/\4<=rows.length/\(∀ x∈rows,0<=x/\x<1000003)/\H l=some (.lst (zP ws))/\qG H ws/\ws.length<=100 /\
 ∀(l':Addr)(vs:List Wt)(H':Hp),zZ H H'->H' l'=some (.lst (zP vs))->qG H' vs->vs.length<=2*ws.length+1->wW ws vs->Q (.ref l') H'
theorem zC0(F:Fun K "_law_bent_weights" "_law_bent_weights" wZ f fd)(Z:Zs mg)  : xK P w K mg base CX0 1 f fd ["_law_d", "_law_weights"] (rE K):=by
 specialize yG
 ·obtain⟨a,l,rows,ws,rfl,_⟩:=h;rfl
 obtain⟨a,l,rows,ws,rfl,hS,hl,bd,el,pk,hp1,q⟩:=h
 refine'⟨_,(zG (zX 2 yG.nd ?_)
   (zG (zX 3 yG.nd ?_)
   (zG (zX 4 yG.nd ?_)
   (zG (yC ?_ (zH (zO (xH uH (xH uH ?_ ?_) ?_))) zS)
   (zG (wK ?_ (yV rfl (zR (yS 5 yG.nd) (zR (yV rfl (zR (yS 6 yG.nd) (zR (yS 7 yG.nd) yI))) yI))))
   (zG (yC ?_ (zH (zO (xH uH ?_ ?_))) zS)
   (zG (yC ?_ (zH (wK ?_ (zFo (pv 2) (pv 3) rX))) zS)
   (zG (yC ?_ (zH (wK ?_ (zFo (pv 2) (pv 3) rX))) zS)
   (zG (yC ?_ (zH (wK ?_ (zFo (pv 2) (pv 3) rX))) zS)
   (zG (yC ?_ (zH (wK ?_ (zFo (pv 2) (pv 3) rX))) zS)
   (zG (yC ?_ (zH (zX 2 yG.nd (zN4 (pv 2) zEt zEt (zHg ?_)))) zS)
   (zG (yC ?_ (zH (wK ?_ (zFo (pv 2) (pv 3) rX))) zS)
   (zG (yC ?_ (zH (zX 2 yG.nd (xH uH (xH uH ?_ ?_) ?_))) zS)
   (zH (zO (pv 2)))))))))))))))),?_⟩
 nofun
 obtain⟨v0,a0,_⟩:=yQ bd (k:=0) (by decide) (by lia);obtain⟨v1,a1,_⟩:=yQ bd (k:=1) (by decide) (by lia);obtain⟨v2,a2,c20,_⟩:=yQ bd (k:=2) (by decide) (by lia);obtain⟨v3,a3,c30,_⟩:=yQ bd (k:=3) (by decide) (by lia);have nr:=yB ws;have e20:=Int.emod_nonneg v2 (show(2:Int)≠0 by decide);have e21:=Int.emod_lt_of_pos v2 (show(0:Int)<2 by decide);refine⟨_,rfl,l,_,rfl,.inl (SqL.of el),λR hR=>?_⟩;have sR:zZ H (upd H R (.lst (zP ws))):=zF hR _;have eR:upd H R (.lst (zP ws)) R=some (.lst (zP ws)):=zD;generalize upd H R (.lst (zP ws))=H0 at sR eR ⊢;have sq:Sq K H0 a (rows.map V.int):=.inl (sR.seq hS);have pk0:=pk.same sR;exists _,rfl,a,_,_,_,rfl,rfl,sq,a1,_,rfl,R,_,rfl,.inl (SqL.of eR),_,_,rfl,rfl,_,_,rfl,rfl,(by rw[nr]; lia);exists _,rfl,a,_,_,_,rfl,rfl,sq,a0,_,_,rfl,rfl,(by show(0:Int)<9; decide);have ke:∃ k:Nat,v1%(((zP ws).length:Int)+1)=(k:Int)/\k<=ws.length:=by
  rw[nr];have z0:=Int.emod_nonneg v1 (show((ws.length:Int)+1)≠0 by lia);have z1:=Int.emod_lt_of_pos v1 (show 0<((ws.length:Int)+1) by lia);exact⟨(v1%((ws.length:Int)+1)).toNat,by lia,by lia⟩
 obtain⟨k,ek,hk⟩:=ke;have w0:=Int.emod_nonneg v0 (show(9:Int)≠0 by decide);have w1:=Int.emod_lt_of_pos v0 (show(0:Int)<9 by decide);generalize v0%9=way at w0 w1 ⊢;generalize v1%(((zP ws).length:Int)+1)=at1 at ek ⊢;obtain⟨q1,cq1,mq1,nq1⟩:=zJo ws none (some at1);obtain⟨q2,cq2,mq2,nq2⟩:=zJo ws (some (at1+1)) none;obtain⟨q3,cq3,mq3,nq3⟩:=zJo ws (some at1) none;apply cut0
 ·intro main;exists _,rfl,rfl,_,rfl;refine ifE (λ_=>?_) (λhw=>?_)
  ·refine uT ?_;exact main
  exists _,rfl,_,rfl,R,_,rfl,.inl (SqL.of eR),rfl,_,rfl;refine ifE (λ_=>main) (λhne=>?_);have hk':k<ws.length:=by rw[ek,nr] at hne; lia
  obtain⟨t,mt,at'⟩:=zPm (ws:=ws) (i:=k) (k:=at1) ek hk';have et:=pk0 t mt;have PR:zSr H R ws H0:=⟨sR,hR,eR,pk0⟩;have ixn:ixN (zP ws).length at1=some k:=by
   unfold ixN;rw[ek,nr,if_pos (show(0:Int)<=(k:Int) by lia),if_pos (show(k:Int)<(ws.length:Int) by lia),Int.toNat_natCast]
  refine⟨_,rfl,_,rfl,R,_,_,_,rfl,rfl,.inl (SqL.of eR),at',t.1,_,rfl,SqT.of et.1,rfl,.int t.2.1,_,rfl,.ref t.2.2.1,_,rfl,⟨t.2.2.1,_,rfl,SqT.of et.2,rfl,.int t.2.2.2.1,_,rfl,.int t.2.2.2.2,_,rfl,rfl,rfl,?_⟩⟩;have cc:=zTa w0 w1 hw;rcases cc with rfl | rfl | rfl | rfl | rfl | rfl | rfl | rfl
  ·skip
   exists _,rfl,rfl,_,rfl;refine ifE (λ_=>?_) (λz=>absurd rfl z);refine⟨_,rfl,_,rfl,_,rfl,R,_,rfl,SqL.of eR,λf1 hf1=>?_⟩;rw[cq1];have sf1:=zF hf1 (.lst (zP q1));have ef1:upd H0 f1 (.lst (zP q1)) f1=some (.lst (zP q1)):=zD;generalize upd H0 f1 (.lst (zP q1))=G1 at sf1 ef1 ⊢;refine⟨_,rfl,_,rfl,_,_,rfl,rfl,_,rfl,R,_,rfl,SqL.of (sf1 _ _ eR),λf2 hf2=>?_⟩;rw[cq2];have sf2:=zF hf2 (.lst (zP q2));refine⟨f1,f2,_,_,rfl,rfl,sf2 _ _ ef1,zD,small (by rw[yB,yB]; lia),λf3 hf3=>?_⟩;have sf3:=zF hf3 (.lst (zP q1++zP q2));have sA:=(sf1.trans sf2).trans sf3;refine q f3 (q1++q2) _ (sR.trans sA) (by rw[zD,vG]) (λu hu=>?_) (by rw[List.length_append]; lia) (wW.of λu hu=>?_)
   ·rcases List.mem_append.mp hu with hu | hu
    ·exact pk0.same sA u (mq1 u hu)
    ·exact pk0.same sA u (mq2 u hu)
   ·rcases List.mem_append.mp hu with hu | hu
    ·exact .inl (mq1 u hu)
    ·exact .inl (mq2 u hu)
  ·skip
   exists _,rfl,rfl,_,rfl;refine ifE (λz=>absurd z (by decide)) (λ_=>?_);exists _,rfl,rfl,_,rfl;refine ifE (λ_=>?_) (λz=>absurd rfl z);obtain⟨x3,ax3⟩:=by3 1 (-1) (10^20) v2;refine⟨_,rfl,_,rfl,_,_,rfl,rfl,⟨by decide,by decide,by decide⟩,sz3,λB2 hB2=>?_⟩;have sB:=zF hB2 (.lst [.int 1,.int (-1),.int (10^20)]);refine⟨_,rfl,a,_,_,_,rfl,rfl,sq.same sB,a2,_,_,rfl,rfl,gt3,B2,_,_,.int x3,rfl,rfl,.inl (SqL.of zD),ax3,_,_,rfl,rfl,_,rfl,_,rfl,sz2,λp1 hp1=>⟨sz2,λp2 hp2=>?_⟩⟩;have sp1:=zF hp1 (.tup [.int t.2.2.2.1,.int t.2.2.2.2]);have sp2:=zF hp2 (.tup [.int (t.2.1+x3),.ref p1]);have P5:=PR.put ((sB.trans sp1).trans sp2) (sp2 _ _ (zD:upd _ p1 (.tup [.int t.2.2.2.1,.int t.2.2.2.2]) p1=_)) (zD:upd _ p2 (.tup [.int (t.2.1+x3),.ref p1]) p2=_) k;exists _,rfl,_,rfl,R,_,_,k,rfl,rfl,((sB.trans sp1).trans sp2) _ _ eR,ixn;have tA:wW ws (ws.set k (p2,(t.2.1+x3),p1,t.2.2.2.1,t.2.2.2.2)):=zFa λm m10 b=>by
    have z:=b t mt;exact⟨uS z.1,uS z.2⟩
   have nA:(ws.set k (p2,(t.2.1+x3),p1,t.2.2.2.1,t.2.2.2.2)).length<=2*ws.length+1:=by rw[List.length_set]; lia
   generalize upd (upd (upd (upd H0 B2 (.lst [.int 1,.int (-1),.int (10^20)])) p1 (.tup [.int t.2.2.2.1,.int t.2.2.2.2])) p2 (.tup [.int (t.2.1+x3),.ref p1])) R (.lst ((zP ws).set k (.ref p2)))=G5 at P5 ⊢;generalize ws.set k (p2,(t.2.1+x3),p1,t.2.2.2.1,t.2.2.2.2)=w5 at P5 tA nA;exists _,rfl,rfl,_,rfl;refine ifE (λz=>absurd z (by decide)) (λ_=>?_);exists _,rfl,rfl,_,rfl;refine ifE (λz=>absurd z (by decide)) (λ_=>?_);exists _,rfl,rfl,_,rfl;refine ifE (λz=>absurd z (by decide)) (λ_=>?_);exists _,rfl,rfl,_,rfl;refine ifE (λz=>absurd z (by decide)) (λ_=>?_);exists _,rfl,rfl,_,rfl;refine ifE (λz=>absurd z (by decide)) (λ_=>?_);exists _,rfl,rfl,_,rfl;refine ifE (λz=>absurd z (by decide)) (λ_=>?_);exact⟨_,rfl,q R _ _ P5.same P5.at' P5.all nA tA⟩
  ·skip
   exists _,rfl,rfl,_,rfl;refine ifE (λz=>absurd z (by decide)) (λ_=>?_);exists _,rfl,rfl,_,rfl;refine ifE (λz=>absurd z (by decide)) (λ_=>?_);exists _,rfl,rfl,_,rfl;refine ifE (λ_=>?_) (λz=>absurd rfl z);have b9:∀ j:Int,zJg j (1+v2%9):=λj=>.inr ⟨by lia,by lia⟩;refine⟨_,rfl,_,rfl,_,rfl,a,_,_,_,rfl,rfl,sq,a2,_,_,rfl,rfl,(by show(0:Int)<9; decide),_,_,rfl,rfl,_,_,rfl,rfl,b9 _,_,rfl,_,rfl,a,_,_,_,rfl,rfl,sq,a2,_,_,rfl,rfl,(by show(0:Int)<9; decide),_,_,rfl,rfl,_,_,rfl,rfl,b9 _,sz2,λp1 hp1=>⟨sz2,λp2 hp2=>?_⟩⟩;have f9:(1+v2%9).natAbs<=9:=by lia
   have sp1:=zF hp1 (.tup [.int (t.2.2.2.1*(1+v2%9)),.int (t.2.2.2.2*(1+v2%9))]);have sp2:=zF hp2 (.tup [.int t.2.1,.ref p1]);have P5:=PR.put (sp1.trans sp2) (sp2 _ _ (zD:upd _ p1 (.tup [.int (t.2.2.2.1*(1+v2%9)),.int (t.2.2.2.2*(1+v2%9))]) p1=_)) (zD:upd _ p2 (.tup [.int t.2.1,.ref p1]) p2=_) k;exists _,rfl,_,rfl,R,_,_,k,rfl,rfl,(sp1.trans sp2) _ _ eR,ixn;have tA:wW ws (ws.set k (p2,t.2.1,p1,(t.2.2.2.1*(1+v2%9)),(t.2.2.2.2*(1+v2%9)))):=zFa λm m10 b=>by
    have z:=b t mt;exact⟨Nat.le_trans (zI _ _ z.1 f9) (by lia),Nat.le_trans (zI _ _ z.2 f9) (by lia)⟩
   have nA:(ws.set k (p2,t.2.1,p1,(t.2.2.2.1*(1+v2%9)),(t.2.2.2.2*(1+v2%9)))).length<=2*ws.length+1:=by rw[List.length_set]; lia
   generalize upd (upd (upd H0 p1 (.tup [.int (t.2.2.2.1*(1+v2%9)),.int (t.2.2.2.2*(1+v2%9))])) p2 (.tup [.int t.2.1,.ref p1])) R (.lst ((zP ws).set k (.ref p2)))=G5 at P5 ⊢;generalize ws.set k (p2,t.2.1,p1,(t.2.2.2.1*(1+v2%9)),(t.2.2.2.2*(1+v2%9)))=w5 at P5 tA nA;exists _,rfl,rfl,_,rfl;refine ifE (λz=>absurd z (by decide)) (λ_=>?_);exists _,rfl,rfl,_,rfl;refine ifE (λz=>absurd z (by decide)) (λ_=>?_);exists _,rfl,rfl,_,rfl;refine ifE (λz=>absurd z (by decide)) (λ_=>?_);exists _,rfl,rfl,_,rfl;refine ifE (λz=>absurd z (by decide)) (λ_=>?_);exists _,rfl,rfl,_,rfl;refine ifE (λz=>absurd z (by decide)) (λ_=>?_);exact⟨_,rfl,q R _ _ P5.same P5.at' P5.all nA tA⟩
  ·skip
   exists _,rfl,rfl,_,rfl;refine ifE (λz=>absurd z (by decide)) (λ_=>?_);exists _,rfl,rfl,_,rfl;refine ifE (λz=>absurd z (by decide)) (λ_=>?_);exists _,rfl,rfl,_,rfl;refine ifE (λz=>absurd z (by decide)) (λ_=>?_);exists _,rfl,rfl,_,rfl;refine ifE (λ_=>?_) (λz=>absurd rfl z);refine⟨_,rfl,_,rfl,_,rfl,_,rfl,_,rfl,sz2,λp1 hp1=>⟨sz2,λp2 hp2=>?_⟩⟩;have sp1:=zF hp1 (.tup [.int (-t.2.2.2.1),.int (-t.2.2.2.2)]);have sp2:=zF hp2 (.tup [.int t.2.1,.ref p1]);have P5:=PR.put (sp1.trans sp2) (sp2 _ _ (zD:upd _ p1 (.tup [.int (-t.2.2.2.1),.int (-t.2.2.2.2)]) p1=_)) (zD:upd _ p2 (.tup [.int t.2.1,.ref p1]) p2=_) k;exists _,rfl,_,rfl,R,_,_,k,rfl,rfl,(sp1.trans sp2) _ _ eR,ixn;have tA:wW ws (ws.set k (p2,t.2.1,p1,(-t.2.2.2.1),(-t.2.2.2.2))):=zFa λm m10 b=>by
    have z:=b t mt;exact⟨zJk z.1,zJk z.2⟩
   have nA:(ws.set k (p2,t.2.1,p1,(-t.2.2.2.1),(-t.2.2.2.2))).length<=2*ws.length+1:=by rw[List.length_set]; lia
   generalize upd (upd (upd H0 p1 (.tup [.int (-t.2.2.2.1),.int (-t.2.2.2.2)])) p2 (.tup [.int t.2.1,.ref p1])) R (.lst ((zP ws).set k (.ref p2)))=G5 at P5 ⊢;generalize ws.set k (p2,t.2.1,p1,(-t.2.2.2.1),(-t.2.2.2.2))=w5 at P5 tA nA;exists _,rfl,rfl,_,rfl;refine ifE (λz=>absurd z (by decide)) (λ_=>?_);exists _,rfl,rfl,_,rfl;refine ifE (λz=>absurd z (by decide)) (λ_=>?_);exists _,rfl,rfl,_,rfl;refine ifE (λz=>absurd z (by decide)) (λ_=>?_);exists _,rfl,rfl,_,rfl;refine ifE (λz=>absurd z (by decide)) (λ_=>?_);exact⟨_,rfl,q R _ _ P5.same P5.at' P5.all nA tA⟩
  ·skip
   exists _,rfl,rfl,_,rfl;refine ifE (λz=>absurd z (by decide)) (λ_=>?_);exists _,rfl,rfl,_,rfl;refine ifE (λz=>absurd z (by decide)) (λ_=>?_);exists _,rfl,rfl,_,rfl;refine ifE (λz=>absurd z (by decide)) (λ_=>?_);exists _,rfl,rfl,_,rfl;refine ifE (λz=>absurd z (by decide)) (λ_=>?_);exists _,rfl,rfl,_,rfl;refine ifE (λ_=>?_) (λz=>absurd rfl z);refine⟨_,rfl,_,rfl,_,rfl,_,_,rfl,rfl,_,rfl,a,_,_,_,rfl,rfl,sq,a2,_,_,rfl,rfl,gt2,_,_,rfl,rfl,sz2,λp1 hp1=>⟨sz2,λp2 hp2=>?_⟩⟩;have sp1:=zF hp1 (.tup [.int t.2.2.2.1,.int (t.2.2.2.2+1+v2%2)]);have sp2:=zF hp2 (.tup [.int t.2.1,.ref p1]);have P5:=PR.put (sp1.trans sp2) (sp2 _ _ (zD:upd _ p1 (.tup [.int t.2.2.2.1,.int (t.2.2.2.2+1+v2%2)]) p1=_)) (zD:upd _ p2 (.tup [.int t.2.1,.ref p1]) p2=_) k;exists _,rfl,_,rfl,R,_,_,k,rfl,rfl,(sp1.trans sp2) _ _ eR,ixn;have tA:wW ws (ws.set k (p2,t.2.1,p1,t.2.2.2.1,(t.2.2.2.2+1+v2%2))):=zFa λm m10 b=>by
    have z:=b t mt;exact⟨uS z.1,zVz z.2 m10 e20 e21⟩
   have nA:(ws.set k (p2,t.2.1,p1,t.2.2.2.1,(t.2.2.2.2+1+v2%2))).length<=2*ws.length+1:=by rw[List.length_set]; lia
   generalize upd (upd (upd H0 p1 (.tup [.int t.2.2.2.1,.int (t.2.2.2.2+1+v2%2)])) p2 (.tup [.int t.2.1,.ref p1])) R (.lst ((zP ws).set k (.ref p2)))=G5 at P5 ⊢;generalize ws.set k (p2,t.2.1,p1,t.2.2.2.1,(t.2.2.2.2+1+v2%2))=w5 at P5 tA nA;exists _,rfl,rfl,_,rfl;refine ifE (λz=>absurd z (by decide)) (λ_=>?_);exists _,rfl,rfl,_,rfl;refine ifE (λz=>absurd z (by decide)) (λ_=>?_);exists _,rfl,rfl,_,rfl;refine ifE (λz=>absurd z (by decide)) (λ_=>?_);exact⟨_,rfl,q R _ _ P5.same P5.at' P5.all nA tA⟩
  ·skip
   exists _,rfl,rfl,_,rfl;refine ifE (λz=>absurd z (by decide)) (λ_=>?_);exists _,rfl,rfl,_,rfl;refine ifE (λz=>absurd z (by decide)) (λ_=>?_);exists _,rfl,rfl,_,rfl;refine ifE (λz=>absurd z (by decide)) (λ_=>?_);exists _,rfl,rfl,_,rfl;refine ifE (λz=>absurd z (by decide)) (λ_=>?_);exists _,rfl,rfl,_,rfl;refine ifE (λz=>absurd z (by decide)) (λ_=>?_);exists _,rfl,rfl,_,rfl;refine ifE (λ_=>?_) (λz=>absurd rfl z);refine⟨_,rfl,_,rfl,_,rfl,R,_,rfl,SqL.of eR,by decide,λf1 ys hf1 hys hyl=>?_⟩;obtain⟨qs,rfl,mqs⟩:=zPe hys;rw[yB,yB] at hyl;have sf1:=zF hf1 (.lst (zP qs));have ef1:upd H0 f1 (.lst (zP qs)) f1=some (.lst (zP qs)):=zD;generalize upd H0 f1 (.lst (zP qs))=G1 at sf1 ef1 ⊢;exists _,rfl,rfl,_,rfl;refine ifE (λz=>absurd z (by decide)) (λ_=>?_);exists _,rfl,rfl,_,rfl;refine ifE (λz=>absurd z (by decide)) (λ_=>?_);exact⟨_,rfl,q f1 qs _ (sR.trans sf1) ef1 (λu hu=>pk0.same sf1 u (mqs u hu)) (by lia) (wW.of λu hu=>.inl (mqs u hu))⟩
  ·skip
   exists _,rfl,rfl,_,rfl;refine ifE (λz=>absurd z (by decide)) (λ_=>?_);exists _,rfl,rfl,_,rfl;refine ifE (λz=>absurd z (by decide)) (λ_=>?_);exists _,rfl,rfl,_,rfl;refine ifE (λz=>absurd z (by decide)) (λ_=>?_);exists _,rfl,rfl,_,rfl;refine ifE (λz=>absurd z (by decide)) (λ_=>?_);exists _,rfl,rfl,_,rfl;refine ifE (λz=>absurd z (by decide)) (λ_=>?_);exists _,rfl,rfl,_,rfl;refine ifE (λz=>absurd z (by decide)) (λ_=>?_);exists _,rfl,rfl,_,rfl;refine ifE (λ_=>?_) (λz=>absurd rfl z);refine⟨_,rfl,_,rfl,_,_,rfl,rfl,_,rfl,a,_,_,_,rfl,rfl,sq,a2,_,_,rfl,rfl,gt2,_,_,rfl,rfl,_,rfl,sz2,λp1 hp1=>⟨sz2,λp2 hp2=>?_⟩⟩;have sp1:=zF hp1 (.tup [.int (t.2.2.2.1+1+v2%2),.int t.2.2.2.2]);have sp2:=zF hp2 (.tup [.int t.2.1,.ref p1]);have P5:=PR.put (sp1.trans sp2) (sp2 _ _ (zD:upd _ p1 (.tup [.int (t.2.2.2.1+1+v2%2),.int t.2.2.2.2]) p1=_)) (zD:upd _ p2 (.tup [.int t.2.1,.ref p1]) p2=_) k;exists _,rfl,_,rfl,R,_,_,k,rfl,rfl,(sp1.trans sp2) _ _ eR,ixn;have tA:wW ws (ws.set k (p2,t.2.1,p1,(t.2.2.2.1+1+v2%2),t.2.2.2.2)):=zFa λm m10 b=>by
    have z:=b t mt;exact⟨zVz z.1 m10 e20 e21,uS z.2⟩
   have nA:(ws.set k (p2,t.2.1,p1,(t.2.2.2.1+1+v2%2),t.2.2.2.2)).length<=2*ws.length+1:=by rw[List.length_set]; lia
   generalize upd (upd (upd H0 p1 (.tup [.int (t.2.2.2.1+1+v2%2),.int t.2.2.2.2])) p2 (.tup [.int t.2.1,.ref p1])) R (.lst ((zP ws).set k (.ref p2)))=G5 at P5 ⊢;generalize ws.set k (p2,t.2.1,p1,(t.2.2.2.1+1+v2%2),t.2.2.2.2)=w5 at P5 tA nA;exists _,rfl,rfl,_,rfl;refine ifE (λz=>absurd z (by decide)) (λ_=>?_);exact⟨_,rfl,q R _ _ P5.same P5.at' P5.all nA tA⟩
  ·skip
   exists _,rfl,rfl,_,rfl;refine ifE (λz=>absurd z (by decide)) (λ_=>?_);exists _,rfl,rfl,_,rfl;refine ifE (λz=>absurd z (by decide)) (λ_=>?_);exists _,rfl,rfl,_,rfl;refine ifE (λz=>absurd z (by decide)) (λ_=>?_);exists _,rfl,rfl,_,rfl;refine ifE (λz=>absurd z (by decide)) (λ_=>?_);exists _,rfl,rfl,_,rfl;refine ifE (λz=>absurd z (by decide)) (λ_=>?_);exists _,rfl,rfl,_,rfl;refine ifE (λz=>absurd z (by decide)) (λ_=>?_);exists _,rfl,rfl,_,rfl;refine ifE (λz=>absurd z (by decide)) (λ_=>?_);exists _,rfl,rfl,_,rfl;refine ifE (λ_=>?_) (λz=>absurd rfl z);refine⟨_,rfl,_,rfl,_,rfl,R,_,rfl,SqL.of eR,λf1 hf1=>?_⟩;rw[cq1];have sf1:=zF hf1 (.lst (zP q1));have ef1:upd H0 f1 (.lst (zP q1)) f1=some (.lst (zP q1)):=zD;generalize upd H0 f1 (.lst (zP q1))=G1 at sf1 ef1 ⊢;refine⟨_,rfl,_,rfl,R,_,_,_,rfl,rfl,.inl (SqL.of (sf1 _ _ eR)),at',sz1,λf2 hf2=>?_⟩;have sf2:=zF hf2 (.lst [.ref t.1]);have ef2:upd G1 f2 (.lst [.ref t.1]) f2=some (.lst (zP [t])):=zD;have eT:=(pk0.same (sf1.trans sf2)) t mt;generalize upd G1 f2 (.lst [.ref t.1])=G2 at sf2 ef2 eT ⊢;have sm:=sf1.trans sf2;refine⟨f1,f2,_,_,rfl,rfl,sf2 _ _ ef1,ef2,small (by rw[yB,yB] <;> show q1.length+1<=1000; lia),λf3 hf3=>?_⟩;have sf3:=zF hf3 (.lst (zP q1++zP [t]));have ef3:upd G2 f3 (.lst (zP q1++zP [t])) f3=some (.lst (zP (q1++[t]))):=by rw[zD,vG]
   generalize upd G2 f3 (.lst (zP q1++zP [t]))=G3 at sf3 ef3 ⊢;have s3:=sm.trans sf3;refine⟨_,rfl,_,rfl,_,rfl,R,_,rfl,SqL.of (s3 _ _ eR),λf4 hf4=>?_⟩;rw[cq3];have sf4:=zF hf4 (.lst (zP q3));have ef4:upd G3 f4 (.lst (zP q3)) f4=some (.lst (zP q3)):=zD;generalize upd G3 f4 (.lst (zP q3))=G4 at sf4 ef4 ⊢;refine⟨f3,f4,_,_,rfl,rfl,sf4 _ _ ef3,ef4,small (by rw[yB,yB,List.length_append] <;> show q1.length+1+q3.length<=1000; lia),λf5 hf5=>?_⟩;have sf5:=zF hf5 (.lst (zP (q1++[t])++zP q3));have ef5:upd G4 f5 (.lst (zP (q1++[t])++zP q3)) f5=some (.lst (zP (q1++[t]++q3))):=by rw[zD,vG _ q3]
   have sA:=(s3.trans sf4).trans sf5;have okA:qG (upd G4 f5 (.lst (zP (q1++[t])++zP q3))) (q1++[t]++q3):=λu hu=>by
    rcases List.mem_append.mp hu with hu | hu
    ·rcases List.mem_append.mp hu with hu | hu
     ·exact pk0.same sA u (mq1 u hu)
     ·rw[List.mem_singleton] at hu;rw[hu];exact⟨((sf3.trans sf4).trans sf5) _ _ eT.1,((sf3.trans sf4).trans sf5) _ _ eT.2⟩
    ·exact pk0.same sA u (mq3 u hu)
   have nA:(q1++[t]++q3).length<=2*ws.length+1:=by rw[List.length_append,List.length_append,List.length_singleton]; lia
   have tA:wW ws (q1++[t]++q3):=wW.of λu hu=>by
    rcases List.mem_append.mp hu with hu | hu
    ·rcases List.mem_append.mp hu with hu | hu
     ·exact .inl (mq1 u hu)
     ·rw[List.mem_singleton] at hu;rw[hu];exact .inl mt
    ·exact .inl (mq3 u hu)
   generalize upd G4 f5 (.lst (zP (q1++[t])++zP q3))=G5 at sA okA ef5 ⊢;exact⟨_,rfl,q f5 _ _ (sR.trans sA) ef5 okA nA tA⟩
 refine⟨_,rfl,_,rfl,_,rfl,R,_,rfl,SqL.of eR,λf1 hf1=>?_⟩;rw[cq1];have sf1:=zF hf1 (.lst (zP q1));have ef1:upd H0 f1 (.lst (zP q1)) f1=some (.lst (zP q1)):=zD;generalize upd H0 f1 (.lst (zP q1))=G1 at sf1 ef1 ⊢;have sq1:=sq.same sf1;refine⟨_,rfl,a,_,_,_,rfl,rfl,sq1,a2,_,_,rfl,rfl,(by show(0:Int)<9; decide),_,_,rfl,rfl,_,rfl,a,_,_,_,rfl,rfl,sq1,a3,_,_,rfl,rfl,gt5,_,_,rfl,rfl,_,rfl,a,_,_,_,rfl,rfl,sq1,a3,_,_,rfl,rfl,sC.of (by decide) (by decide +kernel),_,_,rfl,rfl,gt4,sz2,λp1 hp1=>⟨sz2,λu hu=>⟨sz1,λf2 hf2=>?_⟩⟩⟩;have sp1:=zF hp1 (.tup [.int (v3%5-1),.int (v3/5%4)]);have su:=zF hu (.tup [.int (v2%9-1),.ref p1]);have sf2':=zF hf2 (.lst [.ref u]);have sf2:=(sp1.trans su).trans sf2';have ef2:upd (upd (upd G1 p1 (.tup [.int (v3%5-1),.int (v3/5%4)])) u (.tup [.int (v2%9-1),.ref p1])) f2 (.lst [.ref u]) f2=some (.lst (zP [(u,v2%9-1,p1,v3%5-1,v3/5%4)])):=zD;have eT : _/\_:=⟨sf2' _ _ (zD:upd _ u (.tup [.int (v2%9-1),.ref p1]) u=_),(su.trans sf2') _ _ (zD:upd _ p1 (.tup [.int (v3%5-1),.int (v3/5%4)]) p1=_)⟩;generalize upd (upd (upd G1 p1 (.tup [.int (v3%5-1),.int (v3/5%4)])) u (.tup [.int (v2%9-1),.ref p1])) f2 (.lst [.ref u])=G2 at sf2 ef2 eT ⊢;have sm:=sf1.trans sf2;refine⟨f1,f2,_,_,rfl,rfl,sf2 _ _ ef1,ef2,small (by rw[yB,yB] <;> show q1.length+1<=1000; lia),λf3 hf3=>?_⟩;have sf3:=zF hf3 (.lst (zP q1++zP [(u,v2%9-1,p1,v3%5-1,v3/5%4)]));have ef3:upd G2 f3 (.lst (zP q1++zP [(u,v2%9-1,p1,v3%5-1,v3/5%4)])) f3=some (.lst (zP (q1++[(u,v2%9-1,p1,v3%5-1,v3/5%4)]))):=by rw[zD,vG]
 generalize upd G2 f3 (.lst (zP q1++zP [(u,v2%9-1,p1,v3%5-1,v3/5%4)]))=G3 at sf3 ef3 ⊢;have s3:=sm.trans sf3;refine⟨_,rfl,_,rfl,_,rfl,R,_,rfl,SqL.of (s3 _ _ eR),λf4 hf4=>?_⟩;rw[cq3];have sf4:=zF hf4 (.lst (zP q3));have ef4:upd G3 f4 (.lst (zP q3)) f4=some (.lst (zP q3)):=zD;generalize upd G3 f4 (.lst (zP q3))=G4 at sf4 ef4 ⊢;refine⟨f3,f4,_,_,rfl,rfl,sf4 _ _ ef3,ef4,small (by rw[yB,yB,List.length_append] <;> show q1.length+1+q3.length<=1000; lia),λf5 hf5=>?_⟩;have sf5:=zF hf5 (.lst (zP (q1++[(u,v2%9-1,p1,v3%5-1,v3/5%4)])++zP q3));have ef5:upd G4 f5 (.lst (zP (q1++[(u,v2%9-1,p1,v3%5-1,v3/5%4)])++zP q3)) f5=some (.lst (zP (q1++[(u,v2%9-1,p1,v3%5-1,v3/5%4)]++q3))):=by rw[zD,vG _ q3]
 have sA:=(s3.trans sf4).trans sf5;have okA:qG (upd G4 f5 (.lst (zP (q1++[(u,v2%9-1,p1,v3%5-1,v3/5%4)])++zP q3))) (q1++[(u,v2%9-1,p1,v3%5-1,v3/5%4)]++q3):=λu hu=>by
  rcases List.mem_append.mp hu with hu | hu
  ·rcases List.mem_append.mp hu with hu | hu
   ·exact pk0.same sA u (mq1 u hu)
   ·rw[List.mem_singleton] at hu;rw[hu];exact⟨((sf3.trans sf4).trans sf5) _ _ eT.1,((sf3.trans sf4).trans sf5) _ _ eT.2⟩
  ·exact pk0.same sA u (mq3 u hu)
 have nA:(q1++[(u,v2%9-1,p1,v3%5-1,v3/5%4)]++q3).length<=2*ws.length+1:=by rw[List.length_append,List.length_append,List.length_singleton]; lia
 have tA:wW ws (q1++[(u,v2%9-1,p1,v3%5-1,v3/5%4)]++q3):=wW.of λu hu=>by
  rcases List.mem_append.mp hu with hu | hu
  ·rcases List.mem_append.mp hu with hu | hu
   ·exact .inl (mq1 u hu)
   ·rw[List.mem_singleton] at hu;rw[hu];exact .inr λm m10 b=>⟨by show(v3%5-1).natAbs<=10*m; lia,by show(v3/5%4).natAbs<=10*m; lia⟩
  ·exact .inl (mq3 u hu)
 generalize upd G4 f5 (.lst (zP (q1++[(u,v2%9-1,p1,v3%5-1,v3/5%4)])++zP q3))=G5 at sA okA ef5 ⊢;exact q f5 _ _ (sR.trans sA) ef5 okA nA tA
theorem zMj{w:Int}(h0:0<=w)(h1:w<8):w=0\/w=1\/w=2\/w=3\/w=4\/w=5\/w=6\/w=7:=by
 obtain⟨n,rfl⟩:=Int.eq_ofNat_of_zero_le h0;exact(by decide:∀ n:Nat,n<8->(n:Int)=0\/(n:Int)=1\/(n:Int)=2\/(n:Int)=3\/(n:Int)=4\/(n:Int)=5\/(n:Int)=6\/(n:Int)=7) n (Int.ofNat_lt.mp h1)
theorem zTb{x y:Int}{m:Nat}(h:x.natAbs<=m)(h2:y.natAbs<=10):(x*y).natAbs<=10*m:=by
 rw[Nat.mul_comm];exact zI x y h h2
theorem zVh{x:Int}{m:Nat}(h:x.natAbs<=m)(c:10^20<=m):(x+1).natAbs<=10*m:=by lia
theorem ten_d{x:Int}{m:Nat}(h:x.natAbs<=m)(c:10^20<=m):(x-1).natAbs<=10*m:=by lia
def zA8(K:PySem.W.Frag):Sp:=λvs H Q _=>∃(a p:Addr)(rows:List Int)(x y z:Int),vs=[.ref a,.ref p]/\SqL K H a (rows.map V.int)/\2<=rows.length/\(∀ x∈rows,0<=x/\x<1000003)/\H p=some (.tup [.int x,.int y,.int z]) /\
 ∀(r:Addr)(x' y' z':Int)(H':Hp),zZ H H'->H' r=some (.tup [.int x',.int y',.int z'])->(∀ m:Nat,10^20<=m->x.natAbs<=m->y.natAbs<=m->z.natAbs<=m->x'.natAbs<=10*m/\y'.natAbs<=10*m/\z'.natAbs<=10*m)->Q (.ref r) H'
theorem zFy(F:Fun K "_law_bent_spot" "_law_bent_spot" tE f fd)(Z:Zs mg)  : xK P w K mg base CX0 1 f fd ["_law_d", "_law_place"] (zA8 K):=by
 specialize xX
 ·obtain⟨a,p,rows,x,y,z,rfl,_⟩:=h;rfl
 obtain⟨a,p,rows,x,y,z,rfl,hS,hl,bd,hp,q⟩:=h
 refine'⟨_,(zG (wK (pv 1) (yV rfl (zR (yS 2 xX.nd) (zR (yS 3 xX.nd) (zR (yS 4 xX.nd) yI)))))
   (zG (zX 5 xX.nd ?_)
   (zG (zX 6 xX.nd ?_)
   (zH (zO (zGu zBz (xH uH (pv 6) ?_) ?_ (λ_ _=>rfl))))))),?_⟩
 nofun
 obtain⟨v0,a0,b00,b01⟩:=yQ bd (k:=0) (by decide) (by lia);obtain⟨v1,a1,b10,b11⟩:=yQ bd (k:=1) (by decide) (by lia);exists _,rfl,p,_,rfl,SqT.of hp,rfl,.int x,_,rfl,.int y,_,rfl,.int z,_,rfl,rfl;exists _,rfl,a,_,_,_,rfl,rfl,.inl hS,a1,_,_,rfl,rfl,gt5,_,_,rfl,rfl;have cb:∀ i:Int,zJg i (2+v1%5):=λi=>zQe (by lia);have c6:(2+v1%5).natAbs<=10:=by lia
 generalize 2+v1%5=by' at cb c6;refine⟨_,rfl,_,rfl,_,_,rfl,rfl,cb _,_,rfl,_,rfl,_,_,rfl,rfl,cb _,_,rfl,_,rfl,_,_,rfl,rfl,cb _,sz3,λt1 ht1=>?_⟩;have s1:=zF ht1 (.tup [.int (x*by'),.int (y*by'),.int (z*by')]);have e1:upd H t1 (.tup [.int (x*by'),.int (y*by'),.int (z*by')]) t1=some (.tup [.int (x*by'),.int (y*by'),.int (z*by')]):=zD;generalize upd H t1 (.tup [.int (x*by'),.int (y*by'),.int (z*by')])=H1 at s1 e1 ⊢;refine⟨_,rfl,_,rfl,_,rfl,_,rfl,_,rfl,_,rfl,sz3,λt2 ht2=>?_⟩;have s2:=zF ht2 (.tup [.int (-x),.int (-y),.int (-z)]);have e2:upd H1 t2 (.tup [.int (-x),.int (-y),.int (-z)]) t2=some (.tup [.int (-x),.int (-y),.int (-z)]):=zD;generalize upd H1 t2 (.tup [.int (-x),.int (-y),.int (-z)])=H2 at s2 e2 ⊢;refine⟨_,rfl,_,_,rfl,rfl,_,rfl,_,rfl,sz3,λt3 ht3=>?_⟩;have s3:=zF ht3 (.tup [.int (x+1),.int (y),.int (z)]);have e3:upd H2 t3 (.tup [.int (x+1),.int (y),.int (z)]) t3=some (.tup [.int (x+1),.int (y),.int (z)]):=zD;generalize upd H2 t3 (.tup [.int (x+1),.int (y),.int (z)])=H3 at s3 e3 ⊢;refine⟨_,rfl,_,rfl,_,_,rfl,rfl,_,rfl,sz3,λt4 ht4=>?_⟩;have s4:=zF ht4 (.tup [.int (x),.int (y-1),.int (z)]);have e4:upd H3 t4 (.tup [.int (x),.int (y-1),.int (z)]) t4=some (.tup [.int (x),.int (y-1),.int (z)]):=zD;generalize upd H3 t4 (.tup [.int (x),.int (y-1),.int (z)])=H4 at s4 e4 ⊢;refine⟨_,rfl,_,rfl,_,rfl,_,_,rfl,rfl,sz3,λt5 ht5=>?_⟩;have s5:=zF ht5 (.tup [.int (x),.int (y),.int (z+1)]);have e5:upd H4 t5 (.tup [.int (x),.int (y),.int (z+1)]) t5=some (.tup [.int (x),.int (y),.int (z+1)]):=zD;generalize upd H4 t5 (.tup [.int (x),.int (y),.int (z+1)])=H5 at s5 e5 ⊢;refine⟨_,rfl,_,rfl,sz3,λt6 ht6=>?_⟩;have s6:=zF ht6 (.tup [.int (x),.int (y),.int (0)]);have e6:upd H5 t6 (.tup [.int (x),.int (y),.int (0)]) t6=some (.tup [.int (x),.int (y),.int (0)]):=zD;generalize upd H5 t6 (.tup [.int (x),.int (y),.int (0)])=H6 at s6 e6 ⊢;refine⟨by show 6<=sizeLine; decide,λm hm=>?_⟩;have sm:=zF hm (.lst [.ref t1,.ref t2,.ref t3,.ref t4,.ref t5,.ref t6]);have em:upd H6 m (.lst [.ref t1,.ref t2,.ref t3,.ref t4,.ref t5,.ref t6]) m=some (.lst [.ref t1,.ref t2,.ref t3,.ref t4,.ref t5,.ref t6]):=zD;generalize upd H6 m (.lst [.ref t1,.ref t2,.ref t3,.ref t4,.ref t5,.ref t6])=HM at sm em ⊢;exists _,rfl;refine⟨_,_,rfl,rfl,⟨by decide,by decide,by decide⟩,_,rfl,_,rfl,sz3,λt7 ht7=>?_⟩;have s7:=zF ht7 (.tup [.int (10^(20:Int).toNat),.int (y),.int (z)]);have e7:upd HM t7 (.tup [.int (10^(20:Int).toNat),.int (y),.int (z)]) t7=some (.tup [.int (10^(20:Int).toNat),.int (y),.int (z)]):=zD;generalize upd HM t7 (.tup [.int (10^(20:Int).toNat),.int (y),.int (z)])=H7 at s7 e7 ⊢;refine⟨_,rfl,_,rfl,_,rfl,sz3,λt8 ht8=>?_⟩;have s8:=zF ht8 (.tup [.int (y),.int (x),.int (z)]);have e8:upd H7 t8 (.tup [.int (y),.int (x),.int (z)]) t8=some (.tup [.int (y),.int (x),.int (z)]):=zD;generalize upd H7 t8 (.tup [.int (y),.int (x),.int (z)])=H8 at s8 e8 ⊢;refine⟨by show 2<=sizeLine; decide,λm2 hm2=>?_⟩
 have sm2:=zF hm2 (.lst [.ref t7,.ref t8]);refine⟨m,m2,_,_,rfl,rfl,sm2 _ _ (s8 _ _ (s7 _ _ em)),zD,by show 8<=sizeLine; decide,λm3 hm3=>?_⟩;have sm3:=zF hm3 (.lst ([.ref t1,.ref t2,.ref t3,.ref t4,.ref t5,.ref t6]++[.ref t7,.ref t8]));have em3:upd (upd H8 m2 (.lst [.ref t7,.ref t8])) m3 (.lst ([.ref t1,.ref t2,.ref t3,.ref t4,.ref t5,.ref t6]++[.ref t7,.ref t8])) m3=some (.lst ([.ref t1,.ref t2,.ref t3,.ref t4,.ref t5,.ref t6]++[.ref t7,.ref t8])):=zD;have s89:=sm2.trans sm3;generalize upd (upd H8 m2 (.lst [.ref t7,.ref t8])) m3 (.lst ([.ref t1,.ref t2,.ref t3,.ref t4,.ref t5,.ref t6]++[.ref t7,.ref t8]))=H9 at s89 em3 ⊢;have k7:=s8.trans s89;have km:=s7.trans k7;have k6:=sm.trans km;have k5:=s6.trans k6;have k4:=s5.trans k5;have k3:=s4.trans k4;have k2:=s3.trans k3;have k1:=s2.trans k2;have k0:=s1.trans k1;clear sm2 sm3 s1 s2 s3 s4 s5 s6 s7 s8 sm em;exists _,rfl,a,_,_,_,rfl,rfl,.inl (k0.seq hS),a0,_,_,rfl,rfl,(by show(0:Int)<8; decide);obtain⟨r,x',y',z',g1,g2,g3⟩:∃(r:Addr)(x' y' z':Int),atI ([.ref t1,.ref t2,.ref t3,.ref t4,.ref t5,.ref t6]++[.ref t7,.ref t8]) (v0%8)=some (V.ref r)/\H9 r=some (.tup [.int x',.int y',.int z'])/\∀ m:Nat,10^20<=m->x.natAbs<=m->y.natAbs<=m->z.natAbs<=m->x'.natAbs<=10*m/\y'.natAbs<=10*m/\z'.natAbs<=10*m:=by
  have c0:=Int.emod_nonneg v0 (show(8:Int)≠0 by decide);have c1:=Int.emod_lt_of_pos v0 (show(0:Int)<8 by decide);have cc:=zMj c0 c1;rcases cc with e | e | e | e | e | e | e | e <;> rw[e]
  ·exact⟨t1,_,_,_,rfl,k1 _ _ e1,λm _ b1 b2 b3=>⟨zTb b1 c6,zTb b2 c6,zTb b3 c6⟩⟩
  ·exact⟨t2,_,_,_,rfl,k2 _ _ e2,λm _ b1 b2 b3=>⟨zJk b1,zJk b2,zJk b3⟩⟩
  ·exact⟨t3,_,_,_,rfl,k3 _ _ e3,λm c b1 b2 b3=>⟨zVh b1 c,uS b2,uS b3⟩⟩
  ·exact⟨t4,_,_,_,rfl,k4 _ _ e4,λm c b1 b2 b3=>⟨uS b1,ten_d b2 c,uS b3⟩⟩
  ·exact⟨t5,_,_,_,rfl,k5 _ _ e5,λm c b1 b2 b3=>⟨uS b1,uS b2,zVh b3 c⟩⟩
  ·exact⟨t6,_,_,_,rfl,k6 _ _ e6,λm c b1 b2 b3=>⟨uS b1,uS b2,Nat.zero_le _⟩⟩
  ·exact⟨t7,_,_,_,rfl,k7 _ _ e7,λm c b1 b2 b3=>⟨uS (Nat.le_trans (by decide) c),uS b2,uS b3⟩⟩
  ·exact⟨t8,_,_,_,rfl,s89 _ _ e8,λm c b1 b2 b3=>⟨uS b2,uS b1,uS b3⟩⟩
 exact⟨m3,_,_,_,rfl,rfl,.inl (SqL.of em3),g1,q r x' y' z' H9 k0 g2 g3⟩
def zF6(_:PySem.W.Frag):Sp:=λvs H Q _=>∃(n:Int),vs=[.int n]/\∀ v:Int,0<=v->v<1000003->Q (.int v) H
theorem zLr(F:Fun K "_law_power" "_law_power" zCg f fd)(Z:Zs mg):xK P w K mg base CX0 1 f fd ["_law_number"] (zF6 K):=by
 specialize zMl
 ·obtain⟨n,rfl,_⟩:=h;rfl
 obtain⟨n,rfl,q⟩:=h
 refine'⟨_,(zH (zO ?_)),?_⟩
 nofun
 have h1:=Int.emod_nonneg n (show(1000003:Int)≠0 by decide);have h2:=Int.emod_lt_of_pos n (show(0:Int)<1000003 by decide);exists _,rfl,_,_,rfl,rfl,(by show(0:Int)<1000003; decide),_,_,rfl,rfl,⟨by decide,by decide,by lia⟩,_,_,rfl,rfl,(by show(0:Int)<1000003; decide);exact q _ (Int.emod_nonneg _ (by decide)) (Int.emod_lt_of_pos _ (by decide))
def zGi(K:PySem.W.Frag):Sp:=λvs H Q _=>∃(a:Addr)(ns:List Int)(many:Int),vs=[.ref a,.int many]/\SqL K H a (ns.map V.int)/\ns.length<=63/\0<=many/\many<=500 /\
 ∀(r:Addr)(rows:List Int)(H':Hp),zZ H H'->H r=none->H' r=some (.lst (rows.map V.int))->many<=rows.length->rows.length<=600->(∀ x∈rows,0<=x/\x<1000003)->Q (.ref r) H'
structure zEk(H:Hp)(r c:Addr)(ms:List Int)(H':Hp)(rows:List Int):Prop where
 same:zZ H H'
 src:H' c=some (.lst (ms.map V.int))
 at':H' r=some (.lst (rows.map V.int))
 bd:∀ x∈rows,0<=x/\x<1000003
theorem zEk.app{H H':Hp}{r c:Addr}{ms rows:List Int}{v:Int}(d:zEk H r c ms H' rows)(hr:H r=none)(hrc:c≠r)(h0:0<=v)(h1:v<1000003):zEk H r c ms (upd H' r (.lst (rows.map V.int++[.int v]))) (rows++[v]):=by
 refine⟨λb o e=>?_,?_,?_,λx hx=>?_⟩
 ·rw[yA (xB e hr)];exact d.same b o e
 ·rw[yA hrc];exact d.src
 ·rw[zD,List.map_append];rfl
 ·rcases List.mem_append.mp hx with e | e
  ·exact d.bd x e
  ·rw[List.mem_singleton] at e;rw[e];exact⟨h0,h1⟩
theorem cutR{ok:Int->Hp->Prop}{G:Prop}{R:Int->Hp->Prop}(h1:(∀ m H,ok m H->R m H)->G)(h2:∀ m H,ok m H->R m H):G:=h1 h2
theorem zL4(F:Fun K "_law_draws" "_law_draws" zBq f fd)(Z:Zs mg)(yBw:Has P w K mg base "_law_power" 1 ["_law_number"] (zF6 K)):xK P w K mg base CX0 2 f fd ["_law_script", "_law_many_here"] (zGi K):=by
 specialize wL
 ·obtain⟨a,ns,many,rfl,_⟩:=h;rfl
 obtain⟨a,ns,many,rfl,hS,hl,hm0,hm1,q⟩:=h
 refine'⟨_,(zG (zX 2 wL.nd ?_)
   (zG (zX 3 wL.nd uG)
   (zG (wU PassesOwn.never rfl (zHi ?_) (yS 4 wL.nd) (zG (zX 3 wL.nd ?_)
   (zG (zX 5 wL.nd ?_)
   (zG (yC ?_ (zG (zAe (zH3 (pv 2) ?_))
   (zH (zX 5 wL.nd uG))) zS)
   (zH (zDq PassesOwn.never ?_ (zG (zAe (zH3 (pv 2) ?_))
   (zH (zX 5 wL.nd ?_)))))))))
   (zG (zDq PassesOwn.never ?_ (zG (zX 3 wL.nd ?_)
   (zH (zAe (zH3 (pv 2) ?_)))))
   (zH (zO (pv 2))))))),?_⟩
 nofun
 refine⟨sz0,λr hr0=>?_⟩;have S1:=zF hr0 (.lst []);refine⟨_,rfl,_,rfl,a,_,rfl,S1.seq hS,λc hc=>⟨c,rfl,⟨_,SqL.of zD⟩,?_⟩⟩;rw[zAf];generalize hms:((ns.drop (HT.sIx ns.length 0 none)).take (HT.sIx ns.length ns.length (some 63)-HT.sIx ns.length 0 none))=ms;have hml:ms.length<=63:=by
  rw[<- hms,List.length_take,List.length_drop];lia
 have hcr:c≠r:=λe=>by
  rw[e,zD] at hc;cases hc
 have hc0:H c=none:=S1.free hc;refine wD (K:=K) (a:=c) (xs:=ms.map V.int) (λi σ H'=>∃(rows:List Int)(mix:Int)(u v:Option V),σ=[some (.ref a),some (.int many),some (.ref r),some (.int mix),u,v]/\zEk H r c ms H' rows/\0<=mix/\mix<2147483647/\rows.length<=many.toNat+i)
  ⟨[],7,none,none,rfl,⟨S1.trans (zF hc _),zD,by rw[yA (Ne.symm hcr),zD]; rfl,λx hx=>nomatch hx⟩,by decide,by decide,Nat.zero_le _⟩ (λi σ H' _ ⟨_,_,_,_,_,d,_⟩=>SqL.of d.src) ?_ ?_
 ·rintro i x σ H' hi ⟨rows,mix,u,v,rfl,d,hx0,hx1,hrl⟩;obtain⟨n,hn,rfl⟩:=xW hi;have hi63:i<63:=Nat.lt_of_lt_of_le (List.getElem?_eq_some_iff.mp hn).1 hml;exists _,rfl,_,_,rfl,rfl,.inr ⟨by decide,by decide⟩,_,rfl,_,_,rfl,rfl,_,_,rfl,rfl,(by show(0:Int)<2147483647; decide);have m0:=Int.emod_nonneg (mix*48271+n) (show(2147483647:Int)≠0 by decide);have m1:=Int.emod_lt_of_pos (mix*48271+n) (show(0:Int)<2147483647 by decide);exists _,rfl,n,rfl;have a0:0<=(if n<0 then -n else n):=by split <;> lia
  generalize (if n<0 then -n else n)=rest at a0 ⊢;revert H' rest;apply cutR (ok:=λrest H2=>0<=rest/\∃ rows,zEk H r c ms H2 rows/\rows.length<=many.toNat+(i+1))
  ·intro main H' d rest a0;exists _,rfl,_,_,rfl,rfl,⟨by decide,by decide,by decide⟩,_,_,rfl,rfl,_,rfl;refine ifD (λhsm=>?_) (λhsm=>?_);rotate_left
   ·exact main rest H' ⟨a0,rows,d,by lia⟩
   ·refine⟨_,rfl,.inl ⟨rfl,_,SqL.of d.at'⟩,_,rfl,_,rfl,r,_,rfl,.inl (SqL.of d.at'),_,_,rfl,rfl,.inl ⟨by decide,by decide⟩,_,_,rfl,rfl,_,rfl,λv v0 v1=>?_⟩;exists r,_,_,rfl,rfl,d.at',zV (by rw[List.length_map]; lia);exact main 0 _ ⟨Int.le_refl 0,_,d.app hr0 hcr v0 v1,by rw[List.length_append,List.length_singleton]; lia⟩
  clear hrl rows;rintro rest H' ⟨j0,rows,j1,j2⟩;refine zBr (λσ H2=>∃(rows:List Int)(rest:Int),σ=[some (.ref a),some (.int many),some (.ref r),some (.int ((mix*48271+n)%2147483647)),some (.int n),some (.int rest)]/\0<=rest/\zEk H r c ms H2 rows/\rows.length<=many.toNat+(i+1))
   (λσ _=>match σ with | [_,_,_,_,_,some (.int z)]=>z.toNat | _=>0) ⟨_,_,rfl,j0,j1,j2⟩ ?_ (zU1 (zKh (zTr zT2 zIa mo_c)) (zKh (zTr zT2 (zU0 zR5 (zOw zIa zR6)) zIa)))
  rintro σ H2 ⟨rows,rest,rfl,r0,d2,l2⟩;exists _,rfl,_,_,rfl,rfl,_,rfl;refine ifD (λhpos=>?_) (λhpos=>?_)
  ·exists _,rfl,r,_,rfl,.inl (SqL.of d2.at'),_,rfl,_,_,rfl,rfl,_,rfl;refine ifD (λhlt=>?_) (λhlt=>?_)
   ·have hlt':((rows.map V.int).length:Int)<many:=hlt;rw[List.length_map] at hlt';exists _,rfl,.inl ⟨rfl,_,SqL.of d2.at'⟩,_,rfl,_,_,rfl,rfl,(by show(0:Int)<1000003; decide),r,_,_,rfl,rfl,d2.at',zV (by rw[List.length_map]; lia);have v0:=Int.emod_nonneg rest (show(1000003:Int)≠0 by decide);have v1:=Int.emod_lt_of_pos rest (show(0:Int)<1000003 by decide);exists _,rfl,_,_,rfl,rfl,sC.of (by decide) (by decide +kernel),⟨rows++[rest%1000003],_,rfl,by lia,d2.app hr0 hcr v0 v1,by rw[List.length_append,List.length_singleton]; lia⟩;show(rest/1000003).toNat<rest.toNat;lia
   ·exact⟨rows,_,_,_,rfl,d2,m0,m1,l2⟩
  ·exact⟨rows,_,_,_,rfl,d2,m0,m1,l2⟩
 ·rintro σ H' ⟨rows,mix,u,v,rfl,d,hx0,hx1,hrl⟩;rw[List.length_map] at hrl;refine zBr (λσ H2=>∃(rows:List Int)(mix:Int),σ=[some (.ref a),some (.int many),some (.ref r),some (.int mix),u,v]/\zEk H r c ms H2 rows/\0<=mix/\mix<2147483647/\rows.length<=many.toNat+63/\H2 r=some (.lst (rows.map V.int)))
   (λσ H2=>match H2 r with | some (.lst xs)=>many.toNat-xs.length | _=>0) ⟨rows,mix,rfl,d,hx0,hx1,by lia,d.at'⟩ ?_ (zKh (zTr zT2 (zU0 zR5 (zOw zIa zR6)) zIa))
  rintro σ H2 ⟨rows,mix,rfl,d2,hx0,hx1,l2,ha2⟩;exists _,rfl,r,_,rfl,.inl (SqL.of d2.at'),_,rfl,_,_,rfl,rfl,_,rfl;refine ifD (λhlt=>?_) (λhlt=>?_)
  ·have hlt':((rows.map V.int).length:Int)<many:=hlt;rw[List.length_map] at hlt';exists _,rfl,_,_,rfl,rfl,.inr ⟨by decide,by decide⟩,_,_,rfl,rfl,_,_,rfl,rfl,(by show(0:Int)<2147483647; decide);have m0:=Int.emod_nonneg (mix*48271+11) (show(2147483647:Int)≠0 by decide);have m1:=Int.emod_lt_of_pos (mix*48271+11) (show(0:Int)<2147483647 by decide);refine⟨_,rfl,.inl ⟨rfl,_,SqL.of d2.at'⟩,_,rfl,_,rfl,λv v0 v1=>?_⟩;exists r,_,_,rfl,rfl,d2.at',zV (by rw[List.length_map]; lia),⟨rows++[v],_,rfl,d2.app hr0 hcr v0 v1,m0,m1,by rw[List.length_append,List.length_singleton]; lia,(d2.app hr0 hcr v0 v1).at'⟩;rw[ha2,zD];show many.toNat-(rows.map V.int++[V.int v]).length<many.toNat-(rows.map V.int).length;rw[List.length_append,List.length_map,List.length_singleton];lia
  ·have hlt':¬ ((rows.map V.int).length:Int)<many:=hlt;rw[List.length_map] at hlt';exact⟨_,rfl,q r rows H2 d2.same hr0 d2.at' (by lia) (by lia) d2.bd⟩
def zIt(_:PySem.W.Frag):Sp:=λvs H Q _=>∃(x y few most:Int),vs=[.int x,.int y,.int few,.int most]/\0<=few/\0<=most/\∀(v:Int),0<=v->(v<=few\/v<=most)->Q (.int v) H
theorem zOx(F:Fun K "_law_many" "_law_many" zDp f fd)(Z:Zs mg)  : xK P w K mg base CX0 1 f fd ["_law_one", "_law_two", "_law_few", "_law_most"] (zIt K):=by
 specialize zO2
 ·obtain⟨x,y,few,most,rfl,_⟩:=h;rfl
 obtain⟨x,y,few,most,rfl,h1,h2,q⟩:=h
 refine'⟨_,(zG (yC ?_ (zH (zO ?_)) zS)
   (zH (zO ?_))),?_⟩
 nofun
 have g1:(0:Int)<most+1:=by lia
 have g2:(0:Int)<few+1:=by lia
 have m1:=Int.emod_nonneg x (show most+1≠0 by lia);have m2:=Int.emod_lt_of_pos x g1;have m3:=Int.emod_nonneg x (show few+1≠0 by lia);have m4:=Int.emod_lt_of_pos x g2;exists _,rfl,_,_,rfl,rfl,(by show(0:Int)<8; decide),rfl,_,rfl;refine ifE (λ_=>?_) (λ_=>?_)
 ·exact⟨_,rfl,_,rfl,_,_,rfl,rfl,_,_,rfl,rfl,g1,q _ m1 (.inr (by lia))⟩
 ·exact⟨_,rfl,_,rfl,_,_,rfl,rfl,_,_,rfl,rfl,g2,q _ m3 (.inl (by lia))⟩
def zQk(ss:List Sd)(m:Nat):Prop:=∀ t∈ss,t.2.1.natAbs<=3*10^8/\t.2.2.1.natAbs<=3*10^8/\t.2.2.2.natAbs<=m
theorem zKk(x:Int):(if x<0 then -x else x)=(x.natAbs:Int):=by
 split <;> lia
theorem zTj{a b c:Int}(h1:a.natAbs<=3*10^8)(h2:b.natAbs<=3*10^8)(h3:c.natAbs<=3*10^12):(c-(if a<0 then -a else a)-(if b<0 then -b else b)).natAbs<=4*10^12:=by
 rw[zKk,zKk];lia
theorem zUp{c v:Int}(h3:c.natAbs<=3*10^12):((if c<0 then -c else c)+v%4).natAbs<=4*10^12:=by
 rw[zKk];lia
def zGl(K:PySem.W.Frag):Sp:=λvs H Q _=>∃(r l:Addr)(rows:List Int)(ss:List Sd),vs=[.ref r,.ref l]/\SqL K H r (rows.map V.int)/\2<=rows.length/\(∀ x∈rows,0<=x/\x<1000003)/\H l=some (.lst (zJ ss))/\vP H ss/\ss.length<=900/\zQk ss (3*10^12) /\
 ∀(l':Addr)(ss':List Sd)(H':Hp),zZ H H'->H' l'=some (.lst (zJ ss'))->ss'.length=ss.length->vP H' ss'->zQk ss' (4*10^12)->Q (.ref l') H'
theorem zMv(F:Fun K "_law_tight" "_law_tight" zB5 f fd)(Z:Zs mg)  : xK P w K mg base CX0 1 f fd ["_law_some", "_law_sides_here"] (zGl K):=by
 specialize zLv
 ·obtain⟨r,l,rows,ss,rfl,_⟩:=h;rfl
 obtain⟨r,l,rows,ss,rfl,hS,h2,bd,el,ok,hlen,bnd,q⟩:=h
 refine'⟨_,(zG (yC ?_ (zH (zO (pv 1))) zS)
   (zG (yC ?_ (zH (zO (xJ (T:=["_law_a", "_law_b", "_law_c"]) (caps:=[]) ⟨rfl,by decide +kernel,by decide +kernel,rfl,True.intro⟩ rfl (xC (pv 1)) (λ_=>(yV rfl (zR (yS 0 (show(["_law_a", "_law_b", "_law_c"]:List Str).Nodup by decide +kernel)) (zR (yS 1 (show(["_law_a", "_law_b", "_law_c"]:List Str).Nodup by decide +kernel)) (zR (yS 2 (show(["_law_a", "_law_b", "_law_c"]:List Str).Nodup by decide +kernel)) yI))))) (λ_=>yF) (λ_=>?_)))) zS)
   (zH (zO (xJ (T:=["_law_a", "_law_b", "_law_c"]) (caps:=[("_law_some", 0)]) ⟨rfl,by decide +kernel,by decide +kernel,rfl,⟨⟨rfl,rfl,Or.inl rfl⟩,True.intro⟩⟩ rfl (xC (pv 1)) (λ_=>(yV rfl (zR (yS 0 (show(["_law_a", "_law_b", "_law_c", "_law_some"]:List Str).Nodup by decide +kernel)) (zR (yS 1 (show(["_law_a", "_law_b", "_law_c", "_law_some"]:List Str).Nodup by decide +kernel)) (zR (yS 2 (show(["_law_a", "_law_b", "_law_c", "_law_some"]:List Str).Nodup by decide +kernel)) yI))))) (λ_=>yF) (λ_=>?_)))))),?_⟩
 nofun
 obtain⟨v0,a0,_⟩:=yQ bd (k:=0) (by decide) (by lia);obtain⟨v1,a1,w0,w1⟩:=yQ bd (k:=1) (by decide) (by lia);exists _,rfl,r,_,_,_,rfl,rfl,.inl hS,a0,_,_,rfl,rfl,gt3,rfl,_,rfl;refine ifE (λ_=>?_) (λ_=>?_)
 ·exact⟨_,rfl,q l ss H (zZ.refl _) el rfl ok λt ht=>⟨(bnd t ht).1,(bnd t ht).2.1,Nat.le_trans (bnd t ht).2.2 (by decide)⟩⟩
 exists _,rfl,r,_,_,_,rfl,rfl,.inl hS,a0,_,_,rfl,rfl,gt3,rfl,_,rfl;refine ifE (λ_=>?_) (λ_=>?_)
 ·show _;refine⟨_,rfl,l,rfl,.inl ⟨⟨_,SqL.of el⟩,λcc D hD=>yM (K:=K) (a:=l) (xs:=zJ ss) (λi σ ys G=>∃ sa:List Sd,ys=zJ sa/\sa.length=i/\zJh H D sa G/\zQk sa (4*10^12)/\∃ u0 u1 u2:Option V,σ=[u0,u1,u2])
   ⟨[],rfl,rfl,⟨zF hD _,hD,zD,(λt ht=>nomatch ht)⟩,(λt ht=>nomatch ht),none,none,none,rfl⟩ (λi σ ys G _ ⟨sa,e1,_,Pq,_⟩=>⟨SqL.of (Pq.same _ _ el),by rw[e1]; exact Pq.at'⟩) ?_ ?_⟩⟩
  ·rintro i x σ ys Gc hi ⟨sa,rfl,na,Pc,bc,u0,u1,u2,rfl⟩;obtain⟨t,gt,rfl,hil⟩:=xZ hi;obtain⟨et,nt,_⟩:=ok t (List.mem_of_getElem? gt);obtain⟨b1,b2,b3⟩:=bnd t (List.mem_of_getElem? gt);exists t.1,_,rfl,SqT.of (Pc.same _ _ et),rfl,.int t.2.1,_,rfl,.int t.2.2.1,_,rfl,.int t.2.2.2,_,rfl,rfl;have nb:(t.2.2.2-(if t.2.1<0 then -t.2.1 else t.2.1)-(if t.2.2.1<0 then -t.2.2.1 else t.2.2.1)).natAbs<=4*10^12:=zTj b1 b2 b3;refine⟨_,rfl,_,rfl,_,rfl,_,rfl,_,rfl,_,_,rfl,rfl,_,rfl,_,rfl,_,_,rfl,rfl,sz3,λp hp=>?_⟩;have sp:=zF hp (.tup [.int t.2.1,.int t.2.2.1,.int (t.2.2.2-(if t.2.1<0 then -t.2.1 else t.2.1)-(if t.2.2.1<0 then -t.2.2.1 else t.2.2.1))]);refine⟨sp _ _ Pc.at',zV (by rw[zK]; lia),sa++[(p,t.2.1,t.2.2.1,(t.2.2.2-(if t.2.1<0 then -t.2.1 else t.2.1)-(if t.2.2.1<0 then -t.2.2.1 else t.2.2.1)))],by simp[zJ],by rw[List.length_append,na]; rfl,Pc.app sp hp zD nt (Nat.le_trans b1 (by decide)) (Nat.le_trans b2 (by decide)) (Nat.le_trans nb (by decide)),λu hu=>(List.mem_append.mp hu).elim (bc u) λh=>by rw[List.mem_singleton] at h; subst h; exact⟨b1,b2,nb⟩,_,_,_,rfl⟩
  ·rintro σ ys Gc ⟨sa,rfl,na,Pc,bc,u0,u1,u2,rfl⟩;rw[zK] at na;exact q D sa Gc Pc.same Pc.at' na Pc.all bc
 ·show _;refine⟨_,rfl,l,rfl,.inl ⟨⟨_,SqL.of el⟩,λcc D hD=>yM (K:=K) (a:=l) (xs:=zJ ss) (λi σ ys G=>∃ sa:List Sd,ys=zJ sa/\sa.length=i/\zJh H D sa G/\zQk sa (4*10^12)/\∃ u0 u1 u2:Option V,σ=[u0,u1,u2,some (.ref r)])
   ⟨[],rfl,rfl,⟨zF hD _,hD,zD,(λt ht=>nomatch ht)⟩,(λt ht=>nomatch ht),none,none,none,rfl⟩ (λi σ ys G _ ⟨sa,e1,_,Pq,_⟩=>⟨SqL.of (Pq.same _ _ el),by rw[e1]; exact Pq.at'⟩) ?_ ?_⟩⟩
  ·rintro i x σ ys Gc hi ⟨sa,rfl,na,Pc,bc,u0,u1,u2,rfl⟩;obtain⟨t,gt,rfl,hil⟩:=xZ hi;obtain⟨et,nt,_⟩:=ok t (List.mem_of_getElem? gt);obtain⟨b1,b2,b3⟩:=bnd t (List.mem_of_getElem? gt);exists t.1,_,rfl,SqT.of (Pc.same _ _ et),rfl,.int t.2.1,_,rfl,.int t.2.2.1,_,rfl,.int t.2.2.2,_,rfl,rfl;have nb:((if t.2.2.2<0 then -t.2.2.2 else t.2.2.2)+v1%4).natAbs<=4*10^12:=zUp b3;refine⟨_,rfl,_,rfl,_,rfl,_,rfl,_,rfl,r,_,_,_,rfl,rfl,.inl (Pc.same.seq hS),a1,_,_,rfl,rfl,gt4,_,_,rfl,rfl,sz3,λp hp=>?_⟩;have sp:=zF hp (.tup [.int t.2.1,.int t.2.2.1,.int ((if t.2.2.2<0 then -t.2.2.2 else t.2.2.2)+v1%4)]);refine⟨sp _ _ Pc.at',zV (by rw[zK]; lia),sa++[(p,t.2.1,t.2.2.1,((if t.2.2.2<0 then -t.2.2.2 else t.2.2.2)+v1%4))],by simp[zJ],by rw[List.length_append,na]; rfl,Pc.app sp hp zD nt (Nat.le_trans b1 (by decide)) (Nat.le_trans b2 (by decide)) (Nat.le_trans nb (by decide)),λu hu=>(List.mem_append.mp hu).elim (bc u) λh=>by rw[List.mem_singleton] at h; subst h; exact⟨b1,b2,nb⟩,_,_,_,rfl⟩
  ·rintro σ ys Gc ⟨sa,rfl,na,Pc,bc,u0,u1,u2,rfl⟩;rw[zK] at na;exact q D sa Gc Pc.same Pc.at' na Pc.all bc
def zDy(_:PySem.W.Frag):Sp:=λvs H Q _=>∃(o t wd:Int),vs=[.int o,.int t,.int wd]/\1<=wd/\wd<=1000000 /\
 ∀(p:Addr)(x y:Int)(H':Hp),zZ H H'->H p=none->H' p=some (.tup [.int x,.int y])->(x≠0\/y≠0)->x.natAbs<=wd.natAbs->y.natAbs<=wd.natAbs->Q (.ref p) H'
theorem zRx(F:Fun K "_law_way" "_law_way" zG6 f fd)(Z:Zs mg)  : xK P w K mg base CX0 1 f fd ["_law_one", "_law_two", "_law_wide"] (zDy K):=by
 specialize zD5
 ·obtain⟨o,t,wd,rfl,_⟩:=h;rfl
 obtain⟨o,t,wd,rfl,w1,w2,q⟩:=h
 refine'⟨_,(zG (zX 3 zD5.nd ?_)
   (zG (zX 4 zD5.nd ?_)
   (zG (yC ?_ (zH (zX 3 zD5.nd ?_)) zS)
   (zH (zO ?_))))),?_⟩
 nofun
 have x0:=Int.emod_nonneg o (show 2*wd+1≠0 by lia);have x1:=Int.emod_lt_of_pos o (show 0<2*wd+1 by lia);have y0:=Int.emod_nonneg t (show 2*wd+1≠0 by lia);have y1:=Int.emod_lt_of_pos t (show 0<2*wd+1 by lia);exists _,rfl,_,rfl,_,_,rfl,rfl,.inl ⟨by decide,by decide⟩,_,_,rfl,rfl,_,_,rfl,rfl,(by show 0<2*wd+1; lia),_,rfl,_,_,rfl,rfl;exists _,rfl,_,rfl,_,_,rfl,rfl,.inl ⟨by decide,by decide⟩,_,_,rfl,rfl,_,_,rfl,rfl,(by show 0<2*wd+1; lia),_,rfl,_,_,rfl,rfl;exists _,rfl,rfl,_,rfl;refine ifE (λhx=>?_) (λhx=>?_)
 ·exists _,rfl,rfl,_,rfl;refine ifE (λhy=>?_) (λhy=>?_)
  ·exists _,rfl,_,_,rfl,rfl,gt2,_,_,rfl,rfl,.inl ⟨by decide,by decide⟩,_,_,rfl,rfl;refine⟨_,rfl,_,rfl,sz2,λp hp=>?_⟩;exact q p _ _ _ (zF hp _) hp zD (by left; lia) (by lia) (by lia)
  ·refine⟨_,rfl,_,rfl,sz2,λp hp=>?_⟩;exact q p _ _ _ (zF hp _) hp zD (.inr hy) (by lia) (by lia)
 ·refine vS ?_;refine⟨_,rfl,_,rfl,sz2,λp hp=>?_⟩;exact q p _ _ _ (zF hp _) hp zD (.inl hx) (by lia) (by lia)
theorem zD0{x y C v0 v1 v3:Int}(hn:x≠0\/y≠0)(mx:x.natAbs<=2000)(my:y.natAbs<=2000)(mc:C.natAbs<=1000000):(997*x+v0%5-2≠0\/997*y+v1%5-2≠0)/\(997*x+v0%5-2).natAbs<=10^7/\(997*y+v1%5-2).natAbs<=10^7/\(997*C+v3%900).natAbs<=10^10 :=
 ⟨by clear mx my mc; lia,by clear my mc hn; lia,by clear mx mc hn; lia,by clear mx my hn; lia⟩
def zIu(K:PySem.W.Frag):Sp:=λvs H Q _=>∃(a:Addr)(rows:List Int),vs=[.ref a]/\SqL K H a (rows.map V.int)/\5<=rows.length/\(∀ x∈rows,0<=x/\x<1000003) /\
 ∀(p:Addr)(A B C:Int)(H':Hp),zZ H H'->H p=none->H' p=some (.tup [.int A,.int B,.int C])->(A≠0\/B≠0)->A.natAbs<=10^7->B.natAbs<=10^7->C.natAbs<=10^10->Q (.ref p) H'
theorem zN9(F:Fun K "_law_side" "_law_side" zD1 f fd)(Z:Zs mg)(yCz:Has P w K mg base "_law_way" 1 ["_law_one", "_law_two", "_law_wide"] (zDy K)):xK P w K mg base CX0 2 f fd ["_law_d"] (zIu K):=by
 specialize rJ
 ·obtain⟨a,rows,rfl,_⟩:=h;rfl
 obtain⟨a,rows,rfl,hS,hl,bd,q⟩:=h
 refine'⟨_,(zG (wK ?_ (yV rfl (zR (yS 1 rJ.nd) (zR (yS 2 rJ.nd) yI))))
   (zG (zX 3 rJ.nd ?_)
   (zG (yC ?_ (zH (zX 3 rJ.nd ?_)) zS)
   (zG (yC ?_ (zH (zX 3 rJ.nd ?_)) zS)
   (zG (yC ?_ (zH (zO ?_)) zS)
   (zH (zO ?_))))))),?_⟩
 nofun
 obtain⟨v0,a0,b00,b01⟩:=yQ bd (k:=0) (by decide) (by lia);obtain⟨v1,a1,b10,b11⟩:=yQ bd (k:=1) (by decide) (by lia);obtain⟨v2,a2,b20,b21⟩:=yQ bd (k:=2) (by decide) (by lia);obtain⟨v3,a3,b30,b31⟩:=yQ bd (k:=3) (by decide) (by lia);obtain⟨v4,a4,b40,b41⟩:=yQ bd (k:=4) (by decide) (by lia);refine⟨_,rfl,a,_,_,_,rfl,rfl,.inl hS,a0,_,rfl,a,_,_,_,rfl,rfl,.inl hS,a1,(by show 5<=sizeLine; decide),λc hc=>?_⟩;have s1:=zF hc (.lst [.int 3,.int 3,.int 3,.int 100,.int 2000]);obtain⟨wd,hw,hw1,hw2⟩:∃ b:Int,atI [V.int 3,V.int 3,V.int 3,V.int 100,V.int 2000] (v4%5)=some (.int b)/\1<=b/\b<=2000:=by
  have c0:=Int.emod_nonneg v4 (show(5:Int)≠0 by decide);have c1:=Int.emod_lt_of_pos v4 (show(0:Int)<5 by decide);have cc:v4%5=0\/v4%5=1\/v4%5=2\/v4%5=3\/v4%5=4:=by lia
  rcases cc with e | e | e | e | e
  ·exact⟨3,by rw[e]; rfl,by decide,by decide⟩
  ·exact⟨3,by rw[e]; rfl,by decide,by decide⟩
  ·exact⟨3,by rw[e]; rfl,by decide,by decide⟩
  ·exact⟨100,by rw[e]; rfl,by decide,by decide⟩
  ·exact⟨2000,by rw[e]; rfl,by decide,by decide⟩
 refine⟨_,rfl,a,_,_,_,rfl,rfl,.inl (s1.seq hS),a4,_,_,rfl,rfl,gt5,c,_,_,.int wd,rfl,rfl,.inl (SqL.of zD),hw,v0,v1,wd,rfl,hw1,by lia,λp x y H2 s2' hp e2 hn n1 n2=>?_⟩;have s2:=s1.trans s2';have mx:x.natAbs<=2000:=by lia
 have my:y.natAbs<=2000:=by lia
 exists p,[.int x,.int y],rfl,SqT.of e2,rfl,.int x,[.int y],rfl,.int y,[],rfl,rfl;exists _,rfl,a,_,_,_,rfl,rfl,.inl (s2.seq hS),a2,_,_,rfl,rfl,(by show(0:Int)<19; decide),_,_,rfl,rfl;exists _,rfl,a,_,_,_,rfl,rfl,.inl (s2.seq hS),a3,_,_,rfl,rfl,gt4,rfl,_,rfl;refine ifE (λ_=>?_) (λ_=>?_)
 ·exists _,rfl,a,_,_,_,rfl,rfl,.inl (s2.seq hS),a2,_,_,rfl,rfl,(by show(0:Int)<1000001; decide),_,_,rfl,rfl;exists _,rfl,a,_,_,_,rfl,rfl,.inl (s2.seq hS),a3,_,_,rfl,rfl,gt4,rfl,_,rfl;refine ifE (λ_=>?_) (λ_=>?_)
  ·refine⟨_,rfl,_,rfl,a,_,_,_,rfl,rfl,.inl (s2.seq hS),a2,_,_,rfl,rfl,(by show(0:Int)<9; decide),_,_,rfl,rfl,_,_,rfl,rfl,zA9 (by lia),
    _,rfl,_,rfl,a,_,_,_,rfl,rfl,.inl (s2.seq hS),a2,_,_,rfl,rfl,sC.of (by decide) (by decide +kernel),_,_,rfl,rfl,(by show(0:Int)<9; decide),_,_,rfl,rfl,_,_,rfl,rfl,zA9 (by lia),_,_,rfl,rfl,?_⟩
   have z1:=zI x (v2%9-4) (m:=2000) (n:=4) mx (by lia);have z2:=zI y (v2/9%9-4) (m:=2000) (n:=4) my (by lia);have mc:((x*(v2%9-4)+y*(v2/9%9-4))).natAbs<=1000000:=by lia
   exists _,rfl,a,_,_,_,rfl,rfl,.inl (s2.seq hS),a4,_,_,rfl,rfl,sC.of (by decide) (by decide +kernel),_,_,rfl,rfl,(by show(0:Int)<12; decide),rfl,_,rfl;refine ifE (λ_=>?_) (λ_=>?_)
   ·refine⟨_,rfl,_,_,rfl,rfl,.inl ⟨by decide,by decide⟩,_,rfl,a,_,_,_,rfl,rfl,.inl (s2.seq hS),a0,_,_,rfl,rfl,gt5,_,_,rfl,rfl,_,_,rfl,rfl,
     _,rfl,_,_,rfl,rfl,.inl ⟨by decide,by decide⟩,_,rfl,a,_,_,_,rfl,rfl,.inl (s2.seq hS),a1,_,_,rfl,rfl,gt5,_,_,rfl,rfl,_,_,rfl,rfl,
     _,rfl,_,_,rfl,rfl,.inl ⟨by decide,by decide⟩,_,rfl,a,_,_,_,rfl,rfl,.inl (s2.seq hS),a3,_,_,rfl,rfl,(by show(0:Int)<900; decide),_,_,rfl,rfl,sz3,λr hr0=>?_⟩
    have sb:=zD0 (v0:=v0) (v1:=v1) (v3:=v3) hn mx my mc;exact q r _ _ _ _ (s2.trans (zF hr0 _)) (s2.free hr0) zD sb.1 sb.2.1 sb.2.2.1 sb.2.2.2
   ·refine⟨_,rfl,_,rfl,_,rfl,sz3,λr hr0=>?_⟩;exact q r _ _ _ _ (s2.trans (zF hr0 _)) (s2.free hr0) zD hn (Nat.le_trans mx (by decide)) (Nat.le_trans my (by decide)) (Nat.le_trans mc (by decide))
  ·skip
   have mc:((v2%1000001-300000)).natAbs<=1000000:=by lia
   exists _,rfl,a,_,_,_,rfl,rfl,.inl (s2.seq hS),a4,_,_,rfl,rfl,sC.of (by decide) (by decide +kernel),_,_,rfl,rfl,(by show(0:Int)<12; decide),rfl,_,rfl;refine ifE (λ_=>?_) (λ_=>?_)
   ·refine⟨_,rfl,_,_,rfl,rfl,.inl ⟨by decide,by decide⟩,_,rfl,a,_,_,_,rfl,rfl,.inl (s2.seq hS),a0,_,_,rfl,rfl,gt5,_,_,rfl,rfl,_,_,rfl,rfl,
     _,rfl,_,_,rfl,rfl,.inl ⟨by decide,by decide⟩,_,rfl,a,_,_,_,rfl,rfl,.inl (s2.seq hS),a1,_,_,rfl,rfl,gt5,_,_,rfl,rfl,_,_,rfl,rfl,
     _,rfl,_,_,rfl,rfl,.inl ⟨by decide,by decide⟩,_,rfl,a,_,_,_,rfl,rfl,.inl (s2.seq hS),a3,_,_,rfl,rfl,(by show(0:Int)<900; decide),_,_,rfl,rfl,sz3,λr hr0=>?_⟩
    have sb:=zD0 (v0:=v0) (v1:=v1) (v3:=v3) hn mx my mc;exact q r _ _ _ _ (s2.trans (zF hr0 _)) (s2.free hr0) zD sb.1 sb.2.1 sb.2.2.1 sb.2.2.2
   ·refine⟨_,rfl,_,rfl,_,rfl,sz3,λr hr0=>?_⟩;exact q r _ _ _ _ (s2.trans (zF hr0 _)) (s2.free hr0) zD hn (Nat.le_trans mx (by decide)) (Nat.le_trans my (by decide)) (Nat.le_trans mc (by decide))
 ·skip
  exists _,rfl,a,_,_,_,rfl,rfl,.inl (s2.seq hS),a3,_,_,rfl,rfl,gt4,rfl,_,rfl;refine ifE (λ_=>?_) (λ_=>?_)
  ·refine⟨_,rfl,_,rfl,a,_,_,_,rfl,rfl,.inl (s2.seq hS),a2,_,_,rfl,rfl,(by show(0:Int)<9; decide),_,_,rfl,rfl,_,_,rfl,rfl,zA9 (by lia),
    _,rfl,_,rfl,a,_,_,_,rfl,rfl,.inl (s2.seq hS),a2,_,_,rfl,rfl,sC.of (by decide) (by decide +kernel),_,_,rfl,rfl,(by show(0:Int)<9; decide),_,_,rfl,rfl,_,_,rfl,rfl,zA9 (by lia),_,_,rfl,rfl,?_⟩
   have z1:=zI x (v2%9-4) (m:=2000) (n:=4) mx (by lia);have z2:=zI y (v2/9%9-4) (m:=2000) (n:=4) my (by lia);have mc:((x*(v2%9-4)+y*(v2/9%9-4))).natAbs<=1000000:=by lia
   exists _,rfl,a,_,_,_,rfl,rfl,.inl (s2.seq hS),a4,_,_,rfl,rfl,sC.of (by decide) (by decide +kernel),_,_,rfl,rfl,(by show(0:Int)<12; decide),rfl,_,rfl;refine ifE (λ_=>?_) (λ_=>?_)
   ·refine⟨_,rfl,_,_,rfl,rfl,.inl ⟨by decide,by decide⟩,_,rfl,a,_,_,_,rfl,rfl,.inl (s2.seq hS),a0,_,_,rfl,rfl,gt5,_,_,rfl,rfl,_,_,rfl,rfl,
     _,rfl,_,_,rfl,rfl,.inl ⟨by decide,by decide⟩,_,rfl,a,_,_,_,rfl,rfl,.inl (s2.seq hS),a1,_,_,rfl,rfl,gt5,_,_,rfl,rfl,_,_,rfl,rfl,
     _,rfl,_,_,rfl,rfl,.inl ⟨by decide,by decide⟩,_,rfl,a,_,_,_,rfl,rfl,.inl (s2.seq hS),a3,_,_,rfl,rfl,(by show(0:Int)<900; decide),_,_,rfl,rfl,sz3,λr hr0=>?_⟩
    have sb:=zD0 (v0:=v0) (v1:=v1) (v3:=v3) hn mx my mc;exact q r _ _ _ _ (s2.trans (zF hr0 _)) (s2.free hr0) zD sb.1 sb.2.1 sb.2.2.1 sb.2.2.2
   ·refine⟨_,rfl,_,rfl,_,rfl,sz3,λr hr0=>?_⟩;exact q r _ _ _ _ (s2.trans (zF hr0 _)) (s2.free hr0) zD hn (Nat.le_trans mx (by decide)) (Nat.le_trans my (by decide)) (Nat.le_trans mc (by decide))
  ·skip
   have mc:((v2%19-4)).natAbs<=1000000:=by lia
   exists _,rfl,a,_,_,_,rfl,rfl,.inl (s2.seq hS),a4,_,_,rfl,rfl,sC.of (by decide) (by decide +kernel),_,_,rfl,rfl,(by show(0:Int)<12; decide),rfl,_,rfl;refine ifE (λ_=>?_) (λ_=>?_)
   ·refine⟨_,rfl,_,_,rfl,rfl,.inl ⟨by decide,by decide⟩,_,rfl,a,_,_,_,rfl,rfl,.inl (s2.seq hS),a0,_,_,rfl,rfl,gt5,_,_,rfl,rfl,_,_,rfl,rfl,
     _,rfl,_,_,rfl,rfl,.inl ⟨by decide,by decide⟩,_,rfl,a,_,_,_,rfl,rfl,.inl (s2.seq hS),a1,_,_,rfl,rfl,gt5,_,_,rfl,rfl,_,_,rfl,rfl,
     _,rfl,_,_,rfl,rfl,.inl ⟨by decide,by decide⟩,_,rfl,a,_,_,_,rfl,rfl,.inl (s2.seq hS),a3,_,_,rfl,rfl,(by show(0:Int)<900; decide),_,_,rfl,rfl,sz3,λr hr0=>?_⟩
    have sb:=zD0 (v0:=v0) (v1:=v1) (v3:=v3) hn mx my mc;exact q r _ _ _ _ (s2.trans (zF hr0 _)) (s2.free hr0) zD sb.1 sb.2.1 sb.2.2.1 sb.2.2.2
   ·refine⟨_,rfl,_,rfl,_,rfl,sz3,λr hr0=>?_⟩;exact q r _ _ _ _ (s2.trans (zF hr0 _)) (s2.free hr0) zD hn (Nat.le_trans mx (by decide)) (Nat.le_trans my (by decide)) (Nat.le_trans mc (by decide))
theorem add3{a b c:Int}{x y z:Nat}(h1:a.natAbs<=x)(h2:b.natAbs<=y)(h3:c.natAbs<=z):(a+b+c).natAbs<=x+y+z:=by lia
theorem zMz{K:PySem.W.Frag}{l D:Addr}{xs:List V}{g:TG}{te:TE}{σ0:St}{H1:Hp}{Q:VK}(Pv:Nat->St->List V->Hp->Prop)(h0:Pv 0 σ0 [] (upd H1 D (.lst [])))(hl:∀ i σ zs H,Pv i σ zs H->SqL K H l xs/\H D=some (.lst zs))
  (hs:∀ i x T σ zs H,xs[i]?=some x->H T=none->Pv i σ zs H->g (.ref T) σ (upd H T (.tup [.int i,x])) λσ2 H2=>te σ2 H2 λz H4=>H4 D=some (.lst zs)/\zs.length<sizeLine/\Pv (i+1) σ2 (zs++[z]) (upd H4 D (.lst (zs++[z]))))
  (hd:∀ σ zs H,Pv xs.length σ zs H->Q (.ref D) H):zEc (Ite K l) D g zUr te σ0 H1 Q:=zOh Pv h0 hl (λi x T σ zs H e1 e2 p=>hs i x T σ zs H e1 e2 p) hd
theorem zMr(ss:List Sd)(j:Nat)(t:Sd):(zJ ss).set j (.ref t.1)=zJ (ss.set j t):=by
 simp[zJ,List.map_set]
theorem cutS2{ok:Addr->List Sd->Hp->Prop}{G:Prop}{R:Addr->List Sd->Hp->Option V->Option V->Prop}(h1:(∀ D ss H u v,ok D ss H->R D ss H u v)->G)(h2:∀ D ss H u v,ok D ss H->R D ss H u v):G:=h1 h2
def zGp(K:PySem.W.Frag):Sp:=λvs H Q _=>∃(r:Addr)(rows:List Int)(m:Int),vs=[.ref r,.int m]/\SqL K H r (rows.map V.int)/\0<=m/\m<=60/\3<=rows.length/\3+5*m<=rows.length/\(∀ x∈rows,0<=x/\x<1000003) /\
 ∀(l:Addr)(ss:List Sd)(H':Hp),zZ H H'->H l=none->H' l=some (.lst (zJ ss))->ss.length=m.toNat->vP H' ss->(∀ t∈ss,t.2.1.natAbs<=3*10^8/\t.2.2.1.natAbs<=3*10^8/\t.2.2.2.natAbs<=3*10^12)->Q (.ref l) H'
theorem zM3(F:Fun K "_law_sides" "_law_sides" zBs f fd)(Z:Zs mg)(yCn:Has P w K mg base "_law_side" 2 ["_law_d"] (zIu K)):xK P w K mg base CX0 3 f fd ["_law_some", "_law_many_here"] (zGp K):=by
 specialize tR
 ·obtain⟨r,rows,m,rfl,_⟩:=h;rfl
 obtain⟨r,rows,m,rfl,hS,m0,m60,hl3,hl,bd,q⟩:=h
 refine'⟨_,(zG (vC (T:=["_law_k"]) (caps:=[("_law_some", 0)]) (i:=2) tR.nd rfl rfl ⟨rfl,by decide +kernel,by decide +kernel,rfl,⟨⟨rfl,rfl,Or.inl rfl⟩,True.intro⟩⟩ rfl (xV rfl Z.range (zU (pv 1) yH)) (λ_=>(yS 0 (show(["_law_k", "_law_some"]:List Str).Nodup by decide +kernel))) (λ_=>yF) (λ_=>?_))
   (zG (yC ?_ (zH (wK ?_ (zFo (pv 2) ?_ rX))) zS)
   (zG (yC ?_ (zG (wK ?_ (yV rfl (zR (yS 3 tR.nd) (zR (yS 4 tR.nd) yI))))
   (zH (vC (T:=["_law_a", "_law_b", "_law_c"]) (caps:=[("_law_x", 3),("_law_y", 4)]) (i:=2) tR.nd rfl rfl ⟨rfl,by decide +kernel,by decide +kernel,rfl,⟨⟨rfl,rfl,Or.inl rfl⟩,⟨rfl,rfl,Or.inl rfl⟩,True.intro⟩⟩ rfl (xC (pv 2)) (λ_=>(yV rfl (zR (yS 0 (show(["_law_a", "_law_b", "_law_c", "_law_x", "_law_y"]:List Str).Nodup by decide +kernel)) (zR (yS 1 (show(["_law_a", "_law_b", "_law_c", "_law_x", "_law_y"]:List Str).Nodup by decide +kernel)) (zR (yS 2 (show(["_law_a", "_law_b", "_law_c", "_law_x", "_law_y"]:List Str).Nodup by decide +kernel)) yI))))) (λ_=>yF) (λ_=>?_)))) zS)
   (zG (yC ?_ (zH (vC (T:=["_law_k", "_law_a", "_law_b", "_law_c"]) (caps:=[]) (i:=2) tR.nd rfl rfl ⟨rfl,by decide +kernel,by decide +kernel,rfl,True.intro⟩ rfl (zT7 rfl Z.enumerate (zU (pv 2) yH)) (λ_=>(yV rfl (zR (yS 0 (show(["_law_k", "_law_a", "_law_b", "_law_c"]:List Str).Nodup by decide +kernel)) (zR (yV rfl (zR (yS 1 (show(["_law_k", "_law_a", "_law_b", "_law_c"]:List Str).Nodup by decide +kernel)) (zR (yS 2 (show(["_law_k", "_law_a", "_law_b", "_law_c"]:List Str).Nodup by decide +kernel)) (zR (yS 3 (show(["_law_k", "_law_a", "_law_b", "_law_c"]:List Str).Nodup by decide +kernel)) yI)))) yI)))) (λ_=>yF) (λ_=>?_))) zS)
   (zH (zO (pv 2))))))),?_⟩
 nofun
 obtain⟨v0,a0,_⟩:=yQ bd (k:=0) (by decide) (by lia);obtain⟨v1,a1,_⟩:=yQ bd (k:=1) (by decide) (by lia);obtain⟨v2,a2,_⟩:=yQ bd (k:=2) (by decide) (by lia);have cutD:∀ k:Nat,k<=rows.length->qJ (rows.map V.int) (some (k:Int)) none=(rows.drop k).map V.int:=λk hk=>by
  rw[zAf,HT.sIx_nat rows.length 0 k,show min k rows.length=k by lia,show HT.sIx rows.length rows.length none=rows.length from rfl,List.take_of_length_le (by rw[List.length_drop]; lia)]
 apply cutS (ok:=λD ss G=>ss.length=m.toNat/\zJh H D ss G/\∀ t∈ss,t.2.1.natAbs<=10^7/\t.2.2.1.natAbs<=10^7/\t.2.2.2.natAbs<=10^10)
 ·intro main;refine⟨_,rfl,_,rfl,(by lia),(by lia),λcc D hD=>tY (lo:=0) (n:=m.toNat) (λi σ ys G=>∃ ss:List Sd,ys=zJ ss/\ss.length=i/\zJh H D ss G/\(∀ t∈ss,t.2.1.natAbs<=10^7/\t.2.2.1.natAbs<=10^7/\t.2.2.2.natAbs<=10^10)/\∃ u0:Option V,σ=[u0,some (.ref r)])
   ⟨[],rfl,rfl,⟨zF hD _,hD,zD,(λt ht=>nomatch ht)⟩,(λt ht=>nomatch ht),none,rfl⟩ (λi σ ys G _ ⟨ss,e1,_,P,_⟩=>by rw[e1]; exact P.at') ?_ ?_⟩
  ·rintro i σ ys G hi ⟨ss,rfl,hlen,Pi,bnd,u0,rfl⟩;have cm:zJg 5 (0+(i:Int)):=.inl ⟨by decide,by decide⟩;have ci:(3:Int)+5*(0+(i:Int))=((3+5*i:Nat):Int):=by lia
   have hi':3+5*i+5<=rows.length:=by lia
   refine⟨_,rfl,_,rfl,_,_,rfl,rfl,cm,_,_,rfl,rfl,_,rfl,r,_,rfl,Pi.same.seq hS,λc1 hc1=>?_⟩;rw[ci,cutD (3+5*i) (by lia)];have sc1:=zF hc1 (.lst ((rows.drop (3+5*i)).map V.int));refine⟨c1,rows.drop (3+5*i),rfl,SqL.of zD,by rw[List.length_drop]; lia,λx hx=>bd x (List.mem_of_mem_drop hx),λp a b c G2 s2 hp ep n ma mb mc=>?_⟩;refine⟨s2 _ _ (sc1 _ _ Pi.at'),zV (by rw[zK]; lia),ss++[(p,a,b,c)],by simp[zJ],by rw[List.length_append,hlen]; rfl,Pi.app (sc1.trans s2) (sc1.free hp) ep n (Nat.le_trans ma (by decide)) (Nat.le_trans mb (by decide)) (Nat.le_trans mc (by decide)),λu hu=>?_,_,rfl⟩;rcases List.mem_append.mp hu with h | h
   ·exact bnd u h
   ·rw[List.mem_singleton] at h;subst h;exact⟨ma,mb,mc⟩
  rintro σ ys G ⟨ss,rfl,hlen,P0,bnd,u0,rfl⟩;exists _,rfl,_,_,rfl,rfl,_,rfl;refine ifD (λhm1=>?_) (λ_=>?_)
  ·exists _,rfl,r,_,_,_,rfl,rfl,.inl (P0.same.seq hS),a0,_,_,rfl,rfl,gt4,rfl,_,rfl;refine ifE (λ_=>?_) (λ_=>?_)
   ·have sqr:Sq K G r (rows.map V.int):=.inl (P0.same.seq hS);have y0:=Int.emod_nonneg v2 (show m≠0 by lia);have y1:=Int.emod_lt_of_pos v2 (show 0<m by lia);have x0:=Int.emod_nonneg v1 (show m≠0 by lia);have x1:=Int.emod_lt_of_pos v1 (show 0<m by lia);obtain⟨t,mt,gt,at'⟩:=yO (ss:=ss) (i:=(v2%m).toNat) (k:=v2%m) (by lia) (by lia);have ixn:ixN (zJ ss).length (v1%m)=some (v1%m).toNat:=by
     unfold ixN;rw[if_pos x0,zK,if_pos (by lia)]
    exists _,rfl,_,rfl,r,_,_,_,rfl,rfl,sqr,a2,_,rfl,_,_,rfl,rfl,(by show(0:Int)<m; lia),D,_,_,_,rfl,rfl,.inl (SqL.of P0.at'),at';exists _,rfl,_,rfl,r,_,_,_,rfl,rfl,sqr,a1,_,rfl,_,_,rfl,rfl,(by show(0:Int)<m; lia),D,_,_,_,rfl,rfl,P0.at',ixn;rw[zMr];have P1:zJh H D (ss.set (v1%m).toNat t) (upd G D (.lst (zJ (ss.set (v1%m).toNat t)))):=by
     refine⟨P0.same.putNew P0.new,P0.new,zD,λu hu=>?_⟩;have hu':u∈ss:=by
      rcases List.mem_or_eq_of_mem_set hu with h | h
      ·exact h
      ·rw[h]; exact mt
     obtain⟨h1,h2⟩:=P0.all u hu';exact⟨by rw[yA (tZ h1 P0.at' (by intro z; cases z))]; exact h1,h2⟩
    have B1:∀ u∈ss.set (v1%m).toNat t,u.2.1.natAbs<=10^7/\u.2.2.1.natAbs<=10^7/\u.2.2.2.natAbs<=10^10:=λu hu=>by
     rcases List.mem_or_eq_of_mem_set hu with h | h
     ·exact bnd u h
     ·rw[h]; exact bnd t mt
    have N1:(ss.set (v1%m).toNat t).length=m.toNat:=by rw[List.length_set]; exact hlen
    generalize upd G D (.lst (zJ (ss.set (v1%m).toNat t)))=G1 at P1 ⊢;generalize ss.set (v1%m).toNat t=ss1 at P1 B1 N1;exact main D ss1 G1 ⟨N1,P1,B1⟩
   ·exact main D ss G ⟨hlen,P0,bnd⟩
  ·refine vS ?_;exact main D ss G ⟨hlen,P0,bnd⟩
 clear cutD;rintro D ss G ⟨hlen,P0,bnd⟩;apply cutS2 (ok:=λD ss G=>ss.length=m.toNat/\zJh H D ss G/\∀ t∈ss,t.2.1.natAbs<=10^8/\t.2.2.1.natAbs<=10^8/\t.2.2.2.natAbs<=10^12)
 ·intro main2;exists _,rfl,r,_,_,_,rfl,rfl,(.inl ((P0).same.seq hS)),a0,_,_,rfl,rfl,sC.of (by decide) (by decide +kernel),_,_,rfl,rfl,gt3,rfl,_,rfl;refine ifE (λ_=>?_) (λ_=>?_)
  ·have sqr:Sq K G r (rows.map V.int):=.inl ((P0).same.seq hS);refine⟨_,rfl,r,_,_,_,rfl,rfl,sqr,a1,_,_,rfl,rfl,(by show(0:Int)<2001; decide),_,_,rfl,rfl,_,rfl,r,_,_,_,rfl,rfl,sqr,a2,_,_,rfl,rfl,(by show(0:Int)<2001; decide),_,_,rfl,rfl,sz2,λtx htx=>?_⟩;have stx:zZ G (upd G tx (.tup [.int (v1%2001-1000),.int (v2%2001-1000)])):=zF htx _;have etx:upd G tx (.tup [.int (v1%2001-1000),.int (v2%2001-1000)]) tx=some (.tup [.int (v1%2001-1000),.int (v2%2001-1000)]):=zD;generalize upd G tx (.tup [.int (v1%2001-1000),.int (v2%2001-1000)])=GX at stx etx ⊢;have bX:(v1%2001-1000).natAbs<=1000:=by lia
   have bY:(v2%2001-1000).natAbs<=1000:=by lia
   generalize v1%2001-1000=X at etx bX;generalize v2%2001-1000=Y at etx bY;exists tx,_,rfl,SqT.of etx,rfl,.int X,_,rfl,.int Y,_,rfl,rfl;refine⟨_,rfl,D,rfl,.inl ⟨⟨_,SqL.of (stx _ _ (P0).at')⟩,λcc D2 hD2=>yM (K:=K) (a:=D) (xs:=zJ ss) (λi σ ys Gd=>∃ sb:List Sd,ys=zJ sb/\sb.length=i/\zJh GX D2 sb Gd/\(∀ t∈sb,t.2.1.natAbs<=10^7/\t.2.2.1.natAbs<=10^7/\t.2.2.2.natAbs<=10^12)/\∃ u0 u1 u2:Option V,σ=[u0,u1,u2,some (.int X),some (.int Y)])
    ⟨[],rfl,rfl,⟨zF hD2 _,hD2,zD,(λt ht=>nomatch ht)⟩,(λt ht=>nomatch ht),none,none,none,rfl⟩ (λi σ ys Ge _ ⟨sb,e1,_,Pq,_⟩=>⟨SqL.of (Pq.same _ _ (stx _ _ (P0).at')),by rw[e1]; exact Pq.at'⟩) ?_ ?_⟩⟩
   ·rintro i x σ ys Gf hi ⟨sb,rfl,nb,Pg,bnb,u0,u1,u2,rfl⟩;obtain⟨t,gt,rfl,hil⟩:=xZ hi;obtain⟨et,nt,b1,b2,b3⟩:=(P0).all t (List.mem_of_getElem? gt);obtain⟨c1,c2,c3⟩:=bnd t (List.mem_of_getElem? gt);exists t.1,_,rfl,SqT.of (Pg.same _ _ (stx _ _ et)),rfl,.int t.2.1,_,rfl,.int t.2.2.1,_,rfl,.int t.2.2.2,_,rfl,rfl;have z1:=zI t.2.1 X c1 bX;have z3:(t.2.2.2+t.2.1*X+t.2.2.1*Y).natAbs<=10^12:=Nat.le_trans (add3 c3 z1 (zI t.2.2.1 Y c2 bY)) (by decide);clear z1;refine⟨_,rfl,_,rfl,_,rfl,_,rfl,_,rfl,_,_,rfl,rfl,zA9 (Nat.le_trans c1 (by decide)),_,_,rfl,rfl,_,rfl,_,rfl,_,_,rfl,rfl,zA9 (Nat.le_trans c2 (by decide)),_,_,rfl,rfl,sz3,λp hp=>?_⟩;have sp:=zF hp (.tup [.int t.2.1,.int t.2.2.1,.int (t.2.2.2+t.2.1*X+t.2.2.1*Y)]);refine⟨sp _ _ Pg.at',zV (by rw[zK]; lia),sb++[(p,t.2.1,t.2.2.1,t.2.2.2+t.2.1*X+t.2.2.1*Y)],by simp[zJ],by rw[List.length_append,nb]; rfl,Pg.app sp hp zD nt b1 b2 (Nat.le_trans z3 (by decide)),λu hu=>?_,_,_,_,rfl⟩;rcases List.mem_append.mp hu with h | h
    ·exact bnb u h
    ·rw[List.mem_singleton] at h;subst h;exact⟨c1,c2,z3⟩
   ·rintro σ ys Gf ⟨ss2,rfl,nb,Pg,bnb,u0,u1,u2,rfl⟩;rw[zK] at nb;have N2:ss2.length=m.toNat:=nb.trans hlen;have P2:zJh H D2 ss2 Gf:=⟨((P0).same.trans stx).trans Pg.same,(P0).same.free (stx.free Pg.new),Pg.at',Pg.all⟩;have P2s:∀ t∈ss2,t.2.1.natAbs<=10^8/\t.2.2.1.natAbs<=10^8/\t.2.2.2.natAbs<=10^12:=λt ht=>⟨Nat.le_trans (bnb t ht).1 (by decide),Nat.le_trans (bnb t ht).2.1 (by decide),(bnb t ht).2.2⟩;clear Pg;generalize some (V.int X)=uX;generalize some (V.int Y)=uY;exact main2 D2 ss2 Gf uX uY ⟨N2,P2,P2s⟩
  ·exact main2 D ss G none none ⟨hlen,P0,λt ht=>⟨Nat.le_trans (bnd t ht).1 (by decide),Nat.le_trans (bnd t ht).2.1 (by decide),Nat.le_trans (bnd t ht).2.2 (by decide)⟩⟩
 clear P0 bnd hlen;rintro D2 ss2 Gf uX uY ⟨N2,P2,P2s⟩;exists _,rfl,r,_,_,_,rfl,rfl,(.inl (P2.same.seq hS)),a0,_,_,rfl,rfl,sC.of (by decide) (by decide +kernel),_,_,rfl,rfl,gt3,rfl,_,rfl;refine ifE (λ_=>?_) (λ_=>?_)
 ·refine⟨_,rfl,D2,_,rfl,(P2).at',λcc D3 hD3=>zMz (K:=K) (l:=D2) (xs:=zJ ss2) (λi σ ys Ga=>∃ sa:List Sd,ys=zJ sa/\sa.length=i/\zJh Gf D3 sa Ga/\(∀ t∈sa,t.2.1.natAbs<=3*10^8/\t.2.2.1.natAbs<=3*10^8/\t.2.2.2.natAbs<=3*10^12)/\∃ u0 u1 u2 u3:Option V,σ=[u0,u1,u2,u3])
   ⟨[],rfl,rfl,⟨zF hD3 _,hD3,zD,(λt ht=>nomatch ht)⟩,(λt ht=>nomatch ht),none,none,none,none,rfl⟩ (λi σ ys Gb ⟨sa,e1,_,Pq,_⟩=>⟨SqL.of (Pq.same _ _ (P2).at'),by rw[e1]; exact Pq.at'⟩) ?_ ?_⟩
  ·rintro i x T σ ys Gc hi hT ⟨sa,rfl,na,Pc,bc,u0,u1,u2,u3,rfl⟩;obtain⟨t,gt,rfl,hil⟩:=xZ hi;obtain⟨et,nt,_⟩:=(P2).all t (List.mem_of_getElem? gt);obtain⟨b1,b2,b3⟩:=P2s t (List.mem_of_getElem? gt);have k9:(10:Nat)^8*3<=10^9:=by decide
   have sT:=zF hT (.tup [.int i,.ref t.1]);have npT:∀ p,upd Gc T (.tup [.int i,.ref t.1]) p=none->Gc p=none:=λp hp=>sT.free hp;have eT:upd Gc T (.tup [.int i,.ref t.1]) T=some (.tup [.int i,.ref t.1]):=zD;have et':=sT _ _ (Pc.same _ _ et);generalize upd Gc T (.tup [.int i,.ref t.1])=G2 at sT npT eT et' ⊢;exists T,_,rfl,SqT.of eT,rfl,.int i,_,rfl,.ref t.1,_,rfl;exists t.1,_,rfl,SqT.of et',rfl,.int t.2.1,_,rfl,.int t.2.2.1,_,rfl,.int t.2.2.2,_,rfl,rfl,rfl;have c3:∀ j:Int,zJg 3 j:=λj=>.inl ⟨by decide,by decide⟩;exists _,rfl,_,_,rfl,rfl,gt2,rfl,_,rfl;refine ifE (λ_=>?_) (λ_=>?_)
   ·refine⟨_,rfl,_,_,rfl,rfl,c3 _,_,rfl,_,_,rfl,rfl,c3 _,_,rfl,_,_,rfl,rfl,c3 _,sz3,λp hp=>?_⟩;have sp:=zF hp (.tup [.int (3*t.2.1),.int (3*t.2.2.1),.int (3*t.2.2.2)]);have t1:=zI 3 t.2.1 (m:=3) (by decide) b1;have t2:=zI 3 t.2.2.1 (m:=3) (by decide) b2;have t3:=zI 3 t.2.2.2 (m:=3) (by decide) b3;refine⟨sp _ _ (sT _ _ Pc.at'),zV (by rw[zK]; lia),sa++[(p,3*t.2.1,3*t.2.2.1,3*t.2.2.2)],by simp[zJ],by rw[List.length_append,na]; rfl,Pc.app (sT.trans sp) (npT p hp) zD (by clear b1 b2 b3; lia) (Nat.le_trans t1 (by decide)) (Nat.le_trans t2 (by decide)) (Nat.le_trans t3 (by decide)),λu hu=>(List.mem_append.mp hu).elim (bc u) λh=>by rw[List.mem_singleton] at h; subst h; exact⟨t1,t2,t3⟩,_,_,_,_,rfl⟩
   ·refine⟨_,rfl,_,rfl,_,rfl,sz3,λp hp=>?_⟩;have sp:=zF hp (.tup [.int t.2.1,.int t.2.2.1,.int t.2.2.2]);refine⟨sp _ _ (sT _ _ Pc.at'),zV (by rw[zK]; lia),sa++[(p,t.2.1,t.2.2.1,t.2.2.2)],by simp[zJ],by rw[List.length_append,na]; rfl,Pc.app (sT.trans sp) (npT p hp) zD nt (Nat.le_trans b1 (by decide)) (Nat.le_trans b2 (by decide)) (Nat.le_trans b3 (by decide)),λu hu=>(List.mem_append.mp hu).elim (bc u) λh=>by rw[List.mem_singleton] at h; subst h; exact⟨Nat.le_trans b1 (by decide),Nat.le_trans b2 (by decide),Nat.le_trans b3 (by decide)⟩,_,_,_,_,rfl⟩
  ·rintro σ ys Gc ⟨sa,rfl,na,Pc,bc,u0,u1,u2,u3,rfl⟩;rw[zK] at na;exact⟨_,rfl,q D3 sa Gc ((P2).same.trans Pc.same) ((P2).same.free Pc.new) Pc.at' (na.trans N2) (λt ht=>(Pc.all t ht)) bc⟩
 ·exact⟨_,rfl,q D2 ss2 _ (P2).same (P2).new (P2).at' N2 (P2).all (λt ht=>⟨Nat.le_trans (P2s t ht).1 (by decide),Nat.le_trans (P2s t ht).2.1 (by decide),Nat.le_trans (P2s t ht).2.2 (by decide)⟩)⟩
def zE5(K:PySem.W.Frag):Sp:=λvs H Q _=>∃(a b:Addr)(us ws:List V)(x1 y1 x2 y2:Int),vs=[.ref a,.ref b]/\Sq K H a us/\Sq K H b ws/\atI us 0=some (.int x1)/\atI us 1=some (.int y1)/\atI ws 0=some (.int x2)/\atI ws 1=some (.int y2) /\
 x1.natAbs<=10^18/\y1.natAbs<=10^18/\Q (.int (x1*y2-y1*x2)) H
theorem zJw(F:Fun K "_law_turned" "_law_turned" zAt f fd)(Z:Zs mg)  : xK P w K mg base CX0 1 f fd ["_law_one", "_law_other"] (zE5 K):=by
 specialize zKg
 ·obtain⟨a,b,us,ws,x1,y1,x2,y2,rfl,_⟩:=h;rfl
 obtain⟨a,b,us,ws,x1,y1,x2,y2,rfl,ha,hb,u0,u1,w0,w1,m1,m2,q⟩:=h
 refine'⟨_,(zH (zO ?_)),?_⟩
 nofun
 exact⟨_,rfl,a,_,_,.int x1,rfl,rfl,ha,u0,_,rfl,b,_,_,.int y2,rfl,rfl,hb,w1,_,_,rfl,rfl,zA9 (by lia),
  _,rfl,a,_,_,.int y1,rfl,rfl,ha,u1,_,rfl,b,_,_,.int x2,rfl,rfl,hb,w0,_,_,rfl,rfl,zA9 (by lia),_,_,rfl,rfl,q⟩
def zA5(K:PySem.W.Frag):Sp:=λvs H Q _=>∃(a:Addr)(rows:List Int)(wd:Int),vs=[.ref a,.int wd]/\SqL K H a (rows.map V.int)/\5<=rows.length/\(∀ x∈rows,0<=x/\x<1000003)/\1<=wd/\wd<=100 /\
 ∀(t p r:Addr)(A0 A1 B0 B1:Int)(H':Hp),zZ H H'->H' t=some (.tup [.ref p,.ref r])->H' p=some (.tup [.int A0,.int A1])->H' r=some (.tup [.int B0,.int B1])->0<A0*B1-A1*B0->A0.natAbs<=100->A1.natAbs<=100->B0.natAbs<=100->B1.natAbs<=100->Q (.ref t) H'
theorem zFu(F:Fun K "_law_left_pair" "_law_left_pair" tM f fd)(Z:Zs mg)(yBp:Has P w K mg base "_law_turned" 1 ["_law_one", "_law_other"] (zE5 K))(yCz:Has P w K mg base "_law_way" 1 ["_law_one", "_law_two", "_law_wide"] (zDy K)):xK P w K mg base CX0 2 f fd ["_law_d", "_law_wide"] (zA5 K):=by
 specialize xY
 ·obtain⟨a,rows,wd,rfl,_⟩:=h;rfl
 obtain⟨a,rows,wd,rfl,hS,hl,bd,w1,w2,q⟩:=h
 refine'⟨_,(zG (zX 2 xY.nd ?_)
   (zG (zX 3 xY.nd ?_)
   (zG (yC ?_ (zH (zX 3 xY.nd ?_)) zS)
   (zG (yC ?_ (zH (zKx (i:=2) (j:=3) rfl xY.nd rfl rfl (by decide) rfl rfl (zU (pv 3) (zU (pv 2) yH)) rfl)) zS)
   (zG (yC ?_ (zH (zX 3 xY.nd ?_)) zS)
   (zH (zO ?_))))))),?_⟩
 nofun
 obtain⟨v0,a0,_⟩:=yQ bd (k:=0) (by decide) (by lia);obtain⟨v1,a1,_⟩:=yQ bd (k:=1) (by decide) (by lia);obtain⟨v2,a2,_⟩:=yQ bd (k:=2) (by decide) (by lia);obtain⟨v3,a3,_⟩:=yQ bd (k:=3) (by decide) (by lia);obtain⟨v4,a4,_⟩:=yQ bd (k:=4) (by decide) (by lia);refine⟨_,rfl,a,_,_,_,rfl,rfl,.inl hS,a0,_,rfl,a,_,_,_,rfl,rfl,.inl hS,a1,_,rfl,v0,v1,wd,rfl,w1,by lia,λp1 x1 y1 H2 s2 hp1 e1' n1 m1 m2=>?_⟩;have k1:x1.natAbs<=100:=by lia
 have k2:y1.natAbs<=100:=by lia
 clear m1 m2;apply cut4 (ok:=λO X Y G=>zZ H G/\G p1=some (.tup [.int x1,.int y1])/\G O=some (.tup [.int X,.int Y])/\X.natAbs<=100/\Y.natAbs<=100)
 ·intro main;refine⟨_,rfl,a,_,_,_,rfl,rfl,.inl (s2.seq hS),a2,_,rfl,a,_,_,_,rfl,rfl,.inl (s2.seq hS),a3,_,rfl,v2,v3,wd,rfl,w1,by lia,λp2 x2 y2 H3 s3 hp2 e3 n2 m3 m4=>?_⟩;have s23:=s2.trans s3;have e13:=s3 _ _ e1';exists _,rfl,a,_,_,_,rfl,rfl,.inl (s23.seq hS),a4,_,_,rfl,rfl,gt4,rfl,_,rfl;refine ifE (λ_=>?_) (λ_=>?_);rotate_left
  ·exact main p2 x2 y2 H3 ⟨s23,e13,e3,by lia,by lia⟩
  ·refine⟨_,rfl,p1,_,_,.int y1,rfl,rfl,.inr (SqT.of e13),rfl,_,rfl,_,rfl,p1,_,_,.int x1,rfl,rfl,.inr (SqT.of e13),rfl,sz2,λd hd=>?_⟩;have sd:=zF hd (.tup [.int (-y1),.int x1]);exact main d (-y1) x1 _ ⟨s23.trans sd,sd _ _ e13,zD,by rw[Int.natAbs_neg]; exact k2,k1⟩
 rintro O X Y G ⟨sH,e1,e2,k3,k4⟩;have f1:Sq K G p1 [.int x1,.int y1]:=.inr (SqT.of e1);have f2:Sq K G O [.int X,.int Y]:=.inr (SqT.of e2);have b1:x1.natAbs<=10^18:=Nat.le_trans k1 (by decide);have b2:y1.natAbs<=10^18:=Nat.le_trans k2 (by decide);exists _,rfl,_,rfl,p1,O,_,_,x1,y1,X,Y,rfl,f1,f2,rfl,rfl,rfl,rfl,b1,b2,_,_,rfl,rfl,_,rfl;have eT:X*y1-Y*x1 = -(x1*Y-y1*X):=by rw[Int.mul_comm X y1,Int.mul_comm Y x1]; lia
 refine ifD (λhneg=>?_) (λhneg=>?_)
 ·exists _,rfl,_,rfl,_,_,rfl;exists _,rfl,_,rfl,O,p1,_,_,X,Y,x1,y1,rfl,f2,f1,rfl,rfl,rfl,rfl,Nat.le_trans k3 (by decide),Nat.le_trans k4 (by decide),rfl,_,rfl;refine ifE (λz=>absurd z (by clear k1 k2 k3 k4 b1 b2 w1 w2 hl; lia)) (λ_=>?_);refine⟨_,rfl,_,rfl,sz2,λt ht=>?_⟩;have st:=zF ht (.tup [.ref O,.ref p1]);exact q t O p1 X Y x1 y1 _ ((sH).trans st) zD (st _ _ e2) (st _ _ e1) (by clear k1 k2 k3 k4 b1 b2 w1 w2 hl; lia) k3 k4 k1 k2
 ·exists _,rfl,_,rfl,p1,O,_,_,x1,y1,X,Y,rfl,f1,f2,rfl,rfl,rfl,rfl,b1,b2,rfl,_,rfl;refine ifE (λhz=>?_) (λhz=>?_)
  ·refine⟨_,rfl,p1,_,_,.int y1,rfl,rfl,f1,rfl,_,rfl,_,rfl,p1,_,_,.int x1,rfl,rfl,f1,rfl,sz2,λd hd=>?_⟩;have sd:=zF hd (.tup [.int (-y1),.int x1]);refine⟨_,rfl,_,rfl,sz2,λt ht=>?_⟩;have st:=zF ht (.tup [.ref p1,.ref d]);have sp:=zF5 n1;exact q t p1 d x1 y1 (-y1) x1 _ (sH.trans (sd.trans st)) zD (st _ _ (sd _ _ e1)) (st _ _ zD) (by rw[Int.mul_neg]; lia) k1 k2 (by rw[Int.natAbs_neg]; exact k2) k1
  ·refine⟨_,rfl,_,rfl,sz2,λt ht=>?_⟩;have st:=zF ht (.tup [.ref p1,.ref O]);exact q t p1 O x1 y1 X Y _ (sH.trans st) zD (st _ _ e1) (st _ _ e2) (by clear k1 k2 k3 k4 b1 b2 w1 w2 hl; lia) k1 k2 k3 k4
structure zSg(H0:Hp)(l:Addr)(ps:List Pr)(H:Hp):Prop where
 same:zZ H0 H
 new:H0 l=none
 at':H l=some (.lst (zL ps))
 all:qM H 10000 ps
theorem zSg.on{H0 H H2:Hp}{l:Addr}{ps:List Pr}(P:zSg H0 l ps H)(s:zZ H H2):zSg H0 l ps H2:=⟨P.same.trans s,P.new,s _ _ P.at',P.all.same s⟩
theorem zSg.app{H0 H:Hp}{l h:Addr}{ps:List Pr}{x y:Int}(P:zSg H0 l ps H)(eh:H h=some (.tup [.int x,.int y]))(hx:x.natAbs<=10000)(hy:y.natAbs<=10000) :
  zSg H0 l (ps++[(h,x,y)]) (upd H l (.lst (zL ps++[.ref h])))/\upd H l (.lst (zL ps++[.ref h])) h=some (.tup [.int x,.int y]):=by
 have k:∀(b:Addr)(xs:List V),H b=some (.tup xs)->upd H l (.lst (zL ps++[.ref h])) b=some (.tup xs):=λb xs e=>by
  rw[yA (tZ e P.at' (by intro z; cases z))];exact e
 refine⟨⟨P.same.putNew P.new,P.new,by rw[zD,wQ] <;> rfl,λt ht=>?_⟩,k _ _ eh⟩;rcases List.mem_append.mp ht with h' | h'
 ·exact⟨k _ _ (P.all t h').1,(P.all t h').2⟩
 ·rw[List.mem_singleton] at h';subst h';exact⟨k _ _ eh,hx,hy⟩
theorem zV1(ps:List Pr)(k:Nat):qJ (zL ps) (some (k:Int)) none=zL (ps.drop k)/\qJ (zL ps) none (some (k:Int))=zL (ps.take k):=by
 refine⟨?_,zCa ps k⟩;unfold qJ;rw[HT.sIx_nat (zL ps).length 0 k,show HT.sIx (zL ps).length (zL ps).length none=(zL ps).length from rfl,List.take_of_length_le (by rw[List.length_drop] <;> lia)];rw[zQ];simp only[zL,<- List.map_drop]
 congr 2
 by_cases h:k<=ps.length
 ·rw[Nat.min_eq_left h]
 ·rw[Nat.min_eq_right (by lia),List.drop_length,List.drop_eq_nil_of_le (by lia)]
def zIe(K:PySem.W.Frag):Sp:=λvs H Q _=>∃(a:Addr)(rows:List Int)(wd:Int),vs=[.ref a,.int wd]/\SqL K H a (rows.map V.int)/\9<=rows.length/\(∀ x∈rows,0<=x/\x<1000003)/\1<=wd/\wd<=100 /\
 ∀(l:Addr)(qs:List Pr)(H':Hp),zZ H H'->H l=none->H' l=some (.lst (zL qs))->qM H' 10000 qs->zDm (qs.map (·.2))->Q (.ref l) H'
theorem zPv(F:Fun K "_law_bank" "_law_bank" zDx f fd)(Z:Zs mg)(yAv:Has P w K mg base "_law_left_pair" 2 ["_law_d", "_law_wide"] (zA5 K)):xK P w K mg base CX0 3 f fd ["_law_d", "_law_wide"] (zIe K):=by
 specialize yU
 ·obtain⟨a,rows,wd,rfl,_⟩:=h;rfl
 obtain⟨a,rows,wd,rfl,hS,hl,bd,w1,w2,q⟩:=h
 refine'⟨_,(zG (wK ?_ (yV rfl (zR (yS 2 yU.nd) (zR (yS 3 yU.nd) yI))))
   (zG (wK (pv 2) (yV rfl (zR (yS 4 yU.nd) (zR (yS 5 yU.nd) yI))))
   (zG (wK (pv 3) (yV rfl (zR (yS 6 yU.nd) (zR (yS 7 yU.nd) yI))))
   (zG (zX 8 yU.nd ?_)
   (zG (zX 9 yU.nd ?_)
   (zG (zAe (zH3 (pv 8) (zU (xH uH (pv 9) ?_) yH)))
   (zG (zAe (zH3 (pv 8) (zU (xH uH (pv 9) ?_) yH)))
   (zG (zX 10 yU.nd ?_)
   (zG (zX 11 yU.nd ?_)
   (zG (zX 12 yU.nd ?_)
   (zG (wU PassesOwn.never rfl (xC (pv 11)) (yV rfl (zR (yS 13 yU.nd) (zR (yS 14 yU.nd) yI))) (zG (zAe (zH3 (pv 12) (zU (pv 10) yH)))
   (zH (zX 10 yU.nd ?_))))
   (zG (zX 15 yU.nd ?_)
   (zH (zO (xH uH ?_ ?_))))))))))))))),?_⟩
 nofun
 obtain⟨v5,a5,_⟩:=yQ bd (k:=5) (by decide) (by lia);obtain⟨v6,a6,_⟩:=yQ bd (k:=6) (by decide) (by lia);obtain⟨v7,a7,_⟩:=yQ bd (k:=7) (by decide) (by lia);obtain⟨v8,a8,_⟩:=yQ bd (k:=8) (by decide) (by lia);refine⟨_,rfl,_,rfl,a,rows,wd,rfl,hS,by lia,bd,w1,w2,λtp pa pb x y p q' G0 sG etp epa epb tpos k1 k2 k3 k4=>?_⟩;exists tp,_,rfl,SqT.of etp,rfl,.ref pa,_,rfl,.ref pb,_,rfl,rfl;exists _,rfl,pa,_,rfl,SqT.of epa,rfl,.int x,_,rfl,.int y,_,rfl,rfl;exists _,rfl,pb,_,rfl,SqT.of epb,rfl,.int p,_,rfl,.int q',_,rfl,rfl;clear etp epa epb;have W4:∀{σ:St},σ[4]?=some (some (.int x))->PIb (zQf 4) σ x 100:=λh=>.var h k1;have W5:∀{σ:St},σ[5]?=some (some (.int y))->PIb (zQf 5) σ y 100:=λh=>.var h k2;have W6:∀{σ:St},σ[6]?=some (some (.int p))->PIb (zQf 6) σ p 100:=λh=>.var h k3;have W7:∀{σ:St},σ[7]?=some (some (.int q'))->PIb (zQf 7) σ q' 100:=λh=>.var h k4;have c2:∀{σ:St},PIb (tC (.int 2)) σ 2 2:=.con (by decide);have c3:∀{σ:St},PIb (tC (.int 3)) σ 3 3:=.con (by decide);dsimp only;refine zRg (M:=1000)
  (.cons (W4 rfl) (W5 rfl) (.cons (.sub (W6 rfl) (W4 rfl)) (.sub (W7 rfl) (W5 rfl)) (.cons (.neg (W6 rfl)) (.neg (W7 rfl)) .nil)))
  (.cons (W4 rfl) (W5 rfl) (.cons (W6 rfl) (W7 rfl) (.cons (.neg (W4 rfl)) (.neg (W5 rfl)) (.cons (.neg (W6 rfl)) (.neg (W7 rfl)) .nil))))
  (.cons (.mul c2 (W4 rfl) (by decide)) (.mul c2 (W5 rfl) (by decide)) (.cons (W6 rfl) (W7 rfl) (.cons (.sub (W6 rfl) (W4 rfl)) (.sub (W7 rfl) (W5 rfl)) (.cons (.neg (W4 rfl)) (.neg (W5 rfl)) (.cons (.mul (.neg c2) (W6 rfl) (by decide)) (.mul (.neg c2) (W7 rfl) (by decide)) .nil)))))
  (.cons (W4 rfl) (W5 rfl) (.cons (.add (W4 rfl) (W6 rfl)) (.add (W5 rfl) (W7 rfl)) (.cons (W6 rfl) (W7 rfl) (.cons (.neg (W4 rfl)) (.neg (W5 rfl)) (.cons (.sub (.neg (W4 rfl)) (W6 rfl)) (.sub (.neg (W5 rfl)) (W7 rfl)) (.cons (.neg (W6 rfl)) (.neg (W7 rfl)) .nil))))))
  (by show 3<=1000; decide) (by show 4<=1000; decide) (by show 5<=1000; decide) (by show 6<=1000; decide) λlo xs G1 s1 hlo L1 m1=>?_
 unfold zMe;refine zPn (M:=1000) (.cons (W4 rfl) (W5 rfl) (.cons (.add (.mul c2 (W4 rfl) (by decide)) (W6 rfl)) (.add (.mul c2 (W5 rfl) (by decide)) (W7 rfl)) (.cons (.add (W4 rfl) (.mul c2 (W6 rfl) (by decide))) (.add (W5 rfl) (.mul c2 (W7 rfl) (by decide))) (.cons (W6 rfl) (W7 rfl) (.cons (.neg (W4 rfl)) (.neg (W5 rfl)) .nil))))) (by show 5<=1000; decide) λl4 p4 G2 s2 hl4 el4 pk4 m4=>?_;have new:H lo=none:=sG.free hlo;have sG2:=(sG.trans s1).trans s2;have L2':=L1.same s2;have n4:l4≠lo:=λz=>by rw[z,L1.at'] at hl4; cases hl4
 clear sG s1 L1 s2 hl4;exists _,rfl,.inl ⟨rfl,_,SqL.of L2'.at'⟩,_,rfl;show zGq _ _ _ _;refine zBy (M:=1000) (.cons (.sub (.mul (.neg c2) (W4 rfl) (by decide)) (W6 rfl)) (.sub (.mul (.neg c2) (W5 rfl) (by decide)) (W7 rfl)) (.cons (.sub (.neg (W4 rfl)) (.mul c3 (W6 rfl) (by decide))) (.sub (.neg (W5 rfl)) (.mul c3 (W7 rfl) (by decide))) .nil)) (by show 2<=1000; decide) λl5 p5 G3 s3 _ el5 pk5 m5=>?_;have len4:p4.length=5:=by
  have z:=congrArg List.length m4;rw[List.length_map] at z;exact z
 have len5:p5.length=2:=by
  have z:=congrArg List.length m5;rw[List.length_map] at z;exact z
 have nx:xs.length=4:=by
  have z:=congrArg List.length m1;rw[List.length_map] at z;exact z
 have nr:∀ X:List (Addr×List Pr),(qF X).length=X.length:=λX=>by rw[List.length_map,List.length_map]
 refine⟨l4,l5,_,_,rfl,rfl,s3 _ _ el4,el5,small (by rw[zQ,zQ]; lia),λl6 hl6=>?_⟩;have sl6:zZ G3 (upd G3 l6 (.lst (zL p4++zL p5))):=zF hl6 _;have el6:upd G3 l6 (.lst (zL p4++zL p5)) l6=some (.lst (zL (p4++p5))):=by rw[zD,wQ]
 have L4:=L2'.same (s3.trans sl6);have n6:l6≠lo:=λz=>by rw[z,(L2'.same s3).at'] at hl6; cases hl6
 generalize upd G3 l6 (.lst (zL p4++zL p5))=G4 at sl6 el6 L4 ⊢;exists lo,_,_,rfl,rfl,L4.at',zV (by rw[nr]; lia);have L5:=L4.app n6 el6 ((pk4.same (s3.trans sl6)).app (pk5.same sl6));have sO:=(sG2.trans (s3.trans sl6)).putNew (o:=.lst (qF xs++[.ref l6])) new;have f4:upd G4 lo (.lst (qF xs++[.ref l6])) l4=some (.lst (zL p4)):=by
  rw[yA n4];exact(s3.trans sl6) _ _ el4
 have g4:=zQy L4.at' (pk4.same (s3.trans sl6)) (.lst (qF xs++[.ref l6]));generalize upd G4 lo (.lst (qF xs++[.ref l6]))=G5 at L5 sO f4 g4 ⊢;clear L4 L2' sG2 s3 el5 pk5 el6 sl6 n6 el4 pk4;exists _,rfl,.inl ⟨rfl,_,SqL.of L5.at'⟩,_,rfl;show zGq _ _ _ _;refine zBy (M:=1000) (.cons (.sub (.mul (.neg c2) (W4 rfl) (by decide)) (W6 rfl)) (.sub (.mul (.neg c2) (W5 rfl) (by decide)) (W7 rfl)) (.cons (.sub (.neg (W4 rfl)) (.mul c2 (W6 rfl) (by decide))) (.sub (.neg (W5 rfl)) (.mul c2 (W7 rfl) (by decide))) (.cons (.neg (W6 rfl)) (.neg (W7 rfl)) .nil))) (by show 3<=1000; decide) λl7 p7 G6 s6 _ el7 pk7 m7=>?_;have len7:p7.length=3:=by
  have z:=congrArg List.length m7;rw[List.length_map] at z;exact z
 refine⟨l4,l7,_,_,rfl,rfl,s6 _ _ f4,el7,small (by rw[zQ,zQ]; lia),λl8 hl8=>?_⟩;have sl8:zZ G6 (upd G6 l8 (.lst (zL p4++zL p7))):=zF hl8 _;have el8:upd G6 l8 (.lst (zL p4++zL p7)) l8=some (.lst (zL (p4++p7))):=by rw[zD,wQ]
 have L8:=L5.same (s6.trans sl8);have n8:l8≠lo:=λz=>by rw[z,(L5.same s6).at'] at hl8; cases hl8
 generalize upd G6 l8 (.lst (zL p4++zL p7))=G8 at sl8 el8 L8 ⊢;exists lo,_,_,rfl,rfl,L8.at',zV (by rw[nr,List.length_append]; show xs.length+1<=1000; lia);have L9:=L8.app n8 el8 ((g4.same (s6.trans sl8)).app (pk7.same sl8));have sG:=(sO.trans (s6.trans sl8)).putNew (o:=.lst (qF (xs++[(l6,p4++p5)])++[.ref l8])) new;generalize upd G8 lo (.lst (qF (xs++[(l6,p4++p5)])++[.ref l8]))=G40 at L9 sG ⊢;clear L8 L5 sO s6 f4 g4 el7 pk7 el8 sl8 n8 n4;have elo:=L9.at';have mm:(xs++[(l6,p4++p5)]++[(l8,p4++p7)]).map (λu=>u.2.map (·.2))=(List.range 6).map (zFq x y p q'):=by
  rw[List.map_append,List.map_append,m1];simp only[List.map_cons,List.map_nil,List.map_append,m4,m5,m7];rfl
 have sq:Sq K G40 a (rows.map V.int):=.inl (sG.seq hS);refine⟨_,rfl,a,_,_,_,rfl,rfl,sq,a5,_,_,rfl,rfl,(by show(0:Int)<41; decide),_,_,rfl,rfl,_,rfl,a,_,_,_,rfl,rfl,sq,a6,_,_,rfl,rfl,(by show(0:Int)<41; decide),_,_,rfl,rfl,sz2,λh0 hh0=>?_⟩;obtain⟨c,lr,ls,hc,hat,elr,pls,els⟩:∃(c:Nat)(lr:Addr)(ls:List Pr),c<6/\atI (qF (xs++[(l6,p4++p5)]++[(l8,p4++p7)])) (v7%6)=some (.ref lr)/\G40 lr=some (.lst (zL ls))/\qM G40 1000 ls/\ls.map (·.2)=zFq x y p q' c:=by
  generalize xs++[(l6,p4++p5)]++[(l8,p4++p7)]=X at L9 mm;have z0:=Int.emod_nonneg v7 (show(6:Int)≠0 by decide);have z1:=Int.emod_lt_of_pos v7 (show(0:Int)<6 by decide);have z2:((v7%6).toNat:Int)=v7%6:=by lia
  have z3:(v7%6).toNat<6:=by lia
  have g:(X.map (λu=>u.2.map (·.2)))[(v7%6).toNat]?=((List.range 6).map (zFq x y p q'))[(v7%6).toNat]?:=by rw[mm]
  rw[List.getElem?_map,List.getElem?_map,List.getElem?_range z3] at g;cases gu:X[(v7%6).toNat]? with
  | none=>rw[gu] at g; cases g
  | some u =>
   rw[gu] at g;obtain⟨_,h2,h3⟩:=L9.all u (List.mem_of_getElem? gu);refine⟨(v7%6).toNat,u.1,u.2,z3,?_,h2,h3,Option.some.inj g⟩;have k:atI (qF X) (((v7%6).toNat:Nat):Int)=some (V.ref u.1):=sW (by rw[List.getElem?_map,List.getElem?_map,gu]; rfl);rw[z2] at k;exact k
 have bh0:(v5%41-20).natAbs<=20:=by lia
 have bh1:(v6%41-20).natAbs<=20:=by lia
 have s41:zZ G40 (upd G40 h0 (.tup [.int (v5%41-20),.int (v6%41-20)])):=zF hh0 _;have eh:upd G40 h0 (.tup [.int (v5%41-20),.int (v6%41-20)]) h0=some (.tup [.int (v5%41-20),.int (v6%41-20)]):=zD;generalize upd G40 h0 (.tup [.int (v5%41-20),.int (v6%41-20)])=G41 at s41 eh ⊢;generalize v5%41-20=hx at bh0 eh;generalize v6%41-20=hy at bh1 eh
 replace sG:=sG.trans s41
 replace elr:=s41 _ _ elr
 replace pls:=pls.same s41
 replace elo:=s41 _ _ elo
 have hls:ls.length=(qB c).length:=by
  have z:=congrArg List.length (zK7 hc hx hy x y p q');rw[zDd,<- els,List.length_map] at z;rw[z];exact List.length_map _
 have hl8:=zBl hc;exists _,rfl,_,rfl,a,_,_,_,rfl,rfl,.inl (sG.seq hS),a7,_,_,rfl,rfl,(by show(0:Int)<6; decide),lo,_,_,_,rfl,rfl,.inl (SqL.of elo),hat;refine⟨sz0,λl hl0=>?_⟩;have P0:zSg G41 l [] (upd G41 l (.lst [])):=⟨zF hl0 _,hl0,zD,λt ht=>nomatch ht⟩;have eh0:=zF hl0 (.lst []) _ _ eh;generalize upd G41 l (.lst [])=G42 at P0 eh0 ⊢;refine⟨_,rfl,lr,rfl,.inl ⟨⟨_,SqL.of (P0.same _ _ elr)⟩,wD (K:=K) (a:=lr) (xs:=zL ls) (λi σ G=>∃(ps:List Pr)(hh:Addr)(X Y:Int)(u13 u14:Option V),zSg G41 l ps G/\ps.length=i/\ps.map (·.2)=zDk (hx,hy) ((ls.take i).map (·.2))/\G hh=some (.tup [.int X,.int Y])/\(X,Y)=zR4 (hx,hy) ((ls.take i).map (·.2))/\X.natAbs<=20+1000*i/\Y.natAbs<=20+1000*i /\
   σ=[some (.ref a),some (.int wd),some (.ref pa),some (.ref pb),some (.int x),some (.int y),some (.int p),some (.int q'),some (.ref lo),some (.ref l4),some (.ref hh),some (.ref lr),some (.ref l),u13,u14,none])
  ⟨[],h0,hx,hy,none,none,P0,rfl,rfl,eh0,rfl,bh0,bh1,rfl⟩ (λi σ G _ ⟨_,_,_,_,_,_,e,_⟩=>SqL.of (e.same _ _ elr)) ?_ ?_⟩⟩
 ·rintro i v σ G hi ⟨ps,hh,X,Y,u13,u14,Pi,hpl,hmap,ehh,hend,bX,bY,rfl⟩;rw[List.getElem?_map,List.getElem?_map] at hi;cases ht:ls[i]? with
  | none=>rw[ht] at hi; cases hi
  | some t =>
   rw[ht] at hi;cases hi;obtain⟨e1,b1,b2⟩:=pls t (List.mem_of_getElem? ht);have hil:i<ls.length:=(List.getElem?_eq_some_iff.mp ht).1;have tk:=yP ht;exists t.1,_,rfl,SqT.of (Pi.same _ _ e1),rfl,_,_,rfl,_,_,rfl,rfl;exists _,rfl,.inl ⟨rfl,_,SqL.of Pi.at'⟩,_,rfl,l,_,_,rfl,rfl,Pi.at',zV (by rw[zQ]; lia);obtain⟨P2,eh2⟩:=Pi.app ehh (by lia) (by lia);generalize upd G l (.lst (zL ps++[.ref hh]))=G2 at P2 eh2 ⊢;refine⟨_,rfl,hh,_,_,.int X,rfl,rfl,.inr (SqT.of eh2),rfl,_,rfl,_,_,rfl,rfl,_,rfl,hh,_,_,.int Y,rfl,rfl,.inr (SqT.of eh2),rfl,_,rfl,_,_,rfl,rfl,sz2,λh2 hh2=>?_⟩;refine⟨ps++[(hh,X,Y)],h2,X+t.2.1,Y+t.2.2,_,_,P2.on (zF hh2 _),by rw[List.length_append,hpl] <;> rfl,?_,zD,?_,by lia,by lia,rfl⟩
   ·rw[tk,List.map_append,List.map_append,hmap];show zDk (hx,hy) _++[(X,Y)]=zDk (hx,hy) (_++[t.2]);rw[zGa,hend]
   ·rw[tk,List.map_append];show _=zR4 (hx,hy) (_++[t.2]);rw[zHx,<- hend]
 ·rintro σ G ⟨ps,hh,X,Y,u13,u14,Pi,hpl,hmap,ehh,hend,bX,bY,rfl⟩;rw[zQ] at hpl hmap;rw[List.take_length,els,zK7 hc] at hmap;have hpn:ps.length=(qB c).length:=by lia
  have pos:(0:Int)<((zL ps).length:Int):=by rw[zQ]; lia
  exists _,rfl,a,_,_,_,rfl,rfl,.inl ((sG.trans Pi.same).seq hS),a8,_,rfl,l,_,rfl,.inl (SqL.of Pi.at'),_,_,rfl,rfl,pos;obtain⟨k,ek,hk⟩:∃ k:Nat,v8%((zL ps).length:Int)=(k:Int)/\k<ps.length:=by
   have z0:=Int.emod_nonneg v8 (show((zL ps).length:Int)≠0 by lia);have z1:=Int.emod_lt_of_pos v8 pos;rw[zQ] at z0 z1 ⊢;exact⟨(v8%(ps.length:Int)).toNat,by lia,by lia⟩
  obtain⟨c1,c2⟩:=zV1 ps k;rw[<- ek] at c1 c2;refine⟨_,rfl,_,rfl,_,rfl,l,_,rfl,SqL.of Pi.at',λf1 hf1=>?_⟩;rw[c1];have sf1:zZ G (upd G f1 (.lst (zL (ps.drop k)))):=zF hf1 _;refine⟨_,rfl,_,rfl,_,rfl,l,_,rfl,SqL.of (sf1 _ _ Pi.at'),λf2 hf2=>?_⟩;rw[c2];have sf2:zZ (upd G f1 (.lst (zL (ps.drop k)))) (upd (upd G f1 (.lst (zL (ps.drop k)))) f2 (.lst (zL (ps.take k)))):=zF hf2 _;refine⟨f1,f2,_,_,rfl,rfl,sf2 _ _ zD,zD,small (by rw[zQ,zQ,List.length_drop,List.length_take]; lia),λf3 hf3=>?_⟩;have sf3:=zF hf3 (.lst (zL (ps.drop k)++zL (ps.take k)));have sAll:=(sf1.trans sf2).trans sf3;refine q f3 (ps.drop k++ps.take k) _ ((sG.trans Pi.same).trans sAll) ((sG.trans Pi.same).free ((sf1.trans sf2).free hf3)) (by rw[zD,wQ]) ((Pi.all.same sAll).sub λt ht=>?_) ?_
  ·rcases List.mem_append.mp ht with h | h
   ·exact List.mem_of_mem_drop h
   ·exact List.mem_of_mem_take h
  ·exact⟨c,k,hx,hy,x,y,p,q',hc,by lia,tpos,by rw[List.map_append,List.map_drop,List.map_take,hmap]⟩
def zLf(_:PySem.W.Frag):Sp:=λvs H Q _=>∃(x y:Int),vs=[.int x,.int y]/\Q (.int (Nat.gcd x.natAbs y.natAbs)) H
theorem zRm(F:Fun K "_law_low" "_law_low" zGw f fd)(Z:Zs mg):xK P w K mg base CX0 1 f fd ["_law_one", "_law_other"] (zLf K):=by
 specialize zD7
 ·obtain⟨x,y,rfl,_⟩:=h;rfl
 obtain⟨x,y,rfl,q⟩:=h
 refine'⟨_,(zG (zX 0 zD7.nd ?_)
   (zG (zX 1 zD7.nd ?_)
   (zG (zDq PassesOwn.never ?_ (zH (zKx (i:=0) (j:=1) rfl zD7.nd rfl rfl (by decide) rfl rfl ?_ rfl)))
   (zH (zO (pv 0)))))),?_⟩
 nofun
 exists _,rfl,_,rfl,_,rfl,_,rfl;refine zBr (λσ H1=>H1=H/\∃(a b:Int),σ=[some (.int a),some (.int b)]/\0<=a/\0<=b/\Nat.gcd a.toNat b.toNat=Nat.gcd x.natAbs y.natAbs)
  (λσ _=>match σ with | [_,some (.int b)]=>b.toNat | _=>0) ⟨rfl,_,_,rfl,by split <;> lia,by split <;> lia,by rw[zKv,zKv]; rfl⟩ ?_ (λσ H Q Q' hq z=>by
   obtain⟨v,hv,i,j,e1,e2,k,hk,z⟩:=z;exact⟨v,hv,i,j,e1,e2,k,hk,hq _ _ z⟩)
 rintro σ H1 ⟨rfl,a,b,rfl,h1,h2,h3⟩;exists _,rfl,_,_,rfl,rfl,_,rfl;refine ifD (λhb=>?_) (λhb=>?_)
 ·refine⟨_,rfl,_,rfl,_,rfl,_,_,rfl,rfl,hb,_,_,rfl,⟨rfl,_,_,rfl,h2,Int.emod_nonneg a (by lia),?_⟩,?_⟩
  ·rw[zHe h1 hb]; exact h3
  ·have h4:=Int.emod_lt_of_pos a hb;show(a%b).toNat<b.toNat;lia
 ·exists _,rfl;have hb0:b=0:=by lia
  subst hb0;have h5:a=((Nat.gcd x.natAbs y.natAbs:Nat):Int):=by
   rw[<- h3];show a=((Nat.gcd a.toNat 0:Nat):Int);rw[Nat.gcd_zero_right];lia
  rw[h5];exact q
theorem zKw{u v:Int×Int} : vK (yT u v)=[(v.2-u.2)/((Nat.gcd (Nat.gcd (v.2-u.2).natAbs (v.1-u.1).natAbs) ((v.2-u.2)*u.1-(v.1-u.1)*u.2).natAbs:Nat):Int),(u.1-v.1)/((Nat.gcd (Nat.gcd (v.2-u.2).natAbs (v.1-u.1).natAbs) ((v.2-u.2)*u.1-(v.1-u.1)*u.2).natAbs:Nat):Int),((v.2-u.2)*u.1-(v.1-u.1)*u.2)/((Nat.gcd (Nat.gcd (v.2-u.2).natAbs (v.1-u.1).natAbs) ((v.2-u.2)*u.1-(v.1-u.1)*u.2).natAbs:Nat):Int)]:=by
 have e2:u.1*(v.2-u.2)-u.2*(v.1-u.1)=(v.2-u.2)*u.1-(v.1-u.1)*u.2:=by rw[Int.mul_comm u.1,Int.mul_comm u.2]
 have e1 : -(v.1-u.1)=u.1-v.1:=by lia
 have e3:(u.1-v.1).natAbs=(v.1-u.1).natAbs:=by lia
 have g:yD (yT u v)=Nat.gcd (Nat.gcd (v.2-u.2).natAbs (v.1-u.1).natAbs) ((v.2-u.2)*u.1-(v.1-u.1)*u.2).natAbs:=by
  unfold yD yT;rw[e2,e1];show Nat.gcd (Nat.gcd (Nat.gcd 0 (v.2-u.2).natAbs) (u.1-v.1).natAbs) _=_;rw[Nat.gcd_zero_left,e3]
 unfold vK;rw[g];unfold yT;rw[e2,e1];rfl
theorem zR3{u v:Int×Int}(n:u≠v):0<Nat.gcd (Nat.gcd (v.2-u.2).natAbs (v.1-u.1).natAbs) ((v.2-u.2)*u.1-(v.1-u.1)*u.2).natAbs:=by
 refine Nat.gcd_pos_of_pos_left _ ?_;by_cases h1:v.2=u.2
 ·refine Nat.gcd_pos_of_pos_right _ (Int.natAbs_pos.mpr λz=>n (Prod.ext (by lia) h1.symm))
 ·exact Nat.gcd_pos_of_pos_left _ (Int.natAbs_pos.mpr (by lia))
theorem zKc{u v:Int×Int}(n:u≠v)(m1:u.1.natAbs<=10^6)(m2:u.2.natAbs<=10^6)(m3:v.1.natAbs<=10^6)(m4:v.2.natAbs<=10^6):Nat.gcd (Nat.gcd (v.2-u.2).natAbs (v.1-u.1).natAbs) ((v.2-u.2)*u.1-(v.1-u.1)*u.2).natAbs<=2*10^6:=by
 have d1:(v.2-u.2).natAbs<=2*10^6:=by clear m1 m3 n; lia
 have d2:(v.1-u.1).natAbs<=2*10^6:=by clear m2 m4 n d1; lia
 by_cases h1:v.2=u.2
 ·have h2:0<(v.1-u.1).natAbs:=Int.natAbs_pos.mpr λz=>n (Prod.ext (by lia) h1.symm);have g0:0<Nat.gcd (v.2-u.2).natAbs (v.1-u.1).natAbs:=Nat.gcd_pos_of_pos_right _ h2;exact Nat.le_trans (Nat.le_trans (Nat.gcd_le_left _ g0) (Nat.gcd_le_right _ h2)) d2
 ·have h2:0<(v.2-u.2).natAbs:=Int.natAbs_pos.mpr (by lia);have g0:0<Nat.gcd (v.2-u.2).natAbs (v.1-u.1).natAbs:=Nat.gcd_pos_of_pos_left _ h2;exact Nat.le_trans (Nat.le_trans (Nat.gcd_le_left _ g0) (Nat.gcd_le_left _ h2)) d1
theorem zUc{ps:List Pr}{i:Nat}{k:Int}(h:i<ps.length)(e:k=(i:Int)-(ps.length:Int)+1):∃ t,t∈ps/\ps[(i+1)%ps.length]?=some t/\atI (zL ps) k=some (.ref t.1):=by
 by_cases hn:i+1=ps.length
 ·rw[hn,Nat.mod_self];exact qY (by lia) (by lia)
 ·rw[Nat.mod_eq_of_lt (by lia)];exact zKa (by lia) (by lia)
def sV(K:PySem.W.Frag):Sp:=λvs H Q _=>∃(c:Addr)(ps:List Pr),vs=[.ref c]/\SqL K H c (zL ps)/\qM H (10^6) ps/\ps.length<=8/\(∀ i<ps.length,atP (ps.map (·.2)) i≠atP (ps.map (·.2)) ((i+1)%ps.length)) /\
 ∀(D:Addr)(es:List Sd)(H':Hp),zJh H D es H'->es.map (·.2)=yX (ps.map (·.2))->Q (.ref D) H'
theorem zF3(F:Fun K "_law_bank_rows" "_law_bank_rows" tG f fd)(Z:Zs mg)(yCy:Has P w K mg base "_law_low" 1 ["_law_one", "_law_other"] (zLf K)):xK P w K mg base CX0 2 f fd ["_law_places"] (sV K):=by
 specialize xA
 ·obtain⟨c,ps,rfl,_⟩:=h;rfl
 obtain⟨c,ps,rfl,hc,pk,p8,ne,q⟩:=h;have nr:=zQ ps;have lp:(ps.map (·.2)).length=ps.length:=List.length_map ..
 refine'⟨_,(zG (zX 1 xA.nd ?_)
   (zG (wU PassesOwn.never rfl (xV rfl Z.range ?_) (yS 2 xA.nd) (zG (wK ?_ (yV rfl (zR (yS 3 xA.nd) (zR (yS 4 xA.nd) yI))))
   (zG (wK ?_ (yV rfl (zR (yS 5 xA.nd) (zR (yS 6 xA.nd) yI))))
   (zG (zX 7 xA.nd ?_)
   (zH (zAe (zH3 (pv 1) ?_)))))))
   (zH (zO (pv 1))))),?_⟩
 nofun
 refine⟨sz0,λD hD=>?_⟩;have P0:zJh H D [] (upd H D (.lst [])):=⟨zF hD _,hD,zD,(λt ht=>nomatch ht)⟩;generalize upd H D (.lst [])=H0 at P0 ⊢;refine⟨_,rfl,c,_,rfl,.inl (P0.same.seq hc),_,rfl,(by rw[nr]; lia),(by rw[nr]; lia),tS (lo:=0) (n:=(((zL ps).length:Nat):Int).toNat) (λi σ G=>∃ es:List Sd,es.length=i/\zJh H D es G/\es.map (·.2)=(List.range i).map (λi=>pt3 (vK (yT (atP (ps.map (·.2)) i) (atP (ps.map (·.2)) ((i+1)%(ps.map (·.2)).length)))))/\∃ u2 u3 u4 u5 u6 u7:Option V,σ=[some (.ref c),some (.ref D),u2,u3,u4,u5,u6,u7])
  ⟨[],rfl,P0,rfl,none,none,none,none,none,none,rfl⟩ ?_ ?_⟩
 ·rintro i σ G hi ⟨es,nes,Pi,mes,u2,u3,u4,u5,u6,u7,rfl⟩;rw[Int.toNat_natCast,nr] at hi;have sq:SqL K G c (zL ps):=Pi.same.seq hc;have pkG:=pk.same Pi.same;obtain⟨t,mt,gt,at0⟩:=qY (ps:=ps) (i:=i) (k:=0+(i:Int)) (by lia) hi;obtain⟨t2,mt2,gt2,at2⟩:=zUc (ps:=ps) (i:=i) (k:=0+(i:Int)-(((zL ps).length:Nat):Int)+1) hi (by rw[nr]; lia);obtain⟨et,b1,b2⟩:=pkG t mt;obtain⟨et2,b3,b4⟩:=pkG t2 mt2;have nn:t.2≠t2.2:=by
   have z:=ne i hi;rwa[zEx gt,zEx gt2] at z
  exists _,rfl,_,rfl,c,_,_,.ref t.1,rfl,rfl,.inl sq,at0,t.1,_,rfl,SqT.of et,rfl,.int t.2.1,_,rfl,.int t.2.2,_,rfl,rfl;exists _,rfl,_,rfl,_,rfl,c,_,rfl,.inl sq,_,_,rfl,rfl,_,_,rfl,rfl,c,_,_,.ref t2.1,rfl,rfl,.inl sq,at2,t2.1,_,rfl,SqT.of et2,rfl,.int t2.2.1,_,rfl,.int t2.2.2,_,rfl,rfl;have m1:zJg (t2.2.2-t.2.2) t.2.1:=zA9 (by lia);have m2:zJg (t2.2.1-t.2.1) t.2.2:=zA9 (by lia);exists _,rfl,_,rfl,_,_,rfl,rfl,_,rfl,_,rfl,_,_,rfl,rfl,t2.2.2-t.2.2,t2.2.1-t.2.1,rfl,_,rfl,_,rfl,_,_,rfl,rfl,_,rfl,_,_,rfl,rfl,m1,_,rfl,_,rfl,_,_,rfl,rfl,_,rfl,_,_,rfl,rfl,m2,_,_,rfl,rfl,((Nat.gcd (t2.2.2-t.2.2).natAbs (t2.2.1-t.2.1).natAbs:Nat):Int),(t2.2.2-t.2.2)*t.2.1-(t2.2.1-t.2.1)*t.2.2,rfl;obtain⟨x,y,z,exyz,nxy,c1,c2,c3⟩:=zPh nn b1 b2 b3 b4;have gz:=zR3 nn;rw[zKw] at exyz;have gb:Nat.gcd (Nat.gcd (t2.2.2-t.2.2).natAbs (t2.2.1-t.2.1).natAbs) ((t2.2.2-t.2.2)*t.2.1-(t2.2.1-t.2.1)*t.2.2).natAbs<=2*10^6:=zKc nn b1 b2 b3 b4;have elow:=zKw (u:=t.2) (v:=t2.2);rw[show Nat.gcd (((Nat.gcd (t2.2.2-t.2.2).natAbs (t2.2.1-t.2.1).natAbs:Nat):Int)).natAbs ((t2.2.2-t.2.2)*t.2.1-(t2.2.1-t.2.1)*t.2.2).natAbs=Nat.gcd (Nat.gcd (t2.2.2-t.2.2).natAbs (t2.2.1-t.2.1).natAbs) ((t2.2.2-t.2.2)*t.2.1-(t2.2.1-t.2.1)*t.2.2).natAbs by rw[Int.natAbs_natCast]];generalize Nat.gcd (Nat.gcd (t2.2.2-t.2.2).natAbs (t2.2.1-t.2.1).natAbs) ((t2.2.2-t.2.2)*t.2.1-(t2.2.1-t.2.1)*t.2.2).natAbs=g at gz gb exyz elow ⊢;have dv:∀ j:Int,sC j (g:Int):=λj=>sC.of (by lia) (by lia);refine⟨_,rfl,.inl ⟨rfl,_,SqL.of Pi.at'⟩,_,rfl,_,rfl,_,_,rfl,rfl,_,rfl,_,_,rfl,rfl,dv _,_,rfl,_,rfl,_,_,rfl,rfl,_,rfl,_,_,rfl,rfl,dv _,_,rfl,_,rfl,_,_,rfl,rfl,_,rfl,_,_,rfl,rfl,m1,_,rfl,_,rfl,_,_,rfl,rfl,_,rfl,_,_,rfl,rfl,m2,_,_,rfl,rfl,_,rfl,_,_,rfl,rfl,dv _,sz3,λp hp=>?_⟩;injection exyz with f1 exyz
  injection exyz with f2 exyz
  injection exyz with f3
  subst f1 f2 f3;have sp:=zF hp (.tup [.int ((t2.2.2-t.2.2)/(g:Int)),.int ((t.2.1-t2.2.1)/(g:Int)),.int (((t2.2.2-t.2.2)*t.2.1-(t2.2.1-t.2.1)*t.2.2)/(g:Int))]);refine⟨D,_,_,rfl,rfl,sp _ _ Pi.at',zV (by rw[zK]; lia),es++[(p,_,_,_)],by rw[List.length_append,nes]; rfl,Pi.app sp hp zD nxy c1 c2 c3,?_,_,_,_,_,_,_,rfl⟩;rw[List.map_append,mes,List.range_succ,List.map_append,List.map_cons,List.map_nil,List.map_cons,List.map_nil,zEx gt,lp,zEx gt2,elow];rfl
 ·rintro σ G ⟨es,nes,Pi,mes,u2,u3,u4,u5,u6,u7,rfl⟩;rw[Int.toNat_natCast,nr] at mes;refine⟨_,rfl,q D es G Pi ?_⟩;rw[mes];unfold yX;rw[lp]
theorem zDm.ne{vs:List (Int×Int)}(h:zDm vs):∀ i<vs.length,atP vs i≠atP vs ((i+1)%vs.length):=λi hi z=>by
 have hlen:=h.len;have hm2:(i+2)%vs.length<vs.length:=Nat.mod_lt _ (by lia);have w0:=zIj h (i:=i) (k:=(i+2)%vs.length) hi hm2 (by rw[zUv (by lia)]; split <;> lia) (by rw[zUv (by lia),zUv (a:=i+1) (by lia)]; split <;> split <;> lia);rw[<- z] at w0;unfold crs at w0;rw[Int.sub_self,Int.sub_self,Int.zero_mul,Int.zero_mul] at w0;exact absurd w0 (by decide)
theorem zOk(ss es:List Sd):zJ ss++zJ es=zJ (ss++es):=by simp[zJ]
theorem vP.cat{H:Hp}{ss es:List Sd}(h:vP H ss)(h2:vP H es):vP H (ss++es):=λt ht=>(List.mem_append.mp ht).elim (h t) (h2 t)
def zFe(K:PySem.W.Frag):Sp:=λvs H Q _=>∃(r:Addr)(rows:List Int),vs=[.ref r]/\H r=some (.lst (rows.map V.int))/\80<=rows.length/\rows.length<=600/\(∀ x∈rows,0<=x/\x<1000003) /\
 ∀(T l c:Addr)(ss:List Sd)(ps:List Pr)(H':Hp),zZ H H'->H' T=some (.tup [.ref l,.ref c])->H' l=some (.lst (zJ ss))->vP H' ss->ss.length<=40->H' c=some (.lst (zL ps))->qM H' 10000 ps->zDm (ps.map (·.2))->Q (.ref T) H'
theorem zJ9(F:Fun K "_law_banked" "_law_banked" zAm f fd)(Z:Zs mg)(yCz:Has P w K mg base "_law_way" 1 ["_law_one", "_law_two", "_law_wide"] (zDy K))(yAz:Has P w K mg base "_law_bank_rows" 2 ["_law_places"] (sV K))(yCv:Has P w K mg base "_law_bank" 3 ["_law_d", "_law_wide"] (zIe K))(yCh:Has P w K mg base "_law_sides" 3 ["_law_some", "_law_many_here"] (zGp K))(yCi:Has P w K mg base "_law_tight" 1 ["_law_some", "_law_sides_here"] (zGl K))(yCm:Has P w K mg base "_law_many" 1 ["_law_one", "_law_two", "_law_few", "_law_most"] (zIt K)):xK P w K mg base CX0 4 f fd ["_law_some"] (zFe K):=by
 specialize xD
 ·obtain⟨r,rows,rfl,_⟩:=h;rfl
 obtain⟨r,rows,rfl,er,l1,l2,bd,q⟩:=h
 refine'⟨_,(zG (zX 1 xD.nd ?_)
   (zG (zX 2 xD.nd ?_)
   (zG (yC ?_ (zH (zX 2 xD.nd (xH uH (pv 2) (xJ (T:=["_law_a", "_law_b", "_law_c"]) (caps:=[]) ⟨rfl,by decide +kernel,by decide +kernel,rfl,True.intro⟩ rfl (xC ?_) (λ_=>(yV rfl (zR (yS 0 (show(["_law_a", "_law_b", "_law_c"]:List Str).Nodup by decide +kernel)) (zR (yS 1 (show(["_law_a", "_law_b", "_law_c"]:List Str).Nodup by decide +kernel)) (zR (yS 2 (show(["_law_a", "_law_b", "_law_c"]:List Str).Nodup by decide +kernel)) yI))))) (λ_=>yF) (λ_=>?_))))) zS)
   (zG (zX 3 xD.nd ?_)
   (zG (yC ?_ (zH (zX 2 xD.nd (xH uH (zG5 zOr (pv 2) zEt (zHg uG)) ?_))) zS)
   (zG (yC ?_ (zG (wK ?_ (yV rfl (zR (yS 4 xD.nd) (zR (yS 5 xD.nd) yI))))
   (zG (wK ?_ (yV rfl (zR (yS 6 xD.nd) (zR (yS 7 xD.nd) yI))))
   (zH (zX 2 xD.nd (xH uH ?_ ?_))))) zS)
   (zH (zO ?_)))))))),?_⟩
 nofun
 obtain⟨v0,a0,_⟩:=yQ bd (k:=0) (by decide) (by lia);obtain⟨v1,a1,_⟩:=yQ bd (k:=1) (by decide) (by lia);obtain⟨v72,a72,_⟩:=yQ bd (k:=72) (by decide) (by lia);obtain⟨v73,a73,_⟩:=yQ bd (k:=73) (by decide) (by lia);obtain⟨v74,a74,_⟩:=yQ bd (k:=74) (by decide) (by lia);obtain⟨v75,a75,_⟩:=yQ bd (k:=75) (by decide) (by lia);obtain⟨v76,a76,_⟩:=yQ bd (k:=76) (by decide) (by lia);obtain⟨v77,a77,_⟩:=yQ bd (k:=77) (by decide) (by lia);have cutD:∀ k:Nat,k<=70->qJ (rows.map V.int) (some (k:Int)) none=(rows.drop k).map V.int:=λk hk=>by
  rw[zAf,HT.sIx_nat rows.length 0 k,show min k rows.length=k by lia,show HT.sIx rows.length rows.length none=rows.length from rfl,List.take_of_length_le (by rw[List.length_drop]; lia)]
 have sq0:Sq K H r (rows.map V.int):=.inl (SqL.of er);refine⟨_,rfl,r,_,_,_,rfl,rfl,sq0,a0,_,rfl,r,_,_,_,rfl,rfl,sq0,a1,v0,v1,6,12,rfl,by decide,by decide,λmh mh0 mh1=>?_⟩;apply cutS (ok:=λD ss G=>zZ H G/\G D=some (.lst (zJ ss))/\vP G ss/\ss.length<=24)
 ·intro main;have sqr:SqL K H r (rows.map V.int):=SqL.of er;refine⟨_,rfl,_,rfl,r,_,rfl,sqr,λc hc=>?_⟩;rw[show qJ (rows.map V.int) (some 3) none=(rows.drop 3).map V.int from cutD 3 (by decide)];have sc:=zF hc (.lst ((rows.drop 3).map V.int));have ec:upd H c (.lst ((rows.drop 3).map V.int)) c=some (.lst ((rows.drop 3).map V.int)):=zD;generalize upd H c (.lst ((rows.drop 3).map V.int))=H2 at sc ec ⊢;refine⟨_,rfl,_,rfl,r,_,rfl,sc.seq sqr,λd hd0=>?_⟩;rw[show qJ (rows.map V.int) (some 2) none=(rows.drop 2).map V.int from cutD 2 (by decide)];have sd:=zF hd0 (.lst ((rows.drop 2).map V.int));have ed:upd H2 d (.lst ((rows.drop 2).map V.int)) d=some (.lst ((rows.drop 2).map V.int)):=zD;generalize upd H2 d (.lst ((rows.drop 2).map V.int))=H3 at sd ed ⊢;refine⟨_,rfl,d,rows.drop 2,mh,rfl,SqL.of ed,by lia,by lia,by rw[List.length_drop]; lia,by rw[List.length_drop]; lia,λx hx=>bd x (List.mem_of_mem_drop hx),λl0 ss0 G0 s0' hl0 el0 hn0 ok0 bnd0=>?_⟩;refine⟨c,l0,rows.drop 3,ss0,rfl,SqL.of (s0' _ _ (sd _ _ ec)),by rw[List.length_drop]; lia,λx hx=>bd x (List.mem_of_mem_drop hx),el0,ok0,by lia,bnd0,λl ss G1 s1' el hn ok bnd=>?_⟩;have n12:ss.length<=12:=by lia
  have s1:=((sc.trans sd).trans s0').trans s1';have er1:=s1 _ _ er;exists _,rfl,r,_,_,_,rfl,rfl,.inl (SqL.of er1),a1,_,_,rfl,rfl,sC.of (by decide) (by decide +kernel),_,_,rfl,rfl,(by show(0:Int)<24; decide),rfl,_,rfl;refine ifE (λ_=>?_) (λ_=>?_);rotate_left
  ·exact main l ss G1 ⟨s1,el,ok,by lia⟩
  ·refine⟨_,rfl,_,rfl,_,rfl,r,_,rfl,SqL.of er1,λe he=>?_⟩;rw[show qJ (rows.map V.int) (some 3) none=(rows.drop 3).map V.int from cutD 3 (by decide)];have se:=zF he (.lst ((rows.drop 3).map V.int));have ee:upd G1 e (.lst ((rows.drop 3).map V.int)) e=some (.lst ((rows.drop 3).map V.int)):=zD;generalize upd G1 e (.lst ((rows.drop 3).map V.int))=G2 at se ee ⊢;refine⟨e,rows.drop 3,12,rfl,SqL.of ee,by decide,by decide,by rw[List.length_drop]; lia,by rw[List.length_drop]; lia,λx hx=>bd x (List.mem_of_mem_drop hx),λl3 ss3 G3 s3' hl3 el3 hn3 ok3 bnd3=>?_⟩;have n3:ss3.length=12:=hn3;refine⟨l3,rfl,.inl ⟨⟨_,SqL.of el3⟩,λcc D hD=>yM (K:=K) (a:=l3) (xs:=zJ ss3) (λi σ ys G=>∃ sa:List Sd,ys=zJ sa/\sa.length=i/\zJh G3 D sa G/\∃ u0 u1 u2:Option V,σ=[u0,u1,u2])
    ⟨[],rfl,rfl,⟨zF hD _,hD,zD,(λt ht=>nomatch ht)⟩,none,none,none,rfl⟩ (λi σ ys G _ ⟨sa,e1,_,Pq,_⟩=>⟨SqL.of (Pq.same _ _ el3),by rw[e1]; exact Pq.at'⟩) ?_ ?_⟩⟩
   ·rintro i x σ ys Gc hi ⟨sa,rfl,na,Pc,u0,u1,u2,rfl⟩;obtain⟨t,gt,rfl,hil⟩:=xZ hi;obtain⟨et,nt,b1,b2,b3⟩:=ok3 t (List.mem_of_getElem? gt);have b4:=(bnd3 t (List.mem_of_getElem? gt)).2.2;exists t.1,_,rfl,SqT.of (Pc.same _ _ et),rfl,.int t.2.1,_,rfl,.int t.2.2.1,_,rfl,.int t.2.2.2,_,rfl,rfl;have nb:((if t.2.2.2<0 then -t.2.2.2 else t.2.2.2)+40).natAbs<=10^13:=by
     clear b1 b2 b3 nt;split <;> lia
    refine⟨_,rfl,_,rfl,_,rfl,_,rfl,_,_,rfl,rfl,sz3,λp hp=>?_⟩;have sp:=zF hp (.tup [.int t.2.1,.int t.2.2.1,.int ((if t.2.2.2<0 then -t.2.2.2 else t.2.2.2)+40)]);refine⟨sp _ _ Pc.at',zV (by rw[zK]; lia),sa++[(p,t.2.1,t.2.2.1,((if t.2.2.2<0 then -t.2.2.2 else t.2.2.2)+40))],by simp[zJ],by rw[List.length_append,na]; rfl,Pc.app sp hp zD nt b1 b2 nb,_,_,_,rfl⟩
   ·rintro σ ys Gc ⟨sa,rfl,na,Pc,u0,u1,u2,rfl⟩;rw[zK] at na;have s13:=(se.trans s3').trans Pc.same;refine⟨l,D,_,_,rfl,rfl,s13 _ _ el,Pc.at',?_,λA hA=>?_⟩
    ·rw[zK,zK];exact Nat.le_trans (show ss.length+sa.length<=1000 by lia) (by decide)
    have sA:zZ Gc (upd Gc A (.lst (zJ ss++zJ sa))):=zF hA _;have eA:upd Gc A (.lst (zJ ss++zJ sa)) A=some (.lst (zJ (ss++sa))):=by rw[zD,zOk]
    generalize upd Gc A (.lst (zJ ss++zJ sa))=G5 at sA eA ⊢;exact main A (ss++sa) G5 ⟨s1.trans (s13.trans sA),eA,vP.cat (ok.same (s13.trans sA)) (Pc.all.same sA),by rw[List.length_append]; lia⟩
 ·rintro L S G ⟨sG,eL,O,n24⟩;have erG:=sG _ _ er;refine⟨_,rfl,_,rfl,r,_,rfl,SqL.of erG,λc hc=>?_⟩;rw[show qJ (rows.map V.int) (some 63) none=(rows.drop 63).map V.int from cutD 63 (by decide)];have sc:=zF hc (.lst ((rows.drop 63).map V.int));have ec:upd G c (.lst ((rows.drop 63).map V.int)) c=some (.lst ((rows.drop 63).map V.int)):=zD;generalize upd G c (.lst ((rows.drop 63).map V.int))=G1 at sc ec ⊢;refine⟨sz3,λe he=>?_⟩;have se:=zF he (.lst [.int 2,.int 6,.int 30]);have ee:upd G1 e (.lst [.int 2,.int 6,.int 30]) e=some (.lst [.int 2,.int 6,.int 30]):=zD;generalize upd G1 e (.lst [.int 2,.int 6,.int 30])=G2 at se ee ⊢;have s02:=sG.trans (sc.trans se);obtain⟨wd,hw,hw1,hw2⟩:∃ b:Int,atI [V.int 2,V.int 6,V.int 30] (v72%3)=some (.int b)/\1<=b/\b<=100:=by
   have cc:v72%3=0\/v72%3=1\/v72%3=2:=by lia
   rcases cc with e | e | e
   ·exact⟨2,by rw[e]; rfl,by decide,by decide⟩
   ·exact⟨6,by rw[e]; rfl,by decide,by decide⟩
   ·exact⟨30,by rw[e]; rfl,by decide,by decide⟩
  refine⟨_,rfl,r,_,_,_,rfl,rfl,.inl (SqL.of (s02 _ _ er)),a72,_,_,rfl,rfl,gt3,e,_,_,.int wd,rfl,rfl,.inl (SqL.of ee),hw,c,rows.drop 63,wd,rfl,SqL.of (se _ _ ec),by rw[List.length_drop]; lia,λx hx=>bd x (List.mem_of_mem_drop hx),hw1,hw2,λlb ps G3 s3 hlb elb pkb hsh=>?_⟩;have s03:=s02.trans s3;have sG3:=(sc.trans se).trans s3;have er3:=s03 _ _ er;have eL3:=sG3 _ _ eL;have O3:=O.same sG3;have lens:=hsh.len;rw[List.length_map] at lens;have sq3:Sq K G3 r (rows.map V.int):=.inl (SqL.of er3);have ne:=zDm.ne hsh;rw[List.length_map] at ne;exists _,rfl,r,_,_,_,rfl,rfl,sq3,a73,_,_,rfl,rfl,gt4,rfl,_,rfl;refine ifE (λh1=>?_) (λ_=>?_)
  ·refine⟨_,rfl,_,rfl,L,_,rfl,SqL.of eL3,λe1 he1=>?_⟩;rw[show qJ (zJ S) none (some 3)=zJ (S.take 3) from zE3 S 3];have s4:=zF he1 (.lst (zJ (S.take 3)));have ee1:upd G3 e1 (.lst (zJ (S.take 3))) e1=some (.lst (zJ (S.take 3))):=zD;generalize upd G3 e1 (.lst (zJ (S.take 3)))=G4 at s4 ee1 ⊢;refine⟨_,rfl,lb,ps,rfl,SqL.of (s4 _ _ elb),(λt ht=>?_),lens.2,ne,λD es G5 P5 mes=>?_⟩
   ·obtain⟨z1,z2,z3⟩:=pkb.same s4 t ht;exact⟨z1,Nat.le_trans z2 (by decide),Nat.le_trans z3 (by decide)⟩
   have s45:=s4.trans P5.same;refine⟨_,rfl,r,_,_,_,rfl,rfl,.inl (SqL.of (s45 _ _ er3)),a74,_,_,rfl,rfl,gt3,v74%3,rfl,D,_,rfl,SqL.of P5.at',λe2 he2=>?_⟩;obtain⟨k,hk,hk3⟩:∃ k:Nat,v74%3=(k:Int)/\k<3:=⟨(v74%3).toNat,by lia,by lia⟩;rw[hk];rw[show qJ (zJ es) (some (k:Int)) none=zJ (es.drop k) from zTe es k];have s6:=zF he2 (.lst (zJ (es.drop k)));have ee2:upd G5 e2 (.lst (zJ (es.drop k))) e2=some (.lst (zJ (es.drop k))):=zD;generalize upd G5 e2 (.lst (zJ (es.drop k)))=G6 at s6 ee2 ⊢;have nes:es.length=ps.length:=by
    have z:=congrArg List.length mes;unfold yX at z;rw[List.length_map,List.length_map,List.length_range,List.length_map] at z;exact z
   have lt3:(S.take 3).length+(es.drop k).length<=40:=by rw[List.length_take,List.length_drop]; lia
   refine⟨e1,e2,_,_,rfl,rfl,s6 _ _ (P5.same _ _ ee1),ee2,?_,λA hA=>?_⟩
   ·rw[zK,zK];exact Nat.le_trans lt3 (by decide)
   have s7:zZ G6 (upd G6 A (.lst (zJ (S.take 3)++zJ (es.drop k)))):=zF hA _;have eA:upd G6 A (.lst (zJ (S.take 3)++zJ (es.drop k))) A=some (.lst (zJ (S.take 3++es.drop k))):=by rw[zD,zOk]
   generalize upd G6 A (.lst (zJ (S.take 3)++zJ (es.drop k)))=G7 at s7 eA ⊢;have s37:=(s45.trans s6).trans s7;exists _,rfl,r,_,_,_,rfl,rfl,.inl (SqL.of (s37 _ _ er3)),a73,_,_,rfl,rfl,gt4,rfl,_,rfl;refine ifE (λh2=>absurd (h1.symm.trans h2) (by decide)) (λ_=>?_);refine⟨_,rfl,_,rfl,sz2,λT hT=>?_⟩;have s8:=zF hT (.tup [.ref A,.ref lb]);have s38:=s37.trans s8;exact q T A lb _ ps _ (s03.trans s38) zD (s8 _ _ eA) (vP.cat (λt ht=>O3.same s38 t (List.mem_of_mem_take ht)) (λt ht=>P5.all.same ((s6.trans s7).trans s8) t (List.mem_of_mem_drop ht))) (by rw[List.length_append]; exact lt3) (s38 _ _ elb) (pkb.same s38) hsh
  ·exists _,rfl,r,_,_,_,rfl,rfl,sq3,a73,_,_,rfl,rfl,gt4,rfl,_,rfl;refine ifE (λh2=>?_) (λ_=>?_)
   ·have lp:(0:Int)<(((zL ps).length:Nat):Int):=by rw[zQ]; lia
    have x0:=Int.emod_nonneg v74 (show(((zL ps).length:Nat):Int)≠0 by lia);have x1:=Int.emod_lt_of_pos v74 lp;obtain⟨i,hi,hi2⟩:∃ i:Nat,v74%(((zL ps).length:Nat):Int)=(i:Int)/\i<ps.length:=by
     generalize v74%(((zL ps).length:Nat):Int)=z at x0 x1;rw[zQ] at x1;exact⟨z.toNat,by lia,by lia⟩
    obtain⟨t,mt,gt,at0⟩:=qY (ps:=ps) (i:=i) (k:=v74%(((zL ps).length:Nat):Int)) hi hi2;obtain⟨et,b1,b2⟩:=pkb t mt;exists _,rfl,_,rfl,r,_,_,_,rfl,rfl,sq3,a74,_,rfl,lb,_,rfl,.inl (SqL.of elb),_,_,rfl,rfl,lp,lb,_,_,.ref t.1,rfl,rfl,.inl (SqL.of elb),at0,t.1,_,rfl,SqT.of et,rfl,.int t.2.1,_,rfl,.int t.2.2,_,rfl,rfl;refine⟨_,rfl,r,_,_,_,rfl,rfl,sq3,a75,_,rfl,r,_,_,_,rfl,rfl,sq3,a76,v75,v76,4,rfl,by decide,by decide,λp x y G4 s4 hp ep nxy bx by'=>?_⟩;have bx4:x.natAbs<=4:=bx;have by4:y.natAbs<=4:=by';exists p,_,rfl,SqT.of ep,rfl,.int x,_,rfl,.int y,_,rfl,rfl;have m1:=zI x t.2.1 bx4 b1;have m2:=zI y t.2.2 by4 b2;have bz:(x*t.2.1+y*t.2.2-v77%2).natAbs<=10^13:=by
     clear bx by' bx4 by4 nxy b1 b2 x0 x1 lp hi2 hi;generalize x*t.2.1=X at m1 ⊢;generalize y*t.2.2=Y at m2 ⊢;lia
    have er4:=s4 _ _ er3;refine⟨_,rfl,_,rfl,L,_,rfl,SqL.of (s4 _ _ eL3),λe1 he1=>?_⟩;rw[show qJ (zJ S) none (some 2)=zJ (S.take 2) from zE3 S 2];have s5:=zF he1 (.lst (zJ (S.take 2)));have ee1:upd G4 e1 (.lst (zJ (S.take 2))) e1=some (.lst (zJ (S.take 2))):=zD;generalize upd G4 e1 (.lst (zJ (S.take 2)))=G5 at s5 ee1 ⊢;refine⟨_,rfl,_,rfl,_,rfl,_,rfl,_,_,rfl,rfl,zA9 (by lia),_,rfl,_,rfl,_,_,rfl,rfl,zA9 (by lia),_,_,rfl,rfl,_,rfl,r,_,_,_,rfl,rfl,.inl (SqL.of (s5 _ _ er4)),a77,_,_,rfl,rfl,gt2,_,_,rfl,rfl,sz3,λp2 hp2=>?_⟩;have s6:=zF hp2 (.tup [.int x,.int y,.int (x*t.2.1+y*t.2.2-v77%2)]);have ep2:upd G5 p2 (.tup [.int x,.int y,.int (x*t.2.1+y*t.2.2-v77%2)]) p2=some (.tup [.int x,.int y,.int (x*t.2.1+y*t.2.2-v77%2)]):=zD;generalize upd G5 p2 (.tup [.int x,.int y,.int (x*t.2.1+y*t.2.2-v77%2)])=G6 at s6 ep2 ⊢;refine⟨sz1,λe2 he2=>?_⟩;have s7:=zF he2 (.lst [.ref p2]);have ee2:upd G6 e2 (.lst [.ref p2]) e2=some (.lst (zJ [(p2,x,y,x*t.2.1+y*t.2.2-v77%2)])):=zD;generalize upd G6 e2 (.lst [.ref p2])=G7 at s7 ee2 ⊢;refine⟨e1,e2,_,_,rfl,rfl,s7 _ _ (s6 _ _ ee1),ee2,?_,λA hA=>?_⟩
    ·rw[zK,zK,List.length_take];exact Nat.le_trans (show min 2 S.length+1<=1000 by lia) (by decide)
    have s8:zZ G7 (upd G7 A (.lst (zJ (S.take 2)++zJ [(p2,x,y,x*t.2.1+y*t.2.2-v77%2)]))):=zF hA _;have eA:upd G7 A (.lst (zJ (S.take 2)++zJ [(p2,x,y,x*t.2.1+y*t.2.2-v77%2)])) A=some (.lst (zJ (S.take 2++[(p2,x,y,x*t.2.1+y*t.2.2-v77%2)]))):=by rw[zD,zOk]
    generalize upd G7 A (.lst (zJ (S.take 2)++zJ [(p2,x,y,x*t.2.1+y*t.2.2-v77%2)]))=G8 at s8 eA ⊢;refine⟨_,rfl,_,rfl,sz2,λT hT=>?_⟩;have s9:=zF hT (.tup [.ref A,.ref lb]);have s69:=(s7.trans s8).trans s9;have s39:=((s4.trans s5).trans s6).trans s69;exact q T A lb _ ps _ (s03.trans s39) zD (s9 _ _ eA) (vP.cat (λt ht=>O3.same s39 t (List.mem_of_mem_take ht)) (λt ht=>by
     rw[List.mem_singleton] at ht;subst ht;exact⟨s69 _ _ ep2,nxy,Nat.le_trans bx4 (by decide),Nat.le_trans by4 (by decide),bz⟩)) (by rw[List.length_append,List.length_take]; show min 2 S.length+1<=40; lia) (s39 _ _ elb) (pkb.same s39) hsh
   ·refine⟨_,rfl,_,rfl,sz2,λT hT=>?_⟩;have s8:=zF hT (.tup [.ref L,.ref lb]);exact q T L lb _ ps _ (s03.trans s8) zD (s8 _ _ eL3) (O3.same s8) (by lia) (s8 _ _ elb) (pkb.same s8) hsh
def DR(H:Hp):Nat->V->V->Prop
 | 0,x,y=>x=y/\((∃ i,x=.int i)\/∃ b,x=.bl b)
 | n+1,x,y=>(x=y/\((∃ i,x=.int i)\/∃ b,x=.bl b))\/∃(a b:Addr)(xs ys:List V)(l:Bool),x=.ref a/\y=.ref b/\H a=some (if l then .lst xs else .tup xs)/\H b=some (if l then .lst ys else .tup ys)/\xs.length=ys.length/\xs.length<=1000 /\
   ∀(i:Nat)(u v:V),xs[i]?=some u->ys[i]?=some v->DR H n u v
theorem DR.same{H H':Hp}(e:zZ H H'):∀{n:Nat}{x y:V},DR H n x y->DR H' n x y
 | 0,_,_,h=>h
 | n+1,x,y,h=>by
  rcases h with h | ⟨a,b,xs,ys,l,e1,e2,h1,h2,h3,h4,h5⟩
  ·exact .inl h
  ·exact .inr ⟨a,b,xs,ys,l,e1,e2,e _ _ h1,e _ _ h2,h3,h4,λi u v g1 g2=>DR.same e (h5 i u v g1 g2)⟩
theorem DR.int{H:Hp}{n:Nat}{x y:Int}(h:x=y):DR H n (.int x) (.int y):=by
 subst h;cases n with
 | zero=>exact⟨rfl,.inl ⟨x,rfl⟩⟩
 | succ m=>exact .inl ⟨rfl,.inl ⟨x,rfl⟩⟩
theorem DR.bl{H:Hp}{n:Nat}{x y:Bool}(h:x=y):DR H n (.bl x) (.bl y):=by
 subst h;cases n with
 | zero=>exact⟨rfl,.inr ⟨x,rfl⟩⟩
 | succ m=>exact .inl ⟨rfl,.inr ⟨x,rfl⟩⟩
theorem DR.tupI{H:Hp}{n:Nat}{a b:Addr}{xs ys:List Int}(h1:H a=some (.tup (xs.map V.int)))(h2:H b=some (.tup (ys.map V.int)))(e:xs=ys)(hl:xs.length<=1000):DR H (n+1) (.ref a) (.ref b):=by
 subst e;refine .inr ⟨a,b,xs.map V.int,xs.map V.int,false,rfl,rfl,h1,h2,rfl,by rw[List.length_map]; exact hl,λi u v g1 g2=>?_⟩;rw[g1] at g2;cases g2;obtain⟨m,_,rfl⟩:=xW g1;exact DR.int rfl
def zHj:Nat->Sp
 | 0=>λ_ _ _ _=>False
 | n+1=>λvs H Q _=>∃(x y:V),vs=[x,y]/\DR H n x y/\∀ H',zZ H H'->Q (.bl true) H'
def zIs(_:PySem.W.Frag):Sp:=zHj 6
structure KT(K:PySem.W.Frag)(ty:Value)(bb bi bl bt bs:Bool):Prop where
 b:PySem.W.kitOne K ty (.type "bool")=some bb
 i:PySem.W.kitOne K ty (.type "int")=some bi
 l:PySem.W.kitOne K ty (.type "list")=some bl
 t:PySem.W.kitOne K ty (.type "tuple")=some bt
 s:PySem.W.kitOne K ty (.type "str")=some bs
theorem zLm{f:Addr}{fd:FuncData}(F:Fun K "_law_same" "_law_same" zBv f fd)(Z:Zs mg)(bS:zG3 K fd ["_law_told", "_law_due"] [])(kS:PySem.W.keepIn K (.ref f)=true)(mS:mg "_law_same" = some (.ref f)) :
  ∀ n:Nat,xK P w K mg base CX0 n f fd ["_law_told", "_law_due"] (zHj n)
 | 0=>⟨λ_ _ _ _ h=>h.elim,λ_ _ _ _ _ _ _ _ _ _ _ _ _ h=>h.elim⟩
 | n+1=>by
  have ih:=zLm F Z bS kS mS n;have yCu:Has P w K mg base "_law_same" n ["_law_told", "_law_due"] (zHj n):=⟨f,fd,ih,bS,kS,mS⟩
  specialize zO8
  ·obtain⟨x,y,rfl,_⟩:=h;rfl
  obtain⟨x,y,rfl,hD,q⟩:=h;have hr_self:=hr
  refine'⟨_,(zG (yC ?_ (zH (zO vR)) zS)
   (zG (yC ?_ (zH (zO vR)) zS)
   (zG (yC ?_ (zH (zO ?_)) zS)
   (zH (zO (zGr ?_ (zGb (wM (tT rfl) rfl Z.all zEo (zU (xJ (T:=["_law_one", "_law_other"]) (caps:=[]) ⟨rfl,by decide +kernel,by decide +kernel,rfl,True.intro⟩ rfl (zP5 rfl Z.zip (zU (pv 0) (zU (pv 1) yH))) (λ_=>(yV rfl (zR (yS 0 (show(["_law_one", "_law_other"]:List Str).Nodup by decide +kernel)) (zR (yS 1 (show(["_law_one", "_law_other"]:List Str).Nodup by decide +kernel)) yI)))) (λ_=>yF) (λ_=>(xG yCu hr_self rfl (zU (pv 0) (zU (pv 1) yH))))) yH))))))))),?_⟩
  nofun
  have kinds:∃(t:Value)(bb bi bl bt bs:Bool),TyOf K H x t/\TyOf K H y t/\KT K t bb bi bl bt bs/\((bl=false/\bt=false/\x=y/\((∃ i,x=.int i)\/∃ b,x=.bl b)) \/
    ∃(m:Nat)(a b:Addr)(xs ys:List V)(l:Bool),bl=l/\bt = !l/\n=m+1/\x=.ref a/\y=.ref b/\H a=some (if l then .lst xs else .tup xs)/\H b=some (if l then .lst ys else .tup ys)/\xs.length=ys.length/\xs.length<=1000 /\
     ∀(i:Nat)(u v:V),xs[i]?=some u->ys[i]?=some v->DR H m u v):=by
   have zVw:(x=y/\((∃ i,x=.int i)\/∃ b,x=.bl b))->∃(t:Value)(bb bi bl bt bs:Bool),TyOf K H x t/\TyOf K H y t/\KT K t bb bi bl bt bs/\(bl=false/\bt=false/\x=y/\((∃ i,x=.int i)\/∃ b,x=.bl b)):=λh=>by
    obtain⟨rfl,h⟩:=h;rcases h with ⟨i,rfl⟩ | ⟨b,rfl⟩
    ·exact⟨_,_,_,_,_,_,.int i,.int i,⟨rfl,rfl,rfl,rfl,rfl⟩,rfl,rfl,rfl,.inl ⟨i,rfl⟩⟩
    ·exact⟨_,_,_,_,_,_,.bl b,.bl b,⟨rfl,rfl,rfl,rfl,rfl⟩,rfl,rfl,rfl,.inr ⟨b,rfl⟩⟩
   cases n with
   | zero =>
    obtain⟨t,bb,bi,bl,bt,bs,h1,h2,h3,h4⟩:=zVw hD;exact⟨t,bb,bi,bl,bt,bs,h1,h2,h3,.inl h4⟩
   | succ m =>
    rcases hD with h | ⟨a,b,xs,ys,l,e1,e2,h1,h2,h3,h4,h5⟩
    ·obtain⟨t,bb,bi,bl,bt,bs,h1,h2,h3,h4⟩:=zVw h;exact⟨t,bb,bi,bl,bt,bs,h1,h2,h3,.inl h4⟩
    ·subst e1 e2;cases l with
     | true=>exact⟨_,_,_,_,_,_,.lst h1,.lst h2,⟨rfl,rfl,rfl,rfl,rfl⟩,.inr ⟨m,a,b,xs,ys,true,rfl,rfl,rfl,rfl,rfl,h1,h2,h3,h4,h5⟩⟩
     | false=>exact⟨_,_,_,_,_,_,.tup h1,.tup h2,⟨rfl,rfl,rfl,rfl,rfl⟩,.inr ⟨m,a,b,xs,ys,false,rfl,rfl,rfl,rfl,rfl,h1,h2,h3,h4,h5⟩⟩
  obtain⟨t,bb,bi,bl,bt,bs,tx,ty,kt,rest⟩:=kinds;exists _,rfl,_, "bool", t,bb,rfl,tx,kt.b,_,rfl,_, "bool", t,bb,rfl,ty,kt.b,rfl,_,rfl;refine ifN (λz=>absurd rfl z) (λ_=>?_);exists _,rfl,_, "int", t,bi,rfl,tx,kt.i,_,rfl,_, "int", t,bi,rfl,ty,kt.i,rfl,_,rfl;refine ifN (λz=>absurd rfl z) (λ_=>?_);exists _,rfl,_, "list", t,bl,rfl,tx,kt.l,_,rfl,_, "list", t,bl,rfl,ty,kt.l,rfl,_,rfl;refine ifN (λz=>absurd rfl z) (λ_=>?_);exists _,rfl,_, "tuple", t,bt,rfl,tx,kt.t,_,rfl,_, "tuple", t,bt,rfl,ty,kt.t,rfl,_,rfl;refine ifN (λz=>absurd rfl z) (λ_=>?_);exists _,rfl,_, "list", t,bl,rfl,ty,kt.l,_,rfl;rcases rest with ⟨rfl,rfl,rfl,hs⟩ | ⟨m,a,b,xs,ys,l,rfl,rfl,rfl,rfl,rfl,ha,hb,hlen,h1000,hel⟩
  ·refine uT ?_;exists _,rfl,_, "tuple", t,false,rfl,ty,kt.t,_,rfl;refine uT ?_;exists _,rfl,_, "str", t,bs,rfl,tx,kt.s,_,rfl,_, "str", t,bs,rfl,ty,kt.s,rfl,_,rfl;rw[decide_eq_true rfl];refine uT ?_;refine⟨_,rfl,_,rfl,?_,?_⟩
   ·rcases hs with ⟨i,rfl⟩ | ⟨b,rfl⟩ <;> rfl
   ·rw[decide_eq_true rfl];exact q H (zZ.refl H)
  ·have SA:SqB bl K H a xs:=by
    cases bl
    ·exact SqT.of ha
    ·exact SqL.of ha
   have SB:SqB bl K H b ys:=by
    cases bl
    ·exact SqT.of hb
    ·exact SqL.of hb
   have SA':SqL K H a xs\/SqT K H a xs:=by
    cases bl
    ·exact .inr SA
    ·exact .inl SA
   have SB':SqL K H b ys\/SqT K H b ys:=by
    cases bl
    ·exact .inr SB
    ·exact .inl SB
   have keep:∀(H':Hp),zZ H H'->SqB bl K H' a xs/\SqB bl K H' b ys:=λH' e=>by
    cases bl
    ·exact⟨SqT.same SA e,SqT.same SB e⟩
    ·exact⟨e.seq SA,e.seq SB⟩
   cases hbl:bl with
   | true =>
    refine vS ?_;refine vS ?_;exists _,rfl,a,xs,rfl,SA',_,rfl,b,ys,rfl,SB',rfl,_,rfl;rw[zXf (by rw[hlen])];refine uT ?_;refine⟨_,rfl,_,rfl,bl,bl,a,b,xs,ys,rfl,SA,SB,λc D hD=>zE9 (K:=K) (xs:=xs) (ys:=ys) (λi σ zs H'=>zZ H H'/\H' D=some (.lst zs)/\zs=(List.replicate i true).map V.bl/\i<=xs.length/\∃ u v,σ=[u,v])
     ⟨zF hD _,zD,rfl,Nat.zero_le _,none,none,rfl⟩ (λi σ zs H' ⟨e,e2,_⟩=>⟨(keep H' e).1,(keep H' e).2,e2⟩) ?_ ?_⟩
    ·rintro i u v T σ zs H' hu hv hT ⟨e,e2,rfl,hi,o1,o2,rfl⟩;have hil:i<xs.length:=(List.getElem?_eq_some_iff.mp hu).1;have s2:=zF hT (.tup [u,v]);refine⟨T,[u,v],rfl,SqT.of zD,rfl,u,[v],rfl,v,[],rfl,rfl,_,rfl,_,rfl,u,v,rfl,(hel i u v hu hv).same (e.trans s2),λH4 s4=>?_⟩;have e4:=s4 _ _ (s2 _ _ e2);refine⟨e4,zV (by rw[List.length_map,List.length_replicate]; lia),λp o z=>?_,zD,?_,hil,_,_,rfl⟩
     ·rw[yA (xB z hD)];exact s4 _ _ (s2 _ _ (e _ _ z))
     ·rw[List.replicate_succ',List.map_append];rfl
    ·rintro σ zs H' ⟨e,e2,rfl,hi,o1,o2,rfl⟩;exists D,List.replicate (min xs.length ys.length) true,rfl,SqL.of e2;rw[show(List.replicate (min xs.length ys.length) true).all id=true from by simp];exact q _ e
   | false =>
    refine uT ?_;exists _,rfl,_, "tuple", t,true,rfl,ty,kt.t.trans (by rw[hbl]; rfl),_,rfl;refine vS ?_;exists _,rfl,a,xs,rfl,SA',_,rfl,b,ys,rfl,SB',rfl,_,rfl;rw[zXf (by rw[hlen])];refine uT ?_;refine⟨_,rfl,_,rfl,bl,bl,a,b,xs,ys,rfl,SA,SB,λc D hD=>zE9 (K:=K) (xs:=xs) (ys:=ys) (λi σ zs H'=>zZ H H'/\H' D=some (.lst zs)/\zs=(List.replicate i true).map V.bl/\i<=xs.length/\∃ u v,σ=[u,v])
     ⟨zF hD _,zD,rfl,Nat.zero_le _,none,none,rfl⟩ (λi σ zs H' ⟨e,e2,_⟩=>⟨(keep H' e).1,(keep H' e).2,e2⟩) ?_ ?_⟩
    ·rintro i u v T σ zs H' hu hv hT ⟨e,e2,rfl,hi,o1,o2,rfl⟩;have hil:i<xs.length:=(List.getElem?_eq_some_iff.mp hu).1;have s2:=zF hT (.tup [u,v]);refine⟨T,[u,v],rfl,SqT.of zD,rfl,u,[v],rfl,v,[],rfl,rfl,_,rfl,_,rfl,u,v,rfl,(hel i u v hu hv).same (e.trans s2),λH4 s4=>?_⟩;have e4:=s4 _ _ (s2 _ _ e2);refine⟨e4,zV (by rw[List.length_map,List.length_replicate]; lia),λp o z=>?_,zD,?_,hil,_,_,rfl⟩
     ·rw[yA (xB z hD)];exact s4 _ _ (s2 _ _ (e _ _ z))
     ·rw[List.replicate_succ',List.map_append];rfl
    ·rintro σ zs H' ⟨e,e2,rfl,hi,o1,o2,rfl⟩;exists D,List.replicate (min xs.length ys.length) true,rfl,SqL.of e2;rw[show(List.replicate (min xs.length ys.length) true).all id=true from by simp];exact q _ e
theorem zOt(F:Fun K "_law_same" "_law_same" zBv f fd)(Z:Zs mg)(bS:zG3 K fd ["_law_told", "_law_due"] [])(kS:PySem.W.keepIn K (.ref f)=true)(mS:mg "_law_same" = some (.ref f)):xK P w K mg base CX0 6 f fd ["_law_told", "_law_due"] (zIs K):=zLm F Z bS kS mS 6
structure zW7(H0:Hp)(D:Addr)(tl:List (Addr×List Wt))(H:Hp):Prop where
 same:zZ H0 H
 new:H0 D=none
 at':H D=some (.lst (zW tl))
 all:∀ u∈tl,H u.1=some (.lst (zP u.2))/\qG H u.2
 apart:∀ u∈tl,u.1≠D/\H0 u.1=none
theorem zAo(a b:List (Addr×List Wt)):zW (a++b)=zW a++zW b:=by simp[zW]
theorem yE(a:List (Addr×List Wt)):(zW a).length=a.length:=by simp[zW]
theorem zGm{tl:List (Addr×List Wt)}{i:Nat}{v:V}(h:(zW tl)[i]?=some v):∃ u,tl[i]?=some u/\v=.ref u.1/\i<tl.length:=by
 rw[List.getElem?_map,List.getElem?_map] at h;cases e:tl[i]? with
 | none=>rw[e] at h; cases h
 | some t=>rw[e] at h; cases h; exact⟨t,rfl,rfl,(List.getElem?_eq_some_iff.mp e).1⟩
theorem zW7.app{H0 H H2:Hp}{D p:Addr}{tl:List (Addr×List Wt)}{ws:List Wt}(P:zW7 H0 D tl H)(s:zZ H H2)(hp:H p=none)(ep:H2 p=some (.lst (zP ws)))(okw:qG H2 ws) :
  zW7 H0 D (tl++[(p,ws)]) (upd H2 D (.lst (zW tl++[.ref p]))):=by
 have eD:=s _ _ P.at';have npD:p≠D:=λe=>by rw[e,P.at'] at hp; cases hp
 have keep:∀{ws:List Wt},qG H2 ws->qG (upd H2 D (.lst (zW tl++[.ref p]))) ws:=λh t ht=>by
  obtain⟨h1,h2⟩:=h t ht;exact⟨by rw[yA (tZ h1 eD (by intro z; cases z))]; exact h1,by rw[yA (tZ h2 eD (by intro z; cases z))]; exact h2⟩
 refine⟨(P.same.trans s).putNew P.new,P.new,by rw[zD,zAo]; rfl,λu hu=>?_,λu hu=>?_⟩
 ·rcases List.mem_append.mp hu with h | h
  ·obtain⟨h1,h2⟩:=P.all u h;exact⟨by rw[yA (P.apart u h).1]; exact s _ _ h1,keep (h2.same s)⟩
  ·rw[List.mem_singleton] at h;subst h;exact⟨by show upd H2 D _ p=_; rw[yA npD]; exact ep,keep okw⟩
 ·rcases List.mem_append.mp hu with h | h
  ·exact P.apart u h
  ·rw[List.mem_singleton] at h;subst h;exact⟨npD,P.same.free hp⟩
def CpB(H:Hp)(t t':Addr):Bp->Bp->Prop
 | .no _ cs,.no D' cs'=>cs'=cs/\H D'=none/\H t'=none
 | .cannot d _ X Y ws,.cannot d' L' X' Y' ws'=>d'=d/\X'=X/\Y'=Y/\ws'=ws/\H L'=none/\H t'=none
 | .must _ tl,.must W' tl'=>tl'.map (·.2)=tl.map (·.2)/\H W'=none/\H t'=none/\∀ u∈tl',H u.1=none
 | .can p q P Q,.can p' q' P' Q'=>t'=t/\p'=p/\q'=q/\P'=P/\Q'=Q
 | _,_=>False
def zEs(K:PySem.W.Frag):Sp:=λvs H Q _=>∃(t:Addr)(pp:Bp),vs=[.ref t]/\zHu H t pp/\(∀ W tl,pp=.must W tl->tl.length<=900) /\
 ∀(t':Addr)(qq:Bp)(H':Hp),zZ H H'->zHu H' t' qq->CpB H t t' pp qq->Q (.ref t') H'
theorem zKd(F:Fun K "_law_copied" "_law_copied" zAz f fd)(Z:Zs mg)  : xK P w K mg base CX0 1 f fd ["_law_paper"] (zEs K):=by
 specialize zJ8
 ·obtain⟨t,pp,rfl,_⟩:=h;rfl
 obtain⟨t,pp,rfl,hp,hm,q⟩:=h
 refine'⟨_,(zG (yC ?_ (zH (zO ?_)) zS)
   (zG (yC ?_ (zH (zO (zC5 (zU zGe (zU (xJ (T:=["_law_weights"]) (caps:=[]) ⟨rfl,by decide +kernel,by decide +kernel,rfl,True.intro⟩ rfl (zHi ?_) (λ_=>(yS 0 (show(["_law_weights"]:List Str).Nodup by decide +kernel))) (λ_=>yF) (λ_=>?_)) yH))))) zS)
   (zG (yC (wA zNq ?_ ?_ (by with_unfolding_all rfl)) (zH (zO ?_)) zS)
   (zH (zO (pv 0)))))),?_⟩
 nofun
 cases pp with
 | no D cs =>
  obtain⟨e,eD,okc⟩:=hp;exists _,rfl,t,_,_,_,rfl,rfl,.inr (SqT.of e),rfl,rfl,_,rfl;refine zM6 ?_;refine⟨_,rfl,t,_,_,.ref D,rfl,rfl,.inr (SqT.of e),rfl,D,_,rfl,.inl (SqL.of eD),λR hR=>⟨sz2,λu hu=>?_⟩⟩;have sR:=zF hR (.lst (zL cs));have su:=zF hu (.tup [.str "none", .ref R]);exact q u (.no R cs) _ (sR.trans su) ⟨zD,su _ _ zD,okc.same (sR.trans su)⟩ ⟨rfl,hR,sR.free hu⟩
 | cannot d L X Y ws =>
  obtain⟨e,ed,eL,okw⟩:=hp;have e0:Sq K H t _:=.inr (SqT.of e);exists _,rfl,t,_,_,_,rfl,rfl,e0,rfl,rfl,_,rfl;refine zD8 (by decide) ?_;exists _,rfl,t,_,_,_,rfl,rfl,e0,rfl,rfl,_,rfl;refine zD8 (by decide) ?_;refine⟨_,rfl,t,_,_,_,rfl,rfl,e0,rfl,sz2,λz hz=>?_⟩;have sz:=zF hz (.tup [.str "far", .str "cannot"]);exists z,_,rfl,.inr (SqT.of zD),rfl,rfl,_,rfl;refine uT ?_;have e1:Sq K _ t _:=.inr (SqT.of (sz _ _ e));refine⟨_,rfl,t,_,_,_,rfl,rfl,e1,rfl,_,rfl,t,_,_,.ref d,rfl,rfl,e1,rfl,_,rfl,t,_,_,.ref L,rfl,rfl,e1,rfl,L,_,rfl,.inl (SqL.of (sz _ _ eL)),λR hR=>⟨sz3,λu hu=>?_⟩⟩;have sR:=zF hR (.lst (zP ws));have su:=zF hu (.tup [.str "cannot", .ref d,.ref R]);have sA:=(sz.trans sR).trans su;exact q u (.cannot d R X Y ws) _ sA ⟨zD,sA _ _ ed,su _ _ zD,okw.same sA⟩ ⟨rfl,rfl,rfl,rfl,sz.free hR,(sz.trans sR).free hu⟩
 | must W tl =>
  obtain⟨e,eW,all⟩:=hp;have n9:=hm W tl rfl;have e0:Sq K H t _:=.inr (SqT.of e);exists _,rfl,t,_,_,_,rfl,rfl,e0,rfl,rfl,_,rfl;refine zD8 (by decide) ?_;exists _,rfl,t,_,_,_,rfl,rfl,e0,rfl,rfl,_,rfl;refine zM6 ?_;refine⟨_,rfl,t,_,_,.ref W,rfl,rfl,e0,rfl,W,rfl,⟨_,SqL.of eW⟩,λcc D hD=>yM (K:=K) (a:=W) (xs:=zW tl) (λi σ ys G=>∃ ta:List (Addr×List Wt),ys=zW ta/\ta.map (·.2)=(tl.take i).map (·.2)/\zW7 H D ta G/\∃ u0:Option V,σ=[u0])
   ⟨[],rfl,rfl,⟨zF hD _,hD,zD,(λt ht=>nomatch ht),(λt ht=>nomatch ht)⟩,none,rfl⟩ (λi σ ys G _ ⟨ta,e1,_,P4,_⟩=>⟨P4.same.seq (SqL.of eW),by rw[e1]; exact P4.at'⟩) ?_ ?_⟩
  ·rintro i x σ ys G hi ⟨ta,rfl,ma,P4,u0,rfl⟩;obtain⟨u,gu,rfl,hil⟩:=zGm hi;obtain⟨a1,a2⟩:=all u (List.mem_of_getElem? gu);refine⟨_,rfl,u.1,_,rfl,.inl (SqL.of (P4.same _ _ a1)),λR hR=>?_⟩;have sR:=zF hR (.lst (zP u.2));have na:ta.length=i:=by
    have z:=congrArg List.length ma;rw[List.length_map,List.length_map,List.length_take] at z;lia
   refine⟨sR _ _ P4.at',zV (by rw[yE]; lia),ta++[(R,u.2)],by rw[zAo]; rfl,?_,P4.app sR hR zD (a2.same (P4.same.trans sR)),_,rfl⟩;rw[yP gu,List.map_append,List.map_append,ma];rfl
  ·rintro σ ys G ⟨ta,rfl,ma,P4,u0,rfl⟩;rw[yE,List.take_length] at ma;refine⟨sz2,λu hu=>?_⟩;have su:=zF hu (.tup [.str "must", .ref D]);exact q u (.must D ta) _ (P4.same.trans su) ⟨zD,su _ _ P4.at',λv hv=>⟨su _ _ (P4.all v hv).1,(P4.all v hv).2.same su⟩⟩ ⟨ma,hD,P4.same.free hu,λv hv=>(P4.apart v hv).2⟩
 | can p r P R =>
  obtain⟨e,ep,er⟩:=hp;have e0:Sq K H t _:=.inr (SqT.of e);exists _,rfl,t,_,_,_,rfl,rfl,e0,rfl,rfl,_,rfl;refine zD8 (by decide) ?_;exists _,rfl,t,_,_,_,rfl,rfl,e0,rfl,rfl,_,rfl;refine zD8 (by decide) ?_;refine⟨_,rfl,t,_,_,_,rfl,rfl,e0,rfl,sz2,λz hz=>?_⟩;have sz:=zF hz (.tup [.str "far", .str "cannot"]);exists z,_,rfl,.inr (SqT.of zD),rfl,rfl,_,rfl;refine vS ?_;exact⟨_,rfl,q t (.can p r P R) _ sz ⟨sz _ _ e,sz _ _ ep,sz _ _ er⟩ ⟨rfl,rfl,rfl,rfl,rfl⟩⟩
def zC1(_:PySem.W.Frag):Sp:=λvs H Q _=>∃(x:Int),vs=[.int x]/\Q (.bl true) H
theorem zMg(F:Fun K "_law_whole" "_law_whole" zCb f fd)(Z:Zs mg):xK P w K mg base CX0 1 f fd ["_law_found"] (zC1 K):=by
 specialize zL2
 ·obtain⟨x,rfl,_⟩:=h;rfl
 obtain⟨x,rfl,q⟩:=h
 refine'⟨_,(zH (zO ?_)),?_⟩
 nofun
 refine⟨_,rfl,_, "int", _,_,rfl,.int x,zJ2 K,_,rfl,uT ?_⟩;exact⟨_,rfl,_, "bool", _,_,rfl,.int x,zIm K,_,rfl,q⟩
def zAa(_:PySem.W.Frag):Sp:=λvs H Q _=>∃(a:Addr)(ns:List Int)(m:Int),vs=[.ref a,.int m]/\H a=some (.tup (ns.map V.int))/\ns.length<=1000/\m=ns.length/\∀ H',zZ H H'->Q (.bl true) H'
theorem zIn(F:Fun K "_law_numbers" "_law_numbers" rV f fd)(Z:Zs mg)(yBx:Has P w K mg base "_law_whole" 1 ["_law_found"] (zC1 K)):xK P w K mg base CX0 2 f fd ["_law_found", "_law_many_here"] (zAa K):=by
 specialize zI4
 ·obtain⟨a,ns,m,rfl,_⟩:=h;rfl
 obtain⟨a,ns,m,rfl,ha,hl,hm,q⟩:=h
 refine'⟨_,(zH (zO (zGr ?_ (zGr ?_ (zGb (wM (tT rfl) rfl Z.all zEo (zU (xJ (T:=["_law_one"]) (caps:=[]) ⟨rfl,by decide +kernel,by decide +kernel,rfl,True.intro⟩ rfl (xC (pv 0)) (λ_=>(yS 0 (show(["_law_one"]:List Str).Nodup by decide +kernel))) (λ_=>yF) (λ_=>?_)) yH))))))),?_⟩
 nofun
 refine⟨_,rfl,_, "tuple", _,_,rfl,.tup ha,qQ K,_,rfl,uT ?_⟩;exists _,rfl,a,_,rfl,.inr (SqT.of ha),_,rfl,rfl,_,rfl;rw[zXf (by rw[List.length_map,hm])];refine uT ?_;refine⟨_,rfl,a,rfl,.inr ⟨⟨_,SqT.of ha⟩,λc D hD=>zCi (K:=K) (a:=a) (xs:=ns.map V.int) (λi σ ys H'=>H'=upd H D (.lst ys)/\ys=(List.replicate i true).map V.bl/\i<=ns.length/\∃ u,σ=[u])
  ⟨rfl,rfl,Nat.zero_le _,none,rfl⟩ (λi σ ys H' _ ⟨e,_⟩=>by rw[e]; exact⟨SqT.same (SqT.of ha) (zF hD _),zD⟩) ?_ ?_⟩⟩
 ·rintro i x σ ys H' hi ⟨rfl,rfl,hil,u,rfl⟩;obtain⟨n,hn,rfl⟩:=xW hi;have hin:i<ns.length:=(List.getElem?_eq_some_iff.mp hn).1;exists _,rfl,n,rfl,zD,zV (by rw[List.length_map,List.length_replicate]; lia);refine⟨zBe,?_,hin,_,rfl⟩;rw[List.replicate_succ',List.map_append];rfl
 ·rintro σ ys H' ⟨rfl,rfl,hil,u,rfl⟩;exists D,List.replicate (ns.map V.int).length true,rfl,SqL.of zD;rw[show(List.replicate (ns.map V.int).length true).all id=true from by simp];exact q _ (zF hD _)
def zB7(K:PySem.W.Frag):Sp:=λvs H Q _=>∃(l D:Addr)(ss:List Sd)(cs:List Pr),vs=[.ref l,.ref D]/\H l=some (.lst (zJ ss))/\vP H ss/\ss.length<=900/\H D=some (.lst (zL cs))/\zHy H cs /\
 ∀(b:Bool)(H':Hp),zZ H H'->rB ss (cs.map (·.2))=b->Q (.bl b) H'
theorem zHb(F:Fun K "_law_is_clash" "_law_is_clash" sI f fd)(Z:Zs mg)(yBk:Has P w K mg base "_law_numbers" 2 ["_law_found", "_law_many_here"] (zAa K)):xK P w K mg base CX0 3 f fd ["_law_sides_here", "_law_paper"] (zB7 K):=by
 specialize yY
 ·obtain⟨l,D,ss,cs,rfl,_⟩:=h;rfl
 obtain⟨l,D,ss,cs,rfl,el,ok,hlen,eD,okc,q⟩:=h;have hu:=hr.units0;have nm:(cs.map (·.2)).length=cs.length:=List.length_map _;have nr:=zQ cs
 refine'⟨_,(zG (yC (PW.pt (zDl ?_ (zDa (zKz (zG9 zRc zRc uG ?_ uG))))) (zH (zO vR)) zS)
   (zG (zX 2 yY.nd ?_)
   (zG (zX 3 yY.nd ?_)
   (zG (wU PassesOwn.never rfl (xC (pv 1)) (yS 4 yY.nd) (zG (yC (PW.pt (zDl ?_ (zDl (zKz (zG9 zJe zJe (pv 2) ?_ ?_)) (zDa ?_)))) (zH (zO vR)) zS)
   (zG (zX 2 yY.nd ?_)
   (zG (wK ?_ (yV rfl (zR (yS 5 yY.nd) (zR (yS 6 yY.nd) (zR (yS 7 yY.nd) yI)))))
   (zH (zX 3 yY.nd ?_))))))
   (zH (zO (zGr (vE (zOg hu) (zG5 zWt (pv 3) zEt (zHg uG)) ?_ (xI _)) (zGb ?_)))))))),?_⟩
 nofun
 exists _,rfl,_, "list", _,_,rfl,.lst eD,zB3 K,_,rfl;refine vS ?_;exists _,rfl,D,_,rfl,.inl (SqL.of eD),_,_,rfl,rfl,_,rfl;refine ifD (λl2=>?_) (λl2=>?_);rotate_left
 ·exists _,rfl;refine uT ?_;refine q false H (zZ.refl _) ?_;unfold rB;rw[decide_eq_false (by lia)];rfl
 exists _,_,rfl,rfl,_,rfl;refine ifN (λl3=>?_) (λl3=>?_)
 ·refine q false H (zZ.refl _) ?_;unfold rB;rw[decide_eq_false (p:=(cs.map (·.2)).length<=3) (by lia),Bool.false_and,Bool.and_false]
 have hc:rB ss (cs.map (·.2))=goB ss (cs.map (·.2)) (-1) (0,0,0):=by
  unfold rB;rw[decide_eq_true (by lia),decide_eq_true (p:=(cs.map (·.2)).length<=3) (by lia),Bool.true_and,Bool.true_and]
 exists _,rfl;refine⟨sz3,λt0 ht0=>?_⟩;have st0:zZ H (upd H t0 (.tup [.int 0,.int 0,.int 0])):=zF ht0 _;have et0:upd H t0 (.tup [.int 0,.int 0,.int 0]) t0=some (.tup [.int 0,.int 0,.int 0]):=zD;generalize upd H t0 (.tup [.int 0,.int 0,.int 0])=H1 at st0 et0 ⊢;refine⟨_,rfl,D,rfl,.inl ⟨⟨_,SqL.of (st0 _ _ eD)⟩,wD (K:=K) (a:=D) (xs:=zL cs) (λi σ H'=>zZ H H'/\∃(last:Int)(T:P3)(ta:Addr)(u4 u5 u6 u7:Option V),-1<=last/\H' ta=some (.tup [.int T.1,.int T.2.1,.int T.2.2])/\goB ss ((cs.map (·.2)).drop i) last T=goB ss (cs.map (·.2)) (-1) (0,0,0)/\σ=[some (.ref l),some (.ref D),some (.int last),some (.ref ta),u4,u5,u6,u7])
  ⟨st0,-1,(0,0,0),t0,none,none,none,none,Int.le_refl _,et0,rfl,rfl⟩ (λi σ H' _ ⟨e1,_⟩=>SqL.of (e1 _ _ eD)) ?_ ?_⟩⟩
 ·rintro i v σ H' hi ⟨sH,last,T,ta,u4,u5,u6,u7,hl1,et,hg,rfl⟩;rw[List.getElem?_map,List.getElem?_map] at hi;cases gc:cs[i]? with
  | none=>rw[gc] at hi; cases hi
  | some c =>
   rw[gc] at hi;cases hi;have ec:=sH _ _ (okc c (List.mem_of_getElem? gc));have hil:i<cs.length:=(List.getElem?_eq_some_iff.mp gc).1;have dr:(cs.map (·.2)).drop i=(c.2.1,c.2.2)::(cs.map (·.2)).drop (i+1):=by
    rw[List.drop_eq_getElem_cons (by lia)]
    congr 1
    rw[List.getElem_map];have z:=(List.getElem?_eq_some_iff.mp gc).2;rw[z]
   rw[dr] at hg;have bad:¬ (last<c.2.1/\c.2.1<ss.length/\1<=c.2.2)->∀ H2,zZ H' H2->Q (.bl false) H2:=λhb H2 s2=>q false H2 (sH.trans s2) (by rw[hc,<- hg]; exact zSc hb);refine⟨_,rfl,c.1,[c.2.1,c.2.2],2,rfl,ec,(by show 2<=1000; decide),rfl,λH2 s2=>?_⟩;exists _,rfl;refine vS ?_;have ec2:Sq K H2 c.1 [.int c.2.1,.int c.2.2]:=.inr (SqT.of (s2 _ _ ec));have sH2:=sH.trans s2;exists _,rfl,_,rfl,c.1,_,_,.int c.2.1,rfl,rfl,ec2,rfl,_,_,rfl,rfl,_,rfl;refine ifD (λg1=>?_) (λg1=>?_);rotate_left
   ·exists _,rfl;refine uT ?_;exact bad (λz=>g1 z.1) _ s2
   exists _,rfl,l,_,rfl,.inl (SqL.of (sH2 _ _ el)),_,_,rfl,rfl,_,rfl;refine ifN (λg2=>?_) (λg2=>?_)
   ·exact bad (λz=>g2 (by rw[zK]; exact z.2.1)) _ s2
   rw[zK] at g2;exists _,rfl,c.1,_,_,.int c.2.2,rfl,rfl,ec2,rfl,_,_,rfl,rfl,_,rfl;refine ifD (λg3=>?_) (λg3=>?_)
   ·exact bad (λz=>by lia) _ s2
   exists _,rfl,c.1,_,_,.int c.2.1,rfl,rfl,ec2,rfl;obtain⟨t,mt,gt,att⟩:=yO (ss:=ss) (i:=c.2.1.toNat) (k:=c.2.1) (by lia) (by lia);obtain⟨ett,_,b1,b2,b3⟩:=ok t mt;exists _,rfl,_,rfl,c.1,_,_,.int c.2.1,rfl,rfl,ec2,rfl,l,_,_,_,rfl,rfl,.inl (SqL.of (sH2 _ _ el)),att,t.1,_,rfl,SqT.of (sH2 _ _ ett),rfl,.int t.2.1,_,rfl,.int t.2.2.1,_,rfl,.int t.2.2.2,_,rfl,rfl;have et2:Sq K H2 ta [.int T.1,.int T.2.1,.int T.2.2]:=.inr (SqT.of (s2 _ _ et));refine⟨_,rfl,ta,_,_,.int T.1,rfl,rfl,et2,rfl,_,rfl,c.1,_,_,.int c.2.2,rfl,rfl,ec2,rfl,_,rfl,_,_,rfl,rfl,.inr ⟨by lia,by lia⟩,_,_,rfl,rfl,
    _,rfl,ta,_,_,.int T.2.1,rfl,rfl,et2,rfl,_,rfl,c.1,_,_,.int c.2.2,rfl,rfl,ec2,rfl,_,rfl,_,_,rfl,rfl,.inr ⟨by lia,by lia⟩,_,_,rfl,rfl,
    _,rfl,ta,_,_,.int T.2.2,rfl,rfl,et2,rfl,_,rfl,c.1,_,_,.int c.2.2,rfl,rfl,ec2,rfl,_,rfl,_,_,rfl,rfl,.inr ⟨by lia,by lia⟩,_,_,rfl,rfl,sz3,λT2 hT2=>?_⟩
   refine⟨sH2.trans (zF hT2 _),c.2.1,(T.1+c.2.2*t.2.1,T.2.1+c.2.2*t.2.2.1,T.2.2+c.2.2*t.2.2.2),T2,_,_,_,_,by lia,zD,?_,rfl⟩;rw[<- hg,rW g1 g2 (by lia) gt]
 ·rintro σ H' ⟨sH,last,T,ta,u4,u5,u6,u7,hl1,et,hg,rfl⟩;rw[nr,List.drop_of_length_le (by lia)] at hg;refine⟨_,rfl,2,rfl,ta,[.int T.1,.int T.2.1,.int T.2.2],rfl,SqT.of et,(λh=>absurd (show HT.sIx 3 3 (some 2)=3 from h.2) (by decide)),λd1 hd1=>?_⟩;have sd1:=zF hd1 (.tup (qJ [.int T.1,.int T.2.1,.int T.2.2] none (some 2)));refine⟨sz2,λd2 hd2=>?_⟩;have sd2:=zF hd2 (.tup [.int 0,.int 0]);exists d1,d2,[T.1,T.2.1],[0,0],rfl,rfl,SqT.of (sd2 _ _ zD),SqT.of zD,_,rfl;refine ifD (λh0=>?_) (λh0=>?_)
  ·exists _,rfl,ta,_,_,.int T.2.2,rfl,rfl,.inr (SqT.of (sd2 _ _ (sd1 _ _ et))),rfl,_,_,rfl,rfl;refine q _ _ (sH.trans (sd1.trans sd2)) ?_;rw[hc,<- hg,goB,decide_eq_true h0,Bool.true_and]
  ·refine q _ _ (sH.trans (sd1.trans sd2)) ?_;rw[hc,<- hg,goB,decide_eq_false h0,Bool.false_and]
theorem mB{i:Int}(h:i.natAbs<=10^100):i.natAbs<2^4096:=Nat.lt_of_le_of_lt h (by decide +kernel)
theorem mB2{i:Int}(h:i.natAbs<=10^100*10^100):i.natAbs<2^4096:=Nat.lt_of_le_of_lt h (by decide +kernel)
def zEz(K:PySem.W.Frag):Sp:=λvs H Q _=>∃(a b:Addr)(o:Int×Int)(p q n:Int),vs=[.ref a,.ref b,.int n]/\SqT K H a [.int o.1,.int o.2]/\SqT K H b [.int p,.int q]/\o.1.natAbs<=10^100/\o.2.natAbs<=10^100/\p.natAbs<=10^100/\q.natAbs<=10^100/\n.natAbs<=10^100 /\
 ∀(r:Addr)(H':Hp),zZ H H'->H r=none->H' r=some (.tup [.int (qL o p q n).1,.int (qL o p q n).2])->Q (.ref r) H'
theorem zJv(F:Fun K "_law_summed" "_law_summed" zAu f fd)(Z:Zs mg)  : xK P w K mg base CX0 1 f fd ["_law_one", "_law_weight", "_law_number"] (zEz K):=by
 specialize zJ5
 ·obtain⟨a,b,o,p,q,n,rfl,_⟩:=h;rfl
 obtain⟨a,b,o,p,q',n,rfl,ha,hb,m1,m2,m3,m4,m5,q⟩:=h;have z:=zI n p m5 m3
 refine'⟨_,(zH (zO (zC5 (zU (xH zIg (xH vT ?_ ?_) (xH vT (xH vT (pv 2) ?_) ?_)) (zU (xH vT ?_ ?_) yH))))),?_⟩
 nofun
 refine⟨_,rfl,a,_,_,.int o.1,rfl,rfl,.inr ha,rfl,_,rfl,b,_,_,.int q',rfl,rfl,.inr hb,rfl,_,_,rfl,rfl,⟨mB m1,mB m4⟩,
  _,rfl,_,rfl,b,_,_,.int p,rfl,rfl,.inr hb,rfl,_,_,rfl,rfl,⟨mB m5,mB m3⟩,_,rfl,a,_,_,.int o.2,rfl,rfl,.inr ha,rfl,_,_,rfl,rfl,⟨mB2 z,mB m2⟩,_,_,rfl,rfl,
  _,rfl,a,_,_,.int o.2,rfl,rfl,.inr ha,rfl,_,rfl,b,_,_,.int q',rfl,rfl,.inr hb,rfl,_,_,rfl,rfl,⟨mB m2,mB m4⟩,sz2,λr hr'=>?_⟩
 exact q r _ (zF hr' _) hr' zD
theorem zMx{ps:List Pr}{i:Nat}{v:V}(h:(zL ps)[i]?=some v):∃ t,ps[i]?=some t/\v=.ref t.1:=by
 rw[List.getElem?_map,List.getElem?_map] at h;cases e:ps[i]? with
 | none=>rw[e] at h; cases h
 | some t=>rw[e] at h; exact⟨t,rfl,(Option.some.inj h).symm⟩
theorem zQ0{α:Type}{l:List α}(h:l.length=3):∃ a b c,l=[a,b,c]:=by
 match l,h with
 | [a,b,c],_=>exact⟨a,b,c,rfl⟩
def zF7(K:PySem.W.Frag):Sp:=λvs H Q _=>∃(l a D:Addr)(ss:List Sd)(g:P3)(ws:List Wt),vs=[.ref l,.ref a,.ref D]/\H l=some (.lst (zJ ss))/\vP H ss/\ss.length<=900/\Sq K H a [.int g.1,.int g.2.1]/\g.1.natAbs<=10^50/\g.2.1.natAbs<=10^50/\H D=some (.lst (zP ws))/\qG H ws/\(∀ t∈ws,t.2.2.2.1.natAbs<=10^40/\t.2.2.2.2.natAbs<=10^40) /\
 (∀ H':Hp,zZ H H'->wV ss g (wtN ws)=none->Q .non H') /\
 ∀(r:Addr)(x y:Int)(H':Hp),zZ H H'->H' r=some (.tup [.int x,.int y])->wV ss g (wtN ws)=some (x,y)->Q (.ref r) H'
theorem zLn(F:Fun K "_law_bound" "_law_bound" zB9 f fd)(Z:Zs mg)(yBs:Has P w K mg base "_law_summed" 1 ["_law_one", "_law_weight", "_law_number"] (zEz K))(yBx:Has P w K mg base "_law_whole" 1 ["_law_found"] (zC1 K))(yBk:Has P w K mg base "_law_numbers" 2 ["_law_found", "_law_many_here"] (zAa K)):xK P w K mg base CX0 3 f fd ["_law_sides_here", "_law_direction", "_law_weights"] (zF7 K):=by
 specialize tP
 ·obtain⟨l,a,D,ss,g,ws,rfl,_⟩:=h;rfl
 obtain⟨l,a,D,ss,g,ws,rfl,el,ok,hlen,ha,m1,m2,eD,okw,bw0,qn,q⟩:=h;have bw:∀ t∈ws,zW5 t.2.2.2.1 t.2.2.2.2:=bw0;clear bw0;have b80:∀ j:Int,j.natAbs<=10^80->j.natAbs<2^4096:=λj h=>Nat.lt_of_le_of_lt h (by decide +kernel);have cg1:∀ j:Int,j.natAbs<=10^80->zG0 g.1 j:=λj h=>⟨b80 _ (Nat.le_trans m1 (by decide)),b80 _ h⟩;have cg2:∀ j:Int,j.natAbs<=10^80->zG0 g.2.1 j:=λj h=>⟨b80 _ (Nat.le_trans m2 (by decide)),b80 _ h⟩;clear m1 m2;have nw:(wtN ws).length=ws.length:=List.length_map _;have nr:(zP ws).length=ws.length:=by simp[zP]
 refine'⟨_,(zG (yC ?_ (zH (zO uW)) zS)
   (zG (zX 3 tP.nd ?_)
   (zG (zX 4 tP.nd ?_)
   (zG (wU PassesOwn.never rfl (xC (pv 2)) (yS 5 tP.nd) (zG (yC ?_ (zH (zO uW)) zS)
   (zG (yC ?_ (zH (zO uW)) zS)
   (zG (yC (PW.pt (zDl (zKz (zG9 zJe zJe (pv 3) ?_ ?_)) (zDl ?_ (zDa ?_)))) (zH (zO uW)) zS)
   (zG (zX 3 tP.nd ?_)
   (zH (vC (T:=["_law_one", "_law_number"]) (caps:=[("_law_pair", 5)]) (i:=4) tP.nd rfl rfl ⟨rfl,by decide +kernel,by decide +kernel,rfl,⟨⟨rfl,rfl,Or.inl rfl⟩,True.intro⟩⟩ rfl (zP5 rfl Z.zip ?_) (λ_=>(yV rfl (zR (yS 0 (show(["_law_one", "_law_number", "_law_pair"]:List Str).Nodup by decide +kernel)) (zR (yS 1 (show(["_law_one", "_law_number", "_law_pair"]:List Str).Nodup by decide +kernel)) yI)))) (λ_=>yF) (λ_=>?_))))))))
   (zG (yC (PW.pt (zDl (wA zQ6 ?_ (xH vT ?_ ?_) (xI _)) (zDa (wA zQ6 ?_ (xH vT ?_ ?_) (xI _))))) (zH (zO uW)) zS)
   (zH (zO ?_))))))),?_⟩
 nofun
 exists _,rfl,_, "list", _,_,rfl,.lst eD,zB3 K,_,rfl;refine vS ?_;exists _,rfl,D,_,rfl,.inl (SqL.of eD),_,_,rfl,rfl,_,rfl;refine ifD (λl2=>?_) (λl2=>?_)
 ·refine qn H (zZ.refl _) ?_;unfold wV;rw[if_neg (by lia)]
 have hb:wV ss g (wtN ws)=xR ss g (wtN ws) (-1) (0,1) (0,1) (0,1):=by
  unfold wV;rw[if_pos (by lia)]
 exists _,rfl;refine⟨sz2,λt0 ht0=>⟨sz2,λt1 ht1=>⟨sz2,λt2 ht2=>⟨sz3,λtl htl=>?_⟩⟩⟩⟩;have s0:=zF ht0 (.tup [.int 0,.int 1]);have s1:=zF ht1 (.tup [.int 0,.int 1]);have s2:=zF ht2 (.tup [.int 0,.int 1]);have s3:=zF htl (.lst [.ref t0,.ref t1,.ref t2]);have f0:=s3 _ _ (s2 _ _ (s1 _ _ (zD (H:=H) (a:=t0) (o:=.tup [.int 0,.int 1]))));have f1:=s3 _ _ (s2 _ _ (zD (H:=upd H t0 (.tup [.int 0,.int 1])) (a:=t1) (o:=.tup [.int 0,.int 1])));have f2:=s3 _ _ (zD (H:=upd (upd H t0 (.tup [.int 0,.int 1])) t1 (.tup [.int 0,.int 1])) (a:=t2) (o:=.tup [.int 0,.int 1]));have f3:upd (upd (upd (upd H t0 (.tup [.int 0,.int 1])) t1 (.tup [.int 0,.int 1])) t2 (.tup [.int 0,.int 1])) tl (.lst [.ref t0,.ref t1,.ref t2]) tl=some (.lst [.ref t0,.ref t1,.ref t2]):=zD;have s03:=((s0.trans s1).trans s2).trans s3;generalize upd (upd (upd (upd H t0 (.tup [.int 0,.int 1])) t1 (.tup [.int 0,.int 1])) t2 (.tup [.int 0,.int 1])) tl (.lst [.ref t0,.ref t1,.ref t2])=H1 at f0 f1 f2 f3 s03 ⊢;refine⟨_,rfl,D,rfl,.inl ⟨⟨_,SqL.of (s03 _ _ eD)⟩,wD (K:=K) (a:=D) (xs:=zP ws) (λi σ H'=>zZ H H'/\∃(last:Int)(tl a0 a1 a2:Addr)(A B C:Int×Int)(u5:Option V),-1<=last/\H' tl=some (.lst [.ref a0,.ref a1,.ref a2])/\H' a0=some (.tup [.int A.1,.int A.2])/\H' a1=some (.tup [.int B.1,.int B.2])/\H' a2=some (.tup [.int C.1,.int C.2]) /\
   (i=0->A=(0,1)/\B=(0,1)/\C=(0,1))/\(i<=1->Sz A/\Sz B/\Sz C)/\(A.2.natAbs<=10^(40*i)/\B.2.natAbs<=10^(40*i)) /\
   xR ss g ((wtN ws).drop i) last A B C=xR ss g (wtN ws) (-1) (0,1) (0,1) (0,1)/\σ=[some (.ref l),some (.ref a),some (.ref D),some (.int last),some (.ref tl),u5])
  ⟨s03,-1,tl,t0,t1,t2,(0,1),(0,1),(0,1),none,Int.le_refl _,f3,f0,f1,f2,λ_=>⟨rfl,rfl,rfl⟩,λ_=>⟨⟨by decide,by decide⟩,⟨by decide,by decide⟩,⟨by decide,by decide⟩⟩,⟨by decide,by decide⟩,rfl,rfl⟩ (λi σ H' _ ⟨e1,_⟩=>SqL.of (e1 _ _ eD)) ?_ ?_⟩⟩
 ·rintro i v σ H' hi ⟨sH,last,tl,a0,a1,a2,A,B,C,u5,hl1,etl,e0,e1,e2,zero,sml,tw,hg,rfl⟩;rw[List.getElem?_map,List.getElem?_map] at hi;cases gc:ws[i]? with
  | none=>rw[gc] at hi; cases hi
  | some u =>
   rw[gc] at hi;cases hi;have hil:i<ws.length:=(List.getElem?_eq_some_iff.mp gc).1;obtain⟨eu0,ep0⟩:=okw u (List.mem_of_getElem? gc);have bpq:=bw u (List.mem_of_getElem? gc);have eu:=sH _ _ eu0;have ep:=sH _ _ ep0;have dr:(wtN ws).drop i=(u.2.1,u.2.2.2.1,u.2.2.2.2)::(wtN ws).drop (i+1):=by
    rw[List.drop_eq_getElem_cons (by lia)]
    congr 1
    rw[List.getElem_map];have z:=(List.getElem?_eq_some_iff.mp gc).2;rw[z]
   rw[dr] at hg;have bad:¬ (last<u.2.1/\u.2.1<ss.length/\1<=u.2.2.2.1/\1<=u.2.2.2.2)->∀ H2,zZ H' H2->Q .non H2:=λhb' H2 s2=>qn H2 (sH.trans s2) (by rw[hb,<- hg]; exact zGh hb');obtain⟨bA,bB,bC⟩:=sml (by lia);exists _,rfl,_, "tuple", _,_,rfl,.tup eu,qQ K,_,rfl;refine vS ?_;exists _,rfl,u.1,_,rfl,.inr (SqT.of eu),rfl,_,rfl;refine zSz (λz=>absurd rfl z) (λ_=>?_);have eu2:Sq K H' u.1 [.int u.2.1,.ref u.2.2.1]:=.inr (SqT.of eu);exists _,rfl,u.1,_,_,.int u.2.1,rfl,rfl,eu2,rfl,u.2.1,rfl,_,rfl;refine vS ?_;refine⟨_,rfl,u.1,_,_,.ref u.2.2.1,rfl,rfl,eu2,rfl,u.2.2.1,[u.2.2.2.1,u.2.2.2.2],2,rfl,ep,(by show 2<=1000; decide),rfl,λH2 s2=>?_⟩;exists _,rfl;refine vS ?_;have sH2:=sH.trans s2;have eu3:=eu2.same s2;have ep3:Sq K H2 u.2.2.1 [.int u.2.2.2.1,.int u.2.2.2.2]:=.inr (SqT.of (s2 _ _ ep));exists _,rfl,_,rfl,u.1,_,_,.int u.2.1,rfl,rfl,eu3,rfl,_,_,rfl,rfl,_,rfl;refine ifD (λg1=>?_) (λg1=>?_);rotate_left
   ·exists _,rfl;refine uT ?_;exact bad (λz=>g1 z.1) _ s2
   exists _,rfl,l,_,rfl,.inl (SqL.of (sH2 _ _ el)),_,_,rfl,rfl,_,rfl;refine ifN (λg2=>?_) (λg2=>?_)
   ·exact bad (λz=>g2 (by rw[zK]; exact z.2.1)) _ s2
   rw[zK] at g2;exists _,rfl,u.1,_,_,.ref u.2.2.1,rfl,rfl,eu3,rfl,u.2.2.1,_,_,.int u.2.2.2.1,rfl,rfl,ep3,rfl,_,_,rfl,rfl,_,rfl;refine ifD (λg3=>?_) (λg3=>?_)
   ·exact bad (λz=>by lia) _ s2
   exists _,rfl,u.1,_,_,.ref u.2.2.1,rfl,rfl,eu3,rfl,u.2.2.1,_,_,.int u.2.2.2.2,rfl,rfl,ep3,rfl,_,_,rfl,rfl,_,rfl;refine ifD (λg4=>?_) (λg4=>?_)
   ·exact bad (λz=>by lia) _ s2
   exists _,rfl,u.1,_,_,.int u.2.1,rfl,rfl,eu3,rfl;obtain⟨t,mt,gt,att⟩:=yO (ss:=ss) (i:=u.2.1.toNat) (k:=u.2.1) (by lia) (by lia);have ett:=(ok t mt).1;have etl2:=s2 _ _ etl;have okA:zHy H2 [(a0,A),(a1,B),(a2,C)]:=λz hz=>by
    simp only[List.mem_cons,List.not_mem_nil,or_false] at hz;rcases hz with rfl | rfl | rfl
    ·exact s2 _ _ e0
    ·exact s2 _ _ e1
    ·exact s2 _ _ e2
   have smA:∀ z∈([(a0,A),(a1,B),(a2,C)]:List Pr),Sz z.2:=λz hz=>by
    simp only[List.mem_cons,List.not_mem_nil,or_false] at hz;rcases hz with rfl | rfl | rfl
    ·exact bA
    ·exact bB
    ·exact bC
   have sm1:zUn t.2.1:=Nat.le_trans (ok t mt).2.2.1 (by decide);have sm2:zUn t.2.2.1:=Nat.le_trans (ok t mt).2.2.2.1 (by decide);have sm3:zUn t.2.2.2:=(ok t mt).2.2.2.2;have smN:∀ z∈[t.2.1,t.2.2.1,t.2.2.2],zUn z:=λz hz=>by
    simp only[List.mem_cons,List.not_mem_nil,or_false] at hz;rcases hz with rfl | rfl | rfl
    ·exact sm1
    ·exact sm2
    ·exact sm3
   refine⟨_,rfl,_,rfl,_,rfl,u.1,_,_,.int u.2.1,rfl,rfl,eu3,rfl,l,_,_,_,rfl,rfl,.inl (SqL.of (sH2 _ _ el)),att,true,false,tl,t.1,zL [(a0,A),(a1,B),(a2,C)],[t.2.1,t.2.2.1,t.2.2.2].map V.int,rfl,SqL.of etl2,SqT.of (sH2 _ _ ett),λcc D3 hD3=>zE9 (K:=K) (b1:=true) (b2:=false) (l1:=tl) (l2:=t.1) (xs:=zL [(a0,A),(a1,B),(a2,C)]) (ys:=[t.2.1,t.2.2.1,t.2.2.2].map V.int) (λk σ zs G=>zZ H2 G/\G D3=some (.lst zs)/\(∃ bs:List Pr,zs=zL bs/\zHy G bs/\bs.map (·.2)=(([A,B,C].zip [t.2.1,t.2.2.1,t.2.2.2]).map λz=>qL z.1 u.2.2.2.1 u.2.2.2.2 z.2).take k)/\∃ v0 v1:Option V,σ=[v0,v1,some (.ref u.1)])
    ⟨zF hD3 _,zD,⟨[],rfl,(λt ht=>nomatch ht),rfl⟩,none,none,rfl⟩ (λk σ zs G ⟨s,e,_⟩=>⟨SqL.of (s _ _ etl2),SqT.of (s _ _ (sH2 _ _ ett)),e⟩) ?_ ?_⟩
   ·rintro k x y T σ zs G hx hy hT ⟨sG,eD3,⟨bs,rfl,okb,mb⟩,v0,v1,rfl⟩;obtain⟨oa,goa,rfl⟩:=zMx hx;obtain⟨n,gn,rfl⟩:=xW hy;have hk:k<3:=(List.getElem?_eq_some_iff.mp goa).1;have sT:=zF hT (.tup [.ref oa.1,.int n]);have eT:upd G T (.tup [.ref oa.1,.int n]) T=some (.tup [.ref oa.1,.int n]):=zD;have frT:∀ p,upd G T (.tup [.ref oa.1,.int n]) p=none->G p=none:=λp hp=>sT.free hp;generalize upd G T (.tup [.ref oa.1,.int n])=G2 at sT eT frT ⊢;have sG2:=sG.trans sT;exists T,_,rfl,SqT.of eT,rfl,.ref oa.1,_,rfl,.int n,_,rfl,rfl;have soa:=smA oa (List.mem_of_getElem? goa);have sn:=smN n (List.mem_of_getElem? gn);refine⟨_,rfl,_,rfl,u.1,_,_,.ref u.2.2.1,rfl,rfl,eu3.same sG2,rfl,_,rfl,oa.1,u.2.2.1,oa.2,u.2.2.2.1,u.2.2.2.2,n,rfl,SqT.of (sG2 _ _ (okA oa (List.mem_of_getElem? goa))),SqT.of (sG2 _ _ (s2 _ _ ep)),soa.1,soa.2,bpq.up.1,bpq.up.2,sn.up,λr G3 s3 hr3 er3=>?_⟩;have eD4:=s3 _ _ (sT _ _ eD3);have nrD:r≠D3:=λz=>by rw[z,sT _ _ eD3] at hr3; cases hr3
    have lb:bs.length<=3:=by
     have z:=congrArg List.length mb;rw[List.length_map,List.length_take] at z;lia
    refine⟨eD4,zV (by rw[zQ]; lia),(sG2.trans s3).putNew hD3,zD,⟨bs++[(r,qL oa.2 u.2.2.2.1 u.2.2.2.2 n)],by simp[zL],λz hz=>?_,?_⟩,_,_,rfl⟩
    ·rcases List.mem_append.mp hz with hz | hz
     ·have z1:=s3 _ _ (sT _ _ (okb z hz));rw[yA (tZ z1 eD4 (by intro z; cases z))];exact z1
     ·rw[List.mem_singleton] at hz;subst hz;show upd G3 D3 _ r=_;rw[yA nrD];exact er3
    ·have gz:(([A,B,C].zip [t.2.1,t.2.2.1,t.2.2.2]).map λz=>qL z.1 u.2.2.2.1 u.2.2.2.2 z.2)[k]?=some (qL oa.2 u.2.2.2.1 u.2.2.2.2 n):=by
      have g1':([A,B,C]:List (Int×Int))[k]?=some oa.2:=by
       have z:=congrArg (Option.map (·.2)) goa;rw[<- List.getElem?_map] at z;exact z
      rw[List.getElem?_map,(List.getElem?_zip_eq_some (z:=(oa.2,n))).mpr ⟨g1',gn⟩];rfl
     rw[List.map_append,mb,yP gz];rfl
   ·rintro σ zs G ⟨sG,eD3,⟨bs,rfl,okb,mb⟩,v0,v1,rfl⟩;have mb3:bs.map (·.2)=[qL A u.2.2.2.1 u.2.2.2.2 t.2.1,qL B u.2.2.2.1 u.2.2.2.2 t.2.2.1,qL C u.2.2.2.1 u.2.2.2.2 t.2.2.2]:=mb;have lb:bs.length=3:=by
     have z:=congrArg List.length mb3;rw[List.length_map] at z;exact z
    obtain⟨x0,x1,x2,rfl⟩:=zQ0 lb;cases x0 with | mk c0 A' =>
    cases x1 with | mk c1 B' =>
    cases x2 with | mk c2 C' =>
    have eA:A'=qL A u.2.2.2.1 u.2.2.2.2 t.2.1/\B'=qL B u.2.2.2.1 u.2.2.2.2 t.2.2.1/\C'=qL C u.2.2.2.1 u.2.2.2.2 t.2.2.2:=by
     have z:[A',B',C']=[qL A u.2.2.2.1 u.2.2.2.2 t.2.1,qL B u.2.2.2.1 u.2.2.2.2 t.2.2.1,qL C u.2.2.2.1 u.2.2.2.2 t.2.2.2]:=mb3;cases z;exact⟨rfl,rfl,rfl⟩
    obtain⟨rfl,rfl,rfl⟩:=eA;refine⟨sH2.trans sG,u.2.1,D3,c0,c1,c2,_,_,_,_,by lia,eD3,okb _ (List.mem_cons_self ..),okb _ (List.mem_cons_of_mem _ (List.mem_cons_self ..)),okb _ (List.mem_cons_of_mem _ (List.mem_cons_of_mem _ (List.mem_cons_self ..))),λz=>absurd z (Nat.succ_ne_zero _),λhi1=>?_,⟨?_,?_⟩,?_,rfl⟩
    ·obtain⟨zA,zB,zC⟩:=zero (by lia);exact⟨zCr zA bpq sm1,zCr zB bpq sm2,zCr zC bpq sm3⟩
    ·rw[show 40*(i+1)=40*i+40 by lia,Nat.pow_add];exact zI A.2 u.2.2.2.2 tw.1 bpq.2
    ·rw[show 40*(i+1)=40*i+40 by lia,Nat.pow_add];exact zI B.2 u.2.2.2.2 tw.2 bpq.2
    ·rw[<- hg,uF g1 g2 (by lia) (by lia) gt]
 ·rintro σ H' ⟨sH,last,tl,a0,a1,a2,A,B,C,u5,hl1,etl,e0,e1,e2,zero,sml,tw,hg,rfl⟩;rw[nr,List.drop_of_length_le (by lia),xR] at hg;rw[nr] at tw;have p80:10^(40*ws.length)<=10^80:=Nat.pow_le_pow_right (by decide) (by lia);have stl:Sq K H' tl [.ref a0,.ref a1,.ref a2]:=.inl (SqL.of etl);have q0:Sq K H' a0 [.int A.1,.int A.2]:=.inr (SqT.of e0);have q1:Sq K H' a1 [.int B.1,.int B.2]:=.inr (SqT.of e1);have ha':=ha.same sH;exists _,rfl,tl,_,_,.ref a0,rfl,rfl,stl,rfl,a0,_,_,.int A.1,rfl,rfl,q0,rfl,_,rfl,a,_,_,.int g.1,rfl,rfl,ha',rfl,_,rfl,tl,_,_,.ref a0,rfl,rfl,stl,rfl,a0,_,_,.int A.2,rfl,rfl,q0,rfl,_,_,rfl,rfl,cg1 _ (Nat.le_trans tw.1 p80),rfl,_,rfl;refine zSz (λh0=>?_) (λh0=>?_)
  ·refine uT ?_;exact qn H' sH (by rw[hb,<- hg,if_neg (λz=>h0 z.1)])
  exists _,rfl,tl,_,_,.ref a1,rfl,rfl,stl,rfl,a1,_,_,.int B.1,rfl,rfl,q1,rfl,_,rfl,a,_,_,.int g.2.1,rfl,rfl,ha',rfl,_,rfl,tl,_,_,.ref a1,rfl,rfl,stl,rfl,a1,_,_,.int B.2,rfl,rfl,q1,rfl,_,_,rfl,rfl,cg2 _ (Nat.le_trans tw.2 p80),rfl,_,rfl;refine zSz (λh1=>?_) (λh1=>?_)
  ·exact qn H' sH (by rw[hb,<- hg,if_neg (λz=>h1 z.2)])
  rw[if_pos ⟨h0,h1⟩] at hg;exact⟨_,rfl,tl,_,_,.ref a2,rfl,rfl,stl,rfl,q a2 C.1 C.2 H' sH e2 (by rw[hb,<- hg])⟩
def zM9(ss:List (Addr×Int×Int×Int))(x y w:Int):List Bool:=ss.map λt=>decide (t.2.1*x+t.2.2.1*y<=t.2.2.2*w)
def zLc(K:PySem.W.Frag):Sp:=λvs H Q _=>∃(a p:Addr)(ss:List (Addr×Int×Int×Int))(x y w:Int),vs=[.ref a,.ref p]/\H a=some (.lst (ss.map λt=>V.ref t.1))/\ss.length<=1000 /\
 (∀ t∈ss,H t.1=some (.tup [.int t.2.1,.int t.2.2.1,.int t.2.2.2])/\t.2.1.natAbs<=10^18/\t.2.2.1.natAbs<=10^18/\t.2.2.2.natAbs<=10^18)/\H p=some (.tup [.int x,.int y,.int w]) /\
 ∀ H',zZ H H'->Q (.bl ((zM9 ss x y w).all id)) H'
theorem zQ9(F:Fun K "_law_has" "_law_has" zHd f fd)(Z:Zs mg)  : xK P w K mg base CX0 1 f fd ["_law_sides_here", "_law_place"] (zLc K):=by
 specialize zDv
 ·obtain⟨a,p,ss,x,y,w,rfl,_⟩:=h;rfl
 obtain⟨a,p,ss,x,y,wt,rfl,ha,hl,hs,hp,q⟩:=h
 refine'⟨_,(zG (wK (pv 1) (yV rfl (zR (yS 2 zDv.nd) (zR (yS 3 zDv.nd) (zR (yS 4 zDv.nd) yI)))))
   (zH (zO (wM (tT rfl) rfl Z.all zEo (zU (xJ (T:=["_law_a", "_law_b", "_law_c"]) (caps:=[("_law_w", 4),("_law_x", 2),("_law_y", 3)]) ⟨rfl,by decide +kernel,by decide +kernel,rfl,⟨⟨rfl,rfl,Or.inl rfl⟩,⟨rfl,rfl,Or.inl rfl⟩,⟨rfl,rfl,Or.inl rfl⟩,True.intro⟩⟩ rfl (xC (pv 0)) (λ_=>(yV rfl (zR (yS 0 (show(["_law_a", "_law_b", "_law_c", "_law_w", "_law_x", "_law_y"]:List Str).Nodup by decide +kernel)) (zR (yS 1 (show(["_law_a", "_law_b", "_law_c", "_law_w", "_law_x", "_law_y"]:List Str).Nodup by decide +kernel)) (zR (yS 2 (show(["_law_a", "_law_b", "_law_c", "_law_w", "_law_x", "_law_y"]:List Str).Nodup by decide +kernel)) yI))))) (λ_=>yF) (λ_=>?_)) yH))))),?_⟩
 nofun
 exists _,rfl,p,_,rfl,SqT.of hp,rfl,.int x,_,rfl,.int y,_,rfl,.int wt,_,rfl,rfl;refine⟨_,rfl,a,rfl,.inl ⟨⟨_,SqL.of ha⟩,λc D hD=>yM (K:=K) (a:=a) (xs:=ss.map λt=>V.ref t.1) (λi σ ys H'=>H'=upd H D (.lst ys)/\ys=(zM9 (ss.take i) x y wt).map V.bl/\∃ u v z,σ=[u,v,z,some (.int wt),some (.int x),some (.int y)])
  ⟨rfl,rfl,none,none,none,rfl⟩ (λi σ ys H' _ ⟨e,_⟩=>by rw[e]; exact⟨(zF hD _).seq (SqL.of ha),zD⟩) ?_ ?_⟩⟩
 ·rintro i r σ ys H' hi ⟨rfl,rfl,u,v,z,rfl⟩;rw[List.getElem?_map] at hi;cases ht:ss[i]? with
  | none=>rw[ht] at hi; cases hi
  | some t =>
   rw[ht] at hi;cases hi;obtain⟨h1,m1,m2,m3⟩:=hs t (List.mem_of_getElem? ht);have hil:i<ss.length:=(List.getElem?_eq_some_iff.mp ht).1;exists t.1,_,rfl,SqT.of (zF hD _ _ _ h1),rfl,_,_,rfl,_,_,rfl,_,_,rfl,rfl;refine⟨_,rfl,_,rfl,_,_,rfl,rfl,zA9 (by lia),_,rfl,_,rfl,_,_,rfl,rfl,zA9 (by lia),_,_,rfl,rfl,_,rfl,_,rfl,_,_,rfl,rfl,zA9 (by lia),_,_,rfl,rfl,zD,?_,zBe,?_,_,_,_,rfl⟩
   ·refine zV ?_;unfold zM9;rw[List.length_map,List.length_map,List.length_take];lia
   ·unfold zM9;rw[yP ht,List.map_append,List.map_append];rfl
 ·rintro σ ys H' ⟨rfl,rfl,u,v,z,rfl⟩;rw[List.length_map,List.take_length];exact⟨D,zM9 ss x y wt,rfl,SqL.of zD,q _ (zF hD _)⟩
theorem zCe{es:List Sd}{z:P3}{vs:List P3}(m:es.map (·.2)=vs):(zM9 es z.1 z.2.1 z.2.2).all id=true↔∀ e∈vs,sv e z<=0:=by
 rw[<- m];unfold zM9;rw[List.all_map,List.all_eq_true];constructor
 ·intro h e he;obtain⟨t,mt,rfl⟩:=List.mem_map.mp he;have z:t.2.1*z.1+t.2.2.1*z.2.1<=t.2.2.2*z.2.2:=of_decide_eq_true (h t mt);unfold sv;lia
 ·intro h t ht;have z:=h t.2 (List.mem_map_of_mem ht);unfold sv at z;exact decide_eq_true (show t.2.1*_+t.2.2.1*_<=t.2.2.2*_ by lia)
theorem zD6{ss:List Sd}{z:P3} : (zM9 ss z.1 z.2.1 z.2.2).all id=true↔zGv ss z=true:=by
 rw[zCe rfl,rM rfl]
def zA2(K:PySem.W.Frag):Sp:=λvs H Q _=>∃(l c t:Addr)(ss:List Sd)(ps:List Pr)(pp:Bp),vs=[.ref l,.ref c,.ref t]/\H l=some (.lst (zJ ss))/\vP H ss/\ss.length<=300/\H c=some (.lst (zL ps))/\qM H (10^6) ps/\ps.length<=8/\(∀ i<ps.length,atP (ps.map (·.2)) i≠atP (ps.map (·.2)) ((i+1)%ps.length))/\zHu H t pp/\zJi 900 (10^40) (10^50) pp /\
 ∀(b:Bool)(H':Hp),zZ H H'->(b=true↔zF4 ss (ps.map (·.2)) pp)->Q (.bl b) H'
theorem zFx(F:Fun K "_law_good_word" "_law_good_word" vV f fd)(Z:Zs mg)(yCx:Has P w K mg base "_law_has" 1 ["_law_sides_here", "_law_place"] (zLc K))(yCg:Has P w K mg base "_law_bound" 3 ["_law_sides_here", "_law_direction", "_law_weights"] (zF7 K))(yBh:Has P w K mg base "_law_is_clash" 3 ["_law_sides_here", "_law_paper"] (zB7 K))(yAz:Has P w K mg base "_law_bank_rows" 2 ["_law_places"] (sV K)):xK P w K mg base CX0 4 f fd ["_law_sides_here", "_law_places", "_law_paper"] (zA2 K):=by
 specialize yK
 ·obtain⟨l,c,t,ss,ps,pp,rfl,_⟩:=h;rfl
 obtain⟨l,c,T,ss,ps,pp,rfl,el,ok,hlen,ec,pk,p8,ne,pap,hz,q⟩:=h;have hu:=hr.units0
 refine'⟨_,(zG (zX 3 yK.nd ?_)
   (zG (yC ?_ (zH (zO ?_)) zS)
   (zG (yC ?_ (zG (wK ?_ (yV rfl (zR (yS 4 yK.nd) (zR (yS 5 yK.nd) yI))))
   (zG (zX 6 yK.nd ?_)
   (zG (yC (PW.pt (zDl ?_ (zDa (wA (zOg hu) ?_ ?_ (xI _))))) (zH (zO vR)) zS)
   (zH (zO (wM (tT rfl) rfl Z.all zEo (zU (xJ (T:=["_law_p", "_law_q"]) (caps:=[("_law_top", 6),("_law_x", 4),("_law_y", 5)]) ⟨rfl,by decide +kernel,by decide +kernel,rfl,⟨⟨rfl,rfl,Or.inl rfl⟩,⟨rfl,rfl,Or.inl rfl⟩,⟨rfl,rfl,Or.inl rfl⟩,True.intro⟩⟩ rfl (xC (pv 1)) (λ_=>(yV rfl (zR (yS 0 (show(["_law_p", "_law_q", "_law_top", "_law_x", "_law_y"]:List Str).Nodup by decide +kernel)) (zR (yS 1 (show(["_law_p", "_law_q", "_law_top", "_law_x", "_law_y"]:List Str).Nodup by decide +kernel)) yI)))) (λ_=>yF) (λ_=>(vE zS0 (xH vT ?_ ?_) ?_ (xI _)))) yH))))))) zS)
   (zG (yC ?_ (zG (yC ?_ (zH (zO vR)) zS)
   (zG (wU PassesOwn.never rfl (zP5 rfl Z.zip ?_) (yV rfl (zR (yV rfl (zR (yS 7 yK.nd) (zR (yS 8 yK.nd) (zR (yS 9 yK.nd) yI)))) (zR (yS 10 yK.nd) yI))) (zG (zX 6 yK.nd ?_)
   (zH (yC ?_ (zH (zO vR)) zS))))
   (zH (zO vR)))) zS)
   (zG (zKx (i:=11) (j:=12) rfl yK.nd rfl rfl (by decide) rfl rfl ?_ rfl)
   (zG (yC ?_ (zH (zO vR)) zS)
   (zG (yC ?_ (zH (zO vR)) zS)
   (zH (zO ?_))))))))),?_⟩
 nofun
 refine⟨_,rfl,c,ps,rfl,SqL.of ec,pk,p8,ne,λE0 es H1 P1 mes=>?_⟩;have s1:=P1.same
 replace pap:=pap.same s1
 have el1:=s1 _ _ el;have ok1:=ok.same s1;have ec1:=s1 _ _ ec;have pk1:=pk.same s1;have eE:=P1.at';have oke:=P1.all;have nes:es.length=ps.length:=by
  have z:=congrArg List.length mes;unfold yX at z;rw[List.length_map,List.length_map,List.length_range,List.length_map] at z;exact z
 clear P1 el ok ec pk;cases pp with
 | no D cs =>
  obtain⟨et,eD,okc⟩:=pap;have e1:Sq K H1 T [.str "none", .ref D]:=.inr (SqT.of et);exists _,rfl,T,_,_,.str "none", rfl,rfl,e1,rfl,rfl,_,rfl;refine zM6 ?_;exact⟨_,rfl,_,rfl,T,_,_,.ref D,rfl,rfl,e1,rfl,l,D,ss,cs,rfl,el1,ok1,by lia,eD,okc,λb H2 s2 hb=>q b H2 (s1.trans s2) (by rw[<- hb]; exact Iff.rfl)⟩
 | cannot d L X Y ws =>
  obtain⟨et,ed,eL,okw⟩:=pap;obtain⟨bX,bY,_,wsz⟩:=hz;have e1:Sq K H1 T [.str "cannot", .ref d,.ref L]:=.inr (SqT.of et);exists _,rfl,T,_,_,.str "cannot", rfl,rfl,e1,rfl,rfl,_,rfl;refine zD8 (by decide) ?_;exists _,rfl,T,_,_,.str "cannot", rfl,rfl,e1,rfl,rfl,_,rfl;refine zM6 ?_;exists _,rfl,T,_,_,.ref d,rfl,rfl,e1,rfl,d,_,rfl,SqT.of ed,rfl,.int X,_,rfl,.int Y,_,rfl,rfl;refine⟨_,rfl,_,rfl,_,rfl,sz2,λg hg=>?_⟩;have sg:=zF hg (.tup [.int X,.int Y]);have eg:upd H1 g (.tup [.int X,.int Y]) g=some (.tup [.int X,.int Y]):=zD;generalize upd H1 g (.tup [.int X,.int Y])=H2 at sg eg ⊢;refine⟨_,rfl,T,_,_,.ref L,rfl,rfl,e1.same sg,rfl,l,g,L,ss,(X,Y,0),ws,rfl,sg _ _ el1,ok1.same sg,by lia,.inr (SqT.of eg),bX,bY,sg _ _ eL,okw.same sg,wsz,λH3 s3 no=>?_,λr N B H3 s3 er so=>?_⟩
  ·exists _,rfl,rfl,_,rfl;refine uT ?_;refine uT ?_;exact q false H3 ((s1.trans sg).trans s3) ⟨(λz=>nomatch z),λ⟨_,N,B,z,_⟩=>by rw[no] at z; cases z⟩
  exists _,rfl,rfl,_,rfl;refine vS ?_;obtain⟨bN,bB⟩:=zEl so (λu hu=>(ok1 u hu).2.2.2.2) wsz;refine⟨_,rfl,_,rfl,sz2,λg2 hg2=>?_⟩;have sg2:=zF hg2 (.tup [.int X,.int Y]);have eg2:upd H3 g2 (.tup [.int X,.int Y]) g2=some (.tup [.int X,.int Y]):=zD;generalize upd H3 g2 (.tup [.int X,.int Y])=H4 at sg2 eg2 ⊢;refine⟨sz2,λg3 hg3=>?_⟩;have sg3:=zF hg3 (.tup [.int 0,.int 0]);exists g2,g3,[X,Y],[0,0],rfl,rfl,SqT.of (sg3 _ _ eg2),SqT.of zD,_,rfl;have s15:=((sg.trans s3).trans sg2).trans sg3;have er5:=(sg2.trans sg3) _ _ er;generalize upd H4 g3 (.tup [.int 0,.int 0])=H5 at s15 er5 ⊢;refine ifD (λe0=>?_) (λe0=>?_)
  ·injection e0 with z1 z2
   injection z2 with z2 _
   exact q false H5 (s1.trans s15) ⟨(λz=>nomatch z),λ⟨z,_⟩=>absurd z (λy=>y.elim (λh=>h z1) (λh=>h z2))⟩
  have gz:X≠0\/Y≠0:=by
   by_cases z1:X=0
   ·exact .inr λz2=>e0 (by rw[z1,z2])
   ·exact .inl z1
  have ec5:=s15 _ _ ec1;have pk5:=pk1.same s15;refine⟨_,rfl,c,rfl,.inl ⟨⟨_,SqL.of ec5⟩,λcc D hD=>yM (K:=K) (a:=c) (xs:=zL ps) (λi σ ys H'=>H'=upd H5 D (.lst ys)/\ys=(zM5 N B X Y (ps.take i)).map V.bl/\∃ u v:Option V,σ=[u,v,some (.ref r),some (.int X),some (.int Y)])
   ⟨rfl,rfl,none,none,rfl⟩ (λi σ ys H' _ ⟨e,_⟩=>by rw[e]; exact⟨SqL.of (zF hD _ _ _ ec5),zD⟩) ?_ ?_⟩⟩
  ·rintro i v σ ys H' hi ⟨rfl,rfl,u0,v0,rfl⟩;obtain⟨t,gt,rfl,hil⟩:=wO hi;obtain⟨et',b1,b2⟩:=pk5 t (List.mem_of_getElem? gt);have er6:Sq K (upd H5 D (.lst ((zM5 N B X Y (ps.take i)).map V.bl))) r [.int N,.int B]:=.inr (SqT.of (zF hD _ _ _ er5));have bA:(X*t.2.1+Y*t.2.2).natAbs<=10^100:=Nat.le_trans (Nat.le_trans (Int.natAbs_add_le _ _) (Nat.add_le_add (zI _ _ bX b1) (zI _ _ bY b2))) (by decide);exists t.1,_,rfl,SqT.of (zF hD _ _ _ et'),rfl,.int t.2.1,_,rfl,.int t.2.2,_,rfl,rfl;refine⟨_,rfl,_,rfl,_,_,rfl,rfl,zQe (Nat.le_trans b1 (by decide)),_,rfl,_,rfl,_,_,rfl,rfl,zQe (Nat.le_trans b2 (by decide)),_,_,rfl,rfl,_,rfl,r,_,_,.int B,rfl,rfl,er6,rfl,_,_,rfl,rfl,zG0.of bA bB,_,rfl,r,_,_,.int N,rfl,rfl,er6,rfl,_,_,rfl,rfl,zD,zV ?_,zBe,?_,_,_,rfl⟩
   ·unfold zM5;rw[List.length_map,List.length_map,List.length_take];lia
   ·unfold zM5;rw[yP gt,List.map_append,List.map_append];rfl
  ·rintro σ ys H' ⟨rfl,rfl,u0,v0,rfl⟩;rw[zQ,List.take_length];refine⟨D,zM5 N B X Y ps,rfl,SqL.of zD,q _ _ ((s1.trans s15).trans (zF hD _)) ?_⟩;unfold zM5;rw[List.all_map,List.all_eq_true];constructor
   ·intro h;refine⟨gz,N,B,so,λv hv=>?_⟩;obtain⟨t,ht,rfl⟩:=List.mem_map.mp hv;exact of_decide_eq_true (h t ht)
   ·rintro⟨_,N',B',so',h⟩ t ht;rw[so] at so';cases so';exact decide_eq_true (h t.2 (List.mem_map_of_mem ht))
 | can p1 p2 P1 P2 =>
  obtain⟨et,ep1,ep2⟩:=pap;have e1:Sq K H1 T [.str "can", .ref p1,.ref p2]:=.inr (SqT.of et);exists _,rfl,T,_,_,.str "can", rfl,rfl,e1,rfl,rfl,_,rfl;refine zD8 (by decide) ?_;exists _,rfl,T,_,_,.str "can", rfl,rfl,e1,rfl,rfl,_,rfl;refine zD8 (by decide) ?_;exists _,rfl,T,_,_,.str "can", rfl,rfl,e1,rfl,rfl,_,rfl;refine zD8 (by decide) ?_;exists _,rfl,T,_,_,.ref p1,rfl,rfl,e1,rfl,_,rfl,T,_,_,.ref p2,rfl,rfl,e1,rfl;have q1:Sq K H1 p1 [.int P1.1,.int P1.2.1,.int P1.2.2]:=.inr (SqT.of ep1);have q2:Sq K H1 p2 [.int P2.1,.int P2.2.1,.int P2.2.2]:=.inr (SqT.of ep2);exists _,_,rfl;exists _,rfl,p1,_,_,.int P1.2.2,rfl,rfl,q1,rfl,_,rfl,p2,_,_,.int P2.2.2,rfl,rfl,q2,rfl,P1.2.2,P2.2.2,rfl,_,_,rfl,rfl,_,rfl;refine ifD (λhlo=>?_) (λhhi=>?_)
  ·refine q false H1 s1 ⟨(λz=>nomatch z),λ⟨⟨z1,_⟩,⟨z2,_⟩,_⟩=>?_⟩;exfalso;revert hlo;split <;> lia
  have w1:1<=P1.2.2:=by revert hhi; split <;> lia
  have w2:1<=P2.2.2:=by revert hhi; split <;> lia
  have hs:∀{H':Hp}{us:List Sd},vP H' us->∀ t∈us,H' t.1=some (.tup [.int t.2.1,.int t.2.2.1,.int t.2.2.2])/\t.2.1.natAbs<=10^18/\t.2.2.1.natAbs<=10^18/\t.2.2.2.natAbs<=10^18:=λh t ht=>by
   obtain⟨h1,_,h2,h3,h4⟩:=h t ht;exact⟨h1,Nat.le_trans h2 (by decide),Nat.le_trans h3 (by decide),Nat.le_trans h4 (by decide)⟩
  refine⟨_,rfl,_,rfl,l,p1,ss,P1.1,P1.2.1,P1.2.2,rfl,by rw[el1,zAr],by lia,hs ok1,ep1,λH2 s2=>?_⟩;cases c1:(zM9 ss P1.1 P1.2.1 P1.2.2).all id with
  | false =>
   exists _,rfl;refine uT ?_;refine uT ?_;exact q false H2 (s1.trans s2) ⟨(λz=>nomatch z),λz=>by rw[zD6.mpr z.1.2] at c1; cases c1⟩
  | true =>
   exists _,rfl;refine vS ?_;refine⟨_,rfl,_,rfl,l,p2,ss,P2.1,P2.2.1,P2.2.2,rfl,by rw[s2 _ _ el1,zAr],by lia,hs (ok1.same s2),s2 _ _ ep2,λH3 s3=>?_⟩;have s13:=s2.trans s3;cases c2:(zM9 ss P2.1 P2.2.1 P2.2.2).all id with
   | false =>
    exists _,rfl;refine uT ?_;exact q false H3 (s1.trans s13) ⟨(λz=>nomatch z),λz=>by rw[zD6.mpr z.2.1.2] at c2; cases c2⟩
   | true =>
    exists _,rfl;refine vS ?_;refine⟨_,rfl,_,rfl,E0,p1,es,P1.1,P1.2.1,P1.2.2,rfl,by rw[s13 _ _ eE,zAr],by lia,hs (oke.same s13),s13 _ _ ep1,λH4 s4=>?_⟩;have s14:=s13.trans s4;cases c3:(zM9 es P1.1 P1.2.1 P1.2.2).all id with
    | false =>
     exists _,rfl;refine vS ?_;exact q _ H4 (s1.trans s14) ⟨(λz=>nomatch z),λz=>by rw[(zCe mes).mpr z.2.2.1] at c3; cases c3⟩
    | true =>
     exists _,rfl;refine uT ?_;refine⟨_,rfl,_,rfl,E0,p2,es,P2.1,P2.2.1,P2.2.2,rfl,by rw[s14 _ _ eE,zAr],by lia,hs (oke.same s14),s14 _ _ ep2,λH5 s5=>?_⟩;refine⟨_,rfl,q _ H5 ((s1.trans s14).trans s5) ⟨λz=>⟨⟨w1,zD6.mp c1⟩,⟨w2,zD6.mp c2⟩,(zCe mes).mp c3,λy=>?_⟩,λz=>?_⟩⟩
     ·rw[(zCe mes).mpr y] at z;cases z
     ·cases c4:(zM9 es P2.1 P2.2.1 P2.2.2).all id with
      | false=>rfl
      | true=>exact absurd ((zCe mes).mp c4) z.2.2.2
 | must W tl =>
  obtain⟨et,eW,all⟩:=pap;have e1:Sq K H1 T [.str "must", .ref W]:=.inr (SqT.of et);exists _,rfl,T,_,_,.str "must", rfl,rfl,e1,rfl,rfl,_,rfl;refine zD8 (by decide) ?_;exists _,rfl,T,_,_,.str "must", rfl,rfl,e1,rfl,rfl,_,rfl;refine zD8 (by decide) ?_;exists _,rfl,T,_,_,.str "must", rfl,rfl,e1,rfl,rfl,_,rfl;refine zM6 ?_;exists _,rfl,T,_,_,.ref W,rfl,rfl,e1,rfl,W,_,rfl,.inl (SqL.of eW),_,rfl,E0,_,rfl,.inl (SqL.of eE),rfl,_,rfl;rw[yE,zK];refine zSz (λhne=>?_) (λheq=>?_)
  ·refine q false H1 s1 ⟨(λz=>nomatch z),λz=>absurd ?_ hne⟩;have z1:tl.length=(ps.map (·.2)).length:=z.1;rw[List.length_map] at z1;rw[z1,nes]
  have htl:tl.length=es.length:=by lia
  refine⟨_,rfl,_,rfl,T,_,_,.ref W,rfl,rfl,e1,rfl,true,true,E0,W,_,_,rfl,SqL.of eE,SqL.of eW,zT8 (K:=K) (b1:=true) (b2:=true) (l1:=E0) (l2:=W) (xs:=zJ es) (ys:=zW tl) (λi σ H'=>zZ H1 H'/\(∀(j:Nat)(u:Addr×List Wt)(t:Sd),j<i->tl[j]?=some u->es[j]?=some t->∃ N B,wV ss t.2 (wtN u.2)=some (N,B)/\N<=t.2.2.2*B)/\∃ u6 u7 u8 u9 u10:Option V,σ=[some (.ref l),some (.ref c),some (.ref T),some (.ref E0),none,none,u6,u7,u8,u9,u10,none,none])
   ⟨zZ.refl _,(λj u t hj=>nomatch hj),none,none,none,none,none,rfl⟩ (λi σ H' ⟨e,_⟩=>⟨SqL.of (e _ _ eE),SqL.of (e _ _ eW)⟩) ?_ ?_⟩
  ·rintro i x y T2 σ G hx hy hT ⟨sG,hG,u6,u7,u8,u9,u10,rfl⟩;obtain⟨t,gt,rfl,hil⟩:=xZ hx;obtain⟨u,gu,rfl,_⟩:=zGm hy;obtain⟨ett,nt',b1,b2,b3⟩:=oke t (List.mem_of_getElem? gt);obtain⟨a1,a2⟩:=all u (List.mem_of_getElem? gu);have wsz:=(hz.2 u (List.mem_of_getElem? gu)).2;have sT:=zF hT (.tup [.ref t.1,.ref u.1]);have eT:upd G T2 (.tup [.ref t.1,.ref u.1]) T2=some (.tup [.ref t.1,.ref u.1]):=zD;generalize upd G T2 (.tup [.ref t.1,.ref u.1])=G2 at sT eT ⊢;have sG2:=sG.trans sT;exists T2,_,rfl,SqT.of eT,rfl,.ref t.1,_,rfl;exists t.1,_,rfl,SqT.of (sG2 _ _ ett),rfl,.int t.2.1,_,rfl,.int t.2.2.1,_,rfl,.int t.2.2.2,_,rfl,rfl,.ref u.1,_,rfl,rfl;refine⟨_,rfl,_,rfl,_,rfl,sz2,λg hg=>?_⟩;have sg:=zF hg (.tup [.int t.2.1,.int t.2.2.1]);have eg:upd G2 g (.tup [.int t.2.1,.int t.2.2.1]) g=some (.tup [.int t.2.1,.int t.2.2.1]):=zD;generalize upd G2 g (.tup [.int t.2.1,.int t.2.2.1])=G3 at sg eg ⊢;have sG3:=sG2.trans sg;have no:∀{H':Hp},(¬ ∃ N B,wV ss t.2 (wtN u.2)=some (N,B)/\N<=t.2.2.2*B)->zZ H1 H'->Q (.bl false) H':=λ{H'} hn sH=>q false H' (s1.trans sH) ⟨(λz=>nomatch z),λz=>absurd (z.2 i u t.2 gu (by rw[<- mes,List.getElem?_map,gt]; rfl)) hn⟩;refine⟨_,rfl,l,g,u.1,ss,t.2,u.2,rfl,sG3 _ _ el1,ok1.same sG3,by lia,.inr (SqT.of eg),Nat.le_trans b1 (by decide),Nat.le_trans b2 (by decide),sG3 _ _ a1,a2.same sG3,wsz,λG4 s4 z=>?_,λr N B G4 s4 er so=>?_⟩
   ·exists _,rfl,rfl,_,rfl;refine uT ?_;refine uT ?_;exact no (λ⟨N,B,y,_⟩=>by rw[z] at y; cases y) (sG3.trans s4)
   have er':Sq K G4 r [.int N,.int B]:=.inr (SqT.of er);exists _,rfl,rfl,_,rfl;refine vS ?_;exists _,rfl,r,_,_,.int N,rfl,rfl,er',rfl,_,rfl,_,rfl,r,_,_,.int B,rfl,rfl,er',rfl,_,_,rfl,rfl,zA9 (Nat.le_trans b3 (by decide)),_,_,rfl,rfl,_,rfl;refine ifD (λhgt=>?_) (λhle=>?_)
   ·exact no (λ⟨N',B',y,y2⟩=>by rw[so] at y; cases y; lia) (sG3.trans s4)
   ·refine⟨sG3.trans s4,λj u' t' hj g1 g2=>?_,_,_,_,_,_,rfl⟩;by_cases hji:j<i
    ·exact hG j u' t' hji g1 g2
    ·obtain rfl:j=i:=by lia
     rw[gu] at g1;rw[gt] at g2;cases g1;cases g2;exact⟨N,B,so,Int.not_lt.mp hle⟩
  ·rintro σ H' ⟨sH,hG,u6,u7,u8,u9,u10,rfl⟩;refine q true H' (s1.trans sH) ⟨λ_=>⟨by rw[List.length_map]; lia,λi u e gu ge=>?_⟩,λ_=>rfl⟩;rw[<- mes,List.getElem?_map] at ge;cases gt:es[i]? with
   | none=>rw[gt] at ge; cases ge
   | some t =>
    rw[gt] at ge;cases ge;have hi:=(List.getElem?_eq_some_iff.mp gt).1;exact hG i u t (by rw[zK,yE]; lia) gu gt
theorem zSr.app{H0 H H2:Hp}{D p q:Addr}{ws:List Wt}{n a b:Int}(P:zSr H0 D ws H)(s:zZ H H2)(eq':H2 q=some (.tup [.int a,.int b]))(ep:H2 p=some (.tup [.int n,.ref q])) :
  zSr H0 D (ws++[(p,n,q,a,b)]) (upd H2 D (.lst (zP ws++[.ref p]))):=by
 have eD:=s _ _ P.at';have keep:∀(b:Addr)(ys:List V),H2 b=some (.tup ys)->upd H2 D (.lst (zP ws++[.ref p])) b=some (.tup ys):=λb ys e=>by
  rw[yA (tZ e eD (by intro z; cases z))];exact e
 refine⟨(P.same.trans s).putNew P.new,P.new,by rw[zD,vG]; rfl,λt ht=>?_⟩;rcases List.mem_append.mp ht with h | h
 ·obtain⟨h1,h2⟩:=P.all t h;exact⟨keep _ _ (s _ _ h1),keep _ _ (s _ _ h2)⟩
 ·rw[List.mem_singleton] at h;subst h;exact⟨keep _ _ ep,keep _ _ eq'⟩
theorem zPr(tl:List (Addr×List Wt))(lo hi:Option Int):∃ qs:List (Addr×List Wt),qJ (zW tl) lo hi=zW qs/\(∀ t∈qs,t∈tl)/\qs.length<=tl.length:=by
 refine⟨(tl.drop (HT.sIx (zW tl).length 0 lo)).take (HT.sIx (zW tl).length (zW tl).length hi-HT.sIx (zW tl).length 0 lo),?_,λt ht=>List.mem_of_mem_drop (List.mem_of_mem_take ht),?_⟩
 ·show((zW tl).drop _).take _=_;simp only[zW,List.map_drop,List.map_take]
 ·rw[List.length_take,List.length_drop];lia
theorem zMi(tl:List (Addr×List Wt))(j:Nat)(t:Addr×List Wt):(zW tl).set j (.ref t.1)=zW (tl.set j t):=by
 simp[zW,List.map_set]
theorem zTs{tl:List (Addr×List Wt)}{u:Addr×List Wt}(hu:u∈tl){k:Int}(h0:0<=k)(h1:k<2):∃ ms:List (Addr×List Wt),(List.replicate k.toNat [V.ref u.1]).flatten=zW ms/\(∀ v∈ms,v∈tl)/\ms.length<=1:=by
 have c:k=0\/k=1:=by lia
 rcases c with rfl | rfl
 ·exact⟨[],rfl,(λv hv=>nomatch hv),by decide⟩
 ·exact⟨[u],rfl,(λv hv=>by rw[List.mem_singleton] at hv; rw[hv]; exact hu),by show 1<=1; decide⟩
theorem zVe{x:Int}{m:Nat}(h:x.natAbs<=m):(2*x).natAbs<=10*m:=by lia
def zId(K:PySem.W.Frag):Sp:=λvs H Q _=>∃(a t:Addr)(rows:List Int)(pp:Bp)(n mW mD:Nat),vs=[.ref a,.ref t]/\SqL K H a (rows.map V.int)/\5<=rows.length/\(∀ x∈rows,0<=x/\x<1000003)/\zHu H t pp/\zJi n mW mD pp/\n<=100/\10<=mW/\(∀ W tl,pp=.must W tl->tl≠[]) /\
 ∀(t':Addr)(qq:Bp)(H':Hp),zZ H H'->zHu H' t' qq->zJi (2*n+1) (10*mW) (10*mD) qq->Q (.ref t') H'
theorem zPb(F:Fun K "_law_bent" "_law_bent" zD9 f fd)(Z:Zs mg)(yAu:Has P w K mg base "_law_bent_spot" 1 ["_law_d", "_law_place"] (zA8 K))(yAg:Has P w K mg base "_law_bent_weights" 1 ["_law_d", "_law_weights"] (rE K)):xK P w K mg base CX0 2 f fd ["_law_d", "_law_paper"] (zId K):=by
 specialize uL
 ·obtain⟨a,t,rows,pp,n,mW,mD,rfl,_⟩:=h;rfl
 obtain⟨a,t,rows,pp,n,mW,mD,rfl,hS,hl,bd,hp,hz,hn,w10,hmn,q⟩:=h
 refine'⟨_,(zG (yC ?_ (zG (vC (T:=["_law_number", "_law_weight"]) (caps:=[]) (i:=2) uL.nd rfl rfl ⟨rfl,by decide +kernel,by decide +kernel,rfl,True.intro⟩ rfl (zHi ?_) (λ_=>(yV rfl (zR (yS 0 (show(["_law_number", "_law_weight"]:List Str).Nodup by decide +kernel)) (zR (yS 1 (show(["_law_number", "_law_weight"]:List Str).Nodup by decide +kernel)) yI)))) (λ_=>yF) (λ_=>?_))
   (zH (zO (zC5 (zU zGe (zU (xJ (T:=["_law_number", "_law_weight"]) (caps:=[]) ⟨rfl,by decide +kernel,by decide +kernel,rfl,True.intro⟩ rfl (xC ?_) (λ_=>(yV rfl (zR (yS 0 (show(["_law_number", "_law_weight"]:List Str).Nodup by decide +kernel)) (zR (yS 1 (show(["_law_number", "_law_weight"]:List Str).Nodup by decide +kernel)) yI)))) (λ_=>yF) (λ_=>?_)) yH)))))) zS)
   (zG (yC ?_ (zG (wK ?_ (yV rfl (zR (yS 3 uL.nd) (zR (yS 4 uL.nd) yI))))
   (zG (yC ?_ (zH (zO ?_)) zS)
   (zH (zO ?_)))) zS)
   (zG (yC ?_ (zG (zX 2 uL.nd ?_)
   (zG (zX 5 uL.nd ?_)
   (zG (yC ?_ (zG (zX 6 uL.nd (xH zU8 ?_ ?_))
   (zH (zO (zC5 (zU zGe (zU (xH uH (xH uH ?_ (pv 6)) ?_) yH)))))) zS)
   (zG (wK ?_ (zFo (pv 2) (pv 5) rX))
   (zH (zO ?_)))))) zS)
   (zG (zKx (i:=7) (j:=8) rfl uL.nd rfl rfl (by decide) rfl rfl ?_ rfl)
   (zG (zX 9 uL.nd ?_)
   (zH (zO (xH zTz ?_ ?_)))))))),?_⟩
 nofun
 obtain⟨v0,a0,_⟩:=yQ bd (k:=0) (by decide) (by lia);obtain⟨v3,a3,_⟩:=yQ bd (k:=3) (by decide) (by lia);obtain⟨v4,a4,c40,_⟩:=yQ bd (k:=4) (by decide) (by lia);cases pp with
 | no D cs =>
  obtain⟨e,eD,okc⟩:=hp;have nc:cs.length<=n:=hz;exists _,rfl,t,_,_,_,rfl,rfl,.inr (SqT.of e),rfl,rfl,_,rfl;refine zM6 ?_;refine⟨_,rfl,t,_,_,.ref D,rfl,rfl,.inr (SqT.of e),rfl,D,rfl,⟨_,SqL.of eD⟩,λcc D3 hD3=>yM (K:=K) (a:=D) (xs:=zL cs) (λi σ ys G=>∃ ws:List Wt,ys=zP ws/\ws.length=i/\zSr H D3 ws G/\∃ u0 u1:Option V,σ=[u0,u1])
   ⟨[],rfl,rfl,⟨zF hD3 _,hD3,zD,(λt ht=>nomatch ht)⟩,none,none,rfl⟩ (λi σ ys G _ ⟨ws,e1,_,P4,_⟩=>⟨P4.same.seq (SqL.of eD),by rw[e1]; exact P4.at'⟩) ?_ ?_⟩
  ·rintro i x σ ys G hi ⟨ws,rfl,na,P4,u0,u1,rfl⟩;obtain⟨t',gt',rfl,hil⟩:=wO hi;have et':=P4.same _ _ (okc t' (List.mem_of_getElem? gt'));exists t'.1,_,rfl,SqT.of et',rfl,.int t'.2.1,_,rfl,.int t'.2.2,_,rfl,rfl;refine⟨_,rfl,_,rfl,sz2,λp1 hp1=>⟨sz2,λp2 hp2=>?_⟩⟩;have sp1:=zF hp1 (.tup [.int t'.2.2,.int 1]);have sp2:=zF hp2 (.tup [.int t'.2.1,.ref p1]);exact⟨(sp1.trans sp2) _ _ P4.at',zV (by rw[yB]; lia),ws++[(p2,t'.2.1,p1,t'.2.2,1)],by rw[vG]; rfl,by rw[List.length_append,na]; rfl,P4.app (sp1.trans sp2) (sp2 _ _ zD) zD,_,_,rfl⟩
  rintro σ ys G ⟨ws,rfl,na,P4,u0,u1,rfl⟩;rw[zQ] at na;refine⟨_,rfl,_,rfl,a,D3,rows,ws,rfl,P4.same.seq hS,by lia,bd,P4.at',P4.all,by lia,λl' vs G1 s1 el' okv nv _=>?_⟩;refine⟨l',rfl,.inl ⟨⟨_,SqL.of el'⟩,λcc2 D4 hD4=>yM (K:=K) (a:=l') (xs:=zP vs) (λi σ ys G=>∃ ca:List Pr,ys=zL ca/\ca.length=i/\zV2 G1 D4 ca G/\∃ u0 u1:Option V,σ=[u0,u1])
   ⟨[],rfl,rfl,⟨zF hD4 _,hD4,zD,(λt ht=>nomatch ht)⟩,none,none,rfl⟩ (λi σ ys G _ ⟨ca,e1,_,P5,_⟩=>⟨P5.same.seq (SqL.of el'),by rw[e1]; exact P5.at'⟩) ?_ ?_⟩⟩
  ·rintro i x σ ys G2 hi ⟨ca,rfl,na2,P5,u0,u1,rfl⟩;obtain⟨t',gt',rfl,hil⟩:=zCs hi;obtain⟨et1,et2⟩:=(okv.same P5.same) t' (List.mem_of_getElem? gt');exists t'.1,_,rfl,SqT.of et1,rfl,.int t'.2.1,_,rfl,.ref t'.2.2.1,_,rfl,rfl;refine⟨_,rfl,_,rfl,t'.2.2.1,_,_,.int t'.2.2.2.1,rfl,rfl,.inr (SqT.of et2),rfl,sz2,λp hp=>?_⟩;have sp:=zF hp (.tup [.int t'.2.1,.int t'.2.2.2.1]);exact⟨sp _ _ P5.at',zV (by rw[zQ]; lia),ca++[(p,t'.2.1,t'.2.2.2.1)],by rw[wQ]; rfl,by rw[List.length_append,na2]; rfl,P5.app sp hp zD,_,_,rfl⟩
  rintro σ ys G2 ⟨ca,rfl,na2,P5,u0,u1,rfl⟩;rw[yB] at na2;refine⟨sz2,λu hu=>?_⟩;have su:=zF hu (.tup [.str "none", .ref D4]);exact q u (.no D4 ca) _ (((P4.same.trans s1).trans P5.same).trans su) ⟨zD,su _ _ P5.at',P5.all.same su⟩ (show ca.length<=2*n+1 by lia)
 | cannot d L X Y ws =>
  obtain⟨e,ed,eL,okw⟩:=hp;obtain⟨bX,bY,nw,wsz⟩:=hz;have e1:Sq K H t _:=.inr (SqT.of e);exists _,rfl,t,_,_,_,rfl,rfl,e1,rfl,rfl,_,rfl;refine zD8 (by decide) ?_;exists _,rfl,t,_,_,_,rfl,rfl,e1,rfl,rfl,_,rfl;refine zM6 ?_;exists _,rfl,t,_,_,.ref d,rfl,rfl,e1,rfl,d,_,rfl,SqT.of ed,rfl,.int X,_,rfl,.int Y,_,rfl,rfl;exists _,rfl,a,_,_,_,rfl,rfl,.inl hS,a4,_,_,rfl,rfl,gt3,rfl,_,rfl;refine ifE (λ_=>?_) (λ_=>?_)
  ·have c2:∀ j:Int,zJg 2 j:=λj=>.inl ⟨by decide,by decide⟩;refine⟨_,rfl,_,rfl,_,rfl,_,rfl,sz2,λt1 ht1=>?_⟩;have s1:=zF ht1 (.tup [.int (-X),.int (-Y)]);have e1:upd H t1 (.tup [.int (-X),.int (-Y)]) t1=some (.tup [.int (-X),.int (-Y)]):=zD;generalize upd H t1 (.tup [.int (-X),.int (-Y)])=H1 at s1 e1 ⊢;refine⟨_,rfl,_,_,rfl,rfl,c2 _,_,rfl,_,_,rfl,rfl,c2 _,sz2,λt2 ht2=>?_⟩;have s2:=zF ht2 (.tup [.int (2*X),.int (2*Y)]);have e2:upd H1 t2 (.tup [.int (2*X),.int (2*Y)]) t2=some (.tup [.int (2*X),.int (2*Y)]):=zD;generalize upd H1 t2 (.tup [.int (2*X),.int (2*Y)])=H2 at s2 e2 ⊢;refine⟨sz2,λt3 ht3=>?_⟩;have s3:=zF ht3 (.tup [.int 0,.int 0]);have e3:upd H2 t3 (.tup [.int 0,.int 0]) t3=some (.tup [.int 0,.int 0]):=zD;generalize upd H2 t3 (.tup [.int 0,.int 0])=H3 at s3 e3 ⊢;refine⟨_,rfl,_,rfl,sz2,λt4 ht4=>?_⟩;have s4:=zF ht4 (.tup [.int Y,.int X]);have e4:upd H3 t4 (.tup [.int Y,.int X]) t4=some (.tup [.int Y,.int X]):=zD;generalize upd H3 t4 (.tup [.int Y,.int X])=H4 at s4 e4 ⊢;refine⟨by show 4<=sizeLine; decide,λm hm=>?_⟩;have sm:=zF hm (.lst [.ref t1,.ref t2,.ref t3,.ref t4]);have em:upd H4 m (.lst [.ref t1,.ref t2,.ref t3,.ref t4]) m=some (.lst [.ref t1,.ref t2,.ref t3,.ref t4]):=zD;generalize upd H4 m (.lst [.ref t1,.ref t2,.ref t3,.ref t4])=H5 at sm em ⊢;have k3:=s4.trans sm;have k2:=s3.trans k3;have k1:=s2.trans k2;have k0:=s1.trans k1;obtain⟨r,X',Y',g1,g2,g3,g4⟩:∃(r:Addr)(X' Y':Int),atI [.ref t1,.ref t2,.ref t3,.ref t4] (v0%4)=some (V.ref r)/\H5 r=some (.tup [.int X',.int Y'])/\X'.natAbs<=10*mD/\Y'.natAbs<=10*mD:=by
    have cc:v0%4=0\/v0%4=1\/v0%4=2\/v0%4=3:=by lia
    rcases cc with e | e | e | e <;> rw[e]
    ·exact⟨t1,_,_,rfl,k1 _ _ e1,zJk bX,zJk bY⟩
    ·exact⟨t2,_,_,rfl,k2 _ _ e2,zVe bX,zVe bY⟩
    ·exact⟨t3,_,_,rfl,k3 _ _ e3,Nat.zero_le _,Nat.zero_le _⟩
    ·exact⟨t4,_,_,rfl,sm _ _ e4,uS bY,uS bX⟩
   refine⟨_,rfl,a,_,_,_,rfl,rfl,.inl (k0.seq hS),a0,_,_,rfl,rfl,gt4,m,_,_,_,rfl,rfl,.inl (SqL.of em),g1,_,rfl,t,_,_,.ref L,rfl,rfl,.inr (SqT.of (k0 _ _ e)),rfl,sz3,λu hu=>?_⟩;have su:=zF hu (.tup [.str "cannot", .ref r,.ref L]);have sA:=k0.trans su;exact q u (.cannot r L X' Y' ws) _ sA ⟨zD,su _ _ g2,sA _ _ eL,okw.same sA⟩ ⟨g3,g4,by lia,λv hv=>⟨uS (wsz v hv).1,uS (wsz v hv).2⟩⟩
  ·refine⟨_,rfl,_,rfl,sz2,λd2 hd2=>?_⟩;have sd:=zF hd2 (.tup [.int X,.int Y]);have ed2:upd H d2 (.tup [.int X,.int Y]) d2=some (.tup [.int X,.int Y]):=zD;generalize upd H d2 (.tup [.int X,.int Y])=H1 at sd ed2 ⊢;refine⟨_,rfl,_,rfl,t,_,_,.ref L,rfl,rfl,e1.same sd,rfl,a,L,rows,ws,rfl,sd.seq hS,by lia,bd,sd _ _ eL,okw.same sd,by lia,λl' vs H2 s2 el' okv nv tv=>?_⟩;refine⟨sz3,λu hu=>?_⟩;have su:=zF hu (.tup [.str "cannot", .ref d2,.ref l']);have sA:=s2.trans su;exact q u (.cannot d2 l' X Y vs) _ (sd.trans sA) ⟨zD,sA _ _ ed2,su _ _ el',okv.same su⟩ ⟨uS bX,uS bY,by lia,tv mW w10 wsz⟩
 | must W tl =>
  obtain⟨e,eW,all⟩:=hp;obtain⟨nt,hsz⟩:=hz;have tne:=hmn W tl rfl;have e1:Sq K H t _:=.inr (SqT.of e);exists _,rfl,t,_,_,_,rfl,rfl,e1,rfl,rfl,_,rfl;refine zD8 (by decide) ?_;exists _,rfl,t,_,_,_,rfl,rfl,e1,rfl,rfl,_,rfl;refine zD8 (by decide) ?_;exists _,rfl,t,_,_,_,rfl,rfl,e1,rfl,rfl,_,rfl;refine zM6 ?_;refine⟨_,rfl,t,_,_,.ref W,rfl,rfl,e1,rfl,W,_,rfl,.inl (SqL.of eW),λR hR=>?_⟩;have sR:zZ H (upd H R (.lst (zW tl))):=zF hR _;have eR:upd H R (.lst (zW tl)) R=some (.lst (zW tl)):=zD;generalize upd H R (.lst (zW tl))=H0 at sR eR ⊢;have sq:Sq K H0 a (rows.map V.int):=.inl (sR.seq hS);have all0:∀ u∈tl,H0 u.1=some (.lst (zP u.2))/\qG H0 u.2:=λu hu=>⟨sR _ _ (all u hu).1,(all u hu).2.same sR⟩;have nR:∀ u∈tl,u.1≠R:=λu hu=>xB (all u hu).1 hR;have nr:=yE tl;have pos:0<tl.length:=List.length_pos_iff.mpr tne;exists _,rfl,a,_,_,_,rfl,rfl,sq,a3,_,rfl,R,_,rfl,.inl (SqL.of eR),_,_,rfl,rfl,_,_,rfl,rfl,(by rw[nr]; lia);have ke:∃ k:Nat,v3%(((zW tl).length:Int)+1)=(k:Int)/\k<=tl.length:=by
   rw[nr];have z0:=Int.emod_nonneg v3 (show((tl.length:Int)+1)≠0 by lia);have z1:=Int.emod_lt_of_pos v3 (show 0<((tl.length:Int)+1) by lia);exact⟨(v3%((tl.length:Int)+1)).toNat,by lia,by lia⟩
  obtain⟨k,ek,hk⟩:=ke;generalize v3%(((zW tl).length:Int)+1)=at1 at ek ⊢;apply cut0
  ·intro main;exists _,rfl,a,_,_,_,rfl,rfl,sq,a4,_,_,rfl,rfl,gt4,rfl,_,rfl;refine ifE (λ_=>?_) (λ_=>?_)
   ·refine uT ?_;exact main
   exists _,rfl,_,rfl,R,_,rfl,.inl (SqL.of eR),rfl,_,rfl;refine ifE (λ_=>main) (λhne=>?_);have hk':k<tl.length:=by rw[ek,nr] at hne; lia
   have gk:tl[k]?=some tl[k]:=List.getElem?_eq_getElem hk';have at':atI (zW tl) at1=some (.ref tl[k].1):=by
    rw[ek];exact sW (by rw[List.getElem?_map,List.getElem?_map,gk]; rfl)
   have ixn:ixN (zW tl).length at1=some k:=by
    unfold ixN;rw[ek,nr,if_pos (show(0:Int)<=(k:Int) by lia),if_pos (show(k:Int)<(tl.length:Int) by lia),Int.toNat_natCast]
   obtain⟨b1,b2⟩:=all0 tl[k] (List.getElem_mem _);obtain⟨z1,z2⟩:=hsz tl[k] (List.getElem_mem _);refine⟨_,rfl,_,rfl,_,rfl,R,_,_,_,rfl,rfl,.inl (SqL.of eR),at',a,tl[k].1,rows,tl[k].2,rfl,sR.seq hS,by lia,bd,b1,b2,by lia,λl' vs H2 s2 el' okv nv tv=>?_⟩;have eR2:=s2 _ _ eR;have all2:∀ u∈tl,H2 u.1=some (.lst (zP u.2))/\qG H2 u.2:=λu hu=>⟨s2 _ _ (all0 u hu).1,(all0 u hu).2.same s2⟩;have nl:l'≠R:=λz=>by
    rw[z,eR2] at el';injection el' with el'
    injection el' with el'
    cases tl with
    | nil=>exact tne rfl
    | cons u us =>
     cases vs with
     | nil=>cases el'
     | cons v vs =>
      injection el' with h1 _
      injection h1 with h1
      have y1:=(all2 u (List.mem_cons_self ..)).1;have y2:=(okv v (List.mem_cons_self ..)).1;have h1:u.1=v.1:=h1;rw[h1,y2] at y1;cases y1
   exists _,rfl,_,rfl,R,_,_,k,rfl,rfl,eR2,ixn;have e5:upd H2 R (.lst ((zW tl).set k (.ref l'))) R=some (.lst (zW (tl.set k (l',vs)))):=by rw[zD,<- zMi]
   have keepT:∀(b:Addr)(ys:List V),H2 b=some (.tup ys)->upd H2 R (.lst ((zW tl).set k (.ref l'))) b=some (.tup ys):=λb ys e=>by
    rw[yA (tZ e eR2 (by intro z; cases z))];exact e
   have keepW:∀{ws:List Wt},qG H2 ws->qG (upd H2 R (.lst ((zW tl).set k (.ref l')))) ws:=λh v hv=>⟨keepT _ _ (h v hv).1,keepT _ _ (h v hv).2⟩;have all5:∀ u∈tl.set k (l',vs),upd H2 R (.lst ((zW tl).set k (.ref l'))) u.1=some (.lst (zP u.2))/\qG (upd H2 R (.lst ((zW tl).set k (.ref l')))) u.2:=λu hu=>by
    rcases List.mem_or_eq_of_mem_set hu with h | h
    ·exact⟨by rw[yA (nR u h)]; exact(all2 u h).1,keepW (all2 u h).2⟩
    ·subst h;exact⟨by rw[yA nl]; exact el',keepW okv⟩
   have s5:zZ H (upd H2 R (.lst ((zW tl).set k (.ref l')))):=(sR.trans s2).putNew hR;generalize upd H2 R (.lst ((zW tl).set k (.ref l')))=H5 at e5 all5 s5 ⊢;refine⟨_,rfl,sz2,λu hu=>?_⟩;have su:=zF hu (.tup [.str "must", .ref R]);refine q u (.must R (tl.set k (l',vs))) _ (s5.trans su) ⟨zD,su _ _ e5,λv hv=>⟨su _ _ (all5 v hv).1,(all5 v hv).2.same su⟩⟩ ⟨by rw[List.length_set]; lia,λv hv=>?_⟩;rcases List.mem_or_eq_of_mem_set hv with h | h
   ·obtain⟨y1,y2⟩:=hsz v h;exact⟨by lia,λw hw=>⟨uS (y2 w hw).1,uS (y2 w hw).2⟩⟩
   ·subst h;exact⟨by show vs.length<=_; lia,tv mW w10 z2⟩
  obtain⟨u0,us,etl⟩:∃ u0 us,tl=u0::us:=by
   cases tl with
   | nil=>exact absurd rfl tne
   | cons u us=>exact⟨u,us,rfl⟩
  have m0:u0∈tl:=by rw[etl]; exact List.mem_cons_self ..
  have at0:atI (zW tl) 0=some (.ref u0.1):=by rw[etl,show(0:Int)=((0:Nat):Int) from rfl]; exact sW rfl
  have g0:=Int.emod_nonneg (v4/4) (show(2:Int)≠0 by decide);have g1:=Int.emod_lt_of_pos (v4/4) (show(0:Int)<2 by decide);obtain⟨ms,ems,mms,nms⟩:=zTs m0 g0 g1;obtain⟨q1,cq1,mq1,nq1⟩:=zPr tl none (some at1);obtain⟨q3,cq3,mq3,nq3⟩:=zPr tl (some (at1+v4/8%2)) none;refine⟨_,rfl,R,_,_,.ref u0.1,rfl,rfl,.inl (SqL.of eR),at0,sz1,λf0 hf0=>?_⟩;have sf0:=zF hf0 (.lst [.ref u0.1]);have ef0:upd H0 f0 (.lst [.ref u0.1]) f0=some (.lst [.ref u0.1]):=zD;generalize upd H0 f0 (.lst [.ref u0.1])=G0 at sf0 ef0 ⊢;refine⟨_,rfl,a,_,_,_,rfl,rfl,sq.same sf0,a4,_,_,rfl,rfl,sC.of (by decide) (by decide +kernel),_,_,rfl,rfl,gt2,f0,_,_,rfl,rfl,ef0,(by lia),(by lia),Nat.le_trans (show 1*(v4/4%2).toNat<=1 by lia) (by decide),λf1 hf1=>?_⟩;rw[ems];have sf1:=zF hf1 (.lst (zW ms));have ef1:upd G0 f1 (.lst (zW ms)) f1=some (.lst (zW ms)):=zD;generalize upd G0 f1 (.lst (zW ms))=G1 at sf1 ef1 ⊢;have s01:=sf0.trans sf1;refine⟨_,rfl,_,rfl,_,rfl,R,_,rfl,SqL.of (s01 _ _ eR),λf2 hf2=>?_⟩;rw[cq1];have sf2:=zF hf2 (.lst (zW q1));have ef2:upd G1 f2 (.lst (zW q1)) f2=some (.lst (zW q1)):=zD;generalize upd G1 f2 (.lst (zW q1))=G2 at sf2 ef2 ⊢;refine⟨_,rfl,f2,f1,_,_,rfl,rfl,ef2,sf2 _ _ ef1,small (by rw[yE,yE]; lia),λf3 hf3=>?_⟩;have sf3:=zF hf3 (.lst (zW q1++zW ms));have ef3:upd G2 f3 (.lst (zW q1++zW ms)) f3=some (.lst (zW (q1++ms))):=by rw[zD,zAo]
  generalize upd G2 f3 (.lst (zW q1++zW ms))=G3 at sf3 ef3 ⊢;have s03:=(s01.trans sf2).trans sf3;refine⟨_,rfl,_,rfl,_,rfl,a,_,_,_,rfl,rfl,sq.same s03,a4,_,_,rfl,rfl,sC.of (by decide) (by decide +kernel),_,_,rfl,rfl,gt2,_,_,rfl,rfl,_,rfl,R,_,rfl,SqL.of (s03 _ _ eR),λf4 hf4=>?_⟩;rw[cq3];have sf4:=zF hf4 (.lst (zW q3));have ef4:upd G3 f4 (.lst (zW q3)) f4=some (.lst (zW q3)):=zD;generalize upd G3 f4 (.lst (zW q3))=G4 at sf4 ef4 ⊢;refine⟨f3,f4,_,_,rfl,rfl,sf4 _ _ ef3,ef4,small (by rw[yE,yE,List.length_append]; lia),λf5 hf5=>?_⟩;have sf5:=zF hf5 (.lst (zW (q1++ms)++zW q3));have ef5:upd G4 f5 (.lst (zW (q1++ms)++zW q3)) f5=some (.lst (zW (q1++ms++q3))):=by rw[zD,zAo _ q3]
  generalize upd G4 f5 (.lst (zW (q1++ms)++zW q3))=G5 at sf5 ef5 ⊢;refine⟨sz2,λu hu=>?_⟩;have su:=zF hu (.tup [.str "must", .ref f5]);have sA:=((s03.trans sf4).trans sf5).trans su;have mem:∀ v∈q1++ms++q3,v∈tl:=λv hv=>by
   rcases List.mem_append.mp hv with hv | hv
   ·rcases List.mem_append.mp hv with hv | hv
    ·exact mq1 v hv
    ·exact mms v hv
   ·exact mq3 v hv
  exact q u (.must f5 (q1++ms++q3)) _ (sR.trans sA) ⟨zD,su _ _ ef5,λv hv=>⟨sA _ _ (all0 v (mem v hv)).1,(all0 v (mem v hv)).2.same sA⟩⟩ ⟨by rw[List.length_append,List.length_append]; lia,λv hv=>⟨by have:=(hsz v (mem v hv)).1; lia,λw hw=>⟨uS ((hsz v (mem v hv)).2 w hw).1,uS ((hsz v (mem v hv)).2 w hw).2⟩⟩⟩
 | can p r P R =>
  obtain⟨e,ep,er⟩:=hp;have e1:Sq K H t _:=.inr (SqT.of e);exists _,rfl,t,_,_,_,rfl,rfl,e1,rfl,rfl,_,rfl;refine zD8 (by decide) ?_;exists _,rfl,t,_,_,_,rfl,rfl,e1,rfl,rfl,_,rfl;refine zD8 (by decide) ?_;exists _,rfl,t,_,_,_,rfl,rfl,e1,rfl,rfl,_,rfl;refine zD8 (by decide) ?_;have cutD:qJ (rows.map V.int) (some 1) none=(rows.drop 1).map V.int:=by
   rw[zAf,show(1:Int)=((1:Nat):Int) from rfl,HT.sIx_nat rows.length 0 1,show min 1 rows.length=1 by lia,show HT.sIx rows.length rows.length none=rows.length from rfl,List.take_of_length_le (by rw[List.length_drop]; lia)]
  exists _,rfl,t,_,_,.ref p,rfl,rfl,e1,rfl,_,rfl,t,_,_,.ref r,rfl,rfl,e1,rfl;exists _,_,rfl;refine⟨_,rfl,_,rfl,sz2,λt1 ht1=>?_⟩;have s1:=zF ht1 (.tup [.ref r,.ref p]);have e1:upd H t1 (.tup [.ref r,.ref p]) t1=some (.tup [.ref r,.ref p]):=zD;generalize upd H t1 (.tup [.ref r,.ref p])=H1 at s1 e1 ⊢;refine⟨_,rfl,_,rfl,sz2,λt2 ht2=>?_⟩;have s2:=zF ht2 (.tup [.ref p,.ref p]);have e2:upd H1 t2 (.tup [.ref p,.ref p]) t2=some (.tup [.ref p,.ref p]):=zD;generalize upd H1 t2 (.tup [.ref p,.ref p])=H2 at s2 e2 ⊢;have s12:=s1.trans s2;refine⟨_,rfl,_,rfl,a,_,rfl,s12.seq hS,λc1 hc1=>?_⟩;rw[cutD];have sc:=zF hc1 (.lst ((rows.drop 1).map V.int));refine⟨_,rfl,c1,p,rows.drop 1,P.1,P.2.1,P.2.2,rfl,SqL.of zD,by rw[List.length_drop]; lia,λx hx=>bd x (List.mem_of_mem_drop hx),sc _ _ (s12 _ _ ep),λp1 x1 y1 z1 H3 s3 ep1 _=>?_⟩;have s13:=(s12.trans sc).trans s3;have s23:=(s2.trans sc).trans s3;have sc3:=sc.trans s3;refine⟨_,rfl,sz2,λt3 ht3=>?_⟩;have s4:=zF ht3 (.tup [.ref p1,.ref r]);have e3:upd H3 t3 (.tup [.ref p1,.ref r]) t3=some (.tup [.ref p1,.ref r]):=zD;generalize upd H3 t3 (.tup [.ref p1,.ref r])=H4 at s4 e3 ⊢;have s14:=s13.trans s4;refine⟨_,rfl,_,rfl,_,rfl,a,_,rfl,s14.seq hS,λc2 hc2=>?_⟩;rw[cutD];have sd:=zF hc2 (.lst ((rows.drop 1).map V.int));refine⟨_,rfl,c2,r,rows.drop 1,R.1,R.2.1,R.2.2,rfl,SqL.of zD,by rw[List.length_drop]; lia,λx hx=>bd x (List.mem_of_mem_drop hx),sd _ _ (s14 _ _ er),λr1 x2 y2 z2 H5 s5 er1 _=>?_⟩;have s45:=sd.trans s5;have s15:=s14.trans s45;refine⟨sz2,λt4 ht4=>?_⟩;have s6:=zF ht4 (.tup [.ref p,.ref r1]);have e4:upd H5 t4 (.tup [.ref p,.ref r1]) t4=some (.tup [.ref p,.ref r1]):=zD;generalize upd H5 t4 (.tup [.ref p,.ref r1])=H6 at s6 e4 ⊢;refine⟨by show 4<=sizeLine; decide,λm hm=>?_⟩;have sm:=zF hm (.lst [.ref t1,.ref t2,.ref t3,.ref t4]);have em:upd H6 m (.lst [.ref t1,.ref t2,.ref t3,.ref t4]) m=some (.lst [.ref t1,.ref t2,.ref t3,.ref t4]):=zD;generalize upd H6 m (.lst [.ref t1,.ref t2,.ref t3,.ref t4])=H7 at sm em ⊢;have s67:=s6.trans sm;have s47:=s45.trans s67;have s37:=s4.trans s47;have s27:=sc3.trans s37;have s07:=s15.trans s67;refine⟨sz1,λw1 hw1=>?_⟩;have sw:=zF hw1 (.tup [.str "can"]);have ew:upd H7 w1 (.tup [.str "can"]) w1=some (.tup [.str "can"]):=zD;generalize upd H7 w1 (.tup [.str "can"])=H8 at sw ew ⊢;have s08:=s07.trans sw;have ep8:=s08 _ _ ep;have er8:=s08 _ _ er;obtain⟨u,b1,b2,B1,B2,g1,g2,g3,g4⟩:∃(u b1 b2:Addr)(B1 B2:P3),atI [.ref t1,.ref t2,.ref t3,.ref t4] (v0%4)=some (V.ref u)/\H8 u=some (.tup [.ref b1,.ref b2])/\H8 b1=some (.tup [.int B1.1,.int B1.2.1,.int B1.2.2])/\H8 b2=some (.tup [.int B2.1,.int B2.2.1,.int B2.2.2]):=by
   have cc:v0%4=0\/v0%4=1\/v0%4=2\/v0%4=3:=by lia
   rcases cc with e | e | e | e <;> rw[e]
   ·exact⟨t1,r,p,R,P,rfl,sw _ _ ((s2.trans s27) _ _ e1),er8,ep8⟩
   ·exact⟨t2,p,p,P,P,rfl,sw _ _ (s27 _ _ e2),ep8,ep8⟩
   ·exact⟨t3,p1,r,(x1,y1,z1),R,rfl,sw _ _ (s47 _ _ e3),sw _ _ (s37 _ _ ep1),er8⟩
   ·exact⟨t4,p,r1,P,(x2,y2,z2),rfl,sw _ _ (sm _ _ e4),ep8,sw _ _ (s67 _ _ er1)⟩
  refine⟨_,rfl,_,rfl,a,_,_,_,rfl,rfl,.inl (s08.seq hS),a0,_,_,rfl,rfl,gt4,m,_,_,_,rfl,rfl,.inl (SqL.of (sw _ _ em)),g1,w1,u,_,_,rfl,rfl,SqT.of ew,SqT.of g2,(λz=>nomatch z),sz3,(λz=>nomatch z),λ_ pn hpn=>?_⟩;have sn:=zF hpn (.tup ([V.str "can"]++[.ref b1,.ref b2]));exact q pn (.can b1 b2 B1 B2) _ (s08.trans sn) ⟨zD,sn _ _ g3,sn _ _ g4⟩ trivial
theorem zKq(u v:Int×Int):crs u v u=0/\crs u v v=0:=by
 unfold crs;constructor
 ·rw[Int.sub_self,Int.sub_self,Int.mul_zero,Int.mul_zero];rfl
 ·rw[Int.mul_comm,Int.sub_self]
theorem zPo{vs:List (Int×Int)}(h:zDm vs){p:Int×Int}(mp:p∈vs){e:P3}(me:e∈yX vs):sv e (p.1,p.2,1)<=0:=by
 obtain⟨i,hi,rfl⟩:=List.mem_map.mp me;have hi:=List.mem_range.mp hi;obtain⟨k,hk,rfl⟩:=List.getElem_of_mem mp;have n3:=h.len.1;have ek:vs[k]=atP vs k:=by
  unfold atP;rw[List.getElem?_eq_getElem hk];rfl
 rw[ek];have ne:=zDm.ne h i hi;have cr:0<=crs (atP vs i) (atP vs ((i+1)%vs.length)) (atP vs k):=by
  by_cases c1:k=i
  ·rw[c1,(zKq _ _).1];exact Int.le_refl _
  ·by_cases c2:k=(i+1)%vs.length
   ·rw[<- c2,(zKq _ _).2];exact Int.le_refl _
   ·exact Int.le_of_lt (zIj h hi hk c1 c2)
 generalize atP vs i=u at ne cr ⊢;generalize atP vs ((i+1)%vs.length)=v at ne cr ⊢;generalize atP vs k=r at cr ⊢;have gp:0<yD (yT u v):=by
  by_cases c:v.2-u.2=0
  ·exact xO (n:=-(v.1-u.1)) (by simp[yT]) λz=>ne (Prod.ext (by lia) (by lia))
  ·exact xO (n:=v.2-u.2) (by simp[yT]) c
 have sc:=zRn u v r;show(v.2-u.2)/(yD (yT u v):Int)*r.1 + -(v.1-u.1)/(yD (yT u v):Int)*r.2-(u.1*(v.2-u.2)-u.2*(v.1-u.1))/(yD (yT u v):Int)*1<=0;rw[Int.mul_one];by_cases c:crs u v r=0
 ·have z:=zVj (x:=r.1) (y:=r.2) gp (show(v.2-u.2)*r.1 + -(v.1-u.1)*r.2-(u.1*(v.2-u.2)-u.2*(v.1-u.1))=0 by lia);unfold yT;lia
 ·have z:=zWi (x:=r.1) (y:=r.2) gp (show(v.2-u.2)*r.1 + -(v.1-u.1)*r.2-(u.1*(v.2-u.2)-u.2*(v.1-u.1))<0 by lia);unfold yT;lia
theorem zA0.wt{ss:List Sd}{cs:List (Int×Int)}(h:zA0 ss cs):∀ c∈cs,c.2.natAbs<=10^19:=by
 rcases h with ⟨i,j,u,v,s,t,rfl,_,_,_,h1,h2,h3,h4,_⟩ | ⟨i,j,k,u,v,x,s,t,r,rfl,_,_,_,_,_,h1,h2,h3,h4,h5,h6,_⟩
 ·intro c hc;simp only[List.mem_cons,List.not_mem_nil,or_false] at hc;rcases hc with rfl | rfl
  ·show u.natAbs<=_; lia
  ·show v.natAbs<=_; lia
 ·intro c hc;simp only[List.mem_cons,List.not_mem_nil,or_false] at hc;rcases hc with rfl | rfl | rfl
  ·show u.natAbs<=_; lia
  ·show v.natAbs<=_; lia
  ·show x.natAbs<=_; lia
theorem zO6{ss:List Sd}{f:Sd->Int}{b:Nat}(h:∀ t∈ss,(f t).natAbs<=b)(n:Int):(yJ ss f n).natAbs<=b:=by
 unfold yJ;cases g:ss[n.toNat]? with
 | none=>exact Nat.zero_le _
 | some t=>exact h t (List.mem_of_getElem? g)
def woT(t:Wo):Wt:=(t.1,t.2.2.1,t.2.1,t.2.2.2,1)
theorem zBg{H:Hp}{ss es:List Sd}{vs:List (Int×Int)}{T d L:Addr}{ws:List Wo}{cs:List Pr}(ok:vP H ss)(eT:H T=some (.tup [.str "cannot", .ref d,.ref L]))(ed:H d=some (.tup [.int (uU ss (fAt 0) ((wF ss.length cs).map (·.2)) 0),.int (uU ss (fAt 1) ((wF ss.length cs).map (·.2)) 0)]))
  (eL:H L=some (.lst (zEb ws))) (okw:zQl H ws) (mws:ws.map (·.2.2)=(wF ss.length cs).map (·.2)) (mes:es.map (·.2)=yX vs) (cl:zA0 (ss++es) (cs.map (·.2))) (here:∃ z:P3,0<z.2.2/\inW ss z) :
  ∃(X Y:Int)(wt:List Wt),zHu H T (.cannot d L X Y wt)/\zJi 8 (10^20) (10^40) (.cannot d L X Y wt)/\(zDm vs->zF4 ss vs (.cannot d L X Y wt)):=by
 obtain⟨aw,ap⟩:=zTp.of cl.b;rw[zM1] at ed mws;have few:=ap.few here;have wN:wtN (ws.map woT)=(tO ss.length (cs.map (·.2))).map λu=>(u.1,u.2,1):=by
  rw[<- mws];unfold wtN;rw[List.map_map,List.map_map];rfl
 have lw:ws.length<=2:=by
  have z:=congrArg List.length mws;rw[List.length_map] at z;lia
 have cw:∀ c∈tO ss.length (cs.map (·.2)),c.2.natAbs<=10^19:=λc hc=>cl.wt c (List.mem_filter.mp hc).1;have sz:∀ k:Int,(∀ t∈ss,(fAt k t).natAbs<=10^9)->(uU ss (fAt k) (tO ss.length (cs.map (·.2))) 0).natAbs<=10^40:=λk hk=>by
  rw[zC8,Int.zero_add];refine Nat.le_trans (zKo (b:=10^19*10^9) λc hc=>zI c.2 _ (cw c hc) (zO6 hk c.1)) ?_;exact Nat.le_trans (Nat.mul_le_mul_right _ few) (by decide)
 refine⟨_,_,ws.map woT,⟨eT,ed,?_,λt ht=>?_⟩,⟨sz 0 λt ht=>(ok t ht).2.2.1,sz 1 λt ht=>(ok t ht).2.2.2.1,by rw[List.length_map]; lia,λu hu=>?_⟩,λbs=>⟨?_,uU ss (fAt 2) (tO ss.length (cs.map (·.2))) 0,1,?_,λv hv=>?_⟩⟩
 ·rw[eL];simp[zEb,zP,woT]
 ·obtain⟨u,mu,rfl⟩:=List.mem_map.mp ht;exact okw u mu
 ·obtain⟨t,mt,rfl⟩:=List.mem_map.mp hu;have z:=cw t.2.2 (by rw[<- mws]; exact List.mem_map_of_mem mt);exact⟨Nat.le_trans z (by decide),by show(1:Int).natAbs<=_; decide⟩
 ·by_cases c:uU ss (fAt 0) (tO ss.length (cs.map (·.2))) 0=0/\uU ss (fAt 1) (tO ss.length (cs.map (·.2))) 0=0
  ·obtain⟨z,zw,wz⟩:=here;have i1:=ap.ins z wz;have n3:=bs.len.1;have mv:vs[0]∈vs:=List.getElem_mem (show 0<vs.length by lia);have i2:=ap.out (vs[0].1,vs[0].2,1) (by show(0:Int)<1; decide) λt ht=>zPo bs mv (by rw[<- mes]; exact List.mem_map_of_mem ht);rw[c.1,c.2,Int.zero_mul,Int.zero_mul] at i1 i2;have i3:uU ss (fAt 2) (tO ss.length (cs.map (·.2))) 0*1<0+0:=i2;have i4:=Int.mul_neg_of_neg_of_pos (show uU ss (fAt 2) (tO ss.length (cs.map (·.2))) 0<0 by lia) zw;lia
  ·by_cases c0:uU ss (fAt 0) (tO ss.length (cs.map (·.2))) 0=0
   ·exact .inr λz=>c ⟨c0,z⟩
   ·exact .inl c0
 ·rw[wN];unfold wV;rw[if_pos (by rw[List.length_map]; exact few)];have k:=zB2 (ss:=ss) (g:=(uU ss (fAt 0) (tO ss.length (cs.map (·.2))) 0,uU ss (fAt 1) (tO ss.length (cs.map (·.2))) 0,0)) (cs.map (·.2)) (-1) 0 0 0 (Int.le_refl _) aw (zC8 ..).symm (zC8 ..).symm;rw[k,<- zC8]
 ·have i2:=ap.out (v.1,v.2,1) (by show(0:Int)<1; decide) λt ht=>zPo bs hv (by rw[<- mes]; exact List.mem_map_of_mem ht);have i3:uU ss (fAt 2) (tO ss.length (cs.map (·.2))) 0*1<uU ss (fAt 0) (tO ss.length (cs.map (·.2))) 0*v.1+uU ss (fAt 1) (tO ss.length (cs.map (·.2))) 0*v.2:=i2;rw[Int.mul_one];lia
theorem zEy{H:Hp}{ss:List Sd}{vs:List (Int×Int)}{T W:Addr}{tl:List (Addr×List Wt)}(ok:vP H ss)(v8:vs.length<=8)(eT:H T=some (.tup [.str "must", .ref W]))(eW:H W=some (.lst (zW tl)))(all:∀ u∈tl,u.1≠W/\H u.1=some (.lst (zP u.2))/\qG H u.2)(nt:tl.length=vs.length)
  (each:∀(j:Nat)(u:Addr×List Wt)(e:P3),tl[j]?=some u->(yX vs)[j]?=some e->∃ P:P3,0<P.2.2/\Far ss e P (wtN u.2)/\sv e P<=0) :
  zHu H T (.must W tl)/\zJi 8 (10^20) (10^40) (.must W tl)/\zF4 ss vs (.must W tl):=by
 have ne:(yX vs).length=vs.length:=by
  unfold yX;rw[List.length_map,List.length_range]
 refine⟨⟨eT,eW,λu hu=>(all u hu).2⟩,⟨by lia,λu hu=>?_⟩,nt,λj u e gj ge=>?_⟩
 ·obtain⟨j,hj,ej⟩:=List.getElem_of_mem hu;have he:j<(yX vs).length:=by lia
  obtain⟨P,_,fr,_⟩:=each j u (yX vs)[j] (by rw[List.getElem?_eq_getElem hj,ej]) (List.getElem?_eq_getElem he);obtain⟨l2,lo⟩:=fr.low;rw[List.length_map] at l2;refine⟨by lia,λw hw=>?_⟩;obtain⟨k1,_,k2,k3⟩:=lo (w.2.1,w.2.2.2) (List.mem_map_of_mem hw);exact⟨Nat.le_trans k2 (by decide),Nat.le_trans k3 (by decide)⟩
 ·obtain⟨P,pw,fr,le⟩:=each j u e gj ge;obtain⟨x,y,bf,eq,_⟩:=fr.bound λt ht=>(ok t ht).2.2.2.2;exact⟨x,y,bf,zTd (ss:=ss) (ws:=wtN u.2) (zM2 bf) pw eq le⟩
theorem zS4{ok:Addr->Bp->Hp->Prop}{G:Prop}{R:Addr->Hp->Prop}(h1:(∀ t pp H,ok t pp H->R t H)->G)(h2:∀ t pp H,ok t pp H->R t H):G:=h1 h2
theorem zJi.mono{n n' a a' b b':Nat}{pp:Bp}(h:zJi n a b pp)(h1:n<=n')(h2:a<=a')(h3:b<=b'):zJi n' a' b' pp:=by
 cases pp with
 | no D cs=>exact Nat.le_trans h h1
 | cannot d L X Y ws=>exact⟨Nat.le_trans h.1 h3,Nat.le_trans h.2.1 h3,Nat.le_trans h.2.2.1 h1,λt ht=>⟨Nat.le_trans (h.2.2.2 t ht).1 h2,Nat.le_trans (h.2.2.2 t ht).2 h2⟩⟩
 | must W tl=>exact⟨Nat.le_trans h.1 h1,λu hu=>⟨Nat.le_trans (h.2 u hu).1 h1,λt ht=>⟨Nat.le_trans ((h.2 u hu).2 t ht).1 h2,Nat.le_trans ((h.2 u hu).2 t ht).2 h2⟩⟩⟩
 | can p q P Q=>trivial
theorem zS1{tl tl':List (Addr×List Wt)}(m:tl'.map (·.2)=tl.map (·.2)){u:Addr×List Wt}(hu:u∈tl'):∃ v∈tl,v.2=u.2:=by
 have h:u.2∈tl.map (·.2):=by rw[<- m]; exact List.mem_map_of_mem hu
 obtain⟨v,hv,e⟩:=List.mem_map.mp h;exact⟨v,hv,e⟩
theorem zJ3{tl tl':List (Addr×List Wt)}(m:tl'.map (·.2)=tl.map (·.2)){i:Nat}{u:Addr×List Wt}(g:tl'[i]?=some u):∃ v,tl[i]?=some v/\v.2=u.2:=by
 have h:=congrArg (λl=>l[i]?) m;simp only[List.getElem?_map,g] at h;cases e:tl[i]? with
 | none=>rw[e] at h; cases h
 | some v=>rw[e] at h; injection h with h; exact⟨v,rfl,h.symm⟩
theorem CpB.sz{H:Hp}{t t':Addr}{pp qq:Bp}(c:CpB H t t' pp qq){n a b:Nat}(h:zJi n a b pp):zJi n a b qq:=by
 cases pp <;> cases qq <;> first | exact c.elim | skip
 ·obtain⟨rfl,_⟩:=c; exact h
 ·obtain⟨rfl,rfl,rfl,rfl,_⟩:=c; exact h
 ·obtain⟨m,_⟩:=c;refine⟨by have z:=congrArg List.length m; rw[List.length_map,List.length_map] at z; rw[z]; exact h.1,λu hu=>?_⟩;obtain⟨v,hv,e⟩:=zS1 m hu;rw[<- e];exact h.2 v hv
 ·trivial
theorem CpB.good{H:Hp}{t t':Addr}{pp qq:Bp}(c:CpB H t t' pp qq){ss:List Sd}{vs:List (Int×Int)} : zF4 ss vs qq↔zF4 ss vs pp:=by
 cases pp <;> cases qq <;> first | exact c.elim | skip
 ·obtain⟨rfl,_⟩:=c; exact Iff.rfl
 ·obtain⟨rfl,rfl,rfl,rfl,_⟩:=c; exact Iff.rfl
 ·obtain⟨m,_⟩:=c;have ln:=congrArg List.length m;rw[List.length_map,List.length_map] at ln;constructor
  ·rintro⟨h1,h2⟩;refine⟨ln.symm.trans h1,λi u e gu ge=>?_⟩;obtain⟨v,gv,ev⟩:=zJ3 m.symm gu;rw[<- ev];exact h2 i v e gv ge
  ·rintro⟨h1,h2⟩;refine⟨ln.trans h1,λi u e gu ge=>?_⟩;obtain⟨v,gv,ev⟩:=zJ3 m gu;rw[<- ev];exact h2 i v e gv ge
 ·obtain⟨_,_,_,rfl,rfl⟩:=c; exact Iff.rfl
theorem zQ7{K:PySem.W.Frag}{H:Hp}{n:Nat}{x y:V}{r:Bool}(d:Deep K H n x y r):Deep K H (n+1) x y r:=by
 induction d with
 | same n a=>exact .same _ _
 | int n i j=>exact .int _ _ _
 | str n i j=>exact .str _ _ _
 | lst ne ha hb hl he ih=>exact .lst ne ha hb hl ih
 | lstN ne ha hb hl=>exact .lstN ne ha hb hl
 | tup ne ha hb he ih=>exact .tup ne ha hb ih
 | tl ne ha hb=>exact .tl ne ha hb
theorem zQb{K:PySem.W.Frag}{H:Hp}{n:Nat}{x y:V}{r:Bool}(d:Deep K H n x y r):∀ m:Nat,Deep K H (n+m) x y r
 | 0=>d
 | m+1=>zQ7 (zQb d m)
theorem zBn{K:PySem.W.Frag}{H:Hp}{a b:Addr}{rs:List Addr}(n:Nat)(ne:a≠b)(ha:H a=some (.lst (rs.map V.ref)))(hb:H b=some (.lst (rs.map V.ref))):Deep K H (n+1) (.ref a) (.ref b) true:=by
 have d:=Deep.lst (K:=K) (n:=n) (e:=λ_=>true) ne (SqL.of ha) (SqL.of hb) rfl λj h1 h2=>by
  rw[List.getElem_map];exact .same _ _
 rw[qU] at d;exact d
theorem vA{H:Hp}{a b:Addr}{o:HO}(h:H a=none)(h':H b=some o):a≠b:=λe=>by rw[e,h'] at h; cases h
theorem zWv{K:PySem.W.Frag}{G H:Hp}{t t':Addr}{pp qq:Bp}(h:zHu G t pp)(s:zZ G H)(h':zHu H t' qq)(c:CpB G t t' pp qq):Deep K H 4 (.ref t') (.ref t) true:=by
 have hH:=h.same s;cases pp <;> cases qq <;> first | exact c.elim | skip
 ·rename_i D cs D' cs'
  obtain⟨rfl,n1,n2⟩:=c;exact Deep.tup (n:=3) (e:=λ_=>true) (vA n2 h.1) (SqT.of h'.1) (SqT.of hH.1) λj h1 h2=>match j with
   | 0=>.str _ "none" "none"
   | 1=>zBn 2 (vA n1 h.2.1) h'.2.1 hH.2.1
   | n+2=>absurd h1 (by simp only[List.length_cons,List.length_nil]; lia)
 ·rename_i d L X Y ws d' L' X' Y' ws'
  obtain⟨rfl,rfl,rfl,rfl,n1,n2⟩:=c;exact Deep.tup (n:=3) (e:=λ_=>true) (vA n2 h.1) (SqT.of h'.1) (SqT.of hH.1) λj h1 h2=>match j with
   | 0=>.str _ "cannot" "cannot"
   | 1=>.same _ _
   | 2=>zBn 2 (vA n1 h.2.2.1) h'.2.2.1 hH.2.2.1
   | n+3=>absurd h1 (by simp only[List.length_cons,List.length_nil]; lia)
 ·rename_i W tl W' tl'
  obtain⟨m,n1,n2,n3⟩:=c;have ln:=congrArg List.length m;rw[List.length_map,List.length_map] at ln;refine Deep.tup (n:=3) (e:=λ_=>true) (vA n2 h.1) (SqT.of h'.1) (SqT.of hH.1) λj h1 h2=>match j with
   | 0=>.str _ "must" "must"
   | 1=>?_
   | n+2=>absurd h1 (by simp only[List.length_cons,List.length_nil]; lia)
  have dd:=Deep.lst (K:=K) (n:=2) (e:=λ_=>true) (vA n1 h.2.1) (SqL.of h'.2.1) (SqL.of hH.2.1) (by rw[yE,yE,ln]) λj h1 h2=>by
   rw[yE] at h1 h2;have gu:tl'[j]?=some tl'[j]:=List.getElem?_eq_getElem h1;obtain⟨v,gv,ev⟩:=zJ3 m gu;have gv':tl[j]=v:=by rw[List.getElem?_eq_getElem h2] at gv; exact Option.some.inj gv
   have y1:=h'.2.2 tl'[j] (List.getElem_mem _);have y2:=h.2.2 tl[j] (List.getElem_mem _);rw[show(zW tl')[j]'(by rw[yE]; exact h1)=.ref tl'[j].1 by simp[zW],show(zW tl)[j]'(by rw[yE]; exact h2)=.ref tl[j].1 by simp[zW]];refine zBn 1 (vA (n3 _ (List.getElem_mem _)) y2.1) y1.1 ?_;rw[s _ _ y2.1,gv',ev]
  rw[qU] at dd;exact dd
 ·obtain⟨rfl,_⟩:=c;exact .same _ _
theorem zO9{K:PySem.W.Frag}{H:Hp}{D E:Addr}{xs:List V}(n:Nat)(ne:D≠E)(hD:H D=some (.lst xs))(hE:H E=some (.lst [])):Deep K H (n+1) (.ref D) (.ref E) xs.isEmpty:=by
 cases xs with
 | nil=>exact Deep.lst (n:=n) (e:=λ_=>true) ne (SqL.of hD) (SqL.of hE) rfl λj h1 h2=>absurd h1 (Nat.not_lt_zero _)
 | cons x xs=>exact .lstN ne (SqL.of hD) (SqL.of hE) (λz=>by cases z)
theorem zWu{K:PySem.W.Frag}{G H:Hp}{t E:Addr}{pp:Bp}(h:zHu G t pp)(s:zZ G H)(nE:G E=none)(hE:H E=some (.lst [])) :
  ∃(xs:List V)(e:Nat->Bool),SqT K H t xs/\(∀(j:Nat)(h1:j<xs.length)(h2:j<[V.str "must", V.ref E].length),Deep K H 8 xs[j] [V.str "must", V.ref E][j] (e j)) /\
   ((!((List.range (min xs.length [V.str "must", V.ref E].length)).all e&&xs.length == [V.str "must", V.ref E].length))=true/\(∀ W tl,pp=.must W tl->tl≠[])\/(!((List.range (min xs.length [V.str "must", V.ref E].length)).all e&&xs.length == [V.str "must", V.ref E].length))=false):=by
 have hH:=h.same s;cases pp with
 | no D cs =>
  refine⟨_,λj=>match j with | 0=>false | _=>(zL cs).isEmpty,SqT.of hH.1,λj h1 h2=>match j with
   | 0=>.str _ "none" "must"
   | 1=>zO9 7 (vA nE h.2.1).symm hH.2.1 hE
   | n+2=>absurd h2 (by simp only[List.length_cons,List.length_nil]; lia),.inl ⟨rfl,λW tl z=>nomatch z⟩⟩
 | cannot d L X Y ws =>
  refine⟨_,λj=>match j with | 0=>false | _=>false,SqT.of hH.1,λj h1 h2=>match j with
   | 0=>.str _ "cannot" "must"
   | 1=>.tl (vA nE h.2.1).symm (SqT.of hH.2.1) (SqL.of hE)
   | n+2=>absurd h2 (by simp only[List.length_cons,List.length_nil]; lia),.inl ⟨rfl,λW tl z=>nomatch z⟩⟩
 | can p q P Q =>
  refine⟨_,λj=>match j with | 0=>false | _=>false,SqT.of hH.1,λj h1 h2=>match j with
   | 0=>.str _ "can" "must"
   | 1=>.tl (vA nE h.2.1).symm (SqT.of hH.2.1) (SqL.of hE)
   | n+2=>absurd h2 (by simp only[List.length_cons,List.length_nil]; lia),.inl ⟨rfl,λW tl z=>nomatch z⟩⟩
 | must W tl =>
  refine⟨_,λj=>match j with | 0=>true | _=>(zW tl).isEmpty,SqT.of hH.1,λj h1 h2=>match j with
   | 0=>.str _ "must" "must"
   | 1=>zO9 7 (vA nE h.2.1).symm hH.2.1 hE
   | n+2=>absurd h2 (by simp only[List.length_cons,List.length_nil]; lia),?_⟩
  cases tl with
  | nil=>exact .inr rfl
  | cons u us=>exact .inl ⟨rfl,λW' tl' z=>by cases z; exact λy=>nomatch y⟩
theorem zLb{vs:List (Int×Int)}{i:Nat}(h:i<vs.length):atP (vs.map λv=>(v.1+1,v.2)) i=((atP vs i).1+1,(atP vs i).2):=by
 unfold atP;rw[List.getElem?_map,List.getElem?_eq_getElem h];rfl
theorem zS3(ss:List Sd)(lo hi:Option Int):∃ qs:List Sd,qJ (zJ ss) lo hi=zJ qs/\(∀ t∈qs,t∈ss)/\qs.length<=ss.length:=by
 refine⟨(ss.drop (HT.sIx (zJ ss).length 0 lo)).take (HT.sIx (zJ ss).length (zJ ss).length hi-HT.sIx (zJ ss).length 0 lo),?_,λt ht=>List.mem_of_mem_drop (List.mem_of_mem_take ht),?_⟩
 ·show((zJ ss).drop _).take _=_;simp only[zJ,List.map_drop,List.map_take]
 ·rw[List.length_take,List.length_drop];lia
theorem zRr{i:Nat}(h:i<2):(9*2^i-1<=100/\10<=10^(20+i))/\2*(9*2^i-1)+1=9*2^(i+1)-1/\10*10^(20+i)=10^(20+(i+1))/\10*10^(40+i)=10^(40+(i+1))/\9*2^i-1<=9*2^(i+1)-1/\10^(20+i)<=10^(20+(i+1))/\10^(40+i)<=10^(40+(i+1)):=by
 have c:i=0\/i=1:=by lia
 rcases c with rfl | rfl
 ·refine⟨⟨by decide,by decide⟩,by decide,by decide,by decide,by decide,by decide,by decide⟩
 ·refine⟨⟨by decide,by decide⟩,by decide,by decide,by decide,by decide,by decide,by decide⟩
def sp_law(K:PySem.W.Frag):Sp:=λvs H Q _=>∃(a:Addr)(ns:List Int),vs=[.ref a]/\SqL K H a (ns.map V.int)/\ns.length<=63/\∀ H',Q (.bl true) H'
theorem zWl(F:Fun K "law" "law" zJ7 f fd)(Z:Zs mg)(yCu:Has P w K mg base "_law_same" 6 ["_law_told", "_law_due"] (zIs K))(yBb:Has P w K mg base "_law_good_word" 4 ["_law_sides_here", "_law_places", "_law_paper"] (zA2 K))(yAx:Has P w K mg base "good_bank" 11 ["sides", "corners", "paper"] (zA3 K))(yBq:Has P w K mg base "_law_copied" 1 ["_law_paper"] (zEs K))(yCp:Has P w K mg base "_law_bent" 2 ["_law_d", "_law_paper"] (zId K))(yAy:Has P w K mg base "bank_word" 12 ["sides", "corners"] (zA1 K))(yBo:Has P w K mg base "_law_banked" 4 ["_law_some"] (zFe K))(yCf:Has P w K mg base "_law_draws" 2 ["_law_script", "_law_many_here"] (zGi K)):xK P w K mg base CX0 13 f fd ["_law_script"] (sp_law K):=by
 specialize zAi
 ·obtain⟨a,ns,rfl,_⟩:=h;rfl
 obtain⟨ad,ns,rfl,hS,hl,q⟩:=h;have hu:=hr.units0;have hu64:=hr.units
 refine'⟨_,(zG (zX 1 zAi.nd ?_)
   (zG (wK ?_ (yV rfl (zR (yS 2 zAi.nd) (zR (yS 3 zAi.nd) yI))))
   (zG (zX 4 zAi.nd ?_)
   (zG (yC ?_ (zH (zO vR)) zS)
   (zG (yC ?_ (zH (zX 4 zAi.nd (xG yAy (hr.mono (by decide)) rfl (zU ?_ (zU (xJ (T:=["_law_x", "_law_y"]) (caps:=[]) ⟨rfl,by decide +kernel,by decide +kernel,rfl,True.intro⟩ rfl (xC (pv 3)) (λ_=>(yV rfl (zR (yS 0 (show(["_law_x", "_law_y"]:List Str).Nodup by decide +kernel)) (zR (yS 1 (show(["_law_x", "_law_y"]:List Str).Nodup by decide +kernel)) yI)))) (λ_=>yF) (λ_=>?_)) yH))))) zS)
   (zG (yC (PW.pt (zSs ?_ (zP8 (wA (zWq hu) (pv 2) ?_ (xI _))))) (zH (zX 4 zAi.nd ?_)) zS)
   (zG (wU PassesOwn.never rfl (xV rfl Z.range ?_) (yS 5 zAi.nd) (zH (yC (wA (zT5 hu64) (pv 4) ?_ (xI _)) (zH (zX 4 zAi.nd ?_)) zS)))
   (zG (zX 6 zAi.nd ?_)
   (zG (zX 7 zAi.nd ?_)
   (zG (yC (wA (zTo hu64) (pv 6) ?_ (xI _)) (zH (zO vR)) zS)
   (zH (zO ?_)))))))))))),?_⟩
 nofun
 refine⟨_,rfl,ad,ns,96,rfl,hS,hl,by decide,by decide,λr rows H1 s1 hr0 er1 l1 l2 bd=>?_⟩;obtain⟨v80,a80,_⟩:=yQ bd (k:=80) (by decide) (by lia);have cutD:∀ k:Nat,k<=90->qJ (rows.map V.int) (some (k:Int)) none=(rows.drop k).map V.int:=λk hk=>by
  rw[zAf,HT.sIx_nat rows.length 0 k,show min k rows.length=k by lia,show HT.sIx rows.length rows.length none=rows.length from rfl,List.take_of_length_le (by rw[List.length_drop]; lia)]
 refine⟨_,rfl,r,rows,rfl,er1,by lia,l2,bd,λT l c ss ps G2 s2 eT el ok nl ec pk0 bs=>?_⟩;exists T,_,rfl,SqT.of eT,rfl,.ref l,_,rfl,.ref c,_,rfl,rfl;have er:=s2 _ _ er1;have lens:=bs.len;rw[List.length_map] at lens;have ne:=zDm.ne bs;rw[List.length_map] at ne;have pk:qM G2 (10^6) ps:=λt ht=>by
  obtain⟨z1,z2,z3⟩:=pk0 t ht;exact⟨z1,Nat.le_trans z2 (by decide),Nat.le_trans z3 (by decide)⟩
 have lens2:(ps.map (·.2)).length<=8:=by rw[List.length_map]; exact lens.2
 clear s1 s2 er1 eT hr0;apply zS4 (ok:=λt pp G=>zZ G2 G/\zHu G t pp/\zJi 8 (10^20) (10^40) pp)
 ·intro main;refine⟨_,rfl,l,_,rfl,.inl (SqL.of el),λlc hlc=>?_⟩;have slc:zZ G2 (upd G2 lc (.lst (zJ ss))):=zF hlc _;have elc:upd G2 lc (.lst (zJ ss)) lc=some (.lst (zJ ss)):=zD;generalize upd G2 lc (.lst (zJ ss))=G3 at slc elc ⊢;refine⟨_,rfl,c,_,rfl,.inl (SqL.of (slc _ _ ec)),λcc hcc=>?_⟩;have scc:zZ G3 (upd G3 cc (.lst (zL ps))):=zF hcc _;have ecc:upd G3 cc (.lst (zL ps)) cc=some (.lst (zL ps)):=zD;generalize upd G3 cc (.lst (zL ps))=G4 at scc ecc ⊢;have s24:=slc.trans scc;apply zS4 (ok:=λt pp G=>zZ G4 G/\zHu G t pp/\zJi 8 (10^20) (10^40) pp/\zF4 ss (ps.map (·.2)) pp)
  ·intro main2;refine⟨lc,cc,ss,ps,rfl,scc _ _ elc,ok.same s24,by lia,ecc,pk.same s24,lens.1,lens.2,ne,λT D cs H' s' eT eD okc cl=>?_,λT d L ws es cs H' s' eT ed eL okw mws mes cl here=>?_,λT p1 p2 P1 P2 H' s' eT e1 e2 w1 i1 w2 b2=>?_,λT W tl H' s' hW eT eW all nt each here=>?_⟩
   ·have n3:=cl.range.1;rw[List.length_map] at n3;exact main2 T (.no D cs) H' ⟨s',⟨eT,eD,okc⟩,(show cs.length<=8 by lia),cl.b⟩
   ·obtain⟨X,Y,wt,k1,k2,k3⟩:=zBg ((ok.same s24).same s') eT ed eL okw mws mes cl here;exact main2 T _ H' ⟨s',k1,k2,k3 bs⟩
   ·obtain⟨e0,m0,b2⟩:=b2;exact main2 T (.can p1 p2 P1 P2) H' ⟨s',⟨eT,e1.1,e2.1⟩,trivial,⟨e1.2.1,sM.mpr w1⟩,⟨e2.2.1,sM.mpr w2⟩,i1,λz=>by have:=z e0 m0; lia⟩
   ·obtain⟨k1,k2,k3⟩:=zEy ((ok.same s24).same s') lens2 eT eW all nt each;exact main2 T _ H' ⟨s',k1,k2,k3⟩
  rintro t pp G5 ⟨s5,hp,szp,gd⟩;have s25:=s24.trans s5;clear elc ecc slc scc s24 hlc hcc;refine⟨_,rfl,l,_,rfl,.inl (SqL.of (s25 _ _ el)),λl6 hl6=>?_⟩;have s6:zZ G5 (upd G5 l6 (.lst (zJ ss))):=zF hl6 _;have e6:upd G5 l6 (.lst (zJ ss)) l6=some (.lst (zJ ss)):=zD;generalize upd G5 l6 (.lst (zJ ss))=G6 at s6 e6 ⊢;refine⟨_,rfl,c,_,rfl,.inl (SqL.of (s6 _ _ (s25 _ _ ec))),λc7 hc7=>?_⟩;have s7:zZ G6 (upd G6 c7 (.lst (zL ps))):=zF hc7 _;have e7:upd G6 c7 (.lst (zL ps)) c7=some (.lst (zL ps)):=zD;generalize upd G6 c7 (.lst (zL ps))=G7 at s7 e7 ⊢;have s57:=s6.trans s7;refine⟨_,rfl,t,pp,rfl,hp.same s57,λW tl z=>(by rw[z] at szp; exact Nat.le_trans szp.1 (by decide)),λt' qq G8 s8 hp' cp=>?_⟩;have s28:=(s25.trans s57).trans s8;refine⟨l6,c7,t',ss,ps,qq,rfl,SqL.of (s8 _ _ (s7 _ _ e6)),ok.same s28,s8 _ _ e7,pk.same s28,lens.1,lens.2,ne,hp',(cp.sz szp).mono (by decide) (by decide) (by decide),λb G9 s9 hb=>?_⟩;refine⟨_,_,rfl,DR.bl (hb.mpr (cp.good.mpr gd)),λG10 s10=>?_⟩;exists _,rfl;refine vS ?_;have s210:=(s28.trans s9).trans s10;have hp10:=((hp.same s57).same s8).same (s9.trans s10);clear hp hp' hb s6 s7 s8 s9 s10 e6 e7 hl6 hc7 gd s57 s28 cp s25 s5;have sq10:Sq K G10 r (rows.map V.int):=.inl (SqL.of (s210 _ _ er));exists _,rfl,r,_,_,_,rfl,rfl,sq10,a80,_,_,rfl,rfl,gt4,rfl,_,rfl;refine ifE (λ_=>?_) (λ_=>?_);rotate_left
  ·exact main t pp G10 ⟨s210,hp10,szp⟩
  refine⟨_,rfl,l,_,rfl,.inl (SqL.of (s210 _ _ el)),λl9 hl9=>?_⟩;have s9:zZ G10 (upd G10 l9 (.lst (zJ ss))):=zF hl9 _;have e9:upd G10 l9 (.lst (zJ ss)) l9=some (.lst (zJ ss)):=zD;generalize upd G10 l9 (.lst (zJ ss))=G11 at s9 e9 ⊢;have s211:=s210.trans s9;refine⟨_,rfl,c,rfl,.inl ⟨⟨_,SqL.of (s211 _ _ ec)⟩,λcv D hD=>yM (K:=K) (a:=c) (xs:=zL ps) (λi σ ys G=>∃ ca:List Pr,ys=zL ca/\ca.map (·.2)=((ps.take i).map (·.2)).map (λv=>(v.1+1,v.2))/\zV2 G11 D ca G/\∃ u0 u1:Option V,σ=[u0,u1])
   ⟨[],rfl,rfl,⟨zF hD _,hD,zD,(λt ht=>nomatch ht)⟩,none,none,rfl⟩ (λi σ ys G _ ⟨ca,e1,_,P4,_⟩=>⟨P4.same.seq (SqL.of (s211 _ _ ec)),by rw[e1]; exact P4.at'⟩) ?_ ?_⟩⟩
  ·rintro i x σ ys G hi ⟨ca,rfl,ma,P4,u0,u1,rfl⟩;obtain⟨t',gt',rfl,hil⟩:=wO hi;obtain⟨et',_,_⟩:=(pk.same s211).same P4.same t' (List.mem_of_getElem? gt');exists t'.1,_,rfl,SqT.of et',rfl,.int t'.2.1,_,rfl,.int t'.2.2,_,rfl,rfl;refine⟨_,rfl,_,_,rfl,rfl,_,rfl,sz2,λp hp=>?_⟩;have sp:=zF hp (.tup [.int (t'.2.1+1),.int t'.2.2]);have na:ca.length=i:=by
    have z:=congrArg List.length ma;rw[List.length_map,List.length_map,List.length_map,List.length_take] at z;lia
   refine⟨sp _ _ P4.at',zV (by rw[zQ]; lia),ca++[(p,t'.2.1+1,t'.2.2)],by rw[wQ]; rfl,?_,P4.app sp hp zD,_,_,rfl⟩;rw[yP gt',List.map_append,List.map_append,List.map_append,ma];rfl
  rintro σ ys G ⟨ca,rfl,ma,P4,u0,u1,rfl⟩;rw[zQ,List.take_length] at ma;have na:ca.length=ps.length:=by
   have z:=congrArg List.length ma;rw[List.length_map,List.length_map,List.length_map] at z;exact z
  have s2G:=s211.trans P4.same;have pkc:qM G (10^6) ca:=λt ht=>by
   exists P4.all t ht;have h:t.2∈((ps.map (·.2)).map λv=>(v.1+1,v.2)):=by rw[<- ma]; exact List.mem_map_of_mem ht
   obtain⟨v,hv,e⟩:=List.mem_map.mp h;obtain⟨w,hw,rfl⟩:=List.mem_map.mp hv;obtain⟨_,b1,b2⟩:=pk0 w hw;rw[<- e];exact⟨by show(w.2.1+1).natAbs<=_; lia,Nat.le_trans b2 (by decide)⟩
  have nec:∀ i<ca.length,atP (ca.map (·.2)) i≠atP (ca.map (·.2)) ((i+1)%ca.length):=λi hi z=>by
   rw[na] at hi z;rw[ma,zLb (by rw[List.length_map]; exact hi),zLb (by rw[List.length_map]; exact Nat.mod_lt _ (by lia))] at z;injection z with z1 z2
   exact ne i hi (Prod.ext (by lia) z2)
  have lc8:(ca.map (·.2)).length<=8:=by rw[List.length_map]; lia
  exact⟨l9,D,ss,ca,rfl,P4.same _ _ e9,ok.same s2G,by lia,P4.at',pkc,by lia,by lia,nec,λT D cs H' s' eT eD okc cl=>(by
    have n3:=cl.range.1;rw[List.length_map] at n3;exact main T (.no D cs) H' ⟨s2G.trans s',⟨eT,eD,okc⟩,(show cs.length<=8 by lia)⟩),λT d L ws es cs H' s' eT ed eL okw mws mes cl here=>(by
    obtain⟨X,Y,wt,k1,k2,_⟩:=zBg ((ok.same s2G).same s') eT ed eL okw mws mes cl here;exact main T _ H' ⟨s2G.trans s',k1,k2⟩),λT p1 p2 P1 P2 H' s' eT e1 e2 _ _ _ _=>main T (.can p1 p2 P1 P2) H' ⟨s2G.trans s',⟨eT,e1.1,e2.1⟩,trivial⟩,λT W tl H' s' hW eT eW all nt each here=>(by
    obtain⟨k1,k2,_⟩:=zEy ((ok.same s2G).same s') lc8 eT eW all nt each;exact main T _ H' ⟨s2G.trans s',k1,k2⟩)⟩
 apply zS4 (ok:=λt pp G=>zZ G2 G/\zHu G t pp/\zJi 8 (10^20) (10^40) pp)
 ·rintro main t pp G ⟨sG,hp,szp⟩;have sq8:Sq K G r (rows.map V.int):=.inl (SqL.of (sG _ _ er));have elG:=sG _ _ el;exists _,rfl,r,_,_,_,rfl,rfl,sq8,a80,_,_,rfl,rfl,gt4,rfl,_,rfl;refine ifE (λ_=>?_) (λ_=>?_);rotate_left
  ·refine vS ?_;exact main t pp G ⟨sG,hp,szp⟩
  refine⟨_,rfl,sz0,λz hz=>?_⟩;have sz:zZ G (upd G z (.lst [])):=zF hz _;have ez:upd G z (.lst []) z=some (.lst []):=zD;generalize upd G z (.lst [])=Gz at sz ez ⊢;have sGz:=sG.trans sz;exists l,z,ss.map (·.1),rfl,rfl,SqL.of (sz _ _ elG),SqL.of ez,_,rfl;cases hb:(!(ss.map (·.1)).isEmpty) with
  | false =>
   refine vS ?_;exact main t pp Gz ⟨sGz,hp.same sz,szp⟩
  | true =>
   refine uT ?_;obtain⟨qs,cq,mq,nq⟩:=zS3 ss none (some (-1));refine⟨_,rfl,_,rfl,_,rfl,l,_,rfl,SqL.of (sz _ _ elG),λf1 hf1=>?_⟩;rw[cq];have sf1:=zF hf1 (.lst (zJ qs));have ef1:upd Gz f1 (.lst (zJ qs)) f1=some (.lst (zJ qs)):=zD;generalize upd Gz f1 (.lst (zJ qs))=Gf at sf1 ef1 ⊢;refine⟨_,rfl,c,_,rfl,.inl (SqL.of (sf1 _ _ (sGz _ _ ec))),λcc hcc=>?_⟩;have scc:zZ Gf (upd Gf cc (.lst (zL ps))):=zF hcc _;have ecc:upd Gf cc (.lst (zL ps)) cc=some (.lst (zL ps)):=zD;generalize upd Gf cc (.lst (zL ps))=Gc at scc ecc ⊢;have s2G:=(sGz.trans sf1).trans scc;have okq:vP Gc qs:=λt ht=>(ok.same s2G) t (mq t ht);exact⟨f1,cc,qs,ps,rfl,scc _ _ ef1,okq,by lia,ecc,pk.same s2G,lens.1,lens.2,ne,λT D cs H' s' eT eD okc cl=>(by
     have n3:=cl.range.1;rw[List.length_map] at n3;exact main T (.no D cs) H' ⟨s2G.trans s',⟨eT,eD,okc⟩,(show cs.length<=8 by lia)⟩),λT d L ws es cs H' s' eT ed eL okw mws mes cl here=>(by
     obtain⟨X,Y,wt,k1,k2,_⟩:=zBg (okq.same s') eT ed eL okw mws mes cl here;exact main T _ H' ⟨s2G.trans s',k1,k2⟩),λT p1 p2 P1 P2 H' s' eT e1 e2 _ _ _ _=>main T (.can p1 p2 P1 P2) H' ⟨s2G.trans s',⟨eT,e1.1,e2.1⟩,trivial⟩,λT W tl H' s' hW eT eW all nt each here=>(by
     obtain⟨k1,k2,_⟩:=zEy (okq.same s') lens2 eT eW all nt each;exact main T _ H' ⟨s2G.trans s',k1,k2⟩)⟩
 rintro t pp G ⟨sG,hp,szp⟩;have elG:=sG _ _ el;have erG:=sG _ _ er;have ecG:=sG _ _ ec;have okG:=ok.same sG;have pkG:=pk.same sG;clear sG;have x0:=Int.emod_nonneg (v80/4) (show(3:Int)≠0 by decide);have x1:=Int.emod_lt_of_pos (v80/4) (show(0:Int)<3 by decide);refine⟨_,rfl,r,_,_,_,rfl,rfl,.inl (SqL.of erG),a80,_,_,rfl,rfl,sC.of (by decide) (by decide +kernel),_,_,rfl,rfl,gt3,_,rfl,(by lia),(by lia),tS (lo:=0) (n:=(v80/4%3).toNat) (λi σ G'=>zZ G G'/\∃(t':Addr)(qq:Bp)(u5:Option V),zHu G' t' qq/\zJi (9*2^i-1) (10^(20+i)) (10^(40+i)) qq/\σ=[some (.ref ad),some (.ref r),some (.ref l),some (.ref c),some (.ref t'),u5,none,none]) ⟨zZ.refl _,t,pp,none,hp,szp,rfl⟩ ?_ ?_⟩
 ·rintro i σ G' hi ⟨sG',t',qq,u5,hq,szq,rfl⟩;have i2:i<2:=by lia
  obtain⟨b1,b2,b3,b4,b5,b6,b7⟩:=zRr i2;refine⟨_,rfl,sz0,λE hE=>?_⟩;have sE:zZ G' (upd G' E (.lst [])):=zF hE _;have eE:upd G' E (.lst []) E=some (.lst []):=zD;generalize upd G' E (.lst [])=G1 at sE eE ⊢;refine⟨sz2,λm hm=>?_⟩;have sm:zZ G1 (upd G1 m (.tup [.str "must", .ref E])):=zF hm _;have em:upd G1 m (.tup [.str "must", .ref E]) m=some (.tup [.str "must", .ref E]):=zD;generalize upd G1 m (.tup [.str "must", .ref E])=G3 at sm em ⊢;have s13:=sE.trans sm;obtain⟨xs,e,sx,de,hr2⟩:=zWu (K:=K) hq s13 hE (sm _ _ eE);exists t',m,xs,_,e,rfl,rfl,sx,SqT.of em,de,_,rfl;rcases hr2 with ⟨hr2,hne⟩ | hr2
  ·rw[hr2];refine uT ?_;have cm:zJg 6 (0+(i:Int)):=.inl ⟨by decide,by decide⟩;have ci:(81:Int)+6*(0+(i:Int))=((81+6*i:Nat):Int):=by lia
   refine⟨_,rfl,_,rfl,_,_,rfl,rfl,cm,_,_,rfl,rfl,_,rfl,r,_,rfl,SqL.of (s13 _ _ (sG' _ _ erG)),λc5 hc5=>?_⟩;rw[ci,cutD (81+6*i) (by lia)];have s5:=zF hc5 (.lst ((rows.drop (81+6*i)).map V.int));refine⟨_,rfl,c5,t',rows.drop (81+6*i),qq,_,_,_,rfl,SqL.of zD,by rw[List.length_drop]; lia,λx hx=>bd x (List.mem_of_mem_drop hx),(hq.same s13).same s5,szq,b1.1,b1.2,hne,λt2 q2 G6 s6 h2 sz2=>?_⟩;rw[b2,b3,b4] at sz2;exact⟨((sG'.trans s13).trans s5).trans s6,t2,q2,_,h2,sz2,rfl⟩
  ·rw[hr2];refine vS ?_;exact⟨sG'.trans s13,t',qq,_,hq.same s13,szq.mono b5 b6 b7,rfl⟩
 ·rintro σ G' ⟨sG',t',qq,u5,hq,szq,rfl⟩;have szq2:zJi 900 (10^40) (10^50) qq:=by
   have i2:(v80/4%3).toNat<=2:=by lia
   match h:(v80/4%3).toNat,i2 with
   | 0,_=>rw[h] at szq; exact szq.mono (by decide) (by decide) (by decide)
   | 1,_=>rw[h] at szq; exact szq.mono (by decide) (by decide) (by decide)
   | 2,_=>rw[h] at szq; exact szq.mono (by decide) (by decide) (by decide)
  clear szq hp szp;have el2:=sG' _ _ elG;have ec2:=sG' _ _ ecG;have ok2:=okG.same sG';have pk2:=pkG.same sG';refine⟨_,rfl,l,_,rfl,.inl (SqL.of el2),λh1 hh1=>?_⟩;have t1:zZ G' (upd G' h1 (.lst (zJ ss))):=zF hh1 _;have e1:upd G' h1 (.lst (zJ ss)) h1=some (.lst (zJ ss)):=zD;generalize upd G' h1 (.lst (zJ ss))=K1 at t1 e1 ⊢;refine⟨_,rfl,c,_,rfl,.inl (SqL.of (t1 _ _ ec2)),λh2 hh2=>?_⟩;have t2:zZ K1 (upd K1 h2 (.lst (zL ps))):=zF hh2 _;have e2:upd K1 h2 (.lst (zL ps)) h2=some (.lst (zL ps)):=zD;generalize upd K1 h2 (.lst (zL ps))=K2 at t2 e2 ⊢;have t12:=t1.trans t2;refine⟨_,rfl,t',qq,rfl,hq.same t12,λW tl z=>(by rw[z] at szq2; exact szq2.1),λt3 q3 K3 t3s hp3 cp=>?_⟩;refine⟨sz3,λhd hhd=>?_⟩;have t4:zZ K3 (upd K3 hd (.lst [.ref h1,.ref h2,.ref t3])):=zF hhd _;have e4:upd K3 hd (.lst [.ref h1,.ref h2,.ref t3]) hd=some (.lst [.ref h1,.ref h2,.ref t3]):=zD;generalize upd K3 hd (.lst [.ref h1,.ref h2,.ref t3])=K4 at t4 e4 ⊢;have t24:=t3s.trans t4;have t14:=t12.trans t24;have n1:h1≠l:=vA hh1 el2;have n2:h2≠c:=vA hh2 (t1 _ _ ec2);have sh:Sq K K4 hd [.ref h1,.ref h2,.ref t3]:=.inl (SqL.of e4);refine⟨_,rfl,hd,_,_,.ref h1,rfl,rfl,sh,rfl,_,rfl,hd,_,_,.ref h2,rfl,rfl,sh,rfl,_,rfl,hd,_,_,.ref t3,rfl,rfl,sh,rfl,h1,h2,t3,ss,ps,q3,rfl,SqL.of (t24 _ _ (t2 _ _ e1)),ok2.same t14,t24 _ _ e2,pk2.same t14,lens.1,lens.2,ne,hp3.same t4,cp.sz szq2,λb K5 t5 hb=>?_⟩;have t15:=t14.trans t5;refine⟨_,rfl,_,rfl,_,rfl,_,rfl,sz3,λm hm=>?_⟩;have t6:zZ K5 (upd K5 m (.lst [.ref l,.ref c,.ref t'])):=zF hm _;have e6:upd K5 m (.lst [.ref l,.ref c,.ref t']) m=some (.lst [.ref l,.ref c,.ref t']):=zD;generalize upd K5 m (.lst [.ref l,.ref c,.ref t'])=K6 at t6 e6 ⊢;have t16:=t15.trans t6;have t36:=(t4.trans t5).trans t6;have t26:=t3s.trans t36;have dp:Deep K K6 4 (.ref t3) (.ref t') true:=zWv (hq.same t12) t26 (hp3.same t36) cp;refine⟨hd,m,_,_,rfl,rfl,SqL.of (t6 _ _ (t5 _ _ e4)),SqL.of e6,rfl,(λj j1 j2=>match j with
   | 0=>zBn 7 n1 (t26 _ _ (t2 _ _ e1)) (t16 _ _ el2)
   | 1=>zBn 7 n2 (t26 _ _ e2) (t16 _ _ ec2)
   | 2=>zQb dp 4
   | n+3=>absurd j1 (by simp only[List.length_cons,List.length_nil]; lia)),_,rfl,?_⟩
  refine vS ?_;refine⟨_,rfl,_,rfl,_,rfl,_,rfl,l,c,t',ss,ps,qq,rfl,t16 _ _ el2,ok2.same t16,by lia,t16 _ _ ec2,pk2.same t16,lens.2,ne,hq.same t16,szq2,λb2 K7 t7 hb2=>?_⟩;exact⟨.bl b,.bl b2,rfl,DR.bl (Bool.eq_iff_iff.mpr ((hb.trans cp.good).trans hb2.symm)),λK8 _=>q _⟩
end
abbrev AtK(Pm:Params)(x:Str)(s:Stmt)(f:Addr)(oc:Value)(od:Option Addr)(sl:Array (Option Value))(kV dc pm:Value)(an:Option Addr)(cd ct:Value):Prop :=
 PySem.W.nsIn (KK Pm) mainGlobals x=some (some (.ref f))/\List.lookup f KC=some ⟨oc,od,.func (PySem.W.fnOf x x (sY s) (tX s) (zM s) .none kV dc pm an cd ct),sl⟩/\PySem.W.codeIn KC cd x=true/\PySem.W.keepIn KC (.ref f)=true
section
variable{Pm:Params}{x:Str}{s:Stmt}{f:Addr}{oc kV dc pm cd ct:Value}{od an:Option Addr}{sl:Array (Option Value)}{h:Heap}{mg:Str->Option Value}
theorem zUw(q:AtK Pm x s f oc od sl kV dc pm an cd ct):Fun K x x s f (PySem.W.fnOf x x (sY s) (tX s) (zM s) .none kV dc pm an cd ct):=zUx (st:=s) (by rw[zW3]; exact q.2.1) (by rw[zW3]; exact q.2.2.1) (by rw[zW3]; exact q.2.2.2)
abbrev AtE(Pm:Params)(x:Str)(s:Stmt):Prop:=∃(f:Addr)(oc:Value)(od:Option Addr)(sl:Array (Option Value))(kV dc pm:Value)(an:Option Addr)(cd ct:Value),AtK Pm x s f oc od sl kV dc pm an cd ct
theorem at_mk(q:AtK Pm x s f oc od sl kV dc pm an cd ct):AtE Pm x s:=⟨_,_,_,_,_,_,_,_,_,_,q⟩
theorem zO7(P:Program)(w:World)(base:Heap)(X:PySem.W.Frag.In (KK Pm) h)(G:h.Ns mainGlobals mg)(q:AtE Pm x s){ps:List Str}{n:Nat}{sp:Sp}(o:∀ {f:Addr} {fd:FuncData},Fun K x x s f fd->zG3 K fd ps []->PySem.W.keepIn K (.ref f)=true->mg x=some (.ref f)->xK P w K mg base CX0 n f fd ps sp)
  (b:∀(kV doc pm:Value)(an:Option Addr)(cdv ct:Value)(us:List Value),us.length=ps.length->bindArgs (PySem.W.fnOf x x (sY s) (tX s) (zM s) .none kV doc pm an cdv ct) ⟨us,[]⟩=pure (ps.zip us)):Has P w K mg base x n ps sp:=by
 obtain⟨f,oc,od,sl,kV,dc,pm,an,cd,ct,q⟩:=q;have F:=zUw q;exact⟨_,_,o F (F.binds b) F.kp (PySem.W.mg_of X G q.1),F.binds b,F.kp,PySem.W.mg_of X G q.1⟩
theorem zY(P:Program)(w:World)(base:Heap)(X:PySem.W.Frag.In (KK Pm) h)(G:h.Ns mainGlobals mg)(q:AtE Pm x s){ps:List Str}{n:Nat}{sp:Sp}(o:∀ {f:Addr} {fd:FuncData},Fun K x x s f fd->xK P w K mg base CX0 n f fd ps sp)
  (b:∀(kV doc pm:Value)(an:Option Addr)(cdv ct:Value)(us:List Value),us.length=ps.length->bindArgs (PySem.W.fnOf x x (sY s) (tX s) (zM s) .none kV doc pm an cdv ct) ⟨us,[]⟩=pure (ps.zip us)):Has P w K mg base x n ps sp:=zO7 P w base X G q (λF _ _ _=>o F) b
theorem K_in{Pm:Params}{h:Heap}(X:PySem.W.Frag.In (KK Pm) h):PySem.W.Frag.In K h:=by
 rw[zW3];exact zTm (by kernel_rfl) X
end
theorem us1{R:List Value->Prop}(h:∀ a,R [a]):∀ us:List Value,us.length=1->R us
 | [a],_=>h a
theorem us2{R:List Value->Prop}(h:∀ a b,R [a,b]):∀ us:List Value,us.length=2->R us
 | [a,b],_=>h a b
theorem us3{R:List Value->Prop}(h:∀ a b c,R [a,b,c]):∀ us:List Value,us.length=3->R us
 | [a,b,c],_=>h a b c
theorem us4{R:List Value->Prop}(h:∀ a b c d,R [a,b,c,d]):∀ us:List Value,us.length=4->R us
 | [a,b,c,d],_=>h a b c d
theorem all_mk{l:PySem.W.OpenLaw}{w:World}{h:Heap}{mg:Str->Option Value}{fa:Addr}(X:PySem.W.Frag.In (KK w.params) h)(G:h.Ns mainGlobals mg)(hfa:mg "law" = some (.ref fa))
  {f77:Addr}
  {oc77 kV77 dc77 pm77 cd77 ct77:Value}
  {od77 an77:Option Addr}
  {sl77:Array (Option Value)}
  (q1:AtE w.params "common_factor" wR)
  (q2:AtE w.params "lowest" zAl)
  (q3:AtE w.params "upright" rT)
  (q4:AtE w.params "part" zDt)
  (q5:AtE w.params "plus" zD3)
  (q6:AtE w.params "times" zCk)
  (q7:AtE w.params "below" zAd)
  (q8:AtE w.params "spot" zDo)
  (q9:AtE w.params "turn" zDw)
  (q10:AtE w.params "along" qZ)
  (q11:AtE w.params "plain" zBt)
  (q12:AtE w.params "plain_side" vL)
  (q13:AtE w.params "beyond" zAq)
  (q14:AtE w.params "holds" zCj)
  (q15:AtE w.params "crossing" sN)
  (q16:AtE w.params "in_water" sJ)
  (q17:AtE w.params "foot" zEa)
  (q18:AtE w.params "edge_end" sF)
  (q19:AtE w.params "edge_ends" tF)
  (q20:AtE w.params "spot_on_edge" wY)
  (q21:AtE w.params "sought" zAs)
  (q22:AtE w.params "some_spot" vZ)
  (q23:AtE w.params "is_way" zAp)
  (q24:AtE w.params "ways" zDr)
  (q25:AtE w.params "span" zD2)
  (q26:AtE w.params "weighed" rO)
  (q27:AtE w.params "clash_of_three" wC)
  (q28:AtE w.params "clash" zCo)
  (q29:AtE w.params "way_onward" vN)
  (q30:AtE w.params "far_by_one" vI)
  (q31:AtE w.params "weights_of_two" wB)
  (q32:AtE w.params "far_by_two" vJ)
  (q33:AtE w.params "reach" zCn)
  (q34:AtE w.params "stretch_way" uM)
  (q35:AtE w.params "stretch_side" wX)
  (q36:AtE w.params "bank_sides" vH)
  (q37:AtE w.params "word_of_cannot" wE)
  (q38:AtE w.params "gone_beyond" uN)
  (q39:AtE w.params "beyond_or_weights" xL)
  (q40:AtE w.params "bank_word" vY)
  (q41:AtE w.params "are_weights" uJ)
  (q42:AtE w.params "sum_at" zAy)
  (q43:AtE w.params "makes" zB0)
  (q44:AtE w.params "shown" zB6)
  (q45:AtE w.params "good_clash" vO)
  (q46:AtE w.params "good_place" vM)
  (q47:AtE w.params "good_cannot" uO)
  (q48:AtE w.params "shows_within" uB)
  (q49:AtE w.params "good_must" tK)
  (q50:AtE w.params "good_can" sQ)
  (q51:AtE w.params "good_bank" tJ)
  (q52:AtE w.params "_law_bent_weights" wZ)
  (q53:AtE w.params "_law_bent_spot" tE)
  (q54:AtE w.params "_law_power" zCg)
  (q55:AtE w.params "_law_draws" zBq)
  (q56:AtE w.params "_law_many" zDp)
  (q57:AtE w.params "_law_tight" zB5)
  (q58:AtE w.params "_law_way" zG6)
  (q59:AtE w.params "_law_side" zD1)
  (q60:AtE w.params "_law_sides" zBs)
  (q61:AtE w.params "_law_turned" zAt)
  (q62:AtE w.params "_law_left_pair" tM)
  (q63:AtE w.params "_law_bank" zDx)
  (q64:AtE w.params "_law_low" zGw)
  (q65:AtE w.params "_law_bank_rows" tG)
  (q66:AtE w.params "_law_banked" zAm)
  (q67:AtE w.params "_law_same" zBv)
  (q68:AtE w.params "_law_copied" zAz)
  (q69:AtE w.params "_law_whole" zCb)
  (q70:AtE w.params "_law_numbers" rV)
  (q71:AtE w.params "_law_is_clash" sI)
  (q72:AtE w.params "_law_summed" zAu)
  (q73:AtE w.params "_law_bound" zB9)
  (q74:AtE w.params "_law_has" zHd)
  (q75:AtE w.params "_law_good_word" vV)
  (q76:AtE w.params "_law_bent" zD9)
  (q77:AtK w.params "law" zJ7 f77 oc77 od77 sl77 kV77 dc77 pm77 an77 cd77 ct77)
  (z_abs:PySem.W.nsIn (KK w.params) mainGlobals "abs" = some none)
  (z_all:PySem.W.nsIn (KK w.params) mainGlobals "all" = some none)
  (z_bool:PySem.W.nsIn (KK w.params) mainGlobals "bool" = some none)
  (z_enumerate:PySem.W.nsIn (KK w.params) mainGlobals "enumerate" = some none)
  (z_int:PySem.W.nsIn (KK w.params) mainGlobals "int" = some none)
  (z_isinstance:PySem.W.nsIn (KK w.params) mainGlobals "isinstance" = some none)
  (z_len:PySem.W.nsIn (KK w.params) mainGlobals "len" = some none)
  (z_list:PySem.W.nsIn (KK w.params) mainGlobals "list" = some none)
  (z_max:PySem.W.nsIn (KK w.params) mainGlobals "max" = some none)
  (z_min:PySem.W.nsIn (KK w.params) mainGlobals "min" = some none)
  (z_range:PySem.W.nsIn (KK w.params) mainGlobals "range" = some none)
  (z_sorted:PySem.W.nsIn (KK w.params) mainGlobals "sorted" = some none)
  (z_str:PySem.W.nsIn (KK w.params) mainGlobals "str" = some none)
  (z_sum:PySem.W.nsIn (KK w.params) mainGlobals "sum" = some none)
  (z_tuple:PySem.W.nsIn (KK w.params) mainGlobals "tuple" = some none)
  (z_zip:PySem.W.nsIn (KK w.params) mainGlobals "zip" = some none) :
  ∃ fd:FuncData,(∀(s:Shared)(v:Value),BindsTo s fd ⟨[v],[]⟩ [("_law_script", v)])/\∀ base:Heap,PySem.W.Frag.In K base->base.Ns mainGlobals mg->xK l.prog w K mg base CX0 13 fa fd ["_law_script"] (sp_law K):=by
 have e:=hfa.symm.trans (PySem.W.mg_of X G q77.1);cases e;have Z:Zs mg:=⟨PySem.W.mg_none_of X G z_abs,PySem.W.mg_none_of X G z_all,PySem.W.mg_none_of X G z_bool,PySem.W.mg_none_of X G z_enumerate,PySem.W.mg_none_of X G z_int,PySem.W.mg_none_of X G z_isinstance,PySem.W.mg_none_of X G z_len,PySem.W.mg_none_of X G z_list,PySem.W.mg_none_of X G z_max,PySem.W.mg_none_of X G z_min,PySem.W.mg_none_of X G z_range,PySem.W.mg_none_of X G z_sorted,PySem.W.mg_none_of X G z_str,PySem.W.mg_none_of X G z_sum,PySem.W.mg_none_of X G z_tuple,PySem.W.mg_none_of X G z_zip⟩;refine⟨PySem.W.fnOf "law" "law" (sY zJ7) (tX zJ7) (zM zJ7) .none kV77 dc77 pm77 an77 cd77 ct77,λs v=>.of_eq rfl,λbase _ _=>?_⟩;have yAe:=zY l.prog w base X G q1 (λF=>zBo F Z ) (λ_ _ _ _ _ _=>us1 λ_=>rfl);have yBt:=zY l.prog w base X G q2 (λF=>zJn F Z yAe) (λ_ _ _ _ _ _=>us1 λ_=>rfl);have yBm:=zY l.prog w base X G q3 (λF=>zH2 F Z yBt) (λ_ _ _ _ _ _=>us1 λ_=>rfl);have yCt:=zY l.prog w base X G q4 (λF=>zOz F Z yBm) (λ_ _ _ _ _ _=>us2 λ_ _=>rfl);have yCw:=zY l.prog w base X G q5 (λF=>zOf F Z yCt) (λ_ _ _ _ _ _=>us2 λ_ _=>rfl);have yCb:=zY l.prog w base X G q6 (λF=>zMs F Z yCt) (λ_ _ _ _ _ _=>us2 λ_ _=>rfl);have yBl:=zY l.prog w base X G q7 (λF=>zIc F Z ) (λ_ _ _ _ _ _=>us2 λ_ _=>rfl);have yCc:=zY l.prog w base X G q7 (λF=>zMm F Z ) (λ_ _ _ _ _ _=>us2 λ_ _=>rfl);have yCl:=zY l.prog w base X G q8 (λF=>zNa F Z yBm) (λ_ _ _ _ _ _=>us3 λ_ _ _=>rfl);have yCq:=zY l.prog w base X G q9 (λF=>zNe F Z ) (λ_ _ _ _ _ _=>us2 λ_ _=>rfl);have yBi:=zY l.prog w base X G q10 (λF=>zH1 F Z ) (λ_ _ _ _ _ _=>us2 λ_ _=>rfl);have yBy:=zY l.prog w base X G q10 (λF=>zLx F Z ) (λ_ _ _ _ _ _=>us2 λ_ _=>rfl);have yCe:=zY l.prog w base X G q11 (λF=>zMp F Z yBt) (λ_ _ _ _ _ _=>us1 λ_=>rfl);have yAq:=zY l.prog w base X G q12 (λF=>zFn F Z yBt) (λ_ _ _ _ _ _=>us1 λ_=>rfl);have yBr:=zY l.prog w base X G q13 (λF=>zJq F Z ) (λ_ _ _ _ _ _=>us2 λ_ _=>rfl);have yCj:=zY l.prog w base X G q14 (λF=>zL6 F Z yBr) (λ_ _ _ _ _ _=>us2 λ_ _=>rfl);have yBd:=zY l.prog w base X G q15 (λF=>zHn F Z yBm yCq) (λ_ _ _ _ _ _=>us2 λ_ _=>rfl);have yBf:=zY l.prog w base X G q16 (λF=>zG1 F Z yCj) (λ_ _ _ _ _ _=>us2 λ_ _=>rfl);have yCo:=zY l.prog w base X G q17 (λF=>zNi F Z yCl yBy) (λ_ _ _ _ _ _=>us1 λ_=>rfl);have yBg:=zY l.prog w base X G q18 (λF=>zHc F Z yCq yCj yBd) (λ_ _ _ _ _ _=>us3 λ_ _ _=>rfl);have yBc:=zY l.prog w base X G q19 (λF=>zFr F Z yBd yBg) (λ_ _ _ _ _ _=>us2 λ_ _=>rfl);have yAi:=zY l.prog w base X G q20 (λF=>zCy F Z yBc yCo yBf) (λ_ _ _ _ _ _=>us2 λ_ _=>rfl)
 have yBn:=zY l.prog w base X G q21 (λF=>zJx F Z yCj yAi yCl) (λ_ _ _ _ _ _=>us1 λ_=>rfl);have yAw:=zY l.prog w base X G q22 (λF=>zF0 F Z yBn) (λ_ _ _ _ _ _=>us1 λ_=>rfl);have yBv:=zY l.prog w base X G q23 (λF=>zJ6 F Z yBy) (λ_ _ _ _ _ _=>us2 λ_ _=>rfl);have yCr:=zY l.prog w base X G q24 (λF=>zNj F Z yBv yCe) (λ_ _ _ _ _ _=>us1 λ_=>rfl);have yCs:=zY l.prog w base X G q25 (λF=>zNd F Z ) (λ_ _ _ _ _ _=>us1 λ_=>rfl);have yBj:=zY l.prog w base X G q26 (λF=>zIv F Z yBt) (λ_ _ _ _ _ _=>us2 λ_ _=>rfl);have yAd:=zY l.prog w base X G q27 (λF=>zBf F Z yBj yCq yBg) (λ_ _ _ _ _ _=>us2 λ_ _=>rfl);have yCa:=zY l.prog w base X G q28 (λF=>zMo F Z yAd yCq yCj yCo yBj yCs yBn) (λ_ _ _ _ _ _=>us1 λ_=>rfl);have yAp:=zY l.prog w base X G q29 (λF=>zFc F Z yCr yCe yBy yBv) (λ_ _ _ _ _ _=>us2 λ_ _=>rfl);have yAt:=zY l.prog w base X G q30 (λF=>zEh F Z yCq yBy yCt yCs yAi) (λ_ _ _ _ _ _=>us2 λ_ _=>rfl);have yAb:=zY l.prog w base X G q31 (λF=>zBj F Z yCt yCq) (λ_ _ _ _ _ _=>us3 λ_ _ _=>rfl);have yAn:=zY l.prog w base X G q32 (λF=>zE0 F Z yCq yBf yAb yBd yBg) (λ_ _ _ _ _ _=>us2 λ_ _=>rfl);have yCk:=zY l.prog w base X G q33 (λF=>zL8 F Z yAt yAn yAp yCa) (λ_ _ _ _ _ _=>us2 λ_ _=>rfl);have yAk:=zY l.prog w base X G q34 (λF=>zDn F Z ) (λ_ _ _ _ _ _=>us2 λ_ _=>rfl);have yAf:=zY l.prog w base X G q35 (λF=>zC3 F Z yAq yCq yAk) (λ_ _ _ _ _ _=>us2 λ_ _=>rfl);have yAs:=zY l.prog w base X G q36 (λF=>zEj F Z yAf) (λ_ _ _ _ _ _=>us1 λ_=>rfl);have yAc:=zY l.prog w base X G q37 (λF=>zBk F Z yCt) (λ_ _ _ _ _ _=>us2 λ_ _=>rfl);have yAm:=zY l.prog w base X G q38 (λF=>zDi F Z yCl yBy) (λ_ _ _ _ _ _=>us3 λ_ _ _=>rfl);have yAa:=zY l.prog w base X G q39 (λF=>qI F Z yCj yAm yAw yCk) (λ_ _ _ _ _ _=>us2 λ_ _=>rfl);have yAy:=zY l.prog w base X G q40 (λF=>zF1 F Z yAw yAa yAc yCa yAs) (λ_ _ _ _ _ _=>us2 λ_ _=>rfl);have yAl:=zY l.prog w base X G q41 (λF=>zDe F Z ) (λ_ _ _ _ _ _=>us2 λ_ _=>rfl);have yBu:=zY l.prog w base X G q42 (λF=>zJs F Z yCw yCb yCt) (λ_ _ _ _ _ _=>us3 λ_ _ _=>rfl);have yCd:=zY l.prog w base X G q43 (λF=>zMd F Z yBu yCt) (λ_ _ _ _ _ _=>us3 λ_ _ _=>rfl);have yBz:=zY l.prog w base X G q44 (λF=>zLw F Z yBu yCd yAl) (λ_ _ _ _ _ _=>us3 λ_ _ _=>rfl)
 have yAo:=zY l.prog w base X G q45 (λF=>zFi F Z yCc yCt yBu yAl yCd) (λ_ _ _ _ _ _=>us2 λ_ _=>rfl);have yAr:=zY l.prog w base X G q46 (λF=>zFd F Z yBf) (λ_ _ _ _ _ _=>us2 λ_ _=>rfl);have yAj:=zY l.prog w base X G q47 (λF=>zDf F Z yCc yCt yBy yBz yBl yBi) (λ_ _ _ _ _ _=>us4 λ_ _ _ _=>rfl);have yAh:=zY l.prog w base X G q48 (λF=>zCz F Z yCc yCt yBz yBl) (λ_ _ _ _ _ _=>us3 λ_ _ _=>rfl);have yBa:=zY l.prog w base X G q49 (λF=>zFz F Z yAh yAs) (λ_ _ _ _ _ _=>us3 λ_ _ _=>rfl);have yBe:=zY l.prog w base X G q50 (λF=>zHl F Z yBf yAs yAr) (λ_ _ _ _ _ _=>us4 λ_ _ _ _=>rfl);have yAx:=zY l.prog w base X G q51 (λF=>zFw F Z yBe yBa yAj yAo) (λ_ _ _ _ _ _=>us3 λ_ _ _=>rfl);have yAg:=zY l.prog w base X G q52 (λF=>zC0 F Z ) (λ_ _ _ _ _ _=>us2 λ_ _=>rfl);have yAu:=zY l.prog w base X G q53 (λF=>zFy F Z ) (λ_ _ _ _ _ _=>us2 λ_ _=>rfl);have yBw:=zY l.prog w base X G q54 (λF=>zLr F Z ) (λ_ _ _ _ _ _=>us1 λ_=>rfl);have yCf:=zY l.prog w base X G q55 (λF=>zL4 F Z yBw) (λ_ _ _ _ _ _=>us2 λ_ _=>rfl);have yCm:=zY l.prog w base X G q56 (λF=>zOx F Z ) (λ_ _ _ _ _ _=>us4 λ_ _ _ _=>rfl);have yCi:=zY l.prog w base X G q57 (λF=>zMv F Z ) (λ_ _ _ _ _ _=>us2 λ_ _=>rfl);have yCz:=zY l.prog w base X G q58 (λF=>zRx F Z ) (λ_ _ _ _ _ _=>us3 λ_ _ _=>rfl);have yCn:=zY l.prog w base X G q59 (λF=>zN9 F Z yCz) (λ_ _ _ _ _ _=>us1 λ_=>rfl);have yCh:=zY l.prog w base X G q60 (λF=>zM3 F Z yCn) (λ_ _ _ _ _ _=>us2 λ_ _=>rfl);have yBp:=zY l.prog w base X G q61 (λF=>zJw F Z ) (λ_ _ _ _ _ _=>us2 λ_ _=>rfl);have yAv:=zY l.prog w base X G q62 (λF=>zFu F Z yBp yCz) (λ_ _ _ _ _ _=>us2 λ_ _=>rfl);have yCv:=zY l.prog w base X G q63 (λF=>zPv F Z yAv) (λ_ _ _ _ _ _=>us2 λ_ _=>rfl);have yCy:=zY l.prog w base X G q64 (λF=>zRm F Z ) (λ_ _ _ _ _ _=>us2 λ_ _=>rfl);have yAz:=zY l.prog w base X G q65 (λF=>zF3 F Z yCy) (λ_ _ _ _ _ _=>us1 λ_=>rfl);have yBo:=zY l.prog w base X G q66 (λF=>zJ9 F Z yCz yAz yCv yCh yCi yCm) (λ_ _ _ _ _ _=>us1 λ_=>rfl);have yCu:=zO7 l.prog w base X G q67 (λF b k m=>zOt F Z  b k m) (λ_ _ _ _ _ _=>us2 λ_ _=>rfl);have yBq:=zY l.prog w base X G q68 (λF=>zKd F Z ) (λ_ _ _ _ _ _=>us1 λ_=>rfl);have yBx:=zY l.prog w base X G q69 (λF=>zMg F Z ) (λ_ _ _ _ _ _=>us1 λ_=>rfl);have yBk:=zY l.prog w base X G q70 (λF=>zIn F Z yBx) (λ_ _ _ _ _ _=>us2 λ_ _=>rfl);have yBh:=zY l.prog w base X G q71 (λF=>zHb F Z yBk) (λ_ _ _ _ _ _=>us2 λ_ _=>rfl)
 have yBs:=zY l.prog w base X G q72 (λF=>zJv F Z ) (λ_ _ _ _ _ _=>us3 λ_ _ _=>rfl);have yCg:=zY l.prog w base X G q73 (λF=>zLn F Z yBs yBx yBk) (λ_ _ _ _ _ _=>us3 λ_ _ _=>rfl);have yCx:=zY l.prog w base X G q74 (λF=>zQ9 F Z ) (λ_ _ _ _ _ _=>us2 λ_ _=>rfl);have yBb:=zY l.prog w base X G q75 (λF=>zFx F Z yCx yCg yBh yAz) (λ_ _ _ _ _ _=>us3 λ_ _ _=>rfl);have yCp:=zY l.prog w base X G q76 (λF=>zPb F Z yAu yAg) (λ_ _ _ _ _ _=>us2 λ_ _=>rfl);exact zWl (zUw q77) Z yCu yBb yAx yBq yCp yAy yBo yCf
theorem walk{l:PySem.W.OpenLaw}{q:Program}{loose:List Str}{XP:(Str->Option Value)->Heap->Prop}{YP:World->Heap->Prop}{d:DefRec}(hn:l.most=some 63)(hdf:d.params.defaults=[])
  (hY:∀(w:World)(h:Heap),YP w h->PySem.W.Frag.In (KK w.params) h)
  (F:∀(w:World)(mg:Str->Option Value)(fa:Addr)(h:Heap),PySem.W.Frag.In (KK w.params) h->h.Ns mainGlobals mg->mg d.name=some (.ref fa) ->
   ∃ fd:FuncData,(∀(s:Shared)(u:Value),BindsTo s fd ⟨[u],[]⟩ [("_law_script", u)])/\∀ base:Heap,PySem.W.Frag.In K base->base.Ns mainGlobals mg->xK l.prog w K mg base CX0 13 fa fd ["_law_script"] (sp_law K)) :
  PySem.W.WalkO q loose XP YP l.row.toRowW d [] (λf vs=>PySem.call f vs) :=
 L2.walk_of2 (n:=63) (k:=13) (x := "_law_script") (KK:=KK) (K:=K) (sp:=sp_law K) hn (by decide) hdf ⟨rfl,by decide,by decide⟩ hY (λ_ _ X=>K_in X) F (λ_ a ns hl hS=>⟨a,ns,rfl,hS,hl,λ_=>rfl⟩)

end Sea
open PySem PySem.W PyProof.Rows
set_option maxRecDepth 100000 in
set_option maxHeartbeats 0 in
theorem PySem.Challenge.cw_seamarks_k29_banks_judged_holds : PySem.Challenge.rw_seamarks_k29_banks_judged.Holds := by
 w_on
 refine holds_law Sea.said_ok λsaid=>?_;refine holds_open (q:=Sea.qv) (loose:=[]) (XP:=XL Sea.qv []) (YP:=InK Sea.KK) Sea.left_ok (InK.of Sea.kas_ok)
  InK.keeps (λs e=>xl_of s (Bool.and_eq_true_iff.mp e).1) XL.keeps (by rfl) (by rfl) (by rfl)
  (λs e=>recFacts_of (Bool.and_eq_true_iff.mp e).2) (by rfl) (by assumption) (by decide +kernel)
  ⟨rfl,rfl,rfl,rfl,rfl,by decide +kernel⟩ ?hw ?hc
 case hw=>w_witness2
 k_fill
 refine Sea.walk (l:=PySem.Challenge.rw_seamarks_k29_banks_judged) rfl rfl (λw h Y=>Y) ?F
 case F =>
  intro w mg fa h KX G hmg
  refine' Sea.all_mk KX G hmg ?q1 ?q2 ?q3 ?q4 ?q5 ?q6 ?q7 ?q8 ?q9 ?q10 ?q11 ?q12 ?q13 ?q14 ?q15 ?q16 ?q17 ?q18 ?q19 ?q20 ?q21 ?q22 ?q23 ?q24 ?q25 ?q26 ?q27 ?q28 ?q29 ?q30 ?q31 ?q32 ?q33 ?q34 ?q35 ?q36 ?q37 ?q38 ?q39 ?q40 ?q41 ?q42 ?q43 ?q44 ?q45 ?q46 ?q47 ?q48 ?q49 ?q50 ?q51 ?q52 ?q53 ?q54 ?q55 ?q56 ?q57 ?q58 ?q59 ?q60 ?q61 ?q62 ?q63 ?q64 ?q65 ?q66 ?q67 ?q68 ?q69 ?q70 ?q71 ?q72 ?q73 ?q74 ?q75 ?q76 ?q77 ?z_abs ?z_all ?z_bool ?z_enumerate ?z_int ?z_isinstance ?z_len ?z_list ?z_max ?z_min ?z_range ?z_sorted ?z_str ?z_sum ?z_tuple ?z_zip
  (case q77=>refine'⟨?_,?_,?_,?_⟩; k_is; exact rfl; kernel_rfl; kernel_rfl)
  (case q1 | q2 | q3 | q4 | q5 | q6 | q7 | q8 | q9 | q10 | q11 | q12 | q13 | q14 | q15 | q16 | q17 | q18 | q19 | q20 | q21 | q22 | q23 | q24 | q25 | q26 | q27 | q28 | q29 | q30 | q31 | q32 | q33 | q34 | q35 | q36 | q37 | q38 | q39 | q40 | q41 | q42 | q43 | q44 | q45 | q46 | q47 | q48 | q49 | q50 | q51 | q52 | q53 | q54 | q55 | q56 | q57 | q58 | q59 | q60 | q61 | q62 | q63 | q64 | q65 | q66 | q67 | q68 | q69 | q70 | q71 | q72 | q73 | q74 | q75 | q76=>refine' Sea.at_mk ⟨?a,?b,?c,?d⟩;(case a=>k_is);(case b=>exact rfl);(case c=>kernel_rfl);(case d=>kernel_rfl))
  (case z_abs | z_all | z_bool | z_enumerate | z_int | z_isinstance | z_len | z_list | z_max | z_min | z_range | z_sorted | z_str | z_sum | z_tuple | z_zip=>k_is)
