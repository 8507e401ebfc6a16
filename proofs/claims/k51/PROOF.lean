import PyProof.Rows.All
import Wide.All
import OpenK.AllK
import Wide.FinOn
import Lean
import PyProof.EqAt
import PyProof.EqKinds
import PyProof.TupleCall
import PyProof.ZipIter
import PyProof.Rows.ZipGen
import PyProof.EnumFor
import PyProof.EnumStmt
import KE.KSortTup
import KE.KDictList
import KE.KItemsList
import KE.KTryMore
import PyProof.Rows.TopTwo
import PyProof.ExcBaseAll.ValueError
import KE.KRevIter
import KE.KEqDict
import KE.KRevSl
import PySem.Challenge.RW_seamarks_k51_books_written
set_option Elab.async false
set_option linter.all false
set_option maxRecDepth 100000
set_option maxHeartbeats 4000000
theorem nabs{a:Int}{n:Nat} : a.natAbs<=n↔-(n:Int)<=a/\a<=n:=by omega
local macro_rules | `(tactic| lia) => `(tactic| first | (simp only [nabs] at *; lia (config := {})) | lia (config := {}) | omega)
local macro_rules | `(tactic| exists $es,*) => `(tactic| refine ⟨$es,*, ?_⟩)
namespace L2
open PySem
def wA(s:Stmt):Arguments:=match s with
 | .FunctionDef _ a _ _ _ _ _ _ _ _=>a
 | _=>{ posonlyargs:=[],args:=[],vararg:=none,kwonlyargs:=[],kw_defaults:=[],kwarg:=none,defaults:=[] }
def xM(s:Stmt):List Stmt:=match s with
 | .FunctionDef _ _ b _ _ _ _ _ _ _=>b
 | _=>[]
def zJ(s:Stmt):Scope:=match s with
 | .FunctionDef _ _ _ _ _ _ sc _ _ _=>sc
 | _=>{ kind:=.function,names:=[],isGenerator:=false,isCoroutine:=false }
def zAp(s:Stmt)(j:Nat):Stmt:=match s with
 | .ClassDef _ _ _ body _ _ _ _ _ _ _=>body.getD j (.Pass ⟨0,0,0,0⟩)
 | _=>.Pass ⟨0,0,0,0⟩
end L2
namespace PySem.W
open PySem
noncomputable def zGf(tb:String->Option Builtin)(p:Program)(w:World)(n₀:Nat)(ann:Option Value):Nat->SharedT->Thread->Option SharedT
 | 0,_,_=>none
 | n+1,s,t=>match through t with
  | true=>some s
  | false=>match Fast.tw6613529449190102663 n₀ ann t with
   | false=>none
   | true=>match Fast.tw10156331382660048174 (Fast.tw11892475500146522536 tb) p w s t with
    | some (s',t')=>zGf tb p w n₀ ann n s' t'
    | none=>none
theorem zJh{tb:String->Option Builtin}{p:Program}{w:World}{n₀:Nat}{ann:Option Value} : ∀{n:Nat}{s s':SharedT}{t:Thread},zGf tb p w n₀ ann n s t=some s'->topRun tb p w n₀ ann n s.abs t=some s'.abs
 | 0,_,_,_,h=>by cases h
 | n+1,s,s',t,h=>by
  unfold zGf at h;rw[<- Fast.te6613529449190102663,<- Fast.te10156331382660048174,<- Fast.te11892475500146522536] at h;unfold topRun;cases he:through t with
  | true=>rw[he] at h; cases h; rfl
  | false =>
   rw[he] at h;cases hk:stepOk n₀ ann t with
   | false=>rw[hk] at h; cases h
   | true =>
    rw[hk] at h;cases hs:stepT (denote tb) p w s t with
    | none=>rw[hs] at h; cases h
    | some r=>obtain⟨s₂,t₂⟩:=r; rw[hs] at h; rw[stepT_spec hs]; exact zJh h
noncomputable def zT2(P:Params):BT:=((boot_heap P).objs.toList.zipIdx).foldl (λt x=>t.ins x.2 x.1) .nil
theorem zQl(P:Params):absHeap (zT2 P) 11 (boot_heap P).life=boot_heap P:=by kernel_rfl
theorem zNc(P:Params):((boot_heap P).isNs mainGlobals,(boot_heap P).objs.size,(boot_heap P).nsMap mainGlobals "__annotations__")=(true,11,some (.ref 6)):=by kernel_rfl
noncomputable abbrev zXv(tb:String->Option Builtin)(p:Program)(N:Nat)(w:World)(os:OsState):Option SharedT:=zGf tb p w 11 (some (.ref 6)) N ⟨zT2 w.params,11,(boot_heap w.params).life,#[],boot_drawn,boot_toks,os⟩ (topStub p)
theorem zQn{α β γ:Type}{x:Option α}{f:α->β×γ}{a:β}{b:γ}(h1:x.map (λs=>(f s).1)=some a)(h2:x.map (λs=>(f s).2)=some b):x.map f=some (a,b):=by
 cases x with
 | none=>cases h1
 | some s =>
  injection h1 with h1
  injection h2 with h2
  subst h1 h2;rfl
theorem zN2{p q:Program}{loose:List Str}{Xt:Shared->Bool}{α:Type}{Yf:Shared->α}{Ya:World->α}{N:Nat}
  (open_:∀ w:World,(fencedOpening treeTable p w N).map (λs=>(s.heap,s.gens,s.drawn,s.toks))=some (boot_heap w.params,Array.mk [],boot_drawn,boot_toks))
  (h1:∀ w os,(zXv treeTable p N w os).map (λs=>(staticsOk (importedModules p.main.body) (boot_heap w.params) s.abs.heap&&namesBound p s.abs.heap&&gensDone s.abs&&laidKept (boot_heap w.params) s.abs.heap))=some true)
  (h2:∀ w os,(zXv treeTable p N w os).map (λs=>openSeen q loose (importedModules p.main.body) Xt true s.abs)=some (openGood q loose))
  (h3:∀ w os,(zXv treeTable p N w os).map (λs=>Yf s.abs)=some (Ya w)):LeftO p q loose Xt Yf Ya N:=λw=>by
 obtain⟨⟨h,gs,d,k,os⟩,e,e'⟩:=Option.map_eq_some_iff.mp (open_ w);obtain⟨rfl,rfl,rfl,rfl⟩:h=boot_heap w.params/\gs = #[]/\d=boot_drawn/\k=boot_toks:=by simpa using e'
 obtain⟨z1,z2,z3⟩ : _/\_/\_:=by simpa only[Prod.mk.injEq] using zNc w.params
 obtain⟨s,r1,l1⟩:=Option.map_eq_some_iff.mp (h1 w os);obtain⟨s',r2,l2⟩:=Option.map_eq_some_iff.mp (h2 w os);obtain⟨s'',r3,l3⟩:=Option.map_eq_some_iff.mp (h3 w os);rw[r1] at r2 r3;cases r2;cases r3;have r:=zJh r1;rw[show SharedT.abs ⟨zT2 w.params,11,(boot_heap w.params).life,#[],boot_drawn,boot_toks,os⟩=⟨boot_heap w.params,#[],boot_drawn,boot_toks,os⟩ from by unfold SharedT.abs; rw[zQl]] at r;have t:topFrom treeTable p w N ⟨boot_heap w.params,#[],boot_drawn,boot_toks,os⟩=some s.abs:=by
  unfold topFrom;dsimp only;rw[z1,z2,z3,r];show(match staticsOk (importedModules p.main.body) (boot_heap w.params) s.abs.heap&&namesBound p s.abs.heap&&gensDone s.abs&&laidKept (boot_heap w.params) s.abs.heap with | true=>_ | false=>_)=_;rw[l1]
 unfold openEnds;rw[e];show(topFrom treeTable p w N _).map _=_;rw[t];show some (_,_)=_;rw[l2,l3]
end PySem.W
namespace Sea
open PySem L2
def top(i:Nat):Stmt:=PySem.Challenge.pw_seamarks_k51_books_written.main.body.getD i (.Pass ⟨0,0,0,0⟩)
abbrev zC9:Stmt:=top 2
abbrev wV:Stmt:=top 4
abbrev uA:Stmt:=top 5
abbrev sW:Stmt:=top 6
abbrev wP:Stmt:=top 30
abbrev rG:Stmt:=top 31
abbrev sY:Stmt:=top 32
abbrev zAa:Stmt:=top 33
abbrev uT:Stmt:=top 34
abbrev uZ:Stmt:=top 35
abbrev wR:Stmt:=top 36
abbrev vX:Stmt:=top 37
abbrev vC:Stmt:=top 38
abbrev vD:Stmt:=top 39
abbrev wK:Stmt:=top 40
abbrev vU:Stmt:=top 41
abbrev uF:Stmt:=top 42
abbrev vE:Stmt:=top 43
abbrev vB:Stmt:=top 44
abbrev wH:Stmt:=top 45
abbrev uX:Stmt:=top 46
abbrev uE:Stmt:=top 47
abbrev uS:Stmt:=top 48
abbrev wW:Stmt:=top 49
abbrev uY:Stmt:=top 50
abbrev xU:Stmt:=top 51
abbrev wZ:Stmt:=top 52
abbrev wE:Stmt:=top 53
abbrev zBb:Stmt:=top 55
abbrev vF:Stmt:=top 59
abbrev uC:Stmt:=top 60
abbrev rK:Stmt:=top 61
abbrev zA7:Stmt:=top 63
abbrev zA2:Stmt:=top 64
abbrev zA9:Stmt:=top 65
abbrev zHi:Stmt:=top 66
abbrev zGi:Stmt:=top 67
abbrev zAb:Stmt:=top 68
abbrev vY:Stmt:=top 69
abbrev zDg:Stmt:=top 70
abbrev zBf:Stmt:=top 71
abbrev vW:Stmt:=top 72
abbrev uU:Stmt:=top 73
abbrev zDj:Stmt:=top 74
abbrev wF:Stmt:=top 75
abbrev uW:Stmt:=top 76
abbrev zBc:Stmt:=top 77
abbrev tS:Stmt:=top 78
abbrev zDi:Stmt:=top 79
abbrev zKp:Stmt:=top 80
abbrev zDe:Stmt:=zAp (top 57) 0
abbrev zDd:Stmt:=zAp (top 57) 11
abbrev zC7:Stmt:=zAp (top 57) 12
abbrev zDa:Stmt:=zAp (top 57) 13
abbrev zBe:Stmt:=zAp (top 57) 15
abbrev zAf:Stmt:=zAp (top 57) 16
abbrev qX:Stmt:=zAp (top 57) 22
noncomputable def qv:Program:={ PySem.Challenge.pw_seamarks_k51_books_written with main:={ PySem.Challenge.pw_seamarks_k51_books_written.main with body:=[top 2,top 4,top 5,top 6,top 30,top 31,top 32,top 33,top 34,top 35,top 36,top 37,top 38,top 39,top 40,top 41,top 42,top 43,top 44,top 45,top 46,top 47,top 48,top 49,top 50,top 51,top 52,top 53,top 55,top 59,top 60,top 61,top 63,top 64,top 65,top 66,top 67,top 68,top 69,top 70,top 71,top 72,top 73,top 74,top 75,top 76,top 77,top 78,top 79,top 80] } }
def lse:List Str:=("_wall" : Str)::("MarkError" : Str)::("BadName" : Str)::("Taken" : Str)::("BadPlace" : Str)::("Full" : Str)::("NoMark" : Str)::("Same" : Str)::("Needed" : Str)::("BadBank" : Str)::("NoBank" : Str)::("BadRun" : Str)::("NoRun" : Str)::("NoMoment" : Str)::("BadWay" : Str)::("BadTurn" : Str)::("NoNote" : Str)::("NothingLeft" : Str)::("MOST" : Str)::("LONGEST_NAME" : Str)::("FARTHEST" : Str)::("LONGEST_WAY" : Str)::("AFTER" : Str)::("Book" : Str)::[]
noncomputable def kd(P:Params)(x:Str)(t:Nat)(v:Value):DictEntry:=⟨PyData.keyHash P x,.str x t,v⟩
noncomputable def kc(l:List Value):Obj:=⟨.type "code", none,.fields (List.toArray l),List.toArray []⟩
noncomputable def kq(x:Str)(a:Nat)(l g:Int)(r:Nat)(u v w y z:Value)(h:Int)(b:Nat):Obj:=kc [.str x a,.str x (a+1),.str "/claim/cut.py" (a+2),.int l 0,.int g 0,.int 0 0,.int 0 0,.int 3 0,.ref r,.bool true,.int 181 0,u,v,w,y,z,.int h 0,.int l 0,.str "/claim/cut.py" b]
noncomputable abbrev kf(x:Str)(s:Stmt)(kV doc pm cd ct:Value):Obj:=⟨.type "function", none,.func (PySem.W.fnOf x x (wA s) (xM s) (zJ s) .none kV doc pm none cd ct),List.toArray []⟩
noncomputable abbrev kg(x:Str)(s:Stmt)(m:Str)(t c:Nat):Obj:=kf x s .none .none (.str m t) (.ref c) .none
noncomputable abbrev kf2(x q:Str)(s:Stmt)(kV doc pm cd ct:Value):Obj:=⟨.type "function", none,.func (PySem.W.fnOf x q (wA s) (xM s) (zJ s) .none kV doc pm none cd ct),List.toArray []⟩
noncomputable def kNs(P:Params):Obj:=⟨.type "dict", none,.dict (List.toArray (kd P "__name__" 165 (.str "law_seamarks_k51_books_written" 1000)::kd P "__doc__" 166 .none::kd P "__package__" 167 .none::kd P "__loader__" 168 (.builtin "__main__.__loader__#opaque")::kd P "__spec__" 169 .none::kd P "__annotations__" 170 (.ref 6)::kd P "__builtins__" 171 (.ref 4)::kd P "__file__" 173 (.str "/claim/cut.py" 172)::kd P "__cached__" 174 .none::kd P "_wall" 193 (.ref 21)::kd P "turn" 203 (.ref 28)::kd P "stretch_way" 213 (.ref 35)::kd P "all_left_of" 225 (.ref 42)::kd P "is_bank" 231 (.ref 47)::kd P "MarkError" 251 (.ref 57)::kd P "BadName" 267 (.ref 70)::kd P "Taken" 283 (.ref 82)::kd P "BadPlace" 299 (.ref 94)::kd P "Full" 315 (.ref 106)::kd P "NoMark" 331 (.ref 118)::kd P "Same" 347 (.ref 130)::kd P "Needed" 363 (.ref 142)::kd P "BadBank" 379 (.ref 154)::kd P "NoBank" 395 (.ref 166)::kd P "BadRun" 411 (.ref 178)::kd P "NoRun" 427 (.ref 190)::kd P "NoMoment" 443 (.ref 202)::kd P "BadWay" 459 (.ref 214)::kd P "BadTurn" 475 (.ref 226)::kd P "NoNote" 491 (.ref 238)::kd P "NothingLeft" 507 (.ref 250)::kd P "MOST" 522 (.ref 253)::kd P "LONGEST_NAME" 524 (.int 8 523)::kd P "FARTHEST" 526 (.int 1000 525)::kd P "LONGEST_WAY" 528 (.int 100 527)::kd P "nothing_yet" 534 (.ref 260)::kd P "changed" 545 (.ref 267)::kd P "without" 555 (.ref 274)::kd P "within" 561 (.ref 279)::kd P "check_name" 567 (.ref 284)::kd P "check_free" 576 (.ref 291)::kd P "check_place" 583 (.ref 298)::kd P "check_run" 590 (.ref 305)::kd P "check_room" 598 (.ref 312)::kd P "check_mark" 606 (.ref 319)::kd P "check_moment" 614 (.ref 326)::kd P "check_way" 621 (.ref 333)::kd P "check_apart" 630 (.ref 340)::kd P "after_mark" 640 (.ref 347)::kd P "after_move" 651 (.ref 354)::kd P "after_unmark" 661 (.ref 361)::kd P "after_bank" 672 (.ref 368)::kd P "after_level" 681 (.ref 375)::kd P "after_sail" 690 (.ref 382)::kd P "after_right" 700 (.ref 389)::kd P "after_note" 709 (.ref 396)::kd P "after_bearing" 717 (.ref 403)::kd P "after_range" 725 (.ref 410)::kd P "after_strike" 734 (.ref 417)::kd P "AFTER" 755 (.ref 418)::kd P "after" 763 (.ref 425)::kd P "Book" 974 (.ref 588)::kd P "words_of" 985 (.ref 599)::kd P "written_row" 993 (.ref 606)::kd P "written" 999 (.ref 611)::kd P "_law_power" 1008 (.ref 618)::kd P "_law_draws" 1020 (.ref 625)::kd P "_law_names" 1026 (.ref 630)::kd P "_law_new" 1032 (.ref 637)::kd P "_law_way" 1043 (.ref 644)::kd P "_law_turned" 1051 (.ref 651)::kd P "_law_left_pair" 1061 (.ref 658)::kd P "_law_bank" 1083 (.ref 665)::kd P "_law_after" 1092 (.ref 672)::kd P "_law_good_deed" 1098 (.ref 677)::kd P "_law_more_deeds" 1104 (.ref 682)::kd P "_law_lead" 1110 (.ref 687)::kd P "_law_true_bearing" 1129 (.ref 694)::kd P "_law_some_deeds" 1148 (.ref 701)::kd P "_law_same" 1154 (.ref 706)::kd P "_law_text_row" 1160 (.ref 711)::kd P "_law_text" 1166 (.ref 716)::kd P "law" 1172 (.ref 721)::[])) 83,List.toArray []⟩
noncomputable def KG(P:Params):PySem.W.Frag :=
 (nat_lit 56,⟨.type "dict", none,.dict (List.toArray (kd P "__module__" 241 (.str "seamarks.errors" 232)::kd P "__firstlineno__" 245 (.int 23 244)::kd P "__static_attributes__" 246 (.ref 55)::kd P "__weakref__" 248 (.ref 58)::kd P "__doc__" 249 .none::[])) 3,List.toArray []⟩) ::
 (nat_lit 201,⟨.type "dict", none,.dict (List.toArray (kd P "__module__" 435 (.str "seamarks.errors" 232)::kd P "__firstlineno__" 439 (.int 47 438)::kd P "__static_attributes__" 440 (.ref 200)::kd P "__doc__" 441 .none::[])) 2,List.toArray []⟩) ::
 (nat_lit 253,⟨.type "dict", none,.dict (List.toArray (kd P "marks" 510 (.int 20 511)::kd P "banks" 512 (.int 8 513)::kd P "runs" 514 (.int 12 515)::kd P "notes" 516 (.int 24 517)::[])) 4,List.toArray []⟩) ::
 (nat_lit 418,⟨.type "dict", none,.dict (List.toArray (kd P "mark" 735 (.ref 347)::kd P "move" 736 (.ref 354)::kd P "unmark" 737 (.ref 361)::kd P "bank" 738 (.ref 368)::kd P "level" 739 (.ref 375)::kd P "sail" 740 (.ref 382)::kd P "right" 741 (.ref 389)::kd P "bearing" 742 (.ref 403)::kd P "range" 743 (.ref 410)::kd P "strike" 744 (.ref 417)::[])) 10,List.toArray []⟩) ::
 (nat_lit 587,⟨.type "dict", none,.dict (List.toArray (kd P "__module__" 773 (.str "seamarks.book" 764)::kd P "__firstlineno__" 777 (.int 183 776)::kd P "__init__" 784 (.ref 439)::kd P "mark" 794 (.ref 446)::kd P "move" 804 (.ref 453)::kd P "unmark" 812 (.ref 460)::kd P "bank" 821 (.ref 467)::kd P "level" 829 (.ref 474)::kd P "sail" 838 (.ref 481)::kd P "right" 848 (.ref 488)::kd P "bearing" 859 (.ref 495)::kd P "range_note" 869 (.ref 502)::kd P "strike" 877 (.ref 509)::kd P "deed" 887 (.ref 516)::kd P "step" 897 (.ref 523)::kd P "undo" 904 (.ref 530)::kd P "redo" 911 (.ref 537)::kd P "deeds" 917 (.ref 542)::kd P "undone" 923 (.ref 547)::kd P "twin" 930 (.ref 554)::kd P "marks" 936 (.ref 559)::kd P "banks" 943 (.ref 566)::kd P "runs" 949 (.ref 571)::kd P "notes" 956 (.ref 578)::kd P "coming" 963 (.ref 585)::kd P "__static_attributes__" 967 (.ref 586)::kd P "__dict__" 969 (.ref 589)::kd P "__weakref__" 971 (.ref 590)::kd P "__doc__" 972 .none::[])) 4,List.toArray []⟩)::[]
noncomputable abbrev KF(P:Params):PySem.W.Frag:=(nat_lit 3,kNs P)::KG P
noncomputable def KC:PySem.W.Frag :=
 (nat_lit 27,kq "turn" 196 5 2 22 (.ref 23) .none (.ref 24) (.ref 25) (.ref 26) 201 202) ::
 (nat_lit 28,kg "turn" zC9 "seamarks.sides" 194 27) ::
 (nat_lit 34,kq "stretch_way" 206 8 2 29 (.ref 30) .none (.ref 31) (.ref 32) (.ref 33) 211 212) ::
 (nat_lit 35,kg "stretch_way" wV "seamarks.banks" 204 34) ::
 (nat_lit 41,kq "all_left_of" 214 10 2 36 (.ref 37) .none (.ref 38) (.ref 39) (.ref 40) 223 224) ::
 (nat_lit 42,kg "all_left_of" uA "seamarks.banks" 204 41) ::
 (nat_lit 46,kq "is_bank" 226 18 1 43 (.ref 44) .none .none .none (.ref 45) 229 230) ::
 (nat_lit 47,kg "is_bank" sW "seamarks.banks" 204 46) ::
 (nat_lit 57,(@PySem.Obj.mk (.type "type") none (@PySem.Data.cls (@PySem.ClassData.mk "MarkError" ((.type "ValueError")::[]) ((.ref 57)::((.type "ValueError")::((.type "Exception")::((.type "BaseException")::((.type "object")::[]))))) 56 "MarkError" true [] ((.ref 70)::((.ref 82)::((.ref 94)::((.ref 106)::((.ref 118)::((.ref 130)::((.ref 142)::((.ref 154)::((.ref 166)::((.ref 178)::((.ref 190)::((.ref 202)::((.ref 214)::((.ref 226)::((.ref 238)::((.ref 250)::[])))))))))))))))) false none false)) (List.toArray ((some (.ref 48))::(none::((some (.str "MarkError" 234))::((some (.str "MarkError" 242))::((some (.builtin "ValueError.__new__"))::((some (.bool true))::[]))))))))) ::
 (nat_lit 202,(@PySem.Obj.mk (.type "type") none (@PySem.Data.cls (@PySem.ClassData.mk "NoMoment" ((.ref 57)::[]) ((.ref 202)::((.ref 57)::((.type "ValueError")::((.type "Exception")::((.type "BaseException")::((.type "object")::[])))))) 201 "NoMoment" true [] [] false none false)) (List.toArray ((some (.ref 193))::(none::((some (.str "NoMoment" 428))::((some (.str "NoMoment" 436))::((some (.builtin "ValueError.__new__"))::((some (.bool true))::[]))))))))) ::
 (nat_lit 259,kq "nothing_yet" 529 62 0 254 (.ref 255) .none (.ref 256) (.ref 257) (.ref 258) 532 533) ::
 (nat_lit 260,kg "nothing_yet" wP "seamarks.deeds" 508 259) ::
 (nat_lit 266,kq "changed" 535 64 4 261 (.ref 262) .none (.ref 263) (.ref 264) (.ref 265) 543 544) ::
 (nat_lit 267,kg "changed" rG "seamarks.deeds" 508 266) ::
 (nat_lit 273,kq "without" 546 69 3 268 (.ref 269) .none (.ref 270) (.ref 271) (.ref 272) 553 554) ::
 (nat_lit 274,kg "without" sY "seamarks.deeds" 508 273) ::
 (nat_lit 278,kq "within" 556 74 2 275 (.ref 276) .none .none .none (.ref 277) 559 560) ::
 (nat_lit 279,kg "within" zAa "seamarks.deeds" 508 278) ::
 (nat_lit 283,kq "check_name" 562 76 1 280 (.ref 281) .none .none .none (.ref 282) 565 566) ::
 (nat_lit 284,kg "check_name" uT "seamarks.deeds" 508 283) ::
 (nat_lit 290,kq "check_free" 568 79 3 285 (.ref 286) .none (.ref 287) (.ref 288) (.ref 289) 574 575) ::
 (nat_lit 291,kg "check_free" uZ "seamarks.deeds" 508 290) ::
 (nat_lit 297,kq "check_place" 577 82 1 292 (.ref 293) .none (.ref 294) (.ref 295) (.ref 296) 581 582) ::
 (nat_lit 298,kg "check_place" wR "seamarks.deeds" 508 297) ::
 (nat_lit 304,kq "check_run" 584 85 1 299 (.ref 300) .none (.ref 301) (.ref 302) (.ref 303) 588 589) ::
 (nat_lit 305,kg "check_run" vX "seamarks.deeds" 508 304) ::
 (nat_lit 311,kq "check_room" 591 88 2 306 (.ref 307) .none (.ref 308) (.ref 309) (.ref 310) 596 597) ::
 (nat_lit 312,kg "check_room" vC "seamarks.deeds" 508 311) ::
 (nat_lit 318,kq "check_mark" 599 91 2 313 (.ref 314) .none (.ref 315) (.ref 316) (.ref 317) 604 605) ::
 (nat_lit 319,kg "check_mark" vD "seamarks.deeds" 508 318) ::
 (nat_lit 325,kq "check_moment" 607 94 2 320 (.ref 321) .none (.ref 322) (.ref 323) (.ref 324) 612 613) ::
 (nat_lit 326,kg "check_moment" wK "seamarks.deeds" 508 325) ::
 (nat_lit 332,kq "check_way" 615 97 1 327 (.ref 328) .none (.ref 329) (.ref 330) (.ref 331) 619 620) ::
 (nat_lit 333,kg "check_way" vU "seamarks.deeds" 508 332) ::
 (nat_lit 339,kq "check_apart" 622 100 3 334 (.ref 335) .none (.ref 336) (.ref 337) (.ref 338) 628 629) ::
 (nat_lit 340,kg "check_apart" uF "seamarks.deeds" 508 339) ::
 (nat_lit 346,kq "after_mark" 631 103 2 341 (.ref 342) .none (.ref 343) (.ref 344) (.ref 345) 638 639) ::
 (nat_lit 347,kg "after_mark" vE "seamarks.deeds" 508 346) ::
 (nat_lit 353,kq "after_move" 641 111 2 348 (.ref 349) .none (.ref 350) (.ref 351) (.ref 352) 649 650) ::
 (nat_lit 354,kg "after_move" vB "seamarks.deeds" 508 353) ::
 (nat_lit 360,kq "after_unmark" 652 120 2 355 (.ref 356) .none (.ref 357) (.ref 358) (.ref 359) 659 660) ::
 (nat_lit 361,kg "after_unmark" wH "seamarks.deeds" 508 360) ::
 (nat_lit 367,kq "after_bank" 662 127 2 362 (.ref 363) .none (.ref 364) (.ref 365) (.ref 366) 670 671) ::
 (nat_lit 368,kg "after_bank" uX "seamarks.deeds" 508 367) ::
 (nat_lit 374,kq "after_level" 673 138 2 369 (.ref 370) .none (.ref 371) (.ref 372) (.ref 373) 679 680) ::
 (nat_lit 375,kg "after_level" uE "seamarks.deeds" 508 374) ::
 (nat_lit 381,kq "after_sail" 682 143 2 376 (.ref 377) .none (.ref 378) (.ref 379) (.ref 380) 688 689) ::
 (nat_lit 382,kg "after_sail" uS "seamarks.deeds" 508 381) ::
 (nat_lit 388,kq "after_right" 691 148 2 383 (.ref 384) .none (.ref 385) (.ref 386) (.ref 387) 698 699) ::
 (nat_lit 389,kg "after_right" wW "seamarks.deeds" 508 388) ::
 (nat_lit 395,kq "after_note" 701 155 2 390 (.ref 391) .none (.ref 392) (.ref 393) (.ref 394) 707 708) ::
 (nat_lit 396,kg "after_note" uY "seamarks.deeds" 508 395) ::
 (nat_lit 402,kq "after_bearing" 710 160 2 397 (.ref 398) .none (.ref 399) (.ref 400) (.ref 401) 715 716) ::
 (nat_lit 403,kg "after_bearing" xU "seamarks.deeds" 508 402) ::
 (nat_lit 409,kq "after_range" 718 168 2 404 (.ref 405) .none (.ref 406) (.ref 407) (.ref 408) 723 724) ::
 (nat_lit 410,kg "after_range" wZ "seamarks.deeds" 508 409) ::
 (nat_lit 416,kq "after_strike" 726 174 2 411 (.ref 412) .none (.ref 413) (.ref 414) (.ref 415) 732 733) ::
 (nat_lit 417,kg "after_strike" wE "seamarks.deeds" 508 416) ::
 (nat_lit 424,kq "after" 756 180 2 419 (.ref 420) .none (.ref 421) (.ref 422) (.ref 423) 761 762) ::
 (nat_lit 425,kg "after" zBb "seamarks.deeds" 508 424) ::
 (nat_lit 438,kc ((.str "__init__" 778)::((.str "Book.__init__" 779)::((.str "/claim/cut.py" 780)::((.int 185 0)::((.int 1 0)::((.int 0 0)::((.int 0 0)::((.int 3 0)::((.ref 433)::((.bool true)::((.int 181 0)::((.ref 434)::(.none::((.ref 435)::((.ref 436)::((.ref 437)::((.int 782 0)::((.int 185 0)::((.str "/claim/cut.py" 783)::[])))))))))))))))))))) ::
 (nat_lit 439,kf2 "__init__" "Book.__init__" zDe .none .none (.str "seamarks.book" 764) (.ref 438) .none) ::
 (nat_lit 515,kc ((.str "deed" 878)::((.str "Book.deed" 879)::((.str "/claim/cut.py" 880)::((.int 220 0)::((.int 2 0)::((.int 0 0)::((.int 0 0)::((.int 3 0)::((.ref 510)::((.bool true)::((.int 181 0)::((.ref 511)::(.none::((.ref 512)::((.ref 513)::((.ref 514)::((.int 885 0)::((.int 220 0)::((.str "/claim/cut.py" 886)::[])))))))))))))))))))) ::
 (nat_lit 516,kf2 "deed" "Book.deed" zDd .none .none (.str "seamarks.book" 764) (.ref 515) .none) ::
 (nat_lit 522,kc ((.str "step" 888)::((.str "Book.step" 889)::((.str "/claim/cut.py" 890)::((.int 228 0)::((.int 3 0)::((.int 0 0)::((.int 0 0)::((.int 3 0)::((.ref 517)::((.bool true)::((.int 181 0)::((.ref 518)::(.none::((.ref 519)::((.ref 520)::((.ref 521)::((.int 895 0)::((.int 228 0)::((.str "/claim/cut.py" 896)::[])))))))))))))))))))) ::
 (nat_lit 523,kf2 "step" "Book.step" zC7 .none .none (.str "seamarks.book" 764) (.ref 522) .none) ::
 (nat_lit 529,kc ((.str "undo" 898)::((.str "Book.undo" 899)::((.str "/claim/cut.py" 900)::((.int 234 0)::((.int 1 0)::((.int 0 0)::((.int 0 0)::((.int 3 0)::((.ref 524)::((.bool true)::((.int 181 0)::((.ref 525)::(.none::((.ref 526)::((.ref 527)::((.ref 528)::((.int 902 0)::((.int 234 0)::((.str "/claim/cut.py" 903)::[])))))))))))))))))))) ::
 (nat_lit 530,kf2 "undo" "Book.undo" zDa .none .none (.str "seamarks.book" 764) (.ref 529) .none) ::
 (nat_lit 541,kc ((.str "deeds" 912)::((.str "Book.deeds" 913)::((.str "/claim/cut.py" 914)::((.int 242 0)::((.int 1 0)::((.int 0 0)::((.int 0 0)::((.int 3 0)::((.ref 538)::((.bool true)::((.int 181 0)::((.ref 539)::(.none::(.none::(.none::((.ref 540)::((.int 915 0)::((.int 242 0)::((.str "/claim/cut.py" 916)::[])))))))))))))))))))) ::
 (nat_lit 542,kf2 "deeds" "Book.deeds" zBe .none .none (.str "seamarks.book" 764) (.ref 541) .none) ::
 (nat_lit 546,kc ((.str "undone" 918)::((.str "Book.undone" 919)::((.str "/claim/cut.py" 920)::((.int 245 0)::((.int 1 0)::((.int 0 0)::((.int 0 0)::((.int 3 0)::((.ref 543)::((.bool true)::((.int 181 0)::((.ref 544)::(.none::(.none::(.none::((.ref 545)::((.int 921 0)::((.int 245 0)::((.str "/claim/cut.py" 922)::[])))))))))))))))))))) ::
 (nat_lit 547,kf2 "undone" "Book.undone" zAf .none .none (.str "seamarks.book" 764) (.ref 546) .none) ::
 (nat_lit 584,kc ((.str "coming" 957)::((.str "Book.coming" 958)::((.str "/claim/cut.py" 959)::((.int 265 0)::((.int 1 0)::((.int 0 0)::((.int 0 0)::((.int 3 0)::((.ref 579)::((.bool true)::((.int 181 0)::((.ref 580)::(.none::((.ref 581)::((.ref 582)::((.ref 583)::((.int 961 0)::((.int 265 0)::((.str "/claim/cut.py" 962)::[])))))))))))))))))))) ::
 (nat_lit 585,kf2 "coming" "Book.coming" qX .none .none (.str "seamarks.book" 764) (.ref 584) .none) ::
 (nat_lit 588,(@PySem.Obj.mk (.type "type") none (@PySem.Data.cls (@PySem.ClassData.mk "Book" ((.type "object")::[]) ((.ref 588)::((.type "object")::[])) 587 "Book" true [] [] false none false)) (List.toArray (none::(none::((some (.str "Book" 766))::((some (.str "Book" 774))::((some (.builtin "object.__new__"))::((some (.bool true))::[]))))))))) ::
 (nat_lit 598,kq "words_of" 977 268 1 593 (.ref 594) .none (.ref 595) (.ref 596) (.ref 597) 983 984) ::
 (nat_lit 599,kg "words_of" vF "seamarks.rows" 975 598) ::
 (nat_lit 605,kq "written_row" 986 275 1 600 (.ref 601) .none (.ref 602) (.ref 603) (.ref 604) 991 992) ::
 (nat_lit 606,kg "written_row" uC "seamarks.rows" 975 605) ::
 (nat_lit 610,kq "written" 994 278 1 607 (.ref 608) .none .none .none (.ref 609) 997 998) ::
 (nat_lit 611,kg "written" rK "seamarks.rows" 975 610) ::
 (nat_lit 617,kq "_law_power" 1002 281 1 612 (.ref 613) .none (.ref 614) (.ref 615) (.ref 616) 1006 1007) ::
 (nat_lit 618,kg "_law_power" zA7 "law_seamarks_k51_books_written" 1000 617) ::
 (nat_lit 624,kq "_law_draws" 1009 283 2 619 (.ref 620) .none (.ref 621) (.ref 622) (.ref 623) 1018 1019) ::
 (nat_lit 625,kg "_law_draws" zA2 "law_seamarks_k51_books_written" 1000 624) ::
 (nat_lit 629,kq "_law_names" 1021 299 2 626 (.ref 627) .none .none .none (.ref 628) 1024 1025) ::
 (nat_lit 630,kg "_law_names" zA9 "law_seamarks_k51_books_written" 1000 629) ::
 (nat_lit 636,kq "_law_new" 1027 314 0 631 (.ref 632) .none (.ref 633) (.ref 634) (.ref 635) 1030 1031) ::
 (nat_lit 637,kg "_law_new" zHi "law_seamarks_k51_books_written" 1000 636) ::
 (nat_lit 643,kq "_law_way" 1033 316 3 638 (.ref 639) .none (.ref 640) (.ref 641) (.ref 642) 1041 1042) ::
 (nat_lit 644,kg "_law_way" zGi "law_seamarks_k51_books_written" 1000 643) ::
 (nat_lit 650,kq "_law_turned" 1044 322 2 645 (.ref 646) .none (.ref 647) (.ref 648) (.ref 649) 1049 1050) ::
 (nat_lit 651,kg "_law_turned" zAb "law_seamarks_k51_books_written" 1000 650) ::
 (nat_lit 657,kq "_law_left_pair" 1052 324 2 652 (.ref 653) .none (.ref 654) (.ref 655) (.ref 656) 1059 1060) ::
 (nat_lit 658,kg "_law_left_pair" vY "law_seamarks_k51_books_written" 1000 657) ::
 (nat_lit 664,kq "_law_bank" 1062 334 2 659 (.ref 660) .none (.ref 661) (.ref 662) (.ref 663) 1081 1082) ::
 (nat_lit 665,kg "_law_bank" zDg "law_seamarks_k51_books_written" 1000 664) ::
 (nat_lit 671,kq "_law_after" 1084 350 2 666 (.ref 667) .none (.ref 668) (.ref 669) (.ref 670) 1090 1091) ::
 (nat_lit 672,kg "_law_after" zBf "law_seamarks_k51_books_written" 1000 671) ::
 (nat_lit 676,kq "_law_good_deed" 1093 372 3 673 (.ref 674) .none .none .none (.ref 675) 1096 1097) ::
 (nat_lit 677,kg "_law_good_deed" vW "law_seamarks_k51_books_written" 1000 676) ::
 (nat_lit 681,kq "_law_more_deeds" 1099 397 3 678 (.ref 679) .none .none .none (.ref 680) 1102 1103) ::
 (nat_lit 682,kg "_law_more_deeds" uU "law_seamarks_k51_books_written" 1000 681) ::
 (nat_lit 686,kq "_law_lead" 1105 413 3 683 (.ref 684) .none .none .none (.ref 685) 1108 1109) ::
 (nat_lit 687,kg "_law_lead" zDj "law_seamarks_k51_books_written" 1000 686) ::
 (nat_lit 693,kq "_law_true_bearing" 1111 417 6 688 (.ref 689) .none (.ref 690) (.ref 691) (.ref 692) 1127 1128) ::
 (nat_lit 694,kg "_law_true_bearing" wF "law_seamarks_k51_books_written" 1000 693) ::
 (nat_lit 700,kq "_law_some_deeds" 1130 426 2 695 (.ref 696) .none (.ref 697) (.ref 698) (.ref 699) 1146 1147) ::
 (nat_lit 701,kg "_law_some_deeds" uW "law_seamarks_k51_books_written" 1000 700) ::
 (nat_lit 705,kq "_law_same" 1149 446 2 702 (.ref 703) .none .none .none (.ref 704) 1152 1153) ::
 (nat_lit 706,kg "_law_same" zBc "law_seamarks_k51_books_written" 1000 705) ::
 (nat_lit 710,kq "_law_text_row" 1155 454 1 707 (.ref 708) .none .none .none (.ref 709) 1158 1159) ::
 (nat_lit 711,kg "_law_text_row" tS "law_seamarks_k51_books_written" 1000 710) ::
 (nat_lit 715,kq "_law_text" 1161 464 1 712 (.ref 713) .none .none .none (.ref 714) 1164 1165) ::
 (nat_lit 716,kg "_law_text" zDi "law_seamarks_k51_books_written" 1000 715) ::
 (nat_lit 720,kq "law" 1167 466 1 717 (.ref 718) .none .none .none (.ref 719) 1170 1171) ::
 (nat_lit 721,kg "law" zKp "law_seamarks_k51_books_written" 1000 720)::[]
noncomputable def KK(P:Params):PySem.W.Frag:=(nat_lit 3,kNs P)::(KG P++KC)
noncomputable def K:PySem.W.Frag:=Classical.choose (⟨KC,rfl⟩:∃ k,k=KC)
theorem zNo:K=KC:=Classical.choose_spec (⟨KC,rfl⟩:∃ k,k=KC)
noncomputable def kas:List Nat:=nat_lit 3::nat_lit 56::nat_lit 201::nat_lit 253::nat_lit 418::nat_lit 587::KC.map (·.1)
theorem kas_ok:∀ P:Params,kas=(KK P).map (·.1):=λ_=>by kernel_rfl
theorem zVf{a b:Bool}(h:a=true)(k:b=true):(a&&b)=true:=by rw[h,k]; rfl
set_option maxHeartbeats 0 in
open PySem.W in
theorem said_ok:PySem.Challenge.rw_seamarks_k51_books_written.wellSaid=true:=by
 unfold OpenLaw.wellSaid
 repeat' first | with_reducible apply zVf | unfold OpenRow.wellSaid | unfold OpenRow.partSaid | unfold looksOpen
 all_goals decide +kernel
open PySem.W in
noncomputable abbrev lkM:=Fast.tw5923862056798008813 (Fast.tw2368527892694137696 PySem.Challenge.rw_seamarks_k51_books_written).prog.main.body
open PySem.W in
noncomputable abbrev lkT(w:World)(os:OsState):=zXv Fast.tw14364793385576792824 (Fast.tw2368527892694137696 PySem.Challenge.rw_seamarks_k51_books_written).prog 90000 w os
open PySem.W in
noncomputable abbrev lkS(s:SharedT):=Fast.tw4187177175401517315 qv lse lkM (λs=>xlAt qv [] s&&recOk (Fast.tw2368527892694137696 PySem.Challenge.rw_seamarks_k51_books_written).records s) true s.abs
set_option maxHeartbeats 0 in
open PySem.W in
theorem zUn(u:World)(os:OsState):(lkT (u.withFollow "special-get-raises" true) os).map (λs=>(staticsOk lkM (boot_heap (u.withFollow "special-get-raises" true).params) s.abs.heap&&namesBound (Fast.tw2368527892694137696 PySem.Challenge.rw_seamarks_k51_books_written).prog s.abs.heap&&gensDone s.abs&&laidKept (boot_heap (u.withFollow "special-get-raises" true).params) s.abs.heap))=some true:=by kernel_rfl
set_option maxHeartbeats 0 in
open PySem.W in
theorem zTf(u:World)(os:OsState):(lkT (u.withFollow "special-get-raises" false) os).map (λs=>(staticsOk lkM (boot_heap (u.withFollow "special-get-raises" false).params) s.abs.heap&&namesBound (Fast.tw2368527892694137696 PySem.Challenge.rw_seamarks_k51_books_written).prog s.abs.heap&&gensDone s.abs&&laidKept (boot_heap (u.withFollow "special-get-raises" false).params) s.abs.heap))=some true:=by kernel_rfl
set_option maxHeartbeats 0 in
open PySem.W in
theorem zVw(w:World)(os:OsState):(lkT w os).map (λs=>(staticsOk lkM (boot_heap w.params) s.abs.heap&&namesBound (Fast.tw2368527892694137696 PySem.Challenge.rw_seamarks_k51_books_written).prog s.abs.heap&&gensDone s.abs&&laidKept (boot_heap w.params) s.abs.heap))=some true:=by
 have h:∀(b:Bool)(u:World),(λw:World=>(lkT w os).map (λs=>(staticsOk lkM (boot_heap w.params) s.abs.heap&&namesBound (Fast.tw2368527892694137696 PySem.Challenge.rw_seamarks_k51_books_written).prog s.abs.heap&&gensDone s.abs&&laidKept (boot_heap w.params) s.abs.heap))=some true) (u.withFollow "special-get-raises" b):=λb u=>by cases b; exact zTf u os; exact zUn u os
 have:=h (w.params.followText "special-get-raises") w;rwa[World.withFollow_self] at this
set_option maxHeartbeats 0 in
open PySem.W in
theorem zTq(u:World)(os:OsState):(lkT (u.withFollow "special-get-raises" true) os).map (λs=>(lkS s).1)=some (openGood qv lse).1:=by kernel_rfl
set_option maxHeartbeats 0 in
open PySem.W in
theorem zTh(u:World)(os:OsState):(lkT (u.withFollow "special-get-raises" false) os).map (λs=>(lkS s).1)=some (openGood qv lse).1:=by kernel_rfl
set_option maxHeartbeats 0 in
open PySem.W in
theorem zVs(w:World)(os:OsState):(lkT w os).map (λs=>(lkS s).1)=some (openGood qv lse).1:=by
 have h:∀(b:Bool)(u:World),(λw:World=>(lkT w os).map (λs=>(lkS s).1)=some (openGood qv lse).1) (u.withFollow "special-get-raises" b):=λb u=>by cases b; exact zTh u os; exact zTq u os
 have:=h (w.params.followText "special-get-raises") w;rwa[World.withFollow_self] at this
set_option maxHeartbeats 0 in
open PySem.W in
theorem zTb(u:World)(os:OsState):(lkT (u.withFollow "special-get-raises" true) os).map (λs=>(lkS s).2)=some (openGood qv lse).2:=by kernel_rfl
set_option maxHeartbeats 0 in
open PySem.W in
theorem zTl(u:World)(os:OsState):(lkT (u.withFollow "special-get-raises" false) os).map (λs=>(lkS s).2)=some (openGood qv lse).2:=by kernel_rfl
set_option maxHeartbeats 0 in
open PySem.W in
theorem zWj(w:World)(os:OsState):(lkT w os).map (λs=>(lkS s).2)=some (openGood qv lse).2:=by
 have h:∀(b:Bool)(u:World),(λw:World=>(lkT w os).map (λs=>(lkS s).2)=some (openGood qv lse).2) (u.withFollow "special-get-raises" b):=λb u=>by cases b; exact zTl u os; exact zTb u os
 have:=h (w.params.followText "special-get-raises") w;rwa[World.withFollow_self] at this
set_option maxHeartbeats 0 in
open PySem.W in
theorem zTt(u:World)(os:OsState):(lkT (u.withFollow "special-get-raises" true) os).map (λs=>kas.map s.abs.heap.get?)=some ((KK (u.withFollow "special-get-raises" true).params).map λp=>some p.2):=by kernel_rfl
set_option maxHeartbeats 0 in
open PySem.W in
theorem zU0(u:World)(os:OsState):(lkT (u.withFollow "special-get-raises" false) os).map (λs=>kas.map s.abs.heap.get?)=some ((KK (u.withFollow "special-get-raises" false).params).map λp=>some p.2):=by kernel_rfl
set_option maxHeartbeats 0 in
open PySem.W in
theorem zWv(w:World)(os:OsState):(lkT w os).map (λs=>kas.map s.abs.heap.get?)=some ((KK w.params).map λp=>some p.2):=by
 have h:∀(b:Bool)(u:World),(λw:World=>(lkT w os).map (λs=>kas.map s.abs.heap.get?)=some ((KK w.params).map λp=>some p.2)) (u.withFollow "special-get-raises" b):=λb u=>by cases b; exact zU0 u os; exact zTt u os
 have:=h (w.params.followText "special-get-raises") w;rwa[World.withFollow_self] at this
set_option maxHeartbeats 0 in
open PySem.W in
theorem left_ok:LeftO PySem.Challenge.rw_seamarks_k51_books_written.row.prog qv lse (λs=>xlAt qv [] s&&recOk (RowW.records (OpenRow.toRowW PySem.Challenge.rw_seamarks_k51_books_written.row)) s)
  (λs=>kas.map s.heap.get?) (λw=>(KK w.params).map λp=>some p.2) 90000:=by
 refine zN2 (boot_open (by kernel_rfl) (by decide) (λs=>by kernel_rfl)) ?a ?b ?c
 case a =>
  rw[Fast.te5923862056798008813,Fast.te2368527892694137696,Fast.te14364793385576792824];exact zVw
 case b =>
  rw[Fast.te4187177175401517315,Fast.te5923862056798008813,Fast.te2368527892694137696,Fast.te14364793385576792824];exact λw os=>zQn (f:=lkS) (zVs w os) (zWj w os)
 case c =>
  rw[Fast.te2368527892694137696,Fast.te14364793385576792824];exact zWv
end Sea
-- BASE
namespace L2
open PySem PySem.Spec PyProof.Rows

abbrev Key:=Sum Int Str
def zMj:Key->Value->Bool
 | .inl k,v=>Value.isInt k v
 | .inr x,v=>Value.isStrOf x v
def keyH(w:World):Key->Int
 | .inl k=>hashInt k
 | .inr x=>hashStr w x
theorem yW:∀{k:Key}{v:Value},zMj k v=true->(∃ i t,k=Sum.inl i/\v=Value.int i t)\/(∃ x t,k=Sum.inr x/\v=Value.str x t)
 | .inl i,v,h=>by
  obtain⟨t,e⟩:=Value.isInt_shape (k:=i) (v:=v) h;exact .inl ⟨i,t,rfl,e⟩
 | .inr x,v,h=>by
  obtain⟨t,e⟩:=Value.isStrOf_shape (x:=x) (v:=v) h;exact .inr ⟨x,t,rfl,e⟩
theorem zPv(i:Int)(t:Tok):zMj (.inl i) (.int i t)=true:=by simp[zMj,Value.isInt]
theorem zNn(x:Str)(t:Tok):zMj (.inr x) (.str x t)=true:=by simp[zMj,Value.isStrOf]
theorem zXe(a b:Int):decide ((Sum.inl a:Key)=Sum.inl b)=(a == b):=by
 by_cases e:a=b
 ·subst e; simp
 ·have h:¬ (Sum.inl a:Key)=Sum.inl b:=λq=>e (Sum.inl.inj q);rw[decide_eq_false h];exact(beq_eq_false_iff_ne.mpr e).symm
theorem zW7(a b:Str):decide ((Sum.inr a:Key)=Sum.inr b)=decide (a=b):=by
 by_cases e:a=b
 ·subst e; simp
 ·have h:¬ (Sum.inr a:Key)=Sum.inr b:=λq=>e (Sum.inr.inj q);rw[decide_eq_false h,decide_eq_false e]
theorem zV3(a:Int)(b:Str):decide ((Sum.inl a:Key)=Sum.inr b)=false:=decide_eq_false (λq=>nomatch q)
theorem zV6(a:Str)(b:Int):decide ((Sum.inr a:Key)=Sum.inl b)=false:=decide_eq_false (λq=>nomatch q)

def yX(prog:Program)(w:World):PySem.KeyKind prog w Key where
 is:=zMj
 hash:=keyH w
 inj:=λv a b ha hb=>by
  rcases yW ha with ⟨i,t,rfl,rfl⟩ | ⟨x,t,rfl,rfl⟩
  ·rcases yW hb with ⟨j,u,rfl,e⟩ | ⟨y,u,rfl,e⟩
   ·injection e with e1 _; rw[e1]
   ·exact nomatch e
  ·rcases yW hb with ⟨j,u,rfl,e⟩ | ⟨y,u,rfl,e⟩
   ·exact nomatch e
   ·injection e with e1 _; rw[e1]
 byValue:=λk v h=>by
  rcases yW h with ⟨i,t,rfl,rfl⟩ | ⟨x,t,rfl,rfl⟩ <;> rfl
 pyHash:=λhv h=>by
  rcases yW hv with ⟨i,t,rfl,rfl⟩ | ⟨x,t,rfl,rfl⟩
  ·exact wpAny_pyHash_int h
  ·exact wpAny_pyHash_str h
 eqBool:=λhu hv h=>by
  rcases yW hu with ⟨i,t,rfl,rfl⟩ | ⟨x,t,rfl,rfl⟩
  ·rcases yW hv with ⟨j,u,rfl,rfl⟩ | ⟨y,u,rfl,rfl⟩
   ·rw[zXe] at h; exact wpAny_eqBool_int h
   ·rw[zV3] at h; exact SeqAt.EqAt.int_str i t y u _ _ _ _ h
  ·rcases yW hv with ⟨j,u,rfl,rfl⟩ | ⟨y,u,rfl,rfl⟩
   ·rw[zV6] at h; exact SeqAt.EqAt.str_int x t j u _ _ _ _ h
   ·rw[zW7] at h; exact wpAny_eqBool_str h
 «strs»:=λk x t v h=>by
  rcases yW h with ⟨i,u,rfl,e⟩ | ⟨y,u,rfl,e⟩
  ·exact nomatch e
  ·injection e with e1 _
   subst e1;cases v <;> rfl

theorem zJ0(prog:Program)(w:World)(i:Int)(t:Tok):(yX prog w).is (.inl i) (.int i t)=true:=zPv i t
theorem zAs(prog:Program)(w:World)(x:Str)(t:Tok):(yX prog w).is (.inr x) (.str x t)=true:=zNn x t
end L2

namespace L2
open PySem PySem.Spec PyProof.Rows

inductive V where
 | non | bl (b:Bool) | int (i:Int) | str (x:Str) | byt (b:Array UInt8) | flt (b:UInt64) | ref (a:Addr) | ty (n:String)
 deriving DecidableEq

def xI:V->Value->Prop
 | .non,u=>u=Value.none
 | .bl b,u=>u=Value.bool b
 | .int i,u=>∃ t,u=Value.int i t
 | .str x,u=>∃ t,u=Value.str x t
 | .byt b,u=>∃ t,u=Value.bytes b t
 | .flt b,u=>∃ t,u=Value.float b t
 | .ref a,u=>u=Value.ref a
 | .ty n,u=>u=Value.type n

abbrev yS:List V->List Value->Prop:=Paired xI
theorem yS.length{xs:List V}{us:List Value}(r:yS xs us):xs.length=us.length:=Paired.length r
theorem yS.get:∀{xs:List V}{us:List Value}{i:Nat}{x:V},yS xs us->xs[i]?=some x->∃ u,us[i]?=some u/\xI x u
 | _,_,_,_,.nil,e=>by simp at e
 | _,_,0,_,.cons r _,e=>by simp at e; subst e; exact⟨_,rfl,r⟩
 | _,_,i+1,x,.cons _ t,e=>by
  obtain⟨u,h1,h2⟩:=yS.get (i:=i) (x:=x) t (by simpa using e);exact⟨u,by simpa using h1,h2⟩
theorem yS.set{x:V}{u:Value}(r:xI x u):∀{xs:List V}{us:List Value}(i:Nat),yS xs us->yS (xs.set i x) (us.set i u)
 | _,_,_,.nil=>.nil
 | _,_,0,.cons _ t=>.cons r t
 | _,_,i+1,.cons q t=>.cons q (yS.set r i t)
theorem yS.append:∀{xs ys:List V}{us ws:List Value},yS xs us->yS ys ws->yS (xs++ys) (us++ws)
 | _,_,_,_,.nil,s=>s
 | _,_,_,_,.cons r t,s=>.cons r (yS.append t s)
theorem yS.take:∀{xs:List V}{us:List Value}(n:Nat),yS xs us->yS (xs.take n) (us.take n)
 | _,_,0,_=>.nil
 | _,_,_+1,.nil=>.nil
 | _,_,n+1,.cons r t=>.cons r (yS.take n t)
theorem yS.drop:∀{xs:List V}{us:List Value}(n:Nat),yS xs us->yS (xs.drop n) (us.drop n)
 | _,_,0,r=>r
 | _,_,_+1,.nil=>.nil
 | _,_,n+1,.cons _ t=>yS.drop n t
def zHk:Option V->Option Value->Prop
 | some v,some u=>xI v u
 | none,none=>True
 | _,_=>False
def KV{κ:Type} : List (κ×V)->List (κ×Value)->Prop:=Paired λ(p:κ×V) (q:κ×Value)=>p.1=q.1/\xI p.2 q.2

def kV:Key->V
 | .inl i=>.int i
 | .inr x=>.str x

inductive HO where
 | lst (xs:List V)
 | tup (xs:List V)
 | dK (kvs:List (Key×V)) | dT (kvs:List (List Key×V))
 | set (S:Int->Bool) (n:Nat)
 | ins (C dx:Addr) (fs:List (Str×V))
 | own (x:Addr)
 | xd (fs:List (Str×V))
 | met (f x:Addr)
 | rng (lo hi:Int)
 | frz (o:Obj) (u:HO)
 | tbl (ps:Array Value)
 | ext (φ:Heap->Prop)

abbrev Hp:=Addr->Option HO
def upd(H:Hp)(a:Addr)(o:HO):Hp:=λb=>if b=a then some o else H b
theorem zA{H:Hp}{a:Addr}{o:HO} : upd H a o a=some o:=by unfold upd; rw[if_pos rfl]
theorem zD{H:Hp}{a b:Addr}{o:HO}(h:b≠a):upd H a o b=H b:=by unfold upd; rw[if_neg h]
theorem zPk{H:Hp}{a:Addr}{o u:HO} : upd (upd H a o) a u=upd H a u:=by
 funext b; unfold upd; split <;> rfl
theorem zCp{H:Hp}{a b:Addr}{o u:HO}(h:H a=some o)(h':H b=some u)(d:o≠u):a≠b:=by
 intro e; subst e; rw[h] at h'; exact d (Option.some.inj h')
theorem zG{H:Hp}{a b:Addr}{o:HO}(h:H a=some o)(h':H b=none):a≠b:=by
 intro e; subst e; rw[h] at h'; cases h'

section
variable(P:Program)(w:World)
def xZ(H:Hp)(h:Heap)(a:Addr):HO->Prop
 | .lst xs=>xs.length<=sizeLine/\∃(its:List Value)(n:Nat),yS xs its/\h.get? a=some { cls:=.type "list", data:=.seq its.toArray n }
 | .tup xs=>xs.length<=sizeLine/\∃ its:List Value,yS xs its/\IsTup h a its.toArray
 | .dK kvs=>kvs.length<=sizeLine/\(a == sysModules)=false/\∃ vs,KV kvs vs/\h.DictOf (yX P w) a vs
 | .dT kvs=>kvs.length<=sizeLine/\(a == sysModules)=false/\∃ xs:List (List Key×Addr×Value),
   Paired (λ(p:List Key×V) (q:List Key×Addr×Value)=>p.1=q.1/\H q.2.1=some (.tup (p.1.map kV))/\xI p.2 q.2.2) kvs xs /\
   ∃ o es ep,h.get? a=some o/\o.ExactDict/\o.data=.dict es ep/\es.toList=xs.map (entryOfKey (tupleKind (yX P w)))/\(xs.map (·.1)).Nodup
 | .set S n=>h.SetOf (intKind P w) a S n
 | .ins C dx fs=>H dx=some (.own a)/\fs.length<=1000/\dx≠a/\h.get? a=some (PySem.W.instObj C dx) /\
   ∃ mA,h.Ns1 dx mA/\(∀ f,zHk (fs.lookup f) (mA f))/\PySem.Within mA (fs.map (·.1))
 | .own _=>∃ o,h.get? a=some o
 | .xd fs=>∃ mA,h.Ns1 a mA/\∀ f,zHk (fs.lookup f) (mA f)
 | .rng lo hi=>∃ t u v,h.get? a=some { cls:=.type "range", data:=.fields #[.int lo t,.int hi u,.int 1 v] }
 | .frz o u=>h.get? a=some o/\xZ H h a u
 | .tbl ps=>h.get? a=some { cls:=.none,data:=.fields ps }
 | .met f x=>h.get? a=some (PySem.W.methodObj (.ref f) (.ref x))
 | .ext φ=>φ h/\(∃ o,h.get? a=some o)/\∀ h1 h2:Heap,φ h1->(∀ o,h1.get? a=some o->h2.get? a=some o)->φ h2
def HOk(H:Hp)(h:Heap):Prop:=∀ a o,H a=some o->xZ P w H h a o
end

section
variable{P:Program}{w:World}{H H':Hp}{h h':Heap}{a:Addr}{o:HO}
theorem xZ.lt(x:xZ P w H h a o):a<h.objs.size:=by
 cases o with
 | lst xs=>obtain⟨_,_,_,_,e⟩:=x; exact Heap.lt_size e
 | tup xs=>obtain⟨_,_,_,p⟩:=x; exact p.lt
 | dK kvs=>obtain⟨_,_,_,_,o,_,_,e,_⟩:=x; exact Heap.lt_size e
 | dT kvs=>obtain⟨_,_,_,_,o,_,_,e,_⟩:=x; exact Heap.lt_size e
 | set S n=>obtain⟨o,_,_,_,e,_⟩:=x; exact Heap.lt_size e
 | ins C dx fs=>obtain⟨_,_,_,e,_⟩:=x; exact Heap.lt_size e
 | own y=>obtain⟨_,e⟩:=x; exact Heap.lt_size e
 | xd fs=>obtain⟨_,⟨_,_,_,e,_⟩,_⟩:=x; exact Heap.lt_size e
 | rng lo hi=>obtain⟨_,_,_,e⟩:=x; exact Heap.lt_size e
 | frz ob u=>obtain⟨e,_⟩:=x; exact Heap.lt_size e
 | tbl ps=>exact Heap.lt_size (show h.get? a=some _ from x)
 | met f y=>exact Heap.lt_size (show h.get? a=some _ from x)
 | ext φ=>obtain⟨_,⟨_,e⟩,_⟩:=x; exact Heap.lt_size e
theorem Paired.mapP{α β:Type}{F G:α->β->Prop} : ∀{l₁:List α}{l₂:List β},Paired F l₁ l₂->(∀ a b,F a b->G a b)->Paired G l₁ l₂
 | _,_,.nil,_=>.nil
 | _,_,.cons r t,f=>.cons (f _ _ r) (Paired.mapP t f)
theorem xZ.stay(x:xZ P w H h a o)(k:∀ b u,(b=a\/H b=some (.own a))->h.get? b=some u->h'.get? b=some u)
  (ho:∀ b,H b=some (.own a)->H' b=some (.own a)) (ht:∀ b xs,H b=some (.tup xs)->H' b=some (.tup xs)):xZ P w H' h' a o:=by
 induction o with
 | lst xs=>obtain⟨z,its,n,r,e⟩:=x; exact⟨z,its,n,r,k _ _ (.inl rfl) e⟩
 | tup xs=>obtain⟨z,its,r,ob,e,c⟩:=x; exact⟨z,its,r,ob,k _ _ (.inl rfl) e,c⟩
 | dK kvs=>obtain⟨z,y,vs,r,ob,es,ep,e,c⟩:=x; exact⟨z,y,vs,r,ob,es,ep,k _ _ (.inl rfl) e,c⟩
 | dT kvs =>
  obtain⟨z,y,xs,r,ob,es,ep,e,c⟩:=x;exact⟨z,y,xs,Paired.mapP r λp q z=>⟨z.1,ht _ _ z.2.1,z.2.2⟩,ob,es,ep,k _ _ (.inl rfl) e,c⟩
 | set S n=>obtain⟨ob,es,ep,t,e,c⟩:=x; exact⟨ob,es,ep,t,k _ _ (.inl rfl) e,c⟩
 | ins C dx fs =>
  obtain⟨d,z,ne,e,mA,⟨od,es,ep,e2,c⟩,r⟩:=x;exact⟨ho _ d,z,ne,k _ _ (.inl rfl) e,mA,⟨od,es,ep,k _ _ (.inr d) e2,c⟩,r⟩
 | own y=>obtain⟨ob,e⟩:=x; exact⟨ob,k _ _ (.inl rfl) e⟩
 | xd fs=>obtain⟨mA,⟨od,es,ep,e,c⟩,r⟩:=x; exact⟨mA,⟨od,es,ep,k _ _ (.inl rfl) e,c⟩,r⟩
 | rng lo hi=>obtain⟨t,u,v,e⟩:=x; exact⟨t,u,v,k _ _ (.inl rfl) e⟩
 | frz ob u ih=>obtain⟨e,q⟩:=x; exact⟨k _ _ (.inl rfl) e,ih q⟩
 | tbl ps =>
  have e:h.get? a=some { cls:=.none,data:=.fields ps }:=x;show h'.get? a=some { cls:=.none,data:=.fields ps };exact k a _ (.inl rfl) e
 | met f y =>
  have e:h.get? a=some (PySem.W.methodObj (.ref f) (.ref y)):=x;show h'.get? a=some (PySem.W.methodObj (.ref f) (.ref y));exact k a _ (.inl rfl) e
 | ext φ=>obtain⟨p,⟨o,e⟩,st⟩:=x; exact⟨st _ _ p λo q=>k _ _ (.inl rfl) q,⟨o,k _ _ (.inl rfl) e⟩,st⟩
theorem HOk.lt(x:HOk P w H h)(e:H a=some o):a<h.objs.size:=(x a o e).lt
theorem HOk.fresh(x:HOk P w H h)(e:h.objs.size<=a):H a=none:=by
 cases q:H a with
 | none=>rfl
 | some u=>exact absurd (Nat.lt_of_lt_of_le (x.lt q) e) (Nat.lt_irrefl _)
theorem HOk.kept(x:HOk P w H h)(k:∀ b u,h.get? b=some u->h'.get? b=some u):HOk P w H h':=λa o e =>
 (x a o e).stay (λb u _ q=>k b u q) (λ_ q=>q) λ_ _ q=>q
theorem HOk.laid(x:HOk P w H h)(k:∀ b u,h.get? b=some u->h'.get? b=some u)(hp:h.objs.size<=a)(new:xZ P w (upd H a o) h' a o):HOk P w (upd H a o) h':=λb u e=>by
 have hn:=x.fresh hp;by_cases hb:b=a
 ·subst hb; rw[zA] at e; cases e; exact new
 ·rw[zD hb] at e;exact(x b u e).stay (λc v _ q=>k c v q) (λc q=>by rw[zD (zG q hn)]; exact q) λc xs q=>by rw[zD (zG q hn)]; exact q
end

def Rd(H:Hp)(a:Addr)(u:HO):Prop:=H a=some u\/∃ o,H a=some (.frz o u)
theorem Rd.ok{P:Program}{w:World}{H:Hp}{h:Heap}{a:Addr}{u:HO}(r:Rd H a u)(x:HOk P w H h):xZ P w H h a u:=by
 rcases r with r | ⟨o,r⟩
 ·exact x a u r
 ·obtain⟨_,q⟩:=x a _ r;exact q
def Mut:Option HO->Prop
 | some (.lst _)=>True
 | some (.dK _)=>True
 | some (.dT _)=>True
 | some (.set _ _)=>True
 | some (.ins _ _ _)=>True
 | some (.ext _)=>True
 | _=>False
section
variable{P:Program}{w:World}{H:Hp}{h h':Heap}{x e:Addr}{o':HO}
theorem HOk.write(ok:HOk P w H h)(mu:Mut (H x))(he:e=x\/H e=some (.own x))(k:∀ b u,b≠e->h.get? b=some u->h'.get? b=some u)(heo:∃ u,h'.get? e=some u)
  (new:xZ P w (upd H x o') h' x o'):HOk P w (upd H x o') h':=λb u q=>by
 have nown:∀ c y,H c=some (.own y)->c≠x:=λc y r z=>by subst z; rw[r] at mu; exact mu
 have ntup:∀ c xs,H c=some (.tup xs)->c≠x:=λc xs r z=>by subst z; rw[r] at mu; exact mu
 by_cases hb:b=x
 ·subst hb; rw[zA] at q; cases q; exact new
 ·rw[zD hb] at q;by_cases hbe:b=e
  ·have q':H b=some (.own x):=by
    rcases he with z | z
    ·exact absurd (hbe.trans z) hb
    ·rw[hbe]; exact z
   rw[q] at q'; cases q';obtain⟨v,hv⟩:=heo;exact⟨v,by rw[hbe]; exact hv⟩
  ·refine(ok b u q).stay (λc v hc r=>k c v ?_ r) (λc r=>by rw[zD (nown c b r)]; exact r) λc xs r=>by rw[zD (ntup c xs r)]; exact r
   rcases hc with rfl | hc
   ·exact hbe
   ·rintro rfl;rcases he with z | z
    ·exact nown c b hc z
    ·rw[hc] at z; cases z; exact hb rfl
end

structure Un(fs ex:List Addr)(H H':Hp)(h h':Heap):Prop where
 keep:∀ b o,h.get? b=some o->H b=none->b ∉ fs->b ∉ ex->h'.get? b=some o
 slot:∀ b o,h.get? b=some o->H b=none->b∈fs->b ∉ ex->∃ sl,h'.get? b=some { o with slots:=sl }
 free:∀ b o,h.get? b=some o->H b=none->b ∉ ex->H' b=none
 there:∀ b o,h.get? b=some o->b ∉ ex->∃ o',h'.get? b=some o'
 tups:∀ b xs,H b=some (.tup xs)->H' b=some (.tup xs)
 frzs:∀ b o u,H b=some (.frz o u)->H' b=some (.frz o u)
 tbls:∀ b ps,H b=some (.tbl ps)->∃ more,H' b=some (.tbl (ps++more))
section
variable{fs fs' ex ex':List Addr}{H H1 H2:Hp}{h h1 h2 h':Heap}{a x e:Addr}{o:HO}
theorem Un.any(u:Un fs ex H H1 h h1){b:Addr}{ob:Obj}(q:h.get? b=some ob)(n:H b=none)(hx:b ∉ ex):∃ sl,h1.get? b=some { ob with slots:=sl }:=by
 by_cases hb:b∈fs
 ·exact u.slot b ob q n hb hx
 ·exact⟨ob.slots,u.keep b ob q n hb hx⟩
theorem Un.kept(k:∀ b u,h.get? b=some u->h'.get? b=some u):Un fs ex H H h h' :=
 ⟨λb ob q _ _ _=>k b ob q,λb ob q _ _ _=>⟨ob.slots,k b ob q⟩,λ_ _ _ n _=>n,λb ob q _=>⟨ob,k b ob q⟩,λ_ _ q=>q,λ_ _ _ q=>q,λ_ ps q=>⟨#[],by rw[q]; simp⟩⟩
theorem Un.refl:Un fs ex H H h h:=Un.kept λ_ _ q=>q
theorem Un.laid(k:∀ b u,h.get? b=some u->h'.get? b=some u)(hp:h.objs.size<=a)(hn:H a=none):Un fs ex H (upd H a o) h h' where
 keep:=λb u q _ _ _=>k b u q
 slot:=λb u q _ _ _=>⟨u.slots,k b u q⟩
 free:=λb u q n _=>by rw[zD (Nat.ne_of_lt (Nat.lt_of_lt_of_le (Heap.lt_size q) hp))]; exact n
 there:=λb u q _=>⟨u,k b u q⟩
 tups:=λb xs q=>by rw[zD (zG q hn)]; exact q
 frzs:=λb u xs q=>by rw[zD (zG q hn)]; exact q
 tbls:=λb ps q=>⟨#[],by rw[zD (zG q hn),q]; simp⟩
theorem Un.write(mu:Mut (H x))(he:e=x\/H e=some (.own x))(k:∀ b u,b≠e->h.get? b=some u->h'.get? b=some u)(heo:∃ u,h'.get? e=some u):Un fs ex H (upd H x o) h h':=by
 have hx:∀ b,H b=none->b≠x:=λb n z=>by subst z; rw[n] at mu; exact mu
 have hb:∀ b,H b=none->b≠e:=λb n z=>by
  subst z;rcases he with r | r
  ·exact hx b n r
  ·rw[n] at r; cases r
 have hm:∀ b u,H b=some u->¬ Mut (some u)->b≠x:=λb u q nm z=>by subst z; rw[q] at mu; exact nm mu
 refine⟨λb u q n _ _=>k b u (hb b n) q,λb u q n _ _=>⟨u.slots,k b u (hb b n) q⟩,λb u q n _=>by rw[zD (hx b n)]; exact n,λb u q _=>?_,
  λb xs q=>by rw[zD (hm b _ q λz=>z)]; exact q,λb u xs q=>by rw[zD (hm b _ q λz=>z)]; exact q,λb ps q=>⟨#[],by rw[zD (hm b _ q λz=>z),q]; simp⟩⟩
 by_cases hbe:b=e
 ·subst hbe; exact heo
 ·exact⟨u,k b u hbe q⟩
end

def trk(h:Heap)(H:Hp):List Addr:=(List.range h.objs.size).filter λa=>(H a).isSome
def zRs(h:Heap)(H:Hp):Heap:=PySem.W.hideAll h (trk h H)
theorem zNr(h:Heap)(H:Hp):(zRs h H).objs.size=h.objs.size:=PySem.W.hideAll_size _ _
theorem zQ4{h:Heap}{H:Hp}{b:Addr}{o:Obj}(e:h.get? b=some o)(n:H b=none):(zRs h H).get? b=some o :=
 PySem.W.hideAll_get _ e λhm=>by
  have q:(H b).isSome=true:=(List.mem_filter.mp hm).2;rw[n] at q; simp at q
theorem zTr{h:Heap}{H:Hp}{b:Addr}{o:Obj}(e:(zRs h H).get? b=some o):h.get? b=some o/\H b=none:=by
 have e':h.get? b=some o:=PySem.W.of_hideAll (trk h H) e;exists e';cases q:H b with
 | none=>rfl
 | some x =>
  have hm:b∈trk h H:=List.mem_filter.mpr ⟨List.mem_range.mpr (Heap.lt_size e'),by simp[q]⟩;have z:(zRs h H).get? b=none:=PySem.W.hideAll_none (trk h H) hm;rw[z] at e; cases e

end L2

namespace L2
open PySem PySem.Spec PyProof.Rows

structure Mod(K:PySem.W.Frag)(mg:Str->Option Value)(base:Heap):Prop where
 kin:K.In base
 glob:base.Ns mainGlobals mg
 blt:∃ mb,base.Ns builtinsNs mb/\∀ x:Str,x ≠ "__name__" -> mb x=bootBuiltins x
 nolimit:base.NoLimit

structure Cx where
 prog:Program
 w:World
 K:PySem.W.Frag
 mg:Str->Option Value
 base:Heap
 A:Around
 N:List Str
 s₀:Shared
 H₀:Hp
 env:Env
 outer:List Env
 stack:List Env
 ex:List Addr
 fn:Str->Bool
 calm:Bool
 pn:List (Addr×Obj)
 xe:Value->Shared->Prop
def frs(l:List Env):List Addr:=l.filterMap (·.frame)
abbrev Cx.fs(X:Cx):List Addr:=frs X.outer

def Vis(sc:Scope)(x:Str):Prop:=sc.names.lookup x=some .local\/sc.names.lookup x=some .cell\/sc.names.lookup x=some .free
def Loc(sc:Scope)(x:Str):Prop:=sc.names.lookup x=some .local\/sc.names.lookup x=some .cell
def Look(env:Env)(h:Heap)(m:Str->Option Value)(x:Str)(u:Value):Prop :=
 (env.kindOf x=some .local/\m x=some u)\/((env.kindOf x=some .cell\/env.kindOf x=some .free)/\∃ c,env.cells.lookup x=some c/\h.IsCell c (some u))

structure Cx.Ok(X:Cx):Prop where
 mod:Mod X.K X.mg X.base
 kind:X.env.scope.kind=.function
 glob:X.env.globals=mainGlobals
 blt:X.env.builtins=builtinsNs
 above:X.s₀.heap.objs.size<=X.env.locals
 inj:∀ x y c,X.env.cells.lookup x=some c->X.env.cells.lookup y=some c->x=y
 has:∀ x,(X.env.kindOf x=some .cell\/X.env.kindOf x=some .free)->∃ c,X.env.cells.lookup x=some c
 cab:∀ x c,X.fn x=true->X.env.cells.lookup x=some c->X.s₀.heap.objs.size<=c
 hd:X.calm=true->X.A.handled=none
 frames:X.A.frames=some X.stack
 stk:X.stack=X.outer\/(X.stack=X.env::X.outer/\X.env.frame=some X.env.locals)
 exf:∀ b∈X.ex,b≠X.env.locals/\∀ x c,X.env.cells.lookup x=some c->c≠b
 bs:∀ b o,X.base.get? b=some o->X.s₀.heap.get? b=some o/\X.H₀ b=none
 bsz:X.base.objs.size<=X.s₀.heap.objs.size
 noex:∀ b o,X.base.get? b=some o->b ∉ X.ex
 exfs:∀ b∈X.ex,b ∉ X.fs
 funs:X.s₀.heap.FunFrames X.base X.outer
 frf:∀ b∈X.fs,X.H₀ b=none

structure Inv(X:Cx)(pins:List (Addr×Obj))(σ:List (Option V))(H:Hp)(s:Shared):Prop where
 ok:X.Ok
 os:s.os=X.s₀.os
 bare:AllBare s.gens
 base:Un X.fs X.ex X.H₀ H X.s₀.heap s.heap
 loc:∃ m,s.heap.Ns X.env.locals m/\∀(i:Nat)(x:Str)(v:V),X.N[i]?=some x->σ[i]?=some (some v)->Vis X.env.scope x->∃ u,xI v u/\Look X.env s.heap m x u
 cell:∀ x c,X.env.cells.lookup x=some c->∃ v,s.heap.IsCell c v
 free:H X.env.locals=none
 freeC:∀ x c,X.env.cells.lookup x=some c->H c=none
 pin:∀ p∈X.pn++pins,s.heap.get? p.1=some p.2/\H p.1=none/\p.1≠X.env.locals/\p.1 ∉ X.fs/\∀ v,p.2.data≠.cell v
 hok:HOk X.prog X.w H s.heap
 len:σ.length=X.N.length

section
variable{X:Cx}{pins:List (Addr×Obj)}{σ:List (Option V)}{H H':Hp}{s:Shared}{h':Heap}

theorem Cx.Ok.nofr(ok:X.Ok){b:Addr}{o:Obj}(e:X.base.get? b=some o):b ∉ X.fs:=λhb=>by
 have:=(ok.funs.mem hb).1;rw[e] at this; cases this
theorem Inv.bs(I:Inv X pins σ H s):∀ b o,X.base.get? b=some o->s.heap.get? b=some o/\H b=none:=λb o e =>
 ⟨I.base.keep b o (I.ok.bs b o e).1 (I.ok.bs b o e).2 (I.ok.nofr e) (I.ok.noex b o e),I.base.free b o (I.ok.bs b o e).1 (I.ok.bs b o e).2 (I.ok.noex b o e)⟩
theorem Inv.bk(I:Inv X pins σ H s):∀ b o,X.base.get? b=some o->s.heap.get? b=some o:=λb o e=>(I.bs b o e).1
theorem Inv.mod(I:Inv X pins σ H s):Mod X.K X.mg X.base:=I.ok.mod
theorem Inv.kIn(I:Inv X pins σ H s):X.K.In s.heap:=I.ok.mod.kin.keeps I.bk
theorem Inv.lt(I:Inv X pins σ H s):X.env.locals<s.heap.objs.size:=let ⟨_,hn,_⟩:=I.loc; hn.lt
theorem Inv.sz(I:Inv X pins σ H s):X.s₀.heap.objs.size<=s.heap.objs.size:=Nat.le_trans I.ok.above (Nat.le_of_lt I.lt)
theorem Inv.nofs(I:Inv X pins σ H s){a:Addr}(h:s.heap.objs.size<=a):a ∉ X.fs:=λhb=>by
 obtain⟨_,o,ho,_⟩:=I.ok.funs.mem hb;exact absurd (Nat.lt_of_lt_of_le (Heap.lt_size ho) (Nat.le_trans I.sz h)) (Nat.lt_irrefl _)
theorem Inv.cne(I:Inv X pins σ H s):∀ x c,X.env.cells.lookup x=some c->c≠X.env.locals:=λx c e z=>by
 obtain⟨v,o,ho,hd⟩:=I.cell x c e;obtain⟨m,⟨o',es,ep,ho',hd',_⟩,_⟩:=I.loc;rw[z,ho'] at ho; cases ho; rw[hd'] at hd; cases hd
theorem Inv.funs(I:Inv X pins σ H s):s.heap.FunFrames X.base X.outer:=by
 have all:∀(l:List Env),(∀ b∈frs l,b∈X.fs)->X.s₀.heap.FunFrames X.base l->s.heap.FunFrames X.base l:=by
  intro l
  induction l with
  | nil=>intro _ _; trivial
  | cons env r ih =>
   intro hs hl;obtain⟨hk,⟨L,o,hf,hn,ho,hd⟩,hr⟩:=hl;have hL:L∈X.fs:=hs L (by unfold frs; rw[List.filterMap_cons,hf]; exact List.mem_cons_self);obtain⟨sl,e⟩:=I.base.slot L o ho (I.ok.frf L hL) hL λz=>I.ok.exfs L z hL;exact⟨hk,⟨L,_,hf,hn,e,hd⟩,ih (λb hb=>hs b (by unfold frs; rw[List.filterMap_cons,hf]; exact List.mem_cons_of_mem _ hb)) hr⟩
 exact all X.outer (λ_ hb=>hb) I.ok.funs

theorem Inv.stack(I:Inv X pins σ H s):s.heap.FunFrames X.base X.stack:=by
 rcases I.ok.stk with e | ⟨e,hf⟩
 ·rw[e]; exact I.funs
 ·rw[e];obtain⟨m,hn,_⟩:=I.loc;refine .cons (by rw[I.ok.kind]; decide) hf hn ?_ I.funs;exact Heap.get?_none_of_le (Nat.le_trans I.ok.bsz I.ok.above)
theorem Inv.stkSub(I:Inv X pins σ H s):∀ b∈frs X.stack,b∈X.env.locals::X.fs:=λb hb=>by
 rcases I.ok.stk with e | ⟨e,hf⟩
 ·rw[e] at hb; exact List.mem_cons_of_mem _ hb
 ·rw[e] at hb;unfold frs at hb;rw[List.filterMap_cons,hf] at hb;exact hb
theorem Inv.stkFree(I:Inv X pins σ H s):∀ b∈frs X.stack,H b=none:=λb hb=>by
 rcases List.mem_cons.mp (I.stkSub b hb) with e | hb
 ·rw[e]; exact I.free
 ·obtain⟨_,o,ho,_⟩:=I.ok.funs.mem hb;exact I.base.free b o ho (I.ok.frf b hb) λz=>I.ok.exfs b z hb

theorem Inv.step{g':Array GenState}{t':Nat}{d':Drawn}{ch:List Addr}(I:Inv X pins σ H s)
  (hch:∀ b∈ch,(b∈X.ex\/X.s₀.heap.objs.size<=b)/\b≠X.env.locals/\(∀ x c,X.env.cells.lookup x=some c->c≠b)/\∀ p∈X.pn++pins,p.1≠b)
  (keep:∀ b o,b≠X.env.locals->b ∉ X.fs->b ∉ ch->s.heap.get? b=some o->H b=none->h'.get? b=some o)
  (slot:∀ b o,b≠X.env.locals->b∈X.fs->b ∉ ch->s.heap.get? b=some o->H b=none->∃ sl,h'.get? b=some { o with slots:=sl }) (free:∀ b o,b ∉ ch->s.heap.get? b=some o->H b=none->H' b=none)
  (there:∀ b o,b ∉ ch->s.heap.get? b=some o->∃ o',h'.get? b=some o')
  (tups:∀ b xs,H b=some (.tup xs)->H' b=some (.tup xs)) (frzs:∀ b o u,H b=some (.frz o u)->H' b=some (.frz o u)) (tbls:∀ b ps,H b=some (.tbl ps)->∃ more,H' b=some (.tbl (ps++more)))
  (ns:∀ m,s.heap.Ns X.env.locals m->h'.Ns X.env.locals m) (hok:HOk X.prog X.w H' h') (hg:AllBare g') :
  Inv X pins σ H' { s with heap:=h',gens:=g',drawn:=d',toks:=t' }:=by
 have neL:∀ b o,X.s₀.heap.get? b=some o->b≠X.env.locals:=λb o e=>Nat.ne_of_lt (Nat.lt_of_lt_of_le (Heap.lt_size e) I.ok.above);have neC:∀ b o,X.s₀.heap.get? b=some o->b ∉ X.ex->b ∉ ch:=λb o e hx hb=>by
  rcases (hch b hb).1 with z | z
  ·exact hx z
  ·exact absurd (Nat.lt_of_lt_of_le (Heap.lt_size e) z) (Nat.lt_irrefl _)
 have cellK:∀ x c,X.env.cells.lookup x=some c->∀ v,s.heap.IsCell c v->h'.IsCell c v:=λx c e v ⟨o,ho,hd⟩=>by
  have nch:c ∉ ch:=λz=>(hch c z).2.2.1 x c e rfl;by_cases hc:c∈X.fs
  ·obtain⟨sl,q⟩:=slot c o (I.cne x c e) hc nch ho (I.freeC x c e);exact⟨_,q,hd⟩
  ·exact⟨o,keep c o (I.cne x c e) hc nch ho (I.freeC x c e),hd⟩
 refine⟨I.ok,I.os,hg,⟨λb o e n hb hx=>?_,λb o e n hb hx=>?_,λb o e n hx=>?_,λb o e hx=>?_,λb xs e=>tups b xs (I.base.tups b xs e),λb o xs e=>frzs b o xs (I.base.frzs b o xs e),λb ps e=>?_⟩,?_,λx c e=>?_,?_,λx c e=>?_,λp hp=>?_,hok,I.len⟩
 ·exact keep b o (neL b o e) hb (neC b o e hx) (I.base.keep b o e n hb hx) (I.base.free b o e n hx)
 ·obtain⟨sl,e1⟩:=I.base.slot b o e n hb hx;obtain⟨sl',e2⟩:=slot b _ (neL b o e) hb (neC b o e hx) e1 (I.base.free b o e n hx);exact⟨sl',e2⟩
 ·obtain⟨o',e1⟩:=I.base.there b o e hx;exact free b o' (neC b o e hx) e1 (I.base.free b o e n hx)
 ·obtain⟨o',e1⟩:=I.base.there b o e hx;exact there b o' (neC b o e hx) e1
 ·obtain⟨m1,e1⟩:=I.base.tbls b ps e;obtain⟨m2,e2⟩:=tbls b _ e1;exact⟨m1++m2,by rw[e2,Array.append_assoc]⟩
 ·obtain⟨m,hn,hl⟩:=I.loc;refine⟨m,ns m hn,λi x v e1 e2 e3=>?_⟩;obtain⟨u,r,l⟩:=hl i x v e1 e2 e3;exists u,r;rcases l with l | ⟨k,c,e,z⟩
  ·exact .inl l
  ·exact .inr ⟨k,c,e,cellK x c e _ z⟩
 ·obtain⟨v,z⟩:=I.cell x c e;exact⟨v,cellK x c e v z⟩
 ·obtain⟨m,⟨o,_,_,ho,_⟩,_⟩:=I.loc;exact free _ o (λz=>(hch _ z).2.1 rfl) ho I.free
 ·obtain⟨v,o,ho,hd⟩:=I.cell x c e;exact free c o (λz=>(hch c z).2.2.1 x c e rfl) ho (I.freeC x c e)
 ·obtain⟨e,n,ne,nf,d⟩:=I.pin p hp;have nch:p.1 ∉ ch:=λz=>(hch p.1 z).2.2.2 p hp rfl;exact⟨keep p.1 p.2 ne nf nch e n,free p.1 p.2 nch e n,ne,nf,d⟩
theorem Inv.un{t':Nat}(I:Inv X pins σ H s)(u:Un X.fs [] H H' s.heap h')(hok:HOk X.prog X.w H' h'):Inv X pins σ H' { s with heap:=h',toks:=t' }:=by
 obtain⟨m,⟨o,es,ep,ho,r⟩,_⟩:=id I.loc;obtain⟨sl,hL⟩:=u.any ho I.free (by simp);exact I.step (g':=s.gens) (d':=s.drawn) (ch:=[]) (λ_ z=>nomatch z) (λb o _ hb _ e n=>u.keep b o e n hb (by simp)) (λb o _ hb _ e n=>u.slot b o e n hb (by simp)) (λb o _ e n=>u.free b o e n (by simp)) (λb o _ e=>u.there b o e (by simp)) u.tups u.frzs u.tbls (λm' hm=>by
  obtain⟨o',es',ep',ho',r'⟩:=hm;rw[ho] at ho'; cases ho';exact⟨_,es',ep',hL,r'⟩) hok I.bare
theorem Inv.call{g':Array GenState}{t':Nat}{d':Drawn}{ch:List Addr}(I:Inv X pins σ H s)(u:Un (frs X.stack) ch H H' s.heap h')(hok:HOk X.prog X.w H' h')(hg:AllBare g')
  (hch:∀ b∈ch,(b∈X.ex\/X.s₀.heap.objs.size<=b)/\b≠X.env.locals/\(∀ x c,X.env.cells.lookup x=some c->c≠b)/\∀ p∈X.pn++pins,p.1≠b) :
  Inv X pins σ H' { s with heap:=h',gens:=g',drawn:=d',toks:=t' }:=by
 obtain⟨m,⟨o,es,ep,ho,r⟩,_⟩:=id I.loc;obtain⟨sl,hL⟩:=u.any ho I.free λz=>(hch _ z).2.1 rfl;exact I.step (ch:=ch) hch (λb o hL hb hc e n=>u.keep b o e n (λz=>(List.mem_cons.mp (I.stkSub b z)).elim hL hb) hc) (λb o _ _ hc e n=>u.any e n hc) (λb o hc e n=>u.free b o e n hc) (λb o hc e=>u.there b o e hc) u.tups u.frzs u.tbls (λm' hm=>by
  obtain⟨o',es',ep',ho',r'⟩:=hm;rw[ho] at ho'; cases ho';exact⟨_,es',ep',hL,r'⟩) hok hg
theorem Inv.turned{t':Nat}{it:Addr}(I:Inv X pins σ H s)(k:∀ b o,b≠it->s.heap.get? b=some o->h'.get? b=some o)(hn:H it=none)(hL:it≠X.env.locals)
  (h1:it∈X.ex\/X.s₀.heap.objs.size<=it) (h2:∀ x c,X.env.cells.lookup x=some c->c≠it) (h3:∀ p∈X.pn++pins,p.1≠it):Inv X pins σ H { s with heap:=h',toks:=t' }:=by
 have nit:∀ b u,H b=some u->b≠it:=λb u e z=>by rw[z,hn] at e; cases e
 refine I.step (g':=s.gens) (d':=s.drawn) (ch:=[it]) (λb hb=>?_) (λb o _ _ hc e _=>k b o (λz=>hc (by simp[z])) e) (λb o _ _ hc e _=>⟨o.slots,k b o (λz=>hc (by simp[z])) e⟩) (λ_ _ _ _ n=>n)
  (λb o hc e=>⟨o,k b o (λz=>hc (by simp[z])) e⟩) (λ_ _ e=>e) (λ_ _ _ e=>e) (λb ps e=>⟨#[],by rw[e]; simp⟩) (λm hm=>?_) (λb u e=>?_) I.bare
 ·have e:b=it:=by simpa using hb
  subst e;exact⟨h1,hL,h2,h3⟩
 ·obtain⟨o,es,ep,ho,r⟩:=hm;exact⟨o,es,ep,k _ o (Ne.symm hL) ho,r⟩
 ·refine(I.hok b u e).stay (λc v hc q=>k c v ?_ q) (λ_ q=>q) λ_ _ q=>q;rcases hc with z | z
  ·rw[z]; exact nit b u e
  ·exact nit c _ z
theorem Inv.tok(I:Inv X pins σ H s)(t:Nat):Inv X pins σ H { s with toks:=t }:=I.un (h':=s.heap) (t':=t) Un.refl I.hok
theorem Inv.kept{t':Nat}(I:Inv X pins σ H s)(k:∀ b u,s.heap.get? b=some u->h'.get? b=some u):Inv X pins σ H { s with heap:=h',toks:=t' }:=I.un (Un.kept k) (I.hok.kept k)
theorem Inv.laid{a:Addr}{o:HO}{t':Nat}(I:Inv X pins σ H s)(k:∀ b u,s.heap.get? b=some u->h'.get? b=some u)(hp:s.heap.objs.size<=a)(new:xZ X.prog X.w (upd H a o) h' a o) :
  Inv X pins σ (upd H a o) { s with heap:=h',toks:=t' }:=I.un (Un.laid k hp (I.hok.fresh hp)) (I.hok.laid k hp new)
theorem Inv.write{x e:Addr}{o:HO}{t':Nat}(I:Inv X pins σ H s)(mu:Mut (H x))(he:e=x\/H e=some (.own x))(k:∀ b u,b≠e->s.heap.get? b=some u->h'.get? b=some u)(heo:∃ u,h'.get? e=some u)
  (new:xZ X.prog X.w (upd H x o) h' x o):Inv X pins σ (upd H x o) { s with heap:=h',toks:=t' }:=I.un (Un.write mu he k heo) (I.hok.write mu he k heo new)
theorem Inv.pins_of{pins':List (Addr×Obj)}(I:Inv X pins σ H s)(h:∀ p∈pins',s.heap.get? p.1=some p.2/\H p.1=none/\p.1≠X.env.locals/\p.1 ∉ X.fs/\∀ v,p.2.data≠.cell v):Inv X pins' σ H s :=
 ⟨I.ok,I.os,I.bare,I.base,I.loc,I.cell,I.free,I.freeC,λp hp=>(List.mem_append.mp hp).elim (λz=>I.pin p (List.mem_append_left _ z)) (h p),I.hok,I.len⟩

theorem zK8{N:List Str}(hN:N.Nodup){i j:Nat}{x:Str}(a:N[i]?=some x)(b:N[j]?=some x):i=j:=by
 obtain⟨h1,e1⟩:=List.getElem?_eq_some_iff.mp a;obtain⟨h2,e2⟩:=List.getElem?_eq_some_iff.mp b;exact(List.getElem_inj hN).mp (e1.trans e2.symm)

theorem zEt{M:Model}{A:Around}{E:Value->Shared->Prop}{i:Nat}{x:Str}{v:V}{u:Value}{Q:Unit->Shared->Prop}(I:Inv X pins σ H s)(hN:X.N.Nodup)(hi:X.N[i]?=some x)(hx:Loc X.env.scope x)(r:xI v u)
  (h:∀ s',Inv X pins (σ.set i (some v)) H s'->(∃ a,Heap.SameBut a s.heap s'.heap/\(a=X.env.locals\/X.env.cells.lookup x=some a))->Q () s') (hf:X.fn x=true\/X.env.scope.names.lookup x=some .local:=by first | exact .inl rfl | exact .inr rfl | assumption):wpAny M A (storeName X.env x u) Q E s:=by
 obtain⟨m,hn,hl⟩:=id I.loc;have hcls:(X.env.scope.kind == .class||(X.env.scope.kind == .module&&X.env.locals != X.env.globals))=false:=by rw[I.ok.kind]; rfl
 have hiσ:i<σ.length:=by rw[I.len]; exact(List.getElem?_eq_some_iff.mp hi).1
 have cne:=I.cne;have tracked:∀{a:Addr}{h':Heap},(∃ o,s.heap.get? a=some o/\H a=none)->Heap.SameBut a s.heap h'->HOk X.prog X.w H h':=λ{a h'} ha hs b ob e=>by
  obtain⟨_,_,hfree⟩:=ha;refine(I.hok b ob e).stay (λc w' hc q=>(hs.2 c ?_).trans q) (λ_ q=>q) λ_ _ q=>q;rintro rfl;rcases hc with rfl | hc
  ·rw[hfree] at e; cases e
  ·rw[hfree] at hc; cases hc
 rcases hx with hk | hk
 ·refine wpAny_storeName_local hk hn (λh' hn' hs=>?_) hcls;obtain⟨oL,_,_,hoL,_⟩:=id hn;refine h _ ⟨I.ok,I.os,I.bare,⟨λb o e n hb hx=>?_,λb o e n hb hx=>?_,I.base.free,λb o e hx=>?_,I.base.tups,I.base.frzs,I.base.tbls⟩,⟨_,hn',λj y v' e1 e2 e3=>?_⟩,λy c e=>?_,I.free,I.freeC,λp hp=>?_,tracked ⟨oL,hoL,I.free⟩ hs,by simpa using I.len⟩ ⟨_,hs,.inl rfl⟩
  ·exact(hs.2 b (Nat.ne_of_lt (Nat.lt_of_lt_of_le (Heap.lt_size e) I.ok.above))).trans (I.base.keep b o e n hb hx)
  ·obtain⟨sl,e1⟩:=I.base.slot b o e n hb hx;exact⟨sl,(hs.2 b (Nat.ne_of_lt (Nat.lt_of_lt_of_le (Heap.lt_size e) I.ok.above))).trans e1⟩
  ·obtain⟨o',e1⟩:=I.base.there b o e hx;exact⟨o',(hs.2 b (Nat.ne_of_lt (Nat.lt_of_lt_of_le (Heap.lt_size e) I.ok.above))).trans e1⟩
  ·by_cases hj:j=i
   ·subst hj;rw[hi] at e1; cases e1;rw[List.getElem?_set_self hiσ] at e2;cases e2;exact⟨u,r,.inl ⟨hk,by simp⟩⟩
   ·rw[List.getElem?_set_ne (Ne.symm hj)] at e2;obtain⟨u',r',q⟩:=hl j y v' e1 e2 e3;exists u',r';rcases q with ⟨k,e⟩ | ⟨k,c,e,z⟩
    ·refine .inl ⟨k,?_⟩;have:y≠x:=λe=>hj (zK8 hN e1 (e ▸ hi));simp[this,e]
    ·exact .inr ⟨k,c,e,z.sameBut hs (cne y c e)⟩
  ·obtain⟨w',z⟩:=I.cell y c e;exact⟨w',z.sameBut hs (cne y c e)⟩
  ·obtain⟨e,n,ne,nf,d⟩:=I.pin p hp;exact⟨(hs.2 p.1 ne).trans e,n,ne,nf,d⟩
 ·have hfn:X.fn x=true:=by
   rcases hf with z | z
   ·exact z
   ·rw[z] at hk; cases hk
  obtain⟨c,hc⟩:=I.ok.has x (.inl hk);obtain⟨w',z⟩:=I.cell x c hc;refine wpAny_storeName_cell I.ok.kind hk hc z (λh' hc' hs=>?_);obtain⟨oc,hoc,hocd⟩:=id z;refine h { s with heap:=h' } ⟨I.ok,I.os,I.bare,⟨λb o e n hb hx=>?_,λb o e n hb hx=>?_,I.base.free,λb o e hx=>?_,I.base.tups,I.base.frzs,I.base.tbls⟩,⟨m,hn.sameBut hs (Ne.symm (cne x c hc)),λj y v' e1 e2 e3=>?_⟩,λy c' e=>?_,I.free,I.freeC,λp hp=>?_,tracked ⟨oc,hoc,I.freeC x c hc⟩ hs,by simpa using I.len⟩ ⟨c,hs,.inr hc⟩
  ·exact(hs.2 b (Nat.ne_of_lt (Nat.lt_of_lt_of_le (Heap.lt_size e) (I.ok.cab x c hfn hc)))).trans (I.base.keep b o e n hb hx)
  ·obtain⟨sl,e1⟩:=I.base.slot b o e n hb hx;exact⟨sl,(hs.2 b (Nat.ne_of_lt (Nat.lt_of_lt_of_le (Heap.lt_size e) (I.ok.cab x c hfn hc)))).trans e1⟩
  ·obtain⟨o',e1⟩:=I.base.there b o e hx;exact⟨o',(hs.2 b (Nat.ne_of_lt (Nat.lt_of_lt_of_le (Heap.lt_size e) (I.ok.cab x c hfn hc)))).trans e1⟩
  ·by_cases hj:j=i
   ·subst hj;rw[hi] at e1; cases e1;rw[List.getElem?_set_self hiσ] at e2;cases e2;exact⟨u,r,.inr ⟨.inl hk,c,hc,hc'⟩⟩
   ·rw[List.getElem?_set_ne (Ne.symm hj)] at e2;obtain⟨u',r',q⟩:=hl j y v' e1 e2 e3;exists u',r';rcases q with q | ⟨k,c',e,z'⟩
    ·exact .inl q
    ·refine .inr ⟨k,c',e,z'.sameBut hs ?_⟩;rintro rfl;exact hj (zK8 hN e1 (I.ok.inj _ _ _ e hc ▸ hi))
  ·by_cases hcc:c'=c
   ·subst hcc; exact⟨_,hc'⟩
   ·obtain⟨w2,z2⟩:=I.cell y c' e;exact⟨w2,z2.sameBut hs hcc⟩
  ·obtain⟨e,n,ne,nf,d⟩:=I.pin p hp;refine⟨(hs.2 p.1 ?_).trans e,n,ne,nf,d⟩;intro q;rw[q,hoc] at e;have q':oc=p.2:=Option.some.inj e;exact d w' (by rw[<- q']; exact hocd)
theorem zDk{M:Model}{A:Around}{E:Value->Shared->Prop}{i:Nat}{x:Str}{v:V}{u:Value}{Q:Unit->Shared->Prop}(I:Inv X pins σ H s)(hN:X.N.Nodup)(hi:X.N[i]?=some x)(hx:Loc X.env.scope x)(r:xI v u)
  (h:∀ s',Inv X pins (σ.set i (some v)) H s'->Q () s') (hf:X.fn x=true\/X.env.scope.names.lookup x=some .local:=by first | exact .inl rfl | exact .inr rfl | assumption):wpAny M A (storeName X.env x u) Q E s :=
 zEt I hN hi hx r (λs' I' _=>h s' I') hf
theorem Inv.call'{s':Shared}{ch:List Addr}(I:Inv X pins σ H s)(ho:s'.os=s.os)(u:Un (frs X.stack) ch H H' s.heap s'.heap)(hok:HOk X.prog X.w H' s'.heap)(hg:AllBare s'.gens)
  (hch:∀ b∈ch,(b∈X.ex\/X.s₀.heap.objs.size<=b)/\b≠X.env.locals/\(∀ x c,X.env.cells.lookup x=some c->c≠b)/\∀ p∈X.pn++pins,p.1≠b):Inv X pins σ H' s':=by
 obtain⟨h',g',d',t',o'⟩:=s';have e:o'=s.os:=ho;subst e;exact I.call (g':=g') (t':=t') (d':=d') u hok hg hch
end

abbrev XK:=Value->Option Addr->Hp->Prop
abbrev St:=List (Option V)
abbrev VK:=V->Hp->Prop
abbrev TE:=St->Hp->VK->Prop
abbrev TT:=St->Hp->(Bool->Hp->Prop)->Prop
abbrev TA:=St->Hp->(List V->Hp->Prop)->Prop
structure zMe where
 nx:St->Hp->Prop
 rt:VK
 bk:St->Hp->Prop:=λ_ _=>False
 ct:St->Hp->Prop:=λ_ _=>False
abbrev TS:=zMe->St->Hp->Prop

def EP(X:Cx)(pins:List (Addr×Obj))(σ:St)(Q:VK)(u:Value)(s':Shared):Prop:=∃ v H',Inv X pins σ H' s'/\xI v u/\Q v H'
def TP(X:Cx)(pins:List (Addr×Obj))(σ:St)(Q:Bool->Hp->Prop)(b:Bool)(s':Shared):Prop:=∃ H',Inv X pins σ H' s'/\Q b H'
def AP(X:Cx)(pins:List (Addr×Obj))(σ:St)(Q:List V->Hp->Prop)(us:List Value)(s':Shared):Prop:=∃ vs H',Inv X pins σ H' s'/\yS vs us/\Q vs H'
def SP(X:Cx)(pins:List (Addr×Obj))(D:zMe)(f:Flow)(s':Shared):Prop :=
 match f with
 | .next=>∃ σ' H',Inv X pins σ' H' s'/\D.nx σ' H'
 | .brk=>∃ σ' H',Inv X pins σ' H' s'/\D.bk σ' H'
 | .cont=>∃ σ' H',Inv X pins σ' H' s'/\D.ct σ' H'
 | .ret u=>∃ v σ' H',Inv X pins σ' H' s'/\xI v u/\D.rt v H'

def PE(X:Cx)(e:Expr)(t:TE):Prop :=
 ∀(pins:List (Addr×Obj))(s:Shared)(σ:St)(H:Hp)(Q:VK),Inv X pins σ H s->t σ H Q->wpAny (model X.prog X.w) X.A (eval e X.env) (EP X pins σ Q) X.xe s
def PT(X:Cx)(e:Expr)(t:TT):Prop :=
 ∀(pins:List (Addr×Obj))(s:Shared)(σ:St)(H:Hp)(Q:Bool->Hp->Prop),Inv X pins σ H s->t σ H Q->wpAny (model X.prog X.w) X.A (isTrue e X.env (eval e X.env)) (TP X pins σ Q) X.xe s
def PW(X:Cx)(e:Expr)(t:TT):Prop :=
 ∀(whole:Sem Value)(pins:List (Addr×Obj))(s:Shared)(σ:St)(H:Hp)(Q:Bool->Hp->Prop),Inv X pins σ H s->t σ H Q->wpAny (model X.prog X.w) X.A (isTrue e X.env whole) (TP X pins σ Q) X.xe s
theorem PW.pt{X:Cx}{e:Expr}{t:TT}(h:PW X e t):PT X e t:=h _
def PA(X:Cx)(es:List Expr)(t:TA):Prop :=
 ∀(pos:Pos)(pins:List (Addr×Obj))(s:Shared)(σ:St)(H:Hp)(Q:List V->Hp->Prop),Inv X pins σ H s->t σ H Q->wpAny (model X.prog X.w) X.A (spliced (backTo pos (starEach es X.env))) (AP X pins σ Q) X.xe s
def PS(X:Cx)(st:Stmt)(t:TS):Prop :=
 ∀(pins:List (Addr×Obj))(s:Shared)(σ:St)(H:Hp)(D:zMe),Inv X pins σ H s->t D σ H->wpAny (model X.prog X.w) X.A (exec st X.env) (SP X pins D) X.xe s
def PSs(X:Cx)(st:List Stmt)(t:TS):Prop :=
 ∀(pins:List (Addr×Obj))(s:Shared)(σ:St)(H:Hp)(D:zMe),Inv X pins σ H s->t D σ H->wpAny (model X.prog X.w) X.A (execs st X.env) (SP X pins D) X.xe s
theorem thn{α:Type}{t:Sem α}{Q Q':α->Shared->Prop}{M:Model}{A:Around}{E:Value->Shared->Prop}{s:Shared}(h:wpAny M A t Q E s)(hQ:∀ a s,Q a s->Q' a s):wpAny M A t Q' E s:=wpAny_mono h hQ λ_ _ x=>x
end L2

namespace L2
open PySem PySem.Spec PyProof.Rows
section
variable{X:Cx}

theorem bin{a b:Expr}{ta tb:TE}(ha:PE X a ta)(hb:PE X b tb){pins:List (Addr×Obj)}{s:Shared}{σ:St}{H:Hp}{R:V->V->Hp->Prop}(I:Inv X pins σ H s)(h:ta σ H λx H1=>tb σ H1 λy H2=>R x y H2)
  {α:Type} {Q:α->Shared->Prop} {f:Value->Value->Sem α}
  (hf:∀ v u s2 x y H2,Inv X pins σ H2 s2->xI x v->xI y u->R x y H2->wpAny (model X.prog X.w) X.A (f v u) Q X.xe s2) :
  wpAny (model X.prog X.w) X.A (eval a X.env) (λv s₁=>wpAny (model X.prog X.w) X.A (eval b X.env) (λu s₂=>wpAny (model X.prog X.w) X.A (f v u) Q X.xe s₂) X.xe s₁) X.xe s:=by
 refine thn (ha pins s σ H _ I h) λv s1 ⟨x,H1,I1,r1,q1⟩=>?_;refine thn (hb pins s1 σ H1 _ I1 q1) λu s2 ⟨y,H2,I2,r2,q2⟩=>?_;exact hf v u s2 x y H2 I2 r1 r2 q2

inductive TVar(i:Nat)(σ:St)(H:Hp)(Q:VK):Prop where
 | mk (v:V) (e:σ[i]?=some (some v)) (q:Q v H)
def zRv(i:Nat):TE:=λσ H Q=>TVar i σ H Q
def tC(v:V):TE:=λ_ H Q=>Q v H
theorem zXp{i:Nat}{x:Str}{pos:Pos}(hN:X.N[i]?=some x)(hv:Vis X.env.scope x)(hd:(x ==("__debug__" : Str))=false:=by decide)(hcd:(x ==("__classdict__" : Str))=false:=by decide):PE X (.Name x pos) (zRv i):=by
 intro pins s σ H Q I h;obtain⟨v,e,h⟩:=h;obtain⟨m,hn,hl⟩:=I.loc;obtain⟨u,r,l⟩:=hl i x v hN e hv;have fin:EP X pins σ Q u s:=⟨v,H,I,r,h⟩;rcases l with ⟨hk,hm⟩ | ⟨hk,c,hc,hcell⟩
 ·exact wpAny_Name (wpAny_loadName_local I.ok.kind hk hn hm fin) hd
 ·rcases hk with hk | hk
  ·exact wpAny_Name (wpAny_loadName_cell I.ok.kind hk hc hcell fin) hd
  ·exact wpAny_Name (wpAny_loadName_free I.ok.kind hk hc hcell fin hcd) hd
theorem xY{i j pos} : PE X (.Constant (.int i) j pos) (tC (.int i)):=λ_ _ _ H _ I h=>wpAny_Constant_int ⟨.int i,H,I.tok _,⟨_,rfl⟩,h⟩
theorem zGh{b j pos} : PE X (.Constant (.bool b) j pos) (tC (.bl b)):=λ_ _ _ H _ I h=>Constant_bool ⟨.bl b,H,I,rfl,h⟩
theorem zS0{j pos} : PE X (.Constant .none j pos) (tC .non):=λ_ _ _ H _ I h=>Constant_none ⟨.non,H,I,rfl,h⟩
theorem zM{x j pos} : PE X (.Constant (.str x) j pos) (tC (.str x)):=λ_ _ _ H _ I h=>Calls.Constant_str ⟨.str x,H,I.tok _,⟨_,rfl⟩,h⟩

def Gl(X:Cx)(x:Str):Prop:=X.env.kindOf x=some .globalImplicit
theorem qP{E:Value->Shared->Prop}{pins:List (Addr×Obj)}{s:Shared}{σ:St}{H:Hp}{x:Str}{u:Value}{pos:Pos}{Q:Value->Shared->Prop}(I:Inv X pins σ H s)(hg:Gl X x)(hm:X.mg x=some u)(h:Q u s)
  (hd:(x ==("__debug__" : Str))=false:=by decide):wpAny (model X.prog X.w) X.A (eval (.Name x pos) X.env) Q E s :=
 Calls.Name_function_global I.ok.kind hg (Calls.loadGlobal_global (by rw[I.ok.glob]; exact I.mod.glob.keeps I.bk) hm h) hd
theorem zCe{E:Value->Shared->Prop}{pins:List (Addr×Obj)}{s:Shared}{σ:St}{H:Hp}{x:Str}{u:Value}{pos:Pos}{Q:Value->Shared->Prop}(I:Inv X pins σ H s)(hg:Gl X x)(hm:X.mg x=none)(hv:bootBuiltins x=some u)(h:Q u s)
  (hn:x ≠ "__name__" := by decide) (hd:(x ==("__debug__" : Str))=false:=by decide):wpAny (model X.prog X.w) X.A (eval (.Name x pos) X.env) Q E s:=by
 obtain⟨mb,h1,h2⟩:=I.mod.blt;exact Calls.Name_function_global I.ok.kind hg (Calls.loadGlobal_builtin (by rw[I.ok.glob]; exact I.mod.glob.keeps I.bk) hm (by rw[I.ok.blt]; exact h1.keeps I.bk) ((h2 x hn).trans hv) h) hd
theorem zBv{x:Str}{v:V}{u:Value}{pos:Pos}(hg:Gl X x)(hm:X.mg x=none)(hv:bootBuiltins x=some u)(r:xI v u)(hn:x ≠ "__name__" := by decide)(hd:(x ==("__debug__" : Str))=false:=by decide):PE X (.Name x pos) (tC v) :=
 λ_ _ _ H _ I h=>zCe I hg hm hv ⟨v,H,I,r,h⟩ hn hd

variable{a b:Expr}{ta tb:TE}{pos:Pos}
def PC(X:Cx)(op:CmpOp)(a b:Expr)(t:TE):Prop :=
 ∀(pins:List (Addr×Obj))(s:Shared)(σ:St)(H:Hp)(Q:VK),Inv X pins σ H s->t σ H Q ->
  wpAny (model X.prog X.w) X.A (eval a X.env) (λv s₁=>wpAny (model X.prog X.w) X.A (eval b X.env) (λu s₂=>wpAny (model X.prog X.w) X.A (compareOp op v u) (EP X pins σ Q) X.xe s₂) X.xe s₁) X.xe s
def tB(t:TE):TT:=λσ H Q=>t σ H λx H1=>∃ c,x=.bl c/\Q c H1
theorem zF9{op:CmpOp}{t:TE}(h:PC X op a b t)(h1:behindInMarks op b=false:=by first | exact nobehind _ (by decide) (by decide) | rfl):PT X (.Compare a [op] [b] pos) (tB t):=by
 intro pins s σ H Q I hw;refine wpAny_isTrue_Compare1 (thn (h pins s σ H _ I hw) λv s1 h1=>thn h1 λu s2 h2=>thn h2 λc s3 ⟨x,H1,I1,r1,q1⟩=>?_) h1;obtain⟨d,rfl,q⟩:=q1;cases r1;exact wpAny_truthy_bool ⟨H1,I1,q⟩
theorem zEa{e:Expr}{t:TE}(h:PE X e t)(he:∀ whole,isTrue e X.env whole=(do let v <- whole; standAt e.pos; holding [v] (truthy v)):=by intro _; rfl):PT X e (tB t):=by
 intro pins s σ H Q I hw;refine isTrue_plain (thn (h pins s σ H _ I hw) λv s1 ⟨x,H1,I1,r1,q1⟩=>?_) (he _);obtain⟨d,rfl,q⟩:=q1;cases r1;exact wpAny_truthy_bool ⟨H1,I1,q⟩

variable{tA tB':TT}{rest:List Expr}
def tAnd(t u:TT):TT:=λσ H Q=>t σ H λc H1=>if c=true then u σ H1 Q else Q false H1
def tOr(t u:TT):TT:=λσ H Q=>t σ H λc H1=>if c=true then Q true H1 else u σ H1 Q
def tNot(t:TT):TT:=λσ H Q=>t σ H λc H1=>Q (!c) H1
theorem qN(ha:PT X a tA):PW X (.BoolOp .And [a] pos) tA:=by
 intro wh pins s σ H Q I h;refine isTrue_and (thn (ha pins s σ H Q I h) λc s1 e=>?_);cases c with
 | true=>exact isTrue_and_nil e
 | false=>exact e
theorem zGd(ha:PT X a tA):PW X (.BoolOp .Or [a] pos) tA:=by
 intro wh pins s σ H Q I h;refine isTrue_or (thn (ha pins s σ H Q I h) λc s1 e=>?_);cases c with
 | false=>exact isTrue_or_nil e
 | true=>exact e
theorem zBg(ha:PT X a tA)(hb:PW X (.BoolOp .And (b::rest) pos) tB'):PW X (.BoolOp .And (a::b::rest) pos) (tAnd tA tB'):=by
 intro wh pins s σ H Q I h;refine isTrue_and (thn (ha pins s σ H _ I h) λc s1 ⟨H1,I1,q1⟩=>?_);cases c with
 | true=>exact hb wh pins s1 σ H1 Q I1 q1
 | false=>exact⟨H1,I1,q1⟩
theorem zKh(ha:PT X a tA)(hb:PW X (.BoolOp .Or (b::rest) pos) tB'):PW X (.BoolOp .Or (a::b::rest) pos) (tOr tA tB'):=by
 intro wh pins s σ H Q I h;refine isTrue_or (thn (ha pins s σ H _ I h) λc s1 ⟨H1,I1,q1⟩=>?_);cases c with
 | true=>exact⟨H1,I1,q1⟩
 | false=>exact hb wh pins s1 σ H1 Q I1 q1
theorem zDt(ha:PT X a tA):PT X (.UnaryOp .Not a pos) (tNot tA):=by
 intro pins s σ H Q I h;exact isTrue_not (ha pins s σ H (λc H1=>Q (!c) H1) I h)
def tAndV(ta tb:TE):TE:=λσ H Q=>ta σ H λx H1=>∃ c,x=.bl c/\if c=true then tb σ H1 Q else Q (.bl false) H1
theorem zS6{op}{t:TE}(h:PE X a t):PE X (.BoolOp op [a] pos) t:=λpins s σ H Q I hw=>BoolOp_one (h pins s σ H Q I hw)
theorem zR9(ha:PE X a ta)(hb:PE X (.BoolOp .And (b::rest) pos) tb):PE X (.BoolOp .And (a::b::rest) pos) (tAndV ta tb):=by
 intro pins s σ H Q I h;refine BoolOp_and (thn (ha pins s σ H _ I h) λv s1 ⟨x,H1,I1,r1,q1⟩=>?_);obtain⟨c,rfl,q1⟩:=q1;cases r1;refine wpAny_truthy_bool ?_;cases c with
 | true=>exact hb pins s1 σ H1 Q I1 q1
 | false=>exact⟨.bl false,H1,I1,rfl,q1⟩
def tIf(t:TT)(ta tb:TE):TE:=λσ H Q=>t σ H λc H1=>if c=true then ta σ H1 Q else tb σ H1 Q
theorem zLi{c:Expr}(hc:PT X c tA)(ha:PE X a ta)(hb:PE X b tb):PE X (.IfExp c a b pos) (tIf tA ta tb):=by
 intro pins s σ H Q I h;refine wpAny_IfExp (thn (hc pins s σ H _ I h) λd s1 ⟨H1,I1,q1⟩=>?_);cases d with
 | true=>exact ha pins s1 σ H1 Q I1 q1
 | false=>exact hb pins s1 σ H1 Q I1 q1
end
end L2

namespace L2
open PySem PySem.Spec PyProof.Rows

def SqL(K:PySem.W.Frag)(H:Hp)(a:Addr)(xs:List V):Prop :=
 Rd H a (.lst xs) \/
  ∃(o:Obj)(its:Array Value)(n:Nat),K.lookup a=some o/\o.cls=.type "list" /\ o.dict=none/\o.data=.seq its n/\its.size<=sizeLine/\yS xs its.toList
def SqT(K:PySem.W.Frag)(H:Hp)(a:Addr)(xs:List V):Prop :=
 Rd H a (.tup xs) \/
  ∃(o:Obj)(its:Array Value)(n:Nat),K.lookup a=some o/\o.cls=.type "tuple" /\ o.data=.seq its n/\its.size<=sizeLine/\yS xs its.toList
def absV:Value->Option V
 | .none=>some .non
 | .bool b=>some (.bl b)
 | .int i _=>some (.int i)
 | .str x _=>some (.str x)
 | .bytes b _=>some (.byt b)
 | .float b _=>some (.flt b)
 | .ref a=>some (.ref a)
 | .type n=>some (.ty n)
 | _=>none
theorem xI.abs{x:V}{u:Value}(r:xI x u):absV u=some x:=by
 cases x with
 | non=>cases r; rfl
 | bl _=>cases r; rfl
 | int _=>obtain⟨t,rfl⟩:=r; rfl
 | str _=>obtain⟨t,rfl⟩:=r; rfl
 | byt _=>obtain⟨t,rfl⟩:=r; rfl
 | flt _=>obtain⟨t,rfl⟩:=r; rfl
 | ref _=>cases r; rfl
 | ty _=>cases r; rfl
theorem xI.inj{x y:V}{u:Value}(r:xI x u)(q:xI y u):x=y:=Option.some.inj (r.abs.symm.trans q.abs)
theorem yS.inj:∀{xs ys:List V}{us:List Value},yS xs us->yS ys us->xs=ys
 | _,_,_,.nil,.nil=>rfl
 | _,_,_,.cons r t,.cons r' t'=>by rw[r.inj r',yS.inj t t']
section
variable{X:Cx}{pins:List (Addr×Obj)}{σ:St}{H:Hp}{s:Shared}{a:Addr}{xs ys:List V}
theorem SqL.of{K:PySem.W.Frag}(h:H a=some (.lst xs)):SqL K H a xs:=.inl (.inl h)
theorem SqT.of{K:PySem.W.Frag}(h:H a=some (.tup xs)):SqT K H a xs:=.inl (.inl h)
theorem Inv.list(I:Inv X pins σ H s)(h:SqL X.K H a xs):∃ its:List Value,yS xs its/\PlainL s.heap a its.toArray/\xs.length<=sizeLine:=by
 rcases h with h | ⟨o,its,n,hk,hc,hd,hs,hz,r⟩
 ·obtain⟨z,its,n,r,e⟩:=h.ok I.hok;exact⟨its,r,⟨_,n,e,rfl,rfl,rfl⟩,z⟩
 ·exists its.toList,r,⟨o,n,I.kIn a o hk,hc,hd,by simpa using hs⟩;have e:=r.length;simp only[Array.length_toList] at e;lia
theorem Inv.tuple(I:Inv X pins σ H s)(h:SqT X.K H a xs):∃ its:List Value,yS xs its/\IsTup s.heap a its.toArray/\xs.length<=sizeLine:=by
 rcases h with h | ⟨o,its,n,hk,hc,hs,hz,r⟩
 ·obtain⟨z,its,r,p⟩:=h.ok I.hok;exact⟨its,r,p,z⟩
 ·exists its.toList,r,⟨o,I.kIn a o hk,hc,n,by simpa using hs⟩;have e:=r.length;simp only[Array.length_toList] at e;lia
theorem Inv.list_inj(I:Inv X pins σ H s)(h:SqL X.K H a xs)(h':SqL X.K H a ys):xs=ys:=by
 obtain⟨its,r,⟨o,n,e,_,_,d⟩,_⟩:=I.list h;obtain⟨its',r',⟨o',n',e',_,_,d'⟩,_⟩:=I.list h';rw[e] at e'; cases e';rw[d] at d';injection d' with d1 _
 have:its=its':=by simpa using congrArg Array.toList d1
 subst this;exact r.inj r'
theorem Inv.tuple_inj(I:Inv X pins σ H s)(h:SqT X.K H a xs)(h':SqT X.K H a ys):xs=ys:=by
 obtain⟨its,r,⟨o,e,_,n,d⟩,_⟩:=I.tuple h;obtain⟨its',r',⟨o',e',_,n',d'⟩,_⟩:=I.tuple h';rw[e] at e'; cases e';rw[d] at d';injection d' with d1 _
 have:its=its':=by simpa using congrArg Array.toList d1
 subst this;exact r.inj r'
end

abbrev Cx.wish(X:Cx)(E:Value->Shared->Prop):Cx:={ X with xe:=E }
abbrev Cx.nox(X:Cx):Cx:=X.wish λ_ _=>False
theorem Cx.Ok.wish{X:Cx}(ok:X.Ok)(E:Value->Shared->Prop):(X.wish E).Ok :=
 ⟨ok.mod,ok.kind,ok.glob,ok.blt,ok.above,ok.inj,ok.has,ok.cab,ok.hd,ok.frames,ok.stk,ok.exf,ok.bs,ok.bsz,ok.noex,ok.exfs,ok.funs,ok.frf⟩
theorem Cx.Ok.unwish{X:Cx}{E:Value->Shared->Prop}(ok:(X.wish E).Ok):X.Ok :=
 ⟨ok.mod,ok.kind,ok.glob,ok.blt,ok.above,ok.inj,ok.has,ok.cab,ok.hd,ok.frames,ok.stk,ok.exf,ok.bs,ok.bsz,ok.noex,ok.exfs,ok.funs,ok.frf⟩
section
variable{X:Cx}{pins:List (Addr×Obj)}{σ:St}{H:Hp}{s:Shared}{E:Value->Shared->Prop}
theorem Inv.wish(I:Inv X pins σ H s)(E:Value->Shared->Prop):Inv (X.wish E) pins σ H s:=⟨I.ok.wish E,I.os,I.bare,I.base,I.loc,I.cell,I.free,I.freeC,I.pin,I.hok,I.len⟩
theorem Inv.unwish(I:Inv (X.wish E) pins σ H s):Inv X pins σ H s:=⟨I.ok.unwish,I.os,I.bare,I.base,I.loc,I.cell,I.free,I.freeC,I.pin,I.hok,I.len⟩
theorem SP.unwish{D:zMe}{f:Flow}{s':Shared}(h:SP (X.wish E) pins D f s'):SP X pins D f s':=by
 cases f with
 | next=>obtain⟨σ',H',I,q⟩:=h; exact⟨σ',H',I.unwish,q⟩
 | brk=>obtain⟨σ',H',I,q⟩:=h; exact⟨σ',H',I.unwish,q⟩
 | cont=>obtain⟨σ',H',I,q⟩:=h; exact⟨σ',H',I.unwish,q⟩
 | ret u=>obtain⟨v,σ',H',I,r,q⟩:=h; exact⟨v,σ',H',I.unwish,r,q⟩
theorem PSs.nox{st:List Stmt}{t:TS}(h:PSs X.nox st t):PSs X st t:=λpins s σ H D I hw =>
 wpAny_mono (h pins s σ H D (I.wish _) hw) (λ_ _ q=>q.unwish) λ_ _ z=>False.elim z
end

section
variable{X:Cx}{st:Stmt}{rest:List Stmt}{t u:TS}{e:Expr}{te:TE}{pos:Pos}
def tNext:TS:=λD σ H=>D.nx σ H
def zX0(t u:TS):TS:=λD σ H=>t { D with nx:=u D } σ H
theorem zZ:PSs X [] tNext:=λ_ _ σ H _ I h=>wpAny_execs_nil ⟨σ,H,I,h⟩
theorem zC(h1:PS X st t)(h2:PSs X rest u):PSs X (st::rest) (zX0 t u):=by
 intro pins s σ H D I h;refine wpAny_execs_cons (thn (h1 pins s σ H { D with nx:=u D } I h) λf s1 q=>?_);cases f with
 | next =>
  obtain⟨σ',H',I',q⟩:=q;exact h2 pins s1 σ' H' D I' q
 | ret v=>exact q
 | brk=>exact q
 | cont=>exact q
theorem zF(h1:PS X st t):PSs X [st] t:=by
 intro pins s σ H D I h;refine wpAny_execs_cons (thn (h1 pins s σ H D I h) λf s1 q=>?_);cases f with
 | next=>exact wpAny_execs_nil q
 | ret v=>exact q
 | brk=>exact q
 | cont=>exact q
theorem Inv.quiet{pins:List (Addr×Obj)}{σ:St}{H:Hp}{s:Shared}(I:Inv X pins σ H s):interactive X.env=false:=by simp[interactive,I.ok.kind]
def tDrop(te:TE):TS:=λD σ H=>te σ H λ_ H1=>D.nx σ H1
theorem zS(he:PE X e te)(hs:swapsWith e none pos.line X.env=pure false:=by rfl):PS X (.Expr e pos) (tDrop te):=by
 intro pins s σ H D I h;exact wpAny_Expr_any (thn (he pins s σ H _ I h) λv s1 ⟨x,H1,I1,r1,q1⟩=>⟨σ,H1,I1,q1⟩) I.quiet hs
def tRet(te:TE):TS:=λD σ H=>te σ H D.rt
theorem zT(he:PE X e te):PS X (.Return (some e) pos) (tRet te):=by
 intro pins s σ H D I h;exact wpAny_Return_some (thn (he pins s σ H _ I h) λv s1 ⟨x,H1,I1,r1,q1⟩=>⟨x,σ,H1,I1,r1,q1⟩)
def tIfS(c:TT)(t u:TS):TS:=λD σ H=>c σ H λb H1=>if b=true then t D σ H1 else u D σ H1
theorem yR{c:Expr}{a b:List Stmt}{tc:TT}(hc:PT X c tc)(ha:PSs X a t)(hb:PSs X b u):PS X (.If c a b pos) (tIfS tc t u):=by
 intro pins s σ H D I h;refine wpAny_If (thn (hc pins s σ H _ I h) λd s1 ⟨H1,I1,q1⟩=>?_);cases d with
 | true=>exact ha pins s1 σ H1 D I1 q1
 | false=>exact hb pins s1 σ H1 D I1 q1
def zWc:TS:=λ_ _ _=>False
theorem xG:PS X st zWc:=λ_ _ _ _ _ _ h=>h.elim
end

abbrev TG:=V->St->Hp->(St->Hp->Prop)->Prop
abbrev TGs:=List V->St->Hp->(St->Hp->Prop)->Prop
def PG(X:Cx)(target:Expr)(t:TG):Prop :=
 ∀(pins:List (Addr×Obj))(s:Shared)(σ:St)(H:Hp)(v:V)(u:Value)(Q:St->Hp->Prop),Inv X pins σ H s->xI v u->t v σ H Q ->
  wpAny (model X.prog X.w) X.A (assign target X.env u) (λ_ s'=>∃ σ' H',Inv X pins σ' H' s'/\Q σ' H') X.xe s
def PGs(X:Cx)(ts:List Expr)(t:TGs):Prop :=
 ∀(pins:List (Addr×Obj))(s:Shared)(σ:St)(H:Hp)(vs:List V)(us:List Value)(Q:St->Hp->Prop),Inv X pins σ H s->yS vs us->t vs σ H Q ->
  wpAny (model X.prog X.w) X.A (assignInOrder ((assignEach ts X.env).map (·.2)) us) (λ_ s'=>∃ σ' H',Inv X pins σ' H' s'/\Q σ' H') X.xe s
abbrev zXz:=V->V->V->Hp->(Hp->Prop)->Prop
def PSet(X:Cx)(t:zXz):Prop :=
 ∀(pins:List (Addr×Obj))(s:Shared)(σ:St)(H:Hp)(o i v:V)(ov iv u:Value)(Q:Hp->Prop),Inv X pins σ H s->xI o ov->xI i iv->xI v u->t o i v H Q ->
  wpAny (model X.prog X.w) X.A (setItem ov iv u) (λ_ s'=>∃ H',Inv X pins σ H' s'/\Q H') X.xe s
section
variable{X:Cx}{pos:Pos}
def zJf(i:Nat):TG:=λv σ H Q=>Q (σ.set i (some v)) H
theorem zPy{i:Nat}{x:Str}(hN:X.N.Nodup)(hi:X.N[i]?=some x)(hx:Loc X.env.scope x)(hf:X.fn x=true\/X.env.scope.names.lookup x=some .local:=by first | exact .inl rfl | exact .inr rfl | assumption):PG X (.Name x pos) (zJf i):=by
 intro pins s σ H v u Q I r h;exact wpAny_assign_Name (zDk I hN hi hx r (λs' I'=>⟨_,H,I',h⟩) hf)
def gNil:TGs:=λvs σ H Q=>vs=[]/\Q σ H
def gCons(t:TG)(u:TGs):TGs:=λvs σ H Q=>∃ v r,vs=v::r/\t v σ H λσ' H'=>u r σ' H' Q
theorem vR:PGs X [] gNil:=by
 intro pins s σ H vs us Q I r h;obtain⟨e,h⟩:=h;subst e;cases r;exact assignInOrder_nil ⟨σ,H,I,h⟩
theorem yJ{e:Expr}{es:List Expr}{t:TG}{u:TGs}(h1:PG X e t)(h2:PGs X es u)
  (hs:(assignEach (e::es) X.env).map (·.2)=assign e X.env::(assignEach es X.env).map (·.2):=by rfl):PGs X (e::es) (gCons t u):=by
 intro pins s σ H vs us Q I r h;obtain⟨v,vr,e1,h⟩:=h;subst e1;cases r with
 | cons r rr =>
  rw[hs];refine assignInOrder_cons (thn (h1 pins s σ H _ _ _ I r h) λ_ s1 ⟨σ1,H1,I1,q1⟩=>?_);exact h2 pins s1 σ1 H1 _ _ Q I1 rr q1
def gTup(K:PySem.W.Frag)(n:Nat)(t:TGs):TG:=λv σ H Q=>∃ a xs,v=.ref a/\SqT K H a xs/\xs.length=n/\t xs σ H Q
theorem rN{es:List Expr}{k:Nat}{t:TGs}{n:Nat}(hc:X.calm=true)(h:PGs X es t)
  (hn:(assignEach es X.env).length=n:=by rfl) (hst:(assignEach es X.env).findIdx? (·.1)=none:=by rfl):PG X (.Tuple es k pos) (gTup X.K n t):=by
 intro pins s σ H v u Q I r hw;obtain⟨a,xs,e1,hq,hl,hw⟩:=hw;subst e1;cases r;obtain⟨its,rv,ht,hz⟩:=I.tuple hq;refine assign_Tuple_tuple (I.ok.hd hc) ht (by simp[hn,<- hl,rv.length]) hst λh' hx=>?_;have I1:Inv X pins σ H { s with heap:=h' }:=I.kept (t':=s.toks) λb o e=>hx b o (Nat.ne_of_lt (Heap.lt_size e)) e;exact h pins _ σ H xs _ Q I1 (by simpa using rv) hw
def gSub(to ti:TE)(t:zXz):TG:=λv σ H Q=>to σ H λo H1=>ti σ H1 λi H2=>t o i v H2 λH3=>Q σ H3
theorem zXa{o i:Expr}{to ti:TE}{t:zXz}(ho:PE X o to)(hi:PE X i ti)(hs:PSet X t)
  (ha:∀ v,assign (.Subscript o i pos) X.env v=(do
   let ov <- holding [v] (eval o X.env)
   let iv <- holding [v,ov] (eval i X.env)
   standAt pos
   holding [v,ov,iv] (setItem ov iv v)
   release [v,ov,iv] []):=by intro _; rfl):PG X (.Subscript o i pos) (gSub to ti t):=by
 intro pins s σ H v u Q I r h;rw[ha];refine wpAny_bind (wpAny_holding (thn (ho pins s σ H _ I h) λov s1 ⟨x,H1,I1,r1,q1⟩=>?_));refine wpAny_bind (wpAny_holding (thn (hi pins s1 σ H1 _ I1 q1) λiv s2 ⟨y,H2,I2,r2,q2⟩=>?_));refine wpAny_bind (wpAny_standAt (wpAny_bind (wpAny_holding (thn (hs pins s2 σ H2 x y v ov iv u _ I2 r1 r2 r q2) λ_ s3 ⟨H3,I3,q3⟩=>?_))));exact wpAny_release ⟨σ,H3,I3,q3⟩
def zUf(te:TE)(g:TG):TS:=λD σ H=>te σ H λx H1=>g x σ H1 D.nx
theorem zCd{tg e:Expr}{te:TE}{g:TG}(he:PE X e te)(hg:PG X tg g)(hs:swapsWithSole [tg] e pos.line X.env=pure false:=by rfl)(hw:swappedStores [tg] e X.env=pure none:=by rfl)
  (h1:(assignEach [tg] X.env).map (·.2)=[assign tg X.env]:=by rfl):PS X (.Assign [tg] e pos) (zUf te g):=by
 intro pins s σ H D I h;refine wpAny_Assign_stores (thn (he pins s σ H _ I h) λv s1 ⟨x,H1,I1,r1,q1⟩=>?_) hs hw;rw[h1];exact thn (hg pins s1 σ H1 x v _ I1 r1 q1) λ_ s2 q=>q
theorem zXh{i:Nat}{x:Str}{e:Expr}{te:TE}{pos':Pos}(hN:X.N.Nodup)(hi:X.N[i]?=some x)(hx:Loc X.env.scope x)(he:PE X e te)(hs:swapsWith e (some (.Name x pos')) pos.line X.env=pure false:=by rfl)(hf:X.fn x=true\/X.env.scope.names.lookup x=some .local:=by first | exact .inl rfl | exact .inr rfl | assumption) :
  PS X (.Assign [.Name x pos'] e pos) (zUf te (zJf i)):=by
 intro pins s σ H D I h;refine wpAny_Assign_Name (thn (he pins s σ H _ I h) λv s1 ⟨y,H1,I1,r1,q1⟩=>?_) hs;exact zDk I1 hN hi hx r1 (λs2 I2=>⟨_,H1,I2,q1⟩) hf
def tPar(i j:Nat)(ta:TA):TS:=λD σ H=>ta σ H λvs H1=>∃ v w,vs=[v,w]/\D.nx ((σ.set i (some v)).set j (some w)) H1
theorem zI2{i j:Nat}{x y:Str}{a b:Expr}{ta:TA}{px py pt:Pos}{kt k2 pt2}(hc:X.calm=true)(hN:X.N.Nodup)(hi:X.N[i]?=some x)(hj:X.N[j]?=some y)(hij:i≠j)
  (hx:X.env.scope.names.lookup x=some .local) (hy:X.env.scope.names.lookup y=some .local) (ha:PA X [a,b] ta)
  (hw:swappedStores [.Tuple [.Name x px,.Name y py] kt pt] (.Tuple [a,b] k2 pt2) X.env=pure (some [x,y]))
  (hs:swapsWithSole [.Tuple [.Name x px,.Name y py] kt pt] (.Tuple [a,b] k2 pt2) pos.line X.env=pure false:=by rfl) :
  PS X (.Assign [.Tuple [.Name x px,.Name y py] kt pt] (.Tuple [a,b] k2 pt2) pos) (tPar i j ta):=by
 intro pins s σ H D I h;rw[exec_Assign_arm];refine wpAny_bind (wpAny_standAt ?_);rw[hs];refine wpAny_bind (wpAny_pure ?_);rw[if_neg (by decide)];refine wpAny_bind (Tuple_ (thn (ha _ pins s σ H _ I h) λus s1 ⟨vs,H1,I1,r1,q1⟩=>?_));obtain⟨v,w,e1,q1⟩:=q1;subst e1;obtain⟨u1,u2,rfl,rv,rw'⟩:∃ u1 u2,us=[u1,u2]/\xI v u1/\xI w u2:=by
  cases r1 with
  | cons p q =>
   cases q with
   | cons p' q' =>
    cases q';exact⟨_,_,rfl,p,p'⟩
 refine wpAny_newObj_type ?_ (by show 2<=sizeLine; decide);have I2:Inv X pins σ H1 { s1 with heap:=s1.heap.push { cls:=.type "tuple", data:=.seq [u1,u2].toArray } }:=I1.kept (t':=s1.toks) λb o e=>Heap.get?_push_of_some _ e;rw[hw];refine wpAny_bind (wpAny_pure ?_);show wpAny (model X.prog X.w) X.A (do rule "assign.swapped-stores"; let items <- unpackItems (.ref s1.heap.objs.size) 2 none; assignInOrder [λv=>bindName X.env y v,λv=>bindName X.env x v] items.reverse; pure Flow.next) _ _ _;refine wpAny_bind (wpAny_rule (wpAny_bind (unpackItems_tuple (items:=#[u1,u2]) (I.ok.hd hc) (IsTup.new s1.heap _) λh' hx'=>?_)));have I3:=I2.kept (h':=h') (t':=s1.toks) λb o e=>hx' b o (Nat.ne_of_lt (Heap.lt_size e)) e;show wpAny _ _ (assignInOrder [λv=>bindName X.env y v,λv=>bindName X.env x v] [u2,u1] >>= λ_=>pure Flow.next) _ _ _;refine wpAny_bind (assignInOrder_cons (wpAny_bindName (zDk I3 hN hj (.inl hy) rw' (λs2 I4=>?_) (.inr hy))));refine assignInOrder_cons (wpAny_bindName (zDk I4 hN hi (.inl hx) rv (λs3 I5=>assignInOrder_nil (wpAny_pure ?_)) (.inr hx)));rw[List.set_comm _ _ (Ne.symm hij)] at I5;exact⟨_,H1,I5,q1⟩
end

section
variable{X:Cx}{pos:Pos}
def zS2(c:TT)(tb:TS):TS:=λD σ H=>∃ W:Nat->St->Hp->Prop,(∃ m,W m σ H)/\∀ m σ H,W m σ H ->
 c σ H λb H1=>if b=true then ∃ N:St->Hp->Prop,(∀ σ' H',N σ' H'->∃ m',m'<m/\W m' σ' H')/\tb { D with nx:=N,ct:=N,bk:=D.nx } σ H1 else D.nx σ H1
theorem zLw{c:Expr}{body:List Stmt}{tc:TT}{tb:TS}(hp:PassesOwn (model X.prog X.w) X.A X.env X.xe)(hc:PT X c tc)(hb:PSs X body tb):PS X (.While c body [] pos) (zS2 tc tb):=by
 intro pins s σ H D I h;obtain⟨W,⟨m0,w0⟩,turn⟩:=h;refine wpAny_While (codeAny_whileLoop (λn s'=>∃ σ' H',Inv X pins σ' H' s'/\W n σ' H') ?_ m0 ⟨σ,H,I,w0⟩);rintro n s1 ⟨σ1,H1,I1,w1⟩;refine wpAny_passesOwn hp (thn (hc pins s1 σ1 H1 _ I1 (turn n σ1 H1 w1)) λb s2 ⟨H2,I2,q2⟩=>?_);cases b with
 | true =>
  obtain⟨N,hN,q2⟩:=q2;rw[if_pos rfl];refine wpAny_passesOwn hp (thn (hb pins s2 σ1 H2 _ I2 q2) λf s3 q3=>?_);cases f with
  | next =>
   obtain⟨σ3,H3,I3,n3⟩:=q3;obtain⟨m',hm,w3⟩:=hN σ3 H3 n3;exact⟨m',hm,σ3,H3,I3,w3⟩
  | cont =>
   obtain⟨σ3,H3,I3,n3⟩:=q3;obtain⟨m',hm,w3⟩:=hN σ3 H3 n3;exact⟨m',hm,σ3,H3,I3,w3⟩
  | brk=>exact q3
  | ret v=>exact q3
 | false =>
  rw[if_neg Bool.false_ne_true];exact wpAny_execs_nil ⟨σ1,H2,I2,q2⟩
end

structure It where
 go:Nat->Hp->Prop
 yld:Nat->Hp->V->Hp->Prop
 stop:Nat->Hp->Prop
def zM7(X:Cx)(pins:List (Addr×Obj))(H:Hp)(b:Addr):Prop :=
 H b=none/\b≠X.env.locals/\b ∉ X.fs/\(b∈X.ex\/X.s₀.heap.objs.size<=b)/\(∀ x c,X.env.cells.lookup x=some c->c≠b)/\∀ p∈X.pn++pins,p.1≠b
theorem Inv.fpOk{X:Cx}{pins:List (Addr×Obj)}{σ:St}{H H':Hp}{s:Shared}{b:Addr}(I:Inv X pins σ H s)(hb:s.heap.objs.size<=b)(hn:H' b=none):zM7 X pins H' b:=by
 refine⟨hn,Nat.ne_of_gt (Nat.lt_of_lt_of_le I.lt hb),I.nofs hb,.inr (Nat.le_trans I.sz hb),λx c e z=>?_,λp hp z=>?_⟩
 ·obtain⟨v,q⟩:=I.cell x c e;exact absurd (Nat.lt_of_lt_of_le q.lt (by rw[z]; exact hb)) (Nat.lt_irrefl _)
 ·exact absurd (Nat.lt_of_lt_of_le (Heap.lt_size (I.pin p hp).1) (by rw[z]; exact hb)) (Nat.lt_irrefl _)
structure zP7(P:Program)(w:World)(K:PySem.W.Frag)(tg:Expr)(J:It)(fp:List Addr)(it:Addr)(tn:Nat->Heap->Prop):Prop where
 mem:it∈fp
 obj:∀ i h,tn i h->∀ b∈fp,∃ o,h.get? b=some o/\∀ v,o.data≠.cell v
 keep:∀ i h h',tn i h->(∀ b∈fp,∀ o,h.get? b=some o->h'.get? b=some o)->tn i h'
 item:∀(X:Cx),X.prog=P->X.w=w->X.K=K->X.calm=true->∀(i:Nat)(pins:List (Addr×Obj))(s:Shared)(σ:St)(H:Hp)(E:Value->Shared->Prop),Inv X pins σ H s->(∀ b∈fp,zM7 X pins H b)->tn i s.heap->J.go i H ->
  wpAny (model P w) X.A (pyNext (.ref it)) (λr s1=>∃ u,r=some u /\
   wpAny (model P w) X.A (letOwnedTupleGo tg (.ref it) u) (λ_ s2=>∃ x H',Inv X pins σ H' s2/\xI x u/\J.yld i H x H'/\tn (i+1) s2.heap/\∀ b∈fp,H' b=none) E s1) E s
 done:∀(X:Cx),X.prog=P->X.w=w->X.K=K->X.calm=true->∀(i:Nat)(pins:List (Addr×Obj))(s:Shared)(σ:St)(H:Hp)(E:Value->Shared->Prop),Inv X pins σ H s->(∀ b∈fp,zM7 X pins H b)->tn i s.heap->J.stop i H ->
  wpAny (model P w) X.A (pyNext (.ref it)) (λr s1=>r=none/\Inv X pins σ H s1) E s
 self:∀(A:Around)(i:Nat)(s:Shared)(Q:Value->Shared->Prop)(E:Value->Shared->Prop),tn i s.heap->Q (.ref it) s->wpAny (model P w) A (pyIter (.ref it)) Q E s
abbrev TI:=St->Hp->(It->Hp->Prop)->Prop
def PIE(X:Cx)(pins:List (Addr×Obj))(σ:St)(tg:Expr)(R:It->Hp->Prop)(itv:Value)(s2:Shared):Prop :=
 ∃(it:Addr)(fp:List Addr)(tn:Nat->Heap->Prop)(J:It)(H':Hp),itv=.ref it/\Inv X pins σ H' s2/\zP7 X.prog X.w X.K tg J fp it tn/\tn 0 s2.heap/\(∀ b∈fp,zM7 X pins H' b)/\R J H'
def PI(X:Cx)(tg iter:Expr)(wi:TI):Prop :=
 ∀(pins:List (Addr×Obj))(s:Shared)(σ:St)(H:Hp)(R:It->Hp->Prop),Inv X pins σ H s->wi σ H R ->
  wpAny (model X.prog X.w) X.A (eval iter X.env) (λv s1=>wpAny (model X.prog X.w) X.A (pyIter v) (PIE X pins σ tg R) X.xe s1) X.xe s

theorem zKo{M:Model}{A:Around}{E:Value->Shared->Prop}{s:Shared}{tg:Expr}{it:Addr}{u:Value}{o:Obj}{n:String}{vs:Array Value}{Q:Unit->Shared->Prop}(ho:s.heap.get? it=some o)(hc:o.cls=.type n)(hd:o.data=.fields vs)
  (hn:["enumerate", "zip", "dict_itemiterator", "dict_reverseitemiterator", "odict_iterator", "itertools.zip_longest", "itertools.pairwise"].contains n=false) (hQ:Q () s):wpAny M A (letOwnedTupleGo tg (.ref it) u) Q E s:=by
 unfold letOwnedTupleGo;cases tg <;> first
  | exact wpAny_pure hQ
  | (cases u <;> first
    | exact wpAny_pure hQ
    | (refine wpAny_bind (wpAny_load ho ?_)
       rw[hc,hd];show wpAny M A (if (["enumerate", "zip", "dict_itemiterator", "dict_reverseitemiterator", "odict_iterator", "itertools.zip_longest", "itertools.pairwise"].contains n&&vs[0]? == some (rawInt _))=true then _ else _) Q E s;rw[if_neg (by intro h; rw[hn,Bool.false_and] at h; cases h)];exact wpAny_pure hQ))

def Itl(K:PySem.W.Frag)(a:Addr):It :=
 ⟨λi H=>∃ xs x,SqL K H a xs/\xs[i]?=some x,λi H x H'=>H'=H/\∀ xs,SqL K H a xs->xs[i]?=some x,λi H=>∃ xs,SqL K H a xs/\xs.length<=i⟩
def Itt(K:PySem.W.Frag)(a:Addr):It :=
 ⟨λi H=>∃ xs x,SqT K H a xs/\xs[i]?=some x,λi H x H'=>H'=H/\∀ xs,SqT K H a xs->xs[i]?=some x,λi H=>∃ xs,SqT K H a xs/\xs.length<=i⟩
def Itr(lo:Int)(n:Nat):It:=⟨λi _=>i<n,λi H x H'=>H'=H/\x=.int (lo+i),λi _=>n<=i⟩
theorem zI5{P:Program}{w:World}{K:PySem.W.Frag}{tg:Expr}(a it:Addr):zP7 P w K tg (Itl K a) [it] it (λi h=>h.IsListIter it a i) where
 mem:=by simp
 obj:=λi h st b hb=>by
  have e:b=it:=by simpa using hb
  subst e;obtain⟨o,e,c,d⟩:=st;exact⟨o,e,λv z=>by rw[d] at z; cases z⟩
 keep:=λi h h' st k=>st.at λo e=>k it (by simp) o e
 item:=by
  intro X hP hw hK hc i pins s σ H E I hf st hg;subst hP hw hK;obtain⟨xs,x,hq,hx⟩:=hg;obtain⟨its,rv,p,hz⟩:=I.list hq;obtain⟨u,hu,ru⟩:=rv.get hx;obtain⟨f0,f1,f2,f3,f4,f5⟩:=hf it (by simp);refine wpAny_pyNext_list_item st p.isList (x:=u) (by simpa using hu) λh' st' sb=>?_;have I1:Inv X pins σ H { s with heap:=h' }:=I.turned (t':=s.toks) (λb o hb e=>(sb.2 b hb).trans e) f0 f1 f3 f4 f5;obtain⟨o,e,c,d⟩:=id st';exact⟨u,rfl,zKo (s:={ s with heap:=h' }) e c d (by decide) ⟨x,H,I1,ru,⟨rfl,λys hy=>by rw[I.list_inj hy hq]; exact hx⟩,st',λb hb=>(hf b hb).1⟩⟩
 done:=by
  intro X hP hw hK hc i pins s σ H E I hf st hg;subst hP hw hK;obtain⟨xs,hq,hx⟩:=hg;obtain⟨its,rv,p,hz⟩:=I.list hq;obtain⟨f0,f1,f2,f3,f4,f5⟩:=hf it (by simp);have hl:=rv.length;exact wpAny_pyNext_list_end (I.ok.hd hc) st p.isList (by simp; lia) λh' eb=>⟨rfl,I.turned (t':=s.toks) (λb o hb e=>eb b o hb e) f0 f1 f3 f4 f5⟩
 self:=λ_ _ _ _ _ st h=>wpAny_pyIter_listiter st h
theorem zMi{P:Program}{w:World}{K:PySem.W.Frag}{tg:Expr}(a it:Addr):zP7 P w K tg (Itt K a) [it] it (λi h=>h.IsTupleIter it a i) where
 mem:=by simp
 obj:=λi h st b hb=>by
  have e:b=it:=by simpa using hb
  subst e;obtain⟨o,e,c,d⟩:=st;exact⟨o,e,λv z=>by rw[d] at z; cases z⟩
 keep:=λi h h' st k=>st.at λo e=>k it (by simp) o e
 item:=by
  intro X hP hw hK hc i pins s σ H E I hf st hg;subst hP hw hK;obtain⟨xs,x,hq,hx⟩:=hg;obtain⟨its,rv,p,hz⟩:=I.tuple hq;obtain⟨u,hu,ru⟩:=rv.get hx;obtain⟨f0,f1,f2,f3,f4,f5⟩:=hf it (by simp);refine wpAny_pyNext_tuple_item st (show s.heap.IsTuple a its.toArray from p) (x:=u) (by simpa using hu) λh' st' sb=>?_;have I1:Inv X pins σ H { s with heap:=h' }:=I.turned (t':=s.toks) (λb o hb e=>(sb.2 b hb).trans e) f0 f1 f3 f4 f5;obtain⟨o,e,c,d⟩:=id st';exact⟨u,rfl,zKo (s:={ s with heap:=h' }) e c d (by decide) ⟨x,H,I1,ru,⟨rfl,λys hy=>by rw[I.tuple_inj hy hq]; exact hx⟩,st',λb hb=>(hf b hb).1⟩⟩
 done:=by
  intro X hP hw hK hc i pins s σ H E I hf st hg;subst hP hw hK;obtain⟨xs,hq,hx⟩:=hg;obtain⟨its,rv,p,hz⟩:=I.tuple hq;obtain⟨f0,f1,f2,f3,f4,f5⟩:=hf it (by simp);have hl:=rv.length;exact wpAny_pyNext_tuple_end (I.ok.hd hc) st (show s.heap.IsTuple a its.toArray from p) (by simp; lia) λh' eb=>⟨rfl,I.turned (t':=s.toks) (λb o hb e=>eb b o hb e) f0 f1 f3 f4 f5⟩
 self:=λ_ _ _ _ _ st h=>wpAny_pyIter_tupleiter st h
theorem zL8{P:Program}{w:World}{K:PySem.W.Frag}{tg:Expr}(it:Addr)(lo:Int)(n:Nat):zP7 P w K tg (Itr lo n) [it] it (λi h=>IsRangeIter h it (lo+(i:Nat)*1) ((n:Int)-(i:Nat)) 1) where
 mem:=by simp
 obj:=λi h st b hb=>by
  have e:b=it:=by simpa using hb
  subst e;exact⟨_,st,λv z=>by
   have z':Data.fields _=Data.cell v:=z;cases z'⟩
 keep:=λi h h' st k=>k it (by simp) _ st
 item:=by
  intro X hP hw hK hc i pins s σ H E I hf st hg;subst hP hw hK;obtain⟨f0,f1,f2,f3,f4,f5⟩:=hf it (by simp);have W:=Walks.range (prog:=X.prog) (w:=X.w) (I.ok.hd hc) it lo 1 n;refine W.item i s _ _ hg st λv h' tk hv st' kk=>?_;obtain⟨t,rfl⟩:=hv;have I1:Inv X pins σ H { s with heap:=h',toks:=tk }:=I.turned (λb o hb e=>kk b o (by simpa using hb) e) f0 f1 f3 f4 f5;refine⟨_,rfl,zKo (s:={ s with heap:=h',toks:=tk }) (n := "range_iterator") st' rfl rfl (by decide) ⟨.int (lo+i),H,I1,⟨t,?_⟩,⟨rfl,rfl⟩,st',λb hb=>(hf b hb).1⟩⟩;rw[Int.mul_one]
 done:=by
  intro X hP hw hK hc i pins s σ H E I hf st hg;subst hP hw hK;obtain⟨f0,f1,f2,f3,f4,f5⟩:=hf it (by simp);exact wpAny_pyNext_range_end (I.ok.hd hc) st (by have:n<=i:=hg; lia) λh' eb=>⟨rfl,I.turned (t':=s.toks) (λb o hb e=>eb b o hb e) f0 f1 f3 f4 f5⟩
 self:=λ_ _ _ _ _ st h=>wpAny_pyIter_rangeiter st h
end L2

namespace L2
open PySem PySem.Spec PyProof.Rows
section
variable{X:Cx}{tg:Expr}
def iList(K:PySem.W.Frag)(tl:TE):TI:=λσ H R=>tl σ H λx H1=>∃ a,x=.ref a/\(∃ xs,SqL K H1 a xs)/\R (Itl K a) H1
theorem zUh{l:Expr}{tl:TE}(hl:PE X l tl):PI X tg l (iList X.K tl):=by
 intro pins s σ H R I h;refine thn (hl pins s σ H _ I h) λv s1 ⟨x,H1,I1,r1,q1⟩=>?_;obtain⟨a,e,⟨xs,hq⟩,q⟩:=q1;subst e;cases r1;obtain⟨its,rv,p,hz⟩:=I1.list hq;refine wpAny_pyIter_list p.isList ?_;refine⟨s1.heap.objs.size,[s1.heap.objs.size],_,_,H1,rfl,I1.kept (t':=s1.toks) λb o e=>Heap.get?_push_of_some _ e,zI5 a _,⟨_,Heap.get?_push_size _ rfl,rfl,rfl⟩,λb hb=>?_,q⟩;have e:b=s1.heap.objs.size:=by simpa using hb
 subst e;exact I1.fpOk (Nat.le_refl _) (I1.hok.fresh (Nat.le_refl _))
theorem zLq{pins:List (Addr×Obj)}{σ:St}{H:Hp}{s:Shared}{R:It->Hp->Prop}{E:Value->Shared->Prop}{lo hi:Int}{t u v:Tok}{tk:Nat}(I:Inv X pins σ H s)(h1 : -(2^62)<=lo)(h2:lo<2^62)(h3 : -(2^62)<=hi)(h4:hi<2^62)
  (q:R (Itr lo (hi-lo).toNat) H):wpAny (model X.prog X.w) X.A (pyIter (.ref s.heap.objs.size)) (PIE X pins σ tg R) E { s with heap:=s.heap.push { cls:=.type "range", data:=.fields #[.int lo t,.int hi u,.int 1 v] },toks:=tk }:=by
 refine wpAny_pyIter_range (IsRange.new ..) (small_one h1 h2 h3 h4) ?_;have I1:Inv X pins σ H { s with heap:=s.heap.push { cls:=.type "range", data:=.fields #[.int lo t,.int hi u,.int 1 v] },toks:=tk }:=I.kept λb o e=>Heap.get?_push_of_some _ e;refine⟨(s.heap.push { cls:=.type "range", data:=.fields #[.int lo t,.int hi u,.int 1 v] }).objs.size,[(s.heap.push { cls:=.type "range", data:=.fields #[.int lo t,.int hi u,.int 1 v] }).objs.size],_,_,H,rfl,
  I1.kept (t':=tk) λb o e=>Heap.get?_push_of_some _ e,zL8 _ lo (hi-lo).toNat,?_,λb hb=>?_,q⟩
 ·have e1:lo+((0:Nat):Int)*1=lo:=by simp
  have e2:(((hi-lo).toNat:Nat):Int)-((0:Nat):Int)=Builtin.Range.rangeSize lo hi 1:=by rw[rangeSize_one]; split <;> lia
  show IsRangeIter _ _ (lo+((0:Nat):Int)*1) ((((hi-lo).toNat:Nat):Int)-((0:Nat):Int)) 1;rw[e1,e2];exact Heap.get?_push_size _ rfl
 ·have e:b=(s.heap.push { cls:=.type "range", data:=.fields #[.int lo t,.int hi u,.int 1 v] }).objs.size:=by simpa using hb
  subst e;exact I1.fpOk (Nat.le_refl _) (I1.hok.fresh (Nat.le_refl _))
def iRng1(ta:TA):TI:=λσ H R=>ta σ H λvs H1=>∃ j:Int,vs=[.int j]/\-(2^62)<=j/\j<2^62/\R (Itr 0 j.toNat) H1
def iRng2(ta:TA):TI:=λσ H R=>ta σ H λvs H1=>∃ i j:Int,vs=[.int i,.int j]/\(-(2^62)<=i/\i<2^62/\-(2^62)<=j/\j<2^62)/\R (Itr i (j-i).toNat) H1
theorem wD{a:Expr}{ta:TA}{p pos:Pos}(hg:Gl X "range")(hm:X.mg "range" = none)(ha:PA X [a] ta)(hs:starEach [a] X.env=[(false,eval a X.env)]:=by rfl):PI X tg (.Call (.Name "range" p) [a] [] pos) (iRng1 ta):=by
 intro pins s σ H R I h;refine Call_ (zCe I hg hm boot_range (PyProof.Rows.callWith_type1 (thn (ha pos pins s σ H _ I h) λus s1 ⟨vs,H1,I1,r1,q1⟩=>?_) hs rfl));obtain⟨j,e,q1,q2,q⟩:=q1;subst e;cases r1 with
 | cons r rr =>
  cases rr;obtain⟨t,rfl⟩:=r;exact call_range_1 (zLq I1 (by lia) (by lia) q1 q2 (by simpa using q))
theorem zOv{a b:Expr}{ta:TA}{p pos:Pos}(hg:Gl X "range")(hm:X.mg "range" = none)(ha:PA X [a,b] ta)(hs:starEach [a,b] X.env=[(false,eval a X.env),(false,eval b X.env)]:=by rfl)(hs2:starEach [b] X.env=[(false,eval b X.env)]:=by rfl) :
  PI X tg (.Call (.Name "range" p) [a,b] [] pos) (iRng2 ta):=by
 intro pins s σ H R I h;refine Call_ (zCe I hg hm boot_range (PyProof.Rows.callWith_type1 (thn (ha pos pins s σ H _ I h) λus s1 ⟨vs,H1,I1,r1,q1⟩=>?_) (by rw[hs,hs2]) (by rw[hs2]; rfl)));obtain⟨i,j,e,⟨q1,q2,q3,q4⟩,q⟩:=q1;subst e;cases r1 with
 | cons r rr =>
  cases rr with
  | cons r' rr =>
   cases rr;obtain⟨t,rfl⟩:=r;obtain⟨t',rfl⟩:=r';exact call_range_2 (zLq I1 q1 q2 q3 q4 q)

def tFor(wi:TI)(g:TG)(tb:TS):TS:=λD σ H=>wi σ H λJ H1=>∃ W:Nat->Nat->St->Hp->Prop,(∃ m,W 0 m σ H1)/\∀ i m σ H,W i m σ H ->
 (J.stop i H/\D.nx σ H)\/(J.go i H/\∃ N:St->Hp->Prop,(∀ σ' H',N σ' H'->∃ m',m'<m/\W (i+1) m' σ' H')/\∀ x H',J.yld i H x H'->g x σ H' λσ2 H2=>tb { D with nx:=N,ct:=N,bk:=D.nx } σ2 H2)
def zE9(fp:List Addr)(h:Heap):List (Addr×Obj):=fp.filterMap λb=>(h.get? b).map λo=>(b,o)
theorem wL{fp:List Addr}{h:Heap}{b:Addr}{o:Obj}(hb:b∈fp)(e:h.get? b=some o):(b,o)∈zE9 fp h:=List.mem_filterMap.mpr ⟨b,hb,by rw[e]; rfl⟩
theorem zPz{fp:List Addr}{h:Heap}{p:Addr×Obj}(hp:p∈zE9 fp h):p.1∈fp/\h.get? p.1=some p.2:=by
 obtain⟨b,hb,e⟩:=List.mem_filterMap.mp hp;cases q:h.get? b with
 | none=>rw[q] at e; cases e
 | some o =>
  rw[q] at e;have e':(b,o)=p:=Option.some.inj e;subst e';exact⟨hb,q⟩
theorem Inv.pinned{pins:List (Addr×Obj)}{σ:St}{H:Hp}{s:Shared}{fp:List Addr}(I:Inv X pins σ H s)(hf:∀ b∈fp,zM7 X pins H b)(ho:∀ b∈fp,∃ o,s.heap.get? b=some o/\∀ v,o.data≠.cell v):Inv X (pins++zE9 fp s.heap) σ H s :=
 I.pins_of λp hp=>(List.mem_append.mp hp).elim (λz=>I.pin p (List.mem_append_right _ z)) λz=>by
  obtain⟨hb,e⟩:=zPz z;obtain⟨f0,f1,f2,_⟩:=hf p.1 hb;obtain⟨o,e',d⟩:=ho p.1 hb;rw[e] at e'; cases e';exact⟨e,f0,f1,f2,d⟩
theorem Inv.unpinned{pins pl:List (Addr×Obj)}{σ:St}{H:Hp}{s:Shared}(I:Inv X (pins++pl) σ H s):Inv X pins σ H s:=I.pins_of λp hp=>I.pin p (List.mem_append_right _ (List.mem_append_left _ hp))
theorem uH{iter:Expr}{body:List Stmt}{wi:TI}{g:TG}{tb:TS}{pos:Pos}(hp:PassesOwn (model X.prog X.w) X.A X.env X.xe)(hc:X.calm=true)(hi:PI X tg iter wi)(hg:PG X tg g)(hb:PSs X body tb)
  (hs:∀ x,foldedSetIterable iter X.env x=pure x:=by intro _; rfl):PS X (.For tg iter body [] pos) (tFor wi g tb):=by
 intro pins s σ H D I h;refine wpAny_For (thn (hi pins s σ H _ I h) λv s1 h1=>thn h1 λitv s2 h2=>?_) hs;obtain⟨it,fp,tn,J,H2,e,I2,T,st2,f2,W,⟨m0,w0⟩,turn⟩:=h2;subst e;have stat:∀{H':Hp},(∀ b∈fp,H' b=none)->∀ b∈fp,zM7 X pins H' b:=λhn b hb=>⟨hn b hb,(f2 b hb).2⟩;refine codeAny_forLoop_any (λn s'=>∃ i σ' H',Inv X pins σ' H' s'/\tn i s'.heap/\(∀ b∈fp,H' b=none)/\W i n σ' H') ?_ m0 ⟨0,σ,H2,I2,st2,λb hb=>(f2 b hb).1,w0⟩;rintro n s3 ⟨i,σ3,H3,I3,st3,fr3,w3⟩;rcases turn i n σ3 H3 w3 with ⟨stop,qn⟩ | ⟨go,N,hN,step⟩
 ·refine wpAny_passesOwn hp (thn (T.done X rfl rfl rfl hc i pins s3 σ3 H3 X.xe I3 (stat fr3) st3 stop) λr s4 ⟨hr,I4⟩=>?_);subst hr;exact wpAny_execs_nil ⟨σ3,H3,I4,qn⟩
 ·refine wpAny_passesOwn hp (thn (T.item X rfl rfl rfl hc i pins s3 σ3 H3 X.xe I3 (stat fr3) st3 go) λr s4 ⟨u,hr,h4⟩=>?_);subst hr;refine wpAny_passesOwn hp (thn h4 λ_ s5 ⟨x,H5,I5,r5,y5,st5,fr5⟩=>?_);have I5':=I5.pinned (stat fr5) (T.obj _ _ st5);refine wpAny_passesOwn hp (thn (hg _ s5 σ3 H5 x u _ I5' r5 (step x H5 y5)) λ_ s6 ⟨σ6,H6,I6,q6⟩=>?_);refine wpAny_passesOwn hp (thn (hb _ s6 σ6 H6 _ I6 q6) λf s7 q7=>?_);have again:∀{σ7:St}{H7:Hp},Inv X (pins++zE9 fp s5.heap) σ7 H7 s7->N σ7 H7->∃ m,m<n/\∃ i σ' H',Inv X pins σ' H' s7/\tn i s7.heap/\(∀ b∈fp,H' b=none)/\W i m σ' H':=λ{σ7 H7} I7 n7=>by
   obtain⟨m',hm,w7⟩:=hN σ7 H7 n7;refine⟨m',hm,i+1,σ7,H7,I7.unpinned,T.keep _ _ _ st5 λb hb o e=>(I7.pin (b,o) (List.mem_append_right _ (List.mem_append_right _ (wL hb e)))).1,λb hb=>?_,w7⟩;obtain⟨o,e,d⟩:=T.obj _ _ st5 b hb;exact(I7.pin (b,o) (List.mem_append_right _ (List.mem_append_right _ (wL hb e)))).2.1
  cases f with
  | next=>obtain⟨σ7,H7,I7,n7⟩:=q7; exact again I7 n7
  | cont=>obtain⟨σ7,H7,I7,n7⟩:=q7; exact again I7 n7
  | brk=>obtain⟨σ7,H7,I7,q7⟩:=q7; exact⟨σ7,H7,I7.unpinned,q7⟩
  | ret v=>obtain⟨x7,σ7,H7,I7,r7,q7⟩:=q7; exact⟨x7,σ7,H7,I7.unpinned,r7,q7⟩
end

theorem zGk{K:PySem.W.Frag}{a:Addr}{xs:List V}{g:TG}{tb:TS}{D:zMe}{σ:St}{H:Hp}(Pv:Nat->St->Hp->Prop)(h0:Pv 0 σ H)(hl:∀ i σ H,i<=xs.length->Pv i σ H->SqL K H a xs)
  (hs:∀ i x σ H,xs[i]?=some x->Pv i σ H->g x σ H λσ2 H2=>tb { D with nx:=Pv (i+1),ct:=Pv (i+1),bk:=D.nx } σ2 H2) (hd:∀ σ H,Pv xs.length σ H->D.nx σ H) :
  ∃ W:Nat->Nat->St->Hp->Prop,(∃ m,W 0 m σ H)/\∀ i m σ H,W i m σ H ->
   ((Itl K a).stop i H/\D.nx σ H)\/((Itl K a).go i H/\∃ N:St->Hp->Prop,(∀ σ' H',N σ' H'->∃ m',m'<m/\W (i+1) m' σ' H')/\∀ x H',(Itl K a).yld i H x H'->g x σ H' λσ2 H2=>tb { D with nx:=N,ct:=N,bk:=D.nx } σ2 H2):=by
 exists λi m σ H=>m=xs.length-i/\i<=xs.length/\Pv i σ H,⟨xs.length,by simp,Nat.zero_le _,h0⟩;rintro i m σ H ⟨rfl,hi,p⟩;have q:=hl i σ H hi p;by_cases hlt:i<xs.length
 ·refine .inr ⟨⟨xs,xs[i],q,by simp[hlt]⟩,Pv (i+1),λσ' H' p'=>⟨xs.length-(i+1),by lia,rfl,hlt,p'⟩,λx H' y=>?_⟩;obtain⟨e,y⟩:=y;subst e;exact hs i x σ _ (y xs q) p
 ·have e:i=xs.length:=by lia
  subst e;exact .inl ⟨⟨xs,q,Nat.le_refl _⟩,hd σ H p⟩
theorem zHa{K:PySem.W.Frag}{a:Addr}{xs:List V}{g:TG}{tb:TS}{D:zMe}{σ:St}{H:Hp}(Pv:Nat->St->Hp->Prop)(h0:Pv 0 σ H)(hl:∀ i σ H,i<=xs.length->Pv i σ H->SqT K H a xs)
  (hs:∀ i x σ H,xs[i]?=some x->Pv i σ H->g x σ H λσ2 H2=>tb { D with nx:=Pv (i+1),ct:=Pv (i+1),bk:=D.nx } σ2 H2) (hd:∀ σ H,Pv xs.length σ H->D.nx σ H) :
  ∃ W:Nat->Nat->St->Hp->Prop,(∃ m,W 0 m σ H)/\∀ i m σ H,W i m σ H ->
   ((Itt K a).stop i H/\D.nx σ H)\/((Itt K a).go i H/\∃ N:St->Hp->Prop,(∀ σ' H',N σ' H'->∃ m',m'<m/\W (i+1) m' σ' H')/\∀ x H',(Itt K a).yld i H x H'->g x σ H' λσ2 H2=>tb { D with nx:=N,ct:=N,bk:=D.nx } σ2 H2):=by
 exists λi m σ H=>m=xs.length-i/\i<=xs.length/\Pv i σ H,⟨xs.length,by simp,Nat.zero_le _,h0⟩;rintro i m σ H ⟨rfl,hi,p⟩;have q:=hl i σ H hi p;by_cases hlt:i<xs.length
 ·refine .inr ⟨⟨xs,xs[i],q,by simp[hlt]⟩,Pv (i+1),λσ' H' p'=>⟨xs.length-(i+1),by lia,rfl,hlt,p'⟩,λx H' y=>?_⟩;obtain⟨e,y⟩:=y;subst e;exact hs i x σ _ (y xs q) p
 ·have e:i=xs.length:=by lia
  subst e;exact .inl ⟨⟨xs,q,Nat.le_refl _⟩,hd σ H p⟩
theorem vH{lo:Int}{n:Nat}{g:TG}{tb:TS}{D:zMe}{σ:St}{H:Hp}(Pv:Nat->St->Hp->Prop)(h0:Pv 0 σ H)
  (hs:∀ i σ H,i<n->Pv i σ H->g (.int (lo+i)) σ H λσ2 H2=>tb { D with nx:=Pv (i+1),ct:=Pv (i+1),bk:=D.nx } σ2 H2) (hd:∀ σ H,Pv n σ H->D.nx σ H) :
  ∃ W:Nat->Nat->St->Hp->Prop,(∃ m,W 0 m σ H)/\∀ i m σ H,W i m σ H ->
   ((Itr lo n).stop i H/\D.nx σ H)\/((Itr lo n).go i H/\∃ N:St->Hp->Prop,(∀ σ' H',N σ' H'->∃ m',m'<m/\W (i+1) m' σ' H')/\∀ x H',(Itr lo n).yld i H x H'->g x σ H' λσ2 H2=>tb { D with nx:=N,ct:=N,bk:=D.nx } σ2 H2):=by
 exists λi m σ H=>m=n-i/\i<=n/\Pv i σ H,⟨n,by simp,Nat.zero_le _,h0⟩;rintro i m σ H ⟨rfl,hi,p⟩;by_cases hlt:i<n
 ·refine .inr ⟨hlt,Pv (i+1),λσ' H' p'=>⟨n-(i+1),by lia,rfl,hlt,p'⟩,λx H' y=>?_⟩;obtain⟨e,y⟩:=y;subst e y;exact hs i σ _ hlt p
 ·have e:i=n:=by lia
  subst e;exact .inl ⟨Nat.le_refl _,hd σ H p⟩
theorem zLh{c:TT}{tb:TS}{D:zMe}{σ:St}{H:Hp}(Pv:St->Hp->Prop)(μ:St->Hp->Nat)(h0:Pv σ H)
  (hs:∀ σ H,Pv σ H->c σ H λb H1=>if b=true then tb { D with nx:=λσ' H'=>Pv σ' H'/\μ σ' H'<μ σ H,ct:=λσ' H'=>Pv σ' H'/\μ σ' H'<μ σ H,bk:=D.nx } σ H1 else D.nx σ H1)
  (mono:∀ σ H Q Q',(∀ b H1,Q b H1->Q' b H1)->c σ H Q->c σ H Q'):zS2 c tb D σ H:=by
 exists λm σ H=>m=μ σ H/\Pv σ H,⟨_,rfl,h0⟩;rintro m σ H ⟨rfl,p⟩;refine mono σ H _ _ (λb H1 q=>?_) (hs σ H p);cases b with
 | true=>exact⟨_,λσ' H' ⟨p',l⟩=>⟨_,l,rfl,p'⟩,q⟩
 | false=>exact q
end L2

namespace L2
open PySem PySem.Spec PyProof.Rows

abbrev R2:=V->V->Hp->VK->Prop
def OpR(X:Cx)(f:Value->Value->Sem Value)(r:R2):Prop :=
 ∀(pins:List (Addr×Obj))(s:Shared)(σ:St)(H:Hp)(x y:V)(v u:Value)(Q:VK),Inv X pins σ H s->xI x v->xI y u->r x y H Q ->
  wpAny (model X.prog X.w) X.A (f v u) (EP X pins σ Q) X.xe s
def UnR(X:Cx)(f:Value->Sem Value)(r:V->Hp->VK->Prop):Prop :=
 ∀(pins:List (Addr×Obj))(s:Shared)(σ:St)(H:Hp)(x:V)(v:Value)(Q:VK),Inv X pins σ H s->xI x v->r x H Q ->
  wpAny (model X.prog X.w) X.A (f v) (EP X pins σ Q) X.xe s
def wO(X:Cx)(f:Value)(r:List V->Hp->VK->Prop):Prop :=
 ∀(pins:List (Addr×Obj))(s:Shared)(σ:St)(H:Hp)(xs:List V)(us:List Value)(Q:VK),Inv X pins σ H s->yS xs us->r xs H Q ->
  wpAny (model X.prog X.w) X.A (call f us) (EP X pins σ Q) X.xe s
def tOp(r:R2)(ta tb:TE):TE:=λσ H Q=>ta σ H λx H1=>tb σ H1 λy H2=>r x y H2 Q
def tUn(r:V->Hp->VK->Prop)(ta:TE):TE:=λσ H Q=>ta σ H λx H1=>r x H1 Q
inductive RI(C:Int->Int->Prop)(g:Int->Int->V)(x y:V)(H:Hp)(Q:VK):Prop where
 | mk (i j:Int) (ex:x=.int i) (ey:y=.int j) (c:C i j) (q:Q (g i j) H)
def rI(C:Int->Int->Prop)(g:Int->Int->V):R2:=λx y H Q=>RI C g x y H Q
inductive RI0(g:Int->Int->V)(x y:V)(H:Hp)(Q:VK):Prop where
 | mk (i j:Int) (ex:x=.int i) (ey:y=.int j) (q:Q (g i j) H)
def rI0(g:Int->Int->V):R2:=λx y H Q=>RI0 g x y H Q
inductive RU(g:Int->V)(x:V)(H:Hp)(Q:VK):Prop where
 | mk (i:Int) (ex:x=.int i) (q:Q (g i) H)
def rU(g:Int->V):V->Hp->VK->Prop:=λx H Q=>RU g x H Q

section
variable{X:Cx}{a b c:Expr}{ta tb tc:TE}{pos:Pos}

theorem zXy(ha:PE X a ta)(hb:PE X b tb){pins:List (Addr×Obj)}{s:Shared}{σ:St}{H:Hp}{R:V->V->Hp->Prop}(I:Inv X pins σ H s)
  (h:ta σ H λx H1=>tb σ H1 λy H2=>R x y H2) {Q:Value->Shared->Prop} {f:Value->Value->Sem Value}
  (hf:∀ v u s2 x y H2,Inv X pins σ H2 s2->xI x v->xI y u->R x y H2->wpAny (model X.prog X.w) X.A (f v u) Q X.xe s2) :
  wpAny (model X.prog X.w) X.A (eval a X.env) (λv s₁=>wpAny (model X.prog X.w) X.A (eval b X.env) (λu s₂=>wpAny (model X.prog X.w) X.A (f v u) Q X.xe s₂) X.xe s₁) X.xe s:=by
 refine thn (ha pins s σ H _ I h) λv s1 ⟨x,H1,I1,r1,q1⟩=>?_;refine thn (hb pins s1 σ H1 _ I1 q1) λu s2 ⟨y,H2,I2,r2,q2⟩=>?_;exact hf v u s2 x y H2 I2 r1 r2 q2

theorem uG{op:Operator}{r:R2}(ho:OpR X (binaryOp op) r)(ha:PE X a ta)(hb:PE X b tb):PE X (.BinOp a op b pos) (tOp r ta tb):=by
 intro pins s σ H Q I h;exact wpAny_BinOp (zXy ha hb I h λv u s2 x y H2 I2 rx ry q=>ho pins s2 σ H2 x y v u Q I2 rx ry q)
theorem pe_un{op:UnaryOp}{r:V->Hp->VK->Prop}(ho:UnR X (unaryOp op) r)(ha:PE X a ta):PE X (.UnaryOp op a pos) (tUn r ta):=by
 intro pins s σ H Q I h;exact UnaryOp_ (thn (ha pins s σ H _ I h) λv s1 ⟨x,H1,I1,r1,q1⟩=>ho pins s1 σ H1 x v Q I1 r1 q1)
theorem opI{f:Value->Value->Sem Value}{C:Int->Int->Prop}{g:Int->Int->Int}
  (rule:∀(i j:Int)(t u:Tok)(s:Shared)(Q:Value->Shared->Prop)(E:Value->Shared->Prop),C i j->Q (.int (g i j) s.toks) { s with toks:=s.toks+1 }->wpAny (model X.prog X.w) X.A (f (.int i t) (.int j u)) Q E s) :
  OpR X f (rI C λi j=>.int (g i j)):=by
 intro pins s σ H x y v u Q I rx ry h;obtain⟨i,j,rfl,rfl,hc,q⟩:=h;obtain⟨t,rfl⟩:=rx;obtain⟨t',rfl⟩:=ry;exact rule i j t t' s _ _ hc ⟨.int (g i j),H,I.tok _,⟨_,rfl⟩,q⟩
theorem opI0{f:Value->Value->Sem Value}{g:Int->Int->Int}
  (rule:∀(i j:Int)(t u:Tok)(s:Shared)(Q:Value->Shared->Prop)(E:Value->Shared->Prop),Q (.int (g i j) s.toks) { s with toks:=s.toks+1 }->wpAny (model X.prog X.w) X.A (f (.int i t) (.int j u)) Q E s) :
  OpR X f (rI0 λi j=>.int (g i j)):=by
 intro pins s σ H x y v u Q I rx ry h;obtain⟨i,j,rfl,rfl,q⟩:=h;obtain⟨t,rfl⟩:=rx;obtain⟨t',rfl⟩:=ry;exact rule i j t t' s _ _ ⟨.int (g i j),H,I.tok _,⟨_,rfl⟩,q⟩
theorem zXu{f:Value->Value->Sem Value}{g:Int->Int->Bool}
  (rule:∀(i j:Int)(t u:Tok)(s:Shared)(Q:Value->Shared->Prop)(E:Value->Shared->Prop),Q (.bool (g i j)) s->wpAny (model X.prog X.w) X.A (f (.int i t) (.int j u)) Q E s) :
  OpR X f (rI0 λi j=>.bl (g i j)):=by
 intro pins s σ H x y v u Q I rx ry h;obtain⟨i,j,rfl,rfl,q⟩:=h;obtain⟨t,rfl⟩:=rx;obtain⟨t',rfl⟩:=ry;exact rule i j t t' s _ _ ⟨.bl (g i j),H,I,rfl,q⟩

def CPow(i j:Int):Prop:=0<=j/\j<=1000000/\i.natAbs<2^64
def zVc(i j:Int):Prop:=(-(2^64)<i/\i<2^64)\/(-(2^64)<j/\j<2^64)
theorem zVc.ok{i j:Int}(h:zVc i j):IntMulOk i j:=by
 rcases h with ⟨h1,h2⟩ | ⟨h1,h2⟩
 ·exact .of_left (intBits_le_64 h1 h2)
 ·exact .of_right (intBits_le_64 h1 h2)
theorem zI1:OpR X (binaryOp .Add) (rI0 λi j=>.int (i+j)):=opI0 λ_ _ _ _ _ _ _ q=>add_int q
theorem zWm:OpR X (binaryOp .Sub) (rI0 λi j=>.int (i-j)):=opI0 λ_ _ _ _ _ _ _ q=>sub_int q
theorem zOe:OpR X (binaryOp .Mult) (rI zVc λi j=>.int (i*j)):=opI λ_ _ _ _ _ _ _ hc q=>mul_int q hc.ok
theorem zHt:OpR X (binaryOp .Mod) (rI (λ_ j=>0<j) λi j=>.int (i%j)):=opI λi j _ _ _ _ _ hc q=>by
 have h1:(0:Int)<j:=hc;exact mod_int' (by lia) (by rw[Int.fmod_eq_emod_of_nonneg i (by lia)]; exact q)
theorem zWq:OpR X (binaryOp .Pow) (rI CPow λi j=>.int (i^j.toNat)):=opI λ_ _ _ _ _ _ _ hc q=>pow_int_small hc.1 hc.2.1 hc.2.2 q
theorem unI{f:Value->Sem Value}{g:Int->Int}
  (rule:∀(i:Int)(t:Tok)(s:Shared)(Q:Value->Shared->Prop)(E:Value->Shared->Prop),Q (.int (g i) s.toks) { s with toks:=s.toks+1 }->wpAny (model X.prog X.w) X.A (f (.int i t)) Q E s) :
  UnR X f (rU λi=>.int (g i)):=by
 intro pins s σ H x v Q I rx h;obtain⟨i,rfl,q⟩:=h;obtain⟨t,rfl⟩:=rx;exact rule i t s _ _ ⟨.int (g i),H,I.tok _,⟨_,rfl⟩,q⟩
theorem zW4:UnR X (unaryOp .USub) (rU λi=>.int (-i)):=unI λ_ _ _ _ _ q=>neg_int q
end

def zWw:V->V->Bool
 | .non,.non=>true | .non,.int _=>true | .int _,.non=>true | .non,.bl _=>true | .bl _,.non=>true | .non,.str _=>true | .str _,.non=>true
 | .int _,.int _=>true | .bl _,.bl _=>true | .str _,.str _=>true | .byt _,.byt _=>true
 | .int _,.str _=>true | .str _,.int _=>true | .bl _,.str _=>true | .str _,.bl _=>true
 | _,_=>false
def rEq:R2:=λx y H Q=>zWw x y=true/\Q (.bl (decide (x=y))) H
def rNe:R2:=λx y H Q=>zWw x y=true/\Q (.bl (!decide (x=y))) H

theorem zOa{i j:Int} : decide (V.int i=V.int j)=(i == j):=by
 rw[Bool.eq_iff_iff];simp
theorem zSc{i j:Bool} : decide (V.bl i=V.bl j)=(i == j):=by
 rw[Bool.eq_iff_iff];simp
theorem zN4{i j:Str} : decide (V.str i=V.str j)=(i == j):=by
 rw[Bool.eq_iff_iff];simp
theorem zPx{i j:Array UInt8} : decide (V.byt i=V.byt j)=(i.toList == j.toList):=by
 rw[Bool.eq_iff_iff];cases i;cases j;simp

section
variable{X:Cx}{a b c:Expr}{ta tb tc:TE}{pos:Pos}
theorem yY{pins:List (Addr×Obj)}{σ:St}{H:Hp}{s:Shared}{Q:VK}{k k':Bool}(I:Inv X pins σ H s)(q:Q (.bl k) H)(e:k=k'):EP X pins σ Q (.bool k') s:=by
 subst e;exact⟨.bl k,H,I,rfl,q⟩
theorem zU2:OpR X (compareOp .Eq) rEq:=by
 intro pins s σ H x y v u Q I rx ry h;obtain⟨hs,q⟩:=h;cases x with
 | non =>
  cases rx;cases y with
  | non=>cases ry; exact PySem.EqNone.eq_none_none (yY I q (by simp))
  | bl j=>cases ry; exact PySem.EqNone.eq_none_bool (yY I q (by simp))
  | int j=>obtain⟨t',rfl⟩:=ry; exact PySem.EqNone.eq_none_int (yY I q (by simp))
  | str j=>obtain⟨t',rfl⟩:=ry; exact PySem.EqNone.eq_none_str (yY I q (by simp))
  | _=>exact absurd (show false=true from hs) Bool.false_ne_true
 | bl i =>
  cases rx;cases y with
  | non=>cases ry; exact PySem.EqNone.eq_bool_none (yY I q (by simp))
  | bl j=>cases ry; exact eq_bool (yY I q zSc)
  | str j=>obtain⟨t',rfl⟩:=ry; exact PySem.EqMixed.eq_bool_str (yY I q (by simp))
  | _=>exact absurd (show false=true from hs) Bool.false_ne_true
 | int i =>
  obtain⟨t,rfl⟩:=rx;cases y with
  | non=>cases ry; exact PySem.EqNone.eq_int_none (yY I q (by simp))
  | int j=>obtain⟨t',rfl⟩:=ry; exact eq_int (yY I q zOa)
  | str j=>obtain⟨t',rfl⟩:=ry; exact PySem.EqMixed.eq_int_str (yY I q (by simp))
  | _=>exact absurd (show false=true from hs) Bool.false_ne_true
 | str i =>
  obtain⟨t,rfl⟩:=rx;cases y with
  | non=>cases ry; exact PySem.EqNone.eq_str_none (yY I q (by simp))
  | bl j=>cases ry; exact PySem.EqMixed.eq_str_bool (yY I q (by simp))
  | int j=>obtain⟨t',rfl⟩:=ry; exact PySem.EqMixed.eq_str_int (yY I q (by simp))
  | str j=>obtain⟨t',rfl⟩:=ry; exact eq_str (yY I q zN4)
  | _=>exact absurd (show false=true from hs) Bool.false_ne_true
 | byt i =>
  obtain⟨t,rfl⟩:=rx;cases y with
  | byt j=>obtain⟨t',rfl⟩:=ry; exact PySem.W.eq_bytes (yY I q zPx)
  | _=>exact absurd (show false=true from hs) Bool.false_ne_true
 | _=>cases y <;> exact absurd (show false=true from hs) Bool.false_ne_true
theorem zW0:OpR X (compareOp .NotEq) rNe:=by
 intro pins s σ H x y v u Q I rx ry h;obtain⟨hs,q⟩:=h;cases x with
 | non =>
  cases rx;cases y with
  | non=>cases ry; exact PySem.EqNone.ne_none_none (yY I q (by simp))
  | bl j=>cases ry; exact PySem.EqNone.ne_none_bool (yY I q (by simp))
  | int j=>obtain⟨t',rfl⟩:=ry; exact PySem.EqNone.ne_none_int (yY I q (by simp))
  | str j=>obtain⟨t',rfl⟩:=ry; exact PySem.EqNone.ne_none_str (yY I q (by simp))
  | _=>exact absurd (show false=true from hs) Bool.false_ne_true
 | bl i =>
  cases rx;cases y with
  | non=>cases ry; exact PySem.EqNone.ne_bool_none (yY I q (by simp))
  | bl j=>cases ry; exact ne_bool (yY I q (congrArg not zSc))
  | str j=>obtain⟨t',rfl⟩:=ry; exact PySem.EqMixed.ne_bool_str (yY I q (by simp))
  | _=>exact absurd (show false=true from hs) Bool.false_ne_true
 | int i =>
  obtain⟨t,rfl⟩:=rx;cases y with
  | non=>cases ry; exact PySem.EqNone.ne_int_none (yY I q (by simp))
  | int j=>obtain⟨t',rfl⟩:=ry; exact ne_int (yY I q (congrArg not zOa))
  | str j=>obtain⟨t',rfl⟩:=ry; exact PySem.EqMixed.ne_int_str (yY I q (by simp))
  | _=>exact absurd (show false=true from hs) Bool.false_ne_true
 | str i =>
  obtain⟨t,rfl⟩:=rx;cases y with
  | non=>cases ry; exact PySem.EqNone.ne_str_none (yY I q (by simp))
  | bl j=>cases ry; exact PySem.EqMixed.ne_str_bool (yY I q (by simp))
  | int j=>obtain⟨t',rfl⟩:=ry; exact PySem.EqMixed.ne_str_int (yY I q (by simp))
  | str j=>obtain⟨t',rfl⟩:=ry; exact ne_str (yY I q (congrArg not zN4))
  | _=>exact absurd (show false=true from hs) Bool.false_ne_true
 | byt i =>
  obtain⟨t,rfl⟩:=rx;cases y with
  | byt j=>obtain⟨t',rfl⟩:=ry; exact PySem.W.ne_bytes (yY I q (congrArg not zPx))
  | _=>exact absurd (show false=true from hs) Bool.false_ne_true
 | _=>cases y <;> exact absurd (show false=true from hs) Bool.false_ne_true

theorem zMr:OpR X (compareOp .Lt) (rI0 λi j=>.bl (decide (i<j))):=zXu λ_ _ _ _ _ _ _ q=>lt_int q
theorem zR6:OpR X (compareOp .LtE) (rI0 λi j=>.bl (decide (i<=j))):=zXu λ_ _ _ _ _ _ _ q=>le_int q
theorem zRw:OpR X (compareOp .Gt) (rI0 λi j=>.bl (decide (j<i))):=zXu λ_ _ _ _ _ _ _ q=>gt_int q
theorem zUj:OpR X (compareOp .GtE) (rI0 λi j=>.bl (decide (j<=i))):=zXu λ_ _ _ _ _ _ _ q=>ge_int q
theorem yT(b:Expr){op:CmpOp}(h:op≠.In:=by decide)(h2:op≠.NotIn:=by decide):behindInMarks op b=false:=by
 have e1:(op == CmpOp.In)=false:=by cases op <;> first | rfl | exact absurd rfl h
 have e2:(op == CmpOp.NotIn)=false:=by cases op <;> first | rfl | exact absurd rfl h2
 cases b <;> simp[behindInMarks,e1,e2]
theorem rJ{op:CmpOp}{r:R2}(ho:OpR X (compareOp op) r)(ha:PE X a ta)(hb:PE X b tb)(hm:behindInMarks op b=false):PE X (.Compare a [op] [b] pos) (tOp r ta tb):=by
 intro pins s σ H Q I h;exact wpAny_Compare1 (zXy ha hb I h λv u s2 x y H2 I2 rx ry q=>ho pins s2 σ H2 x y v u Q I2 rx ry q) hm
def zWp(t:TE):TT:=λσ H Q=>t σ H λx H'=>∃ k,x=.bl k/\Q k H'
theorem yO{op:CmpOp}{r:R2}(ho:OpR X (compareOp op) r)(ha:PE X a ta)(hb:PE X b tb)(hm:behindInMarks op b=false):PT X (.Compare a [op] [b] pos) (zWp (tOp r ta tb)):=by
 intro pins s σ H Q I h;refine wpAny_isTrue_Compare1 (thn (ha pins s σ H _ I h) λv s1 ⟨x,H1,I1,r1,q1⟩=>thn (hb pins s1 σ H1 _ I1 q1) λu s2 ⟨y,H2,I2,r2,q2⟩ =>
  thn (ho pins s2 σ H2 x y v u _ I2 r1 r2 q2) λc s3 ⟨z,H3,I3,r3,k,e,q3⟩=>?_) hm
 subst e;cases r3;exact wpAny_truthy_bool ⟨H3,I3,q3⟩
def zV9(r r':R2)(ta tb tc:TE):TE:=λσ H Q=>ta σ H λx H1=>tb σ H1 λy H2=>r x y H2 λz H3=>∃ k,z=.bl k /\
 (if k=true then tc σ H3 λw' H4=>r' y w' H4 Q else Q (.bl false) H3)
theorem zLf{op op':CmpOp}{r r':R2}(ho:OpR X (compareOp op) r)(ho':OpR X (compareOp op') r')(ha:PE X a ta)(hb:PE X b tb)(hc:PE X c tc)
  (hm:lastMarks [op,op'] [b,c]=false:=by with_unfolding_all rfl):PE X (.Compare a [op,op'] [b,c] pos) (zV9 r r' ta tb tc):=by
 intro pins s σ H Q I h;refine Compare_chain (thn (ha pins s σ H _ I h) λv s1 ⟨x,H1,I1,r1,q1⟩=>chain_link (thn (hb pins s1 σ H1 _ I1 q1) λu s2 ⟨y,H2,I2,r2,q2⟩ =>
  thn (ho pins s2 σ H2 x y v u _ I2 r1 r2 q2) λd s3 ⟨z,H3,I3,r3,k,e,q3⟩=>?_)) hm
 subst e;cases r3;refine wpAny_truthy_bool ?_;cases k with
 | false=>exact ite_ff ⟨.bl false,H3,I3,rfl,q3⟩
 | true=>exact ite_tt (chain_last (thn (hc pins s3 σ H3 _ I3 q3) λw' s4 ⟨z',H4,I4,r4,q4⟩=>ho' pins s4 σ H4 y z' u w' Q I4 r2 r4 q4))
theorem zFv:(sizeLine:Nat)<2^63:=by rw[sizeLine_eq]; decide
theorem zBs:OpR X (binaryOp .Add) (λx y H Q=>∃ i j,x=.str i/\y=.str j/\i.length+j.length<=sizeLine/\Q (.str (i++j)) H):=by
 intro pins s σ H x y v u Q I rx ry h;obtain⟨i,j,rfl,rfl,hz,q⟩:=h;obtain⟨t,rfl⟩:=rx;obtain⟨t',rfl⟩:=ry;exact add_str (λt' tk=>⟨.str (i++j),H,I.tok _,⟨_,rfl⟩,q⟩) hz
theorem zB1{x:V}{us:List Value}(r:yS [x] us):∃ u,us=[u]/\xI x u:=by
 cases r with
 | cons r1 r2=>cases r2; exact⟨_,rfl,r1⟩
theorem zXb{x y:V}{us:List Value}(r:yS [x,y] us):∃ u w',us=[u,w']/\xI x u/\xI y w':=by
 cases r with
 | cons r1 r2 =>
  cases r2 with
  | cons r3 r4=>cases r4; exact⟨_,_,rfl,r1,r3⟩
theorem zQw:wO X (.builtin "abs") (λxs H Q=>∃ i,xs=[.int i]/\Q (.int (if i<0 then -i else i)) H):=by
 intro pins s σ H xs us Q I r h;obtain⟨i,rfl,q⟩:=h;obtain⟨u,rfl,t,rfl⟩:=zB1 r;exact call_abs_int λu tk=>⟨.int (if i<0 then -i else i),H,I.tok _,⟨_,rfl⟩,q⟩
theorem zNl(hc:X.calm=true):wO X (.builtin "max") (λxs H Q=>∃ i j,xs=[.int i,.int j]/\Q (.int (if j>i then j else i)) H):=by
 intro pins s σ H xs us Q I r h;obtain⟨i,j,rfl,q⟩:=h;obtain⟨u,w',rfl,⟨t,rfl⟩,⟨t',rfl⟩⟩:=zXb r;refine max_two_ints (I.ok.hd hc) λh' tk k=>⟨_,H,I.kept k,?_,q⟩;by_cases hj:j>i
 ·rw[if_pos hj,if_pos hj]; exact⟨_,rfl⟩
 ·rw[if_neg hj,if_neg hj]; exact⟨_,rfl⟩
theorem zOf(hc:X.calm=true):wO X (.builtin "min") (λxs H Q=>∃ i j,xs=[.int i,.int j]/\Q (.int (if j<i then j else i)) H):=by
 intro pins s σ H xs us Q I r h;obtain⟨i,j,rfl,q⟩:=h;obtain⟨u,w',rfl,⟨t,rfl⟩,⟨t',rfl⟩⟩:=zXb r;refine min_two_ints (I.ok.hd hc) λh' tk k=>⟨_,H,I.kept k,?_,q⟩;by_cases hj:j<i
 ·rw[if_pos hj,if_pos hj]; exact⟨_,rfl⟩
 ·rw[if_neg hj,if_neg hj]; exact⟨_,rfl⟩
theorem zN7:wO X (.type "int") (λxs H Q=>(∃ i,xs=[.int i]/\Q (.int i) H)\/∃ k,xs=[.bl k]/\Q (.int (if k then 1 else 0)) H):=by
 intro pins s σ H xs us Q I r h;rcases h with ⟨i,rfl,q⟩ | ⟨k,rfl,q⟩
 ·obtain⟨u,rfl,t,rfl⟩:=zB1 r;exact call_int_int ⟨.int i,H,I,⟨_,rfl⟩,q⟩
 ·obtain⟨u,rfl,r1⟩:=zB1 r;cases r1;exact call_int_bool ⟨.int (if k then 1 else 0),H,I.tok _,⟨_,rfl⟩,q⟩
theorem zJa:wO X (.type "str") (λxs H Q=>∃ i,xs=[.int i]/\i.natAbs.log2<1920/\Q (.str (toString i)) H):=by
 intro pins s σ H xs us Q I r h;obtain⟨i,rfl,hz,q⟩:=h;obtain⟨u,rfl,t,rfl⟩:=zB1 r;exact PySem.P.str_of_int hz ⟨.str _,H,I.tok _,⟨_,rfl⟩,q⟩
end
end L2

namespace L2
open PySem PySem.Spec PyProof.Rows

structure zT6(h:Heap)(x dx C:Addr)(mA:Str->Option Value):Prop where
 obj:h.get? x=some (PySem.W.instObj C dx)
 ns:h.Ns1 dx mA
 ne:dx≠x

theorem zPc{h:Heap}{dx:Addr}{mA:Str->Option Value}(n:h.Ns1 dx mA):∃ od,h.get? dx=some od/\∀ name,PySem.W.lookIn name od=some (mA name):=by
 obtain⟨o,es,ep,ho,hd,hk,_,hm⟩:=n;refine⟨o,ho,λname=>?_⟩;have e:=hm name;unfold nsFind findBy at e;rw[<- Array.find?_toList] at e;unfold PySem.W.lookIn;rw[hd];dsimp only;split
 ·rename_i y q
  rw[q] at e;exact congrArg some e
 ·rename_i q
  rw[q] at e;have a:es.toList.any (·.refKey)=false:=by
   rw[List.any_eq_false];intro y hy;obtain⟨z,t,hkey⟩:=hk y (Array.mem_toList_iff.mp hy);simp[DictEntry.refKey,hkey]
  have a':¬ es.toList.any (·.refKey)=true:=by rw[a]; exact Bool.false_ne_true
  rw[if_neg a'];exact congrArg some e

theorem zT6.look{h:Heap}{x dx C:Addr}{mA:Str->Option Value}(I:zT6 h x dx C mA):∃ od,PySem.W.InstAt h x (PySem.W.instObj C dx) C (some od)/\∀ name,PySem.W.lookIn name od=some (mA name) :=
 let ⟨od,ho,hl⟩:=zPc I.ns
 ⟨od,⟨I.obj,rfl,rfl,ho⟩,hl⟩

section
variable{prog:Program}{w:World}{A:Around}{E:Value->Shared->Prop}{s:Shared}{K:PySem.W.Frag}{x dx C f:Addr}{mA:Str->Option Value}{name:Str}{v:Value}

theorem zTg{expr:Bool}{Q:Value->Shared->Prop}(X:K.In s.heap)(I:zT6 s.heap x dx C mA)(hg:PySem.W.plainGet K C name=true)(hh:PySem.W.hasDictIn K C=true)
  (ha:PySem.W.findIn K (.ref C) name=some none) (hv:mA name=some v) (hv':PySem.W.handedIn v=true) (h:Q v { s with toks:=s.toks+1 }) :
  wpAny (model prog w) A (getAttr (.ref x) name expr) Q E s:=by
 obtain⟨od,J,hl⟩:=I.look;exact PySem.W.get_value X J (PySem.W.plainGet_of hg).1 (PySem.W.findObj_own hh ha rfl (by rw[hl,hv])) hv' h

theorem zQy{pl:Sem Bool}{Q:Value×List Value->Shared->Prop}(X:K.In s.heap)(I:zT6 s.heap x dx C mA)(hg:PySem.W.plainGet K C name=true)
  (hf:PySem.W.findIn K (.ref C) name=some (some (.ref f))) (ht:PySem.W.isFn K (.ref f)=true) (hv:mA name=none) (h:Q (.ref f,[.ref x]) s) :
  wpAny (model prog w) A (getMethod (.ref x) name pl) Q E s:=by
 obtain⟨od,J,hl⟩:=I.look;exact PySem.W.method_fn X J (PySem.W.plainGet_of hg).1 (PySem.W.plainGet_of hg).2 hf (beq_iff_eq.mp ht) (by show(PySem.W.lookIn name od).map (·.isSome)=some false; rw[hl,hv]; rfl) h

theorem zUk{ns:List Str}{Q:Unit->Shared->Prop}(X:K.In s.heap)(I:zT6 s.heap x dx C mA)
  (hs:PySem.W.findIn K (.ref C) "__setattr__" = some (some (.builtin "object.__setattr__"))) (hp:PySem.W.plainOver K C=true) (ht:PySem.W.takerIn K C name=some none) (hh:PySem.W.hasDictIn K C=true)
  (hw:PySem.Within mA ns) (hsz:ns.length<=sizeLine)
  (h:∀ h',zT6 h' x dx C (λy=>if y=name then some v else mA y)->Heap.SameBut dx s.heap h'->Q () { s with heap:=h',toks:=s.toks+2 }) :
  wpAny (model prog w) A (setAttr (.ref x) name v) Q E s:=by
 obtain⟨od,J,hl⟩:=I.look;refine PySem.W.set_plain X J hs (PySem.W.osa_open (s:={ s with toks:=s.toks+1 }) (r:=none) X J hp ht λb=>?_);obtain⟨cd,hc,hd'⟩:=PySem.W.any_some hh;have hx:s.heap.get? x=some ⟨.ref C,some dx,.plain,#[]⟩:=I.obj;refine wpAny_bind (wpAny_pure (wpAny_bind (wpAny_bind (wpAny_loadPart hx (wpAny_bind (PySem.W.Looks.here (s:={ s with toks:=s.toks+1 }) (PySem.W.looks_clsIn X hc) ?_))))));rw[hd'];refine wpAny_pure (a:=some dx) (wpAny_bind (wpAny_pure (wpAny_bind ?_)));refine wpAny_nsSet1 (s:={ s with toks:=s.toks+1 }) I.ns λh' hn2 hs2=>?_;obtain⟨oD,esD,epD,hoD,hdD,hcD⟩:=hn2.count (PySem.Within.cons name v hw);refine wpAny_bind (wpAny_lookBehind hoD (by rw[hdD]; exact pastItsLine_dict (Nat.le_trans hcD (by rw[List.length_cons]; lia))) ?_);exact wpAny_pure (h _ ⟨(hs2.2 _ (Ne.symm I.ne)).trans I.obj,hn2,I.ne⟩ hs2)

theorem zQ8{R:Result->Shared->Prop}{vs:List Value}{kw:List (Str×Value)}(X:K.In s.heap)(hm:PySem.W.makesIn K C=true)
  (hi:PySem.W.findIn K (.ref C) "__init__" = some (some (.ref f))) (hf:PySem.W.typeIn K (.ref f)=some (.type "function"))
  (h:codeAny (model prog w) (A.under (.builtin "type.__call__" ⟨.ref C::vs,kw⟩)) (.call (.ref f) ⟨.ref (s.heap.objs.size+1)::vs,kw⟩) (PySem.W.InitBack (s.heap.objs.size+1) R)
   { s with heap:=(s.heap.push PySem.W.emptyDict).push (PySem.W.instObj C s.heap.objs.size) }) :
  codeAny (model prog w) A (.call (.ref C) ⟨vs,kw⟩) R s:=by
 obtain⟨hh,g,d,t,os⟩:=s;exact PySem.W.make_core (PySem.W.makes_of X hm) (PySem.W.looks_findIn X hi) (λself=>PySem.W.bind_fn X self hf) (.inl rfl) h
end

def zDf(f:Str)(v:V):List (Str×V)->List (Str×V)
 | []=>[(f,v)]
 | (g,x)::r=>if g=f then(g,v)::r else(g,x)::zDf f v r
theorem zDx(f g:Str)(v:V):∀ fs:List (Str×V),(zDf f v fs).lookup g=if g=f then some v else fs.lookup g
 | []=>by
  show List.lookup g [(f,v)]=_;by_cases h:g=f
  ·have hb:(g == f)=true:=beq_iff_eq.mpr h;simp only[List.lookup,hb,if_pos h]
  ·have hb:(g == f)=false:=beq_eq_false_iff_ne.mpr h;simp only[List.lookup,hb,if_neg h]
 | (k,x)::r=>by
  have ih:=zDx f g v r;rw[show zDf f v ((k,x)::r)=(if k=f then(k,v)::r else(k,x)::zDf f v r) from rfl];by_cases hk:k=f
  ·rw[if_pos hk];by_cases h:g=k
   ·have hb:(g == k)=true:=beq_iff_eq.mpr h;simp only[List.lookup,hb,if_pos (h.trans hk)]
   ·have hb:(g == k)=false:=beq_eq_false_iff_ne.mpr h;simp only[List.lookup,hb,if_neg (λe:g=f=>h (e.trans hk.symm))]
  ·rw[if_neg hk];by_cases h:g=k
   ·have hb:(g == k)=true:=beq_iff_eq.mpr h;simp only[List.lookup,hb,if_neg (λe:g=f=>hk (h.symm.trans e))]
   ·have hb:(g == k)=false:=beq_eq_false_iff_ne.mpr h;simp only[List.lookup,hb];exact ih
theorem zEs(f:Str)(v:V):∀ fs:List (Str×V),f∈(zDf f v fs).map (·.1)/\∀ g,g∈fs.map (·.1)->g∈(zDf f v fs).map (·.1)
 | []=>⟨by simp[zDf],λg h=>by simp at h⟩
 | (k,x)::r=>by
  obtain⟨i1,i2⟩:=zEs f v r;rw[show zDf f v ((k,x)::r)=(if k=f then(k,v)::r else(k,x)::zDf f v r) from rfl];by_cases hk:k=f
  ·rw[if_pos hk];subst hk;exact⟨by simp,λg h=>by simpa using h⟩
  ·rw[if_neg hk];refine⟨?_,λg h=>?_⟩
   ·rw[List.map_cons];exact List.mem_cons_of_mem _ i1
   ·rw[List.map_cons] at h ⊢;rcases List.mem_cons.mp h with e | e
    ·exact List.mem_cons.mpr (.inl e)
    ·exact List.mem_cons_of_mem _ (i2 g e)
theorem zE4(f:Str)(v:V):∀ fs:List (Str×V),(zDf f v fs).length<=fs.length+1
 | []=>by simp[zDf]
 | (k,x)::r=>by
  have ih:=zE4 f v r;rw[show zDf f v ((k,x)::r)=(if k=f then(k,v)::r else(k,x)::zDf f v r) from rfl];by_cases hk:k=f
  ·rw[if_pos hk,List.length_cons,List.length_cons]; lia
  ·rw[if_neg hk,List.length_cons,List.length_cons]; lia

theorem zHk.some_of{v:V}{o:Option Value}(r:zHk (some v) o):∃ u,o=some u/\xI v u:=by
 cases o with
 | none=>exact(show False from r).elim
 | some u=>exact⟨u,rfl,r⟩
theorem zHk.none_of{o:Option Value}(r:zHk none o):o=none:=by
 cases o with
 | none=>rfl
 | some u=>exact(show False from r).elim
theorem zOl{v:V}{u:Value}(r:xI v u):PySem.W.handedIn u=true:=by
 cases v with
 | non=>cases (show u=Value.none from r); rfl
 | bl b=>cases (show u=Value.bool b from r); rfl
 | int i=>obtain⟨t,e⟩:=(show ∃ t,u=Value.int i t from r); cases e; rfl
 | str x=>obtain⟨t,e⟩:=(show ∃ t,u=Value.str x t from r); cases e; rfl
 | byt b=>obtain⟨t,e⟩:=(show ∃ t,u=Value.bytes b t from r); cases e; rfl
 | flt b=>obtain⟨t,e⟩:=(show ∃ t,u=Value.float b t from r); cases e; rfl
 | ref a=>cases (show u=Value.ref a from r); rfl
 | ty n=>cases (show u=Value.type n from r); rfl

section
variable{P:Program}{w:World}{H H':Hp}{h h':Heap}{a C dx:Addr}{fs fs':List (Str×V)}
theorem zGl(hok:HOk P w H h)(e:H a=some (.ins C dx fs)):∃ mA,zT6 h a dx C mA/\(∀ f,zHk (fs.lookup f) (mA f))/\PySem.Within mA (fs.map (·.1))/\fs.length<=1000/\H dx=some (.own a):=by
 obtain⟨d,z,ne,ob,mA,n,r,q⟩:=(show xZ P w H h a (.ins C dx fs) from hok a _ e);exact⟨mA,⟨ob,n,ne⟩,r,q,z,d⟩
end

structure Cls(K:PySem.W.Frag)(C:Addr):Prop where
 pg:PySem.W.plainGet K C Str.empty=true
 hd:PySem.W.hasDictIn K C=true
 po:PySem.W.plainOver K C=true
 sa:PySem.W.findIn K (.ref C) "__setattr__" = some (some (.builtin "object.__setattr__"))
theorem Cls.get{K:PySem.W.Frag}{C:Addr}(c:Cls K C)(f:Str):PySem.W.plainGet K C f=true:=c.pg
def zAj(K:PySem.W.Frag)(C:Addr)(f:Str):Prop:=PySem.W.findIn K (.ref C) f=some none
theorem zAj.taker{K:PySem.W.Frag}{C:Addr}{f:Str}(n:zAj K C f):PySem.W.takerIn K C f=some none:=by
 unfold PySem.W.takerIn;rw[show PySem.W.findIn K (.ref C) f=some none from n];rfl
structure Con(K:PySem.W.Frag)(C:Addr)(f:Str)(v:V)(u:Value):Prop where
 at_:PySem.W.findIn K (.ref C) f=some (some u)
 rel:xI v u
 get:PySem.W.specialIn K u "__get__" = some none
 cp:PySem.W.copiedNames.contains f=false
structure zRm(K:PySem.W.Frag)(C:Addr)(m:Str)(f:Addr):Prop where
 at_:PySem.W.findIn K (.ref C) m=some (some (.ref f))
 fn:PySem.W.isFn K (.ref f)=true
 kp:PySem.W.keepIn K (.ref f)=true

section
variable{X:Cx}{pins:List (Addr×Obj)}{σ:St}{H:Hp}{s:Shared}{a C dx:Addr}{fs:List (Str×V)}{f:Str}{v:V}{A:Around}{E:Value->Shared->Prop}

theorem zL3{b:Bool}{Q:Value->Shared->Prop}(I:Inv X pins σ H s)(e:H a=some (.ins C dx fs))(c:Cls X.K C)(n:zAj X.K C f)(l:fs.lookup f=some v)
  (h:∀ u s',Inv X pins σ H s'->xI v u->Q u s'):wpAny (model X.prog X.w) A (getAttr (.ref a) f b) Q E s:=by
 obtain⟨mA,O,r,_,_,_⟩:=zGl I.hok e;obtain⟨u,hu,ru⟩:=zHk.some_of (v:=v) (o:=mA f) (by rw[<- l]; exact r f);exact zTg I.kIn O (c.get f) c.hd n hu (zOl ru) (h u _ (I.tok _) ru)

theorem zFl{m:Str}{g:Addr}{pl:Sem Bool}{Q:Value×List Value->Shared->Prop}(I:Inv X pins σ H s)(e:H a=some (.ins C dx fs))(c:Cls X.K C)(k:zRm X.K C m g)(l:fs.lookup m=none)
  (h:Q (.ref g,[.ref a]) s):wpAny (model X.prog X.w) A (getMethod (.ref a) m pl) Q E s:=by
 obtain⟨mA,O,r,_,_,_⟩:=zGl I.hok e;have hn:mA m=none:=zHk.none_of (by rw[<- l]; exact r m);exact zQy I.kIn O (c.get m) k.at_ k.fn hn h

theorem zM2{y:V}{u:Value}{Q:Unit->Shared->Prop}(I:Inv X pins σ H s)(e:H a=some (.ins C dx fs))(c:Cls X.K C)(n:zAj X.K C f)(hl:fs.length<1000)(ry:xI y u)
  (h:∀ s',Inv X pins σ (upd H a (.ins C dx (zDf f y fs))) s'->Q () s'):wpAny (model X.prog X.w) A (setAttr (.ref a) f u) Q E s:=by
 obtain⟨mA,O,r,wi,_,ho⟩:=zGl I.hok e;have hz:(fs.map (·.1)).length<=sizeLine:=by rw[List.length_map,sizeLine_eq]; lia
 refine zUk I.kIn O c.sa c.po n.taker c.hd wi hz λh' O' sb=>h _ ?_;have hd:∃ o,h'.get? dx=some o:=let ⟨o,_,_,e',_⟩:=O'.ns;⟨o,e'⟩;refine I.write (x:=a) (e:=dx) (by rw[e]; exact True.intro) (.inr ho) (λb q hb z=>(sb.2 b hb).trans z) hd ?_;refine⟨by rw[zD O.ne]; exact ho,?_,O.ne,O'.obj,_,O'.ns,λg=>?_,λg hg=>?_⟩
 ·have:=zE4 f y fs; lia
 ·show zHk ((zDf f y fs).lookup g) (if g=f then some u else mA g);rw[zDx];by_cases q:g=f
  ·rw[if_pos q,if_pos q]; exact ry
  ·rw[if_neg q,if_neg q]; exact r g
 ·by_cases q:g=f
  ·rw[q]; exact(zEs f y fs).1
  ·refine(zEs f y fs).2 g (wi g λz=>hg ?_);show(if g=f then some u else mA g)=none;rw[if_neg q]; exact z

theorem Inv.made(I:Inv X pins σ H s):Inv X pins σ (upd (upd H s.heap.objs.size (.own (s.heap.objs.size+1))) (s.heap.objs.size+1) (.ins C s.heap.objs.size []))
  { s with heap:=(s.heap.push PySem.W.emptyDict).push (PySem.W.instObj C s.heap.objs.size) }:=by
 have e1:(s.heap.push PySem.W.emptyDict).get? s.heap.objs.size=some PySem.W.emptyDict:=Heap.get?_push_size s.heap rfl;have e2:((s.heap.push PySem.W.emptyDict).push (PySem.W.instObj C s.heap.objs.size)).get? (s.heap.objs.size+1)=some (PySem.W.instObj C s.heap.objs.size):=by
  have:=Heap.get?_push_size (s.heap.push PySem.W.emptyDict) (o:=PySem.W.instObj C s.heap.objs.size) rfl;rwa[Heap.size_push] at this
 have e3:(s.heap.push PySem.W.emptyDict).Ns s.heap.objs.size (λ_=>none):=⟨PySem.W.emptyDict,#[],_,e1,rfl,(λe he=>absurd he (by simp)),λ_=>rfl⟩;have I1:=I.laid (a:=s.heap.objs.size) (o:=.own (s.heap.objs.size+1)) (h':=s.heap.push PySem.W.emptyDict) (t':=s.toks) (λb u q=>Heap.get?_push_of_some _ q) (Nat.le_refl _) ⟨_,e1⟩;refine I1.laid (a:=s.heap.objs.size+1) (o:=.ins C s.heap.objs.size []) (t':=s.toks) (λb u q=>Heap.get?_push_of_some _ q) (Nat.le_of_eq (Heap.size_push _ _)) ?_;have ne:s.heap.objs.size≠s.heap.objs.size+1:=Nat.ne_of_lt (Nat.lt_succ_self _);refine⟨by rw[zD ne,zA],Nat.zero_le _,ne,e2,λ_=>none,(Heap.Ns1.of_empty e3).at λo q=>Heap.get?_push_of_some _ q,λ_=>True.intro,λy hy=>absurd rfl hy⟩

theorem zT0{prog:Program}{w:World}{env:Env}{e:Expr}{f:Str}{pos:Pos}{s:Shared}{Q:Value->Shared->Prop}(hb:attributeBase e f env (eval e env)=eval e env)
  (h:wpAny (model prog w) A (eval e env) (λo s₁=>wpAny (model prog w) A (getAttr o f true) Q E s₁) E s):wpAny (model prog w) A (eval (.Attribute e f pos) env) Q E s :=
 Attribute_any_ h (by rw[arm_eval_Attribute,hb])
end


section
variable{X:Cx}{pins:List (Addr×Obj)}{σ:St}{H:Hp}{s:Shared}{A:Around}{E:Value->Shared->Prop}{Q:Value->Shared->Prop}{c:Value}{b:Bool}
inductive TyOf(K:PySem.W.Frag)(H:Hp):V->Value->Prop where
 | non:TyOf K H .non (.type "NoneType")
 | bl (x:Bool):TyOf K H (.bl x) (.type "bool")
 | int (i:Int):TyOf K H (.int i) (.type "int")
 | str (x:Str):TyOf K H (.str x) (.type "str")
 | flt (x:UInt64):TyOf K H (.flt x) (.type "float")
 | lst {a:Addr} {xs:List V} (e:H a=some (.lst xs)):TyOf K H (.ref a) (.type "list")
 | frz {a:Addr} {o:Obj} {xs:List V} (e:H a=some (.frz o (.lst xs))):TyOf K H (.ref a) (.type "list")
 | tup {a:Addr} {xs:List V} (e:H a=some (.tup xs)):TyOf K H (.ref a) (.type "tuple")
 | dK {a:Addr} {kvs:List (Key×V)} (e:H a=some (.dK kvs)):TyOf K H (.ref a) (.type "dict")
 | dT {a:Addr} {kvs:List (List Key×V)} (e:H a=some (.dT kvs)):TyOf K H (.ref a) (.type "dict")
 | ins {a C dx:Addr} {fs:List (Str×V)} (e:H a=some (.ins C dx fs)) (cl:Cls K C) (ha:PySem.W.findIn K (.ref C) "__class__" = some (some (.builtin "object.__class__")))
   (hn:PySem.W.specialIn K (.builtin "object.__class__") "__get__" = some (some (.builtin "getset_descriptor.__get__"))) (htk:PySem.W.takesIn K (.builtin "object.__class__")=some true)
   (hm:PySem.W.mroIn K C (.type "object")=some true):TyOf K H (.ref a) (.ref C)
theorem zPw{x:V}{u t:Value}(I:Inv X pins σ H s)(rx:xI x u)(ty:TyOf X.K H x t)(e:PySem.W.kitOne X.K t c=some b)(h:∀ tk,Q (.bool b) { s with toks:=tk }) :
  wpAny (model X.prog X.w) A (call (.builtin "isinstance") [u,c]) Q E s:=by
 cases ty with
 | non=>cases (show u=Value.none from rx); exact PySem.W.kia_one PySem.W.kitx_none I.kIn True.intro e (λz=>nomatch z) h
 | bl y=>cases (show u=Value.bool y from rx); exact PySem.W.kia_one PySem.W.kitx_bool I.kIn True.intro e (λz=>nomatch z) h
 | int i=>obtain⟨t,q⟩:=(show ∃ t,u=Value.int i t from rx); cases q; exact PySem.W.kia_one PySem.W.kitx_int I.kIn True.intro e (λz=>nomatch z) h
 | str y=>obtain⟨t,q⟩:=(show ∃ t,u=Value.str y t from rx); cases q; exact PySem.W.kia_one PySem.W.kitx_str I.kIn True.intro e (λz=>nomatch z) h
 | flt y=>obtain⟨t,q⟩:=(show ∃ t,u=Value.float y t from rx); cases q; exact PySem.W.kia_one PySem.W.kitx_float I.kIn True.intro e (λz=>nomatch z) h
 | @lst a xs ea =>
  cases (show u=Value.ref a from rx);obtain⟨_,_,n,_,h1⟩:=(show xZ X.prog X.w H s.heap a (.lst xs) from I.hok a _ ea);exact PySem.W.kia_one PySem.W.kitx_list I.kIn ⟨_,h1,rfl⟩ e (λz=>nomatch z) h
 | @frz a ob xs ea =>
  cases (show u=Value.ref a from rx);obtain⟨_,_,_,n,_,h1⟩:=(show xZ X.prog X.w H s.heap a (.frz ob (.lst xs)) from I.hok a _ ea);exact PySem.W.kia_one PySem.W.kitx_list I.kIn ⟨_,h1,rfl⟩ e (λz=>nomatch z) h
 | @tup a xs ea =>
  cases (show u=Value.ref a from rx);obtain⟨_,_,_,p⟩:=(show xZ X.prog X.w H s.heap a (.tup xs) from I.hok a _ ea);obtain⟨o,h1,h2,_⟩:=p;exact PySem.W.kia_one PySem.W.kitx_tuple I.kIn ⟨o,h1,h2⟩ e (λz=>nomatch z) h
 | @dK a kvs ea =>
  cases (show u=Value.ref a from rx);obtain⟨_,_,vs,_,p⟩:=(show xZ X.prog X.w H s.heap a (.dK kvs) from I.hok a _ ea);obtain⟨o,es,ep,h1,h2,_⟩:=p;exact PySem.W.kia_one PySem.W.kitx_dict I.kIn ⟨o,h1,h2.1⟩ e (λz=>nomatch z) h
 | @dT a kvs ea =>
  cases (show u=Value.ref a from rx);obtain⟨_,_,xs,_,o,es,ep,h1,h2,_⟩:=(show xZ X.prog X.w H s.heap a (.dT kvs) from I.hok a _ ea);exact PySem.W.kia_one PySem.W.kitx_dict I.kIn ⟨o,h1,h2.1⟩ e (λz=>nomatch z) h
 | @ins a C dx fs ea cl ha hn htk hm =>
  cases (show u=Value.ref a from rx);obtain⟨mA,O,_⟩:=zGl I.hok ea;obtain⟨od,J,_⟩:=O.look;exact PySem.W.kia_one (PySem.W.kitx_own (cl.get _) cl.hd ha hn htk hm) I.kIn J e (λz=>nomatch z) h
end
end L2

namespace L2
open PySem PySem.Spec PyProof.Rows

structure qM(k:Nat)(A:Around):Prop where
 hd:A.handled=none
 dp:A.depth+3*k+5<recursionLimit
 un:A.units+16*k+200<cLine
theorem qM.mono{j k:Nat}{A:Around}(r:qM k A)(h:j<=k):qM j A:=⟨r.hd,by have:=r.dp; lia,by have:=r.un; lia⟩
theorem qM.deeper{k:Nat}{A:Around}(r:qM (k+1) A)(env:Env):qM k (A.deeper env) :=
 ⟨r.hd,by have:=r.dp; show A.depth+1+3*k+5<_; lia,by have:=r.un; show A.units+3+16*k+200<_; lia⟩
theorem zMu{A:Around}{C:Addr}{us:List Value}{kw:List (Str×Value)} : (A.under (.builtin "type.__call__" ⟨.ref C::us,kw⟩)).depth=A.depth+1:=by
 first | rfl | simp[Around.under,Code.weight,Code.isCreation,Code.isGuard,Code.isCaller,Code.frames,Code.isFrame,guardIds]
theorem zMz{A:Around}{C:Addr}{us:List Value}{kw:List (Str×Value)} : (A.under (.builtin "type.__call__" ⟨.ref C::us,kw⟩)).units=A.units+1:=by
 first | rfl | simp[Around.under,Code.cUnits,Code.frames,Code.isFrame]
theorem qM.make{k:Nat}{A:Around}(r:qM (k+1) A)(C:Addr)(us:List Value)(kw:List (Str×Value)):qM k (A.under (.builtin "type.__call__" ⟨.ref C::us,kw⟩)) :=
 ⟨r.hd,by have:=r.dp; rw[zMu]; lia,by have:=r.un; rw[zMz]; lia⟩
theorem qM.depth{k:Nat}{A:Around}(r:qM k A):A.depth<recursionLimit:=by have:=r.dp; lia
theorem qM.units{k:Nat}{A:Around}(r:qM k A):A.units+64<cLine:=by have:=r.un; lia
theorem qM.units0{k:Nat}{A:Around}(r:qM k A):A.units<cLine:=by have:=r.un; lia

def zP3:TA:=λ_ H Q=>Q [] H
def rC(ta:TE)(tr:TA):TA:=λσ H Q=>ta σ H λx H1=>tr σ H1 λxs H2=>Q (x::xs) H2
section
variable{X:Cx}{e:Expr}{es:List Expr}{te:TE}{t:TA}{pos:Pos}
theorem zO:PA X [] zP3:=λ_ _ _ _ H Q I h=>Calls.spliced_nil ⟨[],H,I,.nil,h⟩
theorem zH(ha:PE X e te)(hr:PA X es t)(hs:starEach (e::es) X.env=(false,eval e X.env)::starEach es X.env:=by rfl):PA X (e::es) (rC te t):=by
 intro pos pins s σ H Q I h;rw[hs];show wpAny _ _ (spliced ((false,eval e X.env)::backTo pos (starEach es X.env))) _ _ s;refine Calls.spliced_cons (thn (ha pins s σ H _ I h) λu s1 ⟨x,H1,I1,r1,q1⟩=>?_);exact thn (hr pos pins s1 σ H1 _ I1 q1) λus s2 ⟨xs,H2,I2,r2,q2⟩=>⟨x::xs,H2,I2,.cons r1 r2,q2⟩

def tTup(t:TA):TE:=λσ H Q=>t σ H λxs H1=>xs.length<=sizeLine/\∀ p,H1 p=none->Q (.ref p) (upd H1 p (.tup xs))
def zF4(t:TA):TE:=λσ H Q=>t σ H λxs H1=>xs.length<=sizeLine/\∀ p,H1 p=none->Q (.ref p) (upd H1 p (.lst xs))
theorem zD3{x1}(h:PA X es t):PE X (.Tuple es x1 pos) (tTup t):=by
 intro pins s σ H Q I hq;refine wpAny_Tuple_spliced (thn (h pos pins s σ H _ I hq) λus s1 ⟨xs,H1,I1,r,z,q⟩=>⟨by rw[<- r.length]; exact z,?_⟩);have hf:H1 s1.heap.objs.size=none:=I1.hok.fresh (Nat.le_refl _);refine⟨.ref s1.heap.objs.size,upd H1 s1.heap.objs.size (.tup xs),I1.laid (t':=s1.toks) (λb u e=>Heap.get?_push_of_some _ e) (Nat.le_refl _) ?_,rfl,q _ hf⟩;exact⟨z,us,r,⟨_,Heap.get?_push_size _ rfl,rfl,_,rfl⟩⟩
theorem zSg(h:PA X es t):PE X (.List es pos) (zF4 t):=by
 intro pins s σ H Q I hq;refine wpAny_List_spliced (thn (h pos pins s σ H _ I hq) λus s1 ⟨xs,H1,I1,r,z,q⟩=>⟨by rw[<- r.length]; exact z,?_⟩);have hf:H1 s1.heap.objs.size=none:=I1.hok.fresh (Nat.le_refl _);refine⟨.ref s1.heap.objs.size,upd H1 s1.heap.objs.size (.lst xs),I1.laid (t':=s1.toks) (λb u e=>Heap.get?_push_of_some _ e) (Nat.le_refl _) ?_,rfl,q _ hf⟩;exact⟨z,us,0,r,Heap.get?_push_size _ rfl⟩
end

abbrev Sp:=List V->Hp->VK->XK->Prop
abbrev CXT:=List Env->Hp->Shared->XK->Value->Shared->Prop

structure zUm(P:Program)(w:World)(K:PySem.W.Frag)(mg:Str->Option Value)(base:Heap)(A:Around)(outer:List Env)(s:Shared)(H:Hp):Prop where
 frames:A.frames=some outer
 mod:Mod K mg base
 bs:∀ b o,base.get? b=some o->s.heap.get? b=some o/\H b=none
 bsz:base.objs.size<=s.heap.objs.size
 funs:s.heap.FunFrames base outer
 frf:∀ b∈frs outer,H b=none
 hok:HOk P w H s.heap
 bare:AllBare s.gens
def CE(outer:List Env)(P:Program)(w:World)(H:Hp)(s:Shared)(Q:VK)(u:Value)(s':Shared):Prop :=
 ∃ v H',s'.os=s.os/\AllBare s'.gens/\Un (frs outer) [] H H' s.heap s'.heap/\HOk P w H' s'.heap/\xI v u/\Q v H'
def CR(CX:CXT)(outer:List Env)(P:Program)(w:World)(H:Hp)(s:Shared)(Q:VK)(E:XK)(r:Result)(s':Shared):Prop :=
 match r with
 | .ok (.ret u)=>CE outer P w H s Q u s'
 | .ok _=>False
 | .error e=>CX outer H s E e s'
structure xE(P:Program)(w:World)(K:PySem.W.Frag)(mg:Str->Option Value)(base:Heap)(CX:CXT)(k:Nat)(f:Addr)(fd:FuncData)(ps:List Str)(sp:Sp):Prop where
 len:∀ vs H Q E,sp vs H Q E->vs.length=ps.length
 run:∀(A:Around)(outer:List Env)(s:Shared)(H:Hp)(args:Args)(us:List Value)(vs:List V)(Q:VK)(E:XK),qM k A->zUm P w K mg base A outer s H->BindsTo s fd args (ps.zip us)->yS vs us->sp vs H Q E ->
  codeAny (model P w) A (.call (.ref f) args) (CR CX outer P w H s Q E) s
theorem zUm.make{P:Program}{w:World}{K:PySem.W.Frag}{mg:Str->Option Value}{base:Heap}{A:Around}{outer:List Env}{s:Shared}{H:Hp}(e:zUm P w K mg base A outer s H)(C:Addr)(us:List Value)(kw:List (Str×Value)) :
  zUm P w K mg base (A.under (.builtin "type.__call__" ⟨.ref C::us,kw⟩)) outer s H:=⟨by first | exact e.frames | (simpa [Around.under,Code.envs,Code.isFrame,pushEnvs] using e.frames),e.mod,e.bs,e.bsz,e.funs,e.frf,e.hok,e.bare⟩
section
variable{X:Cx}{pins:List (Addr×Obj)}{σ:St}{H:Hp}{s s':Shared}
theorem Inv.env0(I:Inv X pins σ H s):zUm X.prog X.w X.K X.mg X.base X.A X.stack s H :=
 ⟨I.ok.frames,I.ok.mod,I.bs,Nat.le_trans I.ok.bsz I.sz,I.stack,I.stkFree,I.hok,I.bare⟩
theorem Inv.after{Q:VK}{u:Value}(I:Inv X pins σ H s)(h:CE X.stack X.prog X.w H s Q u s'):EP X pins σ Q u s':=by
 obtain⟨v,H',os,bare,un,hok,r,q⟩:=h;obtain⟨hh,g,d,t,os'⟩:=s';obtain rfl:os'=s.os:=os;exact⟨v,H',I.call (h':=hh) (g':=g) (d':=d) (t':=t) (ch:=[]) un hok bare (λb z=>absurd z (by simp)),r,q⟩
end

def zNx(sp:Sp)(dvs:List V)(E:XK)(t:TA):TE:=λσ H Q=>t σ H λvs H1=>sp (vs++dvs) H1 Q E
def zAt(K:PySem.W.Frag)(fd:FuncData)(ps:List Str)(ds:List Value):Prop :=
 ∀(s:Shared)(us:List Value),K.In s.heap->(us++ds).length=ps.length->BindsTo s fd ⟨us,[]⟩ (ps.zip (us++ds))
theorem zAt.all{K:PySem.W.Frag}{fd:FuncData}{ps:List Str}(h:∀ us:List Value,us.length=ps.length->bindArgs fd ⟨us,[]⟩=pure (ps.zip us)):zAt K fd ps []:=λs us _ hl=>by
 rw[List.append_nil] at hl ⊢;exact .of_eq (h us hl)

def zIp(CX:CXT)(X:Cx)(E:XK):Prop:=∀(pins:List (Addr×Obj))(σ:St)(H:Hp)(s:Shared)(e:Value)(s':Shared),Inv X pins σ H s->CX X.stack H s E e s'->X.xe e s'

section
variable{X:Cx}{CX:CXT}{k:Nat}{f C:Addr}{fd:FuncData}{ps:List Str}{sp:Sp}{dvs:List V}{ds:List Value}{E:XK}{x m:Str}{p pos apos:Pos}{e o:Expr}{es:List Expr}{ta:TE}{t:TA}

theorem zIt{pins:List (Addr×Obj)}{σ:St}{H:Hp}{s:Shared}{Q:VK}{us:List Value}{vs:List V}(F:xE X.prog X.w X.K X.mg X.base CX k f fd ps sp)(hr:qM k X.A)(hb:zAt X.K fd ps ds)(hd:yS dvs ds)(hx:zIp CX X E)
  (I:Inv X pins σ H s) (r:yS vs us) (h:sp (vs++dvs) H Q E):wpAny (model X.prog X.w) X.A (call (.ref f) us) (EP X pins σ Q) X.xe s:=by
 have r2:yS (vs++dvs) (us++ds):=r.append hd;have hl:(us++ds).length=ps.length:=by rw[<- r2.length]; exact F.len _ _ _ _ h
 refine wpAny_call (codeAny_mono (F.run X.A X.stack s H ⟨us,[]⟩ (us++ds) (vs++dvs) Q E hr I.env0 (hb s us I.kIn hl) r2 h) λr s' hq=>?_);cases r with
 | error e=>exact hx pins σ H s e s' I hq
 | ok fl =>
  cases fl with
  | ret u=>exact I.after hq
  | next=>exact False.elim hq
  | brk=>exact False.elim hq
  | cont=>exact False.elim hq

theorem zUq(F:xE X.prog X.w X.K X.mg X.base CX k f fd ps sp)(hr:qM k X.A)(hg:Gl X x)(hm:X.mg x=some (.ref f))(hk:PySem.W.keepIn X.K (.ref f)=true)(hb:zAt X.K fd ps ds)(hd:yS dvs ds)(hx:zIp CX X E)
  (ha:PA X (e::es) t) (hdb:(x ==("__debug__" : Str))=false:=by decide) (he:starEach (e::es) X.env=(false,eval e X.env)::starEach es X.env:=by rfl) (hpl:(backTo pos (starEach es X.env)).any (·.1)=false:=by rfl) :
  PE X (.Call (.Name x p) (e::es) [] pos) (zNx sp dvs E t):=by
 intro pins s σ H Q I h;refine wpAny_Call_Name_kw (qP I hg hm ?_ hdb);refine PySem.W.callWith_K (h₀:=X.base) I.ok.mod.kin hk (thn (ha pos pins s σ H _ I h) λus s1 ⟨vs,H1,I1,r,q⟩=>⟨I1.kIn,?_⟩) he hpl;exact zIt F hr hb hd hx I1 r q
theorem zQf(F:xE X.prog X.w X.K X.mg X.base CX k f fd ps sp)(hr:qM k X.A)(hg:Gl X x)(hm:X.mg x=some (.ref f))(hk:PySem.W.keepIn X.K (.ref f)=true)(hb:zAt X.K fd ps ds)(hd:yS dvs ds)(hx:zIp CX X E)
  (hdb:(x ==("__debug__" : Str))=false:=by decide):PE X (.Call (.Name x p) [] [] pos) (zNx sp dvs E zP3):=by
 intro pins s σ H Q I h;refine wpAny_Call_Name_kw (qP I hg hm ?_ hdb);exact PySem.W.callWith_K0 I.kIn hk (zIt (us:=[]) F hr hb hd hx I .nil h)

structure Mk(K:PySem.W.Frag)(C f:Addr):Prop where
 makes:PySem.W.makesIn K C=true
 init:PySem.W.findIn K (.ref C) "__init__" = some (some (.ref f))
 fn:PySem.W.isFn K (.ref f)=true
 kp:PySem.W.keepIn K (.ref C)=true

theorem zR5{pins:List (Addr×Obj)}{σ:St}{H:Hp}{s:Shared}{Q:VK}{us:List Value}{vs:List V}(M:Mk X.K C f)(F:xE X.prog X.w X.K X.mg X.base CX k f fd ps sp)(hr:qM (k+1) X.A)(hb:zAt X.K fd ps ds)(hd:yS dvs ds)
  (hx:zIp CX X E) (I:Inv X pins σ H s) (r:yS vs us)
  (h:∀ x dx,H x=none->H dx=none->dx≠x->sp (.ref x::(vs++dvs)) (upd (upd H dx (.own x)) x (.ins C dx [])) (λv H2=>v=.non/\Q (.ref x) H2) E) :
  wpAny (model X.prog X.w) X.A (call (.ref C) us) (EP X pins σ Q) X.xe s:=by
 have hq:=h (s.heap.objs.size+1) s.heap.objs.size (I.hok.fresh (Nat.le_succ _)) (I.hok.fresh (Nat.le_refl _)) (Nat.ne_of_lt (Nat.lt_succ_self _));have I2:=Inv.made (C:=C) I;have r2:yS (V.ref (s.heap.objs.size+1)::(vs++dvs)) (Value.ref (s.heap.objs.size+1)::(us++ds)):=.cons rfl (r.append hd);have hl:(Value.ref (s.heap.objs.size+1)::us++ds).length=ps.length:=by
  have e:=r2.length;rw[F.len _ _ _ _ hq] at e;exact e.symm
 refine wpAny_call (zQ8 (f:=f) I.kIn M.makes M.init (beq_iff_eq.mp M.fn) (codeAny_mono (F.run _ X.stack _ _ ⟨Value.ref (s.heap.objs.size+1)::us,[]⟩ (Value.ref (s.heap.objs.size+1)::(us++ds)) _ _ E (hr.make C us [])
  (I2.env0.make C us []) (hb _ (Value.ref (s.heap.objs.size+1)::us) I2.kIn hl) r2 hq) λr s' hq'=>?_))
 cases r with
 | error e=>exact hx pins σ _ _ e s' I2 hq'
 | ok fl =>
  cases fl with
  | ret u =>
   obtain⟨v,H',I3,rv,ev,q3⟩:=I2.after hq';subst ev;exact⟨rv,⟨V.ref (s.heap.objs.size+1),H',I3,rfl,q3⟩⟩
  | next=>exact False.elim hq'
  | brk=>exact False.elim hq'
  | cont=>exact False.elim hq'
end

section
variable{X:Cx}{CX:CXT}{k:Nat}{f C:Addr}{fd:FuncData}{ps ks:List Str}{sp:Sp}{E:XK}{x m:Str}{p pos apos kpos:Pos}{e o:Expr}{es:List Expr}{kws:List Keyword}{te ta:TE}{t tk:TA}{nm:Option Str}
structure KBinds(K:PySem.W.Frag)(fd:FuncData)(ps ks:List Str)(g:List Value->List Value->List Value)(gV:List V->List V->List V):Prop where
 to:∀(s:Shared)(us ws:List Value),K.In s.heap->(g us ws).length=ps.length->BindsTo s fd ⟨us,ks.zip ws⟩ (ps.zip (g us ws))
 rel:∀{vs:List V}{us:List Value}{zs:List V}{ws:List Value},yS vs us->yS zs ws->yS (gV vs zs) (g us ws)
variable{g:List Value->List Value->List Value}{gV:List V->List V->List V}
end

structure zN(N P:List Str)(sc:Scope):Prop where
 kind:sc.kind=.function
 co:sc.isCoroutine=false
 gen:sc.isGenerator=false
 nd:N.Nodup
 pre:N.take P.length=P
 par:∀ x∈P,sc.names.lookup x=some .local\/sc.names.lookup x=some .cell
 nofree:∀ y∈sc.names,y.2≠.free

theorem zI9{kindOf:Str->Option NameKind}{x:Str} : ∀{binds:List (Str×Value)}{m:Str->Option Value},(∀ v,(x,v) ∉ binds)->bindL kindOf binds m x=m x
 | [],_,_=>rfl
 | (n,v)::r,m,h=>by
  unfold bindL;rw[zI9 λw hw=>h w (List.mem_cons_of_mem _ hw)];split
  ·have:x≠n:=by rintro rfl; exact h v List.mem_cons_self
   simp[this]
  ·rfl
theorem zHx{kindOf:Str->Option NameKind}{x:Str} : ∀{binds:List (Str×Value)}{m:Str->Option Value},(∀ v,(x,v) ∉ binds)->bindC kindOf binds m x=m x
 | [],_,_=>rfl
 | (n,v)::r,m,h=>by
  unfold bindC;rw[zHx λw hw=>h w (List.mem_cons_of_mem _ hw)];split
  ·rfl
  ·have:x≠n:=by rintro rfl; exact h v List.mem_cons_self
   simp[this]
theorem zHz{kindOf:Str->Option NameKind}{x:Str}{v:Value} : ∀{P:List Str}{vs:List Value}{i:Nat}{m:Str->Option Value},P.Nodup->P[i]?=some x->vs[i]?=some v->kindOf x=some .local ->
  bindL kindOf (P.zip vs) m x=some v
 | [],_,_,_,_,h,_,_=>by simp at h
 | _::_,[],_,_,_,_,h,_=>by simp at h
 | p::P,w::vs,0,m,nd,h1,h2,hk=>by
  simp at h1 h2; subst h1; subst h2;show bindL kindOf ((p,w)::P.zip vs) m p=_;unfold bindL;rw[zI9 λv hv=>(List.nodup_cons.mp nd).1 (List.of_mem_zip hv).1,if_pos hk];simp
 | p::P,w::vs,i+1,m,nd,h1,h2,hk=>by
  show bindL kindOf ((p,w)::P.zip vs) m x=_;unfold bindL;exact zHz (i:=i) (List.nodup_cons.mp nd).2 (by simpa using h1) (by simpa using h2) hk
theorem zIi{kindOf:Str->Option NameKind}{x:Str}{v:Value} : ∀{P:List Str}{vs:List Value}{i:Nat}{m:Str->Option Value},P.Nodup->P[i]?=some x->vs[i]?=some v->kindOf x≠some .local ->
  bindC kindOf (P.zip vs) m x=some v
 | [],_,_,_,_,h,_,_=>by simp at h
 | _::_,[],_,_,_,_,h,_=>by simp at h
 | p::P,w::vs,0,m,nd,h1,h2,hk=>by
  simp at h1 h2; subst h1; subst h2;show bindC kindOf ((p,w)::P.zip vs) m p=_;unfold bindC;rw[zHx λv hv=>(List.nodup_cons.mp nd).1 (List.of_mem_zip hv).1,if_neg hk];simp
 | p::P,w::vs,i+1,m,nd,h1,h2,hk=>by
  show bindC kindOf ((p,w)::P.zip vs) m x=_;unfold bindC;exact zIi (i:=i) (List.nodup_cons.mp nd).2 (by simpa using h1) (by simpa using h2) hk

def start(N:List Str)(vs:List V):St:=vs.map some++List.replicate (N.length-vs.length) none

def cxOf(CX:CXT)(P:Program)(w:World)(K:PySem.W.Frag)(mg:Str->Option Value)(base:Heap)(N:List Str)(qual:Str)(scope:Scope)(f:Addr)(cd:Value)(A:Around)(outer:List Env)(s:Shared)(H:Hp)(E:XK):Cx where
 prog:=P
 w:=w
 K:=K
 mg:=mg
 base:=base
 A:=A.deeper (envOfC qual scope s.heap.objs.size f cd)
 N:=N
 s₀:=s
 H₀:=H
 env:=envOfC qual scope s.heap.objs.size f cd
 outer:=outer
 stack:=envOfC qual scope s.heap.objs.size f cd::outer
 ex:=[]
 calm:=true
 fn:=λ_=>true
 pn:=[]
 xe:=λe s'=>wpAny (model P w) (A.deeper (envOfC qual scope s.heap.objs.size f cd)) (leaving (envOfC qual scope s.heap.objs.size f cd) e) (λ_ s''=>CX outer H s E e s'') (λe' s''=>CX outer H s E e' s'') s'

theorem zL1{sc:Scope}{n:Nat}{x:Str}(h:sc.names.lookup x=some .cell):∃ c,(cellsFrom n sc.names []).lookup x=some c:=by
 have q:=PySem.W.cellsFrom_some sc.names n [] (.inl h);exact Option.isSome_iff_exists.mp q

theorem zNy{CX:CXT}{P:Program}{w:World}{K:PySem.W.Frag}{mg:Str->Option Value}{base:Heap}{N ps:List Str}{qual:Str}{scope:Scope}{f:Addr}{cd:Value}{A:Around}{outer:List Env}{s s1:Shared}{H:Hp}{E:XK}{us:List Value}{vs:List V}
  (S:zN N ps scope) (hd:A.handled=none) (e0:zUm P w K mg base A outer s H) (hl:vs.length=ps.length) (r:yS vs us)
  (x:InCallC s s.heap.objs.size (bindL (envOfC qual scope s.heap.objs.size f cd).kindOf (ps.zip us) λ_=>none) (cellsFrom (s.heap.objs.size+1) scope.names []) (bindC (envOfC qual scope s.heap.objs.size f cd).kindOf (ps.zip us) λ_=>none) s1) :
  Inv (cxOf CX P w K mg base N qual scope f cd A outer s H E) [] (start N vs) H s1:=by
 have hpl:ps.length<=N.length:=by have:=congrArg List.length S.pre; rw[List.length_take] at this; lia
 obtain⟨h1,tk,rfl,hk⟩:=x.done;have noA:∀ b:Addr,b ∉ (cxOf CX P w K mg base N qual scope f cd A outer s H E).ex:=λb z=>absurd (show b∈([]:List Addr) from z) (by simp);refine⟨⟨e0.mod,S.kind,rfl,rfl,Nat.le_refl _,λy z c h1 h2=>?_,λy hy=>?_,λy c _ h=>?_,λ_=>hd,Around.frames_deeper e0.frames,.inr ⟨rfl,rfl⟩,λb z=>absurd z (noA b),e0.bs,e0.bsz,λb _ _=>noA b,λb z=>absurd z (noA b),e0.funs,e0.frf⟩,
  rfl,e0.bare,Un.kept hk,⟨_,x.toInCall.ns,λi y v h1 h2 h3=>?_⟩,λy c h=>⟨_,x.cell y c h⟩,e0.hok.fresh (Nat.le_refl _),λy c h=>?_,λp hp=>absurd (show p∈([]:List (Addr×Obj)) from hp) (by simp),e0.hok.kept hk,?_⟩
 ·exact name_of_addr x.apart (PySem.mem_of_lookup h1) (PySem.mem_of_lookup h2)
 ·have hy:scope.names.lookup y=some .cell\/scope.names.lookup y=some .free:=hy;rcases hy with hy | hy
  ·exact zL1 hy
  ·exact absurd rfl (S.nofree _ (PySem.mem_of_lookup hy))
 ·exact Nat.le_of_lt (x.above y c (PySem.mem_of_lookup h))
 ·have hi:i<vs.length:=by
   unfold start at h2;by_cases hi:i<vs.length
   ·exact hi
   ·rw[List.getElem?_append_right (by simpa using hi)] at h2;rw[List.getElem?_replicate] at h2;split at h2 <;> cases h2
  have ha:vs[i]?=some v:=by
   unfold start at h2;rw[List.getElem?_append_left (by simpa using hi),List.getElem?_map] at h2;cases e:vs[i]? with
   | none=>rw[e] at h2; cases h2
   | some a=>rw[e] at h2; cases h2; rfl
  obtain⟨u,hu,rv⟩:=r.get ha;have hp:ps[i]?=some y:=by
   rw[<- S.pre,List.getElem?_take_of_lt (by lia)]; exact h1
  have ndP:ps.Nodup:=by rw[<- S.pre]; exact S.nd.sublist (List.take_sublist _ _)
  exists u,rv;rcases S.par y (List.mem_of_getElem? hp) with k | k
  ·exact .inl ⟨k,zHz ndP hp hu k⟩
  ·obtain⟨c,e⟩:=zL1 (n:=s.heap.objs.size+1) k;refine .inr ⟨.inl k,c,e,?_⟩;have q:=x.cell y c e;rw[zIi ndP hp hu (by show scope.names.lookup y≠_; rw[k]; decide)] at q;exact q
 ·exact e0.hok.fresh (Nat.le_of_lt (x.above y c (PySem.mem_of_lookup h)))
 ·unfold start;show _=N.length;rw[List.length_append,List.length_map,List.length_replicate];lia

theorem zVg{CX:CXT}{P:Program}{w:World}{K:PySem.W.Frag}{mg:Str->Option Value}{base:Heap}{k:Nat}{f:Addr}{name qual:Str}{params:Arguments}{body:List Stmt}{scope:Scope}{dV kV doc pm cdv ct oc:Value}{an od:Option Addr}
  {osl:Array (Option Value)} {N ps:List Str} {sp:Sp} (lk:K.lookup f=some ⟨oc,od,.func (PySem.W.fnOf name qual params body scope dV kV doc pm an cdv ct),osl⟩) (hcd:PySem.W.codeIn K cdv qual=true) (S:zN N ps scope)
  (len:∀ vs H Q E,sp vs H Q E->vs.length=ps.length)
  (hbody:∀(A:Around)(outer:List Env)(s:Shared)(H:Hp)(vs:List V)(Q:VK)(E:XK),qM k (A.deeper (envOfC qual scope s.heap.objs.size f cdv))->sp vs H Q E ->
   ∃ t,PSs (cxOf CX P w K mg base N qual scope f cdv A outer s H E) body t/\t { nx:=λ_ H'=>Q .non H',rt:=Q } (start N vs) H) :
  xE P w K mg base CX (k+1) f (PySem.W.fnOf name qual params body scope dV kV doc pm an cdv ct) ps sp:=by
 refine⟨len,λA outer s H args us vs Q E hr e0 hb r hsp=>?_⟩;have hl:=len _ _ _ _ hsp;have KX:K.In s.heap:=e0.mod.kin.keeps λb o e=>(e0.bs b o e).1;have lim:s.heap.NoLimit:=e0.mod.nolimit.keeps λb o e=>(e0.bs b o e).1;have hkind:∀ y∈ps.zip us,scope.names.lookup y.1=some .local\/(scope.names.lookup y.1=some .cell/\((cellsFrom (s.heap.objs.size+1) scope.names []).lookup y.1).isSome=true):=λ⟨n,v⟩ hy=>by
  rcases S.par n (List.of_mem_zip hy).1 with q | q
  ·exact .inl q
  ·exact .inr ⟨q,PySem.W.cellsFrom_some _ _ _ (.inl q)⟩
 refine codeAny_call_function hr.depth (KX _ _ lk) rfl S.co S.gen rfl (PySem.W.codeRec_of KX hcd) (hb _ _ _ _ ?_);refine wpAny_newFunctionEnv_cells S.kind hkind λenv he s1 x=>?_;subst he;refine⟨lim.keeps x.toInCall.keep,codeAny_func ?_⟩;obtain⟨t,ht,hq⟩:=hbody A outer s H vs Q E (hr.deeper _) hsp;have I:Inv (cxOf CX P w K mg base N qual scope f cdv A outer s H E) [] (start N vs) H s1:=zNy S hr.hd e0 hl r x;refine wpAny_mono (ht [] s1 (start N vs) H _ I hq) (λfl s' hs=>?_) λe s' hs=>hs;have fin:∀{σ':St}{H':Hp}{v:V}{u:Value},Inv (cxOf CX P w K mg base N qual scope f cdv A outer s H E) [] σ' H' s'->xI v u->Q v H'->CE outer P w H s Q u s' :=
  λ{σ' H' v u} J rv q=>⟨v,H',J.os,J.bare,J.base,J.hok,rv,q⟩
 cases fl with
 | ret u =>
  obtain⟨v,σ',H',J,rv,q⟩:=hs;exact fin J rv q
 | next =>
  obtain⟨σ',H',J,q⟩:=hs;exact fin (v:=V.non) (u:=Value.none) J rfl q
 | brk =>
  obtain⟨_,_,_,q⟩:=hs;exact False.elim q
 | cont =>
  obtain⟨_,_,_,q⟩:=hs;exact False.elim q
end L2

namespace L2
open PySem PySem.Spec PyProof.Rows
section
variable{X:Cx}{x:Str}{p pos:Pos}{e:Expr}{es:List Expr}{t:TA}{id T:String}{r:List V->Hp->VK->Prop}

def tCB(r:List V->Hp->VK->Prop)(t:TA):TE:=λσ H Q=>t σ H λvs H1=>r vs H1 Q
theorem yK(hc:wO X (.builtin id) r)(hg:Gl X x)(hm:X.mg x=none)(hv:bootBuiltins x=some (.builtin id))(ha:PA X (e::es) t)(hn:x ≠ "__name__" := by decide)(hdb:(x ==("__debug__" : Str))=false:=by decide)
  (he:starEach (e::es) X.env=(false,eval e X.env)::starEach es X.env:=by rfl) (hpl:(backTo pos (starEach es X.env)).any (·.1)=false:=by rfl):PE X (.Call (.Name x p) (e::es) [] pos) (tCB r t):=by
 intro pins s σ H Q I h;refine wpAny_Call_Name_kw (zCe I hg hm hv ?_ hn hdb);exact PyProof.Rows.callWith_builtin1 (thn (ha pos pins s σ H _ I h) λus s1 ⟨vs,H1,I1,r1,q1⟩=>hc pins s1 σ H1 vs us Q I1 r1 q1) he hpl
theorem wC(hc:wO X (.type T) r)(hg:Gl X x)(hm:X.mg x=none)(hv:bootBuiltins x=some (.type T))(ha:PA X (e::es) t)(hn:x ≠ "__name__" := by decide)(hdb:(x ==("__debug__" : Str))=false:=by decide)
  (he:starEach (e::es) X.env=(false,eval e X.env)::starEach es X.env:=by rfl) (hpl:(backTo pos (starEach es X.env)).any (·.1)=false:=by rfl):PE X (.Call (.Name x p) (e::es) [] pos) (tCB r t):=by
 intro pins s σ H Q I h;refine wpAny_Call_Name_kw (zCe I hg hm hv ?_ hn hdb);exact PyProof.Rows.callWith_type1 (thn (ha pos pins s σ H _ I h) λus s1 ⟨vs,H1,I1,r1,q1⟩=>hc pins s1 σ H1 vs us Q I1 r1 q1) he hpl
end
end L2

namespace HT
open PySem PyProof.Rows

def lexLt:List Int->List Int->Bool
 | [],[]=>false
 | [],_::_=>true
 | _::_,[]=>false
 | x::xs,y::ys=>if x=y then lexLt xs ys else decide (x<y)
section
open PySem.SeqAt
open PySem.AutoSeq1 (wpAny_loadPart')
open PySem.MeetsSeq PySem.MeetsSeq2 PySem.MeetsSeq3

end

section
variable{prog:Program}{w:World}{A:Around}{E:Value->Shared->Prop}{s:Shared}

theorem cat_tup{t b:Addr}{vs ws:List Value}{Q:Value->Shared->Prop}(ht:IsTup s.heap t vs.toArray)(hb:IsTup s.heap b ws.toArray)(hv:vs≠[])
  (h1:ws=[]->Q (.ref t) s) (h2:ws≠[]->Q (.ref s.heap.objs.size) { s with heap:=s.heap.push { cls:=.type "tuple", data:=.seq (vs++ws).toArray } })
  (hsz:vs.length+ws.length<=sizeLine):wpAny (model prog w) A (binaryOp .Add (.ref t) (.ref b)) Q E s:=by
 obtain⟨⟨cls,dd,data,sl⟩,ho,hc,n,hd⟩:=id ht;obtain⟨⟨cls2,dd2,data2,sl2⟩,ho2,hc2,n2,hd2⟩:=id hb;simp only at hc hd hc2 hd2;subst hc hd hc2 hd2;have e:vs.toArray++ws.toArray=(vs++ws).toArray:=by simp
 by_cases hw:ws=[]
 ·exact concat_meets ⟨_,ho,rfl⟩ ⟨_,ho2,rfl⟩ noFill_tuple_add seq_tuple_add PySem.F.slot_tuple_add PySem.F.entry_tuple_add (PySem.F.args_tuple_add_2 _ _)
   (tuple_addW1 t b vs.toArray ws.toArray n n2 dd dd2 sl sl2 (by simpa using hv) (by simp[hw])) ⟨ho,ho2,h1 hw⟩
 ·refine concat_meets ⟨_,ho,rfl⟩ ⟨_,ho2,rfl⟩ noFill_tuple_add seq_tuple_add PySem.F.slot_tuple_add PySem.F.entry_tuple_add (PySem.F.args_tuple_add_2 _ _)
   (tuple_addW2 t b vs.toArray ws.toArray n n2 dd dd2 sl sl2 (by simpa using hv) (by simpa using hw) (by rw[List.size_toArray,List.size_toArray]; exact hsz)) ⟨ho,ho2,?_⟩
  rw[e];exact h2 hw

def sIx(n d:Nat):Option Int->Nat
 | none=>d
 | some v=>if v<0 then(v+(n:Int)).toNat else min v.toNat n
theorem sIx_nat(n d k:Nat):sIx n d (some (k:Int))=min k n:=by
 show(if (k:Int)<0 then((k:Int)+(n:Int)).toNat else min (k:Int).toNat n)=min k n;rw[if_neg (by lia),Int.toNat_natCast]
theorem zWs(n d:Nat)(hd:d<=n)(o:Option Int):sIx n d o<=n:=by
 cases o with
 | none=>exact hd
 | some v =>
  show(if v<0 then(v+(n:Int)).toNat else min v.toNat n)<=n;by_cases hv:v<0
  ·rw[if_pos hv]; lia
  ·rw[if_neg hv]; exact Nat.min_le_right _ _
theorem zNb(v:Int)(n d:Nat):(if v<0 then max (v+(n:Int)) 0 else min v (n:Int))=((sIx n d (some v):Nat):Int):=by
 show(if v<0 then max (v+(n:Int)) 0 else min v (n:Int))=(((if v<0 then(v+(n:Int)).toNat else min v.toNat n):Nat):Int);by_cases hv:v<0
 ·simp only[if_pos hv]; lia
 ·simp only[if_neg hv]; lia
theorem zL7(lo hi:Option Int)(n:Nat):Builtin.Slice.sliceAdjust lo hi 1 (n:Int)=(((sIx n 0 lo:Nat):Int),((sIx n n hi:Nat):Int)):=by
 have h1:¬ ((1:Int)<0):=by lia
 unfold Builtin.Slice.sliceAdjust;simp only[h1,if_false];refine Prod.ext ?_ ?_
 ·cases lo with
  | none=>rfl
  | some v=>exact zNb v n 0
 ·cases hi with
  | none=>rfl
  | some v=>exact zNb v n n
theorem zMy(i j:Nat):Builtin.Slice.slicePlaces (i:Int) (j:Int) 1=j-i:=by
 unfold Builtin.Slice.slicePlaces;have h1:(1:Int)>0:=by lia
 simp only[h1,if_true,Int.ediv_one];split <;> lia
theorem zFx{v:Value}{o:Option Int}{Q:Option Int->Shared->Prop}(p:IsPart v o)(h:Q o s):wpAny (model prog w) A (Builtin.Slice.slicePartIndex v) Q E s:=by
 cases p with
 | none=>exact slicePart_none h
 | int i t=>exact slicePart_int h
theorem zCr{sl:Addr}{vl vu:Value}{lo hi:Option Int}{n:Nat}{Q:Int×Int×Nat->Shared->Prop}(hs:s.heap.IsSliceOf sl vl vu .none)(pl:IsPart vl lo)(pu:IsPart vu hi)
  (h:Q (((sIx n 0 lo:Nat):Int),1,sIx n n hi-sIx n 0 lo) s):wpAny (model prog w) A (Builtin.Slice.sliceApplied (.ref sl) (pure (n:Int))) Q E s:=by
 obtain⟨os,hos,hcs,hds⟩:=id hs;unfold Builtin.Slice.sliceApplied Builtin.Slice.sliceFields;refine wpAny_bind (wpAny_bind (wpAny_field hos hds (x:=vl) rfl (wpAny_bind (wpAny_field hos hds (x:=vu) rfl (wpAny_bind (wpAny_field hos hds (x:=.none) rfl (wpAny_pure ?_)))))));refine wpAny_bind (slicePart_none ?_);show wpAny _ _ (if ((1:Int) == 0)=true then _ else _) _ _ s;rw[if_neg (by decide)];refine wpAny_bind (zFx pl (wpAny_bind (zFx pu (wpAny_bind (wpAny_pure ?_)))));show wpAny _ _ (match Builtin.Slice.sliceAdjust lo hi 1 (n:Int) with | (lo,hi)=>pure (lo,(1:Int),Builtin.Slice.slicePlaces lo hi 1)) _ _ s;rw[zL7 lo hi n];show wpAny _ _ (pure (((sIx n 0 lo:Nat):Int),(1:Int),Builtin.Slice.slicePlaces ((sIx n 0 lo:Nat):Int) ((sIx n n hi:Nat):Int) 1)) _ _ s;rw[zMy];exact wpAny_pure h
theorem zQz(xs:Array Value)(i k:Nat):((List.range k).filterMap λ(m:Nat)=>xs[((i:Int)+(m:Int)*1).toNat]?).toArray=((xs.toList.drop i).take k).toArray:=by
 have e:(λ(m:Nat)=>xs[((i:Int)+(m:Int)*1).toNat]?)=λm=>xs[i+m]?:=by
  funext m
  have:((i:Int)+(m:Int)*1).toNat=i+m:=by lia
  rw[this]
 rw[e];have:=pick_run xs i k;rw[List.filterMap_map] at this;have e2:((λx=>xs[x]?) ∘ λx=>i+x)=λm=>xs[i+m]?:=rfl;rw[e2] at this;rw[this]

theorem getItem_tuple_cut{t sl:Addr}{items:Array Value}{vl vu:Value}{lo hi:Option Int}{Q:Value->Shared->Prop}(ht:IsTup s.heap t items)(hs:s.heap.IsSliceOf sl vl vu .none)(pl:IsPart vl lo)(pu:IsPart vu hi)
  (hw:¬ (sIx items.size 0 lo=0/\sIx items.size items.size hi=items.size))
  (h:Q (.ref s.heap.objs.size) { s with heap:=s.heap.push { cls:=.type "tuple", data:=.seq ((items.toList.drop (sIx items.size 0 lo)).take (sIx items.size items.size hi-sIx items.size 0 lo)).toArray } })
  (hsz:items.size<=sizeLine):wpAny (model prog w) A (getItem (.ref t) (.ref sl)) Q E s:=by
 have htake:sizeOk (.seq ((items.toList.drop (sIx items.size 0 lo)).take (sIx items.size items.size hi-sIx items.size 0 lo)).toArray):=by
  show((items.toList.drop (sIx items.size 0 lo)).take (sIx items.size items.size hi-sIx items.size 0 lo)).toArray.size<=sizeLine;rw[List.size_toArray,List.length_take,List.length_drop,Array.length_toList];lia
 have hj:sIx items.size items.size hi<=items.size:=zWs _ _ (Nat.le_refl _) hi;obtain⟨os,hos,hcs,hds⟩:=id hs;have hTs:s.TypeIs (.ref sl) "slice" :=⟨os,hos,hcs⟩;unfold getItem
 try with_reducible refine wpAny_holding ?_
 first | refine wpAny_bind (wpAny_pure ?_) | skip
 refine wpAny_bind (wpAny_sequenceKey ht.typeIs (by decide) ?_);refine wpAny_bind (wpAny_callSpecial?_slot (name:=Str.ofString "__getitem__") ht.typeIs PyProof.Rows.slot_tuple_getitem
  (wpAny_call_entry PyProof.Rows.slot_tuple_getitem ht.typeIs entry_tuple_getitem ?_ (args_tuple_getitem _ _)))
 show wpAny _ _ (Builtin.Tuple.tupleItemsOf (.ref t) >>= _) _ _ s;refine wpAny_bind (tupleItemsOf_ ht ?_);refine wpAny_bind (wpAny_typeOf hTs ?_);rw[if_pos (by decide)];refine wpAny_bind (zCr hs pl pu ?_);have hno:¬ ((((sIx items.size 0 lo:Nat):Int) == 0&&(1:Int) == 1&&(sIx items.size items.size hi-sIx items.size 0 lo) == items.size)=true):=by
  intro q;rw[Bool.and_eq_true,Bool.and_eq_true] at q;have q1:((sIx items.size 0 lo:Nat):Int)=0:=eq_of_beq q.1.1;have q2:sIx items.size items.size hi-sIx items.size 0 lo=items.size:=eq_of_beq q.2;exact hw ⟨by lia,by lia⟩
 show wpAny _ _ (if (((sIx items.size 0 lo:Nat):Int) == 0&&(1:Int) == 1&&(sIx items.size items.size hi-sIx items.size 0 lo) == items.size)=true then _ else _) _ _ s;rw[if_neg hno,zQz]
 first
  | exact wpAny_bind (m:=Builtin.Tuple.tupleExact _) (wpAny_newObj_type (wpAny_pure ⟨_,rfl,wpAny_pure h⟩) htake)
  | exact wpAny_bind (m:=Builtin.Tuple.tupleExact _) (wpAny_newObj_type (wpAny_bind (wpAny_pure (wpAny_pure ⟨_,rfl,wpAny_pure h⟩))) htake)
  | exact wpAny_bind (wpAny_bind (m:=Builtin.Tuple.tupleExact _) (wpAny_newObj_type (wpAny_pure (wpAny_pure ⟨_,rfl,wpAny_pure h⟩)) htake))
  | exact wpAny_bind (wpAny_bind (m:=Builtin.Tuple.tupleExact _) (wpAny_newObj_type (wpAny_pure ⟨_,rfl,wpAny_pure h⟩) htake))
end
end HT

namespace L2
open PySem PySem.Spec PyProof.Rows

abbrev TO:=St->Hp->(Option Int->Hp->Prop)->Prop
def PO(X:Cx)(e:Option Expr)(t:TO):Prop :=
 ∀(pins:List (Addr×Obj))(s:Shared)(σ:St)(H:Hp)(Q:Option Int->Hp->Prop),Inv X pins σ H s->t σ H Q ->
  wpAny (model X.prog X.w) X.A (evalPart e X.env) (λu s'=>∃ o H',Inv X pins σ H' s'/\IsPart u o/\Q o H') X.xe s
def zUu:TO:=λ_ H Q=>Q none H
def tPart(t:TE):TO:=λσ H Q=>t σ H λx H1=>∃ i,x=.int i/\Q (some i) H1

theorem zMt{ns:List Int} : ∀{us:List Value},yS (ns.map V.int) us->IntsAre us ns:=by
 induction ns with
 | nil=>intro us r; rw[List.map_nil] at r; cases r; exact .nil
 | cons n ns ih =>
  intro us r;rw[List.map_cons] at r;cases r with
  | cons r1 r2 =>
   obtain⟨t,e⟩:=r1;subst e;exact .cons n t (ih r2)

section
variable{X:Cx}{e:Expr}{te:TE}{lo hi:Option Expr}{tl th:TO}{pos p2:Pos}

theorem vO:PO X none zUu:=by
 intro pins s σ H Q I h;rw[evalPart_none];exact wpAny_pure ⟨none,H,I,.none,h⟩
theorem uJ(h:PE X e te):PO X (some e) (tPart te):=by
 intro pins s σ H Q I hw;rw[evalPart_some];refine thn (h pins s σ H _ I hw) λu s1 ⟨x,H1,I1,r1,q1⟩=>?_;obtain⟨i,rfl,q⟩:=q1;obtain⟨t,rfl⟩:=r1;exact⟨some i,H1,I1,.int i t,q⟩

def SlR(X:Cx)(r:V->Option Int->Option Int->Hp->VK->Prop):Prop :=
 ∀(pins:List (Addr×Obj))(s:Shared)(σ:St)(H:Hp)(x:V)(v vl vu:Value)(lo hi:Option Int)(sl:Addr)(Q:VK),Inv X pins σ H s->xI x v->s.heap.IsSliceOf sl vl vu .none->IsPart vl lo->IsPart vu hi->r x lo hi H Q ->
  ∃ T id,typeLookup (.type T) "__getitem__" = pure (some (.builtin id))/\s.TypeIs v T/\wpAny (model X.prog X.w) X.A (getItem v (.ref sl)) (EP X pins σ Q) X.xe s
def tSl(r:V->Option Int->Option Int->Hp->VK->Prop)(te:TE)(tl th:TO):TE:=λσ H Q=>te σ H λx H1=>tl σ H1 λl H2=>th σ H2 λu H3=>r x l u H3 Q
theorem wY{r:V->Option Int->Option Int->Hp->VK->Prop}(hr:SlR X r)(he:PE X e te)(hl:PO X lo tl)(hu:PO X hi th):PE X (.Subscript e (.Slice lo hi none p2) pos) (tSl r te tl th):=by
 intro pins s σ H Q I h;refine Subscript_ (thn (he pins s σ H _ I h) λv s1 ⟨x,H1,I1,r1,q1⟩=>?_);refine wpAny_Slice (thn (hl pins s1 σ H1 _ I1 q1) λvl s2 ⟨l,H2,I2,pl,q2⟩=>thn (hu pins s2 σ H2 _ I2 q2) λvu s3 ⟨u,H3,I3,pu,q3⟩=>?_);rw[evalPart_none];refine wpAny_pure ?_;have I4:Inv X pins σ H3 { s3 with heap:=s3.heap.push { cls:=.type "slice", data:=.fields #[vl,vu,.none] } }:=I3.kept (t':=s3.toks) λb ob q=>Heap.get?_push_of_some _ q;obtain⟨T,id,hT,ht,hg⟩:=hr pins { s3 with heap:=s3.heap.push { cls:=.type "slice", data:=.fields #[vl,vu,.none] } } σ H3 x v vl vu l u s3.heap.objs.size Q I4 r1 (Heap.IsSliceOf.new ..) pl pu q3;show wpAny (model X.prog X.w) X.A (subscriptTail e (.Slice lo hi none p2) v (.ref s3.heap.objs.size)) (EP X pins σ Q) X.xe { s3 with heap:=s3.heap.push { cls:=.type "slice", data:=.fields #[vl,vu,.none] } };exact tail_any (ops:=[.ref s3.heap.objs.size,v]) ht hT hg (by with_unfolding_all rfl)

def rS(xs:List V)(lo hi:Option Int):List V:=(xs.drop (HT.sIx xs.length 0 lo)).take (HT.sIx xs.length xs.length hi-HT.sIx xs.length 0 lo)
theorem zD8(xs:List V)(lo hi:Option Int):(rS xs lo hi).length<=xs.length:=by
 unfold rS;rw[List.length_take,List.length_drop];lia
def rSlT(K:PySem.W.Frag):V->Option Int->Option Int->Hp->VK->Prop:=λx lo hi H Q=>∃ a xs,x=.ref a/\SqT K H a xs /\
 ¬ (HT.sIx xs.length 0 lo=0/\HT.sIx xs.length xs.length hi=xs.length)/\∀ p,H p=none->Q (.ref p) (upd H p (.tup (rS xs lo hi)))
theorem zE0:SlR X (rSlT X.K):=by
 intro pins s σ H x v vl vu lo hi sl Q I rx hs pl pu h;obtain⟨a,xs,rfl,hx,hw,q⟩:=h;cases rx;obtain⟨its,r,ht,hz⟩:=I.tuple hx;have hlen:its.toArray.size=xs.length:=by rw[List.size_toArray]; exact r.length.symm
 exists "tuple", _,PyProof.Rows.slot_tuple_getitem.lookup,ht.typeIs;refine HT.getItem_tuple_cut ht hs pl pu (by rw[hlen]; exact hw) ?_ (by rw[hlen]; exact hz);rw[hlen];refine⟨.ref s.heap.objs.size,_,I.laid (t':=s.toks) (o:=.tup (rS xs lo hi)) (λb ob q=>Heap.get?_push_of_some _ q) (Nat.le_refl _) ?_,rfl,q _ (I.hok.fresh (Nat.le_refl _))⟩;exact⟨Nat.le_trans (zD8 xs lo hi) hz,_,(r.drop (HT.sIx xs.length 0 lo)).take (HT.sIx xs.length xs.length hi-HT.sIx xs.length 0 lo),IsTup.new _ _⟩

def rCatT(K:PySem.W.Frag):R2:=λx y H Q=>∃ a b xs ys,x=.ref a/\y=.ref b/\SqT K H a xs/\SqT K H b ys/\xs≠[]/\xs.length+ys.length<=sizeLine /\
 (ys=[]->Q (.ref a) H)/\(ys≠[]->∀ p,H p=none->Q (.ref p) (upd H p (.tup (xs++ys))))
theorem yS.nil_iff{xs:List V}{us:List Value}(r:yS xs us):us=[]↔xs=[]:=by
 cases r with
 | nil=>simp
 | cons _ _=>simp
theorem zJ3:OpR X (binaryOp .Add) (rCatT X.K):=by
 intro pins s σ H x y v u Q I rx ry h;obtain⟨a,b,xs,ys,rfl,rfl,ha,hb,hx,hz,q1,q2⟩:=h;cases rx;cases ry;obtain⟨its,r1,p1,_⟩:=I.tuple ha;obtain⟨its2,r2,p2,_⟩:=I.tuple hb;refine HT.cat_tup p1 p2 (λz=>hx (r1.nil_iff.mp z)) (λz=>⟨.ref a,H,I,rfl,q1 (r2.nil_iff.mp z)⟩) (λz=>?_) (by rw[<- r1.length,<- r2.length]; exact hz);refine⟨.ref s.heap.objs.size,_,I.laid (t':=s.toks) (o:=.tup (xs++ys)) (λb ob q=>Heap.get?_push_of_some _ q) (Nat.le_refl _) ?_,rfl,q2 (λw=>z (r2.nil_iff.mpr w)) _ (I.hok.fresh (Nat.le_refl _))⟩;exact⟨by rw[List.length_append]; exact hz,_,r1.append r2,IsTup.new _ _⟩
end
end L2

namespace L2
open PySem PySem.Spec PyProof.Rows

def ixN(n:Nat)(i:Int):Option Nat:=if 0<=i then(if i<n then some i.toNat else none) else if -(n:Int)<=i then some (i+n).toNat else none
def atI{α:Type}(xs:List α)(i:Int):Option α:=(ixN xs.length i).bind λj=>xs[j]?
theorem zOs{n:Nat}{i:Int}{j:Nat}(h:ixN n i=some j):seqIndex? i n=some j/\j<n/\-(n:Int)<=i/\i<n:=by
 unfold ixN at h;by_cases h0:0<=i
 ·rw[if_pos h0] at h;by_cases h1:i<n
  ·rw[if_pos h1] at h;have e:i.toNat=j:=Option.some.inj h;exact⟨by rw[seqIndex_of h0 h1,e],by lia,by lia,h1⟩
  ·rw[if_neg h1] at h; cases h
 ·rw[if_neg h0] at h;by_cases h1 : -(n:Int)<=i
  ·rw[if_pos h1] at h;have e:(i+n).toNat=j:=Option.some.inj h;exact⟨by rw[seqIndex_neg (by lia) h1,e],by lia,h1,by lia⟩
  ·rw[if_neg h1] at h; cases h
theorem zKq{α:Type}{xs:List α}{i:Int}{v:α}(h:atI xs i=some v):∃ j,seqIndex? i xs.length=some j/\xs[j]?=some v/\j<xs.length/\-(xs.length:Int)<=i/\i<xs.length:=by
 unfold atI at h;cases e:ixN xs.length i with
 | none=>rw[e] at h; cases h
 | some j =>
  rw[e] at h;obtain⟨h1,h2,h3,h4⟩:=zOs e;exact⟨j,h1,h,h2,h3,h4⟩
theorem qR{α:Type}{xs:List α}{j:Nat}{v:α}(h:xs[j]?=some v):atI xs (j:Int)=some v:=by
 have hj:j<xs.length:=(List.getElem?_eq_some_iff.mp h).1;have e:ixN xs.length (j:Int)=some j:=by
  unfold ixN;rw[if_pos (by lia),if_pos (by lia)]; simp
 unfold atI; rw[e]; exact h
theorem zGn{α:Type}(xs:List α)(v:α):atI (xs++[v]) (-1)=some v:=by
 have hl:(xs++[v]).length=xs.length+1:=by simp
 have e:ixN (xs++[v]).length (-1)=some xs.length:=by
  unfold ixN;rw[hl,if_neg (by decide),if_pos (by lia)]
  congr 1
  lia
 unfold atI;rw[e];show(xs++[v])[xs.length]?=some v;simp

def zN5(b:Expr):Prop:=∀ o i,subscripted b false o i=operate [o,i] (getItem o i)
def IxR(X:Cx)(r:R2):Prop :=
 ∀(value slice:Expr)(pins:List (Addr×Obj))(s:Shared)(σ:St)(H:Hp)(x y:V)(v u:Value)(Q:VK),Inv X pins σ H s->xI x v->xI y u->r x y H Q ->
  subscripted slice false v u=operate [v,u] (getItem v u)->wpAny (model X.prog X.w) X.A (subscriptTail value slice v u) (EP X pins σ Q) X.xe s
def MtR(X:Cx)(id:String)(r:V->List V->Hp->VK->Prop):Prop :=
 ∀(pins:List (Addr×Obj))(s:Shared)(σ:St)(H:Hp)(x:V)(xs:List V)(v:Value)(us:List Value)(Q:VK),Inv X pins σ H s->xI x v->yS xs us->r x xs H Q ->
  wpAny (model X.prog X.w) X.A (call (.builtin id) (v::us)) (EP X pins σ Q) X.xe s
section
variable{X:Cx}{a b:Expr}{ta tb:TE}{pos:Pos}
theorem zRc{r:R2}(hr:IxR X r)(ha:PE X a ta)(hb:PE X b tb)(hs:zN5 b):PE X (.Subscript a b pos) (tOp r ta tb):=by
 intro pins s σ H Q I h;exact Subscript_ (zXy ha hb I h λv u s2 x y H2 I2 rx ry q=>hr a b pins s2 σ H2 x y v u Q I2 rx ry q (hs _ _))

def rIxL(K:PySem.W.Frag):R2:=λx y H Q=>∃ p xs i v,x=.ref p/\y=.int i/\SqL K H p xs/\atI xs i=some v/\Q v H
def rIxT(K:PySem.W.Frag):R2:=λx y H Q=>∃ p xs i v,x=.ref p/\y=.int i/\SqT K H p xs/\atI xs i=some v/\Q v H
def rIxS:R2:=λx y H Q=>∃ z i c,x=.str z/\y=.int i/\z.length<=sizeLine/\atI z.cps.toList i=some c/\Q (.str ⟨#[c]⟩) H
theorem zUv:IxR X (rIxL X.K):=by
 intro value slice pins s σ H x y v u Q I rx ry h hs;obtain⟨p,xs,i,z,rfl,rfl,hq,he,q⟩:=h;cases rx;obtain⟨t,rfl⟩:=ry;obtain⟨its,r,pl,hz⟩:=I.list hq;obtain⟨j,h1,h2,h3,h4,h5⟩:=zKq he;obtain⟨w,ew,rw'⟩:=r.get h2;have hl:=r.length;have hn:=zFv;have fin:EP X pins σ Q w s:=⟨z,H,I,rw',q⟩;by_cases h0:0<=i
 ·have hj:i.toNat=j:=by
   rw[seqIndex_of h0 h5] at h1;exact Option.some.inj h1
  exact item_listR pl.isList h0 (by lia) (by rw[hj]; simpa using ew) fin hs
 ·have hj:(i+(its.toArray.size:Int)).toNat=j:=by
   rw[seqIndex_neg (by lia) h4] at h1;rw[List.size_toArray,<- hl];exact Option.some.inj h1
  exact subscriptTail_builtinR (x:=w) pl.isList.typeIs slot_list_getitem.lookup
   (wpAny_getItem_list_neg (Q:=λr s'=>r=w/\EP X pins σ Q r s') pl.isList (by lia) (by rw[List.size_toArray] <;> lia) (by lia) (by rw[hj]; simpa using ew) ⟨rfl,fin⟩) hs
theorem zVq:IxR X (rIxT X.K):=by
 intro value slice pins s σ H x y v u Q I rx ry h hs;obtain⟨p,xs,i,z,rfl,rfl,hq,he,q⟩:=h;cases rx;obtain⟨t,rfl⟩:=ry;obtain⟨its,r,pl,hz⟩:=I.tuple hq;obtain⟨j,h1,h2,h3,h4,h5⟩:=zKq he;obtain⟨w,ew,rw'⟩:=r.get h2;have hl:=r.length;have hn:=zFv;have fin:EP X pins σ Q w s:=⟨z,H,I,rw',q⟩;exact subscriptTail_builtinR (x:=w) pl.typeIs slot_tuple_getitem.lookup
  (getItem_tuple (j:=j) (Q:=λr s'=>r=w/\EP X pins σ Q r s') pl (by lia) (by lia) (by rw[List.size_toArray,<- hl]; exact h1) (by simpa using ew) ⟨rfl,fin⟩) hs
theorem zS8:IxR X rIxS:=by
 intro value slice pins s σ H x y v u Q I rx ry h hs;obtain⟨z,i,c,rfl,rfl,hz,he,q⟩:=h;obtain⟨t,rfl⟩:=rx;obtain⟨t',rfl⟩:=ry;obtain⟨j,h1,h2,h3,h4,h5⟩:=zKq he;have hl:z.cps.toList.length=z.length:=by simp[Str.length]
 rw[hl] at h1 h4 h5;have hn:=zFv;exact tail_any (typeIs_str s z t) slot_str_getitem.lookup (getItem_str (c:=c) (by
  have e1:decide (i < -(2^63:Int))=false:=decide_eq_false (by lia);have e2:decide (i >= 2^63)=false:=decide_eq_false (by lia);rw[e1,e2,Bool.or_false]) (by rw[h1]; simpa using h2) ⟨.str ⟨#[c]⟩,H,I.tok _,⟨_,rfl⟩,q⟩) hs
theorem zMp(its:List Value)(n j:Nat)(u:Value):Obj.mapSeq (·.setIfInBounds j u) { cls:=.type "list", data:=.seq its.toArray n }={ cls:=.type "list", data:=.seq (its.set j u).toArray n }:=by
 simp[Obj.mapSeq]
theorem Inv.lst{pins:List (Addr×Obj)}{σ:St}{H:Hp}{s:Shared}{p:Addr}{xs:List V}(I:Inv X pins σ H s)(h:H p=some (.lst xs)) :
  ∃(its:List Value)(n:Nat),yS xs its/\s.heap.get? p=some { cls:=.type "list", data:=.seq its.toArray n }/\xs.length<=sizeLine:=by
 obtain⟨z,its,n,r,e⟩:=I.hok p _ h;exact⟨its,n,r,e,z⟩
theorem Inv.lstUpd{pins:List (Addr×Obj)}{σ:St}{H:Hp}{s:Shared}{p:Addr}{xs ys:List V}{its its':List Value}{n n':Nat}{f:Obj->Obj}(I:Inv X pins σ H s)(h:H p=some (.lst xs))
  (ho:s.heap.get? p=some { cls:=.type "list", data:=.seq its.toArray n }) (hf:f { cls:=.type "list", data:=.seq its.toArray n }={ cls:=.type "list", data:=.seq its'.toArray n' }) (r:yS ys its') (hz:ys.length<=sizeLine) (t:Nat) :
  Inv X pins σ (upd H p (.lst ys)) { s with heap:=s.heap.update p f,toks:=t }:=by
 have e:(s.heap.update p f).get? p=some { cls:=.type "list", data:=.seq its'.toArray n' }:=by
  rw[Heap.get?_update_self f ho (by rw[hf] <;> rfl),hf]
 refine I.write (x:=p) (e:=p) (by rw[h]; trivial) (.inl rfl) (λb u hb q=>(Heap.get?_update_other _ _ (Ne.symm hb)).trans q) ⟨_,e⟩ ?_;exact⟨hz,its',n',r,e⟩
def rSetL:V->V->V->Hp->(Hp->Prop)->Prop:=λo i v H Q=>∃ p xs k j,o=.ref p/\i=.int k/\H p=some (.lst xs)/\ixN xs.length k=some j/\Q (upd H p (.lst (xs.set j v)))
theorem zQ0:PSet X rSetL:=by
 intro pins s σ H o i v ov iv u Q I ro ri rv h;obtain⟨p,xs,k,j,rfl,rfl,hp,hj,q⟩:=h;cases ro;obtain⟨t,rfl⟩:=ri;obtain⟨its,n,r,ho,hz⟩:=I.lst hp;obtain⟨h1,h2,h3,h4⟩:=zOs hj;have hl:=r.length;have hn:=zFv;have I':Inv X pins σ (upd H p (.lst (xs.set j v))) { s with heap:=s.heap.update p (Obj.mapSeq (·.setIfInBounds j u)) } :=
  I.lstUpd hp ho (zMp its n j u) (r.set rv j) (by rw[List.length_set]; exact hz) s.toks
 by_cases h0:0<=k
 ·have hk:k.toNat=j:=by
   rw[seqIndex_of h0 h4] at h1;exact Option.some.inj h1
  exact PySem.W.ki_setAt ho h0 (by lia) (by rw[List.size_toArray,<- hl]; exact h4) (by rw[hk]; exact⟨_,I',q⟩)
 ·have hk:(k+(its.toArray.size:Int)).toNat=j:=by
   rw[seqIndex_neg (by lia) h3] at h1;rw[List.size_toArray,<- hl];exact Option.some.inj h1
  exact PySem.W.ki_setBack ho (by lia) (by rw[List.size_toArray,<- hl]; exact h3) (by lia) (by rw[hk]; exact⟨_,I',q⟩)

theorem zHu(lo hi:Option Int)(n:Nat):(sliceBounds lo hi none n).1=((HT.sIx n 0 lo:Nat):Int)/\(sliceBounds lo hi none n).2.1=((HT.sIx n n hi:Nat):Int)/\(sliceBounds lo hi none n).2.2=1:=by
 refine⟨?_,?_,rfl⟩
 ·cases lo with
  | none=>simp[sliceBounds,HT.sIx]
  | some i =>
   simp only[sliceBounds,HT.sIx,Option.getD_none,show(1:Int)>0 by decide,if_true];by_cases h:i<0
   ·simp only[h,if_true] <;> lia
   ·simp only[h,if_false] <;> lia
 ·cases hi with
  | none=>simp[sliceBounds,HT.sIx]
  | some i =>
   simp only[sliceBounds,HT.sIx,Option.getD_none,show(1:Int)>0 by decide,if_true];by_cases h:i<0
   ·simp only[h,if_true] <;> lia
   ·simp only[h,if_false] <;> lia
theorem zG0(its:List Value)(lo hi:Option Int):slicePick its.toArray lo hi none=((its.drop (HT.sIx its.length 0 lo)).take (HT.sIx its.length its.length hi-HT.sIx its.length 0 lo)).toArray:=by
 obtain⟨h1,h2,h3⟩:=zHu lo hi its.toArray.size;unfold slicePick;rw[h1,h2,h3];simp only[sliceRange_one,pick_run,List.size_toArray] <;> rfl
def rSlL(K:PySem.W.Frag):V->Option Int->Option Int->Hp->VK->Prop:=λx lo hi H Q=>∃ a xs,x=.ref a/\SqL K H a xs/\∀ p,H p=none->Q (.ref p) (upd H p (.lst (rS xs lo hi)))
theorem zNv:SlR X (rSlL X.K):=by
 intro pins s σ H x v vl vu lo hi sl Q I rx hs pl pu h;obtain⟨a,xs,rfl,hx,q⟩:=h;cases rx;obtain⟨its,r,ht,hz⟩:=I.list hx;have hlen:=r.length;exists "list", _,slot_list_getitem.lookup,ht.isList.typeIs;refine wpAny_getItem_list_slice ht.isList hs pl pu .none (by simp) ?_ (by rw[List.size_toArray] <;> lia);rw[zG0,<- hlen];refine⟨.ref s.heap.objs.size,_,I.laid (t':=s.toks) (o:=.lst (rS xs lo hi)) (λb ob q=>Heap.get?_push_of_some _ q) (Nat.le_refl _) ?_,rfl,q _ (I.hok.fresh (Nat.le_refl _))⟩;exact⟨Nat.le_trans (zD8 xs lo hi) hz,_,0,(r.drop (HT.sIx xs.length 0 lo)).take (HT.sIx xs.length xs.length hi-HT.sIx xs.length 0 lo),Heap.get?_push_size _ rfl⟩

def zGo:V->Bool
 | .non=>true
 | .bl _=>true
 | .int _=>true
 | .str _=>true
 | _=>false
def eqV:V->V->Bool
 | .non,.non=>true
 | .bl a,.bl b=>a == b
 | .bl a,.int b=>(if a then 1 else 0) == b
 | .int a,.bl b=>a ==(if b then 1 else 0)
 | .int a,.int b=>a == b
 | .str a,.str b=>a == b
 | _,_=>false
theorem zWa{A:Around}{s:Shared}{y x:V}{u v:Value}(ry:xI y u)(rx:xI x v)(fy:zGo y=true)(fx:zGo x=true):SeqAt.EqAt A s u v (eqV y x):=by
 cases y with
 | non =>
  cases ry;cases x with
  | non=>cases rx; exact SeqAt.EqAt.same _
  | bl b=>cases rx; exact SeqAt.EqAt.none_bool b
  | int b=>obtain⟨t,rfl⟩:=rx; exact SeqAt.EqAt.none_int b t
  | str b=>obtain⟨t,rfl⟩:=rx; exact SeqAt.EqAt.none_str b t
  | _=>exact absurd (show false=true from fx) Bool.false_ne_true
 | bl a =>
  cases ry;cases x with
  | non=>cases rx; exact SeqAt.EqAt.bool_none a
  | bl b=>cases rx; exact SeqAt.EqAt.bool_bool a b
  | int b=>obtain⟨t,rfl⟩:=rx; exact SeqAt.EqAt.bool_int a b t
  | str b=>obtain⟨t,rfl⟩:=rx; exact SeqAt.EqAt.bool_str a b t
  | _=>exact absurd (show false=true from fx) Bool.false_ne_true
 | int a =>
  obtain⟨t',rfl⟩:=ry;cases x with
  | non=>cases rx; exact SeqAt.EqAt.int_none a t'
  | bl b=>cases rx; exact SeqAt.EqAt.int_bool a t' b
  | int b=>obtain⟨t,rfl⟩:=rx; exact SeqAt.EqAt.int_int a t' b t
  | str b=>obtain⟨t,rfl⟩:=rx; exact SeqAt.EqAt.int_str a t' b t
  | _=>exact absurd (show false=true from fx) Bool.false_ne_true
 | str a =>
  obtain⟨t',rfl⟩:=ry;cases x with
  | non=>cases rx; exact SeqAt.EqAt.str_none a t'
  | bl b=>cases rx; exact SeqAt.EqAt.str_bool a t' b
  | int b=>obtain⟨t,rfl⟩:=rx; exact SeqAt.EqAt.str_int a t' b t
  | str b=>obtain⟨t,rfl⟩:=rx; exact SeqAt.EqAt.str_str a t' b t
  | _=>exact absurd (show false=true from fx) Bool.false_ne_true
 | _=>exact absurd (show false=true from fy) Bool.false_ne_true
def eqU(x:V)(u:Value):Bool:=match u with
 | .none=>eqV .non x
 | .bool b=>eqV (.bl b) x
 | .int i _=>eqV (.int i) x
 | .str z _=>eqV (.str z) x
 | _=>false
theorem zSm{x y:V}{u:Value}(r:xI y u)(f:zGo y=true):eqU x u=eqV y x:=by
 cases y with
 | non=>cases r; rfl
 | bl b=>cases r; rfl
 | int i=>obtain⟨t,rfl⟩:=r; rfl
 | str z=>obtain⟨t,rfl⟩:=r; rfl
 | _=>exact absurd (show false=true from f) Bool.false_ne_true
theorem zKc{x:V} : ∀{xs:List V}{us:List Value},yS xs us->xs.all zGo=true->us.any (eqU x)=xs.any λy=>eqV y x
 | _,_,.nil,_=>rfl
 | y::xs,u::us,.cons r t,f=>by
  rw[List.all_cons,Bool.and_eq_true] at f;rw[List.any_cons,List.any_cons,zSm r f.1,zKc t f.2]
theorem zG7{A:Around}{s:Shared}{x:V}{v:Value}(rx:xI x v)(fx:zGo x=true):∀{xs:List V}{us:List Value},yS xs us->xs.all zGo=true->∀ u∈us,SeqAt.EqAt A s u v (eqU x u)
 | _,_,.nil,_=>λu hu=>by cases hu
 | y::xs,u::us,.cons r t,f=>λu' hu=>by
  rw[List.all_cons,Bool.and_eq_true] at f;rcases List.mem_cons.mp hu with rfl | hu
  ·rw[zSm r f.1]; exact zWa r rx f.1 fx
  ·exact zG7 rx fx t f.2 u' hu
def inV(x:V)(xs:List V):Bool:=xs.any λy=>eqV y x
def rIn(K:PySem.W.Frag)(neg:Bool):R2:=λx y H Q=>∃ p xs,y=.ref p/\(SqL K H p xs\/SqT K H p xs)/\zGo x=true/\xs.all zGo=true/\Q (.bl (if neg then !inV x xs else inV x xs)) H
theorem zIm:OpR X (compareOp .In) (rIn X.K false):=by
 intro pins s σ H x y v u Q I rx ry h;obtain⟨p,xs,rfl,hq,fx,fs,q⟩:=h;cases ry;rcases hq with hq | hq
 ·obtain⟨its,r,pl,hz⟩:=I.list hq;refine SeqAt.in_listAt (eqU x) pl.isList (λw hw=>zG7 rx fx r fs w (by simpa using hw)) ⟨.bl _,H,I,rfl,?_⟩;rw[show its.toArray.any (eqU x)=its.any (eqU x) by simp,zKc r fs];exact q
 ·obtain⟨its,r,pl,hz⟩:=I.tuple hq;refine SeqAt.in_tupleAt (eqU x) pl (λw hw=>zG7 rx fx r fs w (by simpa using hw)) ⟨.bl _,H,I,rfl,?_⟩;rw[show its.toArray.any (eqU x)=its.any (eqU x) by simp,zKc r fs];exact q
theorem wN:wO X (.builtin "len") (λxs H Q=>∃ p ys,xs=[.ref p]/\(SqL X.K H p ys\/SqT X.K H p ys)/\Q (.int ys.length) H):=by
 intro pins s σ H xs us Q I r h;obtain⟨p,ys,rfl,hq,q⟩:=h;obtain⟨u,rfl,rx⟩:=zB1 r;cases rx;have hn:=zFv;rcases hq with hq | hq
 ·obtain⟨its,r',pl,hz⟩:=I.list hq;have hlen:=r'.length;exact Calls.call_len_list pl.isList (by simp only[List.size_toArray] <;> lia) ⟨.int ys.length,H,I.tok _,⟨s.toks+1,by rw[List.size_toArray,hlen]⟩,q⟩
 ·obtain⟨its,r',pl,hz⟩:=I.tuple hq;have hlen:=r'.length;exact len_tuple pl (by simp only[List.size_toArray] <;> lia) ⟨.int ys.length,H,I.tok _,⟨s.toks+1,by rw[List.size_toArray,hlen]⟩,q⟩
theorem zCb:wO X (.builtin "len") (λxs H Q=>∃ z,xs=[.str z]/\z.length<=sizeLine/\Q (.int z.length) H):=by
 intro pins s σ H xs us Q I r h;obtain⟨z,rfl,hz,q⟩:=h;obtain⟨u,rfl,t,rfl⟩:=zB1 r;have hn:=zFv;exact len_str (by lia) ⟨.int z.length,H,I.tok _,⟨_,rfl⟩,q⟩
theorem wO.or{f:Value}{r r':List V->Hp->VK->Prop}(h:wO X f r)(h':wO X f r'):wO X f (λxs H Q=>r xs H Q\/r' xs H Q):=by
 intro pins s σ H xs us Q I rs q;rcases q with q | q
 ·exact h pins s σ H xs us Q I rs q
 ·exact h' pins s σ H xs us Q I rs q
theorem zCi:wO X (.type "list") (λxs H Q=>∃ p ys,xs=[.ref p]/\(SqL X.K H p ys\/SqT X.K H p ys)/\∀ l,H l=none->Q (.ref l) (upd H l (.lst ys))):=by
 intro pins s σ H xs us Q I r h;obtain⟨p,ys,rfl,hq,q⟩:=h;obtain⟨u,rfl,rx⟩:=zB1 r;cases rx;have fin:∀(its:List Value),yS ys its->ys.length<=sizeLine->∀(h':Heap)(c':Nat),(∀ b o',s.heap.get? b=some o'->h'.get? b=some o') ->
   h'.get? s.heap.objs.size=some { cls:=.type "list", dict:=none,data:=.seq its.toArray c',slots:=#[] }->EP X pins σ Q (.ref s.heap.objs.size) { s with heap:=h' }:=λits r' hz h' c' kp e =>
  ⟨.ref s.heap.objs.size,_,I.laid (t':=s.toks) kp (Nat.le_refl _) (show xZ X.prog X.w _ h' _ (.lst ys) from⟨hz,its,c',r',e⟩),rfl,q _ (I.hok.fresh (Nat.le_refl _))⟩
 rcases hq with hq | hq
 ·obtain⟨its,r',pl,hz⟩:=I.list hq;have hlen:=r'.length;obtain⟨o,ho,hc,n,hd⟩:=pl.isList;exact call_list_seq p (.inl rfl) ho hc hd (λh' c' kp e=>fin its r' hz h' c' kp e) (by simp only[List.size_toArray] <;> lia)
 ·obtain⟨its,r',pl,hz⟩:=I.tuple hq;have hlen:=r'.length;obtain⟨o,ho,hc,n,hd⟩:=pl;exact call_list_seq p (.inr rfl) ho hc hd (λh' c' kp e=>fin its r' hz h' c' kp e) (by simp only[List.size_toArray] <;> lia)
theorem zG5:wO X (.type "tuple") (λxs H Q=>∃ p ys,xs=[.ref p]/\((SqL X.K H p ys/\∀ l,H l=none->Q (.ref l) (upd H l (.tup ys)))\/(SqT X.K H p ys/\Q (.ref p) H))):=by
 intro pins s σ H xs us Q I r h;obtain⟨p,ys,rfl,h⟩:=h;obtain⟨u,rfl,rx⟩:=zB1 r;cases rx;rcases h with ⟨hq,q⟩ | ⟨hq,q⟩
 ·obtain⟨its,r',pl,hz⟩:=I.list hq;have hlen:=r'.length;refine call_tuple_list pl.isList (λh' kp=>?_) (by simp only[List.size_toArray] <;> lia);have I1:Inv X pins σ H { s with heap:=h' }:=I.kept (t':=s.toks) kp;have I2:Inv X pins σ (upd H h'.objs.size (.tup ys)) { s with heap:=h'.push { cls:=.type "tuple", data:=.seq its.toArray } } :=
   I1.laid (t':=s.toks) (λb o e=>Heap.get?_push_of_some _ e) (Nat.le_refl _) (show xZ X.prog X.w _ _ _ (.tup ys) from⟨hz,its,r',IsTup.new _ _⟩)
  exact⟨.ref h'.objs.size,_,I2,rfl,q _ (I1.hok.fresh (Nat.le_refl _))⟩
 ·obtain⟨its,r',pl,hz⟩:=I.tuple hq;exact call_tuple_same pl ⟨.ref p,H,I,rfl,q⟩

def tyV(K:PySem.W.Frag)(T:String)(x:V)(H:Hp):Prop:=match x with
 | .str _=>T = "str"
 | .int _=>T = "int"
 | .ref p=>(T = "list" /\ ∃ xs,SqL K H p xs)\/(T = "tuple" /\ ∃ o,K.lookup p=some o/\o.cls=.type "tuple" /\ o.dict=none) \/
   (T = "dict" /\ ((∃ kvs,H p=some (.dK kvs))\/∃ kvs,H p=some (.dT kvs)))\/(T = "set" /\ ∃ S n,H p=some (.set S n))
 | _=>False
theorem zSk{pins:List (Addr×Obj)}{σ:St}{H:Hp}{s:Shared}{T:String}{x:V}{v:Value}(I:Inv X pins σ H s)(r:xI x v)(ty:tyV X.K T x H) :
  s.TypeIs v T/\∀ a,v=.ref a->∃ ob,s.heap.get? a=some ob/\ob.dict=none:=by
 cases x with
 | str z =>
  obtain⟨t,rfl⟩:=r;cases (show T = "str" from ty);exact⟨typeIs_str s z t,λ_ e=>nomatch e⟩
 | int i =>
  obtain⟨t,rfl⟩:=r;cases (show T = "int" from ty);exact⟨typeIs_int s i t,λ_ e=>nomatch e⟩
 | ref p =>
  cases r;rcases ty with ⟨rfl,xs,hq⟩ | ⟨rfl,o,hk,hc,hd⟩ | ⟨rfl,hk⟩ | ⟨rfl,S,n,hk⟩
  ·obtain⟨its,_,pl,_⟩:=I.list hq;refine⟨pl.isList.typeIs,λa e=>?_⟩;cases e;obtain⟨o,n,e,c,hd,_⟩:=pl;exact⟨o,e,hd⟩
  ·refine⟨⟨o,I.kIn p o hk,hc⟩,λa e=>?_⟩;cases e;exact⟨o,I.kIn _ o hk,hd⟩
  ·have z:∃ o,s.heap.get? p=some o/\o.ExactDict:=by
    rcases hk with ⟨kvs,hk⟩ | ⟨kvs,hk⟩
    ·obtain⟨_,_,_,_,o,_,_,e,ex,_⟩:=I.hok p _ hk;exact⟨o,e,ex⟩
    ·obtain⟨_,_,_,_,o,_,_,e,ex,_⟩:=I.hok p _ hk;exact⟨o,e,ex⟩
   obtain⟨o,e,ex⟩:=z;refine⟨⟨o,e,ex.1⟩,λa e2=>?_⟩;cases e2;exact⟨o,e,ex.2.1⟩
  ·obtain⟨o,_,_,_,e,ex,_⟩:=I.hok p _ hk;refine⟨⟨o,e,ex.1⟩,λa e2=>?_⟩;cases e2;exact⟨o,e,ex.2.1⟩
 | _=>exact False.elim ty
def tBM0(K:PySem.W.Frag)(T:String)(r:V->List V->Hp->VK->Prop)(to:TE):TE:=λσ H Q=>to σ H λx H1=>tyV K T x H1/\r x [] H1 Q
def tBM(K:PySem.W.Frag)(T:String)(r:V->List V->Hp->VK->Prop)(to:TE)(t:TA):TE:=λσ H Q=>to σ H λx H1=>tyV K T x H1/\t σ H1 λxs H2=>r x xs H2 Q
variable{o e:Expr}{es:List Expr}{to:TE}{t:TA}{name:Str}{apos cpos:Pos}{T id:String}{r:V->List V->Hp->VK->Prop}
theorem zV4(pa:PlainAttrs T)(slot:Slot T name id)(hty:typeOf (.builtin id)=pure (.type "method_descriptor"))(hm:MtR X id r)(ho:PE X o to)
  (hbase:attributeBase o name X.env (eval o X.env)=eval o X.env:=by rfl) (hline:(apos.endLine == cpos.line)=true:=by rfl):PE X (.Call (.Attribute o name apos) [] [] cpos) (tBM0 X.K T r to):=by
 intro pins s σ H Q I h;refine wpAny_Call_method0_late hbase hline (thn (ho pins s σ H _ I h) λv s1 ⟨x,H1,I1,r1,ty,q1⟩=>?_);obtain⟨h1,h2⟩:=zSk I1 r1 ty;exact⟨T,id,pa,slot,hty,h1,h2,Calls.callWith_builtin rfl (PySem.evalArgs_none (hm pins s1 σ H1 x [] v [] Q I1 r1 .nil q1))⟩
theorem zJw(pa:PlainAttrs T)(slot:Slot T name id)(hty:typeOf (.builtin id)=pure (.type "method_descriptor"))(hm:MtR X id r)(ho:PE X o to)(ha:PA X (e::es) t)
  (hbase:attributeBase o name X.env (eval o X.env)=eval o X.env:=by rfl)
  (hfew:((backTo cpos (starEach (e::es) X.env)).all (λx=>!x.1)&&(backToKw cpos (keywordEach [] X.env)).all (λx=>x.1.isSome)
   && decide ((e::es).length+([]:List Keyword).length+(if ([]:List Keyword).isEmpty then 0 else 1)<30))=true:=by rfl)
  (hline:(apos.endLine == cpos.line)=true:=by rfl) (hs:starEach (e::es) X.env=(false,eval e X.env)::starEach es X.env:=by rfl) (hplain:(backTo cpos (starEach es X.env)).any (·.1)=false:=by rfl) :
  PE X (.Call (.Attribute o name apos) (e::es) [] cpos) (tBM X.K T r to t):=by
 intro pins s σ H Q I h;refine wpAny_Call_method_late hbase hfew hline rfl (thn (ho pins s σ H _ I h) λv s1 ⟨x,H1,I1,r1,ty,q1⟩=>?_);obtain⟨h1,h2⟩:=zSk I1 r1 ty;exists T,id,pa,slot,hty,h1,h2;have hA:=ha cpos pins s1 σ H1 _ I1 q1;rw[hs] at hA ⊢;refine Calls.callWith_builtin (by show(false||(backTo cpos (starEach es X.env)).any (·.1))=false; rw[hplain] <;> rfl) (Calls.evalArgs_plain ?_);exact thn hA λus s2 ⟨vs,H2,I2,r2,q2⟩=>hm pins s2 σ H2 x vs v us Q I2 r1 r2 q2
end
end L2

namespace L2
open PySem PySem.Spec PyProof.Rows

def MtM(X:Cx)(id:String)(r:V->List V->Hp->VK->Prop):Prop :=
 ∀(pins:List (Addr×Obj))(s:Shared)(σ:St)(H:Hp)(x:V)(xs:List V)(v:Value)(us:List Value)(Q:VK),Inv X pins σ H s->xI x v->yS xs us->r x xs H Q ->
  wpAny (model X.prog X.w) X.A (call (.builtin id) (v::us)) (EP X pins σ Q) X.xe s

theorem yS.one:∀{x:V}{us:List Value},yS [x] us->∃ u,us=[u]/\xI x u
 | _,_,.cons r .nil=>⟨_,rfl,r⟩
theorem yS.two:∀{x y:V}{us:List Value},yS [x,y] us->∃ u v,us=[u,v]/\xI x u/\xI y v
 | _,_,_,.cons r (.cons q .nil)=>⟨_,_,rfl,r,q⟩
theorem yS.zero:∀{us:List Value},yS [] us->us=[]
 | _,.nil=>rfl
theorem yS.dropLast{xs:List V}{us:List Value}(h:yS xs us):yS xs.dropLast us.dropLast:=by
 induction h with
 | nil=>exact .nil
 | cons r t ih =>
  cases t with
  | nil=>exact .nil
  | cons q t'=>exact .cons r ih
theorem zM4{α:Type}(l:List α):l.eraseIdx (l.length-1)=l.dropLast:=by
 induction l with
 | nil=>rfl
 | cons a r ih =>
  cases r with
  | nil=>rfl
  | cons b r =>
   have e:(a::b::r).length-1=((b::r).length-1)+1:=by
    have h1:(a::b::r).length=r.length+2:=rfl;have h2:(b::r).length=r.length+1:=rfl;lia
   rw[e,List.eraseIdx_cons_succ,ih]
   all_goals rfl
section
variable{X:Cx}{pins:List (Addr×Obj)}{σ:St}{H:Hp}{s:Shared}{l b:Addr}{xs ys zs:List V}

theorem Inv.lset{its its':List Value}{n:Nat}{f:Array Value->Array Value}{t':Nat}(I:Inv X pins σ H s)(hH:H l=some (.lst xs))
  (e:s.heap.get? l=some { cls:=.type "list", data:=.seq its.toArray n }) (hf:f its.toArray=its'.toArray) (hv:yS ys its') (hz:ys.length<=sizeLine) :
  Inv X pins σ (upd H l (.lst ys)) { s with heap:=s.heap.update l (Obj.mapSeq f),toks:=t' }:=by
 have q:=PySem.IsL.update e f;rw[hf] at q;refine I.write (x:=l) (e:=l) (by rw[hH]; exact trivial) (.inl rfl) (λb' u hb hu=>(Heap.get?_update_other s.heap (Obj.mapSeq f) (Ne.symm hb)).trans hu) ⟨_,q⟩ ?_;exact⟨hz,its',_,hv,q⟩
theorem Inv.lnew{its:List Value}{t':Nat}(I:Inv X pins σ H s)(hv:yS ys its)(hz:ys.length<=sizeLine) :
  Inv X pins σ (upd H s.heap.objs.size (.lst ys)) { s with heap:=s.heap.push { cls:=.type "list", data:=.seq its.toArray },toks:=t' } :=
 I.laid (λ_ _ q=>Heap.get?_push_of_some _ q) (Nat.le_refl _) ⟨hz,its,0,hv,Heap.get?_push_size _ rfl⟩
theorem Inv.fresh(I:Inv X pins σ H s):H s.heap.objs.size=none:=I.hok.fresh (Nat.le_refl _)
theorem Inv.lstM(I:Inv X pins σ H s)(hH:H l=some (.lst xs)):xs.length<=sizeLine/\∃(its:List Value)(n:Nat),yS xs its/\xs.length=its.length/\s.heap.get? l=some { cls:=.type "list", data:=.seq its.toArray n }:=by
 obtain⟨z,its,n,r,e⟩:=I.hok l _ hH;exact⟨z,its,n,r,r.length,e⟩

theorem zR3{n:Nat}(h:n<=sizeLine):Builtin.List.listTooLong n=false:=by
 unfold Builtin.List.listTooLong;exact decide_eq_false (by lia)
end

section
variable{X:Cx}

def zNh:V->List V->Hp->VK->Prop:=λx vs H Q=>∃ l xs y,x=.ref l/\vs=[y]/\H l=some (.lst xs)/\xs.length<sizeLine/\Q .non (upd H l (.lst (xs++[y])))
theorem zAx:MtM X "list.append" zNh:=by
 intro pins s σ H x vs v us Q I rx rv h;obtain⟨l,xs,y,rfl,rfl,hH,hz,q⟩:=h;cases rx;obtain⟨u,rfl,ru⟩:=rv.one;obtain⟨z,its,n,r,hl,e⟩:=I.lstM hH;refine call_meets F.slot_list_append ⟨_,e,rfl⟩ F.entry_list_append (F.args_list_append_2 _ _) (PySem.list_append l its.toArray n u (by rw[List.size_toArray]; lia)) ⟨e,?_⟩;refine⟨.non,_,I.lset (its':=its++[u]) hH e (by simp) (r.append (.cons ru .nil)) ?_,rfl,q⟩;rw[List.length_append,List.length_singleton];lia

def zUb:V->List V->Hp->VK->Prop:=λx vs H Q=>∃ l b xs zs,x=.ref l/\vs=[.ref b]/\H l=some (.lst xs)/\H b=some (.lst zs)/\xs.length+zs.length<=sizeLine/\Q .non (upd H l (.lst (xs++zs)))
theorem zOc:MtM X "list.extend" zUb:=by
 intro pins s σ H x vs v us Q I rx rv h;obtain⟨l,b,xs,zs,rfl,rfl,hH,hB,hz,q⟩:=h;cases rx;obtain⟨u,rfl,ru⟩:=rv.one;cases ru;obtain⟨z,its,n,r,hl,e⟩:=I.lstM hH;obtain⟨z2,its2,n2,r2,hl2,e2⟩:=I.lstM hB;have hsz:its.toArray.size+its2.toArray.size<=sizeLine:=by rw[List.size_toArray,List.size_toArray]; lia
 have hlong:¬ (!its.toArray.isEmpty&&Builtin.List.listTooLong (its.toArray.size+its2.toArray.size))=true:=by
  rw[zR3 hsz,Bool.and_false];exact Bool.false_ne_true
 refine call_meets F.slot_list_extend ⟨_,e,rfl⟩ F.entry_list_extend (F.args_list_extend_2 _ _)
  (AutoSeq1.list_extend_list_list_0 l its.toArray n b its2.toArray n2 hlong (by rw[List.size_toArray]; lia) (by lia)) ⟨e,e2,?_⟩
 refine⟨.non,_,I.lset (its':=its++its2) hH e (by simp) (r.append r2) ?_,rfl,q⟩;rw[List.length_append];lia

def rPop:V->List V->Hp->VK->Prop:=λx vs H Q=>∃ l xs y,x=.ref l/\vs=[]/\H l=some (.lst xs)/\xs[xs.length-1]?=some y/\Q y (upd H l (.lst xs.dropLast))
theorem zXd:MtM X "list.pop" rPop:=by
 intro pins s σ H x vs v us Q I rx rv h;obtain⟨l,xs,y,rfl,rfl,hH,hy,q⟩:=h;cases rx;have hus:=rv.zero;subst hus;obtain⟨z,its,n,r,hl,e⟩:=I.lstM hH;obtain⟨u,hu,ru⟩:=r.get hy;have hy':its.toArray[its.toArray.size-1]?=some u:=by
  show its.toArray[its.length-1]?=some u;rw[<- Array.getElem?_toList,<- hl];exact hu
 refine call_meets F.slot_list_pop ⟨_,e,rfl⟩ F.entry_list_pop (F.args_list_pop_1 _) (MeetsSeq.list_pop_last l its.toArray n u hy' (by rw[List.size_toArray]; lia)) ⟨e,?_⟩;refine⟨y,_,I.lset (its':=its.dropLast) hH e ?_ r.dropLast ?_,ru,q⟩
 ·show its.toArray.eraseIdxIfInBounds (its.toArray.size-1)=its.dropLast.toArray;rw[List.size_toArray,List.eraseIdxIfInBounds_toArray,zM4]
 ·rw[List.length_dropLast];lia

def rCat:R2:=λx y H Q=>∃ l b xs zs,x=.ref l/\y=.ref b/\H l=some (.lst xs)/\H b=some (.lst zs)/\xs.length+zs.length<=sizeLine/\∀ p,H p=none->Q (.ref p) (upd H p (.lst (xs++zs)))
theorem zFs:OpR X (binaryOp .Add) rCat:=by
 intro pins s σ H x y v u Q I rx ry h;obtain⟨l,b,xs,zs,rfl,rfl,hH,hB,hz,q⟩:=h;cases rx;cases ry;obtain⟨z,its,n,r,hl,e⟩:=I.lstM hH;obtain⟨z2,its2,n2,r2,hl2,e2⟩:=I.lstM hB;refine PySem.P.add_list e e2 ?_ (by rw[List.size_toArray,List.size_toArray]; lia);have ea:its.toArray++its2.toArray=(its++its2).toArray:=by simp
 rw[ea];exact⟨.ref _,_,I.lnew (t':=s.toks) (r.append r2) (by rw[List.length_append]; lia),rfl,q _ I.fresh⟩
end


end L2

namespace Att
open PySem PySem.W PySem.Calls PyProof.Rows

theorem zEo{P:Params}{h:Heap} : ∀(ns:List Int)(vs:List Value),WellAll P h vs (ns.map WData.int)->IntsAre vs ns:=by
 intro ns
 induction ns with
 | nil =>
  intro vs w;rw[List.map_nil] at w;cases w;exact .nil
 | cons n ns ih =>
  intro vs w;rw[List.map_cons] at w;cases w with
  | cons a b =>
   cases a;exact .cons _ _ (ih _ b)

theorem zOk{l:OpenLaw}{n:Nat}(hn:l.most=some n){P:Params}{h:Heap}{args:List WData}{vals:List Value}
  (hpre:l.row.toRowW.claim.pre args=true) (hwl:WellAll P h vals args) :
  ∃ a vs ns,vals=[Value.ref a]/\args=[WData.list (ns.map WData.int)]/\h.get? a=some { cls:=.type "list", data:=.seq vs.toArray }/\IntsAre vs ns/\ns.length<=n:=by
 have hsh:WShape.hasAll [] args [.list .int]=true:=(pre_splitW hpre).1;have hc:l.pre.holds [] { args:=args }=true:=(pre_splitW hpre).2;obtain⟨d,r,rfl,h1,h2⟩:=hasAllW_cons hsh;obtain rfl:=hasAllW_nil h2;obtain⟨xs,rfl,h3⟩:=hasW_list h1;obtain⟨ns,rfl⟩:=items_int h3;have hlen:ns.length<=n:=by
  unfold OpenLaw.pre at hc;have h4:(WTm.not (.lt (.lit (.int (n:Int))) (.len (.arg 0)))).holds [] { args:=[.list (ns.map .int)] }=true:=by
   have h4:=(holds_andW hc).1;rw[hn] at h4;exact h4
  have h5:=condW_of h4 (w_not (w_lt w_lit (w_len_list (w_arg rfl))));rw[List.length_map] at h5;refine Nat.le_of_not_lt λq=>?_;have q':(n:Int)<((ns.length:Nat):Int):=by lia
  first
   | (rw[decide_eq_true q'] at h5; exact absurd h5 (by decide))
   | (simp at h5; lia)
 cases hwl with
 | cons w1 w2 =>
  cases w2;cases w1 with
  | list ho hall=>exact⟨_,_,ns,rfl,rfl,ho,zEo ns _ hall,hlen⟩

theorem zOg(l:OpenLaw)(args:List WData):l.row.toRowW.claim.post args (.bool true) args=true :=
 postW_of (r:=l.row.toRowW) (X:=(true == true))
  (show WShape.has [] (.bool true) .bool=true by first | rfl | decide | simp[WShape.has,WShape.arms,WShape.armsAll])
  (show(WTm.eq .res (.lit (.bool true))).value [] { args:=args,res:=some (.bool true),after:=args }=some (.bool (true == true)) from w_eq_bool (w_res rfl) w_lit) rfl

theorem attach_call{l:OpenLaw}{n:Nat}{q:Program}{loose:List Str}{XP:(Str->Option Value)->Heap->Prop}{YP:World->Heap->Prop}{d:DefRec}
  (hn:l.most=some n) (hdf:d.params.defaults=[])
  (call:∀(w:World)(s₀ s₁:Shared)(mg mb:Str->Option Value)(fa:Addr)(o:Obj)(pm cd doc:Value)(a:Addr)(vs:List Value)(ns:List Int),
   Ground q loose [] XP w s₀ mg mb s₁.heap->YP w s₁.heap ->
   s₁.heap.get? fa=some o->o.data=.func (docDef d.name d.params d.body d.scope pm cd doc)->s₁.heap.CodeRec cd d.name->mg d.name=some (.ref fa) ->
   s₁.heap.get? a=some { cls:=.type "list", data:=.seq vs.toArray }->IntsAre vs ns->ns.length<=n->s₁.gens = #[] ->
   codeAny (model l.prog w) callerA (.call (.ref fa) ⟨[.ref a],[]⟩) (λr s'=>r=.ok (.ret (.bool true))/\OldK s₁.heap s'.heap/\s'.os=s₁.os/\AllBare s'.gens) s₁) :
  WalkO q loose XP YP l.row.toRowW d [] (λf vs=>PySem.call f vs):=by
 intro w s₀ s₁ mg mb G Y fa o pm cd doc dV kV ho hd hcd hD hmg hg args vals as hpre hlay hrd hwl hlo;obtain rfl:dV=.none:=Dflts.none hD hdf;obtain rfl:kV=.none:=Dflts.noKw hD;obtain⟨a,vs,ns,rfl,rfl,hobj,hints,hlen⟩:=zOk hn hpre hwl;refine enter_call (codeAny_mono (call w s₀ s₁ mg mb fa o pm cd doc a vs ns G Y ho (fd_plain hd) hcd hmg hobj hints hlen hg) λr s' hq=>?_);obtain⟨rfl,h2,h3,h4⟩:=hq;exact⟨.inl ⟨.bool true,.bool true,[],rfl,λ_=>rfl,.bool true,zOg l _,λ_=>⟨List.Pairwise.nil,λ_ hm=>(nomatch hm)⟩⟩,h2,h3,h4⟩

section
variable{prog:Program}{w:World}{A:Around}{E:Value->Shared->Prop}{s:Shared}{K:Frag}

end
end Att

namespace L2
open PySem PySem.Spec PyProof.Rows

theorem zEd:∀{vs:List Value}{ns:List Int},IntsAre vs ns->yS (ns.map V.int) vs
 | _,_,.nil=>.nil
 | _,_,.cons n t h=>.cons ⟨t,rfl⟩ (zEd h)

def Only(H:Hp):Prop:=∀ b,H b=none\/∃ o xs,H b=some (.frz o (.lst xs))

theorem zRj{P:Program}{w:World}{K:PySem.W.Frag}{mg mb:Str->Option Value}{CX:CXT}{k:Nat}{fa a:Addr}{fd:FuncData}{x:Str}{sp:Sp}{s₁:Shared}{vs:List Value}{ns:List Int}
  (KX:K.In s₁.heap) (hns:s₁.heap.Ns mainGlobals mg) (hb:s₁.heap.Ns builtinsNs mb) (hbb:∀ x:Str,x ≠ "__name__" -> mb x=bootBuiltins x) (hlim:s₁.heap.NoLimit) (hg:s₁.gens = #[])
  (ha:s₁.heap.get? a=some { cls:=.type "list", data:=.seq vs.toArray }) (hi:IntsAre vs ns) (hl:ns.length<=sizeLine) (hr:qM k callerA)
  (F:∀ base:Heap,K.In base->base.Ns mainGlobals mg->xE P w K mg base CX k fa fd [x] sp) (hbind:∀(s:Shared)(u:Value),BindsTo s fd ⟨[u],[]⟩ [(x,u)])
  (hsp:∀ H:Hp,Only H->SqL K H a (ns.map V.int)->sp [.ref a] H (λv _=>v=.bl true) λ_ _ _=>False)
  (hCX:∀ H e s',CX [] H s₁ (λ_ _ _=>False) e s'->False) :
  codeAny (model P w) callerA (.call (.ref fa) ⟨[.ref a],[]⟩) (λr s'=>r=.ok (.ret (.bool true))/\OldK s₁.heap s'.heap/\s'.os=s₁.os/\AllBare s'.gens) s₁:=by
 have rv:=zEd hi;have lenV:=hi.length;have core:∀ H:Hp,Only H->SqL K H a (ns.map V.int)->HOk P w H s₁.heap->(∀ b,H b≠none->b=a)->(H a≠none->K.lookup a=none) ->
   codeAny (model P w) callerA (.call (.ref fa) ⟨[.ref a],[]⟩) (λr s'=>r=.ok (.ret (.bool true))/\OldK s₁.heap s'.heap/\s'.os=s₁.os/\AllBare s'.gens) s₁:=by
  intro H hO hS hok hA hK;have base_of:∀{b:Addr}{o:Obj},s₁.heap.get? b=some o->H b=none->(zRs s₁.heap H).get? b=some o:=λe n=>zQ4 e n;have noA:∀{b:Addr}{o:Obj}{es:Array DictEntry}{ep:Nat},s₁.heap.get? b=some o->o.data=.dict es ep->H b=none:=λ{b o es ep} e d=>by
   cases q:H b with
   | none=>rfl
   | some u =>
    have e':b=a:=hA b (by rw[q]; simp);subst e';rw[ha] at e; cases e;have d':Data.seq vs.toArray _=Data.dict es ep:=d;cases d'
  have nsK:∀{b:Addr}{m:Str->Option Value},s₁.heap.Ns b m->(zRs s₁.heap H).Ns b m:=λ{b m} ⟨o,es,ep,e,d,r⟩=>⟨o,es,ep,base_of e (noA e d),d,r⟩;have hKb:K.In (zRs s₁.heap H):=λb o e=>base_of (KX b o e) (by
   cases q:H b with
   | none=>rfl
   | some u =>
    have e':b=a:=hA b (by rw[q]; simp);subst e';rw[hK (by rw[q]; simp)] at e; cases e)
  have hM:Mod K mg (zRs s₁.heap H):=⟨hKb,nsK hns,⟨mb,nsK hb,hbb⟩,let ⟨mc,h1,h2⟩:=hlim;⟨mc,nsK h1,h2⟩⟩;have e0:zUm P w K mg (zRs s₁.heap H) callerA [] s₁ H:=⟨rfl,hM,λb o e=>zTr e,Nat.le_of_eq (zNr _ _),trivial,λb hb=>absurd (show b∈([]:List Addr) from hb) (by simp),hok,.of_eq hg⟩;refine codeAny_mono ((F _ hKb (nsK hns)).run callerA [] s₁ H ⟨[.ref a],[]⟩ [.ref a] [.ref a] _ _ hr e0 (hbind s₁ (.ref a)) (.cons rfl .nil) (hsp H hO hS)) λr s' h=>?_;cases r with
  | error e=>exact(hCX H e s' h).elim
  | ok fl =>
   cases fl with
   | next=>exact False.elim h
   | brk=>exact False.elim h
   | cont=>exact False.elim h
   | ret u =>
    obtain⟨v,H',os,bare,un,hok',r',q⟩:=h;have q':v=.bl true:=q;subst q';obtain rfl:u=Value.bool true:=r';refine⟨rfl,OldK.of_keep λb o e=>?_,os,bare⟩;cases q:H b with
    | none=>exact un.keep b o e q (by intro z; exact absurd (show b∈([]:List Addr) from z) (by simp)) (by simp)
    | some u =>
     rcases hO b with z | ⟨ob,xs,z⟩
     ·rw[q] at z; cases z
     ·have z2:=un.frzs b ob _ z;obtain⟨e1,_⟩:=hok b _ z;obtain⟨e2,_⟩:=hok' b _ z2;rw[e] at e1; cases e1;exact e2
 cases hk:K.lookup a with
 | some o =>
  have e:=KX a o hk;rw[ha] at e;cases e;refine core (λ_=>none) (λ_=>.inl rfl) (.inr ⟨_,vs.toArray,_,hk,rfl,rfl,rfl,by rw[List.size_toArray,lenV]; exact hl,by simpa using rv⟩) (λb u z=>by have z':(none:Option HO)=some u:=z; cases z') (λb z=>absurd rfl z) λz=>absurd rfl z
 | none =>
  refine core (λb=>if b=a then some (.frz { cls:=.type "list", data:=.seq vs.toArray } (.lst (ns.map V.int))) else none) (λb=>?_) (.inl (.inr ⟨{ cls:=.type "list", data:=.seq vs.toArray },if_pos rfl⟩)) (λb u z=>?_) (λb z=>?_) λ_=>hk
  ·by_cases hb:b=a
   ·exact .inr ⟨_,_,if_pos hb⟩
   ·exact .inl (if_neg hb)
  ·by_cases hb:b=a
   ·have z':=(if_pos hb).symm.trans z;cases z';subst hb;exact⟨ha,by rw[List.length_map]; exact hl,vs,_,rv,ha⟩
   ·have z':=(if_neg hb).symm.trans z;cases z'
  ·by_cases hb:b=a
   ·exact hb
   ·exact absurd (if_neg hb) z
end L2

namespace L2
open PySem PySem.Spec PyProof.Rows

end L2

namespace L2
open PySem PySem.Spec PyProof.Rows


abbrev CX0:CXT:=λ_ _ _ _ _ _=>False
abbrev E0:XK:=λ_ _ _=>False
theorem zM3{X:Cx} : zIp CX0 X E0:=λ_ _ _ _ _ _ _ h=>h.elim

structure Fun(K:PySem.W.Frag)(x qual:Str)(st:Stmt)(f:Addr)(fd:FuncData):Prop where
 ex:∃(oc:Value)(od:Option Addr)(kV doc pm:Value)(an:Option Addr)(cdv ct:Value)(osl:Array (Option Value)),
  fd=PySem.W.fnOf x qual (wA st) (xM st) (zJ st) .none kV doc pm an cdv ct/\K.lookup f=some ⟨oc,od,.func fd,osl⟩/\PySem.W.codeIn K cdv qual=true
 kp:PySem.W.keepIn K (.ref f)=true
section
variable{P:Program}{w:World}{K:PySem.W.Frag}{mg:Str->Option Value}{base:Heap}
theorem Fun.ok{x qual:Str}{st:Stmt}{f:Addr}{fd:FuncData}{N ps:List Str}{k:Nat}{sp:Sp}(F:Fun K x qual st f fd)(S:zN N ps (zJ st))(len:∀ vs H Q E,sp vs H Q E->vs.length=ps.length)
  (hbody:∀(cdv:Value)(A:Around)(outer:List Env)(s:Shared)(H:Hp)(vs:List V)(Q:VK)(E:XK),qM k (A.deeper (envOfC qual (zJ st) s.heap.objs.size f cdv))->sp vs H Q E ->
   ∃ t,PSs (cxOf CX0 P w K mg base N qual (zJ st) f cdv A outer s H E).nox (xM st) t/\t { nx:=λ_ H'=>Q .non H',rt:=Q } (start N vs) H):xE P w K mg base CX0 (k+1) f fd ps sp:=by
 obtain⟨oc,od,kV,doc,pm,an,cdv,ct,osl,rfl,lk,hcd⟩:=F.ex;refine zVg lk hcd S len λA outer s H vs Q E hr hsp=>?_;obtain⟨t,h,q⟩:=hbody cdv A outer s H vs Q E hr hsp;exact⟨t,h.nox,q⟩
theorem Fun.binds{x qual:Str}{st:Stmt}{f:Addr}{fd:FuncData}{ps:List Str}(F:Fun K x qual st f fd)
  (h:∀(kV doc pm:Value)(an:Option Addr)(cdv ct:Value)(us:List Value),us.length=ps.length->bindArgs (PySem.W.fnOf x qual (wA st) (xM st) (zJ st) .none kV doc pm an cdv ct) ⟨us,[]⟩=pure (ps.zip us)):zAt K fd ps []:=by
 obtain⟨oc,od,kV,doc,pm,an,cdv,ct,osl,rfl,lk,hcd⟩:=F.ex;exact .all (h kV doc pm an cdv ct)
theorem zPm{x qual:Str}{st:Stmt}{f:Addr}{oc:Value}{od an:Option Addr}{osl:Array (Option Value)}{kV doc pm cdv ct:Value}(l:K.lookup f=some ⟨oc,od,.func (PySem.W.fnOf x qual (wA st) (xM st) (zJ st) .none kV doc pm an cdv ct),osl⟩)
  (c:PySem.W.codeIn K cdv qual=true) (k:PySem.W.keepIn K (.ref f)=true):Fun K x qual st f (PySem.W.fnOf x qual (wA st) (xM st) (zJ st) .none kV doc pm an cdv ct):=⟨⟨oc,od,kV,doc,pm,an,cdv,ct,osl,rfl,l,c⟩,k⟩
end
theorem yA{A:Around}{k:Nat}(hr:qM k A):A.units+1<cLine:=Nat.lt_of_le_of_lt (Nat.add_le_add_left (by decide:1<=64) _) hr.units
theorem zK{n:Nat}(h:n<=1000):n<sizeLine:=Nat.lt_of_le_of_lt h (by decide)

section
variable{X:Cx}
theorem pv(i:Nat){x:Str}{pos:Pos}(hN:X.N[i]?=some x:=by rfl)(hv:Vis X.env.scope x:=by first | exact Or.inl rfl | exact Or.inr (Or.inl rfl) | exact Or.inr (Or.inr rfl))(hd:(x ==("__debug__" : Str))=false:=by decide)
  (hcd:(x ==("__classdict__" : Str))=false:=by decide):PE X (.Name x pos) (zRv i):=zXp hN hv hd hcd
end

theorem xP{A B:Prop}(h:B):if false=true then A else B:=by
 rw[if_neg Bool.false_ne_true];exact h
theorem zE3{A B:Prop}(h:A):if true=true then A else B:=by
 rw[if_pos rfl];exact h
theorem ite2{c A B:Prop}[Decidable c](h1:c->A)(h2:¬ c->B):if c then A else B:=by
 by_cases h:c
 ·rw[if_pos h];exact h1 h
 ·rw[if_neg h];exact h2 h
def Same(H H':Hp):Prop:=∀ b o,H b=some o->H' b=some o
theorem Same.refl(H:Hp):Same H H:=λ_ _ h=>h
theorem Same.trans{H H1 H2:Hp}(a:Same H H1)(b:Same H1 H2):Same H H2:=λc o h=>b c o (a c o h)
theorem Same.free{H H':Hp}(e:Same H H'){l:Addr}(h:H' l=Option.none):H l=Option.none:=by
 cases q:H l with
 | none=>rfl
 | some o =>
  rw[e l o q] at h;cases h
theorem Same.seq{K:PySem.W.Frag}{H H':Hp}{a:Addr}{xs:List V}(e:Same H H')(h:SqL K H a xs):SqL K H' a xs:=by
 rcases h with (h | ⟨o,h⟩) | h
 ·exact .inl (.inl (e _ _ h))
 ·exact .inl (.inr ⟨o,e _ _ h⟩)
 ·exact .inr h

end L2

namespace Sea
def rH(ns:List Int):Nat:=ns.foldl (λg n=>Nat.gcd g n.natAbs) 0
theorem zK0:∀(ns:List Int)(g:Nat),ns.foldl (λg n=>Nat.gcd g n.natAbs) g ∣ g/\∀ n∈ns,ns.foldl (λg n=>Nat.gcd g n.natAbs) g ∣ n.natAbs
 | [],g=>⟨Nat.dvd_refl g,λ_ h=>nomatch h⟩
 | x::r,g=>by
  obtain⟨h1,h2⟩:=zK0 r (Nat.gcd g x.natAbs);refine⟨Nat.dvd_trans h1 (Nat.gcd_dvd_left _ _),λn hn=>?_⟩;rcases List.mem_cons.mp hn with e | e
  ·rw[e];exact Nat.dvd_trans h1 (Nat.gcd_dvd_right _ _)
  ·exact h2 n e
theorem zA3{ns:List Int}{n:Int}(h:n∈ns):rH ns ∣ n.natAbs:=(zK0 ns 0).2 n h
theorem sC{ns:List Int}{n:Int}(h:n∈ns):(rH ns:Int) ∣ n:=Int.ofNat_dvd_left.mpr (zA3 h)
theorem zLj{d:Nat} : ∀(ns:List Int)(g:Nat),d ∣ g->(∀ n∈ns,d ∣ n.natAbs)->d ∣ ns.foldl (λg n=>Nat.gcd g n.natAbs) g
 | [],_,h,_=>h
 | x::r,g,h,hr=>zLj r _ (Nat.dvd_gcd h (hr x List.mem_cons_self)) λn hn=>hr n (List.mem_cons_of_mem _ hn)
theorem zRb{d:Nat}{ns:List Int}(h:∀ n∈ns,d ∣ n.natAbs):d ∣ rH ns:=zLj ns 0 (Nat.dvd_zero d) h
theorem zGg{ns:List Int}{n:Int}(h:n∈ns)(h0:n≠0):0<rH ns:=by
 rcases Nat.eq_zero_or_pos (rH ns) with e | e
 ·have q:=zA3 h;rw[e,Nat.zero_dvd] at q;lia
 ·exact e
def zM6(ns:List Int):List Int:=ns.map λn=>n/(rH ns:Int)
theorem rM{ns:List Int}{n:Int}(h:n∈ns):n/(rH ns:Int)*(rH ns:Int)=n:=Int.ediv_mul_cancel (sC h)
theorem zHq{ns:List Int}(h:0<rH ns):rH (zM6 ns)=1:=by
 have key:rH ns*rH (zM6 ns) ∣ rH ns:=by
  refine zRb λn hn=>?_;have h1:rH (zM6 ns) ∣ (n/(rH ns:Int)).natAbs:=zA3 (List.mem_map.mpr ⟨n,hn,rfl⟩);obtain⟨c,hc⟩:=h1;have h2:=congrArg Int.natAbs (rM hn);rw[Int.natAbs_mul,Int.natAbs_natCast,hc] at h2;rw[<- h2];exact⟨c,by rw[Nat.mul_comm,Nat.mul_assoc]⟩
 obtain⟨c,hc⟩:=key;have h3:rH ns*(rH (zM6 ns)*c)=rH ns*1:=by
  rw[<- Nat.mul_assoc,<- hc,Nat.mul_one]
 have h4:=Nat.eq_of_mul_eq_mul_left h h3;exact Nat.dvd_one.mp ⟨c,h4.symm⟩
theorem zLz(x y:Int):rH [x,y]=Nat.gcd x.natAbs y.natAbs:=by
 show Nat.gcd (Nat.gcd 0 x.natAbs) y.natAbs=_;rw[Nat.gcd_zero_left]
end Sea
namespace Sea
structure zSa(t b x y:Int):Prop where
 pos:1<=y
 low:Nat.gcd x.natAbs y.natAbs=1
 eq:x*b=y*t
 xle:x.natAbs<=t.natAbs
 yle:y.natAbs<=b.natAbs
theorem rB(n:Int){g:Int}(hg:0<g)(h:g ∣ n):(n/g).natAbs<=n.natAbs:=by
 obtain⟨c,hc⟩:=h;subst hc;rw[Int.mul_ediv_cancel_left c (by lia),Int.natAbs_mul];exact Nat.le_mul_of_pos_left _ (by lia)
theorem zU5(t:Int){b:Int}(hb:b≠0):∃ x y:Int,(zM6 (if b<0 then [t,b].map (λn=>-n) else [t,b]))=[x,y]/\zSa t b x y:=by
 have key:∀(t b:Int),0<b->∃ x y:Int,zM6 [t,b]=[x,y]/\zSa t b x y:=λt b hb=>by
  have gp:0<rH [t,b]:=zGg (n:=b) (by simp) (by lia);have e1:=rM (ns:=[t,b]) (n:=t) (by simp);have e2:=rM (ns:=[t,b]) (n:=b) (by simp);have gI:(0:Int)<(rH [t,b]:Int):=by lia
  refine⟨t/(rH [t,b]:Int),b/(rH [t,b]:Int),rfl,?_,?_,?_,rB t gI (sC (by simp)),rB b gI (sC (by simp))⟩
  ·exact Int.ediv_pos_of_pos_of_dvd hb (Int.le_of_lt gI) (sC (by simp))
  ·have h3:=zHq gp;rw[<- zLz];exact h3
  ·generalize (rH [t,b]:Int)=g at e1 e2
   calc t/g*b=t/g*(b/g*g):=by rw[e2]
    _=b/g*(t/g*g):=by rw[<- Int.mul_assoc,<- Int.mul_assoc,Int.mul_comm (t/g)]
    _=b/g*t:=by rw[e1]
 by_cases h:b<0
 ·rw[if_pos h];obtain⟨x,y,e,p⟩:=key (-t) (-b) (by lia);refine⟨x,y,e,p.pos,p.low,?_,by have:=p.xle; lia,by have:=p.yle; lia⟩;have q:=p.eq;rw[Int.mul_neg,Int.mul_neg] at q;lia
 ·rw[if_neg h];exact key t b (by lia)
end Sea
namespace Sea
theorem wU(a b:Int){m n:Nat}(ha:a.natAbs<=m)(hb:b.natAbs<=n):(a*b).natAbs<=m*n:=by
 rw[Int.natAbs_mul];exact Nat.mul_le_mul ha hb
end Sea
namespace Sea
theorem dir_low{X Y:Int}(h:X≠0\/Y≠0):∃ x y:Int,zM6 [X,Y]=[x,y]/\0<rH [X,Y]/\(rH [X,Y]<=X.natAbs\/rH [X,Y]<=Y.natAbs)/\Nat.gcd x.natAbs y.natAbs=1/\x*Y-y*X=0/\0<x*X+y*Y/\x.natAbs<=X.natAbs/\y.natAbs<=Y.natAbs:=by
 have gp:0<rH [X,Y]:=by
  rcases h with h | h
  ·exact zGg (n:=X) (by simp) h
  ·exact zGg (n:=Y) (by simp) h
 have gI:(0:Int)<(rH [X,Y]:Int):=by lia
 have e1:=rM (ns:=[X,Y]) (n:=X) (by simp);have e2:=rM (ns:=[X,Y]) (n:=Y) (by simp);refine⟨X/(rH [X,Y]:Int),Y/(rH [X,Y]:Int),rfl,gp,?_,?_,?_,?_,rB X gI (sC (by simp)),rB Y gI (sC (by simp))⟩
 ·rcases h with h | h
  ·exact .inl (Nat.le_of_dvd (by lia) (zA3 (by simp)))
  ·exact .inr (Nat.le_of_dvd (by lia) (zA3 (by simp)))
 ·rw[<- zLz];exact zHq gp
 ·generalize (rH [X,Y]:Int)=g at e1 e2;generalize X/g=x at e1;generalize Y/g=y at e2;rw[<- e1,<- e2,<- Int.mul_assoc,<- Int.mul_assoc,Int.mul_comm x y];lia
 ·generalize (rH [X,Y]:Int)=g at e1 e2 gI;have f1:0<=X/g*X:=by
   have:X/g*X=X/g*(X/g)*g:=by rw[Int.mul_assoc,e1]
   rw[this];exact Int.mul_nonneg (by rw[<- Int.natAbs_mul_self]; exact Int.natCast_nonneg _) (Int.le_of_lt gI)
  have f2:0<=Y/g*Y:=by
   have:Y/g*Y=Y/g*(Y/g)*g:=by rw[Int.mul_assoc,e2]
   rw[this];exact Int.mul_nonneg (by rw[<- Int.natAbs_mul_self]; exact Int.natCast_nonneg _) (Int.le_of_lt gI)
  rcases h with h | h
  ·have:X/g*X≠0:=Int.mul_ne_zero (λz=>h (by rw[<- e1,z,Int.zero_mul])) h;lia
  ·have:Y/g*Y≠0:=Int.mul_ne_zero (λz=>h (by rw[<- e2,z,Int.zero_mul])) h;lia
end Sea
namespace Sea
end Sea
namespace Sea
structure SpotOf(X Y W x y w:Int):Prop where
 pos:1<=w
 low:Nat.gcd (Nat.gcd x.natAbs y.natAbs) w.natAbs=1
 ex:x*W=X*w
 ey:y*W=Y*w
 xle:x.natAbs<=X.natAbs
 yle:y.natAbs<=Y.natAbs
 wle:w.natAbs<=W.natAbs
end Sea
namespace Sea
end Sea

namespace Sea
theorem zXf{a b:Int}(h:a≠0\/b≠0):1<=a*a+b*b:=by
 have s1:0<=a*a:=by rw[<- Int.natAbs_mul_self]; exact Int.natCast_nonneg _
 have s2:0<=b*b:=by rw[<- Int.natAbs_mul_self]; exact Int.natCast_nonneg _
 rcases h with h | h
 ·have:a*a≠0:=Int.mul_ne_zero h h;lia
 ·have:b*b≠0:=Int.mul_ne_zero h h;lia
end Sea
namespace Sea
end Sea

namespace Sea
end Sea

namespace L2
open PySem PySem.Spec PyProof.Rows

structure CC where
 C:Addr
 s:Shared
 H:Hp
 fp:List Addr

def vZ(env:Env):List (Str×NameKind)->List (Str×Addr)->List (Str×Addr)
 | [],cs=>cs
 | (n,k)::r,cs=>vZ env r (if (k == NameKind.free)=true then(n,(env.cells.lookup n).getD 0)::cs else cs)
theorem zKn{scope:Scope}{env:Env}(h:∀ x∈scope.names,x.2=.free->∃ c,env.cells.lookup x.1=some c):closureFor scope env=pure (vZ env scope.names []):=by
 simp only[closureFor];have key:∀(names:List (Str×NameKind))(cs:List (Str×Addr)),(∀ x∈names,x.2=.free->∃ c,env.cells.lookup x.1=some c) ->
  (forIn names cs (λ(x:Str×NameKind) (r:List (Str×Addr))=>match x with | (name,kind)=>if (kind == NameKind.free)=true then(do let a <- cellOf env name; pure (ForInStep.yield ((name,a)::r))) else pure (ForInStep.yield r)):Sem (List (Str×Addr)))=pure (vZ env names cs):=by
  intro names
  induction names with
  | nil=>intro cs _; rfl
  | cons x r ih =>
   intro cs hx;obtain⟨n,k⟩:=x;rw[List.forIn_cons];have hr:=ih (if (k == NameKind.free)=true then(n,(env.cells.lookup n).getD 0)::cs else cs) λy hy=>hx y (List.mem_cons_of_mem _ hy);by_cases hk:(k == NameKind.free)=true
   ·obtain⟨c,hc⟩:=hx (n,k) List.mem_cons_self (by simpa using hk);have e:cellOf env n=pure c:=by unfold cellOf; rw[hc]
    rw[if_pos hk] at hr;have hc':env.cells.lookup n=some c:=hc;rw[hc'] at hr;show(((if (k == NameKind.free)=true then(do let a <- cellOf env n; pure (ForInStep.yield ((n,a)::cs))) else pure (ForInStep.yield cs)):Sem _) >>= _)=_;rw[if_pos hk,e];refine Eq.trans ?_ (hr.trans ?_)
    ·rfl
    ·rw[vZ,if_pos hk,hc']
   ·rw[if_neg hk] at hr;show(((if (k == NameKind.free)=true then(do let a <- cellOf env n; pure (ForInStep.yield ((n,a)::cs))) else pure (ForInStep.yield cs)):Sem _) >>= _)=_;rw[if_neg hk];refine Eq.trans ?_ (hr.trans ?_)
    ·rfl
    ·rw[vZ,if_neg hk]
 exact congrArg (λ(z:Sem (List (Str×Addr)))=>z >>= λcs=>pure cs) (key scope.names [] h)
theorem tN{env:Env} : ∀(names:List (Str×NameKind))(cs:List (Str×Addr)),(∀ x∈names,x.2=.free->∃ c,env.cells.lookup x.1=some c) ->
  (∀ x c,cs.lookup x=some c->env.cells.lookup x=some c)->∀ x c,(vZ env names cs).lookup x=some c->env.cells.lookup x=some c
 | [],_,_,hc=>hc
 | (n,k)::r,cs,h,hc=>by
  refine tN r _ (λy hy=>h y (List.mem_cons_of_mem _ hy)) λx c=>?_;by_cases hk:(k == NameKind.free)=true
  ·rw[if_pos hk];obtain⟨d,hd⟩:=h (n,k) List.mem_cons_self (by simpa using hk);have hd':env.cells.lookup n=some d:=hd;intro e;rw[List.lookup_cons] at e;cases hx:x == n with
   | true =>
    rw[hx,hd'] at e;have ex:x=n:=by simpa using hx
    rw[ex,hd'];exact e
   | false =>
    rw[hx] at e;exact hc x c e
  ·rw[if_neg hk];exact hc x c
theorem qO{env:Env} : ∀(names:List (Str×NameKind))(cs:List (Str×Addr))(x:Str),((x,NameKind.free)∈names\/∃ c,cs.lookup x=some c)->∃ c,(vZ env names cs).lookup x=some c
 | [],_,_,h=>h.elim (λz=>nomatch z) id
 | (n,k)::r,cs,x,h=>by
  refine qO r _ x ?_;by_cases hk:(k == NameKind.free)=true
  ·rw[if_pos hk];cases hx:x == n with
   | true=>exact .inr ⟨_,by rw[List.lookup_cons,hx]⟩
   | false =>
    rcases h with h | ⟨c,h⟩
    ·rcases List.mem_cons.mp h with e | e
     ·injection e with e1 _
      subst e1;simp at hx
     ·exact .inl e
    ·exact .inr ⟨c,by rw[List.lookup_cons,hx]; exact h⟩
  ·rw[if_neg hk];rcases h with h | h
   ·rcases List.mem_cons.mp h with e | e
    ·injection e with _ e2
     subst e2;exact absurd rfl hk
    ·exact .inl e
   ·exact .inr h
theorem qQ{env:Env} : ∀{names:List (Str×NameKind)}{x:Str},names.lookup x=some .free ->
  (names.map λ(n,k)=>if (k == NameKind.free&&env.scope.kind == .function&&env.kindOf n == some .cell) then(n,NameKind.cell) else(n,k)).lookup x=some .cell \/
  (names.map λ(n,k)=>if (k == NameKind.free&&env.scope.kind == .function&&env.kindOf n == some .cell) then(n,NameKind.cell) else(n,k)).lookup x=some .free
 | [],_,h=>by simp at h
 | (n,k)::r,x,h=>by
  have ih:=@qQ env r x;show List.lookup x ((if (k == NameKind.free&&env.scope.kind == .function&&env.kindOf n == some .cell)=true then(n,NameKind.cell) else(n,k))::_)=_\/List.lookup x ((if (k == NameKind.free&&env.scope.kind == .function&&env.kindOf n == some .cell)=true then(n,NameKind.cell) else(n,k))::_)=_;by_cases hc:(k == NameKind.free&&env.scope.kind == .function&&env.kindOf n == some .cell)=true
  ·rw[if_pos hc];cases hx:x == n with
   | true=>exact .inl (by rw[List.lookup_cons,hx])
   | false =>
    rw[List.lookup_cons,hx] at h;rw[List.lookup_cons,hx];exact ih h
  ·rw[if_neg hc];cases hx:x == n with
   | true =>
    rw[List.lookup_cons,hx] at h;exact .inr (by rw[List.lookup_cons,hx]; exact h)
   | false =>
    rw[List.lookup_cons,hx] at h;rw[List.lookup_cons,hx];exact ih h
theorem qK{env:Env} : ∀{names:List (Str×NameKind)}{x:Str}{j:NameKind},(∀ y∈names,y.2≠.cell)->(j=.cell\/j=.free) ->
  (names.map λ(n,k)=>if (k == NameKind.free&&env.scope.kind == .function&&env.kindOf n == some .cell) then(n,NameKind.cell) else(n,k)).lookup x=some j->(x,NameKind.free)∈names
 | [],_,_,_,_,h=>by simp at h
 | (n,k)::r,x,j,hn,hj,h=>by
  have ih:=@qK env r x j (λy hy=>hn y (List.mem_cons_of_mem _ hy)) hj;have hk0:k≠.cell:=hn (n,k) List.mem_cons_self
  replace h:List.lookup x ((if (k == NameKind.free&&env.scope.kind == .function&&env.kindOf n == some .cell)=true then(n,NameKind.cell) else(n,k))::(r.map λ(n,k)=>if (k == NameKind.free&&env.scope.kind == .function&&env.kindOf n == some .cell) then(n,NameKind.cell) else(n,k)))=some j:=h
  by_cases hc:(k == NameKind.free&&env.scope.kind == .function&&env.kindOf n == some .cell)=true
  ·rw[if_pos hc] at h;have hf:k=.free:=by
    simp only[Bool.and_eq_true] at hc;simpa using hc.1.1
   cases hx:x == n with
   | true =>
    have ex:x=n:=by simpa using hx
    subst ex;rw[<- hf];exact List.mem_cons_self
   | false =>
    rw[List.lookup_cons,hx] at h;exact List.mem_cons_of_mem _ (ih h)
  ·rw[if_neg hc] at h;cases hx:x == n with
   | true =>
    rw[List.lookup_cons,hx] at h;have ex:x=n:=by simpa using hx
    have ek:k=j:=Option.some.inj h;subst ex;rcases hj with hj | hj
    ·exact absurd (ek.trans hj) hk0
    ·rw[<- hj,<- ek];exact List.mem_cons_self
   | false =>
    rw[List.lookup_cons,hx] at h;exact List.mem_cons_of_mem _ (ih h)

def xX(X:Cx)(N:List Str)(scope:Scope)(c:CC):Cx where
 prog:=X.prog
 w:=X.w
 K:=X.K
 mg:=X.mg
 base:=X.base
 A:=X.A
 N:=N
 s₀:=c.s
 H₀:=c.H
 env:=compEnvC scope (vZ X.env scope.names []) c.C X.env
 outer:=X.stack
 stack:=X.stack
 ex:=c.fp
 fn:=λ_=>false
 calm:=X.calm
 pn:=[]
 xe:=λ_ _=>False

def zF6(X:Cx)(scope:Scope):List (Str×Nat)->Prop
 | []=>True
 | p::r=>(X.N[p.2]?=some p.1/\scope.names.lookup p.1=some .free/\(X.env.kindOf p.1=some .cell\/X.env.kindOf p.1=some .free))/\zF6 X scope r
theorem zF6.mem{X:Cx}{scope:Scope} : ∀{caps:List (Str×Nat)},zF6 X scope caps->∀ p∈caps,X.N[p.2]?=some p.1/\scope.names.lookup p.1=some .free/\(X.env.kindOf p.1=some .cell\/X.env.kindOf p.1=some .free)
 | [],_,_,h=>nomatch h
 | q::r,h,p,hp=>by
  rcases List.mem_cons.mp hp with e | e
  ·rw[e]; exact h.1
  ·exact zF6.mem h.2 p e
structure sA(X:Cx)(caps:List (Str×Nat))(scope:Scope):Prop where
 kind:scope.kind=.function
 nocell:∀ y∈scope.names,y.2≠.cell
 loc:∀ y∈scope.names,y.2=.local->scope.names.lookup y.1=some .local
 clos:(scope.names.all λx=>!(x.2 == .free)||(X.env.cells.lookup x.1).isSome)=true
 cap:zF6 X scope caps
theorem sA.cells{X:Cx}{caps:List (Str×Nat)}{scope:Scope}(S:sA X caps scope):∀ x∈scope.names,x.2=.free->∃ c,X.env.cells.lookup x.1=some c:=λx hx hf=>by
 have h:=List.all_eq_true.mp S.clos x hx;rw[hf] at h;simp only[Bool.or_eq_true] at h;rcases h with h | h
 ·exact absurd h (by decide)
 ·exact Option.isSome_iff_exists.mp h

def zD4(caps:List (Str×Nat))(nt:Nat)(σ:St):St:=List.replicate nt none++caps.map λp=>(σ[p.2]?).join

def zTi(Y:Cx)(ifs:List Expr)(t:TT):Prop :=
 ∀(pins:List (Addr×Obj))(s:Shared)(σ:St)(H:Hp)(Q:Bool->Hp->Prop),Inv Y pins σ H s->t σ H Q ->
  wpAny (model Y.prog Y.w) Y.A (forIn ifs true λc r=>if r=true then do let ok <- isTrue c Y.env (eval c Y.env); pure (ForInStep.yield ok) else pure (ForInStep.yield r)) (TP Y pins σ Q) Y.xe s
def zU9:TT:=λ_ H Q=>Q true H
theorem xH{Y:Cx} : zTi Y [] zU9:=λ_ _ _ H _ I h=>wpAny_tests_nil ⟨H,I,h⟩
theorem zLe{Y:Cx}{c:Expr}{t:TT}(h:PT Y c t):zTi Y [c] t:=λpins s σ H Q I q=>wpAny_tests_one (h pins s σ H Q I q)

def zCn(J:It)(D:Addr)(g:TG)(tt:TT)(te:TE)(σ0:St)(H1:Hp)(Q:VK):Prop :=
 ∃ W:Nat->Nat->St->List V->Hp->Prop,(∃ m,W 0 m σ0 [] (upd H1 D (.lst [])))/\∀ i m σ ys H,W i m σ ys H->H D=some (.lst ys) /\
  ((J.stop i H/\Q (.ref D) H)\/(J.go i H/\∃ N:St->List V->Hp->Prop,(∀ σ' zs H',N σ' zs H'->∃ m',m'<m/\W (i+1) m' σ' zs H')/\∀ x H',J.yld i H x H'->g x σ H' λσ2 H2=>tt σ2 H2 λb H3 =>
   if b=true then te σ2 H3 λy H4=>H4 D=some (.lst ys)/\ys.length<sizeLine/\N σ2 (ys++[y]) (upd H4 D (.lst (ys++[y]))) else N σ2 ys H3))
def zPp(nt:Nat)(caps:List (Str×Nat))(wi:TI)(g:CC->TG)(tt:CC->TT)(te:CC->TE):TE:=λσ H Q =>
 wi σ H λJ H1=>∀(c:CC)(D:Addr),H1 D=none->zCn J D (g c) (tt c) (te c) (zD4 caps nt σ) H1 Q

theorem zFe{α:Type}{t:Sem α}{Q Q':α->Shared->Prop}{M:Model}{A:Around}{E:Value->Shared->Prop}{s:Shared}(h:wpAny M A t Q (λ_ _=>False) s)(hQ:∀ a s,Q a s->Q' a s):wpAny M A t Q' E s:=wpAny_mono h hQ λ_ _ x=>x.elim
theorem Un.same{fs ex:List Addr}{H H':Hp}{h h1 h2:Heap}{C:Addr}(u:Un fs ex H H' h h1)(sb:Heap.SameBut C h1 h2)(hC:h.get? C=none):Un fs ex H H' h h2:=by
 have ne:∀ b o,h.get? b=some o->b≠C:=λb o e z=>by rw[z,hC] at e; cases e
 refine⟨λb o e n hb hx=>(sb.2 b (ne b o e)).trans (u.keep b o e n hb hx),λb o e n hb hx=>?_,u.free,λb o e hx=>?_,u.tups,u.frzs,u.tbls⟩
 ·obtain⟨sl,q⟩:=u.slot b o e n hb hx;exact⟨sl,(sb.2 b (ne b o e)).trans q⟩
 ·obtain⟨o',q⟩:=u.there b o e hx;exact⟨o',(sb.2 b (ne b o e)).trans q⟩
theorem HOk.same{P:Program}{w:World}{H:Hp}{h h':Heap}{C:Addr}(k:HOk P w H h)(sb:Heap.SameBut C h h')(hC:H C=none):HOk P w H h':=λb o e=>by
 refine(k b o e).stay (λc v hc q=>(sb.2 c ?_).trans q) (λ_ q=>q) λ_ _ q=>q;rintro rfl;rcases hc with z | z
 ·rw[z,e] at hC; cases hC
 ·rw[hC] at z; cases z

section
variable{X:Cx}{T:List Str}{caps:List (Str×Nat)}{scope:Scope}{elt target iter:Expr}{ifs:List Expr}{pos:Pos}{wi:TI}{g:CC->TG}{tt:CC->TT}{te:CC->TE}

theorem zFo{pins:List (Addr×Obj)}{σ:St}{H2:Hp}{s2:Shared}{fp:List Addr}{C D:Addr}{h1:Heap}{tk:Nat}{m:Str->Option Value}(S:sA X caps scope)(I2:Inv X pins σ H2 s2)(f2:∀ b∈fp,zM7 X pins H2 b)
  (hfp:∀ b∈fp,b<s2.heap.objs.size) (hD:s2.heap.objs.size<=D) (hC:s2.heap.objs.size<=C) (hDC:C≠D) (old:∀ b o,s2.heap.get? b=some o->h1.get? b=some o)
  (acc:∃ n,h1.get? D=some { cls:=.type "list", data:=.seq ([]:List Value).toArray n }) (hn:h1.Ns C m) :
  Inv (xX X (T++caps.map (·.1)) scope ⟨C,s2,H2,fp⟩) [] (zD4 caps T.length σ) (upd H2 D (.lst [])) { s2 with heap:=h1,toks:=tk }:=by
 have cs:=tN (env:=X.env) scope.names [] S.cells (λ_ _ z=>by cases z);have cellOld:∀ x c,X.env.cells.lookup x=some c->c<s2.heap.objs.size:=λx c e=>by
  obtain⟨v,q⟩:=I2.cell x c e;exact q.lt
 have stkNo:∀ b∈fp,b ∉ frs X.stack:=λb hb z=>by
  rcases List.mem_cons.mp (I2.stkSub b z) with e | e
  ·exact(f2 b hb).2.1 e
  ·exact(f2 b hb).2.2.1 e
 have fr:H2 D=none:=I2.hok.fresh hD;refine⟨⟨I2.ok.mod,S.kind,I2.ok.glob,I2.ok.blt,hC,λx y c e1 e2=>I2.ok.inj x y c (cs x c e1) (cs y c e2),λx hx=>?_,λ_ _ z=>absurd (show false=true from z) Bool.false_ne_true,I2.ok.hd,I2.ok.frames,.inl rfl,λb hb=>⟨?_,λx c e=>(f2 b hb).2.2.2.2.1 x c (cs x c e)⟩,
  λb o e=>I2.bs b o e,Nat.le_trans I2.ok.bsz I2.sz,λb o e hb=>?_,stkNo,I2.stack,I2.stkFree⟩,rfl,I2.bare,?_,⟨m,hn,λi x v e1 e2 e3=>?_⟩,λx c e=>?_,?_,λx c e=>?_,λp hp=>absurd (show p∈([]:List (Addr×Obj)) from hp) (by simp),?_,?_⟩
 ·have hx':(x,NameKind.free)∈scope.names:=by
   rcases hx with z | z
   ·exact qK S.nocell (.inl rfl) z
   ·exact qK S.nocell (.inr rfl) z
  exact qO scope.names [] x (.inl hx')
 ·exact Nat.ne_of_lt (Nat.lt_of_lt_of_le (hfp b hb) hC)
 ·rcases (f2 b hb).2.2.2.1 with z | z
  ·exact I2.ok.noex b o e z
  ·exact absurd (Nat.lt_of_lt_of_le (Heap.lt_size (show X.base.get? b=some o from e)) (Nat.le_trans I2.ok.bsz z)) (Nat.lt_irrefl _)
 ·exact Un.laid old hD fr
 ·have hlt:¬ i<T.length:=λhi=>by
   unfold zD4 at e2;rw[List.getElem?_append_left (by simpa using hi),List.getElem?_replicate,if_pos hi] at e2;cases e2
  have hge:T.length<=i:=Nat.le_of_not_lt hlt;have e1':(T++caps.map (·.1))[i]?=some x:=e1;rw[List.getElem?_append_right hge,List.getElem?_map] at e1';unfold zD4 at e2;rw[List.getElem?_append_right (by simpa using hge),List.length_replicate,List.getElem?_map] at e2;cases hp:caps[i-T.length]? with
  | none=>rw[hp] at e1'; cases e1'
  | some p =>
   rw[hp] at e1' e2;have ex:p.1=x:=Option.some.inj e1';have ev:(σ[p.2]?).join=some v:=Option.some.inj e2;obtain⟨hN,hf,hk⟩:=S.cap.mem p (List.mem_of_getElem? hp);have ev':σ[p.2]?=some (some v):=by
    cases hq:σ[p.2]? with
    | none=>rw[hq] at ev; cases ev
    | some o =>
     rw[hq] at ev;exact congrArg some ev
   obtain⟨m2,_,hl2⟩:=I2.loc;obtain⟨u,ru,l⟩:=hl2 p.2 p.1 v hN ev' (hk.elim (λz=>.inr (.inl z)) λz=>.inr (.inr z));refine⟨u,ru,.inr ⟨?_,?_⟩⟩
   ·rw[<- ex];exact qQ (env:=X.env) hf
   ·rcases l with ⟨kl,_⟩ | ⟨_,c,ec,hcell⟩
    ·rcases hk with z | z <;>(rw[kl] at z; cases z)
    ·obtain⟨d,hd⟩:=qO (env:=X.env) scope.names [] p.1 (.inl (PySem.mem_of_lookup hf));have hd':=cs p.1 d hd;rw[ec] at hd';cases hd';obtain⟨o,ho,hod⟩:=hcell;exact⟨c,by rw[<- ex]; exact hd,o,old c o ho,hod⟩
 ·obtain⟨v,o,ho,hd⟩:=I2.cell x c (cs x c e);exact⟨v,o,old c o ho,hd⟩
 ·show upd H2 D (.lst []) C=none;rw[zD hDC];exact I2.hok.fresh hC
 ·show upd H2 D (.lst []) c=none;rw[zD (Nat.ne_of_lt (Nat.lt_of_lt_of_le (cellOld x c (cs x c e)) hD))];exact I2.freeC x c (cs x c e)
 ·obtain⟨n,e⟩:=acc;exact I2.hok.laid old hD ⟨Nat.zero_le _,[],n,.nil,e⟩
 ·show(zD4 caps T.length σ).length=(T++caps.map (·.1)).length;unfold zD4;rw[List.length_append,List.length_append,List.length_map,List.length_map,List.length_replicate]

theorem uL(S:sA X caps scope)(hc:X.calm=true)(hi:PI X target iter wi)(hg:∀ c,PG (xX X (T++caps.map (·.1)) scope c) target (g c))(ht:∀ c,zTi (xX X (T++caps.map (·.1)) scope c) ifs (tt c))(he:∀ c,PE (xX X (T++caps.map (·.1)) scope c) elt (te c))
  (hs:∀ x,foldedSetIterable iter X.env x=pure x:=by intro _; rfl):PE X (.ListComp elt [⟨target,iter,ifs,0⟩] scope pos) (zPp T.length caps wi g tt te):=by
 intro pins s σ H Q I h;rw[eval_ListComp];refine wpAny_comprehension_free (use:=none) rfl hs (zKn S.cells) S.kind S.loc (thn (hi pins s σ H _ I h) λv s1 h1=>thn h1 λitv s2 h2=>?_);obtain⟨it,fp,tn,J,H2,e,I2,TT,st2,f2,q2⟩:=h2;subst e;refine wpAny_newObj_type (wpAny_newFunctionEnv S.nocell (by intro y hy; simp at hy) (λh1 hn hsb=>?_) S.kind);dsimp only at hn hsb ⊢;generalize hg2:s2.heap.push { cls:=.type "list", dict:=none,data:=.seq ([]:List Value).toArray }=G at hn hsb ⊢;have hCv:G.objs.size=s2.heap.objs.size+1:=by rw[<- hg2,Heap.size_push]
 have hDC:G.objs.size≠s2.heap.objs.size:=by rw[hCv]; exact Nat.succ_ne_self _
 have hCle:s2.heap.objs.size<=G.objs.size:=by rw[hCv]; exact Nat.le_succ _
 have old:∀ b o,s2.heap.get? b=some o->h1.get? b=some o:=λb o e=>hsb.extBut b o (Nat.ne_of_lt (Nat.lt_of_lt_of_le (Heap.lt_size e) hCle)) (Heap.get?_push_of_some _ (hg2 ▸ Heap.get?_push_of_some _ e));have hacc:∃ n,h1.get? s2.heap.objs.size=some { cls:=.type "list", data:=.seq ([]:List Value).toArray n }:=⟨_,hsb.extBut _ _ (Ne.symm hDC) (Heap.get?_push_of_some _ (hg2 ▸ Heap.get?_push_size _ rfl))⟩;have hfp:∀ b∈fp,b<s2.heap.objs.size:=λb hb=>by
  obtain⟨o,e,_⟩:=TT.obj _ _ st2 b hb;exact Heap.lt_size e
 have cs:=tN (env:=X.env) scope.names [] S.cells (λ_ _ z=>by cases z);have I0:=zFo (T:=T) (tk:=s2.toks+([]:List (Str×Value)).length) S I2 f2 hfp (Nat.le_refl _) hCle hDC old hacc hn;have st0:tn 0 h1:=TT.keep _ _ _ st2 λb _ o e=>old b o e;obtain⟨W,⟨m0,w0⟩,turn⟩:=q2 ⟨G.objs.size,s2,H2,fp⟩ s2.heap.objs.size (I2.hok.fresh (Nat.le_refl _));have fr0:∀ b∈fp,upd H2 s2.heap.objs.size (.lst []) b=none:=λb hb=>by
  rw[zD (Nat.ne_of_lt (hfp b hb))];exact(f2 b hb).1
 have stat:∀{H':Hp},(∀ b∈fp,H' b=none)->∀ b∈fp,zM7 (xX X (T++caps.map (·.1)) scope ⟨G.objs.size,s2,H2,fp⟩) [] H' b:=λ{H'} hn' b hb =>
  ⟨hn' b hb,Nat.ne_of_lt (Nat.lt_of_lt_of_le (hfp b hb) hCle),I0.ok.exfs b hb,.inl hb,λx c e=>(f2 b hb).2.2.2.2.1 x c (cs x c e),λp hp=>absurd (show p∈([]:List (Addr×Obj)) from hp) (by simp)⟩
 have loop:codeAny (model X.prog X.w) X.A (.compLoop (.ListComp elt [⟨target,iter,ifs,0⟩] scope pos) 0 (.ref it) (.ref s2.heap.objs.size) (compEnvC scope (vZ X.env scope.names []) G.objs.size X.env))
   (compPost (model X.prog X.w) X.A X.xe none (EP X pins σ Q) (.ref s2.heap.objs.size) G.objs.size) { s2 with heap:=h1,toks:=s2.toks+([]:List (Str×Value)).length }:=by
  refine codeAny_loop rfl (λn s'=>∃ i σ' ys H',Inv (xX X (T++caps.map (·.1)) scope ⟨G.objs.size,s2,H2,fp⟩) [] σ' H' s'/\tn i s'.heap/\(∀ b∈fp,H' b=none)/\W i n σ' ys H') (λn s3 hI=>?_) m0 ⟨0,_,[],_,I0,st0,fr0,w0⟩;obtain⟨i,σ3,ys,H3,I3,st3,fr3,w3⟩:=hI;show wpAny _ X.A ((compTurn (.ListComp elt [⟨target,iter,ifs,0⟩] scope pos) 0 (.ref it) (.ref s2.heap.objs.size) (compEnvC scope (vZ X.env scope.names []) G.objs.size X.env)).onRaise (λx=>do noteFrame x (compEnvC scope (vZ X.env scope.names []) G.objs.size X.env); theTreesLotGoes x)) _ _ s3;refine wpAny_noted ?_;rw[compTurn_list];refine wpAny_bind (wpAny_standAt (wpAny_bind ?_));obtain⟨hD3,turn3⟩:=turn i n σ3 ys H3 w3;rcases turn3 with ⟨stop,qn⟩ | ⟨go,N,hN,step⟩
  ·refine zFe (TT.done (xX X (T++caps.map (·.1)) scope ⟨G.objs.size,s2,H2,fp⟩) rfl rfl rfl hc i [] s3 σ3 H3 _ I3 (stat fr3) st3 stop) λr s4 ⟨hr,I4⟩=>?_;subst hr;refine wpAny_pure ?_;show ∃ m,s4.heap.Ns G.objs.size m/\∀ h',Heap.SameBut G.objs.size s4.heap h'->EP X pins σ Q (.ref s2.heap.objs.size) { s4 with heap:=h' };obtain⟨m4,hn4,_⟩:=I4.loc;refine⟨m4,hn4,λh' sb=>⟨.ref s2.heap.objs.size,H3,?_,rfl,qn⟩⟩;refine I2.call' (s':={ s4 with heap:=h' }) (ch:=fp) I4.os (Un.same I4.base sb (Heap.get?_none_of_le hCle)) (HOk.same I4.hok sb I4.free) I4.bare λb hb=>?_;obtain⟨_,f1,_,f3,f4,f5⟩:=f2 b hb;exact⟨f3,f1,f4,f5⟩
  ·refine zFe (TT.item (xX X (T++caps.map (·.1)) scope ⟨G.objs.size,s2,H2,fp⟩) rfl rfl rfl hc i [] s3 σ3 H3 _ I3 (stat fr3) st3 go) λr s4 ⟨u,hr,h4⟩=>?_;subst hr;refine wpAny_bind (zFe h4 λ_ s5 ⟨x,H5,I5,r5,y5,st5,fr5⟩=>?_);have I5':=I5.pinned (stat fr5) (TT.obj _ _ st5);refine wpAny_bind (zFe (hg _ _ s5 σ3 H5 x u _ I5' r5 (step x H5 y5)) λ_ s6 ⟨σ6,H6,I6,q6⟩=>?_);have again:∀{s7:Shared}{σ7:St}{zs:List V}{H7:Hp},Inv (xX X (T++caps.map (·.1)) scope ⟨G.objs.size,s2,H2,fp⟩) ([]++zE9 fp s5.heap) σ7 H7 s7->N σ7 zs H7 ->
     ∃ m,m<n/\∃ i σ' ys H',Inv (xX X (T++caps.map (·.1)) scope ⟨G.objs.size,s2,H2,fp⟩) [] σ' H' s7/\tn i s7.heap/\(∀ b∈fp,H' b=none)/\W i m σ' ys H':=λ{s7 σ7 zs H7} I7 n7=>by
    obtain⟨m',hm,w7⟩:=hN σ7 zs H7 n7;refine⟨m',hm,i+1,σ7,zs,H7,I7.unpinned,TT.keep _ _ _ st5 λb hb o e=>(I7.pin (b,o) (List.mem_append_right _ (List.mem_append_right _ (wL hb e)))).1,λb hb=>?_,w7⟩;obtain⟨o,e,d⟩:=TT.obj _ _ st5 b hb;exact(I7.pin (b,o) (List.mem_append_right _ (List.mem_append_right _ (wL hb e)))).2.1
   refine wpAny_bind (zFe (ht _ _ s6 σ6 H6 _ I6 q6) λok s7 ⟨H7,I7,q7⟩=>?_);cases ok with
   | false=>exact wpAny_pure ⟨rfl,again I7 q7⟩
   | true =>
    refine wpAny_bind (wpAny_bind (zFe (he _ _ s7 σ6 H7 _ I7 q7) λy s8 ⟨yv,H8,I8,r8,hD8,hl8,q8⟩=>?_));refine wpAny_bind (zFe (zAx _ s8 σ6 H8 (.ref s2.heap.objs.size) [yv] (.ref s2.heap.objs.size) [y] (λ_ H9=>N σ6 (ys++[yv]) H9) I8 rfl (.cons r8 .nil) ⟨_,ys,yv,rfl,rfl,hD8,hl8,q8⟩) λ_ s9 ⟨_,H9,I9,_,q9⟩=>?_);exact wpAny_pure (wpAny_pure ⟨rfl,again I9 q9⟩)
 exact codeAny_compStart_list loop (TT.self _ 0 _ _ _ st0 loop)
end
end L2

namespace L2
open PySem PySem.Spec PyProof.Rows

theorem sR:bootBuiltins "len" = some (.builtin "len"):=by decide +kernel
theorem zWh:bootBuiltins "abs" = some (.builtin "abs"):=by decide +kernel
theorem zJg:bootBuiltins "all" = some (.builtin "all"):=by decide +kernel
theorem zSp:bootBuiltins "any" = some (.builtin "any"):=by decide +kernel
theorem zWn:bootBuiltins "max" = some (.builtin "max"):=by decide +kernel
theorem zS9:bootBuiltins "min" = some (.builtin "min"):=by decide +kernel
theorem zHb:bootBuiltins "isinstance" = some (.builtin "isinstance"):=by decide +kernel
theorem zSb:bootBuiltins "int" = some (.type "int"):=by decide +kernel
theorem zNq:bootBuiltins "bool" = some (.type "bool"):=by decide +kernel
theorem zS7:bootBuiltins "str" = some (.type "str"):=by decide +kernel
theorem zBp:bootBuiltins "list" = some (.type "list"):=by decide +kernel
theorem zK5:bootBuiltins "tuple" = some (.type "tuple"):=by decide +kernel
theorem zVm:bootBuiltins "zip" = some (.type "zip"):=by decide +kernel

def Has(P:Program)(w:World)(K:PySem.W.Frag)(mg:Str->Option Value)(base:Heap)(x:Str)(n:Nat)(ps:List Str)(sp:Sp):Prop :=
 ∃(f:Addr)(fd:FuncData),xE P w K mg base CX0 n f fd ps sp/\zAt K fd ps []/\PySem.W.keepIn K (.ref f)=true/\mg x=some (.ref f)
section
variable{X:Cx}{x:Str}{p pos:Pos}{e:Expr}{es:List Expr}{t:TA}{n:Nat}{ps:List Str}{sp:Sp}
theorem uD(h:Has X.prog X.w X.K X.mg X.base x n ps sp)(hr:qM n X.A)(hg:Gl X x)(ha:PA X (e::es) t)(hdb:(x ==("__debug__" : Str))=false:=by decide)
  (he:starEach (e::es) X.env=(false,eval e X.env)::starEach es X.env:=by rfl) (hpl:(backTo pos (starEach es X.env)).any (·.1)=false:=by rfl):PE X (.Call (.Name x p) (e::es) [] pos) (zNx sp [] E0 t):=by
 obtain⟨f,fd,F,b,k,m⟩:=h;exact zUq F hr hg m k b .nil zM3 ha hdb he hpl
end

section
variable{X:Cx}
def zE7(i j:Int):Prop:=0<j/\j.natAbs<2^4096
theorem zQg:OpR X (binaryOp .FloorDiv) (rI zE7 λi j=>.int (i/j)):=opI λi j _ _ _ _ _ hc q=>by
 have h1:(0:Int)<j:=hc.1;have h3:j.natAbs.log2<9000:=Nat.lt_trans ((Nat.log2_lt (by lia)).mpr hc.2) (by decide);exact floordiv_int (by lia) (by rw[Int.fdiv_eq_ediv_of_nonneg i (by lia)]; exact q) (.inl (PyProof.noPylong_of_log2 h3))
theorem zE7.of{i j:Int}(h:0<j)(h2:j<10^600):zE7 i j:=by
 exists h;have e:(10:Nat)^600<2^4096:=by decide +kernel
 lia
theorem zKe:wO X (.builtin "isinstance") (λxs H Q=>∃ x T t b,xs=[x,.ty T]/\TyOf X.K H x t/\PySem.W.kitOne X.K t (.type T)=some b/\Q (.bl b) H):=by
 intro pins s σ H xs us Q I r h;obtain⟨x,T,t,b,rfl,ty,e,q⟩:=h;obtain⟨u,v,rfl,ru,rv⟩:=yS.two r;cases rv;exact zPw I ru ty e λtk=>⟨.bl b,H,I.tok tk,rfl,q⟩

def Sq(K:PySem.W.Frag)(H:Hp)(p:Addr)(xs:List V):Prop:=SqL K H p xs\/SqT K H p xs
inductive RIx(K:PySem.W.Frag)(x y:V)(H:Hp)(Q:VK):Prop where
 | mk (p:Addr) (xs:List V) (i:Int) (v:V) (ex:x=.ref p) (ey:y=.int i) (sq:Sq K H p xs) (at':atI xs i=some v) (q:Q v H)
def rIxA(K:PySem.W.Frag):R2:=λx y H Q=>RIx K x y H Q
theorem zSj:IxR X (rIxA X.K):=by
 intro value slice pins s σ H x y v u Q I rx ry q hs;obtain⟨p,xs,i,z,e1,e2,hq,ha,q⟩:=q;rcases hq with hq | hq
 ·exact zUv value slice pins s σ H x y v u Q I rx ry ⟨p,xs,i,z,e1,e2,hq,ha,q⟩ hs
 ·exact zVq value slice pins s σ H x y v u Q I rx ry ⟨p,xs,i,z,e1,e2,hq,ha,q⟩ hs
def iSeq(K:PySem.W.Frag)(tl:TE):TI:=λσ H R=>tl σ H λx H1=>∃ a,x=.ref a/\(((∃ xs,SqL K H1 a xs)/\R (Itl K a) H1)\/((∃ xs,SqT K H1 a xs)/\R (Itt K a) H1))
theorem tQ{tg l:Expr}{tl:TE}(hl:PE X l tl):PI X tg l (iSeq X.K tl):=by
 intro pins s σ H R I h;refine thn (hl pins s σ H _ I h) λv s1 ⟨x,H1,I1,r1,q1⟩=>?_;obtain⟨a,e,q⟩:=q1;subst e;cases r1;have own:∀ b,b∈[s1.heap.objs.size]->zM7 X pins H1 b:=λb hb=>by
  rw[List.mem_singleton] at hb;subst hb;exact I1.fpOk (Nat.le_refl _) (I1.hok.fresh (Nat.le_refl _))
 rcases q with ⟨⟨xs,hq⟩,q⟩ | ⟨⟨xs,hq⟩,q⟩
 ·obtain⟨its,rv,p,hz⟩:=I1.list hq;exact wpAny_pyIter_list p.isList ⟨s1.heap.objs.size,[s1.heap.objs.size],_,_,H1,rfl,I1.kept (t':=s1.toks) λb o e=>Heap.get?_push_of_some _ e,zI5 a _,⟨_,Heap.get?_push_size _ rfl,rfl,rfl⟩,own,q⟩
 ·obtain⟨its,rv,p,hz⟩:=I1.tuple hq;exact wpAny_pyIter_tuple (show s1.heap.IsTuple a its.toArray from p) ⟨s1.heap.objs.size,[s1.heap.objs.size],_,_,H1,rfl,I1.kept (t':=s1.toks) λb o e=>Heap.get?_push_of_some _ e,zMi a _,⟨_,Heap.get?_push_size _ rfl,rfl,rfl⟩,own,q⟩
end

section
variable{K:PySem.W.Frag}{a D:Addr}{xs:List V}{g:TG}{tt:TT}{te:TE}{σ0:St}{H1:Hp}{Q:VK}
theorem zHp(Pv:Nat->St->List V->Hp->Prop)(h0:Pv 0 σ0 [] (upd H1 D (.lst [])))(hl:∀ i σ ys H,i<=xs.length->Pv i σ ys H->SqL K H a xs/\H D=some (.lst ys))
  (hs:∀ i x σ ys H,xs[i]?=some x->Pv i σ ys H->g x σ H λσ2 H2=>tt σ2 H2 λb H3 =>
   if b=true then te σ2 H3 λy H4=>H4 D=some (.lst ys)/\ys.length<sizeLine/\Pv (i+1) σ2 (ys++[y]) (upd H4 D (.lst (ys++[y]))) else Pv (i+1) σ2 ys H3)
  (hd:∀ σ ys H,Pv xs.length σ ys H->Q (.ref D) H):zCn (Itl K a) D g tt te σ0 H1 Q:=by
 exists λi m σ ys H=>m=xs.length-i/\i<=xs.length/\Pv i σ ys H,⟨xs.length,by simp,Nat.zero_le _,h0⟩;rintro i m σ ys H ⟨rfl,hi,p⟩;obtain⟨q,qd⟩:=hl i σ ys H hi p;exists qd;by_cases hlt:i<xs.length
 ·refine .inr ⟨⟨xs,xs[i],q,by simp[hlt]⟩,Pv (i+1),λσ' zs H' z=>⟨xs.length-(i+1),by lia,rfl,hlt,z⟩,λx H' y=>?_⟩;obtain⟨e,y⟩:=y;subst e;exact hs i x σ ys _ (y xs q) p
 ·have e:i=xs.length:=by lia
  subst e;exact .inl ⟨⟨xs,q,Nat.le_refl _⟩,hd σ ys H p⟩
theorem zQd(Pv:Nat->St->List V->Hp->Prop)(h0:Pv 0 σ0 [] (upd H1 D (.lst [])))(hl:∀ i σ ys H,i<=xs.length->Pv i σ ys H->SqT K H a xs/\H D=some (.lst ys))
  (hs:∀ i x σ ys H,xs[i]?=some x->Pv i σ ys H->g x σ H λσ2 H2=>tt σ2 H2 λb H3 =>
   if b=true then te σ2 H3 λy H4=>H4 D=some (.lst ys)/\ys.length<sizeLine/\Pv (i+1) σ2 (ys++[y]) (upd H4 D (.lst (ys++[y]))) else Pv (i+1) σ2 ys H3)
  (hd:∀ σ ys H,Pv xs.length σ ys H->Q (.ref D) H):zCn (Itt K a) D g tt te σ0 H1 Q:=by
 exists λi m σ ys H=>m=xs.length-i/\i<=xs.length/\Pv i σ ys H,⟨xs.length,by simp,Nat.zero_le _,h0⟩;rintro i m σ ys H ⟨rfl,hi,p⟩;obtain⟨q,qd⟩:=hl i σ ys H hi p;exists qd;by_cases hlt:i<xs.length
 ·refine .inr ⟨⟨xs,xs[i],q,by simp[hlt]⟩,Pv (i+1),λσ' zs H' z=>⟨xs.length-(i+1),by lia,rfl,hlt,z⟩,λx H' y=>?_⟩;obtain⟨e,y⟩:=y;subst e;exact hs i x σ ys _ (y xs q) p
 ·have e:i=xs.length:=by lia
  subst e;exact .inl ⟨⟨xs,q,Nat.le_refl _⟩,hd σ ys H p⟩
theorem zMx{lo:Int}{n:Nat}(Pv:Nat->St->List V->Hp->Prop)(h0:Pv 0 σ0 [] (upd H1 D (.lst [])))(hl:∀ i σ ys H,i<=n->Pv i σ ys H->H D=some (.lst ys))
  (hs:∀ i σ ys H,i<n->Pv i σ ys H->g (.int (lo+i)) σ H λσ2 H2=>tt σ2 H2 λb H3 =>
   if b=true then te σ2 H3 λy H4=>H4 D=some (.lst ys)/\ys.length<sizeLine/\Pv (i+1) σ2 (ys++[y]) (upd H4 D (.lst (ys++[y]))) else Pv (i+1) σ2 ys H3)
  (hd:∀ σ ys H,Pv n σ ys H->Q (.ref D) H):zCn (Itr lo n) D g tt te σ0 H1 Q:=by
 exists λi m σ ys H=>m=n-i/\i<=n/\Pv i σ ys H,⟨n,by simp,Nat.zero_le _,h0⟩;rintro i m σ ys H ⟨rfl,hi,p⟩;have qd:=hl i σ ys H hi p;exists qd;by_cases hlt:i<n
 ·refine .inr ⟨hlt,Pv (i+1),λσ' zs H' z=>⟨n-(i+1),by lia,rfl,hlt,z⟩,λx H' y=>?_⟩;obtain⟨e,y⟩:=y;subst e y;exact hs i σ ys _ hlt p
 ·have e:i=n:=by lia
  subst e;exact .inl ⟨Nat.le_refl _,hd σ ys H p⟩
end
section
variable{K:PySem.W.Frag}{a D:Addr}{xs:List V}{g:TG}{te:TE}{σ0:St}{H1:Hp}{Q:VK}
theorem tE(Pv:Nat->St->List V->Hp->Prop)(h0:Pv 0 σ0 [] (upd H1 D (.lst [])))(hl:∀ i σ ys H,i<=xs.length->Pv i σ ys H->SqL K H a xs/\H D=some (.lst ys))
  (hs:∀ i x σ ys H,xs[i]?=some x->Pv i σ ys H->g x σ H λσ2 H2=>te σ2 H2 λy H4=>H4 D=some (.lst ys)/\ys.length<sizeLine/\Pv (i+1) σ2 (ys++[y]) (upd H4 D (.lst (ys++[y]))))
  (hd:∀ σ ys H,Pv xs.length σ ys H->Q (.ref D) H):zCn (Itl K a) D g zU9 te σ0 H1 Q:=zHp Pv h0 hl (λi x σ ys H e p=>hs i x σ ys H e p) hd
theorem zPs(Pv:Nat->St->List V->Hp->Prop)(h0:Pv 0 σ0 [] (upd H1 D (.lst [])))(hl:∀ i σ ys H,i<=xs.length->Pv i σ ys H->SqT K H a xs/\H D=some (.lst ys))
  (hs:∀ i x σ ys H,xs[i]?=some x->Pv i σ ys H->g x σ H λσ2 H2=>te σ2 H2 λy H4=>H4 D=some (.lst ys)/\ys.length<sizeLine/\Pv (i+1) σ2 (ys++[y]) (upd H4 D (.lst (ys++[y]))))
  (hd:∀ σ ys H,Pv xs.length σ ys H->Q (.ref D) H):zCn (Itt K a) D g zU9 te σ0 H1 Q:=zQd Pv h0 hl (λi x σ ys H e p=>hs i x σ ys H e p) hd
theorem zAv{lo:Int}{n:Nat}(Pv:Nat->St->List V->Hp->Prop)(h0:Pv 0 σ0 [] (upd H1 D (.lst [])))(hl:∀ i σ ys H,i<=n->Pv i σ ys H->H D=some (.lst ys))
  (hs:∀ i σ ys H,i<n->Pv i σ ys H->g (.int (lo+i)) σ H λσ2 H2=>te σ2 H2 λy H4=>H4 D=some (.lst ys)/\ys.length<sizeLine/\Pv (i+1) σ2 (ys++[y]) (upd H4 D (.lst (ys++[y]))))
  (hd:∀ σ ys H,Pv n σ ys H->Q (.ref D) H):zCn (Itr lo n) D g zU9 te σ0 H1 Q:=zMx Pv h0 hl (λi σ ys H e p=>hs i σ ys H e p) hd
end
end L2

namespace L2
open PySem PySem.Spec PyProof.Rows
theorem zNw:∀ bs:List Bool,(List.range bs.length).all (λi=>(bs[i]?).getD true)=bs.all id:=by
 intro bs;rw[Bool.eq_iff_iff,List.all_eq_true,List.all_eq_true];constructor
 ·intro h b hb;obtain⟨i,hi,e⟩:=List.getElem_of_mem hb;have q:=h i (List.mem_range.mpr hi);rw[List.getElem?_eq_getElem hi,e] at q;exact q
 ·intro h i hi;have hi':=List.mem_range.mp hi;rw[List.getElem?_eq_getElem hi'];exact h _ (List.getElem_mem hi')
theorem zP1:∀ bs:List Bool,(List.range bs.length).any (λi=>(bs[i]?).getD true)=bs.any id:=by
 intro bs;rw[Bool.eq_iff_iff,List.any_eq_true,List.any_eq_true];constructor
 ·rintro⟨i,hi,q⟩;have hi':=List.mem_range.mp hi;rw[List.getElem?_eq_getElem hi'] at q;exact⟨_,List.getElem_mem hi',q⟩
 ·rintro⟨b,hb,q⟩;obtain⟨i,hi,e⟩:=List.getElem_of_mem hb;exists i,List.mem_range.mpr hi;rw[List.getElem?_eq_getElem hi,e];exact q
theorem zK6{bs:List Bool}{its:List Value}(r:yS (bs.map V.bl) its){i:Nat}{v:Value}(h:its[i]?=some v):v=.bool ((bs[i]?).getD true):=by
 have hl:=r.length;rw[List.length_map] at hl;have hi:i<its.length:=(List.getElem?_eq_some_iff.mp h).1;have hb:i<bs.length:=by lia
 obtain⟨u,hu,ru⟩:=r.get (i:=i) (x:=.bl bs[i]) (by rw[List.getElem?_map,List.getElem?_eq_getElem hb]; rfl);rw[hu] at h;cases h;rw[List.getElem?_eq_getElem hb];exact ru
section
variable{X:Cx}
theorem qI(hc:X.calm=true):wO X (.builtin "all") (λxs H Q=>∃(p:Addr)(bs:List Bool),xs=[.ref p]/\SqL X.K H p (bs.map V.bl)/\Q (.bl (bs.all id)) H):=by
 intro pins s σ H xs us Q I r h;obtain⟨p,bs,rfl,hq,q⟩:=h;obtain⟨u,rfl,ru⟩:=yS.one r;cases ru;obtain⟨its,rv,pl,hz⟩:=I.list hq;have plt:p<s.heap.objs.size:=by
  obtain⟨_,e,_⟩:=pl.isList;exact Heap.lt_size e
 refine call_all_walk (wpAny_pyIter_list pl.isList ?_);refine⟨s.heap.objs.size,_,_,_,_,_,λi=>(bs[i]?).getD true,rfl,Walks.list (A:=X.A.in1) (show X.A.in1.handled=none from I.ok.hd hc) _ p (Nat.ne_of_lt plt) its.toArray,⟨⟨_,Heap.get?_push_size _ rfl,rfl,rfl⟩,Heap.IsList.push pl.isList _⟩,λi v s Q E hP hQ=>?_,λh' tk k=>?_⟩
 ·have e:=zK6 rv (by simpa using hP);subst e;exact wpAny_truthy_bool hQ
 ·have e:(List.range its.toArray.size).all (λi=>(bs[i]?).getD true)=bs.all id:=by
   have hl:=rv.length;rw[List.length_map] at hl;rw[List.size_toArray,<- hl];exact zNw bs
  rw[e];exact⟨.bl (bs.all id),H,I.kept (t':=tk) λb o z=>k b o (λw=>by rw[List.mem_singleton] at w; exact Nat.lt_irrefl _ (w ▸ Heap.lt_size z)) (Heap.get?_push_of_some _ z),rfl,q⟩
theorem zH2(hc:X.calm=true):wO X (.builtin "any") (λxs H Q=>∃(p:Addr)(bs:List Bool),xs=[.ref p]/\SqL X.K H p (bs.map V.bl)/\Q (.bl (bs.any id)) H):=by
 intro pins s σ H xs us Q I r h;obtain⟨p,bs,rfl,hq,q⟩:=h;obtain⟨u,rfl,ru⟩:=yS.one r;cases ru;obtain⟨its,rv,pl,hz⟩:=I.list hq;have plt:p<s.heap.objs.size:=by
  obtain⟨_,e,_⟩:=pl.isList;exact Heap.lt_size e
 refine call_any_walk (wpAny_pyIter_list pl.isList ?_);refine⟨s.heap.objs.size,_,_,_,_,_,λi=>(bs[i]?).getD true,rfl,Walks.list (A:=X.A.in1) (show X.A.in1.handled=none from I.ok.hd hc) _ p (Nat.ne_of_lt plt) its.toArray,⟨⟨_,Heap.get?_push_size _ rfl,rfl,rfl⟩,Heap.IsList.push pl.isList _⟩,λi v s Q E hP hQ=>?_,λh' tk k=>?_⟩
 ·have e:=zK6 rv (by simpa using hP);subst e;exact wpAny_truthy_bool hQ
 ·have e:(List.range its.toArray.size).any (λi=>(bs[i]?).getD true)=bs.any id:=by
   have hl:=rv.length;rw[List.length_map] at hl;rw[List.size_toArray,<- hl];exact zP1 bs
  rw[e];exact⟨.bl (bs.any id),H,I.kept (t':=tk) λb o z=>k b o (λw=>by rw[List.mem_singleton] at w; exact Nat.lt_irrefl _ (w ▸ Heap.lt_size z)) (Heap.get?_push_of_some _ z),rfl,q⟩
end
end L2

namespace L2
open PySem PySem.Spec PyProof.Rows

def SI(b:Bool)(h:Heap)(i l:Addr)(k:Nat):Prop:=match b with | true=>h.IsListIter i l k | false=>h.IsTupleIter i l k
def SS(b:Bool)(h:Heap)(l:Addr)(its:Array Value):Prop:=match b with | true=>h.IsList l its | false=>h.IsTuple l its
def zHv(b:Bool):String:=match b with | true => "list_iterator" | false => "tuple_iterator"
theorem SI.obj{b:Bool}{h:Heap}{i l:Addr}{k:Nat}(x:SI b h i l k):∃ o,h.get? i=some o/\o.cls=.type (zHv b)/\o.data=.fields #[.ref l,.int k 0]:=by
 cases b <;> exact x
theorem SI.of{b:Bool}{h:Heap}{i l:Addr}{k:Nat}(x:∃ o,h.get? i=some o/\o.cls=.type (zHv b)/\o.data=.fields #[.ref l,.int k 0]):SI b h i l k:=by
 cases b <;> exact x
theorem SI.at{b:Bool}{h h':Heap}{i l:Addr}{k:Nat}(x:SI b h i l k)(e:∀ o,h.get? i=some o->h'.get? i=some o):SI b h' i l k:=by
 obtain⟨o,ho,r⟩:=x.obj;exact SI.of ⟨o,e o ho,r⟩
theorem SS.at{b:Bool}{h h':Heap}{l:Addr}{its:Array Value}(x:SS b h l its)(e:∀ o,h.get? l=some o->h'.get? l=some o):SS b h' l its:=by
 cases b <;>(obtain⟨o,ho,r⟩:=x; exact⟨o,e o ho,r⟩)
theorem SS.obj{b:Bool}{h:Heap}{l:Addr}{its:Array Value}(x:SS b h l its):∃ o,h.get? l=some o/\o.cls=.type (match b with | true => "list" | false => "tuple"):=by
 cases b <;>(obtain⟨o,ho,hc,_⟩:=x; exact⟨o,ho,hc⟩)
section
variable{prog:Program}{w:World}{A:Around}{E:Value->Shared->Prop}{s:Shared}
theorem zRr{i l:Addr}{k:Nat}{its:Array Value}{y:Value}{Q:Value->Shared->Prop}(zi:s.heap.IsTupleIter i l k)(zl:s.heap.IsTuple l its)(zy:its[k]?=some y)
  (zq:∀ h',h'.IsTupleIter i l (k+1)->Heap.SameBut i s.heap h'->Q y { s with heap:=h' }):wpAny (model prog w) A (Builtin.SmallTypes.nextOf (.ref i)) Q E s:=by
 obtain⟨ob,zo,zc,zd⟩:=id zi;obtain⟨ot,zot,_,nt,zdt⟩:=zl;unfold Builtin.SmallTypes.nextOf;refine wpAny_bind (wpAny_callSpecial?_slot (name:=Str.ofString "__next__") zi.typeIs F.slot_tuple_iterator_next (wpAny_call_entry F.slot_tuple_iterator_next zi.typeIs F.entry_tuple_iterator_next ?_ (F.args_tuple_iterator_next_1 _)));show wpAny _ _ (field (.ref i) 0 >>= _) _ _ s;refine wpAny_bind (wpAny_field zo zd (x:=.ref l) rfl ?_);show wpAny _ _ (if (Value.ref l == Value.none)=true then _ else _) _ _ s; rw[if_neg (show ¬ ((Value.ref l == Value.none)=true) from Bool.false_ne_true)];show wpAny _ _ (field (.ref i) 1 >>= _) _ _ s;refine wpAny_bind (wpAny_field zo zd (x:=.int k 0) rfl ?_);show wpAny _ _ (seqItems? (.ref l) >>= _) _ _ s; refine wpAny_bind (wpAny_seqItems zot zdt ?_);simp only[Int.toNat_natCast,zy];refine wpAny_bind (wpAny_setField zo zd (by simp) (wpAny_pure ⟨y,rfl,wpAny_pure (zq _ ?_ (Heap.SameBut.update ..))⟩));exact⟨_,Heap.get?_update_self _ zo (Obj.isFreed_of_fields (Obj.data_mapFields zd _)),(Obj.cls_mapFields ..).trans zc,by rw[Obj.data_mapFields zd]; simp[rawInt]⟩
theorem zU1{i l:Addr}{k:Nat}{its:Array Value}{Q:Value->Shared->Prop}(hh:A.handled=none)(zi:s.heap.IsTupleIter i l k)(zl:s.heap.IsTuple l its)(zy:its[k]?=none)
  (zE:∀ h' e,Heap.ExtBut i s.heap h'->(∃ o,h'.get? e=some o/\o.cls=.type "StopIteration")->E (.ref e) { s with heap:=h' }):wpAny (model prog w) A (Builtin.SmallTypes.nextOf (.ref i)) Q E s:=by
 obtain⟨ob,zo,zc,zd⟩:=id zi;obtain⟨ot,zot,_,nt,zdt⟩:=zl;unfold Builtin.SmallTypes.nextOf;refine wpAny_bind (wpAny_callSpecial?_slot (name:=Str.ofString "__next__") zi.typeIs F.slot_tuple_iterator_next (wpAny_call_entry F.slot_tuple_iterator_next zi.typeIs F.entry_tuple_iterator_next ?_ (F.args_tuple_iterator_next_1 _)));show wpAny _ _ (field (.ref i) 0 >>= _) _ _ s;refine wpAny_bind (wpAny_field zo zd (x:=.ref l) rfl ?_);show wpAny _ _ (if (Value.ref l == Value.none)=true then _ else _) _ _ s; rw[if_neg (show ¬ ((Value.ref l == Value.none)=true) from Bool.false_ne_true)];show wpAny _ _ (field (.ref i) 1 >>= _) _ _ s;refine wpAny_bind (wpAny_field zo zd (x:=.int k 0) rfl ?_);show wpAny _ _ (seqItems? (.ref l) >>= _) _ _ s; refine wpAny_bind (wpAny_seqItems zot zdt ?_);simp only[Int.toNat_natCast,zy];refine wpAny_bind (wpAny_rule (wpAny_bind (wpAny_setField zo zd (by simp) ?_)));show wpAny _ _ (newExc (.type "StopIteration") [] >>= _) _ _ _; refine wpAny_bind ?_; simp only[newExc,newTuple];refine wpAny_bind (wpAny_newObj_type ?_ (by size_fits)); refine wpAny_bind (m:=firstArgMember _ _) (wpAny_of_eq (a:=Value.none) (by first | rfl | (simp only[firstArgMember]; rfl)) ?_);refine wpAny_newObj_type ?_ (by size_fits); simp only[raiseNew]; refine wpAny_bind (wpAny_handled ?_)
 first | rw[show A.in1.handled=none from hh] | rw[hh]
 refine wpAny_bind (wpAny_pure (wpAny_throw ?_)); exact zE _ _ (((Heap.SameBut.update ..).extBut.push _).push _) ⟨_,Heap.get?_push_size _ rfl,rfl⟩
theorem zJu{b:Bool}{i l:Addr}{k:Nat}{its:Array Value}{y:Value}{Q:Value->Shared->Prop}(zi:SI b s.heap i l k)(zl:SS b s.heap l its)(zy:its[k]?=some y)
  (zq:∀ h',SI b h' i l (k+1)->Heap.SameBut i s.heap h'->Q y { s with heap:=h' }):wpAny (model prog w) A (Builtin.SmallTypes.nextOf (.ref i)) Q E s:=by
 cases b
 ·exact zRr zi zl zy zq
 ·exact wpAny_nextOf_list_item zi zl zy zq
theorem zR7{b:Bool}{i l:Addr}{k:Nat}{its:Array Value}{Q:Value->Shared->Prop}(hh:A.handled=none)(zi:SI b s.heap i l k)(zl:SS b s.heap l its)(zy:its[k]?=none)
  (zE:∀ h' e,Heap.ExtBut i s.heap h'->(∃ o,h'.get? e=some o/\o.cls=.type "StopIteration")->E (.ref e) { s with heap:=h' }):wpAny (model prog w) A (Builtin.SmallTypes.nextOf (.ref i)) Q E s:=by
 cases b
 ·exact zU1 hh zi zl zy zE
 ·exact wpAny_nextOf_list_end hh zi zl zy zE
theorem zSn{b:Bool}{l:Addr}{its:Array Value}{Q:Value->Shared->Prop}(zl:SS b s.heap l its)(h:Q (.ref s.heap.objs.size) { s with heap:=s.heap.push { cls:=.type (zHv b),data:=.fields #[.ref l,.int 0 0] } }) :
  wpAny (model prog w) A (pyIter (.ref l)) Q E s:=by
 cases b
 ·exact wpAny_pyIter_tuple zl h
 ·exact wpAny_pyIter_list zl h

theorem zPu{b1 b2:Bool}{z TI TO i1 i2 l1 l2:Addr}{k:Nat}{xs ys:Array Value}{x y a b:Value}{Q:Value->Shared->Prop}(D:ZipApart z TI TO i1 i2 l1 l2)
  (hz:IsZip s.heap z TI TO .none) (hI:IsPair s.heap TI (.ref i1) (.ref i2)) (hO:IsPair s.heap TO a b) (h1:SI b1 s.heap i1 l1 k) (h2:SI b2 s.heap i2 l2 k) (g1:SS b1 s.heap l1 xs) (g2:SS b2 s.heap l2 ys)
  (hx:xs[k]?=some x) (hy:ys[k]?=some y)
  (hQ:∀ h',IsZip h' z TI TO (rawInt s.heap.objs.size)->IsPair h' TO x y->SI b1 h' i1 l1 (k+1)->SI b2 h' i2 l2 (k+1)->IsPair h' s.heap.objs.size x y ->
   (∀ c o,c≠z->c≠TO->c≠i1->c≠i2->s.heap.get? c=some o->h'.get? c=some o)->Q (.ref s.heap.objs.size) { s with heap:=h' }) :
  wpAny (model prog w) A (Builtin.«zip.__next__» ⟨[.ref z],[]⟩) (λfin s'=>∃ v,fin=.done (.ret v)/\Q v s') E s:=by
 show wpAny _ _ (field (.ref z) 2 >>= _) _ _ _; refine wpAny_bind (wpAny_field hz rfl (x:=.bool false) rfl ?_);show wpAny _ _ (field (.ref z) 3 >>= _) _ _ _; refine wpAny_bind (wpAny_field hz rfl (x:=.ref TI) rfl ?_);refine wpAny_bind (wpAny_seqItems hI rfl ?_);show wpAny _ _ (Builtin.SmallTypes.ownedTupleIsFree (.ref z) >>= _) _ _ _; refine wpAny_bind ?_; unfold Builtin.SmallTypes.ownedTupleIsFree;refine wpAny_bind (wpAny_field hz rfl (x:=.none) rfl (wpAny_pure ?_)); simp only[if_true];refine wpAny_bind (wpAny_rule ?_); refine wpAny_bind (wpAny_field hz rfl (x:=.ref TO) rfl ?_);refine wpAny_bind (wpAny_setField_rec hz (by simp) λk1 z1 s1=>?_); replace z1:IsZip k1 z TI TO .ellipsis:=z1;refine wpAny_bind ?_; simp only[List.zipIdx_cons,List.zipIdx_nil,List.forIn_cons,List.forIn_nil];refine wpAny_bind (wpAny_bind (wpAny_onRaise ?_)); show wpAny _ _ (Builtin.SmallTypes.nextOf (.ref i1) >>= _) _ _ _
 refine wpAny_bind (zJu (h1.at λo e=>s1.extBut _ o D.i1z e) (g1.at λo e=>s1.extBut _ o D.l1z e) hx λk2 q2 s2=>wpAny_pure ?_);have o2:IsPair k2 TO a b:=s2.extBut _ _ D.TOi1 (s1.extBut _ _ D.TOz hO);refine wpAny_bind (wpAny_seqItems o2 rfl ?_);refine wpAny_bind (wpAny_updateSeq_pair o2 λk3 o3 s3=>?_); replace o3:IsPair k3 TO x b:=o3;refine wpAny_bind (wpAny_letGo (wpAny_pure ?_)); refine wpAny_bind (wpAny_bind (wpAny_onRaise ?_)); show wpAny _ _ (Builtin.SmallTypes.nextOf (.ref i2) >>= _) _ _ _
 refine wpAny_bind (zJu (h2.at λo e=>s3.extBut _ o D.TOi2.symm (s2.extBut _ o D.i12.symm (s1.extBut _ o D.i2z e))) (g2.at λo e=>s3.extBut _ o D.l2TO (s2.extBut _ o D.l2i1 (s1.extBut _ o D.l2z e))) hy λk4 q4 s4=>wpAny_pure ?_);have o4:IsPair k4 TO x b:=s4.extBut _ _ D.TOi2 o3;refine wpAny_bind (wpAny_seqItems o4 rfl ?_);refine wpAny_bind (wpAny_updateSeq_pair o4 λk5 o5 s5=>?_); replace o5:IsPair k5 TO x y:=o5;refine wpAny_bind (wpAny_letGo (wpAny_pure (wpAny_pure ?_)));refine wpAny_bind (wpAny_seqItems o5 rfl ?_); refine wpAny_bind (wpAny_newTuple ?_);have hsz:k5.objs.size=s.heap.objs.size:=by rw[s5.1,s4.1,s3.1,s2.1,s1.1]
 have z5:IsZip k5 z TI TO .ellipsis:=s5.extBut _ _ D.TOz.symm (s4.extBut _ _ D.i2z.symm (s3.extBut _ _ D.TOz.symm (s2.extBut _ _ D.i1z.symm z1)));have kp:∀ c o,c≠z->c≠TO->c≠i1->c≠i2->s.heap.get? c=some o->k5.get? c=some o:=λc o c1 c2 c3 c4 e=>s5.extBut _ _ c2 (s4.extBut _ _ c4 (s3.extBut _ _ c2 (s2.extBut _ _ c3 (s1.extBut _ _ c1 e))));have a5:SI b1 k5 i1 l1 (k+1):=q2.at λo e=>s5.extBut _ o D.TOi1.symm (s4.extBut _ o D.i12 (s3.extBut _ o D.TOi1.symm e));have b5:SI b2 k5 i2 l2 (k+1):=q4.at λo e=>s5.extBut _ o D.TOi2.symm e;have zlt:z<k5.objs.size:=Heap.lt_size z5;show wpAny _ _ (Builtin.SmallTypes.ownedTupleHandOut (.ref z) (.ref k5.objs.size) >>= _) _ _ _; refine wpAny_bind ?_; unfold Builtin.SmallTypes.ownedTupleHandOut;have z6:IsZip (k5.push { cls:=.type "tuple", data:=.seq #[x,y] }) z TI TO .ellipsis:=Heap.get?_push_of_some _ z5;refine wpAny_bind (wpAny_setField_rec z6 (by simp) λk7 z7 s7=>?_); replace z7:IsZip k7 z TI TO (rawInt k5.objs.size):=z7;refine wpAny_setField_rec z7 (by simp) λk8 z8 s8=>?_; replace z8:IsZip k8 z TI TO (rawInt k5.objs.size):=z8;have up:∀ c o,c≠z->k5.get? c=some o->k8.get? c=some o:=λc o c1 e=>s8.extBut _ _ c1 (s7.extBut _ _ c1 (Heap.get?_push_of_some _ e));have t8:IsPair k8 k5.objs.size x y:=s8.extBut _ _ (Nat.ne_of_gt zlt) (s7.extBut _ _ (Nat.ne_of_gt zlt) (Heap.get?_push_size _ rfl));rw[hsz] at z8 t8;refine wpAny_pure ⟨_,rfl,?_⟩; show Q (.ref k5.objs.size) _
 rw[hsz];exact hQ k8 z8 (up _ _ D.TOz o5) (a5.at λo e=>up _ o D.i1z e) (b5.at λo e=>up _ o D.i2z e) t8 λc o c1 c2 c3 c4 e=>up c o c1 (kp c o c1 c2 c3 c4 e)
theorem zQu{b1 b2:Bool}{z TI TO i1 i2 l1 l2:Addr}{k:Nat}{xs ys:Array Value}{a b:Value}{Q:Fin->Shared->Prop}(hh:A.handled=none)(D:ZipApart z TI TO i1 i2 l1 l2)
  (hz:IsZip s.heap z TI TO .none) (hI:IsPair s.heap TI (.ref i1) (.ref i2)) (hO:IsPair s.heap TO a b) (h1:SI b1 s.heap i1 l1 k) (h2:SI b2 s.heap i2 l2 k) (g1:SS b1 s.heap l1 xs) (g2:SS b2 s.heap l2 ys)
  (hend:xs[k]?=none\/ys[k]?=none)
  (hE:∀ h' e,(∀ c o,c≠z->c≠TO->c≠i1->c≠i2->s.heap.get? c=some o->h'.get? c=some o)->(∃ o,h'.get? e=some o/\o.cls=.type "StopIteration")->E (.ref e) { s with heap:=h' }) :
  wpAny (model prog w) A (Builtin.«zip.__next__» ⟨[.ref z],[]⟩) Q E s:=by
 show wpAny _ _ (field (.ref z) 2 >>= _) _ _ _; refine wpAny_bind (wpAny_field hz rfl (x:=.bool false) rfl ?_);show wpAny _ _ (field (.ref z) 3 >>= _) _ _ _; refine wpAny_bind (wpAny_field hz rfl (x:=.ref TI) rfl ?_);refine wpAny_bind (wpAny_seqItems hI rfl ?_);show wpAny _ _ (Builtin.SmallTypes.ownedTupleIsFree (.ref z) >>= _) _ _ _; refine wpAny_bind ?_; unfold Builtin.SmallTypes.ownedTupleIsFree;refine wpAny_bind (wpAny_field hz rfl (x:=.none) rfl (wpAny_pure ?_)); simp only[if_true];refine wpAny_bind (wpAny_rule ?_); refine wpAny_bind (wpAny_field hz rfl (x:=.ref TO) rfl ?_);refine wpAny_bind (wpAny_setField_rec hz (by simp) λk1 z1 s1=>?_); replace z1:IsZip k1 z TI TO .ellipsis:=z1;refine wpAny_bind ?_; simp only[List.zipIdx_cons,List.zipIdx_nil,List.forIn_cons,List.forIn_nil];refine wpAny_bind (wpAny_bind (wpAny_onRaise ?_)); show wpAny _ _ (Builtin.SmallTypes.nextOf (.ref i1) >>= _) _ _ _
 cases hx:xs[k]? with
 | none =>
  refine wpAny_bind (zR7 hh (h1.at λo e=>s1.extBut _ o D.i1z e) (g1.at λo e=>s1.extBut _ o D.l1z e) hx λk2 e s2 he=>?_);obtain⟨oe,hoe,hce⟩:=he;have z2:IsZip k2 z TI TO .ellipsis:=s2 _ _ D.i1z.symm z1;have nez:e≠z:=λx=>by subst x; rw[z2] at hoe; cases hoe; simp at hce
  refine wpAny_setField_rec z2 (by simp) λk3 _ s3=>hE k3 e (λc o c1 _ c3 _ x=>s3.extBut _ _ c1 (s2 _ _ c3 (s1.extBut _ _ c1 x))) ⟨oe,s3.extBut _ _ nez hoe,hce⟩
 | some x =>
  have hy:ys[k]?=none:=by
   rcases hend with h | h
   ·rw[hx] at h; cases h
   ·exact h
  refine wpAny_bind (zJu (h1.at λo e=>s1.extBut _ o D.i1z e) (g1.at λo e=>s1.extBut _ o D.l1z e) hx λk2 q2 s2=>wpAny_pure ?_);have o2:IsPair k2 TO a b:=s2.extBut _ _ D.TOi1 (s1.extBut _ _ D.TOz hO);refine wpAny_bind (wpAny_seqItems o2 rfl ?_); refine wpAny_bind (wpAny_updateSeq_pair o2 λk3 o3 s3=>?_);refine wpAny_bind (wpAny_letGo (wpAny_pure ?_)); refine wpAny_bind (wpAny_bind (wpAny_onRaise ?_)); show wpAny _ _ (Builtin.SmallTypes.nextOf (.ref i2) >>= _) _ _ _
  refine wpAny_bind (zR7 hh (h2.at λo e=>s3.extBut _ o D.TOi2.symm (s2.extBut _ o D.i12.symm (s1.extBut _ o D.i2z e))) (g2.at λo e=>s3.extBut _ o D.l2TO (s2.extBut _ o D.l2i1 (s1.extBut _ o D.l2z e))) hy λk4 e s4 he=>?_);obtain⟨oe,hoe,hce⟩:=he;have z4:IsZip k4 z TI TO .ellipsis:=s4 _ _ D.i2z.symm (s3.extBut _ _ D.TOz.symm (s2.extBut _ _ D.i1z.symm z1));have nez:e≠z:=λx=>by subst x; rw[z4] at hoe; cases hoe; simp at hce
  refine wpAny_setField_rec z4 (by simp) λk5 _ s5=>hE k5 e (λc o c1 c2 c3 c4 x=>s5.extBut _ _ c1 (s4 _ _ c4 (s3.extBut _ _ c2 (s2.extBut _ _ c3 (s1.extBut _ _ c1 x))))) ⟨oe,s5.extBut _ _ nez hoe,hce⟩
def zT8(b1 b2:Bool)(l1 l2:Addr)(h:Heap):Heap :=
 ((((h.push { cls:=.type (zHv b1),data:=.fields #[.ref l1,.int 0 0] }).push { cls:=.type (zHv b2),data:=.fields #[.ref l2,.int 0 0] }).push { cls:=.type "tuple", data:=.seq #[.ref h.objs.size,.ref (h.objs.size+1)] }).push { cls:=.type "tuple", data:=.seq #[.none,.none] }).push { cls:=.type "zip", data:=.fields #[.none,.bool false,.bool false,.ref (h.objs.size+2),.ref (h.objs.size+3)] }
theorem zQi(b1 b2:Bool)(l1 l2:Addr)(xs ys:Array Value) :
  Meets (Builtin.«zip.__new__» ⟨[.type "zip", .ref l1,.ref l2],[]⟩) (λ_ R s=>SS b1 s.heap l1 xs/\SS b2 s.heap l2 ys /\
   R (.ok (.ret (.ref (s.heap.objs.size+4)))) { s with heap:=zT8 b1 b2 l1 l2 s.heap }) :=
 .of_wp λprog w A R s h=>by
  obtain⟨hp,g,d,tk,os⟩:=s;obtain⟨hl1,hl2,h⟩:=h;have hsub:=sub_zip;have hL1:SS b1 (Shared.heap ⟨hp,g,d,tk,os⟩) l1 xs:=hl1;have hL2:SS b2 (Shared.heap ⟨hp.push { cls:=.type (zHv b1),data:=.fields #[.ref l1,.int 0 0] },g,d,tk,os⟩) l2 ys:=SS.at hl2 λo e=>Heap.get?_push_of_some _ e
  wp_walk using zSn hL1,zSn hL2
  exists _,rfl;simp only[zT8,Heap.size_push] at h ⊢;exact h
theorem zPb{b1 b2:Bool}{l1 l2:Addr}{xs ys:Array Value}{Q:Value->Shared->Prop}(hl1:SS b1 s.heap l1 xs)(hl2:SS b2 s.heap l2 ys)
  (h:∀ h',IsZip h' (s.heap.objs.size+4) (s.heap.objs.size+2) (s.heap.objs.size+3) .none->IsPair h' (s.heap.objs.size+2) (.ref s.heap.objs.size) (.ref (s.heap.objs.size+1))->IsPair h' (s.heap.objs.size+3) .none .none ->
   SI b1 h' s.heap.objs.size l1 0->SI b2 h' (s.heap.objs.size+1) l2 0->(∀ c o,s.heap.get? c=some o->h'.get? c=some o)->Q (.ref (s.heap.objs.size+4)) { s with heap:=h' }) :
  wpAny (model prog w) A (call (.type "zip") [.ref l1,.ref l2]) Q E s:=by
 refine callType_new F.called_zip (by decide) (F.typeCall_zip_2 _ _) (F.newCall_zip_2 _ _) (λobj=>F.args_object_init_3 obj _ _) F.entry_zip_new (zQi b1 b2 l1 l2 xs ys) ⟨hl1,hl2,?_⟩;unfold zT8;generalize e1:s.heap.push { cls:=.type (zHv b1),data:=.fields #[.ref l1,.int 0 0] }=k1;have n1:k1.objs.size=s.heap.objs.size+1:=by rw[<- e1,Heap.size_push]
 generalize e2:k1.push { cls:=.type (zHv b2),data:=.fields #[.ref l2,.int 0 0] }=k2;have n2:k2.objs.size=s.heap.objs.size+2:=by rw[<- e2,Heap.size_push,n1]
 generalize e3:k2.push { cls:=.type "tuple", data:=.seq #[.ref s.heap.objs.size,.ref (s.heap.objs.size+1)] }=k3;have n3:k3.objs.size=s.heap.objs.size+3:=by rw[<- e3,Heap.size_push,n2]
 generalize e4:k3.push { cls:=.type "tuple", data:=.seq #[.none,.none] }=k4;have n4:k4.objs.size=s.heap.objs.size+4:=by rw[<- e4,Heap.size_push,n3]
 generalize e5:k4.push { cls:=.type "zip", data:=.fields #[.none,.bool false,.bool false,.ref (s.heap.objs.size+2),.ref (s.heap.objs.size+3)] }=k5;have u5:∀ c o,k4.get? c=some o->k5.get? c=some o:=λc o q=>e5 ▸ Heap.get?_push_of_some _ q;have u4:∀ c o,k3.get? c=some o->k5.get? c=some o:=λc o q=>u5 c o (e4 ▸ Heap.get?_push_of_some _ q);have u3:∀ c o,k2.get? c=some o->k5.get? c=some o:=λc o q=>u4 c o (e3 ▸ Heap.get?_push_of_some _ q);have u2:∀ c o,k1.get? c=some o->k5.get? c=some o:=λc o q=>u3 c o (e2 ▸ Heap.get?_push_of_some _ q);have u1:∀ c o,s.heap.get? c=some o->k5.get? c=some o:=λc o q=>u2 c o (e1 ▸ Heap.get?_push_of_some _ q);have g5:IsZip k5 (s.heap.objs.size+4) (s.heap.objs.size+2) (s.heap.objs.size+3) .none:=by
  rw[<- n4,<- e5];exact Heap.get?_push_size _ rfl
 have g4:IsPair k5 (s.heap.objs.size+3) .none .none:=by
  rw[<- n3];exact u5 _ _ (by rw[<- e4]; exact Heap.get?_push_size _ rfl)
 have g3:IsPair k5 (s.heap.objs.size+2) (.ref s.heap.objs.size) (.ref (s.heap.objs.size+1)):=by
  have q:=u4 k2.objs.size _ (by rw[<- e3]; exact Heap.get?_push_size _ rfl);rw[n2] at q;exact q
 have g2:SI b2 k5 (s.heap.objs.size+1) l2 0:=by
  rw[<- n1];exact SI.of ⟨_,u3 _ _ (by rw[<- e2]; exact Heap.get?_push_size _ rfl),rfl,rfl⟩
 have g1:SI b1 k5 s.heap.objs.size l1 0:=SI.of ⟨_,u2 _ _ (by rw[<- e1]; exact Heap.get?_push_size _ rfl),rfl,rfl⟩;exact⟨⟨_,g5,rfl⟩,h k5 g5 g3 g4 g1 g2 u1⟩
end
end L2

namespace L2
open PySem PySem.Spec PyProof.Rows
def SqB(b:Bool)(K:PySem.W.Frag)(H:Hp)(l:Addr)(xs:List V):Prop:=match b with | true=>SqL K H l xs | false=>SqT K H l xs
theorem Inv.sqB{X:Cx}{pins:List (Addr×Obj)}{σ:St}{H:Hp}{s:Shared}{b:Bool}{l:Addr}{xs:List V}(I:Inv X pins σ H s)(h:SqB b X.K H l xs):∃ its:List Value,yS xs its/\SS b s.heap l its.toArray/\xs.length<=sizeLine:=by
 cases b with
 | true =>
  obtain⟨its,r,p,z⟩:=I.list h;exact⟨its,r,p.isList,z⟩
 | false =>
  obtain⟨its,r,p,z⟩:=I.tuple h;exact⟨its,r,p,z⟩
theorem Inv.sqB_inj{X:Cx}{pins:List (Addr×Obj)}{σ:St}{H:Hp}{s:Shared}{b:Bool}{l:Addr}{xs ys:List V}(I:Inv X pins σ H s)(h:SqB b X.K H l xs)(h':SqB b X.K H l ys):xs=ys:=by
 cases b with
 | true=>exact I.list_inj h h'
 | false=>exact I.tuple_inj h h'
def Itz(K:PySem.W.Frag)(b1 b2:Bool)(l1 l2:Addr):It :=
 ⟨λk H=>∃ xs ys x y,SqB b1 K H l1 xs/\SqB b2 K H l2 ys/\xs[k]?=some x/\ys[k]?=some y,
   λk H v H'=>∃ T x y,v=.ref T/\H T=none/\H'=upd H T (.tup [x,y])/\(∀ xs,SqB b1 K H l1 xs->xs[k]?=some x)/\(∀ ys,SqB b2 K H l2 ys->ys[k]?=some y),
   λk H=>∃ xs ys,SqB b1 K H l1 xs/\SqB b2 K H l2 ys/\(xs.length<=k\/ys.length<=k)⟩
theorem zQr{P:Program}{w:World}{K:PySem.W.Frag}{elts:List Expr}{kt:Nat}{pt:Pos}{b1 b2:Bool}{z TI TO i1 i2 l1 l2:Addr}(D:ZipApart z TI TO i1 i2 l1 l2) :
  zP7 P w K (.Tuple elts kt pt) (Itz K b1 b2 l1 l2) [z,TI,TO,i1,i2] z (λk h=>IsZip h z TI TO .none/\IsPair h TI (.ref i1) (.ref i2)/\(∃ a b,IsPair h TO a b)/\SI b1 h i1 l1 k/\SI b2 h i2 l2 k) where
 mem:=by simp
 obj:=λk h st b hb=>by
  obtain⟨hz,hI,⟨a',b',hO⟩,h1,h2⟩:=st;obtain⟨o1,g1,_,d1⟩:=h1.obj;obtain⟨o2,g2,_,d2⟩:=h2.obj;simp only[List.mem_cons,List.not_mem_nil,or_false] at hb;rcases hb with rfl | rfl | rfl | rfl | rfl
  ·exact⟨_,hz,λv e=>by cases e⟩
  ·exact⟨_,hI,λv e=>by cases e⟩
  ·exact⟨_,hO,λv e=>by cases e⟩
  ·exact⟨_,g1,λv e=>by rw[d1] at e; cases e⟩
  ·exact⟨_,g2,λv e=>by rw[d2] at e; cases e⟩
 keep:=λk h h' st kp=>by
  obtain⟨hz,hI,⟨a',b',hO⟩,h1,h2⟩:=st;exact⟨kp z (by simp) _ hz,kp TI (by simp) _ hI,⟨a',b',kp TO (by simp) _ hO⟩,h1.at λo e=>kp i1 (by simp) o e,h2.at λo e=>kp i2 (by simp) o e⟩
 item:=by
  intro X hP hw hK hc k pins s σ H E I hf st hg;subst hP hw hK;obtain⟨hz,hI,⟨a',b',hO⟩,h1,h2⟩:=st;obtain⟨xs,ys,x,y,q1,q2,hx,hy⟩:=hg;obtain⟨its1,r1,p1,_⟩:=I.sqB q1;obtain⟨its2,r2,p2,_⟩:=I.sqB q2;obtain⟨u1,e1,v1⟩:=r1.get hx;obtain⟨u2,e2,v2⟩:=r2.get hy;have hT:s.TypeIs (.ref z) "zip" :=⟨_,hz,rfl⟩;have fresh:H s.heap.objs.size=none:=I.hok.fresh (Nat.le_refl _);unfold pyNext;refine wpAny_bind (wpAny_attempt (wpAny_callSpecial?_slot (name:=Str.ofString "__next__") hT F.slot_zip_next (wpAny_call_entry F.slot_zip_next hT F.entry_zip_next (zPu D hz hI hO h1 h2 p1 p2 (by simpa using e1) (by simpa using e2) λh' z1 o1 j1 j2 t1 kp=>wpAny_pure ?_) (F.args_zip_next_1 _))));refine⟨_,rfl,wpAny_letOwnedTupleGo_zip z1 λh2' z2 sb=>?_⟩;have kp2:∀ c o,c ∉ [z,TO,i1,i2]->s.heap.get? c=some o->h2'.get? c=some o:=λc o hc e=>by
   simp only[List.mem_cons,List.not_mem_nil,or_false,not_or] at hc;exact sb.extBut c o hc.1 (kp c o hc.1 hc.2.1 hc.2.2.1 hc.2.2.2 e)
  have nH:∀ c∈[z,TO,i1,i2],c∈[z,TI,TO,i1,i2]:=λc hc=>by
   simp only[List.mem_cons,List.not_mem_nil,or_false] at hc ⊢;rcases hc with e | e | e | e <;> simp[e]
  have neT:∀ b o,s.heap.get? b=some o->b≠s.heap.objs.size:=λb o e=>Nat.ne_of_lt (Heap.lt_size e);have neH:∀ b o,H b=some o->b ∉ [z,TO,i1,i2]:=λb o e hb=>by
   rw[(hf b (nH b hb)).1] at e;cases e
  have upn:∀ b o,H b=some o->upd H s.heap.objs.size (.tup [x,y]) b=some o:=λb o e=>by
   rw[zD (zG e fresh)];exact e
  refine⟨.ref s.heap.objs.size,upd H s.heap.objs.size (.tup [x,y]),?_,rfl,⟨_,x,y,rfl,fresh,rfl,λzs hz'=>by rw[I.sqB_inj hz' q1]; exact hx,λzs hz'=>by rw[I.sqB_inj hz' q2]; exact hy⟩,?_,λb hb=>?_⟩
  ·refine Inv.step (s:=s) (h':=h2') (g':=s.gens) (d':=s.drawn) (t':=s.toks) (ch:=[z,TO,i1,i2]) I (λb hb=>?_) (λb o _ _ hc e _=>kp2 b o hc e) (λb o _ _ hc e _=>⟨o.slots,kp2 b o hc e⟩) (λb o _ e n=>?_) (λb o hc e=>⟨o,kp2 b o hc e⟩)
    (λb zs e=>upn b _ e) (λb o zs e=>upn b _ e) (λb ps e=>⟨#[],by rw[upn b _ e]; simp⟩) (λm hm=>?_) (λb o e=>?_) I.bare
   ·obtain⟨_,f1,_,f3,f4,f5⟩:=hf b (nH b hb);exact⟨f3,f1,f4,f5⟩
   ·rw[zD (neT b o e)];exact n
   ·obtain⟨o,es,ep,ho,r⟩:=hm;refine⟨o,es,ep,kp2 _ o (λhb=>?_) ho,r⟩;exact(hf _ (nH _ hb)).2.1 rfl
   ·by_cases hb:b=s.heap.objs.size
    ·subst hb;rw[zA] at e;cases e;exact⟨by show 2<=sizeLine; decide,[u1,u2],.cons v1 (.cons v2 .nil),_,sb.extBut _ _ (Nat.ne_of_gt (Heap.lt_size hz)) t1,rfl,_,rfl⟩
    ·rw[zD hb] at e;refine(I.hok b o e).stay (λc u hc q=>kp2 c u ?_ q) (λc q=>upn c _ q) λc zs q=>upn c _ q;rcases hc with hc | hc
     ·rw[hc]; exact neH b o e
     ·exact neH c _ hc
  ·exact⟨z2,sb.extBut _ _ D.TIz (kp _ _ D.TIz D.TITO D.TIi1 D.TIi2 hI),⟨_,_,sb.extBut _ _ D.TOz o1⟩,j1.at λo e=>sb.extBut _ o D.i1z e,j2.at λo e=>sb.extBut _ o D.i2z e⟩
  ·obtain⟨o,e,_⟩:∃ o,s.heap.get? b=some o/\True:=by
    obtain⟨o1,g1,_⟩:=h1.obj;obtain⟨o2,g2,_⟩:=h2.obj;simp only[List.mem_cons,List.not_mem_nil,or_false] at hb;rcases hb with rfl | rfl | rfl | rfl | rfl
    ·exact⟨_,hz,trivial⟩
    ·exact⟨_,hI,trivial⟩
    ·exact⟨_,hO,trivial⟩
    ·exact⟨_,g1,trivial⟩
    ·exact⟨_,g2,trivial⟩
   rw[zD (neT b o e)];exact(hf b hb).1
 done:=by
  intro X hP hw hK hc k pins s σ H E I hf st hg;subst hP hw hK;obtain⟨hz,hI,⟨a',b',hO⟩,h1,h2⟩:=st;obtain⟨xs,ys,q1,q2,hend⟩:=hg;obtain⟨its1,r1,p1,_⟩:=I.sqB q1;obtain⟨its2,r2,p2,_⟩:=I.sqB q2;have hT:s.TypeIs (.ref z) "zip" :=⟨_,hz,rfl⟩;have hend':its1.toArray[k]?=none\/its2.toArray[k]?=none:=by
   have l1':=r1.length;have l2':=r2.length;rcases hend with h | h
   ·exact .inl (Array.getElem?_eq_none (by rw[List.size_toArray]; lia))
   ·exact .inr (Array.getElem?_eq_none (by rw[List.size_toArray]; lia))
  have nH:∀ c∈[z,TO,i1,i2],c∈[z,TI,TO,i1,i2]:=λc hc=>by
   simp only[List.mem_cons,List.not_mem_nil,or_false] at hc ⊢;rcases hc with e | e | e | e <;> simp[e]
  have neH:∀ b o,H b=some o->b ∉ [z,TO,i1,i2]:=λb o e hb=>by
   rw[(hf b (nH b hb)).1] at e;cases e
  unfold pyNext;refine wpAny_bind (wpAny_attempt (wpAny_callSpecial?_slot (name:=Str.ofString "__next__") hT F.slot_zip_next (wpAny_call_entry F.slot_zip_next hT F.entry_zip_next (zQu (I.ok.hd hc) D hz hI hO h1 h2 p1 p2 hend' λh' e kp he=>?_) (F.args_zip_next_1 _))));obtain⟨oe,hoe,hce⟩:=he;refine wpAny_bind (wpAny_isInstance (T := "StopIteration") (b:=true) ⟨oe,hoe,hce⟩ isSubtype_stop (wpAny_pure ⟨rfl,?_⟩));have kp2:∀ c o,c ∉ [z,TO,i1,i2]->s.heap.get? c=some o->h'.get? c=some o:=λc o hc e=>by
   simp only[List.mem_cons,List.not_mem_nil,or_false,not_or] at hc;exact kp c o hc.1 hc.2.1 hc.2.2.1 hc.2.2.2 e
  refine I.step (g':=s.gens) (d':=s.drawn) (t':=s.toks) (ch:=[z,TO,i1,i2]) (λb hb=>?_) (λb o _ _ hc e _=>kp2 b o hc e) (λb o _ _ hc e _=>⟨o.slots,kp2 b o hc e⟩) (λb o _ e n=>n) (λb o hc e=>⟨o,kp2 b o hc e⟩)
   (λb zs e=>e) (λb o zs e=>e) (λb ps e=>⟨#[],by rw[e]; simp⟩) (λm hm=>?_) (λb o e=>?_) I.bare
  ·obtain⟨_,f1,_,f3,f4,f5⟩:=hf b (nH b hb);exact⟨f3,f1,f4,f5⟩
  ·obtain⟨o,es,ep,ho,r⟩:=hm;refine⟨o,es,ep,kp2 _ o (λhb=>?_) ho,r⟩;exact(hf _ (nH _ hb)).2.1 rfl
  ·refine(I.hok b o e).stay (λc u hc q=>kp2 c u ?_ q) (λc q=>q) λc zs q=>q;rcases hc with hc | hc
   ·rw[hc]; exact neH b o e
   ·exact neH c _ hc
 self:=λ_ _ _ _ _ st h=>wpAny_pyIter_zip st.1 h
section
variable{X:Cx}
def iZip(K:PySem.W.Frag)(ta:TA):TI:=λσ H R=>ta σ H λvs H1=>∃(b1 b2:Bool)(l1 l2:Addr)(xs ys:List V),vs=[.ref l1,.ref l2]/\SqB b1 K H1 l1 xs/\SqB b2 K H1 l2 ys/\R (Itz K b1 b2 l1 l2) H1
theorem zWy{elts:List Expr}{kt:Nat}{pt:Pos}{a b:Expr}{ta:TA}{p pos:Pos}(hg:Gl X "zip")(hm:X.mg "zip" = none)(ha:PA X [a,b] ta)(hs:starEach [a,b] X.env=[(false,eval a X.env),(false,eval b X.env)]:=by rfl)(hs2:starEach [b] X.env=[(false,eval b X.env)]:=by rfl) :
  PI X (.Tuple elts kt pt) (.Call (.Name "zip" p) [a,b] [] pos) (iZip X.K ta):=by
 intro pins s σ H R I h;refine Call_ (zCe I hg hm zVm (PyProof.Rows.callWith_type1 (thn (ha pos pins s σ H _ I h) λus s1 ⟨vs,H1,I1,r1,q1⟩=>?_) (by rw[hs,hs2]) (by rw[hs2]; rfl)));obtain⟨b1,b2,l1,l2,xs,ys,e,g1,g2,q⟩:=q1;subst e;obtain⟨u1,u2,rfl,v1,v2⟩:=yS.two r1;cases v1;cases v2;obtain⟨its1,_,p1,_⟩:=I1.sqB g1;obtain⟨its2,_,p2,_⟩:=I1.sqB g2;have a1:l1<s1.heap.objs.size:=by
  obtain⟨o,e,_⟩:=p1.obj;exact Heap.lt_size e
 have a2:l2<s1.heap.objs.size:=by
  obtain⟨o,e,_⟩:=p2.obj;exact Heap.lt_size e
 refine zPb p1 p2 λh' hz hI hO j1 j2 kp=>?_;refine wpAny_pyIter_zip hz ?_;refine⟨_,_,_,_,H1,rfl,I1.kept (t':=s1.toks) kp,zQr (zipApart_new a1 a2),⟨hz,hI,⟨_,_,hO⟩,j1,j2⟩,λb hb=>?_,q⟩;have hge:s1.heap.objs.size<=b:=by
  simp only[List.mem_cons,List.not_mem_nil,or_false] at hb;rcases hb with rfl | rfl | rfl | rfl | rfl <;> lia
 exact I1.fpOk hge (I1.hok.fresh hge)
end
section
variable{K:PySem.W.Frag}{b1 b2:Bool}{l1 l2 D:Addr}{xs ys:List V}{g:TG}{tt:TT}{te:TE}{σ0:St}{H1:Hp}{Q:VK}
theorem zRe(Pv:Nat->St->List V->Hp->Prop)(h0:Pv 0 σ0 [] (upd H1 D (.lst [])))(hl:∀ i σ zs H,Pv i σ zs H->SqB b1 K H l1 xs/\SqB b2 K H l2 ys/\H D=some (.lst zs))
  (hs:∀ i x y T σ zs H,xs[i]?=some x->ys[i]?=some y->H T=none->Pv i σ zs H->g (.ref T) σ (upd H T (.tup [x,y])) λσ2 H2=>tt σ2 H2 λb H3 =>
   if b=true then te σ2 H3 λz H4=>H4 D=some (.lst zs)/\zs.length<sizeLine/\Pv (i+1) σ2 (zs++[z]) (upd H4 D (.lst (zs++[z]))) else Pv (i+1) σ2 zs H3)
  (hd:∀ σ zs H,Pv (min xs.length ys.length) σ zs H->Q (.ref D) H):zCn (Itz K b1 b2 l1 l2) D g tt te σ0 H1 Q:=by
 exists λi m σ zs H=>m=min xs.length ys.length-i/\i<=min xs.length ys.length/\Pv i σ zs H,⟨_,rfl,Nat.zero_le _,h0⟩;rintro i m σ zs H ⟨rfl,hi,p⟩;obtain⟨q1,q2,qd⟩:=hl i σ zs H p;exists qd;by_cases hlt:i<min xs.length ys.length
 ·have c1:i<xs.length:=by lia
  have c2:i<ys.length:=by lia
  refine .inr ⟨⟨xs,ys,xs[i],ys[i],q1,q2,by simp[c1],by simp[c2]⟩,Pv (i+1),λσ' zs' H' z=>⟨min xs.length ys.length-(i+1),by lia,rfl,hlt,z⟩,λv H' y=>?_⟩;obtain⟨T,x,y,rfl,hT,rfl,y1,y2⟩:=y;exact hs i x y T σ zs H (y1 xs q1) (y2 ys q2) hT p
 ·have e:i=min xs.length ys.length:=by lia
  subst e;exact .inl ⟨⟨xs,ys,q1,q2,by lia⟩,hd σ zs H p⟩
theorem zHm(Pv:Nat->St->List V->Hp->Prop)(h0:Pv 0 σ0 [] (upd H1 D (.lst [])))(hl:∀ i σ zs H,Pv i σ zs H->SqB b1 K H l1 xs/\SqB b2 K H l2 ys/\H D=some (.lst zs))
  (hs:∀ i x y T σ zs H,xs[i]?=some x->ys[i]?=some y->H T=none->Pv i σ zs H->g (.ref T) σ (upd H T (.tup [x,y])) λσ2 H2=>te σ2 H2 λz H4=>H4 D=some (.lst zs)/\zs.length<sizeLine/\Pv (i+1) σ2 (zs++[z]) (upd H4 D (.lst (zs++[z]))))
  (hd:∀ σ zs H,Pv (min xs.length ys.length) σ zs H->Q (.ref D) H):zCn (Itz K b1 b2 l1 l2) D g zU9 te σ0 H1 Q:=zRe Pv h0 hl (λi x y T σ zs H e1 e2 e3 p=>hs i x y T σ zs H e1 e2 e3 p) hd
end
end L2

namespace L2
open PySem PySem.Spec PyProof.Rows
theorem ifD{p A B:Prop}[Decidable p](h1:p->A)(h2:¬ p->B):if decide p=true then A else B:=by
 by_cases h:p
 ·rw[if_pos (decide_eq_true h)]; exact h1 h
 ·rw[if_neg (by rw[decide_eq_false h]; exact Bool.false_ne_true)]; exact h2 h
theorem ifN{p A B:Prop}[Decidable p](h1:¬ p->A)(h2:p->B):if (!decide p)=true then A else B:=by
 by_cases h:p
 ·rw[if_neg (by rw[decide_eq_true h]; exact Bool.false_ne_true)]; exact h2 h
 ·rw[if_pos (by rw[decide_eq_false h]; rfl)]; exact h1 h
theorem ifE{x y:Int}{A B:Prop}(h1:x=y->A)(h2:x≠y->B):if decide (V.int x=V.int y)=true then A else B :=
 ifD (λh=>h1 (V.int.inj h)) λh=>h2 λe=>h (congrArg V.int e)
theorem decI{x y:Int}(h:x=y):decide (V.int x=V.int y)=true:=decide_eq_true (congrArg V.int h)
theorem zB{H:Hp}{p:Addr}(h:H p=none)(o:HO):Same H (upd H p o):=λb u q=>by rw[zD (zG q h)]; exact q
theorem zBt{ns:List Int}{i:Nat}{x:V}(h:(ns.map V.int)[i]?=some x):∃ n,ns[i]?=some n/\x=.int n:=by
 rw[List.getElem?_map] at h;cases e:ns[i]? with
 | none=>rw[e] at h; cases h
 | some n=>rw[e] at h; exact⟨n,rfl,(Option.some.inj h).symm⟩
theorem zOw{α:Type}{l:List α}{i:Nat}{x:α}(h:l[i]?=some x):l.take (i+1)=l.take i++[x]:=by
 rw[List.take_succ,h]; rfl
theorem zR0{n:Nat}(h:n<=1000):n<=sizeLine:=Nat.le_of_lt (zK h)
theorem SqT.same{K:PySem.W.Frag}{H H':Hp}{a:Addr}{xs:List V}(h:SqT K H a xs)(e:Same H H'):SqT K H' a xs:=by
 rcases h with h | h
 ·rcases h with h | ⟨o,h⟩
  ·exact .inl (.inl (e _ _ h))
  ·exact .inl (.inr ⟨o,e _ _ h⟩)
 ·exact .inr h
def zR2(t:TT):Prop:=∀(σ:St)(H:Hp)(Q Q':Bool->Hp->Prop),(∀ b H1,Q b H1->Q' b H1)->t σ H Q->t σ H Q'
def zJi(t:TE):Prop:=∀(σ:St)(H:Hp)(Q Q':VK),(∀ b H1,Q b H1->Q' b H1)->t σ H Q->t σ H Q'
def zRq(t:TA):Prop:=∀(σ:St)(H:Hp)(Q Q':List V->Hp->Prop),(∀ b H1,Q b H1->Q' b H1)->t σ H Q->t σ H Q'
def zVn(r:R2):Prop:=∀(x y:V)(H:Hp)(Q Q':VK),(∀ b H1,Q b H1->Q' b H1)->r x y H Q->r x y H Q'
def zWr(r:List V->Hp->VK->Prop):Prop:=∀(xs:List V)(H:Hp)(Q Q':VK),(∀ b H1,Q b H1->Q' b H1)->r xs H Q->r xs H Q'
theorem zIg{i:Nat} : zJi (zRv i):=λ_ _ _ _ hq ⟨v,e,z⟩=>⟨v,e,hq _ _ z⟩
theorem mo_c{v:V} : zJi (tC v):=λ_ _ _ _ hq z=>hq _ _ z
theorem zUe{r:R2}{ta tb:TE}(hr:zVn r)(ha:zJi ta)(hb:zJi tb):zJi (tOp r ta tb):=λσ _ _ _ hq z=>ha σ _ _ _ (λ_ _ z=>hb σ _ _ _ (λ_ _ z=>hr _ _ _ _ _ hq z) z) z
theorem zTu{g:Int->Int->V} : zVn (rI0 g):=λ_ _ _ _ _ hq ⟨i,j,e1,e2,z⟩=>⟨i,j,e1,e2,hq _ _ z⟩
theorem zJv{t:TE}(h:zJi t):zR2 (zWp t):=λσ _ _ _ hq z=>h σ _ _ _ (λ_ _ ⟨k,e,z⟩=>⟨k,e,hq _ _ z⟩) z
theorem zVi{t u:TT}(h:zR2 t)(h':zR2 u):zR2 (tAnd t u):=λσ _ _ _ hq z=>h σ _ _ _ (λb _ z=>by
 cases b with
 | true=>exact h' σ _ _ _ hq z
 | false=>exact hq _ _ z) z
theorem zS1:zRq zP3:=λ_ _ _ _ hq z=>hq _ _ z
theorem zOz{te:TE}{ta:TA}(h:zJi te)(h':zRq ta):zRq (rC te ta):=λσ _ _ _ hq z=>h σ _ _ _ (λ_ _ z=>h' σ _ _ _ (λ_ _ z=>hq _ _ z) z) z
theorem zW5{r:List V->Hp->VK->Prop}{t:TA}(hr:zWr r)(h:zRq t):zJi (tCB r t):=λσ _ _ _ hq z=>h σ _ _ _ (λ_ _ z=>hr _ _ _ _ hq z) z
theorem zSw{K:PySem.W.Frag} : zWr (λxs H Q=>∃ p ys,xs=[.ref p]/\(SqL K H p ys\/SqT K H p ys)/\Q (.int ys.length) H):=λ_ _ _ _ hq ⟨p,ys,e,s,z⟩=>⟨p,ys,e,s,hq _ _ z⟩
theorem qA(ns:List Int)(lo hi:Option Int):rS (ns.map V.int) lo hi=((ns.drop (HT.sIx ns.length 0 lo)).take (HT.sIx ns.length ns.length hi-HT.sIx ns.length 0 lo)).map V.int:=by
 unfold rS;rw[List.length_map,List.map_take,List.map_drop]
end L2

namespace L2
open PySem PySem.Spec PyProof.Rows
theorem zPn{A:Around}{s:Shared}{xs ys:List Int}{us ws:List Value}(r1:yS (xs.map V.int) us)(r2:yS (ys.map V.int) ws):∀ j (h1:j<us.toArray.size) (h2:j<ws.toArray.size),
  SeqAt.EqAt A s us.toArray[j] ws.toArray[j] (decide (xs[j]?=ys[j]?)):=λj h1 h2=>by
 have l1:=r1.length;have l2:=r2.length;rw[List.length_map] at l1 l2;have g1:j<us.length:=by simpa using h1
 have g2:j<ws.length:=by simpa using h2
 have k1:j<xs.length:=by lia
 have k2:j<ys.length:=by lia
 obtain⟨u,hu,t,ru⟩:=r1.get (i:=j) (x:=.int xs[j]) (by rw[List.getElem?_map,List.getElem?_eq_getElem k1]; rfl);obtain⟨w,hw,t',rw'⟩:=r2.get (i:=j) (x:=.int ys[j]) (by rw[List.getElem?_map,List.getElem?_eq_getElem k2]; rfl);have e1:us.toArray[j]=.int xs[j] t:=by
  have z:=List.getElem?_eq_getElem g1;rw[hu] at z;rw[List.getElem_toArray,<- Option.some.inj z,ru]
 have e2:ws.toArray[j]=.int ys[j] t':=by
  have z:=List.getElem?_eq_getElem g2;rw[hw] at z;rw[List.getElem_toArray,<- Option.some.inj z,rw']
 rw[e1,e2];have e3:decide (xs[j]?=ys[j]?)=(xs[j] == ys[j]):=by
  rw[List.getElem?_eq_getElem k1,List.getElem?_eq_getElem k2];by_cases h:xs[j]=ys[j]
  ·rw[h]; simp
  ·rw[decide_eq_false (λz=>h (Option.some.inj z))];exact(beq_eq_false_iff_ne.mpr h).symm
 rw[e3];exact SeqAt.EqAt.int_int _ _ _ _
theorem zKi{xs ys:List Int} : ((List.range (min xs.length ys.length)).all (λj=>decide (xs[j]?=ys[j]?))&&xs.length == ys.length)=decide (xs=ys):=by
 by_cases h:xs=ys
 ·subst h;rw[decide_eq_true rfl,Bool.and_eq_true];exact⟨List.all_eq_true.mpr λj _=>decide_eq_true rfl,by simp⟩
 ·rw[decide_eq_false h,Bool.and_eq_false_iff];by_cases hl:xs.length=ys.length
  ·left;rw[Bool.eq_false_iff];intro z;apply h;rw[List.all_eq_true] at z;refine List.ext_getElem? λj=>?_;by_cases hj:j<xs.length
   ·exact of_decide_eq_true (z j (List.mem_range.mpr (by lia)))
   ·rw[List.getElem?_eq_none (by lia),List.getElem?_eq_none (by lia)]
  ·right;exact beq_eq_false_iff_ne.mpr hl
section
variable{X:Cx}
def rEqT(K:PySem.W.Frag)(neg:Bool):R2:=λx y H Q=>∃(a b:Addr)(xs ys:List Int),x=.ref a/\y=.ref b/\SqT K H a (xs.map V.int)/\SqT K H b (ys.map V.int)/\Q (.bl (if neg then !decide (xs=ys) else decide (xs=ys))) H
theorem zNk(hu:X.A.units<cLine):OpR X (compareOp .Eq) (rEqT X.K false):=by
 intro pins s σ H x y v u Q I rx ry h;obtain⟨a,b,xs,ys,rfl,rfl,h1,h2,q⟩:=h;cases rx;cases ry;obtain⟨us,r1,p1,_⟩:=I.tuple h1;obtain⟨ws,r2,p2,_⟩:=I.tuple h2;refine SeqAt.eq_tupleAt (e:=λj=>decide (xs[j]?=ys[j]?)) (show s.heap.IsTuple a us.toArray from p1) (show s.heap.IsTuple b ws.toArray from p2) hu (zPn r1 r2) ?_;have l1:=r1.length;have l2:=r2.length;rw[List.length_map] at l1 l2;rw[List.size_toArray,List.size_toArray,<- l1,<- l2,zKi];exact⟨.bl (decide (xs=ys)),H,I,rfl,q⟩
theorem zWz(hu:X.A.units<cLine):OpR X (compareOp .NotEq) (rEqT X.K true):=by
 intro pins s σ H x y v u Q I rx ry h;obtain⟨a,b,xs,ys,rfl,rfl,h1,h2,q⟩:=h;cases rx;cases ry;obtain⟨us,r1,p1,_⟩:=I.tuple h1;obtain⟨ws,r2,p2,_⟩:=I.tuple h2;refine SeqAt.RcNeAt.tuples (e:=λj=>decide (xs[j]?=ys[j]?)) (show s.heap.IsTuple a us.toArray from p1) (show s.heap.IsTuple b ws.toArray from p2) hu (zPn r1 r2) X.prog X.w _ _ ?_;have l1:=r1.length;have l2:=r2.length;rw[List.length_map] at l1 l2;rw[List.size_toArray,List.size_toArray,<- l1,<- l2,zKi];exact⟨.bl (!decide (xs=ys)),H,I,rfl,q⟩
end
end L2
namespace L2
open PySem
theorem yQ{rows:List Int}{P:Int->Prop}(bd:∀ x∈rows,P x){k:Int}(k0:0<=k)(k1:k<rows.length):∃ v:Int,atI (rows.map V.int) k=some (.int v)/\P v:=by
 have hk:k.toNat<rows.length:=by lia
 refine⟨rows[k.toNat],?_,bd _ (List.getElem_mem hk)⟩;have q:atI (rows.map V.int) ((k.toNat:Nat):Int)=some (.int rows[k.toNat]):=qR (by rw[List.getElem?_map,List.getElem?_eq_getElem hk] <;> rfl);rw[show((k.toNat:Nat):Int)=k from by lia] at q;exact q
end L2
namespace L2
end L2

namespace L2
open PySem PySem.Spec PyProof.Rows
section
variable{X:Cx}{T:List Str}{caps:List (Str×Nat)}{scope:Scope}{elt target iter:Expr}{ifs:List Expr}{pos cpos:Pos}{wi:TI}{g:CC->TG}{tt:CC->TT}{te:CC->TE}
theorem zQm(S:sA X caps scope)(hc:X.calm=true)(hi:PI X target iter wi)(hg:∀ c,PG (xX X (T++caps.map (·.1)) scope c) target (g c))(ht:∀ c,zTi (xX X (T++caps.map (·.1)) scope c) ifs (tt c))(he:∀ c,PE (xX X (T++caps.map (·.1)) scope c) elt (te c))
  {use:Option (Value->Sem Unit)} {Qv:Value->Shared->Prop} {pins:List (Addr×Obj)} {s:Shared} {σ:St} {H:Hp} {Q:VK} (I:Inv X pins σ H s) (h:zPp T.length caps wi g tt te σ H Q)
  (hfin:∀(D C:Addr)(s4:Shared)(H3:Hp),Inv X pins σ H3 s4->Q (.ref D) H3->∀ m,s4.heap.Ns C m->H3 C=none->C≠X.env.locals->X.s₀.heap.objs.size<=C->(∀ x c,X.env.cells.lookup x=some c->c≠C)->(∀ p∈X.pn++pins,p.1≠C)->compPost (model X.prog X.w) X.A X.xe use Qv (.ref D) C (.ok .next) s4)
  (hs:∀ x,foldedSetIterable iter X.env x=pure x:=by intro _; rfl) :
  wpAny (model X.prog X.w) X.A (comprehension (.ListComp elt [⟨target,iter,ifs,0⟩] scope pos) scope X.env cpos (newList []) false (eval iter X.env) use) Qv X.xe s:=by
 refine wpAny_comprehension_free (use:=use) rfl hs (zKn S.cells) S.kind S.loc (thn (hi pins s σ H _ I h) λv s1 h1=>thn h1 λitv s2 h2=>?_);obtain⟨it,fp,tn,J,H2,e,I2,TT,st2,f2,q2⟩:=h2;subst e;refine wpAny_newObj_type (wpAny_newFunctionEnv S.nocell (by intro y hy; simp at hy) (λh1 hn hsb=>?_) S.kind);dsimp only at hn hsb ⊢;generalize hg2:s2.heap.push { cls:=.type "list", dict:=none,data:=.seq ([]:List Value).toArray }=G at hn hsb ⊢;have hCv:G.objs.size=s2.heap.objs.size+1:=by rw[<- hg2,Heap.size_push]
 have hDC:G.objs.size≠s2.heap.objs.size:=by rw[hCv]; exact Nat.succ_ne_self _
 have hCle:s2.heap.objs.size<=G.objs.size:=by rw[hCv]; exact Nat.le_succ _
 have old:∀ b o,s2.heap.get? b=some o->h1.get? b=some o:=λb o e=>hsb.extBut b o (Nat.ne_of_lt (Nat.lt_of_lt_of_le (Heap.lt_size e) hCle)) (Heap.get?_push_of_some _ (hg2 ▸ Heap.get?_push_of_some _ e));have hacc:∃ n,h1.get? s2.heap.objs.size=some { cls:=.type "list", data:=.seq ([]:List Value).toArray n }:=⟨_,hsb.extBut _ _ (Ne.symm hDC) (Heap.get?_push_of_some _ (hg2 ▸ Heap.get?_push_size _ rfl))⟩;have hfp:∀ b∈fp,b<s2.heap.objs.size:=λb hb=>by
  obtain⟨o,e,_⟩:=TT.obj _ _ st2 b hb;exact Heap.lt_size e
 have cs:=tN (env:=X.env) scope.names [] S.cells (λ_ _ z=>by cases z);have I0:=zFo (T:=T) (tk:=s2.toks+([]:List (Str×Value)).length) S I2 f2 hfp (Nat.le_refl _) hCle hDC old hacc hn;have st0:tn 0 h1:=TT.keep _ _ _ st2 λb _ o e=>old b o e;obtain⟨W,⟨m0,w0⟩,turn⟩:=q2 ⟨G.objs.size,s2,H2,fp⟩ s2.heap.objs.size (I2.hok.fresh (Nat.le_refl _));have fr0:∀ b∈fp,upd H2 s2.heap.objs.size (.lst []) b=none:=λb hb=>by
  rw[zD (Nat.ne_of_lt (hfp b hb))];exact(f2 b hb).1
 have stat:∀{H':Hp},(∀ b∈fp,H' b=none)->∀ b∈fp,zM7 (xX X (T++caps.map (·.1)) scope ⟨G.objs.size,s2,H2,fp⟩) [] H' b:=λ{H'} hn' b hb =>
  ⟨hn' b hb,Nat.ne_of_lt (Nat.lt_of_lt_of_le (hfp b hb) hCle),I0.ok.exfs b hb,.inl hb,λx c e=>(f2 b hb).2.2.2.2.1 x c (cs x c e),λp hp=>absurd (show p∈([]:List (Addr×Obj)) from hp) (by simp)⟩
 have loop:codeAny (model X.prog X.w) X.A (.compLoop (.ListComp elt [⟨target,iter,ifs,0⟩] scope pos) 0 (.ref it) (.ref s2.heap.objs.size) (compEnvC scope (vZ X.env scope.names []) G.objs.size X.env))
   (compPost (model X.prog X.w) X.A X.xe use Qv (.ref s2.heap.objs.size) G.objs.size) { s2 with heap:=h1,toks:=s2.toks+([]:List (Str×Value)).length }:=by
  refine codeAny_loop rfl (λn s'=>∃ i σ' ys H',Inv (xX X (T++caps.map (·.1)) scope ⟨G.objs.size,s2,H2,fp⟩) [] σ' H' s'/\tn i s'.heap/\(∀ b∈fp,H' b=none)/\W i n σ' ys H') (λn s3 hI=>?_) m0 ⟨0,_,[],_,I0,st0,fr0,w0⟩;obtain⟨i,σ3,ys,H3,I3,st3,fr3,w3⟩:=hI;show wpAny _ X.A ((compTurn (.ListComp elt [⟨target,iter,ifs,0⟩] scope pos) 0 (.ref it) (.ref s2.heap.objs.size) (compEnvC scope (vZ X.env scope.names []) G.objs.size X.env)).onRaise (λx=>do noteFrame x (compEnvC scope (vZ X.env scope.names []) G.objs.size X.env); theTreesLotGoes x)) _ _ s3;refine wpAny_noted ?_;rw[compTurn_list];refine wpAny_bind (wpAny_standAt (wpAny_bind ?_));obtain⟨hD3,turn3⟩:=turn i n σ3 ys H3 w3;rcases turn3 with ⟨stop,qn⟩ | ⟨go,N,hN,step⟩
  ·refine zFe (TT.done (xX X (T++caps.map (·.1)) scope ⟨G.objs.size,s2,H2,fp⟩) rfl rfl rfl hc i [] s3 σ3 H3 _ I3 (stat fr3) st3 stop) λr s4 ⟨hr,I4⟩=>?_;subst hr;refine wpAny_pure ?_;obtain⟨m4,hn4,_⟩:=I4.loc;have J4:Inv X pins σ H3 s4:=by
    refine I2.call' (s':=s4) (ch:=fp) I4.os I4.base I4.hok I4.bare λb hb=>?_;obtain⟨_,f1,_,f3,f4,f5⟩:=f2 b hb;exact⟨f3,f1,f4,f5⟩
   refine hfin _ G.objs.size s4 H3 J4 qn m4 hn4 I4.free (Nat.ne_of_gt (Nat.lt_of_lt_of_le I2.lt hCle)) (Nat.le_trans I2.sz hCle) (λx c e z=>?_) (λp hp z=>?_)
   ·obtain⟨v,qq⟩:=I2.cell x c e;exact absurd (Nat.lt_of_lt_of_le qq.lt (by rw[z]; exact hCle)) (Nat.lt_irrefl _)
   ·exact absurd (Nat.lt_of_lt_of_le (Heap.lt_size (I2.pin p hp).1) (by rw[z]; exact hCle)) (Nat.lt_irrefl _)
  ·refine zFe (TT.item (xX X (T++caps.map (·.1)) scope ⟨G.objs.size,s2,H2,fp⟩) rfl rfl rfl hc i [] s3 σ3 H3 _ I3 (stat fr3) st3 go) λr s4 ⟨u,hr,h4⟩=>?_;subst hr;refine wpAny_bind (zFe h4 λ_ s5 ⟨x,H5,I5,r5,y5,st5,fr5⟩=>?_);have I5':=I5.pinned (stat fr5) (TT.obj _ _ st5);refine wpAny_bind (zFe (hg _ _ s5 σ3 H5 x u _ I5' r5 (step x H5 y5)) λ_ s6 ⟨σ6,H6,I6,q6⟩=>?_);have again:∀{s7:Shared}{σ7:St}{zs:List V}{H7:Hp},Inv (xX X (T++caps.map (·.1)) scope ⟨G.objs.size,s2,H2,fp⟩) ([]++zE9 fp s5.heap) σ7 H7 s7->N σ7 zs H7 ->
     ∃ m,m<n/\∃ i σ' ys H',Inv (xX X (T++caps.map (·.1)) scope ⟨G.objs.size,s2,H2,fp⟩) [] σ' H' s7/\tn i s7.heap/\(∀ b∈fp,H' b=none)/\W i m σ' ys H':=λ{s7 σ7 zs H7} I7 n7=>by
    obtain⟨m',hm,w7⟩:=hN σ7 zs H7 n7;refine⟨m',hm,i+1,σ7,zs,H7,I7.unpinned,TT.keep _ _ _ st5 λb hb o e=>(I7.pin (b,o) (List.mem_append_right _ (List.mem_append_right _ (wL hb e)))).1,λb hb=>?_,w7⟩;obtain⟨o,e,d⟩:=TT.obj _ _ st5 b hb;exact(I7.pin (b,o) (List.mem_append_right _ (List.mem_append_right _ (wL hb e)))).2.1
   refine wpAny_bind (zFe (ht _ _ s6 σ6 H6 _ I6 q6) λok s7 ⟨H7,I7,q7⟩=>?_);cases ok with
   | false=>exact wpAny_pure ⟨rfl,again I7 q7⟩
   | true =>
    refine wpAny_bind (wpAny_bind (zFe (he _ _ s7 σ6 H7 _ I7 q7) λy s8 ⟨yv,H8,I8,r8,hD8,hl8,q8⟩=>?_));refine wpAny_bind (zFe (zAx _ s8 σ6 H8 (.ref s2.heap.objs.size) [yv] (.ref s2.heap.objs.size) [y] (λ_ H9=>N σ6 (ys++[yv]) H9) I8 rfl (.cons r8 .nil) ⟨_,ys,yv,rfl,rfl,hD8,hl8,q8⟩) λ_ s9 ⟨_,H9,I9,_,q9⟩=>?_);exact wpAny_pure (wpAny_pure ⟨rfl,again I9 q9⟩)
 exact codeAny_compStart_list loop (TT.self _ 0 _ _ _ st0 loop)
theorem zB0{i:Nat}{y:Str}{py spos:Pos}(hN:X.N.Nodup)(hy:X.N[i]?=some y)(hloc:X.env.scope.names.lookup y=some .local)(S:sA X caps scope)(hc:X.calm=true)(hi:PI X target iter wi)(hg:∀ c,PG (xX X (T++caps.map (·.1)) scope c) target (g c))(ht:∀ c,zTi (xX X (T++caps.map (·.1)) scope c) ifs (tt c))(he:∀ c,PE (xX X (T++caps.map (·.1)) scope c) elt (te c))
  (hsw:swapsWith (.ListComp elt [⟨target,iter,ifs,0⟩] scope pos) (some (.Name y py)) spos.line X.env=pure true:=by rfl) (hs:∀ x,foldedSetIterable iter X.env x=pure x:=by intro _; rfl) :
  PS X (.Assign [.Name y py] (.ListComp elt [⟨target,iter,ifs,0⟩] scope pos) spos) (zUf (zPp T.length caps wi g tt te) (zJf i)):=by
 intro pins s σ H D I h;rw[exec_Assign_Name_used _ _ _ _ hsw];refine wpAny_bind (wpAny_standAt (wpAny_bind ?_));show wpAny _ X.A (do let _ <- comprehension (.ListComp elt [⟨target,iter,ifs,0⟩] scope pos) scope X.env _ (newList []) false (eval iter X.env) (some (assign (.Name y py) X.env))) _ _ s;refine wpAny_bind (wpAny_mono (zQm (Qv:=λ_ s'=>SP X pins D .next s') S hc hi hg ht he I h (λD' C s4 H3 J4 q4 m4 hn4 hC hL hS hcell hpin=>?_) hs) (λ_ s' hq=>wpAny_pure (wpAny_pure hq)) λ_ _ e=>e);show wpAny (model X.prog X.w) X.A (assign (.Name y py) X.env (.ref D')) (λ_ s''=>∃ m,s''.heap.Ns C m/\∀ h',Heap.SameBut C s''.heap h'->SP X pins D .next { s'' with heap:=h' }) X.xe s4;refine wpAny_assign_Name (zEt J4 hN hy (.inl hloc) (v:=.ref D') rfl (λs5 J5 hb=>?_) (.inr hloc));obtain⟨a,sb,ha⟩:=hb;have hCa:C≠a:=by
  rcases ha with z | z
  ·rw[z]; exact hL
  ·exact λe=>hcell y a z e.symm
 refine⟨m4,hn4.sameBut sb hCa,λh' sb'=>⟨_,H3,?_,q4⟩⟩;exact J5.turned (t':=s5.toks) (λb o hb e=>(sb'.2 b hb).trans e) hC hL (.inr hS) hcell hpin
end
end L2

namespace L2
open PySem PySem.Spec PyProof.Rows
theorem zH0:bootBuiltins "enumerate" = some (.type "enumerate"):=by decide +kernel
def Ite(K:PySem.W.Frag)(l:Addr):It :=
 ⟨λk H=>∃ xs x,SqL K H l xs/\xs[k]?=some x,
   λk H v H'=>∃ T x,v=.ref T/\H T=none/\H'=upd H T (.tup [.int k,x])/\∀ xs,SqL K H l xs->xs[k]?=some x,
   λk H=>∃ xs,SqL K H l xs/\xs.length<=k⟩
theorem zPe{P:Program}{w:World}{K:PySem.W.Frag}{elts:List Expr}{kt:Nat}{pt:Pos}{e it l:Addr}(hne:e≠it) :
  zP7 P w K (.Tuple elts kt pt) (Ite K l) [e,it] e (λk h=>(∃ old,IsEnum h e it k old)/\h.IsListIter it l k) where
 mem:=by simp
 obj:=λk h st b hb=>by
  obtain⟨⟨old,he⟩,h1⟩:=st;obtain⟨o1,g1,_,d1⟩:=h1;simp only[List.mem_cons,List.not_mem_nil,or_false] at hb;rcases hb with rfl | rfl
  ·exact⟨_,he,λv z=>by cases z⟩
  ·exact⟨_,g1,λv z=>by rw[d1] at z; cases z⟩
 keep:=λk h h' st kp=>by
  obtain⟨⟨old,he⟩,h1⟩:=st;exact⟨⟨old,kp e (by simp) _ he⟩,h1.at λo z=>kp it (by simp) o z⟩
 item:=by
  intro X hP hw hK hc k pins s σ H E I hf st hg;subst hP hw hK;obtain⟨⟨old,he⟩,h1⟩:=st;obtain⟨xs,x,q1,hx⟩:=hg;obtain⟨its,r1,p1,_⟩:=I.list q1;obtain⟨u1,e1,v1⟩:=r1.get hx;have fresh:H s.heap.objs.size=none:=I.hok.fresh (Nat.le_refl _);refine wpAny_pyNext_enum_item he h1 p1.isList (by simpa using e1) hne λh' z1 j1 t1 _ kp=>?_;refine⟨_,rfl,wpAny_letOwnedTupleGo_enum z1 λh2' z2 sb=>?_⟩;have kp2:∀ c o,c ∉ [e,it]->s.heap.get? c=some o->h2'.get? c=some o:=λc o hc q=>by
   simp only[List.mem_cons,List.not_mem_nil,or_false,not_or] at hc;exact sb.extBut c o hc.1 (kp c o hc.1 hc.2 q)
  have neT:∀ b o,s.heap.get? b=some o->b≠s.heap.objs.size:=λb o q=>Nat.ne_of_lt (Heap.lt_size q);have neH:∀ b o,H b=some o->b ∉ [e,it]:=λb o q hb=>by
   rw[(hf b hb).1] at q;cases q
  have upn:∀ b o,H b=some o->upd H s.heap.objs.size (.tup [.int k,x]) b=some o:=λb o q=>by
   rw[zD (zG q fresh)];exact q
  refine⟨.ref s.heap.objs.size,upd H s.heap.objs.size (.tup [.int k,x]),?_,rfl,⟨_,x,rfl,fresh,rfl,λzs hz'=>by rw[I.list_inj hz' q1]; exact hx⟩,?_,λb hb=>?_⟩
  ·refine Inv.step (s:=s) (h':=h2') (g':=s.gens) (d':=s.drawn) (t':=s.toks+1) (ch:=[e,it]) I (λb hb=>?_) (λb o _ _ hc q _=>kp2 b o hc q) (λb o _ _ hc q _=>⟨o.slots,kp2 b o hc q⟩) (λb o _ q n=>?_) (λb o hc q=>⟨o,kp2 b o hc q⟩)
    (λb zs q=>upn b _ q) (λb o zs q=>upn b _ q) (λb ps q=>⟨#[],by rw[upn b _ q]; simp⟩) (λm hm=>?_) (λb o q=>?_) I.bare
   ·obtain⟨_,f1,_,f3,f4,f5⟩:=hf b hb;exact⟨f3,f1,f4,f5⟩
   ·rw[zD (neT b o q)];exact n
   ·obtain⟨o,es,ep,ho,r⟩:=hm;refine⟨o,es,ep,kp2 _ o (λhb=>?_) ho,r⟩;exact(hf _ hb).2.1 rfl
   ·by_cases hb:b=s.heap.objs.size
    ·subst hb;rw[zA] at q;cases q;exact⟨by show 2<=sizeLine; decide,[_,u1],.cons ⟨_,rfl⟩ (.cons v1 .nil),_,sb.extBut _ _ (Nat.ne_of_gt (Heap.lt_size he)) t1,rfl,_,rfl⟩
    ·rw[zD hb] at q;refine(I.hok b o q).stay (λc u hc z=>kp2 c u ?_ z) (λc z=>upn c _ z) λc zs z=>upn c _ z;rcases hc with hc | hc
     ·rw[hc]; exact neH b o q
     ·exact neH c _ hc
  ·exact⟨⟨_,z2⟩,j1.at λo z=>sb.extBut _ o (Ne.symm hne) z⟩
  ·obtain⟨o,q,_⟩:∃ o,s.heap.get? b=some o/\True:=by
    obtain⟨o1,g1,_⟩:=h1;simp only[List.mem_cons,List.not_mem_nil,or_false] at hb;rcases hb with rfl | rfl
    ·exact⟨_,he,trivial⟩
    ·exact⟨_,g1,trivial⟩
   rw[zD (neT b o q)];exact(hf b hb).1
 done:=by
  intro X hP hw hK hc k pins s σ H E I hf st hg;subst hP hw hK;obtain⟨⟨old,he⟩,h1⟩:=st;obtain⟨xs,q1,hend⟩:=hg;obtain⟨its,r1,p1,_⟩:=I.list q1;have l1':=r1.length;refine wpAny_pyNext_enum_end (I.ok.hd hc) he h1 p1.isList (Array.getElem?_eq_none (by rw[List.size_toArray]; lia)) λh' eb=>⟨rfl,?_⟩;obtain⟨f0,f1,f2,f3,f4,f5⟩:=hf it (by simp);exact I.turned (t':=s.toks) (λb o hb q=>eb b o hb q) f0 f1 f3 f4 f5
 self:=λ_ _ _ _ _ st h=>by
  obtain⟨⟨old,he⟩,_⟩:=st;exact wpAny_pyIter_enum he h
section
variable{X:Cx}
def iEnum(K:PySem.W.Frag)(ta:TA):TI:=λσ H R=>ta σ H λvs H1=>∃(l:Addr)(xs:List V),vs=[.ref l]/\H1 l=some (.lst xs)/\R (Ite K l) H1
theorem zTj{elts:List Expr}{kt:Nat}{pt:Pos}{a:Expr}{ta:TA}{p pos:Pos}(hg:Gl X "enumerate")(hm:X.mg "enumerate" = none)(ha:PA X [a] ta)(hs:starEach [a] X.env=[(false,eval a X.env)]:=by rfl) :
  PI X (.Tuple elts kt pt) (.Call (.Name "enumerate" p) [a] [] pos) (iEnum X.K ta):=by
 intro pins s σ H R I h;refine Call_ (zCe I hg hm zH0 (PyProof.Rows.callWith_type1 (thn (ha pos pins s σ H _ I h) λus s1 ⟨vs,H1,I1,r1,q1⟩=>?_) hs rfl));obtain⟨l,xs,e,hl,q⟩:=q1;subst e;obtain⟨u1,rfl,v1⟩:=yS.one r1;cases v1;obtain⟨_,its,n,_,_,eo⟩:=I1.lstM hl;refine call_enumerate_1 eo λh' he hi _ kp=>?_;refine wpAny_pyIter_enum he ?_;refine⟨_,_,_,_,H1,rfl,I1.kept (t':=s1.toks) kp,zPe (Nat.succ_ne_self _),⟨⟨_,he⟩,hi⟩,λb hb=>?_,q⟩;have hge:s1.heap.objs.size<=b:=by
  simp only[List.mem_cons,List.not_mem_nil,or_false] at hb;rcases hb with rfl | rfl <;> lia
 exact I1.fpOk hge (I1.hok.fresh hge)
end
section
variable{K:PySem.W.Frag}{l D:Addr}{xs:List V}{g:TG}{tt:TT}{te:TE}{σ0:St}{H1:Hp}{Q:VK}
theorem zWg(Pv:Nat->St->List V->Hp->Prop)(h0:Pv 0 σ0 [] (upd H1 D (.lst [])))(hl:∀ i σ zs H,Pv i σ zs H->SqL K H l xs/\H D=some (.lst zs))
  (hs:∀ i x T σ zs H,xs[i]?=some x->H T=none->Pv i σ zs H->g (.ref T) σ (upd H T (.tup [.int i,x])) λσ2 H2=>tt σ2 H2 λb H3 =>
   if b=true then te σ2 H3 λz H4=>H4 D=some (.lst zs)/\zs.length<sizeLine/\Pv (i+1) σ2 (zs++[z]) (upd H4 D (.lst (zs++[z]))) else Pv (i+1) σ2 zs H3)
  (hd:∀ σ zs H,Pv xs.length σ zs H->Q (.ref D) H):zCn (Ite K l) D g tt te σ0 H1 Q:=by
 exists λi m σ zs H=>m=xs.length-i/\i<=xs.length/\Pv i σ zs H,⟨_,rfl,Nat.zero_le _,h0⟩;rintro i m σ zs H ⟨rfl,hi,p⟩;obtain⟨q1,qd⟩:=hl i σ zs H p;exists qd;by_cases hlt:i<xs.length
 ·refine .inr ⟨⟨xs,xs[i],q1,by simp[hlt]⟩,Pv (i+1),λσ' zs' H' z=>⟨xs.length-(i+1),by lia,rfl,hlt,z⟩,λv H' y=>?_⟩;obtain⟨T,x,rfl,hT,rfl,y1⟩:=y;exact hs i x T σ zs H (y1 xs q1) hT p
 ·have e:i=xs.length:=by lia
  subst e;exact .inl ⟨⟨xs,q1,Nat.le_refl _⟩,hd σ zs H p⟩
theorem zRu{tb:TS}{E:zMe}{σ:St}{H:Hp}(Pv:Nat->St->Hp->Prop)(h0:Pv 0 σ H)(hl:∀ i σ H,Pv i σ H->SqL K H l xs)
  (hs:∀ i x T σ H,xs[i]?=some x->H T=none->Pv i σ H->g (.ref T) σ (upd H T (.tup [.int i,x])) λσ2 H2=>tb { E with nx:=Pv (i+1),ct:=Pv (i+1),bk:=E.nx } σ2 H2) (hd:∀ σ H,Pv xs.length σ H->E.nx σ H) :
  ∃ W:Nat->Nat->St->Hp->Prop,(∃ m,W 0 m σ H)/\∀ i m σ H,W i m σ H ->
   ((Ite K l).stop i H/\E.nx σ H)\/((Ite K l).go i H/\∃ N:St->Hp->Prop,(∀ σ' H',N σ' H'->∃ m',m'<m/\W (i+1) m' σ' H')/\∀ x H',(Ite K l).yld i H x H'->g x σ H' λσ2 H2=>tb { E with nx:=N,ct:=N,bk:=E.nx } σ2 H2):=by
 exists λi m σ H=>m=xs.length-i/\i<=xs.length/\Pv i σ H,⟨_,rfl,Nat.zero_le _,h0⟩;rintro i m σ H ⟨rfl,hi,p⟩;have q1:=hl i σ H p;by_cases hlt:i<xs.length
 ·refine .inr ⟨⟨xs,xs[i],q1,by simp[hlt]⟩,Pv (i+1),λσ' H' z=>⟨xs.length-(i+1),by lia,rfl,hlt,z⟩,λv H' y=>?_⟩;obtain⟨T,x,rfl,hT,rfl,y1⟩:=y;exact hs i x T σ H (y1 xs q1) hT p
 ·have e:i=xs.length:=by lia
  subst e;exact .inl ⟨⟨xs,q1,Nat.le_refl _⟩,hd σ H p⟩
end
end L2

namespace L2
open PySem PySem.Spec PyProof.Rows
theorem zKv:∀{rs:List Addr}{us:List Value},yS (rs.map V.ref) us->us=rs.map Value.ref
 | [],_,r=>by cases r; rfl
 | a::rs,_,r=>by
  cases r with
  | cons r1 r2 =>
   cases r1;rw[zKv r2];rfl
theorem Same.putNew{H H4:Hp}{D:Addr}{o:HO}(s:Same H H4)(h:H D=none):Same H (upd H4 D o):=λb u q=>by
 rw[zD (zG q h)];exact s _ _ q
abbrev Pr:=Addr×Int×Int
abbrev zQ(ps:List Pr):List V:=(ps.map (·.1)).map V.ref
def zCg(H:Hp)(M:Nat)(ps:List Pr):Prop:=∀ t∈ps,H t.1=some (.tup [.int t.2.1,.int t.2.2])/\t.2.1.natAbs<=M/\t.2.2.natAbs<=M
theorem zCg.same{H H':Hp}{M:Nat}{ps:List Pr}(h:zCg H M ps)(s:Same H H'):zCg H' M ps:=λt ht=>⟨s _ _ (h t ht).1,(h t ht).2⟩
theorem zCg.app{H:Hp}{M:Nat}{ps qs:List Pr}(h:zCg H M ps)(g:zCg H M qs):zCg H M (ps++qs):=λt ht=>(List.mem_append.mp ht).elim (h t) (g t)
theorem zCg.sub{H:Hp}{M:Nat}{ps qs:List Pr}(h:zCg H M ps)(g:∀ t∈qs,t∈ps):zCg H M qs:=λt ht=>h t (g t ht)
theorem zU(ps:List Pr):(zQ ps).length=ps.length:=by simp[zQ]
theorem qZ(ps qs:List Pr):zQ (ps++qs)=zQ ps++zQ qs:=by simp[zQ]
theorem zEf{ps:List Pr}{i:Nat}{k:Int}(e:k=i)(h:i<ps.length):∃ t,t∈ps/\ps[i]?=some t/\atI (zQ ps) k=some (.ref t.1):=by
 refine⟨ps[i],List.getElem_mem h,List.getElem?_eq_getElem h,?_⟩;rw[e];exact qR (by rw[List.getElem?_map,List.getElem?_map,List.getElem?_eq_getElem h] <;> rfl)
theorem zG8(ps:List Pr)(n:Nat):rS (zQ ps) none (some (n:Int))=zQ (ps.take n):=by
 unfold rS;rw[show HT.sIx (zQ ps).length 0 none=0 from rfl,HT.sIx_nat (zQ ps).length (zQ ps).length n,List.drop_zero,Nat.sub_zero];rw[zU];simp only[zQ,<- List.map_take]
 congr 2
 rw[List.take_eq_take_iff];lia
def zJ1(H:Hp)(ns:List Int):Value->Bool
 | .ref b=>match H b with
  | some (.tup ys)=>decide (ys=ns.map V.int)
  | _=>false
 | _=>false
theorem zBj:∀{xs ys:List Int},xs.map V.int=ys.map V.int->xs=ys
 | [],[],_=>rfl
 | [],_::_,h=>nomatch h
 | _::_,[],h=>nomatch h
 | x::xs,y::ys,h=>by
  rw[List.map_cons,List.map_cons] at h;injection h with h1 h2
  rw[V.int.inj h1,zBj h2]
theorem zGm{H:Hp}{ns ms:List Int}{b:Addr}(h:H b=some (.tup (ms.map V.int))):zJ1 H ns (.ref b)=decide (ms=ns):=by
 show(match H b with | some (.tup ys)=>decide (ys=ns.map V.int) | _=>false)=_;rw[h];exact decide_eq_decide.mpr ⟨zBj,λe=>by rw[e]⟩
section
variable{X:Cx}
theorem zO0{pins:List (Addr×Obj)}{s:Shared}{σ:St}{H:Hp}(I:Inv X pins σ H s){A:Around}(hu:A.units<cLine){a b:Addr}{xs ys:List Int}(h1:H a=some (.tup (xs.map V.int)))(h2:H b=some (.tup (ys.map V.int))) :
  SeqAt.EqAt A s (.ref a) (.ref b) (decide (xs=ys)):=by
 by_cases e:a=b
 ·subst e;rw[h1] at h2;have z:xs=ys:=zBj (by injection (Option.some.inj h2));rw[decide_eq_true z];exact SeqAt.EqAt.same _
 ·obtain⟨us,r1,p1,_⟩:=I.tuple (SqT.of h1);obtain⟨ws,r2,p2,_⟩:=I.tuple (SqT.of h2);have q:=SeqAt.RcAt.tuples (A:=A) (s:=s) (l:=a) (b:=b) (items:=us.toArray) (items2:=ws.toArray) (e:=λj=>decide (xs[j]?=ys[j]?)) p1 p2 hu (zPn r1 r2);have l1:=r1.length;have l2:=r2.length;rw[List.length_map] at l1 l2;rw[List.size_toArray,List.size_toArray,<- l1,<- l2,zKi] at q;exact SeqAt.EqAt.of_refs e q
end
end L2

namespace L2
open PySem
def crs(p q r:Int×Int):Int:=(q.1-p.1)*(r.2-p.2)-(q.2-p.2)*(r.1-p.1)
def ptA(ps:List (Addr×Int×Int))(i:Nat):Int×Int:=((ps[i]?).map (·.2)).getD (0,0)
theorem zN6{ps:List (Addr×Int×Int)}{i:Nat}{t:Addr×Int×Int}(h:ps[i]?=some t):ptA ps i=t.2:=by
 unfold ptA;rw[h];rfl
def zJt(ps:List (Addr×Int×Int))(i k:Nat):Bool:=decide (0<crs (ptA ps i) (ptA ps ((i+1)%ps.length)) (ptA ps k))
def vN(ps:List (Addr×Int×Int))(i:Nat):Bool:=(List.range (ps.length-2)).all λj=>zJt ps i ((i+(2+j))%ps.length)
def isB(ps:List (Addr×Int×Int)):Bool:=decide (3<=ps.length)&&(decide (ps.length<=8)&&(List.range ps.length).all (vN ps))
def zPd(ps:List (Addr×Int×Int)):Bool:=decide (3<=ps.length)&&(decide (ps.length<=8)&&(List.range ps.length).all λi=>(List.range ps.length).all λk=>(decide (k=i)||decide (k=(i+1)%ps.length))||zJt ps i k)
theorem zSv{a n:Nat}(h:a<2*n):a%n=if a<n then a else a-n:=by
 by_cases h':a<n
 ·rw[if_pos h',Nat.mod_eq_of_lt h']
 ·rw[if_neg h',Nat.mod_eq_sub_mod (by lia),Nat.mod_eq_of_lt (by lia)]
theorem zNg(ps:List (Addr×Int×Int)):isB ps=zPd ps:=by
 unfold isB zPd;by_cases h3:3<=ps.length
 ·rw[decide_eq_true h3,Bool.true_and,Bool.true_and]
  congr 1
  rw[Bool.eq_iff_iff,List.all_eq_true,List.all_eq_true];constructor
  ·intro h i hi;have hi':=List.mem_range.mp hi;rw[List.all_eq_true];intro k hk;have hk':=List.mem_range.mp hk;by_cases e1:k=i
   ·rw[decide_eq_true e1,Bool.true_or,Bool.true_or]
   by_cases e2:k=(i+1)%ps.length
   ·rw[decide_eq_true e2,Bool.or_true,Bool.true_or]
   rw[decide_eq_false e1,decide_eq_false e2,Bool.false_or,Bool.false_or];rw[zSv (by lia)] at e2;have q:=List.all_eq_true.mp (h i hi) (if i<=k then k-i-2 else k+ps.length-i-2);by_cases hik:i<=k
   ·rw[if_pos hik] at q;have e3:(i+(2+(k-i-2)))%ps.length=k:=by
     have:k≠i+1:=by
      intro z;rw[if_pos (by lia)] at e2;exact e2 z
     rw[show i+(2+(k-i-2))=k by lia,Nat.mod_eq_of_lt hk']
    rw[e3] at q;exact q (List.mem_range.mpr (by lia))
   ·rw[if_neg hik] at q;have hne:¬ (i+1=ps.length/\k=0):=by
     rintro⟨z1,z2⟩;rw[if_neg (by lia)] at e2;lia
    have e3:(i+(2+(k+ps.length-i-2)))%ps.length=k:=by
     rw[zSv (by lia),if_neg (by lia)];lia
    rw[e3] at q;exact q (List.mem_range.mpr (by lia))
  ·intro h i hi;have hi':=List.mem_range.mp hi;unfold vN;rw[List.all_eq_true];intro j hj;have hj':=List.mem_range.mp hj;have hk:(i+(2+j))%ps.length<ps.length:=Nat.mod_lt _ (by lia);have q:=List.all_eq_true.mp (h i hi) _ (List.mem_range.mpr hk);have e1:(i+(2+j))%ps.length≠i:=by
    rw[zSv (by lia)];split <;> lia
   have e2:(i+(2+j))%ps.length≠(i+1)%ps.length:=by
    rw[zSv (by lia),zSv (a:=i+1) (by lia)];split <;> split <;> lia
   rw[decide_eq_false e1,decide_eq_false e2,Bool.false_or,Bool.false_or] at q;exact q
 ·rw[decide_eq_false h3,Bool.false_and,Bool.false_and]
def zCo:Int×Int->List (Int×Int)->List (Int×Int)
 | _,[]=>[]
 | h,d::ds=>h::zCo (h.1+d.1,h.2+d.2) ds
def zQ3:Int×Int->List (Int×Int)->Int×Int
 | h,[]=>h
 | h,d::ds=>zQ3 (h.1+d.1,h.2+d.2) ds
theorem zGa:∀(ds:List (Int×Int))(h d:Int×Int),zCo h (ds++[d])=zCo h ds++[zQ3 h ds]
 | [],_,_=>rfl
 | e::ds,h,d=>by
  show h::zCo _ (ds++[d])=h::(zCo _ ds++[zQ3 _ ds]);rw[zGa ds]
theorem zJb:∀(ds:List (Int×Int))(h d:Int×Int),zQ3 h (ds++[d])=((zQ3 h ds).1+d.1,(zQ3 h ds).2+d.2)
 | [],_,_=>rfl
 | e::ds,h,d=>by
  show zQ3 _ (ds++[d])=_;rw[zJb ds];rfl
theorem zCf:∀(ds:List (Int×Int))(h:Int×Int),(zCo h ds).length=ds.length
 | [],_=>rfl
 | e::ds,h=>by
  show(zCo _ ds).length+1=ds.length+1;rw[zCf ds]
def zDz(x y p q:Int):Nat->List (Int×Int)
 | 0=>[(x,y),(p-x,q-y),(-p,-q)]
 | 1=>[(x,y),(p,q),(-x,-y),(-p,-q)]
 | 2=>[(2*x,2*y),(p,q),(p-x,q-y),(-x,-y),(-2*p,-2*q)]
 | 3=>[(x,y),(x+p,y+q),(p,q),(-x,-y),(-x-p,-y-q),(-p,-q)]
 | 4=>[(x,y),(2*x+p,2*y+q),(x+2*p,y+2*q),(p,q),(-x,-y),(-2*x-p,-2*y-q),(-x-3*p,-y-3*q)]
 | _=>[(x,y),(2*x+p,2*y+q),(x+2*p,y+2*q),(p,q),(-x,-y),(-2*x-p,-2*y-q),(-x-2*p,-y-2*q),(-p,-q)]
def rP:Nat->List (Int×Int)
 | 0=>[(0,0),(1,0),(0,1)]
 | 1=>[(0,0),(1,0),(1,1),(0,1)]
 | 2=>[(0,0),(2,0),(2,1),(1,2),(0,2)]
 | 3=>[(0,0),(1,0),(2,1),(2,2),(1,2),(0,1)]
 | 4=>[(0,0),(1,0),(3,1),(4,3),(4,4),(3,4),(1,3)]
 | _=>[(0,0),(1,0),(3,1),(4,3),(4,4),(3,4),(1,3),(0,1)]
def zP8(c:Nat)(hx hy x y p q:Int):List (Int×Int):=(rP c).map λab=>(hx+ab.1*x+ab.2*p,hy+ab.1*y+ab.2*q)
theorem six{c:Nat}(h:c<6):c=0\/c=1\/c=2\/c=3\/c=4\/c=5:=by lia
theorem zLy{c:Nat}(hc:c<6)(hx hy x y p q:Int):zCo (hx,hy) (zDz x y p q c)=zP8 c hx hy x y p q:=by
 rcases six hc with rfl | rfl | rfl | rfl | rfl | rfl <;>
  simp only[zDz,zP8,rP,zCo,List.map_cons,List.map_nil,List.cons.injEq,Prod.mk.injEq,and_true,true_and] <;> lia
theorem zAu{c:Nat}(hc:c<6):3<=(rP c).length/\(rP c).length<=8:=by
 rcases six hc with rfl | rfl | rfl | rfl | rfl | rfl <;> exact⟨by decide,by decide⟩
def zOo(vs:List (Int×Int)):Prop:=∃(c k:Nat)(hx hy x y p q:Int),c<6/\k<(rP c).length/\0<x*q-y*p/\vs=(zP8 c hx hy x y p q).drop k++(zP8 c hx hy x y p q).take k
theorem zOo.len{vs:List (Int×Int)}(h:zOo vs):3<=vs.length/\vs.length<=8:=by
 obtain⟨c,k,hx,hy,x,y,p,q,hc,hk,_,rfl⟩:=h;have:=zAu hc;rw[List.length_append,List.length_drop,List.length_take];unfold zP8;rw[List.length_map];lia
end L2

namespace Sea
open PySem L2
theorem zTn(a b c d x y p q:Int):(a*x+b*p)*(c*y+d*q)-(a*y+b*q)*(c*x+d*p)=(a*d-b*c)*(x*q-y*p):=by
 simp only[Int.mul_sub,Int.sub_mul,Int.mul_add,Int.add_mul,Int.mul_comm,Int.mul_left_comm];lia
theorem zTs(hx a b a' b' x p:Int):(hx+a*x+b*p)-(hx+a'*x+b'*p)=(a-a')*x+(b-b')*p:=by
 rw[Int.sub_mul,Int.sub_mul];lia
def zXx(u v w:Int×Int):Int:=(v.1-u.1)*(w.2-u.2)-(v.2-u.2)*(w.1-u.1)
theorem zQa(hx hy x y p q:Int)(u v w:Int×Int):crs (hx+u.1*x+u.2*p,hy+u.1*y+u.2*q) (hx+v.1*x+v.2*p,hy+v.1*y+v.2*q) (hx+w.1*x+w.2*p,hy+w.1*y+w.2*q)=zXx u v w*(x*q-y*p):=by
 unfold crs zXx;simp only[zTs];exact zTn _ _ _ _ _ _ _ _
def atP(vs:List (Int×Int))(i:Nat):Int×Int:=(vs[i]?).getD (0,0)
theorem zRk:∀ c<6,∀ i<(rP c).length,∀ k<(rP c).length,k≠i->k≠(i+1)%(rP c).length->0<zXx (atP (rP c) i) (atP (rP c) ((i+1)%(rP c).length)) (atP (rP c) k):=by decide +kernel
theorem zJs{c:Nat}{hx hy x y p q:Int}{i:Nat}(h:i<(rP c).length):atP (zP8 c hx hy x y p q) i=(hx+(atP (rP c) i).1*x+(atP (rP c) i).2*p,hy+(atP (rP c) i).1*y+(atP (rP c) i).2*q):=by
 unfold atP zP8;rw[List.getElem?_map,List.getElem?_eq_getElem h];rfl
theorem zO7{vs:List (Int×Int)}{k j:Nat}(hk:k<vs.length)(hj:j<vs.length):atP (vs.drop k++vs.take k) j=atP vs ((j+k)%vs.length):=by
 unfold atP
 congr 1
 rw[zSv (by lia)];by_cases h:j<vs.length-k
 ·rw[List.getElem?_append_left (by rw[List.length_drop]; exact h),List.getElem?_drop,if_pos (by lia),Nat.add_comm]
 ·rw[List.getElem?_append_right (by rw[List.length_drop]; lia),List.length_drop,List.getElem?_take,if_pos (by lia),if_neg (by lia)]
  congr 1
  lia
theorem zN9{vs:List (Int×Int)}(h:zOo vs){i k:Nat}(hi:i<vs.length)(hk:k<vs.length)(h1:k≠i)(h2:k≠(i+1)%vs.length):0<crs (atP vs i) (atP vs ((i+1)%vs.length)) (atP vs k):=by
 obtain⟨c,r,hx,hy,x,y,p,q,hc,hr,tp,rfl⟩:=h;have hn:(zP8 c hx hy x y p q).length=(rP c).length:=List.length_map _;have e:((zP8 c hx hy x y p q).drop r++(zP8 c hx hy x y p q).take r).length=(rP c).length:=by
  rw[List.length_append,List.length_drop,List.length_take,hn];lia
 have n3:=zAu hc;rw[e] at hi hk h2 ⊢;have hm:(i+1)%(rP c).length<(rP c).length:=Nat.mod_lt _ (by lia);rw[zO7 (by lia) (by lia),zO7 (by lia) (by lia),zO7 (by lia) (by lia),hn];have hi':(i+r)%(rP c).length<(rP c).length:=Nat.mod_lt _ (by lia);have hk':(k+r)%(rP c).length<(rP c).length:=Nat.mod_lt _ (by lia);have hm':((i+1)%(rP c).length+r)%(rP c).length<(rP c).length:=Nat.mod_lt _ (by lia);rw[zJs hi',zJs hm',zJs hk',zQa];have em:((i+1)%(rP c).length+r)%(rP c).length=((i+r)%(rP c).length+1)%(rP c).length:=by
  rw[Nat.mod_add_mod,Nat.mod_add_mod]
  congr 1
  lia
 have inj:∀ a b:Nat,a<(rP c).length->b<(rP c).length->(a+r)%(rP c).length=(b+r)%(rP c).length->a=b:=λa b ha hb z=>by
  rw[zSv (by lia),zSv (by lia)] at z;split at z <;> split at z <;> lia
 refine Int.mul_pos ?_ tp;rw[em];refine zRk c hc _ hi' _ hk' (λz=>h1 (inj _ _ hk hi z)) λz=>h2 (inj _ _ hk hm ?_);rw[z,em]
end Sea

namespace L2
open PySem PySem.Spec PyProof.Rows PySem.W
section
variable{X:Cx}
theorem zBa:bootBuiltins "sorted" = some (.builtin "sorted"):=by decide +kernel
end
end L2
namespace L2
open PySem PySem.Spec PyProof.Rows
end L2

namespace L2
open PySem PySem.Spec PyProof.Rows
section
variable{κ:Type}[DecidableEq κ]
def tI(kvs:List (κ×V))(k:κ):Option V:=(kvs.find? λkv=>decide (kv.1=k)).map (·.2)
def tR(kvs:List (κ×V))(k:κ)(v:V):List (κ×V) :=
 if (kvs.any λkv=>decide (kv.1=k))=true then kvs.map (λkv=>if kv.1=k then(kv.1,v) else kv) else kvs++[(k,v)]
def zCz(kvs:List (κ×V))(k:κ):List (κ×V):=kvs.filter λkv=>decide (kv.1≠k)

theorem wJ{p:κ×V}{r:List (κ×V)}{k:κ}(e:p.1=k):tI (p::r) k=some p.2:=by simp[tI,List.find?_cons,e]
theorem xT{p:κ×V}{r:List (κ×V)}{k:κ}(e:¬ p.1=k):tI (p::r) k=tI r k:=by simp[tI,List.find?_cons,e]
theorem zC4(k:κ):∀ kvs:List (κ×V),(kvs.any λkv=>decide (kv.1=k))=(tI kvs k).isSome
 | []=>rfl
 | p::r=>by
  rw[List.any_cons];by_cases e:p.1=k
  ·simp only[wJ e,decide_eq_true e,Bool.true_or,Option.isSome_some]
  ·rw[xT e,decide_eq_false e,Bool.false_or]; exact zC4 k r
theorem zLd(k j:κ)(y:V):∀ kvs:List (κ×V),tI (kvs.map λkv=>if kv.1=k then(kv.1,y) else kv) j=(tI kvs j).map λx=>if j=k then y else x
 | []=>rfl
 | p::r=>by
  have ih:=zLd k j y r;rw[List.map_cons];by_cases h:p.1=k
  ·rw[if_pos h];by_cases e:p.1=j
   ·rw[wJ (p:=(p.1,y)) e,wJ e,Option.map_some,if_pos (e.symm.trans h)]
   ·rw[xT (p:=(p.1,y)) e,xT e,ih]
  ·rw[if_neg h];by_cases e:p.1=j
   ·rw[wJ (p:=p) e,wJ e,Option.map_some,if_neg (λz=>h (e.trans z))]
   ·rw[xT (p:=p) e,xT e,ih]
theorem zIk(k j:κ)(y:V):∀ kvs:List (κ×V),tI kvs k=none->tI (kvs++[(k,y)]) j=if j=k then some y else tI kvs j
 | [],_=>by
  by_cases e:k=j
  ·rw[if_pos e.symm]; exact wJ (p:=(k,y)) e
  ·rw[if_neg (λz=>e z.symm)]; exact xT (p:=(k,y)) e
 | p::r,hn=>by
  rw[List.cons_append];have hk:¬ p.1=k:=λz=>by rw[wJ z] at hn; cases hn
  rw[xT hk] at hn;have ih:=zIk k j y r hn;by_cases e:p.1=j
  ·rw[wJ e,wJ e,if_neg (λz=>hk (e.trans z))]
  ·rw[xT e,xT e,ih]
theorem zLb(kvs:List (κ×V))(k j:κ)(y:V):tI (tR kvs k y) j=if j=k then some y else tI kvs j:=by
 unfold tR;by_cases a:(kvs.any λkv=>decide (kv.1=k))=true
 ·rw[if_pos a,zLd];rw[zC4] at a;by_cases e:j=k
  ·obtain⟨x,hx⟩:=Option.isSome_iff_exists.mp a;rw[if_pos e,e,hx,Option.map_some,if_pos rfl]
  ·rw[if_neg e];cases tI kvs j with
   | none=>rfl
   | some x=>rw[Option.map_some,if_neg e]
 ·rw[if_neg a];refine zIk k j y kvs ?_;rw[zC4] at a;cases q:tI kvs k with
  | none=>rfl
  | some x=>rw[q] at a; exact(a rfl).elim
theorem zAr(kvs:List (κ×V))(k:κ)(v:V):(tR kvs k v).length<=kvs.length+1:=by
 unfold tR;split
 ·rw[List.length_map]; lia
 ·rw[List.length_append,List.length_cons,List.length_nil]; lia
theorem zHk.isSome_eq{o:Option V}{u:Option Value}(r:zHk o u):o.isSome=u.isSome:=by
 cases o with
 | none=>cases u with
  | none=>rfl
  | some _=>exact(show False from r).elim
 | some _=>cases u with
  | none=>exact(show False from r).elim
  | some _=>rfl
theorem KV.val{kvs:List (κ×V)}{vs:List (κ×Value)}(r:KV kvs vs)(k:κ):zHk (tI kvs k) (valueAt vs k):=by
 unfold KV at r
 induction r with
 | nil=>exact True.intro
 | @cons p q ps qs h t ih =>
  obtain⟨h1,h2⟩:=h;by_cases e:p.1=k
  ·have e':q.1=k:=h1.symm.trans e;have b:valueAt (q::qs) k=some q.2:=by simp[valueAt,List.find?_cons,e']
   rw[wJ e,b]; exact h2
  ·have e':¬ q.1=k:=λz=>e (h1.trans z);have b:valueAt (q::qs) k=valueAt qs k:=by simp[valueAt,List.find?_cons,e']
   rw[xT e,b]; exact ih
theorem KV.any{kvs:List (κ×V)}{vs:List (κ×Value)}(r:KV kvs vs)(k:κ):(kvs.any λkv=>decide (kv.1=k))=vs.any λkv=>decide (kv.1=k):=by
 unfold KV at r
 induction r with
 | nil=>rfl
 | cons h t ih=>rw[List.any_cons,List.any_cons,ih,h.1]
theorem KV.repl{kvs:List (κ×V)}{vs:List (κ×Value)}(r:KV kvs vs)(k:κ){y:V}{u:Value}(ry:xI y u) :
  KV (kvs.map λkv=>if kv.1=k then(kv.1,y) else kv) (vs.map λkv=>if kv.1=k then(kv.1,u) else kv):=by
 unfold KV at r ⊢
 induction r with
 | nil=>exact .nil
 | @cons p q ps qs h t ih =>
  rw[List.map_cons,List.map_cons];refine .cons ?_ ih;obtain⟨h1,h2⟩:=h;by_cases e:p.1=k
  ·rw[if_pos e,if_pos (h1.symm.trans e)]; exact⟨h1,ry⟩
  ·rw[if_neg e,if_neg (λz=>e (h1.trans z))]; exact⟨h1,h2⟩
theorem KV.put{kvs:List (κ×V)}{vs:List (κ×Value)}(r:KV kvs vs)(k:κ){y:V}{u:Value}(ry:xI y u):KV (tR kvs k y) (stored vs k u):=by
 unfold tR stored;rw[r.any k];by_cases e:(vs.any λkv=>decide (kv.1=k))=true
 ·rw[if_pos e,if_pos e]; exact r.repl k ry
 ·rw[if_neg e,if_neg e]; exact Paired.snoc r ⟨rfl,ry⟩
theorem KV.drop{kvs:List (κ×V)}{vs:List (κ×Value)}(r:KV kvs vs)(k:κ):KV (zCz kvs k) (without vs k):=by
 unfold KV at r ⊢;unfold zCz without
 induction r with
 | nil=>exact .nil
 | @cons p q ps qs h t ih =>
  obtain⟨h1,h2⟩:=h;rw[List.filter_cons,List.filter_cons];by_cases e:p.1=k
  ·have a:¬ decide (p.1≠k)=true:=by simp[e]
   have b:¬ decide (q.1≠k)=true:=by simp[h1.symm.trans e]
   rw[if_neg a,if_neg b]; exact ih
  ·have e':¬ q.1=k:=λz=>e (h1.trans z);have a:decide (p.1≠k)=true:=by simp[e]
   have b:decide (q.1≠k)=true:=by simp[e']
   rw[if_pos a,if_pos b]; exact .cons ⟨h1,h2⟩ ih
theorem KV.length{kvs:List (κ×V)}{vs:List (κ×Value)}(r:KV kvs vs):kvs.length=vs.length:=Paired.length r
theorem zLn(kvs:List (κ×V))(k:κ):(zCz kvs k).length<=kvs.length:=List.length_filter_le _ _
end


theorem zGu{P:Program}{w:World}{k:Key}{u:Value}(r:xI (kV k) u):(yX P w).is k u=true:=by
 cases k with
 | inl i=>obtain⟨t,e⟩:=(show ∃ t,u=Value.int i t from r); subst e; exact zJ0 P w i t
 | inr x=>obtain⟨t,e⟩:=(show ∃ t,u=Value.str x t from r); subst e; exact zAs P w x t
theorem zI4{P:Program}{w:World} : ∀{ks:List Key}{us:List Value},yS (ks.map kV) us->ItemsAre (yX P w) ks us
 | [],_,r=>by rw[List.map_nil] at r; cases r; exact .nil
 | k::ks,_,r=>by
  rw[List.map_cons] at r;cases r with
  | cons h t=>exact .cons (zGu h) (zI4 t)

abbrev KT(H:Hp):List (List Key×V)->List (List Key×Addr×Value)->Prop:=Paired λp q=>p.1=q.1/\H q.2.1=some (.tup (p.1.map kV))/\xI p.2 q.2.2
theorem KT.val{H:Hp}{kvs:List (List Key×V)}{xs:List (List Key×Addr×Value)}(r:KT H kvs xs)(k:List Key):zHk (tI kvs k) ((atKey xs k).map (·.2)):=by
 induction r with
 | nil=>exact True.intro
 | @cons p q ps qs h t ih =>
  obtain⟨h1,_,h2⟩:=h;by_cases e:p.1=k
  ·have e':q.1=k:=h1.symm.trans e;have b:atKey (q::qs) k=some q.2:=by simp[atKey,List.find?_cons,e']
   rw[wJ e,b]; exact h2
  ·have e':¬ q.1=k:=λz=>e (h1.trans z);have b:atKey (q::qs) k=atKey qs k:=by simp[atKey,List.find?_cons,e']
   rw[xT e,b]; exact ih
theorem KT.repl{H:Hp}{kvs:List (List Key×V)}{xs:List (List Key×Addr×Value)}(r:KT H kvs xs)(k:List Key){y:V}{u:Value}(ry:xI y u) :
  KT H (kvs.map λkv=>if kv.1=k then(kv.1,y) else kv) (xs.map (putAt k u)):=by
 induction r with
 | nil=>exact .nil
 | @cons p q ps qs h t ih =>
  rw[List.map_cons,List.map_cons];refine .cons ?_ ih;obtain⟨h1,h2,h3⟩:=h;unfold putAt;by_cases e:p.1=k
  ·rw[if_pos e,if_pos (h1.symm.trans e)]; exact⟨h1,h2,ry⟩
  ·rw[if_neg e,if_neg (λz=>e (h1.trans z))]; exact⟨h1,h2,h3⟩
theorem KT.put{H:Hp}{kvs:List (List Key×V)}{xs:List (List Key×Addr×Value)}(r:KT H kvs xs)(k:List Key){b:Addr}{y:V}{u:Value}(hb:H b=some (.tup (k.map kV)))(ry:xI y u) :
  KT H (tR kvs k y) (storedH xs k b u):=by
 have e:(kvs.any λkv=>decide (kv.1=k))=(atKey xs k).isSome:=by
  rw[zC4,(r.val k).isSome_eq,Option.isSome_map]
 unfold tR storedH;rw[e];by_cases q:(atKey xs k).isSome=true
 ·rw[if_pos q,if_pos q]; exact r.repl k ry
 ·rw[if_neg q,if_neg q]; exact Paired.snoc r ⟨rfl,hb,ry⟩
theorem KT.keeps{H H':Hp}{kvs:List (List Key×V)}{xs:List (List Key×Addr×Value)}(r:KT H kvs xs)(ht:∀ b ys,H b=some (.tup ys)->H' b=some (.tup ys)):KT H' kvs xs :=
 Paired.mapP r λ_ _ z=>⟨z.1,ht _ _ z.2.1,z.2.2⟩

section
variable{P:Program}{w:World}{H:Hp}{h:Heap}{a:Addr}
theorem zWu{u:HO}(ok:HOk P w H h)(e:Rd H a u):xZ P w H h a u:=e.ok ok
theorem zGw{kvs:List (Key×V)}(ok:HOk P w H h)(e:Rd H a (.dK kvs)):kvs.length<=sizeLine/\(a == sysModules)=false/\∃ vs,KV kvs vs/\h.DictOf (yX P w) a vs :=
 show xZ P w H h a (.dK kvs) from zWu ok e
theorem zQq{kvs:List (Key×V)}(ok:HOk P w H h)(e:H a=some (.dK kvs)):kvs.length<=sizeLine/\(a == sysModules)=false/\∃ vs,KV kvs vs/\h.DictOf (yX P w) a vs:=zGw ok (.inl e)
theorem zI8{ks:List Key}(ok:HOk P w H h)(e:H a=some (.tup (ks.map kV))):(tupleKind (yX P w)).is h ks a:=by
 obtain⟨_,its,r,o,h1,h2,n,h3⟩:=(show xZ P w H h a (.tup (ks.map kV)) from ok a _ e);exact⟨o,its.toArray,n,h1,h2,h3,by simpa using zI4 r⟩
theorem zMm{kvs:List (List Key×V)}(ok:HOk P w H h)(e:Rd H a (.dT kvs)):kvs.length<=sizeLine/\(a == sysModules)=false /\
  ∃ xs,KT H kvs xs/\h.DictOfH (tupleKind (yX P w)) a xs:=by
 obtain⟨z,y,xs,r,o,es,ep,h1,h2,h3,h4,h5⟩:=(show xZ P w H h a (.dT kvs) from zWu ok e);refine⟨z,y,xs,r,o,es,ep,h1,h2,h3,h4,λx hx=>?_,h5⟩;have all:∀{l:List (List Key×V)}{m:List (List Key×Addr×Value)},KT H l m->∀ x∈m,(tupleKind (yX P w)).is h x.1 x.2.1:=by
  intro l m q
  induction q with
  | nil=>intro x hx; exact nomatch hx
  | @cons p q ps qs hq t ih =>
   intro x hx;rcases List.mem_cons.mp hx with e | hx
   ·subst e;exact zI8 ok (by rw[<- hq.1]; exact hq.2.1)
   ·exact ih x hx
 exact all r x hx
theorem dt_of{kvs:List (List Key×V)}(ok:HOk P w H h)(e:H a=some (.dT kvs)):kvs.length<=sizeLine/\(a == sysModules)=false /\
  ∃ xs,KT H kvs xs/\h.DictOfH (tupleKind (yX P w)) a xs:=zMm ok (.inl e)
end

def zSy(H:Hp)(a:Addr)(y:V)(r:Option V):Prop :=
 (∃ kvs k,Rd H a (.dK kvs)/\y=kV k/\r=tI kvs k)\/∃ kvs k b,Rd H a (.dT kvs)/\y=.ref b/\H b=some (.tup (k.map kV))/\r=tI kvs k
def zHj(H:Hp)(a:Addr)(y v:V)(H':Hp):Prop :=
 (∃ kvs k,H a=some (.dK kvs)/\y=kV k/\kvs.length<sizeLine/\H'=upd H a (.dK (tR kvs k v))) \/
 ∃ kvs k b,H a=some (.dT kvs)/\y=.ref b/\H b=some (.tup (k.map kV))/\kvs.length<sizeLine/\H'=upd H a (.dT (tR kvs k v))
theorem zHj.k{H:Hp}{a:Addr}{kvs:List (Key×V)}{k:Key}{v:V}(e:H a=some (.dK kvs))(hl:kvs.length<sizeLine):zHj H a (kV k) v (upd H a (.dK (tR kvs k v))):=.inl ⟨kvs,k,e,rfl,hl,rfl⟩
section
variable{X:Cx}{pins:List (Addr×Obj)}{σ:St}{H:Hp}{s:Shared}{a:Addr}{y v:V}{u r:Value}{o:Option V}{A:Around}{E:Value->Shared->Prop}

theorem Inv.big(I:Inv X pins σ H s):sysModules<s.heap.objs.size:=by
 have h:mainGlobals<s.heap.objs.size:=(I.mod.glob.keeps I.bk).lt;exact Nat.lt_trans (by decide) h

theorem zPh{Q:Value->Shared->Prop}(hu:A.units+1<cLine)(I:Inv X pins σ H s)(g:zSy H a y (some v))(ry:xI y u)(h:∀ w' s',Inv X pins σ H s'->xI v w'->Q w' s') :
  wpAny (model X.prog X.w) A (getItem (.ref a) u) Q E s:=by
 rcases g with ⟨kvs,k,e,ey,l⟩ | ⟨kvs,k,b,e,ey,eb,l⟩
 ·subst ey;obtain⟨z,hd,vs,rel,dd⟩:=zGw I.hok e;obtain⟨w',hw,rw'⟩:=zHk.some_of (v:=v) (o:=valueAt vs k) (by rw[l]; exact rel.val k);exact wpAny_getItem_of (zGu ry) dd.mapOf hw (h w' _ (I.tok _) rw')
 ·subst ey;cases (show u=Value.ref b from ry);obtain⟨z,hd,xs,rel,dd⟩:=zMm I.hok e;obtain⟨w',hw,rw'⟩:=zHk.some_of (v:=v) (o:=(atKey xs k).map (·.2)) (by rw[l]; exact rel.val k);obtain⟨p,hp,hp2⟩:=Option.map_eq_some_iff.mp hw;refine wpAny_getItem_heap (tupleKind_room_in1 hu) (zI8 I.hok eb) dd hp ?_;rw[hp2];exact h w' _ (I.tok _) rw'
theorem d_in{Q:Value->Shared->Prop}(hu:A.units+1<cLine)(I:Inv X pins σ H s)(g:zSy H a y o)(ry:xI y u)(h:∀ s',Inv X pins σ H s'->Q (.bool o.isSome) s') :
  wpAny (model X.prog X.w) A (compareOp .In u (.ref a)) Q E s:=by
 rcases g with ⟨kvs,k,e,ey,l⟩ | ⟨kvs,k,b,e,ey,eb,l⟩
 ·subst ey;obtain⟨z,hd,vs,rel,dd⟩:=zGw I.hok e;refine wpAny_in_of (zGu ry) hd dd.mapOf ?_;rw[<- (rel.val k).isSome_eq,<- l];exact h _ (I.tok _)
 ·subst ey;cases (show u=Value.ref b from ry);obtain⟨z,hd,xs,rel,dd⟩:=zMm I.hok e;refine wpAny_in_heap (tupleKind_room_in1 hu) (zI8 I.hok eb) hd dd ?_;have q:=(rel.val k).isSome_eq;rw[Option.isSome_map] at q;rw[<- q,<- l];exact h _ (I.tok _)
theorem zUi{Q:Value->Shared->Prop}(hu:A.units+1<cLine)(I:Inv X pins σ H s)(g:zSy H a y o)(ry:xI y u)(h:∀ s',Inv X pins σ H s'->Q (.bool (!o.isSome)) s') :
  wpAny (model X.prog X.w) A (compareOp .NotIn u (.ref a)) Q E s:=by
 rcases g with ⟨kvs,k,e,ey,l⟩ | ⟨kvs,k,b,e,ey,eb,l⟩
 ·subst ey;obtain⟨z,hd,vs,rel,dd⟩:=zGw I.hok e;refine wpAny_notIn_of (zGu ry) hd dd.mapOf ?_;rw[<- (rel.val k).isSome_eq,<- l];exact h _ (I.tok _)
 ·subst ey;cases (show u=Value.ref b from ry);obtain⟨z,hd,xs,rel,dd⟩:=zMm I.hok e;refine wpAny_notIn_heap (tupleKind_room_in1 hu) (zI8 I.hok eb) hd dd ?_;have q:=(rel.val k).isSome_eq;rw[Option.isSome_map] at q;rw[<- q,<- l];exact h _ (I.tok _)
theorem zEu{h':Heap}{t':Nat}{ob:HO}(I:Inv X pins σ H s)(mu:Mut (H a))(hs:Heap.SameBut a s.heap h')(he:∃ q,h'.get? a=some q)(new:xZ X.prog X.w (upd H a ob) h' a ob) :
  Inv X pins σ (upd H a ob) { s with heap:=h',toks:=t' } :=
 I.write (x:=a) (e:=a) mu (.inl rfl) (λb q hb z=>(hs.2 b hb).trans z) he new
theorem zIz{P:Program}{w:World}{H':Hp}{h':Heap}{kvs:List (Key×V)}{vs:List (Key×Value)}(z:kvs.length<=sizeLine)(hd:(a == sysModules)=false)(rel:KV kvs vs)(dd:h'.DictOf (yX P w) a vs) :
  xZ P w H' h' a (.dK kvs):=⟨z,hd,vs,rel,dd⟩
theorem zNj{H':Hp}{Q:Unit->Shared->Prop}(hu:A.units+1<cLine)(I:Inv X pins σ H s)(g:zHj H a y v H')(ry:xI y u)(rv:xI v r)(h:∀ s',Inv X pins σ H' s'->Q () s') :
  wpAny (model X.prog X.w) A (setItem (.ref a) u r) Q E s:=by
 rcases g with ⟨kvs,k,e,ey,l,eH⟩ | ⟨kvs,k,b,e,ey,eb,l,eH⟩
 ·subst ey eH;obtain⟨z,hd,vs,rel,dd⟩:=zQq I.hok e;have hz:vs.length<=sizeLine:=by rw[<- rel.length]; exact z
  have hl:(tR kvs k v).length<=sizeLine:=by have:=zAr kvs k v; lia
  refine wpAny_setItem_pairs (hsz:=hz) (zGu ry) dd λh' dd' hs=>h _ ?_;have he:∃ q,h'.get? a=some q:=let ⟨q,_,_,hq,_⟩:=dd';⟨q,hq⟩;exact zEu I (by rw[e]; exact True.intro) hs he (zIz hl hd (rel.put k rv) dd')
 ·subst ey eH;cases (show u=Value.ref b from ry);obtain⟨z,hd,xs,rel,dd⟩:=dt_of I.hok e;have hz:xs.length<=sizeLine:=by rw[<- Paired.length rel]; exact z
  have hl:(tR kvs k v).length<=sizeLine:=by have:=zAr kvs k v; lia
  refine wpAny_setItem_heap (hsz:=hz) (tupleKind_room_in1 hu) (zI8 I.hok eb) dd λh' dd' hs=>h _ ?_;obtain⟨q,es,ep,hq,h2,h3,h4,_,h5⟩:=dd';refine zEu I (by rw[e]; exact True.intro) hs ⟨q,hq⟩ ⟨hl,hd,_,(rel.put k eb rv).keeps λc ys ec=>?_,q,es,ep,hq,h2,h3,h4,h5⟩;rw[zD (zCp ec e (λz=>nomatch z))];exact ec
end

section
variable{X:Cx}{pins:List (Addr×Obj)}{σ:St}{H:Hp}{s:Shared}{a:Addr}{kvs:List (Key×V)}{k:Key}{u:Value}{A:Around}{E:Value->Shared->Prop}
theorem zXk{Q:Unit->Shared->Prop}(I:Inv X pins σ H s)(e:H a=some (.dK kvs))(ry:xI (kV k) u)(l:(tI kvs k).isSome=true)(h:∀ s',Inv X pins σ (upd H a (.dK (zCz kvs k))) s'->Q () s') :
  wpAny (model X.prog X.w) A (delItem (.ref a) u) Q E s:=by
 obtain⟨z,hd,vs,rel,dd⟩:=zQq I.hok e;refine wpAny_delItem_slot dd.typeIs (by decide) PySem.F.slot_dict_delitem
  (call_meetsIn PySem.F.slot_dict_delitem dd.typeIs PySem.F.entry_dict_delitem (PySem.F.args_dict_delitem_2 _ _) (meets_dict_delitem_pairs (yX X.prog X.w) a (zGu ry)) ⟨vs,dd,by rw[<- rel.length]; exact z,by rw[<- (rel.val k).isSome_eq]; exact l,λh' dd' hs=>h _ ?_⟩)
 have he:∃ q,h'.get? a=some q:=let ⟨q,_,_,hq,_⟩:=dd';⟨q,hq⟩;exact zEu I (by rw[e]; exact True.intro) hs he (zIz (Nat.le_trans (zLn kvs k) z) hd (rel.drop k) dd')
theorem d_pop{v:V}{more:List Value}{Q:Value->Shared->Prop}(I:Inv X pins σ H s)(e:H a=some (.dK kvs))(ry:xI (kV k) u)(l:tI kvs k=some v)(hm:more=[]\/∃ x,more=[x])
  (h:∀ w' s',Inv X pins σ (upd H a (.dK (zCz kvs k))) s'->xI v w'->Q w' s'):wpAny (model X.prog X.w) A (call (.builtin "dict.pop") (.ref a::u::more)) Q E s:=by
 obtain⟨z,hd,vs,rel,dd⟩:=zQq I.hok e;obtain⟨w',hw,rw'⟩:=zHk.some_of (v:=v) (o:=valueAt vs k) (by rw[<- l]; exact rel.val k);have hp:(keyPart u).isSome=true:=by
  cases k with
  | inl i=>obtain⟨t,q⟩:=(show ∃ t,u=Value.int i t from ry); subst q; rfl
  | inr x=>obtain⟨t,q⟩:=(show ∃ t,u=Value.str x t from ry); subst q; rfl
 have ha:argsOk "dict.pop" ⟨.ref a::u::more,[]⟩:=by
  rcases hm with q | ⟨x,q⟩
  ·subst q; exact PySem.F.args_dict_pop_2 _ _
  ·subst q; exact PySem.F.args_dict_pop_3 _ _ _
 refine call_meetsIn PySem.F.slot_dict_pop dd.typeIs PySem.F.entry_dict_pop ha (meets_dict_pop_there (yX X.prog X.w) a (zGu ry) more hm hp)
  ⟨vs,w',dd,by rw[<- rel.length]; exact z,hw,λh' dd' hs=>h w' _ ?_ rw'⟩
 have he:∃ q,h'.get? a=some q:=let ⟨q,_,_,hq,_⟩:=dd';⟨q,hq⟩;exact zEu I (by rw[e]; exact True.intro) hs he (zIz (Nat.le_trans (zLn kvs k) z) hd (rel.drop k) dd')
theorem d_len{Q:Value->Shared->Prop}(I:Inv X pins σ H s)(e:Rd H a (.dK kvs))(h:∀ t s',Inv X pins σ H s'->Q (.int kvs.length t) s'):wpAny (model X.prog X.w) A (call (.builtin "len") [.ref a]) Q E s:=by
 obtain⟨z,hd,vs,rel,dd⟩:=zGw I.hok e;refine call_len_dict hd dd (by rw[<- rel.length]; rw[sizeLine_eq] at z; lia) ?_;rw[<- rel.length];exact h _ _ (I.tok _)
end


def zXt(i:Expr):Prop:=∀ ov iv,subscripted i false ov iv=operate [ov,iv] (getItem ov iv)
theorem zJm{prog:Program}{w:World}{A:Around}{E:Value->Shared->Prop}{s:Shared}{env:Env}{value slice:Expr}{pos:Pos}{T id:String}{Q:Value->Shared->Prop}
  (hl:typeLookup (.type T) "__getitem__" = pure (some (.builtin id))) (hs:zXt slice)
  (h:wpAny (model prog w) A (eval value env) (λo s₁=>wpAny (model prog w) A (eval slice env) (λi s₂=>s₂.TypeIs o T/\wpAny (model prog w) A (getItem o i) Q E s₂) E s₁) E s) :
  wpAny (model prog w) A (eval (.Subscript value slice pos) env) Q E s:=by
 refine Subscript_ (wpAny_mono h (λo s₁ h₁=>wpAny_mono h₁ (λi s₂ h₂=>?_) λ_ _ x=>x) λ_ _ x=>x);obtain⟨hT,h₂⟩:=h₂;unfold subscriptTail;refine wpAny_bind ?_;rw[getitemInPython_of_ne hT.not_modules];refine wpAny_bind (wpAny_specialOf hT hl ?_);have fin:wpAny (model prog w) A (subscripted slice false o i) (λr s₃=>wpAny (model prog w) A (letTemporaryGo value o r >>= λ_=>pure r) Q E s₃) E s₂:=by
  rw[hs o i];exact wpAny_operating (wpAny_mono h₂ (λr s₃ h₃=>wpAny_bind (wpAny_letTemporaryGo (wpAny_pure h₃))) λ_ _ x=>x)
 first
  | exact wpAny_pure (wpAny_bind fin)
  | exact wpAny_bind (wpAny_pure (wpAny_bind fin))
  | exact wpAny_bind fin

theorem zJy{X:Cx}{pins:List (Addr×Obj)}{σ:St}{H:Hp}{s:Shared}{a:Addr}{y:V}{o:Option V}(I:Inv X pins σ H s)(g:zSy H a y o):s.TypeIs (.ref a) "dict" := by
 rcases g with ⟨kvs,k,e,_,_⟩ | ⟨kvs,k,b,e,_,_,_⟩
 ·obtain⟨_,_,vs,_,dd⟩:=zGw I.hok e;exact dd.typeIs
 ·obtain⟨_,_,xs,_,dd⟩:=zMm I.hok e;exact dd.typeIs
def tDGet(td ty:TE):TE:=λσ H Q=>td σ H λx H1=>ty σ H1 λy H2=>∃ a v,x=.ref a/\zSy H2 a y (some v)/\Q v H2
def tDIn(ty td:TE):TE:=λσ H Q=>ty σ H λy H1=>td σ H1 λx H2=>∃ a o,x=.ref a/\zSy H2 a y o/\Q (.bl o.isSome) H2
def zUr(ty td:TE):TE:=λσ H Q=>ty σ H λy H1=>td σ H1 λx H2=>∃ a o,x=.ref a/\zSy H2 a y o/\Q (.bl (!o.isSome)) H2
def sDPut(td ty tv:TE):TS:=λD σ H=>tv σ H λv H1=>td σ H1 λx H2=>ty σ H2 λy H3=>∃ a H4,x=.ref a/\zHj H3 a y v H4/\D.nx σ H4
section
variable{X:Cx}{o i e value:Expr}{pos pos' tpos:Pos}{td ty tv:TE}
theorem zL(hu:X.A.units+1<cLine)(ho:PE X o td)(hi:PE X i ty)(hs:zXt i):PE X (.Subscript o i pos) (tDGet td ty):=by
 intro pins s σ H Q I h;refine zJm PySem.F.slot_dict_getitem.lookup hs (thn (ho pins s σ H _ I h) λu s1 ⟨x,H1,I1,rx,q1⟩=>thn (hi pins s1 σ H1 _ I1 q1) λiv s2 ⟨y,H2,I2,ry,a,v,ex,g,q2⟩=>?_);subst ex;obtain rfl:u=Value.ref a:=rx;exact⟨zJy I2 g,zPh hu I2 g ry λw' s3 I3 rw'=>⟨v,H2,I3,rw',q2⟩⟩
theorem zW1(hu:X.A.units+1<cLine)(hi:PE X i ty)(ho:PE X o td):PC X .In i o (tDIn ty td):=by
 intro pins s σ H Q I h;refine thn (hi pins s σ H _ I h) λiv s1 ⟨y,H1,I1,ry,q1⟩=>thn (ho pins s1 σ H1 _ I1 q1) λu s2 ⟨x,H2,I2,rx,a,ov,ex,g,q2⟩=>?_;subst ex;obtain rfl:u=Value.ref a:=rx;exact d_in hu I2 g ry λs3 I3=>⟨.bl ov.isSome,H2,I3,rfl,q2⟩
theorem qF(hu:X.A.units+1<cLine)(hi:PE X i ty)(ho:PE X o td):PC X .NotIn i o (zUr ty td):=by
 intro pins s σ H Q I h;refine thn (hi pins s σ H _ I h) λiv s1 ⟨y,H1,I1,ry,q1⟩=>thn (ho pins s1 σ H1 _ I1 q1) λu s2 ⟨x,H2,I2,rx,a,ov,ex,g,q2⟩=>?_;subst ex;obtain rfl:u=Value.ref a:=rx;exact zUi hu I2 g ry λs3 I3=>⟨.bl (!ov.isSome),H2,I3,rfl,q2⟩
theorem tP(hu:X.A.units+1<cLine)(ho:PE X o td)(hi:PE X i ty)(hv:PE X value tv)(hs:swapsWith value (some (.Subscript o i pos')) pos.line X.env=pure false) :
  PS X (.Assign [.Subscript o i pos'] value pos) (sDPut td ty tv):=by
 intro pins s σ H D I h;refine wpAny_Assign_Subscript (thn (hv pins s σ H _ I h) λr s1 ⟨v,H1,I1,rv,q1⟩=>thn (ho pins s1 σ H1 _ I1 q1) λu s2 ⟨x,H2,I2,rx,q2⟩=>thn (hi pins s2 σ H2 _ I2 q2) λiv s3 ⟨y,H3,I3,ry,a,H4,ex,g,q3⟩=>?_) hs;subst ex;obtain rfl:u=Value.ref a:=rx;exact zNj hu I3 g ry rv λs4 I4=>⟨σ,H4,I4,q3⟩
end


theorem zK4{P:Program}{w:World}{H:Hp}(h:Heap)(hb:sysModules<h.objs.size):xZ P w H (h.push { cls:=.type "dict", data:=.dict #[] }) h.objs.size (.dK []) :=
 ⟨Nat.zero_le _,beq_eq_false_iff_ne.mpr (Ne.symm (Nat.ne_of_lt hb)),[],.nil,Heap.DictOf.new h⟩
def zWd:TE:=λ_ H Q=>∀ p,H p=none->Q (.ref p) (upd H p (.dK []))
section
variable{X:Cx}{pos:Pos}
theorem tU:PE X (.Dict [] [] pos) zWd:=λpins s σ H Q I h =>
 wpAny_Dict_empty ⟨.ref s.heap.objs.size,_,I.laid (a:=s.heap.objs.size) (o:=.dK []) (t':=s.toks) (λ_ _ q=>Heap.get?_push_of_some _ q) (Nat.le_refl _) (zK4 s.heap I.big),rfl,h _ (I.hok.fresh (Nat.le_refl _))⟩
end

def zPt:List (TE×TE)->St->Hp->(List (V×V)->Hp->Prop)->Prop
 | [],_,H,Q=>Q [] H
 | (tk,tv)::r,σ,H,Q=>tk σ H λx H1=>tv σ H1 λy H2=>zPt r σ H2 λps H3=>Q ((x,y)::ps) H3
abbrev VV:List (V×V)->List (Value×Value)->Prop:=Paired λp q=>xI p.1 q.1/\xI p.2 q.2
def PPs(X:Cx)(pos:Pos)(keys:List (Option Expr))(values:List Expr)(trs:List (TE×TE)):Prop :=
 ∀(pins:List (Addr×Obj))(s:Shared)(σ:St)(H:Hp)(Q:List (V×V)->Hp->Prop),Inv X pins σ H s->zPt trs σ H Q ->
  wpAny (model X.prog X.w) X.A (evalPairs (pairTrees keys values X.env pos)) (λvs s'=>∃ ps H',Inv X pins σ H' s'/\VV ps vs/\Q ps H') X.xe s
theorem zKd{X:Cx}{pos:Pos} : PPs X pos [] [] []:=λpins s σ H Q I h=>pairTrees_nil_walk ⟨[],H,I,.nil,h⟩
theorem xW{X:Cx}{pos:Pos}{k v:Expr}{ks:List (Option Expr)}{vs:List Expr}{tk tv:TE}{trs:List (TE×TE)}(hk:PE X k tk)(hv:PE X v tv)(hr:PPs X pos ks vs trs) :
  PPs X pos (some k::ks) (v::vs) ((tk,tv)::trs):=λpins s σ H Q I h =>
 pairTrees_cons_walk (thn (hk pins s σ H _ I h) λu s1 ⟨x,H1,I1,rx,q1⟩=>thn (hv pins s1 σ H1 _ I1 q1) λw2 s2 ⟨y,H2,I2,ry,q2⟩ =>
  thn (hr pins s2 σ H2 _ I2 q2) λws s3 ⟨ps,H3,I3,rel,q3⟩=>⟨(x,y)::ps,H3,I3,.cons ⟨rx,ry⟩ rel,q3⟩)

def zB5(kvs more:List (Key×V)):List (Key×V):=more.foldl (λacc kv=>tR acc kv.1 kv.2) kvs
theorem KV.merge:∀{more:List (Key×V)}{rs:List (Key×Value)}{kvs:List (Key×V)}{vs:List (Key×Value)},KV more rs->KV kvs vs->KV (zB5 kvs more) (merged vs rs):=by
 intro more rs kvs vs r;unfold KV at r
 induction r generalizing kvs vs with
 | nil=>intro q; exact q
 | @cons p q ps qs h t ih =>
  intro r0;have e:KV (tR kvs p.1 p.2) (stored vs q.1 q.2):=by
   have:=r0.put p.1 h.2;rw[<- h.1]; exact this
  exact ih e
theorem zA8:∀(more kvs:List (Key×V)),(zB5 kvs more).length<=kvs.length+more.length
 | [],kvs=>by show kvs.length<=kvs.length+0; lia
 | p::r,kvs=>by
  have h1:=zA8 r (tR kvs p.1 p.2);have h2:=zAr kvs p.1 p.2;show(zB5 (tR kvs p.1 p.2) r).length<=_;rw[List.length_cons]; lia
theorem zFy{P:Program}{w:World} : ∀{kvs:List (Key×V)}{ws:List (Value×Value)},VV (kvs.map λkv=>(kV kv.1,kv.2)) ws->∃ rs,Carries (yX P w) ws rs/\KV kvs rs
 | [],_,r=>by rw[List.map_nil] at r; cases r; exact⟨[],True.intro,.nil⟩
 | p::kvs,_,r=>by
  rw[List.map_cons] at r;cases r with
  | @cons a b as bs h t =>
   obtain⟨rs,c,q⟩:=zFy (P:=P) (w:=w) t;obtain⟨b1,b2⟩:=b;exact⟨(p.1,b2)::rs,⟨zGu h.1,rfl,c⟩,.cons ⟨rfl,h.2⟩ q⟩
def tDisp(trs:List (TE×TE)):TE:=λσ H Q=>∀ p,H p=none->zPt trs σ (upd H p (.dK [])) λps H2=>H2 p=some (.dK [])/\∃ kvs:List (Key×V),ps=kvs.map (λkv=>(kV kv.1,kv.2))/\kvs.length<=15/\Q (.ref p) (upd H2 p (.dK (zB5 [] kvs)))
theorem zJ5{X:Cx}{pos:Pos}{keys:List (Option Expr)}{values:List Expr}{trs:List (TE×TE)}(h:PPs X pos keys values trs)(hall:keys.all (·.isSome)=true)(hl:keys.length=values.length)(h0:keys≠[])
  (h15:keys.length<=15):PE X (.Dict keys values pos) (tDisp trs):=by
 intro pins s σ H Q I q;have hn:=I.hok.fresh (Nat.le_refl s.heap.objs.size);have I1:=I.laid (a:=s.heap.objs.size) (o:=.dK []) (h':=s.heap.push { cls:=.type "dict", data:=.dict #[] }) (t':=s.toks) (λ_ _ q=>Heap.get?_push_of_some _ q) (Nat.le_refl _) (zK4 s.heap I.big);refine wpAny_Dict_walk (knd:=yX X.prog X.w) hall hl h0 h15 (thn (h pins _ σ _ _ I1 (q _ hn)) λws s2 ⟨ps,H2,I2,rel,e,kvs,ep,lk,q2⟩=>?_);subst ep;obtain⟨rs,c,rk⟩:=zFy (P:=X.prog) (w:=X.w) rel;obtain⟨z,hd,vs0,r0,dd⟩:=zQq I2.hok e;cases r0;refine⟨rs,c,dd,λh' dd' hs=>⟨.ref s.heap.objs.size,_,?_,rfl,q2⟩⟩;have hz:(zB5 [] kvs).length<=sizeLine:=by
  have h1:=zA8 kvs [];rw[List.length_nil] at h1;rw[sizeLine_eq]; lia
 have he:∃ q,h'.get? s.heap.objs.size=some q:=let ⟨q,_,_,hq,_⟩:=dd';⟨q,hq⟩;exact zEu I2 (by rw[e]; exact True.intro) hs he (zIz hz hd (rk.merge .nil) dd')



end L2

namespace L2
open PySem PySem.Spec PyProof.Rows
def zP5(h:Heap)(a:Addr)(rows:Array DictEntry)(age:Nat):Prop:=∃ ob,h.get? a=some ob/\ob.ExactDict/\ob.data=.dict rows age
theorem zP5.at{h h':Heap}{a:Addr}{rows:Array DictEntry}{age:Nat}(x:zP5 h a rows age)(e:∀ ob,h.get? a=some ob->h'.get? a=some ob):zP5 h' a rows age:=let ⟨ob,g,r⟩:=x;⟨ob,e _ g,r⟩
theorem zP5.typeIs{z:Shared}{a:Addr}{rows:Array DictEntry}{age:Nat}(x:zP5 z.heap a rows age):z.TypeIs (.ref a) "dict" := let ⟨ob,g,c,_⟩:=x;⟨ob,g,c.1⟩
section
variable{prog:Program}{w:World}{A:Around}{E:Value->Shared->Prop}{z:Shared}{it a:Addr}{rows:Array DictEntry}{age k:Nat}
theorem zRf{R:Value->Shared->Prop}(hs:(a == sysModules)=false)(x:zP5 z.heap a rows age)(hR:R (.ref z.heap.objs.size) { z with heap:=z.heap.push { cls:=.type "dict_keyiterator", data:=.fields #[.ref a,.int 0 0,.int rows.size 0,.int age 0] } }) :
  wpAny (model prog w) A (pyIter (.ref a)) R E z:=by
 have ty:=x.typeIs;obtain⟨ob,g,_,dat⟩:=x;refine wpAny_pyIter_slot ty F.slot_dict_iter (wpAny_call_entry F.slot_dict_iter ty F.entry_dict_iter ?walk (F.args_dict_iter_1 _))
 case walk =>
  unfold Builtin.«dict.__iter__» Builtin.Dict.dictSlotNone;refine wpAny_bind (wpAny_bind (wpAny_notOrdered_dict ty (show wpAny _ _ (pure (Value.ref a)) _ _ z from wpAny_pure ?_)));show wpAny _ _ (Builtin.Dict.showsAll a >>= _) _ _ z;unfold Builtin.Dict.showsAll;rw[if_neg (by rw[hs]; decide)];refine wpAny_bind (wpAny_pure (wpAny_bind (wpAny_dictEntries g dat (wpAny_bind (wpAny_dictEpoch g dat ?_)))));refine wpAny_bind (wpAny_newObj_type (wpAny_pure ⟨_,rfl, "dict_keyiterator", _,⟨_,Heap.get?_push_size _ rfl,rfl⟩,F.slot_dict_keyiterator_next.lookup,?_⟩));simpa [rawInt] using hR
theorem zRd{R:Option Value->Shared->Prop}(ki:z.heap.IsKeyIter it a k rows.size age)(x:zP5 z.heap a rows age)(hk:k<rows.size)
  (hR:∀ h',h'.IsKeyIter it a (k+1) rows.size age->Heap.SameBut it z.heap h'->R (some rows[k].key) { z with heap:=h' }):wpAny (model prog w) A (pyNext (.ref it)) R E z:=by
 have ty:=ki.typeIs;obtain⟨oi,gi,ci,di⟩:=id ki;obtain⟨ob,g,_,dat⟩:=x;unfold pyNext;refine wpAny_bind (wpAny_attempt (wpAny_callSpecial?_slot (name:=Str.ofString "__next__") ty F.slot_dict_keyiterator_next (wpAny_call_entry F.slot_dict_keyiterator_next ty F.entry_dict_keyiterator_next ?walk (F.args_dict_keyiterator_next_1 _))))
 case walk =>
  refine wpAny_bind (wpAny_pure (wpAny_bind (wpAny_bind ?_)))
  first | refine wpAny_bind (wpAny_typeNameOfWhole_keyiter ty (wpAny_pure (wpAny_bind (wpAny_fieldsOf gi di ?_)))) | refine wpAny_bind (wpAny_typeNameOf_keyiter ty (wpAny_pure (wpAny_bind (wpAny_fieldsOf gi di ?_))))
  simp only[show Builtin.Dict_items.ownsTuple "dict_keyiterator" = false by decide,Bool.false_eq_true,if_false];show wpAny _ _ (if (Value.ref a == Value.none)=true then _ else _) _ _ z;rw[if_neg (show ¬ ((Value.ref a == Value.none)=true) from Bool.false_ne_true)];refine wpAny_bind (wpAny_pure (wpAny_bind (wpAny_dictEntries g dat ?_)));rw[if_neg (by simp)];refine wpAny_bind (wpAny_pure (wpAny_bind (wpAny_dictEpoch g dat ?_)));rw[if_neg (by simp)];refine wpAny_pure ?_;simp only[show ¬ ((k:Int)<0) from by lia,if_false,Int.toNat_natCast,Array.getElem?_eq_getElem hk];refine wpAny_bind ?_
  first | refine wpAny_bind (wpAny_typeNameOfWhole_keyiter ty (wpAny_pure (wpAny_bind (wpAny_isOneOf_keyiter ty ?_)))) | refine wpAny_bind (wpAny_typeNameOf_keyiter ty (wpAny_pure (wpAny_bind (wpAny_isOneOf_keyiter ty ?_))))
  show wpAny _ _ (setField (.ref it) 1 (rawInt ((k:Int)+1)) >>= _) _ _ z;refine wpAny_bind (wpAny_setField gi di (by simp) ?_);have ki':(z.heap.update it (Obj.mapFields (·.setIfInBounds 1 (rawInt ((k:Int)+1))))).IsKeyIter it a (k+1) rows.size age :=
   ⟨_,Heap.get?_update_self _ gi (Obj.isFreed_of_fields (Obj.data_mapFields di _)),(Obj.cls_mapFields ..).trans ci,by rw[Obj.data_mapFields di]; simp[rawInt]⟩
  refine wpAny_bind (wpAny_holding (wpAny_bind (wpAny_isOneOf_keyiter (s:={ z with heap:=z.heap.update it (Obj.mapFields (·.setIfInBounds 1 (rawInt ((k:Int)+1)))) }) ki'.typeIs ?_)));show wpAny _ _ (pure rows[k].key) _ _ _;exact wpAny_pure (wpAny_pure ⟨_,rfl,wpAny_pure (hR _ ki' (Heap.SameBut.update ..))⟩)
theorem zTc{R:Option Value->Shared->Prop}(hh:A.handled=none)(ki:z.heap.IsKeyIter it a k rows.size age)(x:zP5 z.heap a rows age)(hk:rows.size<=k)
  (hR:∀ h',Heap.ExtBut it z.heap h'->R none { z with heap:=h' }):wpAny (model prog w) A (pyNext (.ref it)) R E z:=by
 have ty:=ki.typeIs;obtain⟨oi,gi,ci,di⟩:=id ki;obtain⟨ob,g,_,dat⟩:=x;unfold pyNext;refine wpAny_bind (wpAny_attempt (wpAny_callSpecial?_slot (name:=Str.ofString "__next__") ty F.slot_dict_keyiterator_next (wpAny_call_entry F.slot_dict_keyiterator_next ty F.entry_dict_keyiterator_next ?walk (F.args_dict_keyiterator_next_1 _))))
 case walk =>
  refine wpAny_bind (wpAny_pure (wpAny_bind (wpAny_bind ?_)))
  first | refine wpAny_bind (wpAny_typeNameOfWhole_keyiter ty (wpAny_pure (wpAny_bind (wpAny_fieldsOf gi di ?_)))) | refine wpAny_bind (wpAny_typeNameOf_keyiter ty (wpAny_pure (wpAny_bind (wpAny_fieldsOf gi di ?_))))
  simp only[show Builtin.Dict_items.ownsTuple "dict_keyiterator" = false by decide,Bool.false_eq_true,if_false];show wpAny _ _ (if (Value.ref a == Value.none)=true then _ else _) _ _ z;rw[if_neg (show ¬ ((Value.ref a == Value.none)=true) from Bool.false_ne_true)];refine wpAny_bind (wpAny_pure (wpAny_bind (wpAny_dictEntries g dat ?_)));rw[if_neg (by simp)];refine wpAny_bind (wpAny_pure (wpAny_bind (wpAny_dictEpoch g dat ?_)));rw[if_neg (by simp)];refine wpAny_pure ?_;simp only[show ¬ ((k:Int)<0) from by lia,if_false,Int.toNat_natCast,Array.getElem?_eq_none hk];refine wpAny_bind ?_
  first | refine wpAny_bind (wpAny_typeNameOfWhole_keyiter ty (wpAny_pure ?_)) | refine wpAny_bind (wpAny_typeNameOf_keyiter ty (wpAny_pure ?_))
  show wpAny _ _ (setField (.ref it) 0 .none >>= _) _ _ z;refine wpAny_bind (wpAny_setField gi di (by simp) (show wpAny _ _ (newExc (.type "StopIteration") [] >>= _) _ _ _ from wpAny_bind ?_));simp only[newExc,newTuple];refine wpAny_bind (wpAny_newObj_type (wpAny_bind (m:=firstArgMember _ _) (wpAny_of_eq (a:=Value.none) (by first | rfl | (simp only[firstArgMember]; rfl)) (wpAny_newObj_type ?_ (by size_fits)))) (by size_fits));simp only[raiseNew];refine wpAny_bind (wpAny_handled ?_);rw[show A.in1.handled=none from hh];refine wpAny_bind (wpAny_pure (wpAny_throw ?_));refine wpAny_bind (wpAny_isInstance (T := "StopIteration") (b:=true) ⟨_,Heap.get?_push_size _ rfl,rfl⟩ isSubtype_stop ?_);exact wpAny_pure (hR _ (((Heap.SameBut.update ..).extBut.push _).push _))
theorem zPr(hh:A.handled=none)(hne:a≠it):Walks prog w A it [it,a] [it] rows.size (λi v=>∃ h:i<rows.size,v=rows[i].key) (λi h=>h.IsKeyIter it a i rows.size age/\zP5 h a rows age) where
 sub:=λb hb=>by simp at hb; simp[hb]
 frame:=λ_ _ _ st hk=>⟨st.1.at λo e=>hk it (by simp) o e,st.2.at λo e=>hk a (by simp) o e⟩
 item:=λi s Q E hi st hQ=>zRd st.1 st.2 hi λh' ki' hs' =>
  hQ _ h' s.toks ⟨hi,rfl⟩ ⟨ki',st.2.at λo e=>hs'.extBut a o hne e⟩ λb o hb e=>hs'.extBut b o (λh=>hb (by simp[h])) e
 done:=λs Q E st hQ=>zTc hh st.1 st.2 (Nat.le_refl _) λh' he'=>hQ h' s.toks λb o hb e=>he' b o (λh=>hb (by simp[h])) e
 self:=λ_ _ _ _ st hQ=>wpAny_pyIter_keyiter st.1 hQ
theorem zUx(hs:(a == sysModules)=false):PySem.W.KdlSrc prog w "dict" a a rows.size (λi v=>∃ h:i<rows.size,v=rows[i].key) (λh=>zP5 h a rows age) where
 type:=λ_ x=>x.typeIs
 there:=λ_ x=>let ⟨_,g,_⟩:=x;⟨Heap.lt_size g,Heap.lt_size g⟩
 keep:=λ_ _ x hk=>x.at λo e=>hk a (.inl rfl) o e
 notList:=by decide
 notTuple:=by decide
 hint:=λ_ _ _ _ x hq=>PySem.W.kdl_hint_dict x.typeIs hq
 iter:=λ_ s hh x=>⟨_,_,(λ_ _ hq=>zRf hs x hq),zPr hh (let ⟨_,g,_⟩:=x; Nat.ne_of_lt (Heap.lt_size g)),⟨⟨_,Heap.get?_push_size _ rfl,rfl,rfl⟩,x.at λo e=>Heap.get?_push_of_some _ e⟩⟩
end
end L2

namespace Sea
open PySem L2
abbrev Sd:=Addr×Int×Int×Int
abbrev zWk(ss:List Sd):List V:=(ss.map (·.1)).map V.ref
def SdOk(H:Hp)(ss:List Sd):Prop:=∀ t∈ss,H t.1=some (.tup [.int t.2.1,.int t.2.2.1,.int t.2.2.2])/\(t.2.1≠0\/t.2.2.1≠0)/\t.2.1.natAbs<=10^9/\t.2.2.1.natAbs<=10^9/\t.2.2.2.natAbs<=10^13
def zUl(ss:List Sd)(x y:Int):Bool:=ss.all λt=>decide (t.2.1*x+t.2.2.1*y<=0)
def WK(ss:List Sd)(n:Nat)(k:List Int):Prop:=∃ j t,j<n/\ss[j]?=some t/\((k=zM6 [-t.2.2.1,t.2.1]/\zUl ss (-t.2.2.1) t.2.1=true)\/(k=zM6 [t.2.2.1,-t.2.1]/\zUl ss t.2.2.1 (-t.2.1)=true))
theorem zQo{ss:List Sd}{x y g:Int}(hg:0<g):zUl ss (x*g) (y*g)=zUl ss x y:=by
 unfold zUl
 congr 1
 funext t
 refine decide_eq_decide.mpr ?_;have e:t.2.1*(x*g)+t.2.2.1*(y*g)=(t.2.1*x+t.2.2.1*y)*g:=by rw[Int.add_mul,Int.mul_assoc,Int.mul_assoc]
 rw[e];constructor
 ·intro h;by_cases c:t.2.1*x+t.2.2.1*y<=0
  ·exact c
  ·have:=Int.mul_pos (show 0<t.2.1*x+t.2.2.1*y by lia) hg;lia
 ·intro h;have:=Int.mul_nonneg (show 0<=-(t.2.1*x+t.2.2.1*y) by lia) (Int.le_of_lt hg);rw[Int.neg_mul] at this;lia
theorem way_low{ss:List Sd}{x y:Int}(gp:0<rH [x,y]):zUl ss (x/(rH [x,y]:Int)) (y/(rH [x,y]:Int))=zUl ss x y:=by
 have gI:(0:Int)<(rH [x,y]:Int):=by lia
 have e1:=rM (ns:=[x,y]) (n:=x) (by simp);have e2:=rM (ns:=[x,y]) (n:=y) (by simp);have z:=zQo (ss:=ss) (x:=x/(rH [x,y]:Int)) (y:=y/(rH [x,y]:Int)) gI;rw[e1,e2] at z;exact z.symm
def keyI(ns:List Int):List Key:=ns.map Sum.inl
structure TabK(kvs:List (List Key×V))(ks:List (List Int)):Prop where
 keys:kvs.map (·.1)=ks.map keyI
 nodup:ks.Nodup
structure WaysAt(H:Hp)(l:Addr)(ss:List Sd)(us:List (Addr×List Int)):Prop where
 at':H l=some (.lst ((us.map (·.1)).map V.ref))
 all:∀ u∈us,H u.1=some (.tup (u.2.map V.int))
 rises:(us.map (·.2)).Pairwise (λa b=>HT.lexLt b a=false)
 nodup:(us.map (·.2)).Nodup
 mem:∀ k,k∈us.map (·.2)↔WK ss ss.length k
 few:us.length<=80
structure SdSt(H0:Hp)(D:Addr)(ss:List Sd)(H:Hp):Prop where
 same:Same H0 H
 new:H0 D=none
 at':H D=some (.lst (zWk ss))
 all:SdOk H ss
end Sea

namespace Sea
open PySem L2
theorem zFh{i j:Int}(h:i.natAbs<=10^18):zVc i j:=.inl ⟨by lia,by lia⟩
abbrev P3:=Int×Int×Int
def sv(t p:P3):Int:=t.1*p.1+t.2.1*p.2.1-t.2.2*p.2.2
def tn(e s:P3):Int:=e.1*s.2.1-e.2.1*s.1
structure IsSpot(l:List Int)(p:P3):Prop where
 list:l=[p.1,p.2.1,p.2.2]
 pos:0<p.2.2
 low:Nat.gcd (Nat.gcd p.1.natAbs p.2.1.natAbs) p.2.2.natAbs=1
def inW(ss:List Sd)(p:P3):Prop:=∀ t∈ss,sv t.2 p<=0
end Sea

namespace Sea
open PySem L2
end Sea

namespace L2
open PySem PySem.Spec PyProof.Rows PySem.W
section
variable{X:Cx}
theorem zHy:wO X (.builtin "sorted") (λxs H Q=>∃(l:Addr)(ns:List Int),xs=[.ref l]/\SqL X.K H l (ns.map V.int)/\ns.length<64 /\
  ∀(p:Addr)(ms:List Int),H p=none->ms.Perm ns->ms.Pairwise (·<=·)->Q (.ref p) (upd H p (.lst (ms.map V.int)))):=by
 intro pins s σ H xs us Q I r h;obtain⟨l,ns,rfl,hq,h64,q⟩:=h;obtain⟨u,rfl,ru⟩:=yS.one r;cases ru;obtain⟨its,rv,pl,hz⟩:=I.list hq;have hn:=rv.length;rw[List.length_map] at hn;refine sorted_ints (ns:=ns) pl.isList (zMt rv) (by lia) λout ms a1 a2 a3=>?_;obtain⟨e,at'⟩:=sortedAll_at s.heap its out;have fr:H (s.heap.objs.size+1)=none:=I.hok.fresh (Nat.le_succ _);refine⟨.ref (s.heap.objs.size+1),_,I.laid (t':=s.toks) (a:=s.heap.objs.size+1) (o:=.lst (ms.map V.int)) (λb ob q=>sortedAll_old q) (Nat.le_succ _) ?_,rfl,q _ ms fr a2 a3⟩;refine⟨?_,out.toList,e,zEd a1,by simpa using at'⟩;rw[List.length_map,a2.length_eq];exact Nat.le_trans (Nat.le_of_lt h64) (by rw[sizeLine_eq]; decide)
end
def PrAt(H:Hp)(cs:List Pr):Prop:=∀ t∈cs,H t.1=some (.tup [.int t.2.1,.int t.2.2])
end L2

namespace Sea
open PySem L2
def dt(s g:P3):Int:=s.1*g.1+s.2.1*g.2.1
structure Bound(ss:List Sd)(g:P3):Prop where
 nz:∀ t∈ss,t.2.1≠0\/t.2.2.1≠0
 gz:g.1≠0\/g.2.1≠0
 ways:∀ t∈ss,∀ h:Int,(h=1\/h = -1)->(∀ s∈ss,tn t.2 s.2*h<=0)->tn t.2 g*h<=0
 lead:¬ ∀ s∈ss,dt s.2 g<=0
 one:∀ t∈ss,tn t.2 g=0->0<dt t.2 g->∀ P:P3,0<P.2.2->sv t.2 P=0->¬ inW ss P
end Sea

namespace L2
open PySem PySem.Spec PyProof.Rows PySem.W
theorem cut4{ok:Addr->Int->Int->Hp->Prop}{G:Prop}{R:Addr->Int->Int->Hp->Prop}(h1:(∀ p x y G,ok p x y G->R p x y G)->G)(h2:∀ p x y G,ok p x y G->R p x y G):G:=h1 h2
end L2

namespace L2
open PySem PySem.Spec PyProof.Rows

theorem uB{x:Str} : ∀(names:List (Str×NameKind))(n:Nat)(acc:List (Str×Addr)),((x,NameKind.cell)∈names\/∃ c,acc.lookup x=some c)->∃ c,(cellsFrom n names acc).lookup x=some c
 | [],_,_,h=>h.elim (λz=>nomatch z) id
 | (y,k)::r,n,acc,h=>by
  unfold cellsFrom;by_cases hk:(k == NameKind.cell)=true
  ·rw[if_pos hk];refine uB r (n+1) ((y,n)::acc) ?_;cases hx:x == y with
   | true=>exact .inr ⟨n,by rw[List.lookup_cons,hx]⟩
   | false =>
    rcases h with h | ⟨c,h⟩
    ·rcases List.mem_cons.mp h with e | e
     ·injection e with e1 _
      subst e1;simp at hx
     ·exact .inl e
    ·exact .inr ⟨c,by rw[List.lookup_cons,hx]; exact h⟩
  ·rw[if_neg hk];refine uB r n acc ?_;rcases h with h | h
   ·rcases List.mem_cons.mp h with e | e
    ·injection e with _ e2
     subst e2;exact absurd rfl hk
    ·exact .inl e
   ·exact .inr h
theorem vI:∀(names:List (Str×NameKind))(h:Heap)(acc:List (Str×Addr))(x:Str)(c:Addr),(cellsFrom h.objs.size names acc).lookup x=some c ->
  (h.objs.size<=c/\(pushCells h names).IsCell c none/\(x,NameKind.cell)∈names)\/acc.lookup x=some c
 | [],_,_,_,_,e=>.inr e
 | (y,k)::r,h,acc,x,c,e=>by
  unfold cellsFrom at e;unfold pushCells;by_cases hk:(k == NameKind.cell)=true
  ·rw[if_pos hk] at e;rw[if_pos hk];have sz:(h.push { cls:=.type "cell", data:=.cell none }).objs.size=h.objs.size+1:=Heap.size_push ..;rcases vI r (h.push { cls:=.type "cell", data:=.cell none }) ((y,h.objs.size)::acc) x c (by rw[sz]; exact e) with ⟨a,b,m⟩ | e'
   ·exact .inl ⟨by rw[sz] at a; exact Nat.le_of_succ_le a,b,List.mem_cons_of_mem _ m⟩
   ·rw[List.lookup_cons] at e';cases hx:x == y with
    | true =>
     rw[hx] at e';have ec:h.objs.size=c:=Option.some.inj e';have ex:x=y:=by simpa using hx
     have ek:k=NameKind.cell:=by simpa using hk
     subst ec ex ek;exact .inl ⟨Nat.le_refl _,⟨_,pushCells_keeps r _ _ _ (Heap.get?_push_size _ rfl),rfl⟩,List.mem_cons_self⟩
    | false =>
     rw[hx] at e';exact .inr e'
  ·rw[if_neg hk] at e;rw[if_neg hk];rcases vI r h acc x c e with ⟨a,b,m⟩ | e'
   ·exact .inl ⟨a,b,List.mem_cons_of_mem _ m⟩
   ·exact .inr e'
theorem rD:∀(names:List (Str×NameKind))(n:Nat)(acc:List (Str×Addr)),(∀ x y c,acc.lookup x=some c->acc.lookup y=some c->x=y)->(∀ x c,acc.lookup x=some c->c<n) ->
  ∀ x y c,(cellsFrom n names acc).lookup x=some c->(cellsFrom n names acc).lookup y=some c->x=y
 | [],_,_,hi,_=>hi
 | (z,k)::r,n,acc,hi,hl=>by
  unfold cellsFrom;by_cases hk:(k == NameKind.cell)=true
  ·rw[if_pos hk];refine rD r (n+1) ((z,n)::acc) (λx y c e1 e2=>?_) λx c e=>?_
   ·rw[List.lookup_cons] at e1 e2;cases hx:x == z with
    | true =>
     rw[hx] at e1;cases hy:y == z with
     | true=>rw[show x=z by simpa using hx,show y=z by simpa using hy]
     | false =>
      rw[hy] at e2;have:=hl y c e2;rw[<- Option.some.inj e1] at this;exact absurd this (Nat.lt_irrefl _)
    | false =>
     rw[hx] at e1;cases hy:y == z with
     | true =>
      rw[hy] at e2;have:=hl x c e1;rw[<- Option.some.inj e2] at this;exact absurd this (Nat.lt_irrefl _)
     | false =>
      rw[hy] at e2;exact hi x y c e1 e2
   ·rw[List.lookup_cons] at e;cases hx:x == z with
    | true=>rw[hx] at e; rw[<- Option.some.inj e]; exact Nat.lt_succ_self _
    | false=>rw[hx] at e; exact Nat.lt_succ_of_lt (hl x c e)
  ·rw[if_neg hk];exact rD r n acc hi hl
theorem zEx{env:Env} : ∀(names:List (Str×NameKind))(cs:List (Str×Addr))(x:Str)(c:Addr),(vZ env names cs).lookup x=some c->(x,NameKind.free)∈names\/cs.lookup x=some c
 | [],_,_,_,e=>.inr e
 | (y,k)::r,cs,x,c,e=>by
  unfold vZ at e;by_cases hk:(k == NameKind.free)=true
  ·rw[if_pos hk] at e;rcases zEx r _ x c e with m | e'
   ·exact .inl (List.mem_cons_of_mem _ m)
   ·rw[List.lookup_cons] at e';cases hx:x == y with
    | true =>
     have ex:x=y:=by simpa using hx
     have ek:k=NameKind.free:=by simpa using hk
     subst ex ek;exact .inl List.mem_cons_self
    | false=>rw[hx] at e'; exact .inr e'
  ·rw[if_neg hk] at e;rcases zEx r _ x c e with m | e'
   ·exact .inl (List.mem_cons_of_mem _ m)
   ·exact .inr e'
theorem qU{env:Env} : ∀{names:List (Str×NameKind)}{x:Str}{j:NameKind},(j=.cell\/j=.free) ->
  (names.map λ(n,k)=>if (k == NameKind.free&&env.scope.kind == .function&&env.kindOf n == some .cell) then(n,NameKind.cell) else(n,k)).lookup x=some j->(x,NameKind.free)∈names\/(x,NameKind.cell)∈names
 | [],_,_,_,h=>by simp at h
 | (n,k)::r,x,j,hj,h=>by
  have ih:=@qU env r x j hj
  replace h:List.lookup x ((if (k == NameKind.free&&env.scope.kind == .function&&env.kindOf n == some .cell)=true then(n,NameKind.cell) else(n,k))::(r.map λ(n,k)=>if (k == NameKind.free&&env.scope.kind == .function&&env.kindOf n == some .cell) then(n,NameKind.cell) else(n,k)))=some j:=h
  have more:(x,NameKind.free)∈r\/(x,NameKind.cell)∈r->(x,NameKind.free)∈(n,k)::r\/(x,NameKind.cell)∈(n,k)::r:=λz=>z.imp (List.mem_cons_of_mem _) (List.mem_cons_of_mem _);by_cases hc:(k == NameKind.free&&env.scope.kind == .function&&env.kindOf n == some .cell)=true
  ·rw[if_pos hc] at h;have hf:k=.free:=by
    simp only[Bool.and_eq_true] at hc;simpa using hc.1.1
   cases hx:x == n with
   | true =>
    have ex:x=n:=by simpa using hx
    subst ex hf;exact .inl List.mem_cons_self
   | false =>
    rw[List.lookup_cons,hx] at h;exact more (ih h)
  ·rw[if_neg hc] at h;cases hx:x == n with
   | true =>
    rw[List.lookup_cons,hx] at h;have ex:x=n:=by simpa using hx
    have ek:k=j:=Option.some.inj h;subst ex ek;rcases hj with hj | hj
    ·rw[hj]; exact .inr List.mem_cons_self
    ·rw[hj]; exact .inl List.mem_cons_self
   | false =>
    rw[List.lookup_cons,hx] at h;exact more (ih h)
theorem zJz{M:Model}{A:Around}{E:Value->Shared->Prop}{s:Shared}{scope:Scope}{globals:Addr}{cl:List (Str×Addr)}{qual:Str}{env:Env}{Q:Env->Shared->Prop}
  (hQ:Q (newEnv scope s.heap.objs.size globals (cellsFrom (s.heap.objs.size+1) scope.names cl) qual none .none (some env) builtinsNs) { s with heap:=pushCells (s.heap.push { cls:=.type "dict", data:=.dict #[] }) scope.names }) :
  wpAny M A (newFunctionEnv scope globals cl [] qual none .none (some env)) Q E s:=by
 simp only[newFunctionEnv,Option.isSome_some,if_true];refine wpAny_bind (wpAny_alloc ?_);refine wpAny_bind (wpAny_layCells _ (λname kind cells=>by cases hkc:kind == NameKind.cell <;> simp[hkc]) _ _ _ _ ?_);rw[show({ s with heap:=s.heap.push { cls:=.type "dict", data:=.dict #[] } } : Shared).heap.objs.size=s.heap.objs.size+1 from Heap.size_push ..];rw[List.forIn_nil];exact wpAny_bind (wpAny_pure (wpAny_pure hQ))

def zDy(scope:Scope)(x:Str):Bool:=scope.names.any λy=>y.1 == x&&y.2 == .cell
theorem zKb{scope:Scope}{x:Str}(h:zDy scope x=true):(x,NameKind.cell)∈scope.names:=by
 obtain⟨⟨n,k⟩,hm,hb⟩:=List.any_eq_true.mp h;simp only[Bool.and_eq_true,beq_iff_eq] at hb;obtain⟨e1,e2⟩:=hb;subst e1 e2;exact hm
def zB2(X:Cx)(N:List Str)(scope:Scope)(c:CC):Cx where
 prog:=X.prog
 w:=X.w
 K:=X.K
 mg:=X.mg
 base:=X.base
 A:=X.A
 N:=N
 s₀:=c.s
 H₀:=c.H
 env:=compEnvC scope (cellsFrom (c.C+1) scope.names (vZ X.env scope.names [])) c.C X.env
 outer:=X.stack
 stack:=X.stack
 ex:=c.fp
 fn:=zDy scope
 calm:=X.calm
 pn:=[]
 xe:=λ_ _=>False
structure sZ(X:Cx)(caps:List (Str×Nat))(scope:Scope):Prop where
 kind:scope.kind=.function
 dis:(scope.names.all λx=>!(x.2 == .free) || !zDy scope x.1)=true
 loc:∀ y∈scope.names,y.2=.local->scope.names.lookup y.1=some .local
 clos:(scope.names.all λx=>!(x.2 == .free)||(X.env.cells.lookup x.1).isSome)=true
 cap:zF6 X scope caps
theorem sZ.cells{X:Cx}{caps:List (Str×Nat)}{scope:Scope}(S:sZ X caps scope):∀ x∈scope.names,x.2=.free->∃ c,X.env.cells.lookup x.1=some c:=λx hx hf=>by
 have h:=List.all_eq_true.mp S.clos x hx;rw[hf] at h;simp only[Bool.or_eq_true] at h;rcases h with h | h
 ·exact absurd h (by decide)
 ·exact Option.isSome_iff_exists.mp h
theorem sZ.apart{X:Cx}{caps:List (Str×Nat)}{scope:Scope}(S:sZ X caps scope){x:Str}(hf:(x,NameKind.free)∈scope.names)(hc:(x,NameKind.cell)∈scope.names):False:=by
 have h:=List.all_eq_true.mp S.dis _ hf;have h2:zDy scope x=true:=List.any_eq_true.mpr ⟨_,hc,by simp⟩;rw[h2] at h;exact Bool.false_ne_true h

section
variable{X:Cx}{T:List Str}{caps:List (Str×Nat)}{scope:Scope}{elt target iter:Expr}{ifs:List Expr}{pos cpos:Pos}{wi:TI}{g:CC->TG}{tt:CC->TT}{te:CC->TE}

theorem zNf{pins:List (Addr×Obj)}{σ:St}{H2:Hp}{s2:Shared}{fp:List Addr}{D:Addr}{G:Heap}{tk:Nat}{m:Str->Option Value}(S:sZ X caps scope)(I2:Inv X pins σ H2 s2)(f2:∀ b∈fp,zM7 X pins H2 b)
  (hfp:∀ b∈fp,b<s2.heap.objs.size) (hD:s2.heap.objs.size<=D) (hC:s2.heap.objs.size<=G.objs.size) (hDC:D<G.objs.size) (old:∀ b o,s2.heap.get? b=some o->(pushCells (G.push { cls:=.type "dict", data:=.dict #[] }) scope.names).get? b=some o)
  (acc:∃ n,(pushCells (G.push { cls:=.type "dict", data:=.dict #[] }) scope.names).get? D=some { cls:=.type "list", data:=.seq ([]:List Value).toArray n }) (hn:(pushCells (G.push { cls:=.type "dict", data:=.dict #[] }) scope.names).Ns G.objs.size m) :
  Inv (zB2 X (T++caps.map (·.1)) scope ⟨G.objs.size,s2,H2,fp⟩) [] (zD4 caps T.length σ) (upd H2 D (.lst [])) { s2 with heap:=pushCells (G.push { cls:=.type "dict", data:=.dict #[] }) scope.names,toks:=tk }:=by
 have cs:=tN (env:=X.env) scope.names [] S.cells (λ_ _ z=>by cases z);have sz:(G.push { cls:=.type "dict", data:=.dict #[] }).objs.size=G.objs.size+1:=Heap.size_push ..;have cellOld:∀ x c,X.env.cells.lookup x=some c->c<s2.heap.objs.size:=λx c e=>by
  obtain⟨v,q⟩:=I2.cell x c e;exact q.lt
 have both:∀ x c,(cellsFrom (G.objs.size+1) scope.names (vZ X.env scope.names [])).lookup x=some c ->
   (G.objs.size+1<=c/\(pushCells (G.push { cls:=.type "dict", data:=.dict #[] }) scope.names).IsCell c none/\(x,NameKind.cell)∈scope.names)\/X.env.cells.lookup x=some c:=λx c e=>by
  rcases vI scope.names (G.push { cls:=.type "dict", data:=.dict #[] }) (vZ X.env scope.names []) x c (by rw[sz]; exact e) with z | z
  ·rw[sz] at z; exact .inl z
  ·exact .inr (cs x c z)
 have stkNo:∀ b∈fp,b ∉ frs X.stack:=λb hb z=>by
  rcases List.mem_cons.mp (I2.stkSub b z) with e | e
  ·exact(f2 b hb).2.1 e
  ·exact(f2 b hb).2.2.1 e
 have fr:H2 D=none:=I2.hok.fresh hD;refine⟨⟨I2.ok.mod,S.kind,I2.ok.glob,I2.ok.blt,hC,rD scope.names _ _ (λx y c e1 e2=>I2.ok.inj x y c (cs x c e1) (cs y c e2)) (λx c e=>Nat.lt_succ_of_lt (Nat.lt_of_lt_of_le (cellOld x c (cs x c e)) hC)),λx hx=>?_,λx c hf e=>?_,I2.ok.hd,I2.ok.frames,.inl rfl,λb hb=>⟨?_,λx c e=>?_⟩,
  λb o e=>I2.bs b o e,Nat.le_trans I2.ok.bsz I2.sz,λb o e hb=>?_,stkNo,I2.stack,I2.stkFree⟩,rfl,I2.bare,?_,⟨m,hn,λi x v e1 e2 e3=>?_⟩,λx c e=>?_,?_,λx c e=>?_,λp hp=>absurd (show p∈([]:List (Addr×Obj)) from hp) (by simp),?_,?_⟩
 ·have hx':(x,NameKind.free)∈scope.names\/(x,NameKind.cell)∈scope.names:=by
   rcases hx with z | z
   ·exact qU (.inl rfl) z
   ·exact qU (.inr rfl) z
  rcases hx' with z | z
  ·exact uB scope.names _ _ (.inr (qO scope.names [] x (.inl z)))
  ·exact uB scope.names _ _ (.inl z)
 ·have hm:=zKb (show zDy scope x=true from hf);rcases vI scope.names (G.push { cls:=.type "dict", data:=.dict #[] }) (vZ X.env scope.names []) x c (by rw[sz]; exact e) with ⟨a,_,_⟩ | z
  ·rw[sz] at a;exact Nat.le_trans hC (Nat.le_of_succ_le a)
  ·rcases zEx scope.names [] x c z with q | q
   ·exact(S.apart q hm).elim
   ·cases q
 ·exact Nat.ne_of_lt (Nat.lt_of_lt_of_le (hfp b hb) hC)
 ·rcases both x c e with ⟨a,_,_⟩ | z
  ·exact Nat.ne_of_gt (Nat.lt_of_lt_of_le (hfp b hb) (Nat.le_trans hC (Nat.le_of_succ_le a)))
  ·exact(f2 b hb).2.2.2.2.1 x c z
 ·rcases (f2 b hb).2.2.2.1 with z | z
  ·exact I2.ok.noex b o e z
  ·exact absurd (Nat.lt_of_lt_of_le (Heap.lt_size (show X.base.get? b=some o from e)) (Nat.le_trans I2.ok.bsz z)) (Nat.lt_irrefl _)
 ·exact Un.laid old hD fr
 ·have hlt:¬ i<T.length:=λhi=>by
   unfold zD4 at e2;rw[List.getElem?_append_left (by simpa using hi),List.getElem?_replicate,if_pos hi] at e2;cases e2
  have hge:T.length<=i:=Nat.le_of_not_lt hlt;have e1':(T++caps.map (·.1))[i]?=some x:=e1;rw[List.getElem?_append_right hge,List.getElem?_map] at e1';unfold zD4 at e2;rw[List.getElem?_append_right (by simpa using hge),List.length_replicate,List.getElem?_map] at e2;cases hp:caps[i-T.length]? with
  | none=>rw[hp] at e1'; cases e1'
  | some p =>
   rw[hp] at e1' e2;have ex:p.1=x:=Option.some.inj e1';have ev:(σ[p.2]?).join=some v:=Option.some.inj e2;obtain⟨hN,hf,hk⟩:=S.cap.mem p (List.mem_of_getElem? hp);have ev':σ[p.2]?=some (some v):=by
    cases hq:σ[p.2]? with
    | none=>rw[hq] at ev; cases ev
    | some o =>
     rw[hq] at ev;exact congrArg some ev
   obtain⟨m2,_,hl2⟩:=I2.loc;obtain⟨u,ru,l⟩:=hl2 p.2 p.1 v hN ev' (hk.elim (λz=>.inr (.inl z)) λz=>.inr (.inr z));refine⟨u,ru,.inr ⟨?_,?_⟩⟩
   ·rw[<- ex];exact qQ (env:=X.env) hf
   ·rcases l with ⟨kl,_⟩ | ⟨_,c,ec,hcell⟩
    ·rcases hk with z | z <;>(rw[kl] at z; cases z)
    ·have hfm:=PySem.mem_of_lookup hf;obtain⟨d,hd⟩:=uB (x:=p.1) scope.names (G.objs.size+1) _ (.inr (qO (env:=X.env) scope.names [] p.1 (.inl hfm)));rcases vI scope.names (G.push { cls:=.type "dict", data:=.dict #[] }) (vZ X.env scope.names []) p.1 d (by rw[sz]; exact hd) with ⟨_,_,z⟩ | z
     ·exact(S.apart hfm z).elim
     ·have hd':=cs p.1 d z;rw[ec] at hd';cases hd';obtain⟨o,ho,hod⟩:=hcell;exact⟨c,by rw[<- ex]; exact hd,o,old c o ho,hod⟩
 ·rcases both x c e with ⟨_,z,_⟩ | z
  ·exact⟨none,z⟩
  ·obtain⟨v,o,ho,hd⟩:=I2.cell x c z;exact⟨v,o,old c o ho,hd⟩
 ·show upd H2 D (.lst []) G.objs.size=none;rw[zD (Nat.ne_of_gt hDC)];exact I2.hok.fresh hC
 ·show upd H2 D (.lst []) c=none;rcases both x c e with ⟨a,_,_⟩ | z
  ·rw[zD (Nat.ne_of_gt (Nat.lt_trans hDC a))];exact I2.hok.fresh (Nat.le_trans hC (Nat.le_of_succ_le a))
  ·rw[zD (Nat.ne_of_lt (Nat.lt_of_lt_of_le (cellOld x c z) hD))];exact I2.freeC x c z
 ·obtain⟨n,e⟩:=acc;exact I2.hok.laid old hD ⟨Nat.zero_le _,[],n,.nil,e⟩
 ·show(zD4 caps T.length σ).length=(T++caps.map (·.1)).length;unfold zD4;rw[List.length_append,List.length_append,List.length_map,List.length_map,List.length_replicate]
theorem zTy(S:sZ X caps scope)(hc:X.calm=true)(hi:PI X target iter wi)(hg:∀ c,PG (zB2 X (T++caps.map (·.1)) scope c) target (g c))(ht:∀ c,zTi (zB2 X (T++caps.map (·.1)) scope c) ifs (tt c))(he:∀ c,PE (zB2 X (T++caps.map (·.1)) scope c) elt (te c))
  {use:Option (Value->Sem Unit)} {Qv:Value->Shared->Prop} {pins:List (Addr×Obj)} {s:Shared} {σ:St} {H:Hp} {Q:VK} (I:Inv X pins σ H s) (h:zPp T.length caps wi g tt te σ H Q)
  (hfin:∀(D C:Addr)(s4:Shared)(H3:Hp),Inv X pins σ H3 s4->Q (.ref D) H3->∀ m,s4.heap.Ns C m->H3 C=none->C≠X.env.locals->X.s₀.heap.objs.size<=C->(∀ x c,X.env.cells.lookup x=some c->c≠C)->(∀ p∈X.pn++pins,p.1≠C)->compPost (model X.prog X.w) X.A X.xe use Qv (.ref D) C (.ok .next) s4)
  (hs:∀ x,foldedSetIterable iter X.env x=pure x:=by intro _; rfl) :
  wpAny (model X.prog X.w) X.A (comprehension (.ListComp elt [⟨target,iter,ifs,0⟩] scope pos) scope X.env cpos (newList []) false (eval iter X.env) use) Qv X.xe s:=by
 refine wpAny_comprehension_free (use:=use) rfl hs (zKn S.cells) S.kind S.loc (thn (hi pins s σ H _ I h) λv s1 h1=>thn h1 λitv s2 h2=>?_);obtain⟨it,fp,tn,J,H2,e,I2,TT,st2,f2,q2⟩:=h2;subst e;refine wpAny_newObj_type (zJz ?_);dsimp only;generalize hg2:s2.heap.push { cls:=.type "list", dict:=none,data:=.seq ([]:List Value).toArray }=G;have hCv:G.objs.size=s2.heap.objs.size+1:=by rw[<- hg2,Heap.size_push]
 have hDC:s2.heap.objs.size<G.objs.size:=by rw[hCv]; exact Nat.lt_succ_self _
 have hCle:s2.heap.objs.size<=G.objs.size:=Nat.le_of_lt hDC;have hn:(pushCells (G.push { cls:=.type "dict", data:=.dict #[] }) scope.names).Ns G.objs.size (λ_=>none):=(Heap.Ns.new G (.type "dict")).keeps (pushCells_keeps _ _);have old:∀ b o,s2.heap.get? b=some o->(pushCells (G.push { cls:=.type "dict", data:=.dict #[] }) scope.names).get? b=some o:=λb o e=>pushCells_keeps _ _ b o (Heap.get?_push_of_some _ (hg2 ▸ Heap.get?_push_of_some _ e));have hacc:∃ n,(pushCells (G.push { cls:=.type "dict", data:=.dict #[] }) scope.names).get? s2.heap.objs.size=some { cls:=.type "list", data:=.seq ([]:List Value).toArray n }:=⟨_,pushCells_keeps _ _ _ _ (Heap.get?_push_of_some _ (hg2 ▸ Heap.get?_push_size _ rfl))⟩;have hfp:∀ b∈fp,b<s2.heap.objs.size:=λb hb=>by
  obtain⟨o,e,_⟩:=TT.obj _ _ st2 b hb;exact Heap.lt_size e
 have I0:=zNf (T:=T) (tk:=s2.toks) S I2 f2 hfp (Nat.le_refl _) hCle hDC old hacc hn;have st0:tn 0 (pushCells (G.push { cls:=.type "dict", data:=.dict #[] }) scope.names):=TT.keep _ _ _ st2 λb _ o e=>old b o e;obtain⟨W,⟨m0,w0⟩,turn⟩:=q2 ⟨G.objs.size,s2,H2,fp⟩ s2.heap.objs.size (I2.hok.fresh (Nat.le_refl _));have fr0:∀ b∈fp,upd H2 s2.heap.objs.size (.lst []) b=none:=λb hb=>by
  rw[zD (Nat.ne_of_lt (hfp b hb))];exact(f2 b hb).1
 have stat:∀{H':Hp},(∀ b∈fp,H' b=none)->∀ b∈fp,zM7 (zB2 X (T++caps.map (·.1)) scope ⟨G.objs.size,s2,H2,fp⟩) [] H' b:=λ{H'} hn' b hb =>
  ⟨hn' b hb,Nat.ne_of_lt (Nat.lt_of_lt_of_le (hfp b hb) hCle),I0.ok.exfs b hb,.inl hb,(I0.ok.exf b hb).2,λp hp=>absurd (show p∈([]:List (Addr×Obj)) from hp) (by simp)⟩
 have loop:codeAny (model X.prog X.w) X.A (.compLoop (.ListComp elt [⟨target,iter,ifs,0⟩] scope pos) 0 (.ref it) (.ref s2.heap.objs.size) (compEnvC scope (cellsFrom (G.objs.size+1) scope.names (vZ X.env scope.names [])) G.objs.size X.env))
   (compPost (model X.prog X.w) X.A X.xe use Qv (.ref s2.heap.objs.size) G.objs.size) { s2 with heap:=pushCells (G.push { cls:=.type "dict", data:=.dict #[] }) scope.names,toks:=s2.toks }:=by
  refine codeAny_loop rfl (λn s'=>∃ i σ' ys H',Inv (zB2 X (T++caps.map (·.1)) scope ⟨G.objs.size,s2,H2,fp⟩) [] σ' H' s'/\tn i s'.heap/\(∀ b∈fp,H' b=none)/\W i n σ' ys H') (λn s3 hI=>?_) m0 ⟨0,_,[],_,I0,st0,fr0,w0⟩;obtain⟨i,σ3,ys,H3,I3,st3,fr3,w3⟩:=hI;show wpAny _ X.A ((compTurn (.ListComp elt [⟨target,iter,ifs,0⟩] scope pos) 0 (.ref it) (.ref s2.heap.objs.size) (compEnvC scope (cellsFrom (G.objs.size+1) scope.names (vZ X.env scope.names [])) G.objs.size X.env)).onRaise (λx=>do noteFrame x (compEnvC scope (cellsFrom (G.objs.size+1) scope.names (vZ X.env scope.names [])) G.objs.size X.env); theTreesLotGoes x)) _ _ s3;refine wpAny_noted ?_;rw[compTurn_list];refine wpAny_bind (wpAny_standAt (wpAny_bind ?_));obtain⟨hD3,turn3⟩:=turn i n σ3 ys H3 w3;rcases turn3 with ⟨stop,qn⟩ | ⟨go,N,hN,step⟩
  ·refine zFe (TT.done (zB2 X (T++caps.map (·.1)) scope ⟨G.objs.size,s2,H2,fp⟩) rfl rfl rfl hc i [] s3 σ3 H3 _ I3 (stat fr3) st3 stop) λr s4 ⟨hr,I4⟩=>?_;subst hr;refine wpAny_pure ?_;obtain⟨m4,hn4,_⟩:=I4.loc;have J4:Inv X pins σ H3 s4:=by
    refine I2.call' (s':=s4) (ch:=fp) I4.os I4.base I4.hok I4.bare λb hb=>?_;obtain⟨_,f1,_,f3,f4,f5⟩:=f2 b hb;exact⟨f3,f1,f4,f5⟩
   refine hfin _ G.objs.size s4 H3 J4 qn m4 hn4 I4.free (Nat.ne_of_gt (Nat.lt_of_lt_of_le I2.lt hCle)) (Nat.le_trans I2.sz hCle) (λx c e z=>?_) (λp hp z=>?_)
   ·obtain⟨v,qq⟩:=I2.cell x c e;exact absurd (Nat.lt_of_lt_of_le qq.lt (by rw[z]; exact hCle)) (Nat.lt_irrefl _)
   ·exact absurd (Nat.lt_of_lt_of_le (Heap.lt_size (I2.pin p hp).1) (by rw[z]; exact hCle)) (Nat.lt_irrefl _)
  ·refine zFe (TT.item (zB2 X (T++caps.map (·.1)) scope ⟨G.objs.size,s2,H2,fp⟩) rfl rfl rfl hc i [] s3 σ3 H3 _ I3 (stat fr3) st3 go) λr s4 ⟨u,hr,h4⟩=>?_;subst hr;refine wpAny_bind (zFe h4 λ_ s5 ⟨x,H5,I5,r5,y5,st5,fr5⟩=>?_);have I5':=I5.pinned (stat fr5) (TT.obj _ _ st5);refine wpAny_bind (zFe (hg _ _ s5 σ3 H5 x u _ I5' r5 (step x H5 y5)) λ_ s6 ⟨σ6,H6,I6,q6⟩=>?_);have again:∀{s7:Shared}{σ7:St}{zs:List V}{H7:Hp},Inv (zB2 X (T++caps.map (·.1)) scope ⟨G.objs.size,s2,H2,fp⟩) ([]++zE9 fp s5.heap) σ7 H7 s7->N σ7 zs H7 ->
     ∃ m,m<n/\∃ i σ' ys H',Inv (zB2 X (T++caps.map (·.1)) scope ⟨G.objs.size,s2,H2,fp⟩) [] σ' H' s7/\tn i s7.heap/\(∀ b∈fp,H' b=none)/\W i m σ' ys H':=λ{s7 σ7 zs H7} I7 n7=>by
    obtain⟨m',hm,w7⟩:=hN σ7 zs H7 n7;refine⟨m',hm,i+1,σ7,zs,H7,I7.unpinned,TT.keep _ _ _ st5 λb hb o e=>(I7.pin (b,o) (List.mem_append_right _ (List.mem_append_right _ (wL hb e)))).1,λb hb=>?_,w7⟩;obtain⟨o,e,d⟩:=TT.obj _ _ st5 b hb;exact(I7.pin (b,o) (List.mem_append_right _ (List.mem_append_right _ (wL hb e)))).2.1
   refine wpAny_bind (zFe (ht _ _ s6 σ6 H6 _ I6 q6) λok s7 ⟨H7,I7,q7⟩=>?_);cases ok with
   | false=>exact wpAny_pure ⟨rfl,again I7 q7⟩
   | true =>
    refine wpAny_bind (wpAny_bind (zFe (he _ _ s7 σ6 H7 _ I7 q7) λy s8 ⟨yv,H8,I8,r8,hD8,hl8,q8⟩=>?_));refine wpAny_bind (zFe (zAx _ s8 σ6 H8 (.ref s2.heap.objs.size) [yv] (.ref s2.heap.objs.size) [y] (λ_ H9=>N σ6 (ys++[yv]) H9) I8 rfl (.cons r8 .nil) ⟨_,ys,yv,rfl,rfl,hD8,hl8,q8⟩) λ_ s9 ⟨_,H9,I9,_,q9⟩=>?_);exact wpAny_pure (wpAny_pure ⟨rfl,again I9 q9⟩)
 exact codeAny_compStart_list loop (TT.self _ 0 _ _ _ st0 loop)
theorem zOn{i:Nat}{y:Str}{py spos:Pos}(hN:X.N.Nodup)(hy:X.N[i]?=some y)(hloc:X.env.scope.names.lookup y=some .local)(S:sZ X caps scope)(hc:X.calm=true)(hi:PI X target iter wi)(hg:∀ c,PG (zB2 X (T++caps.map (·.1)) scope c) target (g c))(ht:∀ c,zTi (zB2 X (T++caps.map (·.1)) scope c) ifs (tt c))(he:∀ c,PE (zB2 X (T++caps.map (·.1)) scope c) elt (te c))
  (hsw:swapsWith (.ListComp elt [⟨target,iter,ifs,0⟩] scope pos) (some (.Name y py)) spos.line X.env=pure true:=by rfl) (hs:∀ x,foldedSetIterable iter X.env x=pure x:=by intro _; rfl) :
  PS X (.Assign [.Name y py] (.ListComp elt [⟨target,iter,ifs,0⟩] scope pos) spos) (zUf (zPp T.length caps wi g tt te) (zJf i)):=by
 intro pins s σ H D I h;rw[exec_Assign_Name_used _ _ _ _ hsw];refine wpAny_bind (wpAny_standAt (wpAny_bind ?_));show wpAny _ X.A (do let _ <- comprehension (.ListComp elt [⟨target,iter,ifs,0⟩] scope pos) scope X.env _ (newList []) false (eval iter X.env) (some (assign (.Name y py) X.env))) _ _ s;refine wpAny_bind (wpAny_mono (zTy (Qv:=λ_ s'=>SP X pins D .next s') S hc hi hg ht he I h (λD' C s4 H3 J4 q4 m4 hn4 hC hL hS hcell hpin=>?_) hs) (λ_ s' hq=>wpAny_pure (wpAny_pure hq)) λ_ _ e=>e);show wpAny (model X.prog X.w) X.A (assign (.Name y py) X.env (.ref D')) (λ_ s''=>∃ m,s''.heap.Ns C m/\∀ h',Heap.SameBut C s''.heap h'->SP X pins D .next { s'' with heap:=h' }) X.xe s4;refine wpAny_assign_Name (zEt J4 hN hy (.inl hloc) (v:=.ref D') rfl (λs5 J5 hb=>?_) (.inr hloc));obtain⟨a,sb,ha⟩:=hb;have hCa:C≠a:=by
  rcases ha with z | z
  ·rw[z]; exact hL
  ·exact λe=>hcell y a z e.symm
 refine⟨m4,hn4.sameBut sb hCa,λh' sb'=>⟨_,H3,?_,q4⟩⟩;exact J5.turned (t':=s5.toks) (λb o hb e=>(sb'.2 b hb).trans e) hC hL (.inr hS) hcell hpin
def rEqE(K:PySem.W.Frag):R2:=λx y H Q=>∃(a b:Addr)(rs:List Addr),x=.ref a/\y=.ref b/\SqL K H a (rs.map V.ref)/\SqL K H b []/\Q (.bl rs.isEmpty) H
theorem zW3(hu:X.A.units<cLine):OpR X (compareOp .Eq) (rEqE X.K):=by
 intro pins s σ H x y v u Q I rx ry h;obtain⟨a,b,rs,rfl,rfl,h1,h2,q⟩:=h;cases rx;cases ry;obtain⟨us,r1,p1,_⟩:=I.list h1;obtain⟨ws,r2,p2,_⟩:=I.list h2;have e1:=zKv r1;have e2:=yS.zero r2;subst e1 e2;cases rs with
 | nil =>
  refine SeqAt.RcAt.lists (e:=λ_=>true) p1.isList p2.isList rfl hu (λj g _=>absurd g (by simp)) X.prog X.w _ _ ?_;exact⟨.bl true,H,I,rfl,q⟩
 | cons r rs =>
  refine SeqAt.RcAt.lists_lengths p1.isList p2.isList (by simp) hu X.prog X.w _ _ ?_;exact⟨.bl false,H,I,rfl,q⟩
end
end L2

namespace Sea
open PySem L2
def awB(N:Nat):List (Int×Int)->Int->Bool
 | [],_=>true
 | c::cs,least=>if least<=c.1/\c.1<N/\1<=c.2 then awB N cs (c.1+1) else false
def zW9(ss:List Sd)(f:Sd->Int)(n:Int):Int:=match ss[n.toNat]? with
 | some t=>f t
 | none=>0
def zT4(ss:List Sd)(f:Sd->Int):List (Int×Int)->Int->Int
 | [],T=>T
 | c::cs,T=>zT4 ss f cs (T+c.2*zW9 ss f c.1)
def fAt(k:Int)(t:Sd):Int:=if k=0 then t.2.1 else if k=1 then t.2.2.1 else t.2.2.2
structure PrSt(H0:Hp)(D:Addr)(cs:List Pr)(H:Hp):Prop where
 same:Same H0 H
 new:H0 D=none
 at':H D=some (.lst (zQ cs))
 all:PrAt H cs
end Sea

namespace L2
open PySem PySem.Spec PyProof.Rows
theorem zO9:bootBuiltins "sum" = some (.builtin "sum"):=by decide +kernel
theorem zGc(ns:List Int):∀ n,n<=ns.length->preSum (λi=>ns.getD i 0) n=(ns.take n).sum
 | 0,_=>by simp[preSum]
 | n+1,h=>by
  have hn:n<ns.length:=h;rw[preSum,zGc ns n (Nat.le_of_lt hn),List.take_succ,List.getElem?_eq_getElem hn,List.sum_append];simp[List.getD,List.getElem?_eq_getElem hn]
theorem zDv:∀{ns:List Int}{us:List Value},yS (ns.map V.int) us->∀(i:Nat)(v:Value),us[i]?=some v->∃ t,v=.int (ns.getD i 0) t
 | [],us,r,i,v,h=>by
  have e:=yS.zero r;subst e;simp at h
 | n::ns,us,r,i,v,h=>by
  cases r with
  | cons r1 r2 =>
   match i,h with
   | 0,h =>
    obtain⟨t,rfl⟩:=r1;exact⟨t,(Option.some.inj h).symm⟩
   | i+1,h=>exact zDv r2 i v h
section
variable{X:Cx}
theorem zEh(hc:X.calm=true):wO X (.builtin "sum") (λxs H Q=>∃(p:Addr)(ns:List Int),xs=[.ref p]/\SqL X.K H p (ns.map V.int)/\Q (.int ns.sum) H):=by
 intro pins s σ H xs us Q I r h;obtain⟨p,ns,rfl,hq,q⟩:=h;obtain⟨u,rfl,r1⟩:=zB1 r;cases r1;obtain⟨its,rv,pl,hz⟩:=I.list hq;have hL:s.heap.IsList p its.toArray:=pl.isList;have hlt:p<s.heap.objs.size:=by obtain⟨o,ho,_⟩:=hL; exact Heap.lt_size ho
 have nn:its.length=ns.length:=by
  have z:=rv.length;rw[List.length_map] at z;exact z.symm
 refine call_sum_walkG (wpAny_pyIter_list hL ?_);refine⟨_,[_,p],[_],_,_,_,λi=>ns.getD i 0,rfl,Walks.list (A:=X.A.in1) (I.ok.hd hc) _ p (Nat.ne_of_lt hlt) its.toArray,
  ⟨⟨_,Heap.get?_push_size _ rfl,rfl,rfl⟩,hL.push _⟩,λc hc=>?_,λi v hv=>zDv rv i v (by simpa using hv),λh' tk t' hk=>?_⟩
 ·have sz:(s.heap.push { cls:=.type "list_iterator", data:=.fields #[.ref p,.int 0 0] }).objs.size=s.heap.objs.size+1:=Heap.size_push ..;show c<(s.heap.push { cls:=.type "list_iterator", data:=.fields #[.ref p,.int 0 0] }).objs.size;rw[sz];simp only[List.mem_cons,List.not_mem_nil,or_false] at hc;rcases hc with e | e
  ·rw[e]; exact Nat.lt_succ_self _
  ·rw[e]; exact Nat.lt_succ_of_lt hlt
 ·refine⟨.int ns.sum,H,I.kept (t':=tk) λc o e=>hk c o (λhm=>?_) (Heap.get?_push_of_some _ e),⟨t',?_⟩,q⟩
  ·have e1:=List.mem_singleton.mp hm;have z:=Heap.lt_size e;rw[e1] at z;exact Nat.lt_irrefl _ z
  ·have e:its.toArray.size=ns.length:=by simp[nn]
   rw[e,zGc ns ns.length (Nat.le_refl _),List.take_length]
end
end L2

namespace Sea
open PySem L2
def zUz(n:Nat)(cs:List (Int×Int)):List (Int×Int):=cs.filter λc=>decide (c.1<(n:Int))
structure Apart(ss es:List Sd)(cs:List (Int×Int)):Prop where
 out:∀ v:P3,0<v.2.2->inW es v->zT4 ss (fAt 2) (zUz ss.length cs) 0*v.2.2<zT4 ss (fAt 0) (zUz ss.length cs) 0*v.1+zT4 ss (fAt 1) (zUz ss.length cs) 0*v.2.1
 ins:∀ v:P3,inW ss v->zT4 ss (fAt 0) (zUz ss.length cs) 0*v.1+zT4 ss (fAt 1) (zUz ss.length cs) 0*v.2.1<=zT4 ss (fAt 2) (zUz ss.length cs) 0*v.2.2
 few:(∃ z:P3,0<z.2.2/\inW ss z)->(zUz ss.length cs).length<=2
end Sea

namespace Sea
open PySem L2
structure PIb(t:TE)(σ:St)(i:Int)(n:Nat):Prop where
 rd:∀(H:Hp)(Q:VK),Q (.int i) H->t σ H Q
 le:i.natAbs<=n
section
variable{σ:St}{ta tb:TE}{i j:Int}{m n:Nat}
theorem PIb.var{k:Nat}(h:σ[k]?=some (some (.int i)))(hn:i.natAbs<=n):PIb (zRv k) σ i n:=⟨λ_ _ q=>⟨_,h,q⟩,hn⟩
theorem PIb.con(h:i.natAbs<=n):PIb (tC (.int i)) σ i n:=⟨λ_ _ q=>q,h⟩
theorem PIb.add(a:PIb ta σ i m)(b:PIb tb σ j n):PIb (tOp (rI0 λi j=>.int (i+j)) ta tb) σ (i+j) (m+n) :=
 ⟨λ_ _ q=>a.rd _ _ (b.rd _ _ ⟨i,j,rfl,rfl,q⟩),Nat.le_trans (Int.natAbs_add_le ..) (Nat.add_le_add a.le b.le)⟩
theorem PIb.sub(a:PIb ta σ i m)(b:PIb tb σ j n):PIb (tOp (rI0 λi j=>.int (i-j)) ta tb) σ (i-j) (m+n) :=
 ⟨λ_ _ q=>a.rd _ _ (b.rd _ _ ⟨i,j,rfl,rfl,q⟩),Nat.le_trans (Int.natAbs_sub_le ..) (Nat.add_le_add a.le b.le)⟩
theorem PIb.neg(a:PIb ta σ i m):PIb (tUn (rU λi=>.int (-i)) ta) σ (-i) m:=⟨λ_ _ q=>a.rd _ _ ⟨i,rfl,q⟩,by rw[Int.natAbs_neg]; exact a.le⟩
theorem PIb.mul(a:PIb ta σ i m)(b:PIb tb σ j n)(h:m<=10^9):PIb (tOp (rI zVc λi j=>.int (i*j)) ta tb) σ (i*j) (m*n) :=
 ⟨λ_ _ q=>a.rd _ _ (b.rd _ _ ⟨i,j,rfl,rfl,.inl ⟨by have:=a.le; lia,by have:=a.le; lia⟩,q⟩),wU i j a.le b.le⟩
end
def PPs(M:Nat)(ta:TA)(σ:St)(vs:List (Int×Int)):Prop:=∀(H:Hp)(Q:List V->Hp->Prop),(∀(ps:List Pr)(H':Hp),Same H H'->zCg H' M ps->ps.map (·.2)=vs->Q (zQ ps) H')->ta σ H Q
theorem PPs.nil{M:Nat}{σ:St} : PPs M zP3 σ []:=λH _ q=>q [] H (Same.refl _) (λ_ ht=>nomatch ht) rfl
theorem PPs.cons{M m n:Nat}{σ:St}{ta tb:TE}{tr:TA}{i j:Int}{vs:List (Int×Int)}(a:PIb ta σ i m)(b:PIb tb σ j n)(r:PPs M tr σ vs)(hm:m<=M:=by decide)(hn:n<=M:=by decide):PPs M (rC (tTup (rC ta (rC tb zP3))) tr) σ ((i,j)::vs):=λ_ _ q =>
 a.rd _ _ (b.rd _ _ ⟨(by show 2<=sizeLine; decide),λp hp=>r _ _ λps _ s pk e=>q ((p,i,j)::ps) _ ((zB hp _).trans s) (λt ht=>by
  rcases List.mem_cons.mp ht with h | h
  ·rw[h];exact⟨s _ _ zA,Nat.le_trans a.le hm,Nat.le_trans b.le hn⟩
  ·exact pk t h) (by rw[List.map_cons,e])⟩)
theorem zBd{M:Nat}{σ:St}{ta:TA}{vs:List (Int×Int)}(r:PPs M ta σ vs){H:Hp}{Q:VK}(n:vs.length<=1000)(q:∀ (l:Addr) (ps:List Pr) (H':Hp),Same H H'->H l=none->H' l=some (.lst (zQ ps))->zCg H' M ps->ps.map (·.2)=vs->Q (.ref l) H'):zF4 ta σ H Q :=
 r _ _ λps _ s pk e=>⟨by
  rw[zU,<- List.length_map (f:=(·.2)),e];exact Nat.le_of_lt (zK n),λl hl=>q l ps _ (s.trans (zB hl _)) (s.free hl) zA (pk.same (zB hl _)) e⟩
theorem zAe{M:Nat}{σ:St}{ta tr:TA}{vs:List (Int×Int)}(r:PPs M ta σ vs){H:Hp}{K:List V->Hp->Prop}(n:vs.length<=1000)(q:∀ (l:Addr) (ps:List Pr) (H':Hp),Same H H'->H l=none->H' l=some (.lst (zQ ps))->zCg H' M ps->ps.map (·.2)=vs->tr σ H' λxs H2=>K (.ref l::xs) H2):rC (zF4 ta) tr σ H K :=
 zBd (Q:=λx H1=>tr σ H1 λxs H2=>K (x::xs) H2) r n q
abbrev rY(xs:List (Addr×List Pr)):List V:=(xs.map (·.1)).map V.ref
structure zHo(G:Hp)(lo:Addr)(M:Nat)(xs:List (Addr×List Pr)):Prop where
 at':G lo=some (.lst (rY xs))
 all:∀ u∈xs,u.1≠lo/\G u.1=some (.lst (zQ u.2))/\zCg G M u.2
theorem zHo.same{G G2:Hp}{lo:Addr}{M:Nat}{xs:List (Addr×List Pr)}(L:zHo G lo M xs)(s:Same G G2):zHo G2 lo M xs:=⟨s _ _ L.at',λu hu=>⟨(L.all u hu).1,s _ _ (L.all u hu).2.1,(L.all u hu).2.2.same s⟩⟩
theorem zHo.app{G:Hp}{lo l:Addr}{M:Nat}{xs:List (Addr×List Pr)}{ps:List Pr}(L:zHo G lo M xs)(n:l≠lo)(e:G l=some (.lst (zQ ps)))(pk:zCg G M ps):zHo (upd G lo (.lst (rY xs++[.ref l]))) lo M (xs++[(l,ps)]):=by
 have pr:∀{qs:List Pr}{o:HO},zCg G M qs->zCg (upd G lo o) M qs:=λh t ht=>⟨by rw[zD (zCp (h t ht).1 L.at' (by intro z; cases z))]; exact(h t ht).1,(h t ht).2⟩;refine⟨by rw[zA]; simp[rY],λu hu=>?_⟩;rcases List.mem_append.mp hu with h | h
 ·obtain⟨h1,h2,h3⟩:=L.all u h;exact⟨h1,by rw[zD h1]; exact h2,pr h3⟩
 ·rw[List.mem_singleton] at h;subst h;exact⟨n,by show upd G lo _ l=_; rw[zD n]; exact e,pr pk⟩
theorem zQ2{G:Hp}{lo:Addr}{M:Nat}{xs:List V}{qs:List Pr}(e:G lo=some (.lst xs))(h:zCg G M qs)(o:HO):zCg (upd G lo o) M qs:=λt ht=>⟨by rw[zD (zCp (h t ht).1 e (by intro z; cases z))]; exact(h t ht).1,(h t ht).2⟩
theorem zQx{M:Nat}{σ:St}{t0 t1 t2 t3:TA}{v0 v1 v2 v3:List (Int×Int)}(r0:PPs M t0 σ v0)(r1:PPs M t1 σ v1)(r2:PPs M t2 σ v2)(r3:PPs M t3 σ v3){H:Hp}{Q:VK}(n0:v0.length<=1000)(n1:v1.length<=1000)(n2:v2.length<=1000)(n3:v3.length<=1000)
  (q:∀(lo:Addr)(xs:List (Addr×List Pr))(H':Hp),Same H H'->H lo=none->zHo H' lo M xs->xs.map (λu=>u.2.map (·.2))=[v0,v1,v2,v3]->Q (.ref lo) H'):zF4 (rC (zF4 t0) (rC (zF4 t1) (rC (zF4 t2) (rC (zF4 t3) zP3)))) σ H Q:=by
 show(rC (zF4 t0) (rC (zF4 t1) (rC (zF4 t2) (rC (zF4 t3) zP3)))) σ H (λxs H1=>xs.length<=sizeLine/\∀ p,H1 p=none->Q (.ref p) (upd H1 p (.lst xs)));refine zAe r0 n0 λl0 p0 G0 s0 h0 e0 k0 m0=>?_;refine zAe r1 n1 λl1 p1 G1 s1 h1 e1 k1 m1=>?_;refine zAe r2 n2 λl2 p2 G2 s2 h2 e2 k2 m2=>?_;refine zAe r3 n3 λl3 p3 G3 s3 h3 e3 k3 m3=>?_;refine⟨(by show 4<=sizeLine; decide),λlo hlo=>?_⟩;have so:=zB hlo (.lst [.ref l0,.ref l1,.ref l2,.ref l3]);have ne:∀{l:Addr}{o:HO},G3 l=some o->l≠lo:=λe z=>by rw[z,hlo] at e; cases e
 have f0:=s3 _ _ (s2 _ _ (s1 _ _ e0));have f1:=s3 _ _ (s2 _ _ e1);have f2:=s3 _ _ e2;refine q lo [(l0,p0),(l1,p1),(l2,p2),(l3,p3)] _ ((((s0.trans s1).trans s2).trans s3).trans so) ((((s0.trans s1).trans s2).trans s3).free hlo) ⟨zA,λu hu=>?_⟩ (by simp only[List.map_cons,List.map_nil,m0,m1,m2,m3]);simp only[List.mem_cons,List.not_mem_nil,or_false] at hu;rcases hu with rfl | rfl | rfl | rfl
 ·exact⟨ne f0,so _ _ f0,(((k0.same s1).same s2).same s3).same so⟩
 ·exact⟨ne f1,so _ _ f1,((k1.same s2).same s3).same so⟩
 ·exact⟨ne f2,so _ _ f2,(k2.same s3).same so⟩
 ·exact⟨ne e3,so _ _ e3,k3.same so⟩
theorem zRa{M:Nat}{σ:St}{t0 t1 t2 t3:TA}{v0 v1 v2 v3:List (Int×Int)}{H:Hp}{g:TG}{u:TS}{D:zMe}(r0:PPs M t0 σ v0)(r1:PPs M t1 σ v1)(r2:PPs M t2 σ v2)(r3:PPs M t3 σ v3)(n0:v0.length<=1000)(n1:v1.length<=1000)(n2:v2.length<=1000)(n3:v3.length<=1000)
  (q:∀(lo:Addr)(xs:List (Addr×List Pr))(H':Hp),Same H H'->H lo=none->zHo H' lo M xs->xs.map (λu=>u.2.map (·.2))=[v0,v1,v2,v3]->g (.ref lo) σ H' (u D)):zX0 (zUf (zF4 (rC (zF4 t0) (rC (zF4 t1) (rC (zF4 t2) (rC (zF4 t3) zP3))))) g) u D σ H :=
 zQx (Q:=λx H1=>g x σ H1 (u D)) r0 r1 r2 r3 n0 n1 n2 n3 q
theorem zPj{M:Nat}{σ:St}{ta:TA}{vs:List (Int×Int)}{H:Hp}{g:TG}{u:TS}{D:zMe}(r:PPs M ta σ vs)(n:vs.length<=1000)(q:∀ (l:Addr) (ps:List Pr) (H':Hp),Same H H'->H l=none->H' l=some (.lst (zQ ps))->zCg H' M ps->ps.map (·.2)=vs->g (.ref l) σ H' (u D)):zX0 (zUf (zF4 ta) g) u D σ H :=
 zBd (Q:=λx H1=>g x σ H1 (u D)) r n q
end Sea

namespace Sea
open PySem L2
end Sea

namespace PyProof.Rows
open PySem
structure Took(x y out:Array Keyed)(ia ib:Nat):Prop where
 pm:out.toList.Perm (x.toList.take ia++y.toList.take ib)
 la:ia<=x.size
 lb:ib<=y.size
structure Left(x y out:Array Keyed)(na nb:Nat):Prop where
 pm:out.toList.Perm (x.toList.drop na++y.toList.drop nb)
 la:na<=x.size
 lb:nb<=y.size
end PyProof.Rows

namespace PyProof.Rows
open PySem
def rk(r:Keyed->Int)(xs:Array Keyed)(i:Nat):Int:=(xs[i]?.map r).getD 0
structure TookR(r:Keyed->Int)(x y out:Array Keyed)(ia ib:Nat):Prop extends Took x y out ia ib where
 srt:∀ i j,i<=j->j<out.size->rk r out i<=rk r out j
 oa:∀ i j,i<out.size->ia<=j->j<x.size->rk r out i<=rk r x j
 ob:∀ i j,i<out.size->ib<=j->j<y.size->rk r out i<=rk r y j
structure LeftR(r:Keyed->Int)(x y out:Array Keyed)(na nb:Nat):Prop extends Left x y out na nb where
 srt:∀ i j,i<=j->j<out.size->rk r out j<=rk r out i
 oa:∀ i j,i<out.size->j<na->rk r x j<=rk r out i
 ob:∀ i j,i<out.size->j<nb->rk r y j<=rk r out i
end PyProof.Rows

namespace L2
open PySem PySem.Spec PyProof.Rows
theorem sz0:0<=sizeLine:=by decide
theorem sz1:1<=sizeLine:=by decide
theorem sz2:2<=sizeLine:=by decide
theorem sz3:3<=sizeLine:=by decide
theorem gt2:(0:Int)<2:=by decide
theorem gt3:(0:Int)<3:=by decide
theorem gt4:(0:Int)<4:=by decide
theorem gt5:(0:Int)<5:=by decide
section
variable{X:Cx}{x:Str}{p pos:Pos}{a b e c:Expr}{es:List Expr}{t:TA}{te ta tb:TE}{id T:String}{r:List V->Hp->VK->Prop}{n:Nat}{ps:List Str}{sp:Sp}
theorem zWf(h:starEach (e::es) X.env=(false,eval e X.env)::starEach es X.env)(ha:PE X e te)(hr:PA X es t):PA X (e::es) (rC te t):=zH ha hr h
theorem zVh(h:PE X (.Name x pos) te):PE X (.Name x pos) te:=h
theorem m_sub(h:PE X (.Subscript a b pos) te):PE X (.Subscript a b pos) te:=h
theorem zWt(h:PE X (.Call (.Name x p) (e::es) [] pos) te):PE X (.Call (.Name x p) (e::es) [] pos) te:=h
theorem m_bin{op:Operator}(h:PE X (.BinOp a op b pos) te):PE X (.BinOp a op b pos) te:=h
theorem m_cmp{op:CmpOp}(h:PE X (.Compare a [op] [b] pos) te):PE X (.Compare a [op] [b] pos) te:=h
theorem zV7{op:CmpOp}{tt:TT}(h:PT X (.Compare a [op] [b] pos) tt):PT X (.Compare a [op] [b] pos) tt:=h
theorem zUw{op:BoolOp}{tt:TT}(h:PW X (.BoolOp op es pos) tt):PT X (.BoolOp op es pos) tt:=h.pt
theorem m_val{tt:TE}(he:∀ whole,isTrue e X.env whole=(do let v <- whole; standAt e.pos; holding [v] (truthy v)))(h:PE X e tt):PT X e (tB tt):=zEa h he
theorem m_ix(hs:zN5 b)(ha:PE X a ta)(hb:PE X b tb):PE X (.Subscript a b pos) (tOp (rIxA X.K) ta tb):=zRc zSj ha hb hs
theorem zU6(x:Str)(h:PE X (.Name x pos) te):PE X (.Name x pos) te:=h
theorem zHc(hc:wO X (.builtin id) r)(hv:bootBuiltins x=some (.builtin id))(hm:X.mg x=none)(hg:Gl X x)(hn:x ≠ "__name__")(hdb:(x ==("__debug__" : Str))=false)
  (he:starEach (e::es) X.env=(false,eval e X.env)::starEach es X.env) (hpl:(backTo pos (starEach es X.env)).any (·.1)=false) (ha:PA X (e::es) t):PE X (.Call (.Name x p) (e::es) [] pos) (tCB r t):=yK hc hg hm hv ha hn hdb he hpl
theorem zU7(hc:wO X (.type T) r)(hv:bootBuiltins x=some (.type T))(hm:X.mg x=none)(hg:Gl X x)(hn:x ≠ "__name__")(hdb:(x ==("__debug__" : Str))=false)
  (he:starEach (e::es) X.env=(false,eval e X.env)::starEach es X.env) (hpl:(backTo pos (starEach es X.env)).any (·.1)=false) (ha:PA X (e::es) t):PE X (.Call (.Name x p) (e::es) [] pos) (tCB r t):=wC hc hg hm hv ha hn hdb he hpl
theorem m_own{P:Program}{w:World}{K:PySem.W.Frag}{mg:Str->Option Value}{B:Heap}(h:Has P w K mg B x n ps sp)(e1:X.prog=P/\X.w=w/\X.K=K/\X.mg=mg/\X.base=B)(hr:qM n X.A)(hg:Gl X x)(hdb:(x ==("__debug__" : Str))=false)
  (he:starEach (e::es) X.env=(false,eval e X.env)::starEach es X.env) (hpl:(backTo pos (starEach es X.env)).any (·.1)=false) (ha:PA X (e::es) t):PE X (.Call (.Name x p) (e::es) [] pos) (zNx sp [] E0 t):=by
 obtain⟨rfl,rfl,rfl,rfl,rfl⟩:=e1;exact uD h hr hg ha hdb he hpl
theorem yB(i:Nat){te:TE}{pos':Pos}(hN:X.N.Nodup)(he:PE X e te)(hi:X.N[i]?=some x:=by rfl)(hx:Loc X.env.scope x:=by first | exact Or.inl rfl | exact Or.inr rfl)(hs:swapsWith e (some (.Name x pos')) pos.line X.env=pure false:=by rfl)
  (hf:X.fn x=true\/X.env.scope.names.lookup x=some .local:=by first | exact .inl rfl | exact .inr rfl | assumption):PS X (.Assign [.Name x pos'] e pos) (zUf te (zJf i)):=zXh hN hi hx he hs hf
theorem vG(i:Nat)(hN:X.N.Nodup)(hi:X.N[i]?=some x:=by rfl)(hx:Loc X.env.scope x:=by first | exact Or.inl rfl | exact Or.inr rfl)(hf:X.fn x=true\/X.env.scope.names.lookup x=some .local:=by first | exact .inl rfl | exact .inr rfl | assumption) :
  PG X (.Name x pos) (zJf i):=zPy hN hi hx hf
theorem rZ{o:Expr}{to:TE}{apos cpos:Pos}(ho:PE X o to)(ha:PA X (e::es) t)
  (hbase:attributeBase o "append" X.env (eval o X.env)=eval o X.env:=by rfl)
  (hfew:((backTo cpos (starEach (e::es) X.env)).all (λx=>!x.1)&&(backToKw cpos (keywordEach [] X.env)).all (λx=>x.1.isSome)
   && decide ((e::es).length+([]:List Keyword).length+(if ([]:List Keyword).isEmpty then 0 else 1)<30))=true:=by rfl)
  (hline:(apos.endLine == cpos.line)=true:=by rfl) (hs:starEach (e::es) X.env=(false,eval e X.env)::starEach es X.env:=by rfl) (hplain:(backTo cpos (starEach es X.env)).any (·.1)=false:=by rfl) :
  PE X (.Call (.Attribute o "append" apos) (e::es) [] cpos) (tBM X.K "list" zNh to t):=zJw PySem.F.plainAttrs_list PySem.F.slot_list_append PySem.F.type_list_append zAx ho ha hbase hfew hline hs hplain
end
end L2

namespace L2
open PySem PySem.Spec PyProof.Rows
def InB(B:Heap)(φ:PySem.W.Frag->Prop):Prop:=∃ K:PySem.W.Frag,K.In B/\φ K
abbrev Cx.withK(X:Cx)(K:PySem.W.Frag):Cx:={ X with K:=K }
theorem Mod.withK{K K':PySem.W.Frag}{mg:Str->Option Value}{B:Heap}(m:Mod K mg B)(h:K'.In B):Mod K' mg B:={ m with kin:=h }
section
variable{X:Cx}{pins:List (Addr×Obj)}{σ:St}{H:Hp}{s:Shared}{K:PySem.W.Frag}
theorem Cx.Ok.withK(ok:X.Ok)(h:K.In X.base):(X.withK K).Ok :=
 ⟨ok.mod.withK h,ok.kind,ok.glob,ok.blt,ok.above,ok.inj,ok.has,ok.cab,ok.hd,ok.frames,ok.stk,ok.exf,ok.bs,ok.bsz,ok.noex,ok.exfs,ok.funs,ok.frf⟩
theorem Cx.Ok.unK(ok:(X.withK K).Ok)(h:Mod X.K X.mg X.base):X.Ok :=
 ⟨h,ok.kind,ok.glob,ok.blt,ok.above,ok.inj,ok.has,ok.cab,ok.hd,ok.frames,ok.stk,ok.exf,ok.bs,ok.bsz,ok.noex,ok.exfs,ok.funs,ok.frf⟩
theorem Inv.withK(I:Inv X pins σ H s)(h:K.In X.base):Inv (X.withK K) pins σ H s:=⟨I.ok.withK h,I.os,I.bare,I.base,I.loc,I.cell,I.free,I.freeC,I.pin,I.hok,I.len⟩
theorem Inv.unK(I:Inv (X.withK K) pins σ H s)(h:Mod X.K X.mg X.base):Inv X pins σ H s:=⟨I.ok.unK h,I.os,I.bare,I.base,I.loc,I.cell,I.free,I.freeC,I.pin,I.hok,I.len⟩
end
section
variable{X:Cx}{o e value:Expr}{es:List Expr}{f m:Str}{pos pos' apos:Pos}{ta tv:TE}{t:TA}{C g:Addr}{n:Nat}{ps:List Str}{sp:Sp}
inductive TFld(C:Addr)(f:Str)(x:V)(H:Hp)(Q:VK):Prop where
 | mk (a dx:Addr) (fs:List (Str×V)) (v:V) (ex:x=.ref a) (ea:H a=some (.ins C dx fs)) (l:fs.lookup f=some v) (q:Q v H)
def tFld2(C:Addr)(f:Str)(ta:TE):TE:=λσ H Q=>ta σ H λx H1=>TFld C f x H1 Q
theorem tX(hb:InB X.base λK=>Cls K C/\zAj K C f)(he:PE X e ta)(ha:attributeBase e f X.env (eval e X.env)=eval e X.env:=by rfl):PE X (.Attribute e f pos) (tFld2 C f ta):=by
 obtain⟨K,KB,c,n⟩:=hb;intro pins s σ H Q I h;refine zT0 ha (thn (he pins s σ H _ I h) λu s1 ⟨x,H1,I1,rx,a,dx,fs,v,ex,ea,l,q⟩=>?_);subst ex;obtain rfl:u=Value.ref a:=rx;exact zL3 (X:=X.withK K) (I1.withK KB) ea c n l λu' s2 I2 ru=>⟨v,H1,I2.unK I.ok.mod,ru,q⟩
inductive SFld(C:Addr)(f:Str)(y x:V)(H:Hp)(Q:Hp->Prop):Prop where
 | mk (a dx:Addr) (fs:List (Str×V)) (ex:x=.ref a) (ea:H a=some (.ins C dx fs)) (l:fs.length<1000) (q:Q (upd H a (.ins C dx (zDf f y fs))))
def sFld2(C:Addr)(f:Str)(ta tv:TE):TS:=λD σ H=>tv σ H λy H1=>ta σ H1 λx H2=>SFld C f y x H2 (D.nx σ)
theorem zBr(hb:InB X.base λK=>Cls K C/\zAj K C f)(ha:PE X o ta)(hv:PE X value tv)(hs:swapsWith value (some (.Attribute o f pos')) pos.line X.env=pure false:=by rfl):PS X (.Assign [.Attribute o f pos'] value pos) (sFld2 C f ta tv):=by
 obtain⟨K,KB,c,n⟩:=hb;intro pins s σ H D I h;refine plainObj_wpAny_Assign_Attribute (thn (hv pins s σ H _ I h) λu s1 ⟨y,H1,I1,ry,q⟩=>thn (ha pins s1 σ H1 _ I1 q) λov s2 ⟨x,H2,I2,rx,a,dx,fs,ex,ea,l,q2⟩=>?_) hs;subst ex;obtain rfl:ov=Value.ref a:=rx;exact zM2 (X:=X.withK K) (I2.withK KB) ea c n l ry λs3 I3=>⟨σ,_,I3.unK I.ok.mod,q2⟩
theorem zEe{x:Str}{p:Pos}(h:Has X.prog X.w X.K X.mg X.base x n ps sp)(hr:qM n X.A)(hg:Gl X x)(hdb:(x ==("__debug__" : Str))=false:=by decide):PE X (.Call (.Name x p) [] [] pos) (zNx sp [] E0 zP3):=by
 obtain⟨f,fd,F,b,k,m⟩:=h;exact zQf F hr hg m k b .nil zM3 hdb
def zM8(P:Program)(w:World)(K:PySem.W.Frag)(mg:Str->Option Value)(base:Heap)(g:Addr)(n:Nat)(ps:List Str)(sp:Sp):Prop :=
 ∃ fd:FuncData,xE P w K mg base CX0 n g fd ps sp/\∀ us:List Value,us.length=ps.length->bindArgs fd ⟨us,[]⟩=pure (ps.zip us)
inductive TMeth(C:Addr)(m:Str)(x:V)(H:Hp)(q:Prop):Prop where
 | mk (a dx:Addr) (fs:List (Str×V)) (ex:x=.ref a) (ea:H a=some (.ins C dx fs)) (l:fs.lookup m=none) (k:q)
def zSu(C:Addr)(m:Str)(sp:Sp)(ta:TE)(t:TA):TE:=λσ H Q=>ta σ H λx H1=>TMeth C m x H1 (t σ H1 λvs H2=>sp (x::vs) H2 Q E0)
theorem zLv{pl:Sem Bool}(hb:InB X.base λK=>Cls K C/\zRm K C m g)(h:zM8 X.prog X.w X.K X.mg X.base g n ps sp)(hr:qM n X.A)(he:PE X o ta)(ha:PA X (e::es) t)
  (hst:starEach (e::es) X.env=(false,eval e X.env)::starEach es X.env:=by rfl) (hpl:(backTo pos (starEach es X.env)).any (·.1)=false:=by rfl)
  (ht:eval (.Call (.Attribute o m apos) (e::es) [] pos) X.env=(do
   let ov <- eval o X.env
   standAt apos.atName
   let (f,first) <- holding [ov] (getMethod ov m pl)
   callWith pos f first (backTo pos (starEach (e::es) X.env)) (backToKw pos (keywordEach [] X.env))):=by rfl) :
  PE X (.Call (.Attribute o m apos) (e::es) [] pos) (zSu C m sp ta t):=by
 obtain⟨K,KB,c,hm⟩:=hb;obtain⟨fd,F,b⟩:=h;intro pins s σ H Q I h;refine PySem.W.methodCall_KW (pl:=pl) (thn (he pins s σ H _ I h) λu s1 ⟨x,H1,I1,rx,a,dx,fs,ex,ea,l,q⟩=>?_) ht;subst ex;obtain rfl:u=Value.ref a:=rx;refine zFl (X:=X.withK K) (I1.withK KB) ea c hm l ?_;refine PySem.W.callWith_K (first:=[.ref a]) (h₀:=X.base) (K:=K) KB hm.kp (thn (ha pos pins s1 σ H1 _ I1 q) λus s2 ⟨vs,H2,I2,r,q2⟩=>⟨(I2.withK KB).kIn,?_⟩) hst hpl;exact zIt (us:=.ref a::us) (vs:=.ref a::vs) (dvs:=[]) (ds:=[]) F hr (.all b) .nil zM3 I2 (.cons rfl r) (by rw[List.append_nil]; exact q2)
theorem sI{pl:Sem Bool}(hb:InB X.base λK=>Cls K C/\zRm K C m g)(h:zM8 X.prog X.w X.K X.mg X.base g n ps sp)(hr:qM n X.A)(he:PE X o ta)
  (ht:eval (.Call (.Attribute o m apos) [] [] pos) X.env=(do
   let ov <- eval o X.env
   standAt apos.atName
   let (f,first) <- holding [ov] (getMethod ov m pl)
   callWith pos f first (backTo pos (starEach [] X.env)) (backToKw pos (keywordEach [] X.env))):=by rfl) :
  PE X (.Call (.Attribute o m apos) [] [] pos) (zSu C m sp ta zP3):=by
 obtain⟨K,KB,c,hm⟩:=hb;obtain⟨fd,F,b⟩:=h;intro pins s σ H Q I h;refine PySem.W.methodCall_KW (pl:=pl) (thn (he pins s σ H _ I h) λu s1 ⟨x,H1,I1,rx,a,dx,fs,ex,ea,l,q⟩=>?_) ht;subst ex;obtain rfl:u=Value.ref a:=rx;refine zFl (X:=X.withK K) (I1.withK KB) ea c hm l ?_;exact PySem.W.callWith_K0 (first:=[.ref a]) (I1.withK KB).kIn hm.kp (zIt (us:=[.ref a]) (vs:=[.ref a]) (dvs:=[]) (ds:=[]) F hr (.all b) .nil zM3 I1 (.cons rfl .nil) q)
def zXr(C:Addr)(sp:Sp):TE:=λ_ H Q=>∀ x dx,H x=none->H dx=none->dx≠x->sp [.ref x] (upd (upd H dx (.own x)) x (.ins C dx [])) (λv H2=>v=.non/\Q (.ref x) H2) E0
theorem xE.withK{P:Program}{w:World}{K K':PySem.W.Frag}{mg:Str->Option Value}{B:Heap}{k:Nat}{f:Addr}{fd:FuncData}(F:xE P w K mg B CX0 k f fd ps sp)(h:K.In B):xE P w K' mg B CX0 k f fd ps sp :=
 ⟨F.len,λA outer s H args us vs Q E hr e0 hb r hsp=>F.run A outer s H args us vs Q E hr { e0 with mod:=e0.mod.withK h } hb r hsp⟩
theorem zOx{x:Str}{p:Pos}(hb:InB X.base λK=>Mk K C g)(h:zM8 X.prog X.w X.K X.mg X.base g n ps sp)(hr:qM (n+1) X.A)(hm:X.mg x=some (.ref C))(hg:Gl X x:=by rfl)(hdb:(x ==("__debug__" : Str))=false:=by decide) :
  PE X (.Call (.Name x p) [] [] pos) (zXr C sp):=by
 obtain⟨K,KB,M⟩:=hb;obtain⟨fd,F,b⟩:=h;intro pins s σ H Q I h;refine wpAny_Call_Name_kw (qP I hg hm ?_ hdb);have J:=I.withK KB;refine PySem.W.callWith_K0 J.kIn M.kp (wpAny_mono (zR5 (X:=X.withK K) (us:=[]) (vs:=[]) (dvs:=[]) (ds:=[]) M (F.withK I.ok.mod.kin) hr (.all b) .nil zM3 J .nil h) (λu s' ⟨v,H',I',r,q⟩=>⟨v,H',I'.unK I.ok.mod,r,q⟩) λ_ _ z=>z)
end
end L2

namespace L2
open PySem PySem.Spec PyProof.Rows
structure M1(X:Cx)(o:Expr)(m:Str)(apos:Pos)(e:Expr)(cpos:Pos):Prop where
 base:attributeBase o m X.env (eval o X.env)=eval o X.env
 few:((backTo cpos (starEach [e] X.env)).all (λx=>!x.1)&&(backToKw cpos (keywordEach [] X.env)).all (λx=>x.1.isSome)
  && decide (([e]:List Expr).length+([]:List Keyword).length+(if ([]:List Keyword).isEmpty then 0 else 1)<30))=true
 line:(apos.endLine == cpos.line)=true
 trees:backTo cpos (starEach [e] X.env)=[(false,eval e X.env)]
structure M2(X:Cx)(o:Expr)(m:Str)(apos:Pos)(e f:Expr)(cpos:Pos):Prop where
 base:attributeBase o m X.env (eval o X.env)=eval o X.env
 few:((backTo cpos (starEach [e,f] X.env)).all (λx=>!x.1)&&(backToKw cpos (keywordEach [] X.env)).all (λx=>x.1.isSome)
  && decide (([e,f]:List Expr).length+([]:List Keyword).length+(if ([]:List Keyword).isEmpty then 0 else 1)<30))=true
 line:(apos.endLine == cpos.line)=true
 trees:backTo cpos (starEach [e,f] X.env)=[(false,eval e X.env),(false,eval f X.env)]

def IsD(H:Hp)(a:Addr):Prop:=(∃ kvs,Rd H a (.dK kvs))\/∃ kvs,Rd H a (.dT kvs)
theorem zXl{X:Cx}{pins:List (Addr×Obj)}{σ:St}{H:Hp}{s:Shared}{a:Addr}(I:Inv X pins σ H s)(d:IsD H a) :
  s.TypeIs (.ref a) "dict" /\ (∀ b,Value.ref a=.ref b->∃ ob,s.heap.get? b=some ob/\ob.dict=none)/\(a == sysModules)=false:=by
 rcases d with ⟨kvs,e⟩ | ⟨kvs,e⟩
 ·obtain⟨_,hd,vs,_,dd⟩:=zGw I.hok e;refine⟨dd.typeIs,λb q=>?_,hd⟩;cases q;obtain⟨ob,_,_,h1,h2,_⟩:=dd;exact⟨ob,h1,h2.2.1⟩
 ·obtain⟨_,hd,xs,_,dd⟩:=zMm I.hok e;refine⟨dd.typeIs,λb q=>?_,hd⟩;cases q;obtain⟨ob,_,_,h1,h2,_⟩:=dd;exact⟨ob,h1,h2.2.1⟩


def zW8(td ty:TE):TE:=λσ H Q=>td σ H λx H1=>∃ a,x=.ref a/\IsD H1 a/\ty σ H1 λy H2=>∃ kvs k v,H2 a=some (.dK kvs)/\y=kV k/\tI kvs k=some v/\Q v (upd H2 a (.dK (zCz kvs k)))
section
variable{X:Cx}{o e f:Expr}{apos cpos:Pos}{td ty tx:TE}
theorem zDl(ho:PE X o td)(he:PE X e ty)(m:M1 X o "pop" apos e cpos):PE X (.Call (.Attribute o "pop" apos) [e] [] cpos) (zW8 td ty):=by
 intro pins s σ H Q I h;refine wpAny_Call_method m.base m.few m.line PySem.F.plainAttrs_dict PySem.F.slot_dict_pop PySem.F.type_dict_pop (thn (ho pins s σ H _ I h) λu s1 ⟨x,H1,I1,rx,a,ex,d,q1⟩=>?_);subst ex;obtain rfl:u=Value.ref a:=rx;obtain⟨t1,t2,_⟩:=zXl I1 d;exists t1,t2;rw[m.trees];refine Calls.callWith_builtin rfl (Calls.evalArgs_plain (Calls.spliced_cons (thn (he pins s1 σ H1 _ I1 q1) λiv s2 ⟨y,H2,I2,ry,kvs,k,v,ea,ey,l,q2⟩=>Calls.spliced_nil ?_)));subst ey;exact d_pop I2 ea ry l (.inl rfl) λw' s3 I3 rw'=>⟨v,_,I3,rw',q2⟩
end

section
variable{X:Cx}{pins:List (Addr×Obj)}{σ:St}{H:Hp}{s:Shared}{a:Addr}{kvs:List (Key×V)}{A:Around}{E:Value->Shared->Prop}
theorem zRo{Q:Value->Shared->Prop}(I:Inv X pins σ H s)(e:Rd H a (.dK kvs))(h:∀ p s',H p=none->Inv X pins σ (upd H p (.dK kvs)) s'->Q (.ref p) s'):wpAny (model X.prog X.w) A (call (.type "dict") [.ref a]) Q E s:=by
 obtain⟨z,hd,vs,rel,dd⟩:=zGw I.hok e;refine kt_call_dict hd dd (by rw[<- rel.length]; exact z) λh' dd' hs=>?_;refine h _ _ (I.hok.fresh (Nat.le_refl _)) (I.laid (a:=s.heap.objs.size) (o:=.dK kvs) (t':=s.toks) (λb q hq=>?_) (Nat.le_refl _) (zIz z (beq_eq_false_iff_ne.mpr (Ne.symm (Nat.ne_of_lt I.big))) rel dd'));exact(hs.2 b (Nat.ne_of_lt (Heap.lt_size hq))).trans (Heap.get?_push_of_some _ hq)
end


end L2


namespace L2
open PySem PySem.Spec PyProof.Rows
section
variable{X:Cx}{pins:List (Addr×Obj)}{σ:St}{H:Hp}{s:Shared}{d:Addr}{kvs:List (Key×V)}
theorem Inv.freeze(I:Inv X pins σ H s)(hd:H d=some (.dK kvs)){o:Obj}(ho:s.heap.get? d=some o):Inv X pins σ (upd H d (.frz o (.dK kvs))) s:=by
 have ne:∀{b:Addr},H b=none->b≠d:=λ{b} n e=>by rw[e,hd] at n; cases n
 have nk:∀{b:Addr}{u:HO},H b=some u->u≠.dK kvs->upd H d (.frz o (.dK kvs)) b=some u:=λ{b u} e z=>by
  rw[zD (λq=>z (by rw[q,hd] at e; exact(Option.some.inj e).symm))];exact e
 have nn:∀{b:Addr},H b=none->upd H d (.frz o (.dK kvs)) b=none:=λ{b} n=>by rw[zD (ne n)]; exact n
 have st:∀(b:Addr)(u:HO),xZ X.prog X.w H s.heap b u->xZ X.prog X.w (upd H d (.frz o (.dK kvs))) s.heap b u:=λb u k =>
  k.stay (λc v _ q=>q) (λc q=>nk q (λz=>nomatch z)) λc xs q=>nk q (λz=>nomatch z)
 refine⟨I.ok,I.os,I.bare,⟨I.base.keep,I.base.slot,λb u e n hx=>nn (I.base.free b u e n hx),I.base.there,λb xs e=>nk (I.base.tups b xs e) (λz=>nomatch z),λb u v e=>nk (I.base.frzs b u v e) (λz=>nomatch z),
  λb ps e=>let ⟨more,q⟩:=I.base.tbls b ps e;⟨more,nk q (λz=>nomatch z)⟩⟩,I.loc,I.cell,nn I.free,λx c e=>nn (I.freeC x c e),λp hp=>?_,λb u e=>?_,I.len⟩
 ·obtain⟨h1,h2,h3⟩:=I.pin p hp;exact⟨h1,nn h2,h3⟩
 ·by_cases eb:b=d
  ·subst eb;rw[zA] at e;cases e;exact⟨ho,st b _ (I.hok b _ hd)⟩
  ·rw[zD eb] at e;exact st b u (I.hok b u e)
theorem Inv.frzAt(I:Inv X pins σ H s){o:Obj}{es:Array DictEntry}{ep:Nat}(hd:H d=some (.frz o (.dK kvs)))(ho:o.data=.dict es ep) :
  ∃ vs,KV kvs vs/\s.heap.DictAt (yX X.prog X.w) d vs ep/\kvs.length<=sizeLine/\(d == sysModules)=false:=by
 obtain⟨e,z,y,vs,r,o',es',ep',e',c,dt,k,p,n⟩:=(show xZ X.prog X.w H s.heap d (.frz o (.dK kvs)) from I.hok d _ hd);rw[e] at e';cases e';rw[ho] at dt;injection dt with d1 d2
 subst d1 d2;exact⟨vs,r,⟨o,es,e,c,ho,k,p,n⟩,z,y⟩
theorem KV.at{vs:List (Key×Value)} : ∀{kvs:List (Key×V)}{vs:List (Key×Value)}{i:Nat}{k:Key}{v:V},KV kvs vs->kvs[i]?=some (k,v)->∃ u,vs[i]?=some (k,u)/\xI v u
 | _,_,_,_,_,.nil,e=>by simp at e
 | _,_,0,k,v,.cons (a:=a) (b:=b) ⟨r1,r2⟩ _,e=>by
  simp at e;subst e;exact⟨b.2,by rw[show(k,b.2)=b from by rw[show k=b.1 from r1]]; rfl,r2⟩
 | _,_,i+1,k,v,.cons _ t,e=>KV.at (vs:=[]) (i:=i) t (by simpa using e)
def Itc(φ:Hp->Prop)(xs:List V):It:=⟨λi H=>φ H/\i<xs.length,λi H x H'=>H'=H/\xs[i]?=some x,λi H=>φ H/\xs.length<=i⟩
abbrev zMa(d:Addr)(o:Obj)(kvs:List (Key×V))(H:Hp):Prop:=H d=some (.frz o (.dK kvs))
theorem zN1{P:Program}{w:World}{K:PySem.W.Frag}{tg:Expr}{o:Obj}{es:Array DictEntry}{ep:Nat}(ho:o.data=.dict es ep)(it:Addr) :
  zP7 P w K tg (Itc (zMa d o kvs) (kvs.map (·.2))) [it] it (λi h=>h.IsValIter it d i kvs.length ep) where
 mem:=by simp
 obj:=λi h st b hb=>by
  have e:b=it:=by simpa using hb
  subst e;obtain⟨o,e,c,d⟩:=st;exact⟨o,e,λv z=>by rw[d] at z; cases z⟩
 keep:=λi h h' st k=>st.at λo e=>k it (by simp) o e
 item:=by
  intro X hP hw hK hc i pins s σ H E I hf st ⟨fz,hi⟩;subst hP hw hK;obtain⟨vs,r,da,_,_⟩:=I.frzAt fz ho;rw[List.length_map] at hi;obtain⟨u,hu,ru⟩:=KV.at (vs:=vs) (k:=kvs[i].1) (v:=kvs[i].2) r (List.getElem?_eq_getElem hi);obtain⟨f0,f1,f2,f3,f4,f5⟩:=hf it (by simp);have st':s.heap.IsValIter it d i vs.length ep:=by rw[<- r.length]; exact st
  refine wpAny_pyNext_values_item st' da hu λh' st2 sb=>?_;have I1:Inv X pins σ H { s with heap:=h' }:=I.turned (t':=s.toks) (λb o hb e=>(sb.2 b hb).trans e) f0 f1 f3 f4 f5;obtain⟨o,e,c,dd⟩:=id st2;rw[<- r.length] at st2;exact⟨u,rfl,zKo (s:={ s with heap:=h' }) e c dd (by decide) ⟨kvs[i].2,H,I1,ru,⟨rfl,by rw[List.getElem?_map,List.getElem?_eq_getElem hi]; rfl⟩,st2,λb hb=>(hf b hb).1⟩⟩
 done:=by
  intro X hP hw hK hc i pins s σ H E I hf st ⟨fz,hi⟩;subst hP hw hK;obtain⟨vs,r,da,_,_⟩:=I.frzAt fz ho;rw[List.length_map] at hi;obtain⟨f0,f1,f2,f3,f4,f5⟩:=hf it (by simp);have st':s.heap.IsValIter it d i vs.length ep:=by rw[<- r.length]; exact st
  exact wpAny_pyNext_values_end (I.ok.hd hc) st' da (List.getElem?_eq_none (by rw[<- r.length]; exact hi)) λh' eb=>⟨rfl,I.turned (t':=s.toks) (λb o hb e=>eb b o hb e) f0 f1 f3 f4 f5⟩
 self:=λ_ _ _ _ _ st h=>wpAny_pyIter_valiter st h
theorem zO1{P:Program}{w:World}{K:PySem.W.Frag}{tg:Expr}{o:Obj}{es:Array DictEntry}{ep:Nat}(ho:o.data=.dict es ep)(it:Addr) :
  zP7 P w K tg (Itc (zMa d o kvs) (kvs.map λkv=>kV kv.1)) [it] it (λi h=>h.IsKeyIter it d i kvs.length ep) where
 mem:=by simp
 obj:=λi h st b hb=>by
  have e:b=it:=by simpa using hb
  subst e;obtain⟨o,e,c,d⟩:=st;exact⟨o,e,λv z=>by rw[d] at z; cases z⟩
 keep:=λi h h' st k=>st.at λo e=>k it (by simp) o e
 item:=by
  intro X hP hw hK hc i pins s σ H E I hf st ⟨fz,hi⟩;subst hP hw hK;obtain⟨vs,r,da,_,_⟩:=I.frzAt fz ho;rw[List.length_map] at hi;obtain⟨u,hu,ru⟩:=KV.at (vs:=vs) (k:=kvs[i].1) (v:=kvs[i].2) r (List.getElem?_eq_getElem hi);obtain⟨f0,f1,f2,f3,f4,f5⟩:=hf it (by simp);have st':s.heap.IsKeyIter it d i vs.length ep:=by rw[<- r.length]; exact st
  refine wpAny_pyNext_dict_item st' da hu λkey h' hk st2 sb=>?_;have I1:Inv X pins σ H { s with heap:=h' }:=I.turned (t':=s.toks) (λb o hb e=>(sb.2 b hb).trans e) f0 f1 f3 f4 f5;obtain⟨o,e,c,dd⟩:=id st2;rw[<- r.length] at st2;have rk:xI (kV kvs[i].1) key:=by
   rcases yW hk with ⟨j,t,e1,e2⟩ | ⟨x,t,e1,e2⟩
   ·rw[e1,e2]; exact⟨t,rfl⟩
   ·rw[e1,e2]; exact⟨t,rfl⟩
  exact⟨key,rfl,zKo (s:={ s with heap:=h' }) e c dd (by decide) ⟨kV kvs[i].1,H,I1,rk,⟨rfl,by rw[List.getElem?_map,List.getElem?_eq_getElem hi]; rfl⟩,st2,λb hb=>(hf b hb).1⟩⟩
 done:=by
  intro X hP hw hK hc i pins s σ H E I hf st ⟨fz,hi⟩;subst hP hw hK;obtain⟨vs,r,da,_,_⟩:=I.frzAt fz ho;rw[List.length_map] at hi;obtain⟨f0,f1,f2,f3,f4,f5⟩:=hf it (by simp);have st':s.heap.IsKeyIter it d i vs.length ep:=by rw[<- r.length]; exact st
  exact wpAny_pyNext_dict_end (I.ok.hd hc) st' da (List.getElem?_eq_none (by rw[<- r.length]; exact hi)) λh' eb=>⟨rfl,I.turned (t':=s.toks) (λb o hb e=>eb b o hb e) f0 f1 f3 f4 f5⟩
 self:=λ_ _ _ _ _ st h=>wpAny_pyIter_keyiter st h
def zRg(d:Addr)(o:Obj)(kvs:List (Key×V))(H H2:Hp):Prop:=H2 d=some (.frz o (.dK kvs))/\(∀ b,b≠d->H2 b=H b)/\∀ o',H d=some (.frz o' (.dK kvs))->o'=o
theorem Inv.frozen(I:Inv X pins σ H s)(hd:Rd H d (.dK kvs)):∃(o:Obj)(es:Array DictEntry)(ep:Nat)(H2:Hp),o.data=.dict es ep/\zRg d o kvs H H2/\Inv X pins σ H2 s:=by
 obtain⟨z,y,vs,r,o,es,ep,e,c,dt,_⟩:=hd.ok I.hok;rcases hd with hd | ⟨o',hd⟩
 ·exact⟨o,es,ep,_,dt,⟨zA,λb hb=>zD hb,λo' e'=>by rw[hd] at e'; cases e'⟩,I.freeze hd e⟩
 ·obtain⟨e',_⟩:=(show xZ X.prog X.w H s.heap d (.frz o' (.dK kvs)) from I.hok d _ hd);rw[e] at e';cases e';exact⟨o,es,ep,H,dt,⟨hd,λ_ _=>rfl,λo' e'=>by rw[hd] at e'; cases e'; rfl⟩,I⟩
def iVals(te:TE):TI:=λσ H R=>te σ H λx H1=>∃(d:Addr)(kvs:List (Key×V)),x=.ref d/\Rd H1 d (.dK kvs)/\∀(o:Obj)(H2:Hp),zRg d o kvs H1 H2->R (Itc (zMa d o kvs) (kvs.map (·.2))) H2
def iKeys(te:TE):TI:=λσ H R=>te σ H λx H1=>∃(d:Addr)(kvs:List (Key×V)),x=.ref d/\Rd H1 d (.dK kvs)/\∀(o:Obj)(H2:Hp),zRg d o kvs H1 H2->R (Itc (zMa d o kvs) (kvs.map λkv=>kV kv.1)) H2
variable{tg l:Expr}{te:TE}{apos pos:Pos}
theorem zTd(hl:PE X l te):PI X tg l (iKeys te):=by
 intro pins s σ H R I h;refine thn (hl pins s σ H _ I h) λv s1 ⟨x,H1,I1,r1,d,kvs,e,hd,q⟩=>?_;subst e;cases r1;obtain⟨o,es,ep,H2,ho,ft,I2⟩:=I1.frozen hd;obtain⟨vs,r,da,_,ns⟩:=I2.frzAt ft.1 ho;refine wpAny_pyIter_dict ns da ?_;refine⟨s1.heap.objs.size,[s1.heap.objs.size],_,_,H2,rfl,I2.kept (t':=s1.toks) λb o e=>Heap.get?_push_of_some _ e,zO1 ho _,⟨_,Heap.get?_push_size _ rfl,rfl,by rw[r.length]; rfl⟩,λb hb=>?_,q o H2 ft⟩;have e:b=s1.heap.objs.size:=by simpa using hb
 subst e;exact I2.fpOk (Nat.le_refl _) (I2.hok.fresh (Nat.le_refl _))
theorem zHd(hl:PE X l te)(hbase:attributeBase l "values" X.env (eval l X.env)=eval l X.env:=by rfl)(hline:(apos.endLine == pos.line)=true:=by rfl):PI X tg (.Call (.Attribute l "values" apos) [] [] pos) (iVals te):=by
 intro pins s σ H R I h;refine wpAny_Call_method (T := "dict") (id := "dict.values") hbase rfl hline F.plainAttrs_dict F.slot_dict_values F.type_dict_values (thn (hl pins s σ H _ I h) λv s1 ⟨x,H1,I1,r1,d,kvs,e,hd,q⟩=>?_);subst e;cases r1;obtain⟨o,es,ep,H2,ho,ft,I2⟩:=I1.frozen hd;obtain⟨vs,r,da,_,ns⟩:=I2.frzAt ft.1 ho;exists da.dictOf.typeIs,da.dictOf.mapOf.noDict;show wpAny _ _ (callWith pos (.builtin "dict.values") [.ref d] [] []) _ _ s1;refine method_meetsIn F.slot_dict_values F.entry_dict_values rfl (PySem.evalArgs_none ⟨rfl,da.dictOf.typeIs,F.args_dict_values_1 _,_,meets_dict_values (yX X.prog X.w) d ns,⟨vs,da.dictOf⟩,?_⟩);refine wpAny_pyIter_values (knd:=yX X.prog X.w) (d:=d) (kvs:=vs) (ep:=ep) ⟨_,Heap.get?_push_size _ rfl,rfl,rfl⟩ (da.push _) ?_;have I3:=I2.kept (t':=s1.toks) (h':=s1.heap.push { cls:=.type "dict_values", data:=.fields #[.ref d] }) λb o e=>Heap.get?_push_of_some _ e;have I4:=I3.kept (t':=s1.toks) (h':=(s1.heap.push { cls:=.type "dict_values", data:=.fields #[.ref d] }).push { cls:=.type "dict_valueiterator", data:=.fields #[.ref d,.int 0 0,.int vs.length 0,.int ep 0] }) λb o e=>Heap.get?_push_of_some _ e;refine⟨_,[_],_,_,H2,rfl,I4,zN1 ho _,⟨_,Heap.get?_push_size _ rfl,rfl,by rw[r.length]; rfl⟩,λb hb=>?_,q o H2 ft⟩;have e:=List.mem_singleton.mp hb;subst e;exact I3.fpOk (Nat.le_refl _) (I3.hok.fresh (Nat.le_refl _))
end
end L2

namespace L2
open PySem PySem.Spec PyProof.Rows
section
variable{φ:Hp->Prop}{xs:List V}{g:TG}{tb:TS}{E:zMe}{σ σ0:St}{H H1:Hp}{D:Addr}{tt:TT}{te:TE}{Q:VK}
theorem zWe(Pv:Nat->St->Hp->Prop)(h0:Pv 0 σ H)(hl:∀ i σ H,Pv i σ H->φ H)
  (hs:∀ i x σ H,xs[i]?=some x->Pv i σ H->g x σ H λσ2 H2=>tb { E with nx:=Pv (i+1),ct:=Pv (i+1),bk:=E.nx } σ2 H2) (hd:∀ σ H,Pv xs.length σ H->E.nx σ H) :
  ∃ W:Nat->Nat->St->Hp->Prop,(∃ m,W 0 m σ H)/\∀ i m σ H,W i m σ H ->
   ((Itc φ xs).stop i H/\E.nx σ H)\/((Itc φ xs).go i H/\∃ N:St->Hp->Prop,(∀ σ' H',N σ' H'->∃ m',m'<m/\W (i+1) m' σ' H')/\∀ x H',(Itc φ xs).yld i H x H'->g x σ H' λσ2 H2=>tb { E with nx:=N,ct:=N,bk:=E.nx } σ2 H2):=by
 exists λi m σ H=>m=xs.length-i/\i<=xs.length/\Pv i σ H,⟨xs.length,by simp,Nat.zero_le _,h0⟩;rintro i m σ H ⟨rfl,hi,p⟩;by_cases hlt:i<xs.length
 ·refine .inr ⟨⟨hl i σ H p,hlt⟩,Pv (i+1),λσ' H' p'=>⟨xs.length-(i+1),by lia,rfl,hlt,p'⟩,λx H' ⟨e,y⟩=>?_⟩;subst e;exact hs i x σ _ y p
 ·have e:i=xs.length:=by lia
  subst e;exact .inl ⟨⟨hl _ σ H p,Nat.le_refl _⟩,hd σ H p⟩
theorem zSl(Pv:Nat->St->List V->Hp->Prop)(h0:Pv 0 σ0 [] (upd H1 D (.lst [])))(hl:∀ i σ ys H,Pv i σ ys H->φ H/\H D=some (.lst ys))
  (hs:∀ i x σ ys H,xs[i]?=some x->Pv i σ ys H->g x σ H λσ2 H2=>tt σ2 H2 λb H3 =>
   if b=true then te σ2 H3 λy H4=>H4 D=some (.lst ys)/\ys.length<sizeLine/\Pv (i+1) σ2 (ys++[y]) (upd H4 D (.lst (ys++[y]))) else Pv (i+1) σ2 ys H3)
  (hd:∀ σ ys H,Pv xs.length σ ys H->Q (.ref D) H):zCn (Itc φ xs) D g tt te σ0 H1 Q:=by
 exists λi m σ ys H=>m=xs.length-i/\i<=xs.length/\Pv i σ ys H,⟨xs.length,by simp,Nat.zero_le _,h0⟩;rintro i m σ ys H ⟨rfl,hi,p⟩;obtain⟨q,qd⟩:=hl i σ ys H p;exists qd;by_cases hlt:i<xs.length
 ·refine .inr ⟨⟨q,hlt⟩,Pv (i+1),λσ' zs H' z=>⟨xs.length-(i+1),by lia,rfl,hlt,z⟩,λx H' ⟨e,y⟩=>?_⟩;subst e;exact hs i x σ ys _ y p
 ·have e:i=xs.length:=by lia
  subst e;exact .inl ⟨⟨q,Nat.le_refl _⟩,hd σ ys H p⟩
theorem zHg(Pv:Nat->St->List V->Hp->Prop)(h0:Pv 0 σ0 [] (upd H1 D (.lst [])))(hl:∀ i σ ys H,Pv i σ ys H->φ H/\H D=some (.lst ys))
  (hs:∀ i x σ ys H,xs[i]?=some x->Pv i σ ys H->g x σ H λσ2 H2=>te σ2 H2 λy H4=>H4 D=some (.lst ys)/\ys.length<sizeLine/\Pv (i+1) σ2 (ys++[y]) (upd H4 D (.lst (ys++[y]))))
  (hd:∀ σ ys H,Pv xs.length σ ys H->Q (.ref D) H):zCn (Itc φ xs) D g zU9 te σ0 H1 Q:=zSl Pv h0 hl (λi x σ ys H e p=>hs i x σ ys H e p) hd
end
section
variable{X:Cx}{x y:Str}{p pos:Pos}{i e:Expr}{es:List Expr}{ty:TE}{t:TA}
theorem zL2{n:Int}(hm:∃ k,X.mg x=some (.int n k))(hg:Gl X x:=by rfl)(hd:(x ==("__debug__" : Str))=false:=by decide):PE X (.Name x pos) (tC (.int n)):=λ_ _ _ H _ I h=>by
 obtain⟨k,hm⟩:=hm;exact qP I hg hm ⟨.int n,H,I,⟨k,rfl⟩,h⟩ hd
def zVa(P:Program)(w:World)(B:Heap)(a:Addr)(kvs:List (Key×V)):Prop:=∃ vs,KV kvs vs/\B.DictOf (yX P w) a vs
def tGet(kvs:List (Key×V))(ty:TE):TE:=λσ H Q=>ty σ H λy H1=>∃(k:Key)(v:V),y=kV k/\tI kvs k=some v/\Q v H1
theorem zSd{pins:List (Addr×Obj)}{σ:St}{H:Hp}{s:Shared}{a:Addr}{kvs:List (Key×V)}{k:Key}{v:V}{u:Value}{E:Value->Shared->Prop}{Q:Value->Shared->Prop}(hb:zVa X.prog X.w X.base a kvs)(I:Inv X pins σ H s)(l:tI kvs k=some v)(r:xI (kV k) u)
  (h:∀ w' s',Inv X pins σ H s'->xI v w'->Q w' s'):s.TypeIs (.ref a) "dict" /\ wpAny (model X.prog X.w) X.A (getItem (.ref a) u) Q E s:=by
 obtain⟨vs,rel,dd⟩:=hb;have dd:s.heap.DictOf (yX X.prog X.w) a vs:=dd.at λo e=>I.bk a o e;obtain⟨w',hw,rw'⟩:=zHk.some_of (v:=v) (o:=valueAt vs k) (by rw[<- l]; exact rel.val k);exact⟨dd.typeIs,wpAny_getItem_of (zGu r) dd.mapOf hw (h w' _ (I.tok _) rw')⟩
theorem zRn{a:Addr}{kvs:List (Key×V)}(hb:zVa X.prog X.w X.base a kvs)(hm:X.mg x=some (.ref a))(hi:PE X i ty)(hs:zXt i:=by exact λ_ _=>rfl)(hg:Gl X x:=by rfl)(hd:(x ==("__debug__" : Str))=false:=by decide) :
  PE X (.Subscript (.Name x p) i pos) (tGet kvs ty):=by
 intro pins s σ H Q I h;refine zJm PySem.F.slot_dict_getitem.lookup hs (qP I hg hm (thn (hi pins s σ H _ I h) λiv s2 ⟨y,H2,I2,ry,k,v,ey,l,q2⟩=>?_) hd);subst ey;exact zSd hb I2 l ry λw' s3 I3 rw'=>⟨v,H2,I3,rw',q2⟩
structure zV1(P:Program)(w:World)(K:PySem.W.Frag)(mg:Str->Option Value)(B:Heap)(m:Nat)(kvs:List (Key×V))(k:Key)(sp:Sp):Prop where
 mk ::
 has:∃(x:Str)(f:Addr)(n:Nat)(ps:List Str),tI kvs k=some (.ref f)/\mg x=some (.ref f)/\Has P w K mg B x n ps sp/\n<=m
def tTab(tab:List (Key×Sp))(ty:TE)(t:TA):TE:=λσ H Q=>ty σ H λy H1=>∃(k:Key)(sp:Sp),y=kV k/\(k,sp)∈tab/\t σ H1 λvs H2=>sp vs H2 Q E0
theorem zW6{a:Addr}{m:Nat}{kvs:List (Key×V)}{tab:List (Key×Sp)}{p':Pos}(hb:zVa X.prog X.w X.base a kvs)(hm:X.mg x=some (.ref a))(hT:∀ r∈tab,zV1 X.prog X.w X.K X.mg X.base m kvs r.1 r.2)(hr:qM m X.A)(hi:PE X i ty)(ha:PA X (e::es) t)
  (hs:zXt i:=by exact λ_ _=>rfl) (hg:Gl X x:=by rfl) (hd:(x ==("__debug__" : Str))=false:=by decide)
  (he:starEach (e::es) X.env=(false,eval e X.env)::starEach es X.env:=by rfl) (hpl:(backTo pos (starEach es X.env)).any (·.1)=false:=by rfl)
  (hev:eval (.Call (.Subscript (.Name x p) i p') (e::es) [] pos) X.env=(do callWith pos (<- eval (.Subscript (.Name x p) i p') X.env) [] (backTo pos (starEach (e::es) X.env)) (backToKw pos (keywordEach [] X.env))):=by rfl) :
  PE X (.Call (.Subscript (.Name x p) i p') (e::es) [] pos) (tTab tab ty t):=by
 intro pins s σ H Q I h;refine Call_ (zJm PySem.F.slot_dict_getitem.lookup hs (qP I hg hm (thn (hi pins s σ H _ I h) λiv s2 ⟨y,H2,I2,ry,k,sp,ey,mem,q2⟩=>?_) hd)) hev;subst ey;obtain⟨x',f,n,ps,l,mx,⟨f',fd,F,b,kp,mx'⟩,hn⟩:=(hT _ mem).has;rw[mx] at mx';cases mx';refine zSd hb I2 l ry λw' s3 I3 rw'=>?_;cases rw';refine PySem.W.callWith_K (h₀:=X.base) I.ok.mod.kin kp (thn (ha pos pins s3 σ H2 _ I3 q2) λus s4 ⟨vs,H4,I4,r,q4⟩=>⟨I4.kIn,?_⟩) he hpl;exact zIt (dvs:=[]) (ds:=[]) F (hr.mono hn) b .nil zM3 I4 r (by rw[List.append_nil]; exact q4)
end
theorem zAq:bootBuiltins "dict" = some (.type "dict"):=by decide +kernel
section
variable{X:Cx}
theorem sU:wO X (.type "dict") (λxs H Q=>∃(a:Addr)(kvs:List (Key×V)),xs=[.ref a]/\Rd H a (.dK kvs)/\∀ p,H p=none->Q (.ref p) (upd H p (.dK kvs))):=by
 intro pins s σ H xs us Q I r h;obtain⟨a,kvs,rfl,ha,q⟩:=h;obtain⟨u,rfl,ru⟩:=zB1 r;cases ru;exact zRo I ha λp s' hp I'=>⟨.ref p,_,I',rfl,q p hp⟩
theorem tZ:wO X (.builtin "len") (λxs H Q=>∃(a:Addr)(kvs:List (Key×V)),xs=[.ref a]/\Rd H a (.dK kvs)/\Q (.int kvs.length) H):=by
 intro pins s σ H xs us Q I r h;obtain⟨a,kvs,rfl,ha,q⟩:=h;obtain⟨u,rfl,ru⟩:=zB1 r;cases ru;exact d_len I ha λt s' I'=>⟨.int kvs.length,H,I',⟨t,rfl⟩,q⟩
theorem zH8{P:Program}{w:World} : ∀{es:List DictEntry}{kvs:List (Key×V)}{vs:List (Key×Value)},KV kvs vs->Pairs (yX P w) es vs->yS (kvs.map λkv=>kV kv.1) (es.map (·.key))
 | _,_,_,.nil,.nil=>.nil
 | _,_,_,.cons ⟨r1,_⟩ t,.cons hk _ p=>by
  refine .cons ?_ (zH8 t p);dsimp only;rw[r1];rcases yW hk with ⟨j,t,e1,e2⟩ | ⟨x,t,e1,e2⟩
  ·rw[e1,e2]; exact⟨t,rfl⟩
  ·rw[e1,e2]; exact⟨t,rfl⟩
theorem qL(hc:X.calm=true):wO X (.type "list") (λxs H Q=>∃(d:Addr)(kvs:List (Key×V)),xs=[.ref d]/\Rd H d (.dK kvs)/\∀ p,H p=none->Q (.ref p) (upd H p (.lst (kvs.map λkv=>kV kv.1)))):=by
 intro pins s σ H xs us Q I r h;obtain⟨d,kvs,rfl,hd,q⟩:=h;obtain⟨u,rfl,ru⟩:=yS.one r;cases ru;obtain⟨hz,hsm,vs,rel,ob,es,age,g,ex,dat,hk,hp,hn⟩:=zGw I.hok hd;have vk:=zH8 rel hp;have hsz:es.size=kvs.length:=by
  have z:=vk.length;rw[List.length_map,List.length_map,Array.length_toList] at z;exact z.symm
 refine PySem.W.kdl_call (zUx (rows:=es) (age:=age) hsm) (show X.A.handled=none from I.ok.hd hc) ⟨ob,g,ex,dat⟩ (by rw[hsz]; exact hz) λh' tk acc c keep at' its=>?_;have eqs:acc.toList=es.toList.map (·.key):=by
  refine List.ext_getElem? λj=>?_;by_cases hj:j<es.size
  ·have ja:j<acc.size:=by rw[its.1]; exact hj
   obtain⟨hj',e⟩:=its.2 j acc[j] (by simp[ja]);rw[Array.getElem?_toList,Array.getElem?_eq_getElem ja,e,List.getElem?_map,Array.getElem?_toList,Array.getElem?_eq_getElem hj];rfl
  ·rw[List.getElem?_eq_none (by rw[Array.length_toList,its.1]; lia),List.getElem?_eq_none (by simp; lia)]
 refine⟨.ref s.heap.objs.size,_,I.laid (t':=tk) (a:=s.heap.objs.size) (o:=.lst (kvs.map λkv=>kV kv.1)) keep (Nat.le_refl _) ?_,rfl,q _ (I.hok.fresh (Nat.le_refl _))⟩;exists by rw[List.length_map]; exact hz,_,c,vk;rw[<- eqs,Array.toArray_toList];exact at'
end
end L2

namespace L2
open PySem PySem.Spec PyProof.Rows
def zI6(x:Str):List V:=x.cps.toList.map λc=>.str ⟨#[c]⟩
section
variable{X:Cx}{tg l:Expr}{te:TE}
theorem zQ9{P:Program}{w:World}{K:PySem.W.Frag}{tg:Expr}(x:Str)(t:Tok)(it:Addr):zP7 P w K tg (Itc (λ_=>True) (zI6 x)) [it] it (λi h=>h.IsStrIter it "str_ascii_iterator" x t i) where
 mem:=by simp
 obj:=λi h st b hb=>by
  have e:b=it:=by simpa using hb
  subst e;obtain⟨o,e,c,d⟩:=st;exact⟨o,e,λv z=>by rw[d] at z; cases z⟩
 keep:=λi h h' ⟨o,ho,r⟩ k=>⟨o,k it (by simp) o ho,r⟩
 item:=by
  intro X hP hw hK hc i pins s σ H E I hf st ⟨_,hi⟩;subst hP hw hK;have hi':i<x.cps.size:=by unfold zI6 at hi; rw[List.length_map,Array.length_toList] at hi; exact hi
  obtain⟨f0,f1,f2,f3,f4,f5⟩:=hf it (by simp);refine wpAny_pyNext_ascii_item st (c:=x.cps[i]) (Array.getElem?_eq_getElem hi') λh' st2 sb=>?_;have I1:Inv X pins σ H { s with heap:=h',toks:=s.toks+1 }:=I.turned (t':=s.toks+1) (λb o hb e=>(sb.2 b hb).trans e) f0 f1 f3 f4 f5;obtain⟨o,e,c,dd⟩:=id st2;exact⟨_,rfl,zKo (s:={ s with heap:=h',toks:=s.toks+1 }) e c dd (by decide) ⟨.str ⟨#[x.cps[i]]⟩,H,I1,⟨_,rfl⟩,⟨rfl,by unfold zI6; rw[List.getElem?_map,Array.getElem?_toList,Array.getElem?_eq_getElem hi']; rfl⟩,st2,λb hb=>(hf b hb).1⟩⟩
 done:=by
  intro X hP hw hK hc i pins s σ H E I hf st ⟨_,hi⟩;subst hP hw hK;have hi':x.cps.size<=i:=by unfold zI6 at hi; rw[List.length_map,Array.length_toList] at hi; exact hi
  obtain⟨f0,f1,f2,f3,f4,f5⟩:=hf it (by simp);exact wpAny_pyNext_ascii_end (I.ok.hd hc) st (Array.getElem?_eq_none hi') λh' eb=>⟨rfl,I.turned (t':=s.toks) (λb o hb e=>eb b o hb e) f0 f1 f3 f4 f5⟩
 self:=λ_ _ _ _ _ st h=>wpAny_pyIter_striter_ascii st h
def iStr(te:TE):TI:=λσ H R=>te σ H λv H1=>∃ x:Str,v=.str x/\x.cps.all (· < 128)=true/\R (Itc (λ_=>True) (zI6 x)) H1
theorem zXi(hl:PE X l te):PI X tg l (iStr te):=by
 intro pins s σ H R I h;refine thn (hl pins s σ H _ I h) λv s1 ⟨y,H1,I1,r1,x,e,ha,q⟩=>?_;subst e;obtain⟨t,rfl⟩:=r1;refine wpAny_pyIter_ascii ha ?_;refine⟨s1.heap.objs.size,[s1.heap.objs.size],_,_,H1,rfl,I1.kept (t':=s1.toks) λb o e=>Heap.get?_push_of_some _ e,zQ9 x t _,⟨_,Heap.get?_push_size _ rfl,rfl,rfl⟩,λb hb=>?_,q⟩;have e:b=s1.heap.objs.size:=by simpa using hb
 subst e;exact I1.fpOk (Nat.le_refl _) (I1.hok.fresh (Nat.le_refl _))
theorem zIf:OpR X (compareOp .LtE) (λx y H Q=>∃ i j,x=.str i/\y=.str j/\Q (.bl (!decide (j.cps.toList<i.cps.toList))) H):=by
 intro pins s σ H x y v u Q I rx ry h;obtain⟨i,j,rfl,rfl,q⟩:=h;obtain⟨t,rfl⟩:=rx;obtain⟨t',rfl⟩:=ry;exact PySem.P.le_str (yY I q rfl)
theorem zR8:SlR X (λx lo hi H Q=>∃ z:Str,x=.str z/\z.length<=sizeLine/\Q (.str (Txt.slice z lo hi)) H):=by
 intro pins s σ H x v vl vu lo hi sl Q I rx hs pl pu h;obtain⟨z,rfl,hz,q⟩:=h;obtain⟨t,rfl⟩:=rx;have fin:∀(l u:Option (Int×Tok)),l.map (·.1)=lo->u.map (·.1)=hi->(sliceMade z t l u none).post (EP X pins σ Q) s:=λl u e1 e2=>by
  subst e1 e2;exact post_val_or_str (t:=t) (s:=s) (Q:=EP X pins σ Q) ⟨Nat.le_trans (Txt.slice_le z _ _) hz,λt' k=>⟨.str (Txt.slice z _ _),H,I.tok k,⟨t',rfl⟩,q⟩⟩
 exists "str", _,F.slot_str_getitem.lookup,typeIs_str _ _ _;obtain⟨o,ho,hc,hd⟩:=hs;cases pl with
 | none =>
  cases pu with
  | none=>exact wpAny_getItem_str_slice (l:=none) (u:=none) (st:=none) ⟨o,ho,hc,hd⟩ rfl (fin none none rfl rfl)
  | int j tj=>exact wpAny_getItem_str_slice (l:=none) (u:=some (j,tj)) (st:=none) ⟨o,ho,hc,hd⟩ rfl (fin none (some (j,tj)) rfl rfl)
 | int i ti =>
  cases pu with
  | none=>exact wpAny_getItem_str_slice (l:=some (i,ti)) (u:=none) (st:=none) ⟨o,ho,hc,hd⟩ rfl (fin (some (i,ti)) none rfl rfl)
  | int j tj=>exact wpAny_getItem_str_slice (l:=some (i,ti)) (u:=some (j,tj)) (st:=none) ⟨o,ho,hc,hd⟩ rfl (fin (some (i,ti)) (some (j,tj)) rfl rfl)
theorem zIa:wO X (.type "str") (λxs H Q=>(∃ i:Int,xs=[.int i]/\i.natAbs.log2<1920/\Q (.str (toString i)) H)\/∃ x:Str,xs=[.str x]/\Q (.str x) H) :=
 wO.or zJa (by
  intro pins s σ H xs us Q I r h;obtain⟨x,rfl,q⟩:=h;obtain⟨u,rfl,ru⟩:=zB1 r;obtain⟨t,rfl⟩:=ru;exact PySem.P.str_of_str ⟨.str x,H,I,⟨t,rfl⟩,q⟩)
theorem zIr:∀{ts:List Str}{us:List Value},yS (ts.map V.str) us->∃ l:List (Str×Tok),us=strValues l/\l.map (·.1)=ts
 | [],_,.nil=>⟨[],rfl,rfl⟩
 | x::ts,_,.cons ⟨t,e⟩ r=>by
  obtain⟨l,e1,e2⟩:=zIr r;subst e;exact⟨(x,t)::l,by rw[e1]; rfl,by rw[List.map_cons,e2]⟩
theorem zJk(sep:Str):∀ zs:List Str,(Str.join sep zs).length<=(zs.map (·.length)).sum+zs.length*sep.length
 | []=>Nat.zero_le _
 | [y]=>by
  show y.length<=_;simp
 | y::z::l=>by
  have ih:=zJk sep (z::l);have e:(Str.join sep (y::z::l)).length=y.length+sep.length+(Str.join sep (z::l)).length:=by
   show(y++sep++Str.join sep (z::l)).length=_;rw[strLen_append,strLen_append]
  rw[e];simp only[List.map_cons,List.sum_cons,List.length_cons,Nat.succ_mul] at ih ⊢;lia
def vM(sep:Str)(ts:List Str):Nat:=(ts.map (·.length)).sum+ts.length*sep.length
theorem zEb:MtR X "str.join" (λx xs H Q=>∃(sep:Str)(a:Addr)(ts:List Str),x=.str sep/\xs=[.ref a]/\SqL X.K H a (ts.map V.str)/\vM sep ts<=sizeLine/\Q (.str (Builtin.Str.glued sep ts)) H):=by
 intro pins s σ H x xs v us Q I rx rv h;obtain⟨sep,a,ts,rfl,rfl,ha,hl,q⟩:=h;obtain⟨t,rfl⟩:=rx;obtain⟨u,rfl,ru⟩:=yS.one rv;cases ru;obtain⟨its,r,p,_⟩:=I.list ha;obtain⟨l,rfl,el⟩:=zIr r;have ht:Builtin.Str.tooLong ((l.map (·.1)).toArray.foldl (· + ·.length+sep.length) 0)=false:=by
  rw[el,PySem.StrLaws.joinTotal];exact decide_eq_false (by unfold vM at hl; lia)
 refine call_meets F.slot_str_join (typeIs_str _ _ _) F.entry_str_join (F.args_str_join_2 _ _) (meets_str_join_list sep t a l ht) ⟨p.isList,?_⟩;have gl:∀ zs:List Str,(Builtin.Str.glued sep zs).length<=vM sep zs:=λzs=>by
  rw[PySem.StrLaws.glued_eq_join];exact zJk sep zs
 match l,el with
 | [],el =>
  subst el;exact⟨Nat.le_trans (gl []) hl,⟨.str _,H,I.tok _,⟨_,rfl⟩,q⟩⟩
 | [y],el =>
  subst el;exact⟨.str y.1,H,I,⟨y.2,rfl⟩,q⟩
 | y::z::l,el =>
  subst el;exact⟨Nat.le_trans (gl _) hl,⟨.str _,H,I.tok _,⟨_,rfl⟩,q⟩⟩
end
end L2

namespace Sea
open PySem L2
inductive Dt where
 | int (i:Int)
 | str (x:Str)
 | tup (l:List Dt)
mutual
def Rep(H:Hp):Dt->V->Prop
 | .int i,v=>v=.int i
 | .str x,v=>v=.str x
 | .tup l,v=>∃(a:Addr)(xs:List V),v=.ref a/\H a=some (.tup xs)/\yV H l xs
def yV(H:Hp):List Dt->List V->Prop
 | [],xs=>xs=[]
 | d::l,xs=>∃(x:V)(r:List V),xs=x::r/\Rep H d x/\yV H l r
end
def xJ(φ:Addr->Prop)(H H':Hp):Prop:=∀ b o,¬ φ b->H b=some o->H' b=some o\/∃(ob:Obj)(kvs:List (Key×V)),o=.dK kvs/\H' b=some (.frz ob (.dK kvs))
abbrev Sam(H H':Hp):Prop:=xJ (λ_=>False) H H'
section
variable{φ ψ:Addr->Prop}{H H1 H2:Hp}{a:Addr}{xs:List V}
theorem xJ.of(s:Same H H1):xJ φ H H1:=λb o _ e=>.inl (s b o e)
theorem xJ.refl(H:Hp):xJ φ H H:=λ_ _ _ e=>.inl e
theorem xJ.trans(s:xJ φ H H1)(t:xJ φ H1 H2):xJ φ H H2:=λb o n e=>by
 rcases s b o n e with e1 | ⟨ob,kvs,e0,e1⟩
 ·exact t b o n e1
 ·subst e0;rcases t b _ n e1 with e2 | ⟨_,_,z,_⟩
  ·exact .inr ⟨ob,kvs,rfl,e2⟩
  ·cases z
theorem xJ.wider(s:xJ φ H H1)(h:∀ b,φ b->ψ b):xJ ψ H H1:=λb o n e=>s b o (λz=>n (h b z)) e
theorem xJ.lst(s:xJ φ H H1)(n:¬ φ a)(e:H a=some (.lst xs)):H1 a=some (.lst xs):=by
 rcases s a _ n e with z | ⟨_,_,z,_⟩
 ·exact z
 ·cases z
theorem xJ.tup(s:xJ φ H H1)(n:¬ φ a)(e:H a=some (.tup xs)):H1 a=some (.tup xs):=by
 rcases s a _ n e with z | ⟨_,_,z,_⟩
 ·exact z
 ·cases z
theorem xJ.ins(s:xJ φ H H1)(n:¬ φ a){C dx:Addr}{fs:List (Str×V)}(e:H a=some (.ins C dx fs)):H1 a=some (.ins C dx fs):=by
 rcases s a _ n e with z | ⟨_,_,z,_⟩
 ·exact z
 ·cases z
theorem xJ.rd(s:xJ φ H H1)(n:¬ φ a){kvs:List (Key×V)}(e:Rd H a (.dK kvs)):Rd H1 a (.dK kvs):=by
 rcases e with e | ⟨ob,e⟩
 ·rcases s a _ n e with z | ⟨ob,kvs',z,w⟩
  ·exact .inl z
  ·cases z;exact .inr ⟨ob,w⟩
 ·rcases s a _ n e with z | ⟨_,_,z,_⟩
  ·exact .inr ⟨ob,z⟩
  ·cases z
theorem xJ.some(s:xJ φ H H1)(n:¬ φ a){o:HO}(e:H a=some o):∃ o',H1 a=some o':=by
 rcases s a _ n e with z | ⟨_,_,_,w⟩
 ·exact⟨_,z⟩
 ·exact⟨_,w⟩
theorem xJ.free(s:xJ φ H H1)(n:¬ φ a)(e:H1 a=none):H a=none:=by
 cases q:H a with
 | none=>rfl
 | some o =>
  obtain⟨o',z⟩:=s.some n q;rw[e] at z;cases z
theorem zEl{d:Addr}{o:Obj}{kvs:List (Key×V)}(hd:Rd H d (.dK kvs))(f:zRg d o kvs H H1):xJ φ H H1:=λb u _ e=>by
 by_cases z:b=d
 ·subst z;rcases hd with hd | ⟨o',hd⟩
  ·rw[hd] at e;cases e;exact .inr ⟨o,kvs,rfl,f.1⟩
  ·rw[hd] at e;cases e;rw[<- f.2.2 o' hd] at f;exact .inl f.1
 ·exact .inl (by rw[f.2.1 b z]; exact e)
end
mutual
theorem Rep.sam{φ:Addr->Prop}{H H1:Hp}(s:xJ φ H H1)(np:∀ b xs,H b=some (.tup xs)->¬ φ b):∀{d:Dt}{v:V},Rep H d v->Rep H1 d v
 | .int _,_,h=>by rw[Rep] at h ⊢; exact h
 | .str _,_,h=>by rw[Rep] at h ⊢; exact h
 | .tup l,v,h=>by
  rw[Rep] at h ⊢;obtain⟨a,xs,e,h1,h2⟩:=h;exact⟨a,xs,e,s.tup (np a xs h1) h1,yV.sam s np h2⟩
theorem yV.sam{φ:Addr->Prop}{H H1:Hp}(s:xJ φ H H1)(np:∀ b xs,H b=some (.tup xs)->¬ φ b):∀{l:List Dt}{xs:List V},yV H l xs->yV H1 l xs
 | [],_,h=>by rw[yV] at h ⊢; exact h
 | d::l,xs,h=>by
  rw[yV] at h ⊢;obtain⟨x,r,e,h1,h2⟩:=h;exact⟨x,r,e,Rep.sam s np h1,yV.sam s np h2⟩
end
section
variable{H H1:Hp}
theorem no_f{H:Hp} : ∀ b xs,H b=some (.tup xs)->¬ (λ_:Addr=>False) b:=λ_ _ _ z=>z
theorem Rep.to{d:Dt}{v:V}(h:Rep H d v)(s:Sam H H1):Rep H1 d v:=h.sam s no_f
theorem yV.to{l:List Dt}{xs:List V}(h:yV H l xs)(s:Sam H H1):yV H1 l xs:=h.sam s no_f
theorem yE{i:Int}{v:V} : Rep H (.int i) v↔v=.int i:=by rw[Rep]
theorem zY{x:Str}{v:V} : Rep H (.str x) v↔v=.str x:=by rw[Rep]
theorem yL{l:List Dt}{v:V} : Rep H (.tup l) v↔∃(a:Addr)(xs:List V),v=.ref a/\H a=some (.tup xs)/\yV H l xs:=by rw[Rep]
theorem zX{xs:List V} : yV H [] xs↔xs=[]:=by rw[yV]
theorem zI{d:Dt}{l:List Dt}{xs:List V} : yV H (d::l) xs↔∃(x:V)(r:List V),xs=x::r/\Rep H d x/\yV H l r:=by rw[yV]
theorem yV.length:∀{l:List Dt}{xs:List V},yV H l xs->xs.length=l.length
 | [],_,h=>by rw[zX.mp h]; rfl
 | d::l,_,h=>by
  obtain⟨x,r,e,_,h2⟩:=zI.mp h;rw[e,List.length_cons,List.length_cons,yV.length h2]
theorem yV.back:∀{l:List Dt}{xs:List V}{i:Nat}{x:V},yV H l xs->xs[i]?=some x->∃ d,l[i]?=some d/\Rep H d x
 | [],_,i,x,h,e=>by rw[zX.mp h] at e; simp at e
 | d::l,_,0,x,h,e=>by
  obtain⟨y,r,ex,h1,_⟩:=zI.mp h;rw[ex] at e;simp at e;subst e;exact⟨d,rfl,h1⟩
 | d::l,_,i+1,x,h,e=>by
  obtain⟨y,r,ex,_,h2⟩:=zI.mp h;rw[ex] at e;obtain⟨d',h3,h4⟩:=yV.back (i:=i) (x:=x) h2 (by simpa using e);exact⟨d',by simpa using h3,h4⟩
theorem yV.app:∀{l m:List Dt}{xs ys:List V},yV H l xs->yV H m ys->yV H (l++m) (xs++ys)
 | [],_,_,_,h,k=>by rw[zX.mp h]; exact k
 | d::l,_,_,_,h,k=>by
  obtain⟨x,r,e,h1,h2⟩:=zI.mp h;rw[e];exact zI.mpr ⟨x,_,rfl,h1,yV.app h2 k⟩
theorem yV.one{d:Dt}{v:V}(h:Rep H d v):yV H [d] [v]:=zI.mpr ⟨v,[],rfl,h,zX.mpr rfl⟩
theorem yV.two{d e:Dt}{v u:V}(h:Rep H d v)(k:Rep H e u):yV H [d,e] [v,u]:=zI.mpr ⟨v,_,rfl,h,.one k⟩
end
structure xO(H:Hp)(kvs:List (Key×V))(es:List (Key×Dt)):Prop where
 keys:kvs.map (·.1)=es.map (·.1)
 vals:yV H (es.map (·.2)) (kvs.map (·.2))
def zAg(H:Hp)(a:Addr)(es:List (Key×Dt)):Prop:=∃ kvs,Rd H a (.dK kvs)/\xO H kvs es
def look(es:List (Key×Dt))(k:Key):Option Dt:=(es.find? λe=>decide (e.1=k)).map (·.2)
def zS4(es:List (Key×Dt))(k:Key)(d:Dt):List (Key×Dt):=if es.any (λe=>decide (e.1=k)) then es.map λe=>if e.1=k then(e.1,d) else e else es++[(k,d)]
def zHl(es:List (Key×Dt))(k:Key):List (Key×Dt):=es.filter λe=>decide (e.1≠k)
theorem xO.nil{H:Hp} : xO H [] []:=⟨rfl,zX.mpr rfl⟩
theorem xO.cons_iff{H:Hp}{kvs:List (Key×V)}{k:Key}{d:Dt}{es:List (Key×Dt)} : xO H kvs ((k,d)::es)↔∃(v:V)(r:List (Key×V)),kvs=(k,v)::r/\Rep H d v/\xO H r es:=by
 constructor
 ·rintro⟨h1,h2⟩;cases kvs with
  | nil=>simp at h1
  | cons p r =>
   obtain⟨k',v⟩:=p;simp only[List.map_cons,List.cons.injEq] at h1;obtain⟨e1,e2⟩:=h1;subst e1;obtain⟨x,r',e,h3,h4⟩:=zI.mp h2;simp only[List.map_cons,List.cons.injEq] at e;obtain⟨e3,e4⟩:=e;subst e3 e4;exact⟨v,r,rfl,h3,e2,h4⟩
 ·rintro⟨v,r,rfl,h1,h2⟩;exact⟨by simp[h2.keys],zI.mpr ⟨v,_,rfl,h1,h2.vals⟩⟩
theorem xO.nil_iff{H:Hp}{kvs:List (Key×V)}(h:xO H kvs []):kvs=[]:=by
 have:=h.keys;simpa using this
theorem xO.to{H H1:Hp}{kvs:List (Key×V)}{es:List (Key×Dt)}(h:xO H kvs es)(s:Sam H H1):xO H1 kvs es:=⟨h.keys,h.vals.to s⟩
theorem xO.sam{φ:Addr->Prop}{H H1:Hp}{kvs:List (Key×V)}{es:List (Key×Dt)}(h:xO H kvs es)(s:xJ φ H H1)(np:∀ b xs,H b=some (.tup xs)->¬ φ b):xO H1 kvs es:=⟨h.keys,h.vals.sam s np⟩
theorem zAg.to{H H1:Hp}{a:Addr}{es:List (Key×Dt)}(h:zAg H a es)(s:Sam H H1):zAg H1 a es:=let ⟨kvs,h1,h2⟩:=h;⟨kvs,s.rd id h1,h2.to s⟩
theorem xO.length{H:Hp}{kvs:List (Key×V)}{es:List (Key×Dt)}(h:xO H kvs es):kvs.length=es.length:=by
 have:=congrArg List.length h.keys;simpa using this
theorem xO.get{H:Hp}{k:Key} : ∀{es:List (Key×Dt)}{kvs:List (Key×V)}{d:Dt},xO H kvs es->look es k=some d->∃ v,tI kvs k=some v/\Rep H d v
 | [],_,_,_,e=>by simp[look] at e
 | (k',d')::es,kvs,d,h,e=>by
  obtain⟨v,r,rfl,h1,h2⟩:=xO.cons_iff.mp h;by_cases z:k'=k
  ·rw[wJ z];simp only[look,List.find?_cons,decide_eq_true z,Option.map_some,Option.some.injEq] at e;subst e;exact⟨v,rfl,h1⟩
  ·rw[xT z];refine xO.get h2 ?_;simp only[look,List.find?_cons,decide_eq_false z] at e;exact e
theorem xO.none{H:Hp}{k:Key} : ∀{es:List (Key×Dt)}{kvs:List (Key×V)},xO H kvs es->look es k=none->tI kvs k=none
 | [],_,h,_=>by rw[h.nil_iff]; rfl
 | (k',d')::es,kvs,h,e=>by
  obtain⟨v,r,rfl,h1,h2⟩:=xO.cons_iff.mp h;by_cases z:k'=k
  ·simp[look,List.find?_cons,z] at e
  ·rw[xT z];refine xO.none h2 ?_;simp only[look,List.find?_cons,decide_eq_false z] at e;exact e
theorem xO.isSome{H:Hp}{k:Key}{es:List (Key×Dt)}{kvs:List (Key×V)}(h:xO H kvs es):(tI kvs k).isSome=(look es k).isSome:=by
 cases e:look es k with
 | none=>rw[h.none e]; rfl
 | some d =>
  obtain⟨v,z,_⟩:=h.get e;rw[z];rfl
theorem xO.any{H:Hp}{k:Key} : ∀{es:List (Key×Dt)}{kvs:List (Key×V)},xO H kvs es->(kvs.any λe=>decide (e.1=k))=es.any λe=>decide (e.1=k)
 | [],_,h=>by rw[h.nil_iff]; rfl
 | (k',d')::es,kvs,h=>by
  obtain⟨v,r,rfl,h1,h2⟩:=xO.cons_iff.mp h;rw[List.any_cons,List.any_cons,xO.any h2]
theorem xO.rep{H:Hp}{k:Key}{v:V}{d:Dt}(hv:Rep H d v):∀{es:List (Key×Dt)}{kvs:List (Key×V)},xO H kvs es->xO H (kvs.map λe=>if e.1=k then(e.1,v) else e) (es.map λe=>if e.1=k then(e.1,d) else e)
 | [],_,h=>by rw[h.nil_iff]; exact .nil
 | (k',d')::es,kvs,h=>by
  obtain⟨u,r,rfl,h1,h2⟩:=xO.cons_iff.mp h;rw[List.map_cons,List.map_cons];by_cases z:k'=k
  ·rw[if_pos z,if_pos z];exact xO.cons_iff.mpr ⟨v,_,rfl,hv,xO.rep hv h2⟩
  ·rw[if_neg z,if_neg z];exact xO.cons_iff.mpr ⟨u,_,rfl,h1,xO.rep hv h2⟩
theorem xO.app{H:Hp}{k:Key}{v:V}{d:Dt}(hv:Rep H d v):∀{es:List (Key×Dt)}{kvs:List (Key×V)},xO H kvs es->xO H (kvs++[(k,v)]) (es++[(k,d)])
 | [],_,h=>by rw[h.nil_iff]; exact xO.cons_iff.mpr ⟨v,[],rfl,hv,.nil⟩
 | (k',d')::es,kvs,h=>by
  obtain⟨u,r,rfl,h1,h2⟩:=xO.cons_iff.mp h;exact xO.cons_iff.mpr ⟨u,_,rfl,h1,xO.app hv h2⟩
theorem xO.put{H:Hp}{k:Key}{v:V}{d:Dt}{es:List (Key×Dt)}{kvs:List (Key×V)}(h:xO H kvs es)(hv:Rep H d v):xO H (tR kvs k v) (zS4 es k d):=by
 unfold tR zS4;rw[h.any];split
 ·exact h.rep hv
 ·exact h.app hv
theorem xO.drop{H:Hp}{k:Key} : ∀{es:List (Key×Dt)}{kvs:List (Key×V)},xO H kvs es->xO H (zCz kvs k) (zHl es k)
 | [],_,h=>by rw[h.nil_iff]; exact .nil
 | (k',d')::es,kvs,h=>by
  obtain⟨u,r,rfl,h1,h2⟩:=xO.cons_iff.mp h;unfold zCz zHl;by_cases z:k'=k
  ·rw[List.filter_cons_of_neg (by simp[z]),List.filter_cons_of_neg (by simp[z])];exact xO.drop h2
  ·rw[List.filter_cons_of_pos (by simp[z]),List.filter_cons_of_pos (by simp[z])];exact xO.cons_iff.mpr ⟨u,_,rfl,h1,xO.drop h2⟩
end Sea

namespace Sea
open PySem L2
inductive Deed where
 | mark (n:Str) (x y:Int)
 | move (n:Str) (x y:Int)
 | unmark (n:Str)
 | bank (n:Str) (cs:List (Int×Int))
 | level (n:Str)
 | sail (x y:Int)
 | right (k x y:Int)
 | bearing (m:Int) (n:Str) (a b c d:Int)
 | range (m:Int) (l r:Str)
 | strike (k:Int)
def ptD(p:Int×Int):Dt:=.tup [.int p.1,.int p.2]
def Deed.dt:Deed->Dt
 | .mark n x y=>.tup [.str "mark", .str n,.int x,.int y]
 | .move n x y=>.tup [.str "move", .str n,.int x,.int y]
 | .unmark n=>.tup [.str "unmark", .str n]
 | .bank n cs=>.tup [.str "bank", .str n,.tup (cs.map ptD)]
 | .level n=>.tup [.str "level", .str n]
 | .sail x y=>.tup [.str "sail", .int x,.int y]
 | .right k x y=>.tup [.str "right", .int k,.int x,.int y]
 | .bearing m n a b c d=>.tup [.str "bearing", .int m,.str n,ptD (a,b),ptD (c,d)]
 | .range m l r=>.tup [.str "range", .int m,.str l,.str r]
 | .strike k=>.tup [.str "strike", .int k]
structure BS where
 marks:List (Str×Int×Int)
 banks:List (Str×List (Int×Int))
 runs:List (Int×Int)
 notes:List (Int×Deed)
 coming:Int
def BS.nil:BS:=⟨[],[],[],[],1⟩
def mkE(l:List (Str×Int×Int)):List (Key×Dt):=l.map λe=>(.inr e.1,ptD e.2)
def bkE(l:List (Str×List (Int×Int))):List (Key×Dt):=l.map λe=>(.inr e.1,.tup (e.2.map ptD))
def rnE(l:List (Int×Int)):List (Key×Dt):=l.zipIdx.map λe=>(.inl (e.2:Int),ptD e.1)
def ntE(l:List (Int×Deed)):List (Key×Dt):=l.map λe=>(.inl e.1,e.2.dt)
def stK(m b r n:Addr)(k:Int):List (Key×V):=[(.inr "marks", .ref m),(.inr "banks", .ref b),(.inr "runs", .ref r),(.inr "notes", .ref n),(.inr "coming", .int k)]
structure StA(H:Hp)(d m b r n:Addr)(S:BS):Prop where
 at_:Rd H d (.dK (stK m b r n S.coming))
 ma:zAg H m (mkE S.marks)
 ba:zAg H b (bkE S.banks)
 ru:zAg H r (rnE S.runs)
 no:zAg H n (ntE S.notes)
def zKf(H:Hp)(d:Addr)(S:BS):Prop:=∃ m b r n,StA H d m b r n S
theorem StA.to{H H1:Hp}{d m b r n:Addr}{S:BS}(h:StA H d m b r n S)(s:Sam H H1):StA H1 d m b r n S:=⟨s.rd id h.at_,h.ma.to s,h.ba.to s,h.ru.to s,h.no.to s⟩
theorem zKf.to{H H1:Hp}{d:Addr}{S:BS}(h:zKf H d S)(s:Sam H H1):zKf H1 d S:=let ⟨m,b,r,n,q⟩:=h;⟨m,b,r,n,q.to s⟩
def zV(S:BS)(n:Str):Option (Int×Int):=(S.marks.find? λe=>decide (e.1=n)).map (·.2)
theorem qW{S:BS}{n:Str} : look (mkE S.marks) (.inr n)=(zV S n).map ptD:=by
 unfold look mkE zV;rw[List.find?_map];have e:((λe:Key×Dt=>decide (e.1=Sum.inr n)) ∘ λe:Str×Int×Int=>((Sum.inr e.1,ptD e.2):Key×Dt))=λe=>decide (e.1=n):=by
  funext e
  simp
 rw[e];cases S.marks.find? λe=>decide (e.1=n) <;> rfl
structure Few(S:BS):Prop where
 ma:S.marks.length<=60
 ba:S.banks.length<=60
 ru:S.runs.length<=60
 no:S.notes.length<=60
def sN(x:Str):Prop:=1<=x.length/\x.length<=8/\∀ c∈x.cps.toList,97<=c/\c<=122
def zFr(p:Int×Int):Prop:=-1000<=p.1/\p.1<=1000/\-1000<=p.2/\p.2<=1000
def zCy(p:Int×Int):Prop:=p≠(0,0)/\-100<=p.1/\p.1<=100/\-100<=p.2/\p.2<=100
def aft(S:BS):Deed->BS
 | .mark n x y=>{ S with marks:=S.marks++[(n,x,y)] }
 | .move n x y=>{ S with marks:=S.marks.map λe=>if e.1=n then(e.1,x,y) else e }
 | .unmark n=>{ S with marks:=S.marks.filter λe=>decide (e.1≠n) }
 | .bank n cs=>{ S with banks:=S.banks++[(n,cs)] }
 | .level n=>{ S with banks:=S.banks.filter λe=>decide (e.1≠n) }
 | .sail x y=>{ S with runs:=S.runs++[(x,y)] }
 | .right k x y=>{ S with runs:=S.runs.set k.toNat (x,y) }
 | .bearing m n a b c d=>{ S with notes:=S.notes++[(S.coming,.bearing m n a b c d)],coming:=S.coming+1 }
 | .range m l r=>{ S with notes:=S.notes++[(S.coming,.range m l r)],coming:=S.coming+1 }
 | .strike k=>{ S with notes:=S.notes.filter λe=>decide (e.1≠k) }
def zVz(S:BS):Deed->Prop
 | .bearing _ _ _ _ _ _=>True
 | .range _ l r=>∃ p u,zV S l=some p/\zV S r=some u/\p≠u
 | _=>False
def zFz(n:Str):Deed->Prop
 | .bearing _ k _ _ _ _=>k≠n
 | .range _ l r=>l≠n/\r≠n
 | _=>False
def zVb(cs:List (Int×Int)):Bool:=isB (cs.map λc=>(0,c))
def okD(S:BS):Deed->Prop
 | .mark n x y=>sN n/\zV S n=none/\zFr (x,y)/\S.marks.length<20
 | .move n x y=>(zV S n).isSome=true/\zFr (x,y)/\∀ e∈S.notes,zVz (aft S (.move n x y)) e.2
 | .unmark n=>(zV S n).isSome=true/\∀ e∈S.notes,zFz n e.2
 | .bank n cs=>sN n/\n ∉ S.banks.map (·.1)/\(∀ c∈cs,zFr c)/\zVb cs=true/\S.banks.length<8
 | .level n=>n∈S.banks.map (·.1)
 | .sail x y=>zFr (x,y)/\S.runs.length<12
 | .right k x y=>0<=k/\k<S.runs.length/\zFr (x,y)
 | .bearing m n a b c d=>0<=m/\m<=S.runs.length/\(zV S n).isSome=true/\zCy (a,b)/\zCy (c,d)/\0<a*d-b*c/\S.notes.length<24
 | .range m l r=>0<=m/\m<=S.runs.length/\(zV S l).isSome=true/\(zV S r).isSome=true/\zV S l≠zV S r/\S.notes.length<24
 | .strike k=>k∈S.notes.map (·.1)
def zMd(S:BS):Prop:=∀ e∈S.notes,e.1<S.coming
theorem vV{es:List (Key×Dt)}{k:Key}{d:Dt}(h:∀ e∈es,e.1≠k):zS4 es k d=es++[(k,d)]:=by
 unfold zS4;rw[if_neg];intro z;obtain⟨e,he,q⟩:=List.any_eq_true.mp z;exact h e he (of_decide_eq_true q)
theorem zJl(l:List (Str×Int×Int))(n:Str)(x y:Int):mkE (l++[(n,x,y)])=mkE l++[(.inr n,ptD (x,y))]:=by
 unfold mkE;rw[List.map_append];rfl
theorem zT1(l:List (Int×Int))(x y:Int):rnE (l++[(x,y)])=rnE l++[(.inl (l.length:Int),ptD (x,y))]:=by
 unfold rnE;rw[List.zipIdx_append,List.map_append];simp
theorem zKk(l:List (Int×Deed))(k:Int)(D:Deed):ntE (l++[(k,D)])=ntE l++[(.inl k,D.dt)]:=by
 unfold ntE;rw[List.map_append];rfl
theorem zR1{l:List (Int×Int)} : ∀ e∈rnE l,e.1≠.inl (l.length:Int):=λe he z=>by
 unfold rnE at he;obtain⟨q,hq,rfl⟩:=List.mem_map.mp he;obtain⟨q1,q2⟩:=q;have:=List.snd_lt_of_mem_zipIdx hq;have z':(Sum.inl (q2:Int):Key)=Sum.inl (l.length:Int):=z;injection z' with z'
 simp at this;lia
theorem zG9{S:BS}(h:zMd S):∀ e∈ntE S.notes,e.1≠.inl S.coming:=λe he z=>by
 unfold ntE at he;obtain⟨q,hq,rfl⟩:=List.mem_map.mp he;have:=h q hq;have z':(Sum.inl q.1:Key)=Sum.inl S.coming:=z;injection z' with z'
 lia
theorem zGt{S:BS}{n:Str}(h:zV S n=none):∀ e∈mkE S.marks,e.1≠.inr n:=λe he z=>by
 unfold mkE at he;obtain⟨q,hq,rfl⟩:=List.mem_map.mp he;have z':(Sum.inr q.1:Key)=Sum.inr n:=z;injection z' with z'
 unfold zV at h;rw[Option.map_eq_none_iff,List.find?_eq_none] at h;exact h q hq (by simp[z'])
theorem zQp(a b c d e:V):zB5 [] [(.inr "marks", a),(.inr "banks", b),(.inr "runs", c),(.inr "notes", d),(.inr "coming", e)]=[(.inr "marks", a),(.inr "banks", b),(.inr "runs", c),(.inr "notes", d),(.inr "coming", e)]:=by kernel_rfl
theorem zQ1(a b c d e:V):zB5 [] [(.inr "marks", a),(.inr "banks", b),(.inr "runs", c),(.inr "notes", d),(.inr "next", e)]=[(.inr "marks", a),(.inr "banks", b),(.inr "runs", c),(.inr "notes", d),(.inr "next", e)]:=by kernel_rfl
theorem tT{m b r n:Addr}{k:Int} : tI (stK m b r n k) (.inr "marks")=some (.ref m):=by kernel_rfl
theorem zA6{m b r n:Addr}{k:Int} : tI (stK m b r n k) (.inr "banks")=some (.ref b):=by kernel_rfl
theorem zAn{m b r n:Addr}{k:Int} : tI (stK m b r n k) (.inr "runs")=some (.ref r):=by kernel_rfl
theorem zAc{m b r n:Addr}{k:Int} : tI (stK m b r n k) (.inr "notes")=some (.ref n):=by kernel_rfl
theorem zD5{m b r n:Addr}{k:Int} : tI (stK m b r n k) (.inr "coming")=some (.int k):=by kernel_rfl
theorem zEn{m b r n c:Addr}{k:Int} : tR (stK m b r n k) (.inr "marks") (.ref c)=stK c b r n k:=by kernel_rfl
theorem zH9{m b r n c:Addr}{k:Int} : tR (stK m b r n k) (.inr "banks") (.ref c)=stK m c r n k:=by kernel_rfl
theorem zK1{m b r n c:Addr}{k:Int} : tR (stK m b r n k) (.inr "runs") (.ref c)=stK m b c n k:=by kernel_rfl
theorem zHr{m b r n c:Addr}{k:Int} : tR (stK m b r n k) (.inr "notes") (.ref c)=stK m b r c k:=by kernel_rfl
theorem zMl{m b r n:Addr}{k j:Int} : tR (stK m b r n k) (.inr "coming") (.int j)=stK m b r n j:=by kernel_rfl
theorem Rd.same{H H1:Hp}{a:Addr}{u:HO}(h:Rd H a u)(s:Same H H1):Rd H1 a u:=h.imp (s _ _) λ⟨o,e⟩=>⟨o,s _ _ e⟩
theorem zAg.nil{H:Hp}{a:Addr}(h:H a=some (.dK [])):zAg H a []:=⟨[],.inl h,.nil⟩
theorem zB9{H:Hp}{p:Int×Int}{v:V}(h:Rep H (ptD p) v):∃ a,v=.ref a/\H a=some (.tup [.int p.1,.int p.2]):=by
 obtain⟨a,xs,e,h1,h2⟩:=yL.mp h;obtain⟨x,r,rfl,h3,h4⟩:=zI.mp h2;obtain⟨y,r',rfl,h5,h6⟩:=zI.mp h4;rw[yE.mp h3,yE.mp h5,zX.mp h6] at h1;exact⟨a,e,h1⟩
theorem sB{H:Hp}{p:Int×Int}{a:Addr}(h:H a=some (.tup [.int p.1,.int p.2])):Rep H (ptD p) (.ref a):=yL.mpr ⟨a,_,rfl,h,.two (yE.mpr rfl) (yE.mpr rfl)⟩
section
variable{H:Hp}{v:V}
theorem zJq{n:Str}{x y:Int}(h:Rep H (Deed.mark n x y).dt v):∃ a,v=.ref a/\H a=some (.tup [.str "mark", .str n,.int x,.int y]):=by
 obtain⟨a,xs,e,h1,h2⟩:=yL.mp h;obtain⟨_,_,rfl,k1,h2⟩:=zI.mp h2;obtain⟨_,_,rfl,k2,h2⟩:=zI.mp h2;obtain⟨_,_,rfl,k3,h2⟩:=zI.mp h2;obtain⟨_,_,rfl,k4,h2⟩:=zI.mp h2;rw[zY.mp k1,zY.mp k2,yE.mp k3,yE.mp k4,zX.mp h2] at h1;exact⟨a,e,h1⟩
theorem zJ7{x y:Int}(h:Rep H (Deed.sail x y).dt v):∃ a,v=.ref a/\H a=some (.tup [.str "sail", .int x,.int y]):=by
 obtain⟨a,xs,e,h1,h2⟩:=yL.mp h;obtain⟨_,_,rfl,k1,h2⟩:=zI.mp h2;obtain⟨_,_,rfl,k3,h2⟩:=zI.mp h2;obtain⟨_,_,rfl,k4,h2⟩:=zI.mp h2;rw[zY.mp k1,yE.mp k3,yE.mp k4,zX.mp h2] at h1;exact⟨a,e,h1⟩
theorem tD{m:Int}{n:Str}{a b c d:Int}(h:Rep H (Deed.bearing m n a b c d).dt v):∃ t p q,v=.ref t/\H t=some (.tup [.str "bearing", .int m,.str n,.ref p,.ref q])/\H p=some (.tup [.int a,.int b])/\H q=some (.tup [.int c,.int d]):=by
 obtain⟨t,xs,e,h1,h2⟩:=yL.mp h;obtain⟨_,_,rfl,k1,h3⟩:=zI.mp h2;obtain⟨_,_,rfl,k2,h4⟩:=zI.mp h3;obtain⟨_,_,rfl,k3,h5⟩:=zI.mp h4;obtain⟨_,_,rfl,k4,h6⟩:=zI.mp h5;obtain⟨_,_,rfl,k5,h7⟩:=zI.mp h6;obtain⟨p,rfl,hp⟩:=zB9 k4;obtain⟨q,rfl,hq⟩:=zB9 k5;have e6:=zX.mp h7;rw[zY.mp k1,yE.mp k2,zY.mp k3,e6] at h1;exact⟨t,p,q,e,h1,hp,hq⟩
theorem qY{m:Int}{l r:Str}(h:Rep H (Deed.range m l r).dt v):∃ t,v=.ref t/\H t=some (.tup [.str "range", .int m,.str l,.str r]):=by
 obtain⟨t,xs,e,h1,h2⟩:=yL.mp h;obtain⟨_,_,rfl,k1,h2⟩:=zI.mp h2;obtain⟨_,_,rfl,k2,h2⟩:=zI.mp h2;obtain⟨_,_,rfl,k3,h2⟩:=zI.mp h2;obtain⟨_,_,rfl,k4,h2⟩:=zI.mp h2;rw[zY.mp k1,yE.mp k2,zY.mp k3,zY.mp k4,zX.mp h2] at h1;exact⟨t,e,h1⟩
end
theorem zE1{H:Hp}{v:V}{k:Int}(h:Rep H (Deed.strike k).dt v):∃ t,v=.ref t/\H t=some (.tup [.str "strike", .int k]):=by
 obtain⟨t,xs,e,h1,h2⟩:=yL.mp h;obtain⟨_,_,rfl,k1,h2⟩:=zI.mp h2;obtain⟨_,_,rfl,k2,h2⟩:=zI.mp h2;rw[zY.mp k1,yE.mp k2,zX.mp h2] at h1;exact⟨t,e,h1⟩
theorem zLr(l:List (Int×Deed))(k:Int):zHl (ntE l) (.inl k)=ntE (l.filter λe=>decide (e.1≠k)):=by
 unfold zHl ntE;rw[List.filter_map]
 congr 1
 refine List.filter_congr λe _=>?_;simp
theorem zLx{l:List (Int×Deed)}{k:Int}(h:k∈l.map (·.1)):∃ d,look (ntE l) (.inl k)=some d:=by
 obtain⟨e,he,rfl⟩:=List.mem_map.mp h;unfold look;cases q:(ntE l).find? λx=>decide (x.1=Sum.inl e.1) with
 | none =>
  have:=List.find?_eq_none.mp q (.inl e.1,e.2.dt) (List.mem_map.mpr ⟨e,he,rfl⟩);simp at this
 | some x=>exact⟨x.2,rfl⟩
def zEc(φ:Deed->Prop):Sp:=λvs H Q _=>∃(d:Addr)(v:V)(S:BS)(D:Deed),vs=[.ref d,v]/\φ D/\zKf H d S/\Rep H D.dt v/\okD S D/\Few S/\zMd S /\
 ∀(d':Addr)(H':Hp),Sam H H'->H d'=none->zKf H' d' (aft S D)->Q (.ref d') H'
theorem StA.stKlen{m b r n:Addr}{k:Int} : (stK m b r n k).length<=100:=by show 5<=100; decide
theorem xO.le{H:Hp}{kvs:List (Key×V)}{es:List (Key×Dt)}(h:xO H kvs es){n:Nat}(hn:es.length<=n):kvs.length<=n:=by rw[h.length]; exact hn
theorem zEj(l:List (Str×Int×Int)):(mkE l).length=l.length:=by unfold mkE; rw[List.length_map]
theorem zHe(l:List (Int×Int)):(rnE l).length=l.length:=by unfold rnE; rw[List.length_map,List.length_zipIdx]
theorem zOh(l:List (Int×Deed)):(ntE l).length=l.length:=by unfold ntE; rw[List.length_map]
end Sea

namespace Sea
open PySem L2
def bkF(d p l:Addr):List (Str×V):=[("state", .ref d),("past", .ref p),("later", .ref l)]
theorem zC5{d p l:Addr} : (bkF d p l).lookup ("state" : Str)=some (.ref d):=by kernel_rfl
theorem zG6{d p l:Addr} : (bkF d p l).lookup ("past" : Str)=some (.ref p):=by kernel_rfl
theorem zLa{d p l:Addr} : (bkF d p l).lookup ("later" : Str)=some (.ref l):=by kernel_rfl
theorem zB8{d p l c:Addr} : zDf "state" (.ref c) (bkF d p l)=bkF c p l:=by kernel_rfl
theorem zHs{d p l c:Addr} : zDf "later" (.ref c) (bkF d p l)=bkF d p c:=by kernel_rfl
theorem zTa{d p l:Addr} : zDf "later" (.ref l) (zDf "past" (.ref p) (zDf "state" (.ref d) []))=bkF d p l:=by kernel_rfl
def xF(H:Hp):List (Deed×BS)->List V->Prop
 | [],xs=>xs=[]
 | (D,S)::r,xs=>∃(t d:Addr)(v:V)(ys:List V),xs=.ref t::ys/\H t=some (.tup [v,.ref d])/\Rep H D.dt v/\zKf H d S/\xF H r ys
structure BkA(C:Addr)(H:Hp)(b p dx d l:Addr)(ps ls:List V)(S:BS)(past later:List (Deed×BS)):Prop where
 ob:H b=some (.ins C dx (bkF d p l))
 st:zKf H d S
 pa:H p=some (.lst ps)
 la:H l=some (.lst ls)
 pp:xF H past ps
 ll:xF H later ls
 ne:l≠p
def zJ8(C:Addr)(H:Hp)(b p:Addr)(S:BS)(past later:List (Deed×BS)):Prop:=∃ dx d l ps ls,BkA C H b p dx d l ps ls S past later
section
variable{φ:Addr->Prop}{H H1:Hp}
theorem zAg.samE{a:Addr}{es:List (Key×Dt)}(h:zAg H a es)(s:xJ φ H H1)(nd:∀ a kvs,Rd H a (.dK kvs)->¬ φ a)(np:∀ a xs,H a=some (.tup xs)->¬ φ a):zAg H1 a es:=let ⟨kvs,h1,h2⟩:=h;⟨kvs,s.rd (nd _ _ h1) h1,h2.sam s np⟩
theorem zKf.samE{d:Addr}{S:BS}(h:zKf H d S)(s:xJ φ H H1)(nd:∀ a kvs,Rd H a (.dK kvs)->¬ φ a)(np:∀ a xs,H a=some (.tup xs)->¬ φ a):zKf H1 d S :=
 let ⟨m,b,r,n,q⟩:=h;⟨m,b,r,n,s.rd (nd _ _ q.at_) q.at_,q.ma.samE s nd np,q.ba.samE s nd np,q.ru.samE s nd np,q.no.samE s nd np⟩
theorem xF.samE(s:xJ φ H H1)(nd:∀ a kvs,Rd H a (.dK kvs)->¬ φ a)(np:∀ a xs,H a=some (.tup xs)->¬ φ a):∀{l:List (Deed×BS)}{xs:List V},xF H l xs->xF H1 l xs
 | [],_,h=>h
 | (D,S)::r,xs,h=>by
  obtain⟨t,d,v,ys,e,h1,h2,h3,h4⟩:=h;exact⟨t,d,v,ys,e,s.tup (np _ _ h1) h1,h2.sam s np,h3.samE s nd np,xF.samE s nd np h4⟩
theorem xF.app{D:Deed}{S:BS}{t d:Addr}{v:V}(h1:H t=some (.tup [v,.ref d]))(h2:Rep H D.dt v)(h3:zKf H d S):∀{l:List (Deed×BS)}{xs:List V},xF H l xs->xF H (l++[(D,S)]) (xs++[.ref t])
 | [],xs,h=>by
  have h:xs=[]:=h;rw[h];exact⟨t,d,v,[],rfl,h1,h2,h3,rfl⟩
 | (D',S')::r,xs,h=>by
  obtain⟨t',d',v',ys,e,g1,g2,g3,g4⟩:=h;rw[e];exact⟨t',d',v',_,rfl,g1,g2,g3,xF.app h1 h2 h3 g4⟩
theorem xF.len:∀{l:List (Deed×BS)}{xs:List V},xF H l xs->xs.length=l.length
 | [],xs,h=>by have h:xs=[]:=h; rw[h]; rfl
 | (D,S)::r,xs,h=>by
  obtain⟨t,d,v,ys,e,_,_,_,h4⟩:=h;rw[e,List.length_cons,List.length_cons,xF.len h4]
abbrev Bp(b p:Addr):Addr->Prop:=λx=>x=b\/x=p
theorem zXj{b p:Addr}{C dx:Addr}{fs:List (Str×V)}{ps:List V}(hb:H b=some (.ins C dx fs))(hp:H p=some (.lst ps)):∀ a kvs,Rd H a (.dK kvs)->¬ Bp b p a:=λa kvs h z=>by
 rcases z with z | z <;> subst z <;> rcases h with h | ⟨o,h⟩
 ·rw[hb] at h; cases h
 ·rw[hb] at h; cases h
 ·rw[hp] at h; cases h
 ·rw[hp] at h; cases h
theorem zXc{b p:Addr}{C dx:Addr}{fs:List (Str×V)}{ps:List V}(hb:H b=some (.ins C dx fs))(hp:H p=some (.lst ps)):∀ a xs,H a=some (.tup xs)->¬ Bp b p a:=λa xs h z=>by
 rcases z with z | z <;> subst z
 ·rw[hb] at h; cases h
 ·rw[hp] at h; cases h
theorem BkA.to{C b p dx d l:Addr}{ps ls:List V}{S:BS}{past later:List (Deed×BS)}(k:BkA C H b p dx d l ps ls S past later)(s:Sam H H1):BkA C H1 b p dx d l ps ls S past later :=
 ⟨s.ins id k.ob,k.st.to s,s.lst id k.pa,s.lst id k.la,k.pp.samE s (λ_ _ _=>id) (λ_ _ _=>id),k.ll.samE s (λ_ _ _=>id) (λ_ _ _=>id),k.ne⟩
theorem zJ8.to{C b p:Addr}{S:BS}{past later:List (Deed×BS)}(k:zJ8 C H b p S past later)(s:Sam H H1):zJ8 C H1 b p S past later:=let ⟨dx,d,l,ps,ls,q⟩:=k;⟨dx,d,l,ps,ls,q.to s⟩
theorem zP9{d p l:Addr}{m:Str}(h1:m ≠ "state")(h2:m ≠ "past")(h3:m ≠ "later"):(bkF d p l).lookup m=none:=by
 unfold bkF;rw[List.lookup_cons,beq_eq_false_iff_ne.mpr h1,List.lookup_cons,beq_eq_false_iff_ne.mpr h2,List.lookup_cons,beq_eq_false_iff_ne.mpr h3];rfl
end
end Sea

namespace Sea
open PySem L2
def abc:Str := "abcdefghijklmnopqrstuvwxyz"
theorem zRh:abc.cps.toList=(List.range 26).map (97 + ·):=by decide +kernel
theorem zS3{i:Int}(h0:0<=i)(h1:i<26):atI abc.cps.toList i=some (97+i.toNat):=by
 obtain⟨n,rfl⟩:=Int.eq_ofNat_of_zero_le h0;refine qR ?_;rw[zRh,List.getElem?_map,List.getElem?_range (by lia)];rfl
def chS(c:Nat):Str:=⟨#[c]⟩
def txt(l:List Nat):Str:=⟨l.toArray⟩
theorem rL(l:List Nat):(txt l).length=l.length:=by
 show l.toArray.size=_;exact List.size_toArray
theorem zUp{l m:List Nat}(h:txt l=txt m):l=m:=by
 have:=congrArg (λx:Str=>x.cps.toList) h;simpa [txt] using this
theorem zGq(l m:List Nat):txt l++txt m=txt (l++m):=by
 show(⟨l.toArray++m.toArray⟩:Str)=⟨(l++m).toArray⟩;rw[List.append_toArray]
theorem zNe:∀ l:List Nat,Str.join "" (l.map chS)=txt l
 | []=>rfl
 | [c]=>rfl
 | c::d::l=>by
  show chS c++("" : Str)++Str.join "" ((d::l).map chS)=_;rw[zNe (d::l)];show txt [c]++txt []++txt (d::l)=_;rw[zGq,zGq];rfl
theorem zQc(l:List Nat):Builtin.Str.glued "" (l.map chS)=txt l:=by
 rw[PySem.StrLaws.glued_eq_join];exact zNe l
theorem zMv(l:List Nat):vM "" (l.map chS)=l.length:=by
 unfold vM;rw[show("" : Str).length=0 from by decide,Nat.mul_zero,Nat.add_zero]
 induction l with
 | nil=>rfl
 | cons c l ih =>
  rw[List.map_cons,List.map_cons,List.sum_cons,ih,List.length_cons];show 1+l.length=_;lia
theorem zMh(l:List Nat)(k:Nat)(h:k<=l.length):Txt.slice (txt l) none (some (k:Int))=txt (l.take k):=by
 have e:Builtin.Str.strSliceIndices none (some (k:Int)) 1 (txt l).length=List.range k:=by
  unfold Builtin.Str.strSliceIndices sliceRange;rw[rL];have c1:¬ ((k:Int)<0):=by lia
  have c2:max 0 (min (k:Int) (l.length:Int))=k:=by lia
  simp only[c1,if_false,show(1:Int)>0 by decide,if_true,c2];by_cases z:(0:Int)<k
  ·rw[if_pos z];have c3:(((k:Int)-0+1-1)/1).toNat=k:=by lia
   rw[c3];refine List.ext_getElem (by simp) λi h1 h2=>?_;simp
  ·have c4:k=0:=by lia
   subst c4;simp
 unfold Txt.slice;rw[e,List.length_range,rL];by_cases c:k=l.length
 ·rw[if_pos (by simp[c]),List.take_of_length_le (by lia)]
 ·rw[if_neg (by simp; exact c)];show(⟨_⟩:Str)=⟨_⟩
  congr 1
  congr 1
  refine List.ext_getElem? λi=>?_;rw[List.getElem?_take];have h2:(List.range k).filterMap (λj=>(txt l).cps[j]?)=l.take k:=by
   have:∀ m,m<=l.length->(List.range m).filterMap (λj=>(txt l).cps[j]?)=l.take m:=by
    intro m
    induction m with
    | zero=>intro _; simp
    | succ m ih =>
     intro hm;rw[List.range_succ,List.filterMap_append,ih (by lia),List.take_succ]
     congr 1
     rw[List.getElem?_eq_getElem (by lia)];simp[txt,List.filterMap_cons,show m<l.length by lia]
   exact this k h
  rw[h2,List.getElem?_take]
theorem zL4(l:List Nat)(k:Nat)(h:k<=l.length):Txt.slice (txt l) (some (k:Int)) none=txt (l.drop k):=by
 have e:Builtin.Str.strSliceIndices (some (k:Int)) none 1 (txt l).length=(List.range (l.length-k)).map (k + ·):=by
  unfold Builtin.Str.strSliceIndices sliceRange;rw[rL];have c1:¬ ((k:Int)<0):=by lia
  have c2:max 0 (min (k:Int) (l.length:Int))=k:=by lia
  simp only[c1,if_false,show(1:Int)>0 by decide,if_true,c2];by_cases z:(k:Int)<l.length
  ·rw[if_pos z];have c3:(((l.length:Int)-k+1-1)/1).toNat=l.length-k:=by lia
   rw[c3];refine List.ext_getElem (by simp) λi h1 h2=>?_;simp;lia
  ·have c4:l.length-k=0:=by lia
   rw[if_neg z,c4];rfl
 unfold Txt.slice;rw[e,List.length_map,List.length_range,rL];by_cases c:k=0
 ·subst c;rw[if_pos (by simp)];rfl
 ·by_cases c0:l.length=0
  ·have:l=[]:=List.length_eq_zero_iff.mp c0;subst this;rw[if_pos (by simp)];rw[List.drop_nil]
  rw[if_neg (by simp; lia)];show(⟨_⟩:Str)=⟨_⟩
  congr 1
  congr 1
  have:∀ m,m<=l.length-k->((List.range m).map (k + ·)).filterMap (λj=>(txt l).cps[j]?)=(l.drop k).take m:=by
   intro m
   induction m with
   | zero=>intro _; simp
   | succ m ih =>
    intro hm;rw[List.range_succ,List.map_append,List.filterMap_append,ih (by lia),List.take_succ]
    congr 1
    rw[List.getElem?_drop,List.getElem?_eq_getElem (by lia)];simp[txt,List.filterMap_cons,show k+m<l.length by lia]
  rw[this _ (Nat.le_refl _),List.take_of_length_le (by simp)]
theorem zRx{l:List Nat}{p c:Nat}(h:p<l.length):l.take p++[c]++l.drop (p+1)=l.set p c:=by
 rw[List.set_eq_take_append_cons_drop,if_pos h];simp
theorem zRz{l:List Nat}{p c:Nat}(h:p<l.length):Txt.slice (txt l) none (some (p:Int))++chS c++Txt.slice (txt l) (some ((p:Int)+1)) none=txt (l.set p c):=by
 rw[zMh l p (by lia),show((p:Int)+1)=((p+1:Nat):Int) from rfl,zL4 l (p+1) (by lia)];show txt _++txt [c]++txt _=_;rw[zGq,zGq,zRx h]
theorem zM5{l:List Nat}(h1:1<=l.length)(h8:l.length<=8)(h:∀ c∈l,97<=c/\c<=122):sN (txt l):=⟨by rw[rL]; exact h1,by rw[rL]; exact h8,λc hc=>h c (by simpa [txt] using hc)⟩
theorem zUg{l:List Nat}{p r:Nat}(hp:p<l.length){ws:List Str}(hw:ws.length<26):¬ ∀ j,j<26->txt (l.set p (97+(r+j)%26))∈ws:=λh=>by
 have nd:((List.range 26).map λj=>txt (l.set p (97+(r+j)%26))).Nodup:=by
  refine List.nodup_iff_pairwise_ne.mpr (List.pairwise_map.mpr ?_);refine List.Pairwise.imp_of_mem ?_ (List.nodup_iff_pairwise_ne.mp List.nodup_range);intro a b ha hb ne z;have ha:=List.mem_range.mp ha;have hb:=List.mem_range.mp hb;have z:=zUp z;have z:=congrArg (λm:List Nat=>m[p]?) z;simp only[List.getElem?_set_self hp,Option.some.injEq] at z;lia
 have:=nd.length_le_of_subset (l₂:=ws) λx hx=>by
  obtain⟨j,hj,rfl⟩:=List.mem_map.mp hx;exact h j (List.mem_range.mp hj)
 rw[List.length_map,List.length_range] at this;lia
theorem zUy(x y:Str):eqV (.str x) (.str y)=decide (x=y):=by
 unfold eqV
 first
  | rfl
  | simp
  | (by_cases h:x=y <;> simp[h])
theorem zUt(x:Str)(ns:List Str):inV (.str x) (ns.map V.str)=decide (x∈ns):=by
 unfold inV
 induction ns with
 | nil=>simp
 | cons y ns ih =>
  rw[List.map_cons,List.any_cons,ih,zUy];by_cases h:x=y
  ·subst h; simp
  ·simp[h,Ne.symm h]
theorem zOt(ns:List Str):(ns.map V.str).all zGo=true:=by
 rw[List.all_map];exact List.all_eq_true.mpr λ_ _=>rfl
end Sea

namespace Sea
open PySem L2
def lwK(m b r n:Addr)(k:Int):List (Key×V):=[(.inr "marks", .ref m),(.inr "banks", .ref b),(.inr "runs", .ref r),(.inr "notes", .ref n),(.inr "next", .int k)]
section
variable{m b r n c:Addr}{k j:Int}
theorem xD:tI (lwK m b r n k) (.inr "marks")=some (.ref m):=by kernel_rfl
theorem zGj:tI (lwK m b r n k) (.inr "banks")=some (.ref b):=by kernel_rfl
theorem tW:tI (lwK m b r n k) (.inr "runs")=some (.ref r):=by kernel_rfl
theorem uV:tI (lwK m b r n k) (.inr "notes")=some (.ref n):=by kernel_rfl
theorem zFb:tI (lwK m b r n k) (.inr "next")=some (.int k):=by kernel_rfl
theorem zE2:tR (lwK m b r n k) (.inr "next") (.int j)=lwK m b r n j:=by kernel_rfl
end
structure LwA(H:Hp)(d m b r n:Addr)(S:BS):Prop where
 at_:Rd H d (.dK (lwK m b r n S.coming))
 ma:zAg H m (mkE S.marks)
 ba:zAg H b (bkE S.banks)
 ru:∃ rs,H r=some (.lst rs)/\yV H (S.runs.map ptD) rs
 no:zAg H n (ntE S.notes)
def zVy(H:Hp)(d:Addr)(S:BS):Prop:=∃ m b r n,LwA H d m b r n S
section
variable{φ:Addr->Prop}{H H1:Hp}{d m b r n:Addr}{S:BS}
theorem LwA.samE(h:LwA H d m b r n S)(s:xJ φ H H1)(nd:∀ a kvs,Rd H a (.dK kvs)->¬ φ a)(np:∀ a xs,H a=some (.tup xs)->¬ φ a)(nl:∀ xs,H r=some (.lst xs)->¬ φ r):LwA H1 d m b r n S :=
 ⟨s.rd (nd _ _ h.at_) h.at_,h.ma.samE s nd np,h.ba.samE s nd np,let ⟨rs,h1,h2⟩:=h.ru;⟨rs,s.lst (nl _ h1) h1,h2.sam s np⟩,h.no.samE s nd np⟩
theorem LwA.to(h:LwA H d m b r n S)(s:Sam H H1):LwA H1 d m b r n S:=h.samE s (λ_ _ _=>id) (λ_ _ _=>id) (λ_ _=>id)
theorem yV.drop:∀{l:List Dt}{xs:List V}(k:Nat),yV H l xs->yV H (l.drop k) (xs.drop k)
 | _,_,0,h=>h
 | [],_,k+1,h=>by rw[zX.mp h]; exact zX.mpr rfl
 | d::l,_,k+1,h=>by
  obtain⟨x,r,e,_,h2⟩:=zI.mp h;rw[e];exact yV.drop k h2
theorem yV.take:∀{l:List Dt}{xs:List V}(k:Nat),yV H l xs->yV H (l.take k) (xs.take k)
 | _,_,0,h=>zX.mpr rfl
 | [],_,k+1,h=>by rw[zX.mp h]; exact zX.mpr rfl
 | d::l,_,k+1,h=>by
  obtain⟨x,r,e,h1,h2⟩:=zI.mp h;rw[e];exact zI.mpr ⟨x,_,rfl,h1,yV.take k h2⟩
theorem zO4{ps:List (Int×Int)}{xs:List V}{i:Nat}{x:V}(h:yV H (ps.map ptD) xs)(e:xs[i]?=some x):∃(p:Int×Int)(a:Addr),ps[i]?=some p/\x=.ref a/\H a=some (.tup [.int p.1,.int p.2]):=by
 obtain⟨d,g,hd⟩:=h.back e;rw[List.getElem?_map,Option.map_eq_some_iff] at g;obtain⟨p,gp,rfl⟩:=g;obtain⟨a,e1,e2⟩:=zB9 hd;exact⟨p,a,gp,e1,e2⟩
end
theorem zR4{xs:List V}{i j:Nat}(hj:j<=xs.length)(hi:i<=xs.length):rS xs (some (i:Int)) (some (j:Int))=(xs.drop i).take (j-i):=by
 unfold rS;rw[HT.sIx_nat,HT.sIx_nat,Nat.min_eq_left hi,Nat.min_eq_left hj]
def zDo(runs:List (Int×Int))(i j:Nat):List (Int×Int):=(runs.drop (min i j)).take (max i j-min i j)
def zE5(i j:Nat):Int:=if j<i then -1 else 1
def zCj(runs:List (Int×Int))(i j:Nat):Int×Int:=(zE5 i j*((zDo runs i j).map (·.1)).sum,zE5 i j*((zDo runs i j).map (·.2)).sum)
theorem zIq(runs:List (Int×Int))(i j:Nat):(zDo runs i j).length<=runs.length:=by
 unfold zDo;rw[List.length_take,List.length_drop];lia
theorem zJp:∀(l:List Int)(M:Nat),(∀ x∈l,x.natAbs<=M)->l.sum.natAbs<=l.length*M
 | [],_,_=>by simp
 | x::l,M,h=>by
  have ih:=zJp l M λy hy=>h y (.tail _ hy);have hx:=h x (.head _);rw[List.sum_cons,List.length_cons,Nat.add_mul,Nat.one_mul];have:=Int.natAbs_add_le x l.sum;lia
end Sea

namespace L2
open PySem PySem.Spec PyProof.Rows
theorem zFw{ns:List Str} : ∀{us:List Value},yS (ns.map V.str) us->StrsAre us ns:=by
 induction ns with
 | nil=>intro us r; rw[List.map_nil] at r; cases r; exact .nil
 | cons n ns ih =>
  intro us r;rw[List.map_cons] at r;cases r with
  | cons r1 r2 =>
   obtain⟨t,e⟩:=r1;subst e;exact .cons n t (ih r2)
theorem zWo:∀{vs:List Value}{ns:List Str},StrsAre vs ns->yS (ns.map V.str) vs
 | _,_,.nil=>.nil
 | _,_,.cons n t h=>.cons ⟨t,rfl⟩ (zWo h)
section
variable{X:Cx}
theorem zCc:wO X (.builtin "sorted") (λxs H Q=>∃(l:Addr)(ns:List Str),xs=[.ref l]/\SqL X.K H l (ns.map V.str)/\ns.length<64 /\
  ∀(p:Addr)(ms:List Str),H p=none->ms.Perm ns->sortedS ms=true->Q (.ref p) (upd H p (.lst (ms.map V.str)))):=by
 intro pins s σ H xs us Q I r h;obtain⟨l,ns,rfl,hq,h64,q⟩:=h;obtain⟨u,rfl,ru⟩:=yS.one r;cases ru;obtain⟨its,rv,pl,hz⟩:=I.list hq;have hn:=rv.length;rw[List.length_map] at hn;refine sorted_strs (ss:=ns) pl.isList (zFw rv) (by lia) λout ms a1 a2 a3=>?_;obtain⟨e,at'⟩:=sortedAll_at s.heap its out;have fr:H (s.heap.objs.size+1)=none:=I.hok.fresh (Nat.le_succ _);refine⟨.ref (s.heap.objs.size+1),_,I.laid (t':=s.toks) (a:=s.heap.objs.size+1) (o:=.lst (ms.map V.str)) (λb ob q=>sortedAll_old q) (Nat.le_succ _) ?_,rfl,q _ ms fr a2 a3⟩;refine⟨?_,out.toList,e,zWo a1,by simpa using at'⟩;rw[List.length_map,a2.length_eq];exact Nat.le_trans (Nat.le_of_lt h64) (by rw[sizeLine_eq]; decide)
end
end L2

namespace Sea
open PySem L2
section
variable{H H1:Hp}
theorem zDb:∀{l:List (Int×Deed)}{kvs:List (Key×V)},xO H kvs (ntE l)->∃ ks:List (Int×V),kvs=ks.map (λe=>(.inl e.1,e.2))/\ks.map (·.1)=l.map (·.1)/\yV H (l.map (·.2.dt)) (ks.map (·.2))
 | [],_,h=>⟨[],h.nil_iff,rfl,zX.mpr rfl⟩
 | (n,D)::l,_,h=>by
  obtain⟨v,r,rfl,h1,h2⟩:=xO.cons_iff.mp h;obtain⟨ks,rfl,e,h3⟩:=zDb (l:=l) h2;exact⟨(n,v)::ks,rfl,by rw[List.map_cons,List.map_cons,e],zI.mpr ⟨v,_,rfl,h1,h3⟩⟩
theorem zC8:∀{l:List (Str×Int×Int)}{kvs:List (Key×V)},xO H kvs (mkE l)->kvs.map (λkv=>kV kv.1)=(l.map (·.1)).map V.str
 | [],_,h=>by rw[h.nil_iff]; rfl
 | (n,p)::l,_,h=>by
  obtain⟨v,r,rfl,h1,h2⟩:=xO.cons_iff.mp h;rw[List.map_cons,zC8 h2];rfl
structure NotesAt(H:Hp)(as:List Addr)(l:List (Int×Deed)):Prop where
 len:as.length=l.length
 at_:∀(j:Nat)(a:Addr)(e:Int×Deed),as[j]?=some a->l[j]?=some e->∃ v,H a=some (.tup [.int e.1,v])/\Rep H e.2.dt v
def zVv(S:BS):Prop:=(S.notes.map (·.1)).Pairwise (· < ·)
theorem uO{S:BS}{n:Str}{p:Int×Int}(h:zV S n=some p):(n,p)∈S.marks:=by
 unfold zV at h;rw[Option.map_eq_some_iff] at h;obtain⟨e,h1,rfl⟩:=h;have h2:=List.find?_some h1;have e1:e.1=n:=of_decide_eq_true h2;rw[<- e1];exact List.mem_of_find?_eq_some h1
theorem vJ{S:BS}{n:Str}(h:n∈S.marks.map (·.1)):∃ p,zV S n=some p:=by
 obtain⟨e,h1,h2⟩:=List.mem_map.mp h;unfold zV;cases q:S.marks.find? λe=>decide (e.1=n) with
 | none=>exact absurd (List.find?_eq_none.mp q e h1) (by simp[h2])
 | some e'=>exact⟨e'.2,rfl⟩
theorem qJ{S:BS}{m:Addr}{n:Str}{p:Int×Int}(h:zAg H m (mkE S.marks))(e:zV S n=some p):∃(kvs:List (Key×V))(a:Addr),Rd H m (.dK kvs)/\tI kvs (.inr n)=some (.ref a)/\H a=some (.tup [.int p.1,.int p.2]):=by
 obtain⟨kvs,h1,h2⟩:=h;obtain⟨v,g,r⟩:=h2.get (k:=.inr n) (d:=ptD p) (by rw[qW,e]; rfl);obtain⟨a,rfl,ha⟩:=zB9 r;exact⟨kvs,a,h1,g,ha⟩
theorem zKl:∀{l:List (Int×Int)}{k i:Nat}{p:Int×Int},l[i]?=some p->look ((l.zipIdx k).map λe=>((.inl (e.2:Int):Key),ptD e.1)) (.inl ((k+i:Nat):Int))=some (ptD p)
 | [],_,_,_,e=>by simp at e
 | q::l,k,0,p,e=>by
  simp at e;subst e;simp[look,List.zipIdx_cons]
 | q::l,k,i+1,p,e=>by
  have ih:=zKl (l:=l) (k:=k+1) (i:=i) (p:=p) (by simpa using e);rw[List.zipIdx_cons,List.map_cons];unfold look at ih ⊢;rw[List.find?_cons,decide_eq_false (by intro z; injection z with z; simp at z; lia)];rw[show k+1+i=k+(i+1) by lia] at ih;exact ih
end
section
variable{H H1:Hp}{S:BS}
structure MarksAt(H:Hp)(S:BS)(as:List Addr)(ms:List Str):Prop where
 mk ::
 len:as.length=ms.length
 at_:∀(j:Nat)(a:Addr)(n:Str),as[j]?=some a->ms[j]?=some n->∃ p:Int×Int,zV S n=some p/\H a=some (.tup [.str n,.int p.1,.int p.2])
theorem xC{D:Addr}{u o:HO}(eD:H D=some u):xJ (λx=>x=D) H (upd H D o):=λx o hx e=>.inl (by rw[zD hx]; exact e)
theorem wM{D:Addr}{zs:List V}(eD:H D=some (.lst zs)):∀ b xs,H b=some (.tup xs)->¬ b=D:=λb xs e z=>by rw[z,eD] at e; cases e
end
end Sea

namespace Sea
open PySem L2
structure zVj(H:Hp)(as:List Addr)(rows:List (List Int)):Prop where
 mk ::
 len:as.length=rows.length
 at_:∀(j:Nat)(a:Addr)(r:List Int),as[j]?=some a->rows[j]?=some r->H a=some (.tup (r.map V.int))
def vS(S:BS)(n:Str):Int×Int:=(zV S n).getD (0,0)
def sidesN(S:BS):Deed->List (List Int)
 | .bearing _ n a b c d=>[zM6 [-b,a,a*(vS S n).2-b*(vS S n).1],zM6 [d,-c,(vS S n).1*d-(vS S n).2*c]]
 | .range _ l r=>[zM6 [(vS S l).2-(vS S r).2,(vS S r).1-(vS S l).1,(vS S r).1*(vS S l).2-(vS S r).2*(vS S l).1]]
 | _=>[]
def zA0(S:BS):Deed->Prop
 | .bearing m n a b c d=>0<=m/\m<=S.runs.length/\(zV S n).isSome=true/\zCy (a,b)/\zCy (c,d)
 | .range m l r=>0<=m/\m<=S.runs.length/\(zV S l).isSome=true/\(zV S r).isSome=true/\zV S l≠zV S r
 | _=>False
structure zP2(S:BS):Prop where
 few:Few S
 fresh:zMd S
 rise:zVv S
 mk_:∀ e∈S.marks,zFr e.2
 way:∀ e∈S.runs,zFr e
 note:∀ e∈S.notes,zA0 S e.2
section
variable{H H1:Hp}{S:BS}
theorem zNi{n:Str}{p:Int×Int}(h:∀ e∈S.marks,zFr e.2)(e:zV S n=some p):zFr p:=h _ (uO e)
end
structure GroupsAt(H0 H:Hp)(gs:List Addr)(rows:List (List (List Int))):Prop where
 mk ::
 len:gs.length=rows.length
 new:∀ g∈gs,H0 g=none
 at_:∀(j:Nat)(g:Addr)(r:List (List Int)),gs[j]?=some g->rows[j]?=some r->∃ as:List Addr,H g=some (.lst (as.map V.ref))/\zVj H as r
theorem zLs:∀{l:List (Int×Deed)}{kvs:List (Key×V)}{H:Hp},xO H kvs (ntE l)->kvs.map (λkv=>kV kv.1)=(l.map (·.1)).map V.int
 | [],_,_,h=>by rw[h.nil_iff]; rfl
 | (n,D)::l,_,_,h=>by
  obtain⟨v,r,rfl,h1,h2⟩:=xO.cons_iff.mp h;rw[List.map_cons,zLs h2];rfl
theorem zOb(a b c:V):zB5 [] [(.inr "marks", a),(.inr "banks", b),(.inr "runs", c)]=[(.inr "marks", a),(.inr "banks", b),(.inr "runs", c)]:=by kernel_rfl
theorem zTk(a b c d:V):tR [((.inr "marks" : Key),a),(.inr "banks", b),(.inr "runs", c)] (.inr "notes") d=[(.inr "marks", a),(.inr "banks", b),(.inr "runs", c),(.inr "notes", d)]:=by kernel_rfl
theorem zT5(a b c d e:V):tR [((.inr "marks" : Key),a),(.inr "banks", b),(.inr "runs", c),(.inr "notes", d)] (.inr "next") e=[(.inr "marks", a),(.inr "banks", b),(.inr "runs", c),(.inr "notes", d),(.inr "next", e)]:=by kernel_rfl
theorem zD9{H:Hp}{D:Addr}{kvs:List (Key×V)}(eD:H D=some (.dK kvs)):∀ b xs,H b=some (.tup xs)->¬ b=D:=λb xs e z=>by rw[z,eD] at e; cases e
theorem zL6{runs:List (Int×Int)}{j:Nat}(h:runs.length<=3)(hb:∀ e∈runs,e.1.natAbs<=4/\e.2.natAbs<=4):(zCj runs 0 j).1.natAbs<=12/\(zCj runs 0 j).2.natAbs<=12:=by
 have hs:∀ e∈zDo runs 0 j,e∈runs:=λe he=>List.mem_of_mem_drop (List.mem_of_mem_take he);have l:=zIq runs 0 j;have a:=zJp ((zDo runs 0 j).map (·.1)) 4 λx hx=>by
  obtain⟨e,he,rfl⟩:=List.mem_map.mp hx;exact(hb e (hs e he)).1
 have b:=zJp ((zDo runs 0 j).map (·.2)) 4 λx hx=>by
  obtain⟨e,he,rfl⟩:=List.mem_map.mp hx;exact(hb e (hs e he)).2
 rw[List.length_map] at a b;unfold zCj zE5;split <;> exact⟨by dsimp only; lia,by dsimp only; lia⟩
theorem zK7{k p q:Int}(hk:1<=k)(h:¬ (p=0/\q=0)):0<(k*p+q)*(k*q+p)-(k*q-p)*(k*p-q):=by
 have e:(k*p+q)*(k*q+p)-(k*q-p)*(k*p-q)=2*k*(p*p+q*q):=by grind
 rw[e];have h1:0<=p*p:=by rcases Int.le_total 0 p with z | z; exact Int.mul_nonneg z z; exact Int.mul_nonneg_of_nonpos_of_nonpos z z
 have h2:0<=q*q:=by rcases Int.le_total 0 q with z | z; exact Int.mul_nonneg z z; exact Int.mul_nonneg_of_nonpos_of_nonpos z z
 have h3:0<p*p+q*q:=by
  rcases Decidable.em (p=0) with z | z
  ·have z':q≠0:=λw=>h ⟨z,w⟩;have:q*q≠0:=Int.mul_ne_zero z' z';lia
  ·have:p*p≠0:=Int.mul_ne_zero z z;lia
 exact Int.mul_pos (by lia) h3
theorem uR{H:Hp}{w p q:Addr}{m:Int}{n:Str}{a b c d:Int}(hw:H w=some (.tup [.str "bearing", .int m,.str n,.ref p,.ref q]))(hp:H p=some (.tup [.int a,.int b]))(hq:H q=some (.tup [.int c,.int d])):Rep H (Deed.bearing m n a b c d).dt (.ref w) :=
 yL.mpr ⟨w,_,rfl,hw,zI.mpr ⟨_,_,rfl,zY.mpr rfl,zI.mpr ⟨_,_,rfl,yE.mpr rfl,zI.mpr ⟨_,_,rfl,zY.mpr rfl,.two (sB (p:=(a,b)) hp) (sB (p:=(c,d)) hq)⟩⟩⟩⟩
theorem zIj{H:Hp}{w:Addr}{m:Int}{l r:Str}(hw:H w=some (.tup [.str "range", .int m,.str l,.str r])):Rep H (Deed.range m l r).dt (.ref w) :=
 yL.mpr ⟨w,_,rfl,hw,zI.mpr ⟨_,_,rfl,zY.mpr rfl,zI.mpr ⟨_,_,rfl,yE.mpr rfl,.two (zY.mpr rfl) (zY.mpr rfl)⟩⟩⟩
theorem zLl{H:Hp}{w:Addr}{n:Str}{x y:Int}(hw:H w=some (.tup [.str "mark", .str n,.int x,.int y])):Rep H (Deed.mark n x y).dt (.ref w) :=
 yL.mpr ⟨w,_,rfl,hw,zI.mpr ⟨_,_,rfl,zY.mpr rfl,zI.mpr ⟨_,_,rfl,zY.mpr rfl,.two (yE.mpr rfl) (yE.mpr rfl)⟩⟩⟩
theorem zMb{H:Hp}{w:Addr}{k:Int}(hw:H w=some (.tup [.str "strike", .int k])):Rep H (Deed.strike k).dt (.ref w) :=
 yL.mpr ⟨w,_,rfl,hw,.two (zY.mpr rfl) (yE.mpr rfl)⟩
theorem zKx{H:Hp}{w:Addr}{x y:Int}(hw:H w=some (.tup [.str "sail", .int x,.int y])):Rep H (Deed.sail x y).dt (.ref w) :=
 yL.mpr ⟨w,_,rfl,hw,zI.mpr ⟨_,_,rfl,zY.mpr rfl,.two (yE.mpr rfl) (yE.mpr rfl)⟩⟩
theorem zFq{a b c d:Int}(t:0<a*d-b*c)(h1:a.natAbs<=100)(h2:b.natAbs<=100)(h3:c.natAbs<=100)(h4:d.natAbs<=100):zCy (a,b)/\zCy (c,d):=by
 refine⟨⟨λz=>?_,by dsimp only; lia,by dsimp only; lia,by dsimp only; lia,by dsimp only; lia⟩,⟨λz=>?_,by dsimp only; lia,by dsimp only; lia,by dsimp only; lia,by dsimp only; lia⟩⟩
 ·injection z with z1 z2
  rw[z1,z2] at t;simp at t
 ·injection z with z1 z2
  rw[z1,z2] at t;simp at t
end Sea

namespace Sea
open PySem L2
theorem sM{S:BS}{n:Str}{e:Str×Int×Int}(h:(zV S n).isSome=true):zV { S with marks:=S.marks++[e] } n=zV S n:=by
 unfold zV at h ⊢;dsimp only;rw[List.find?_append];cases q:S.marks.find? λe=>decide (e.1=n) with
 | none=>rw[q] at h; simp at h
 | some e'=>rfl
theorem zMk{S:BS}{D:Deed}{e:Str×Int×Int}(h:zA0 S D):zA0 { S with marks:=S.marks++[e] } D:=by
 match D,h with
 | .bearing m n a b c d,h=>exact⟨h.1,h.2.1,by rw[sM h.2.2.1]; exact h.2.2.1,h.2.2.2⟩
 | .range m l r,h=>exact⟨h.1,h.2.1,by rw[sM h.2.2.1]; exact h.2.2.1,by rw[sM h.2.2.2.1]; exact h.2.2.2.1,by rw[sM h.2.2.1,sM h.2.2.2.1]; exact h.2.2.2.2⟩
theorem zPq{S:BS}{D:Deed}{e:Int×Int}(h:zA0 S D):zA0 { S with runs:=S.runs++[e] } D:=by
 match D,h with
 | .bearing m n a b c d,h=>exact⟨h.1,by have:=h.2.1; dsimp only; rw[List.length_append]; simp only[List.length_cons,List.length_nil]; lia,h.2.2⟩
 | .range m l r,h=>exact⟨h.1,by have:=h.2.1; dsimp only; rw[List.length_append]; simp only[List.length_cons,List.length_nil]; lia,h.2.2⟩
theorem zBw{S:BS}{D:Deed}{l:List (Int×Deed)}{k:Int}(h:zA0 S D):zA0 { S with notes:=l,coming:=k } D:=by
 match D,h with
 | .bearing m n a b c d,h=>exact h
 | .range m l r,h=>exact h
theorem zDc:zP2 BS.nil:=⟨⟨by decide,by decide,by decide,by decide⟩,λe he=>(nomatch he),.nil,λe he=>(nomatch he),λe he=>(nomatch he),λe he=>(nomatch he)⟩
theorem zIu{S:BS}{D:Deed}(g:zP2 S)(kn:zA0 S D)(l:S.notes.length<24):zP2 { S with notes:=S.notes++[(S.coming,D)],coming:=S.coming+1 }:=by
 refine⟨⟨g.few.ma,g.few.ba,g.few.ru,by show(S.notes++[_]).length<=60; rw[List.length_append]; simp only[List.length_cons,List.length_nil]; lia⟩,λe he=>?_,?_,g.mk_,g.way,λe he=>?_⟩
 ·rcases List.mem_append.mp he with z | z
  ·have:=g.fresh e z;show e.1<S.coming+1;lia
  ·rw[List.mem_singleton.mp z];show S.coming<S.coming+1;lia
 ·show((S.notes++[(S.coming,D)]).map (·.1)).Pairwise (· < ·);rw[List.map_append,List.pairwise_append];refine⟨g.rise,List.pairwise_singleton _ _,λx hx y hy=>?_⟩;obtain⟨e,he,rfl⟩:=List.mem_map.mp hx;rw[List.mem_singleton.mp hy];exact g.fresh e he
 ·rcases List.mem_append.mp he with z | z
  ·exact zBw (g.note e z)
  ·rw[List.mem_singleton.mp z];exact zBw kn
theorem zBo{n k:Str}{x y:Int} : ∀{l:List (Str×Int×Int)},((l.map λe=>if e.1=n then(e.1,x,y) else e).find? λe=>decide (e.1=k)).map (·.2)=((l.find? λe=>decide (e.1=k)).map (·.2)).map λp=>if k=n then(x,y) else p
 | []=>rfl
 | (m,p)::l=>by
  rw[List.map_cons,List.find?_cons,List.find?_cons];by_cases e1:m=n
  ·rw[if_pos e1];by_cases e2:m=k
   ·subst e1 e2;simp
   ·rw[decide_eq_false (show ¬ (m,x,y).1=k from e2)];exact zBo
  ·rw[if_neg e1];by_cases e2:m=k
   ·subst e2;simp[e1]
   ·rw[decide_eq_false (show ¬ (m,p).1=k from e2)];exact zBo
theorem qS{S:BS}{n k:Str}{x y:Int} : zV (aft S (.move n x y)) k=(zV S k).map λp=>if k=n then(x,y) else p:=zBo
theorem wX{S:BS}{n k:Str}(h:k≠n):zV (aft S (.unmark n)) k=zV S k:=by
 unfold zV;show(List.find? _ (S.marks.filter _)).map _=_;rw[List.find?_filter]
 congr 2
 funext e
 by_cases z:e.1=k
 ·simp[z,h]
 ·simp[z]
theorem qT{S:BS}{n k:Str}{x y:Int}(h:(zV S k).isSome=true):(zV (aft S (.move n x y)) k).isSome=true:=by
 rw[qS,Option.isSome_map];exact h
theorem zL5{S:BS}{D:Deed}{n:Str}{x y:Int}(h:zA0 S D)(g:zVz (aft S (.move n x y)) D):zA0 (aft S (.move n x y)) D:=by
 match D,h,g with
 | .bearing m k a b c d,h,_=>exact⟨h.1,h.2.1,qT h.2.2.1,h.2.2.2⟩
 | .range m l r,h,⟨p,u,e1,e2,ne⟩=>exact⟨h.1,h.2.1,qT h.2.2.1,qT h.2.2.2.1,by rw[e1,e2]; exact λz=>ne (Option.some.inj z)⟩
theorem zJd{S:BS}{D:Deed}{n:Str}(h:zA0 S D)(g:zFz n D):zA0 (aft S (.unmark n)) D:=by
 match D,h,g with
 | .bearing m k a b c d,h,g=>exact⟨h.1,h.2.1,by rw[wX g]; exact h.2.2.1,h.2.2.2⟩
 | .range m l r,h,g=>exact⟨h.1,h.2.1,by rw[wX g.1]; exact h.2.2.1,by rw[wX g.2]; exact h.2.2.2.1,by rw[wX g.1,wX g.2]; exact h.2.2.2.2⟩
theorem zBm{S S':BS}{D:Deed}(h:zA0 S D)(e1:S'.marks=S.marks)(e2:S'.runs.length=S.runs.length):zA0 S' D:=by
 have e:∀ n,zV S' n=zV S n:=λn=>by unfold zV; rw[e1]
 match D,h with
 | .bearing m k a b c d,h=>exact⟨h.1,by rw[e2]; exact h.2.1,by rw[e]; exact h.2.2.1,h.2.2.2⟩
 | .range m l r,h=>exact⟨h.1,by rw[e2]; exact h.2.1,by rw[e]; exact h.2.2.1,by rw[e]; exact h.2.2.2.1,by rw[e,e]; exact h.2.2.2.2⟩
theorem zQt{S:BS}{D:Deed}(g:zP2 S)(ok:okD S D):zP2 (aft S D):=by
 match D,ok with
 | .mark n x y,ok =>
  refine⟨⟨by show(S.marks++[_]).length<=60; rw[List.length_append]; have:=ok.2.2.2; simp only[List.length_cons,List.length_nil]; lia,g.few.ba,g.few.ru,g.few.no⟩,g.fresh,g.rise,λe he=>?_,g.way,λe he=>zMk (g.note e he)⟩;rcases List.mem_append.mp he with z | z
  ·exact g.mk_ e z
  ·rw[List.mem_singleton.mp z];exact ok.2.2.1
 | .sail x y,ok =>
  refine⟨⟨g.few.ma,g.few.ba,by show(S.runs++[_]).length<=60; rw[List.length_append]; have:=ok.2; simp only[List.length_cons,List.length_nil]; lia,g.few.no⟩,g.fresh,g.rise,g.mk_,λe he=>?_,λe he=>zPq (g.note e he)⟩;rcases List.mem_append.mp he with z | z
  ·exact g.way e z
  ·rw[List.mem_singleton.mp z];exact ok.1
 | .bearing m n a b c d,ok=>exact zIu g ⟨ok.1,ok.2.1,ok.2.2.1,ok.2.2.2.1,ok.2.2.2.2.1⟩ ok.2.2.2.2.2.2
 | .range m l r,ok=>exact zIu g ⟨ok.1,ok.2.1,ok.2.2.1,ok.2.2.2.1,ok.2.2.2.2.1⟩ ok.2.2.2.2.2
 | .move n x y,ok =>
  refine⟨⟨by show(S.marks.map _).length<=60; rw[List.length_map]; exact g.few.ma,g.few.ba,g.few.ru,g.few.no⟩,g.fresh,g.rise,λe he=>?_,g.way,λe he=>zL5 (g.note e he) (ok.2.2 e he)⟩;obtain⟨e',h1,rfl⟩:=List.mem_map.mp he;by_cases z:e'.1=n
  ·rw[if_pos z];exact ok.2.1
  ·rw[if_neg z];exact g.mk_ e' h1
 | .unmark n,ok =>
  exact⟨⟨Nat.le_trans (List.length_filter_le _ _) g.few.ma,g.few.ba,g.few.ru,g.few.no⟩,g.fresh,g.rise,λe he=>g.mk_ e (List.mem_filter.mp he).1,g.way,λe he=>zJd (g.note e he) (ok.2 e he)⟩
 | .bank n cs,ok =>
  exact⟨⟨g.few.ma,by show(S.banks++[_]).length<=60; rw[List.length_append]; have:=ok.2.2.2.2; simp only[List.length_cons,List.length_nil]; lia,g.few.ru,g.few.no⟩,g.fresh,g.rise,g.mk_,g.way,λe he=>zBm (g.note e he) rfl rfl⟩
 | .level n,_ =>
  exact⟨⟨g.few.ma,Nat.le_trans (List.length_filter_le _ _) g.few.ba,g.few.ru,g.few.no⟩,g.fresh,g.rise,g.mk_,g.way,λe he=>zBm (g.note e he) rfl rfl⟩
 | .right k x y,ok =>
  refine⟨⟨g.few.ma,g.few.ba,by show(S.runs.set _ _).length<=60; rw[List.length_set]; exact g.few.ru,g.few.no⟩,g.fresh,g.rise,g.mk_,λe he=>?_,λe he=>zBm (g.note e he) rfl (by show(S.runs.set _ _).length=_; rw[List.length_set])⟩;rcases List.mem_or_eq_of_mem_set he with z | z
  ·exact g.way e z
  ·rw[z];exact ok.2.2
 | .strike k,_ =>
  refine⟨⟨g.few.ma,g.few.ba,g.few.ru,Nat.le_trans (List.length_filter_le _ _) g.few.no⟩,λe he=>g.fresh e (List.mem_filter.mp he).1,?_,g.mk_,g.way,λe he=>zBw (g.note e (List.mem_filter.mp he).1)⟩;exact g.rise.sublist (List.filter_sublist.map _)
def wB:BS->List Deed->Prop
 | _,[]=>True
 | S,D::r=>okD S D/\wB (aft S D) r
def yI(S:BS)(l:List Deed):BS:=l.foldl aft S
theorem sV:∀{l:List Deed}{S:BS},zP2 S->wB S l->zP2 (yI S l)
 | [],_,g,_=>g
 | D::r,S,g,⟨h1,h2⟩=>show zP2 (yI (aft S D) r) from sV (zQt g h1) h2
theorem uQ:∀{l:List Deed}{S:BS}{D:Deed},wB S l->okD (yI S l) D->wB S (l++[D])
 | [],_,_,_,h=>⟨h,trivial⟩
 | _::_,_,_,⟨h1,h2⟩,h=>⟨h1,uQ h2 h⟩
theorem zBx:∀{l:List Deed}{S:BS}{i:Nat}{D:Deed},wB S l->l[i]?=some D->okD (yI S (l.take i)) D
 | [],_,_,_,_,e=>by simp at e
 | _::_,_,0,_,⟨h1,_⟩,e=>by
  simp at e;subst e;exact h1
 | D'::l,S,i+1,D,⟨_,h2⟩,e=>zBx (l:=l) (S:=aft S D') (i:=i) h2 (by simpa using e)
theorem zDs{l:List Deed}{S:BS}{i:Nat}{D:Deed}(e:l[i]?=some D):yI S (l.take (i+1))=aft (yI S (l.take i)) D:=by
 unfold yI;rw[List.take_succ,e,List.foldl_append];rfl
def LwN(H0 H:Hp)(d:Addr)(S:BS):Prop:=∃ m b r n,H0 r=none/\LwA H d m b r n S
structure zAi(no:List (Int×Deed))(k:Int)(i:Nat):Prop where
 mk ::
 len:no.length=i
 num:k=1+(i:Int)
 pos:∀ e∈no,1<=e.1
theorem zAi.nil:zAi [] 1 0:=⟨rfl,rfl,λe he=>(nomatch he)⟩
theorem zAi.snoc{no:List (Int×Deed)}{k:Int}{i:Nat}{D:Deed}(h:zAi no k i):zAi (no++[(k,D)]) (k+1) (i+1) :=
 ⟨by rw[List.length_append,h.len]; rfl,by rw[h.num]; lia,λe he=>by
  rcases List.mem_append.mp he with z | z
  ·exact h.pos e z
  ·rw[List.mem_singleton.mp z];have:=h.num;show 1<=k;lia⟩
def zM9:Deed->Prop
 | .mark _ _ _ | .sail _ _ | .bearing _ _ _ _ _ _ | .range _ _ _=>True
 | _=>False
def LwP(H:Hp)(d p:Addr)(S:BS):Prop:=∃ m b r n,r≠p/\LwA H d m b r n S
theorem LwP.at{H:Hp}{d p:Addr}{S:BS}(h:LwP H d p S):zVy H d S:=let ⟨m,b,r,n,_,q⟩:=h;⟨m,b,r,n,q⟩
theorem LwP.to{H H1:Hp}{d p:Addr}{S:BS}(h:LwP H d p S)(s:Sam H H1):LwP H1 d p S:=let ⟨m,b,r,n,e,q⟩:=h;⟨m,b,r,n,e,q.to s⟩
structure zSs(S:BS):Prop where
 mk ::
 lo:3<=S.marks.length
 hi:S.marks.length<=5
 bd:∀ e∈S.marks,e.2.1.natAbs<=860/\e.2.2.natAbs<=860
 bk:S.banks=[]
def zVk:Sp:=λvs H Q _=>∃(a r:Addr)(rows:List Int)(ns:List Str),vs=[.ref a,.ref r]/\H a=some (.lst (rows.map V.int))/\90<=rows.length/\(∀ x∈rows,0<=x/\x<1000003)/\H r=some (.lst (ns.map V.str))/\ns.length=5/\(∀ n∈ns,sN n)/\ns.Nodup /\
 ∀(l:Addr)(xs:List V)(Ds:List Deed)(H':Hp),Same H H'->H l=none->H' l=some (.lst xs)->yV H' (Ds.map Deed.dt) xs->Ds.length<=14->wB BS.nil Ds->(yI BS.nil Ds).runs.length<=3->(∀ D∈Ds,zM9 D)->(∃ i,i<=6/\zAi (yI BS.nil Ds).notes (yI BS.nil Ds).coming i)->zSs (yI BS.nil Ds)->Q (.ref l) H'
theorem qE:∀{l:List Deed}{S:BS}{i:Nat},wB S l->wB S (l.take i)
 | [],_,_,_=>by rw[List.take_nil]; exact trivial
 | _::_,_,0,_=>trivial
 | _::_,_,i+1,⟨h1,h2⟩=>⟨h1,qE (i:=i) h2⟩
end Sea

namespace Sea
open PySem L2
def stN(l:List (Str×Int×Int))(rs:List (Int×Int))(no:List (Int×Deed))(k:Int):BS:=⟨l,[],rs,no,k⟩
section
variable{l:List (Str×Int×Int)}{rs:List (Int×Int)}{no:List (Int×Deed)}{k:Int}
theorem zF7{n:Str}(h:n ∉ l.map (·.1)):zV (stN l rs no k) n=none:=by
 unfold zV;rw[Option.map_eq_none_iff,List.find?_eq_none];intro e he z;exact h (List.mem_map.mpr ⟨e,he,of_decide_eq_true z⟩)
theorem zUd{n:Str}{x y:Int}(hn:sN n)(h:n ∉ l.map (·.1))(hp:zFr (x,y))(hl:l.length<20):okD (stN l rs no k) (.mark n x y):=⟨hn,zF7 h,hp,hl⟩
theorem zTm{x y:Int}(hp:zFr (x,y))(hl:rs.length<12):okD (stN l rs no k) (.sail x y):=⟨hp,hl⟩
theorem zF2{m:Nat}{n:Str}{a b c d:Int}(hm:m<=rs.length)(hn:n∈l.map (·.1))(w1:zCy (a,b))(w2:zCy (c,d))(t:0<a*d-b*c)(hl:no.length<24):okD (stN l rs no k) (.bearing m n a b c d) :=
 ⟨by lia,by show(m:Int)<=(rs.length:Int); lia,by obtain⟨p,e⟩:=vJ (S:=stN l rs no k) hn; rw[e]; rfl,w1,w2,t,hl⟩
theorem zQh{m:Nat}{a b:Str}(hm:m<=rs.length)(ha:a∈l.map (·.1))(hb:b∈l.map (·.1))(ne:zV (stN l rs no k) a≠zV (stN l rs no k) b)(hl:no.length<24):okD (stN l rs no k) (.range m a b) :=
 ⟨by lia,by show(m:Int)<=(rs.length:Int); lia,by obtain⟨p,e⟩:=vJ (S:=stN l rs no k) ha; rw[e]; rfl,by obtain⟨p,e⟩:=vJ (S:=stN l rs no k) hb; rw[e]; rfl,ne,hl⟩
structure zFu(Ds:List Deed)(l:List (Str×Int×Int))(rs:List (Int×Int))(no:List (Int×Deed))(k:Int):Prop where
 mk ::
 ok:wB BS.nil Ds
 at_:yI BS.nil Ds=stN l rs no k
 four:∀ D∈Ds,zM9 D
theorem zQ6:zFu [] [] [] [] 1:=⟨trivial,rfl,λD hD=>(nomatch hD)⟩
theorem zA4{Ds:List Deed}{D:Deed}(h:∀ D∈Ds,zM9 D)(k:zM9 D):∀ E∈Ds++[D],zM9 E:=λE hE=>by
 rcases List.mem_append.mp hE with z | z
 ·exact h E z
 ·rw[List.mem_singleton.mp z]; exact k
theorem zFu.snoc{Ds:List Deed}{D:Deed}(h:zFu Ds l rs no k)(ok:okD (stN l rs no k) D):wB BS.nil (Ds++[D])/\yI BS.nil (Ds++[D])=aft (stN l rs no k) D:=by
 exists uQ h.ok (by rw[h.at_]; exact ok);have e:=h.at_;unfold yI at e ⊢;rw[List.foldl_append,e];rfl
theorem zFu.mark{Ds:List Deed}{n:Str}{x y:Int}(h:zFu Ds l rs no k)(ok:okD (stN l rs no k) (.mark n x y)):zFu (Ds++[.mark n x y]) (l++[(n,x,y)]) rs no k:=let ⟨a,b⟩:=h.snoc ok;⟨a,b,zA4 h.four trivial⟩
theorem zFu.sail{Ds:List Deed}{x y:Int}(h:zFu Ds l rs no k)(ok:okD (stN l rs no k) (.sail x y)):zFu (Ds++[.sail x y]) l (rs++[(x,y)]) no k:=let ⟨a,b⟩:=h.snoc ok;⟨a,b,zA4 h.four trivial⟩
theorem zFu.bearing{Ds:List Deed}{m:Int}{n:Str}{a b c d:Int}(h:zFu Ds l rs no k)(ok:okD (stN l rs no k) (.bearing m n a b c d)):zFu (Ds++[.bearing m n a b c d]) l rs (no++[(k,.bearing m n a b c d)]) (k+1):=let ⟨x,y⟩:=h.snoc ok;⟨x,y,zA4 h.four trivial⟩
theorem zFu.range{Ds:List Deed}{m:Int}{a b:Str}(h:zFu Ds l rs no k)(ok:okD (stN l rs no k) (.range m a b)):zFu (Ds++[.range m a b]) l rs (no++[(k,.range m a b)]) (k+1):=let ⟨x,y⟩:=h.snoc ok;⟨x,y,zA4 h.four trivial⟩
end
theorem zM0{α:Type}{l:List α}{i:Nat}{x:α}(h:l.Nodup)(e:l[i]?=some x):x ∉ l.take i:=λm=>by
 obtain⟨j,hj⟩:=List.mem_iff_getElem?.mp m;have lt:j<i:=by have:=(List.getElem?_eq_some_iff.mp hj).1; rw[List.length_take] at this; lia
 rw[List.getElem?_take,if_pos lt] at hj;obtain⟨h1,e1⟩:=List.getElem?_eq_some_iff.mp hj;obtain⟨h2,e2⟩:=List.getElem?_eq_some_iff.mp e;have:=(List.getElem_inj h).mp (e1.trans e2.symm);lia
theorem zJc{ms:List Str}{x:Int}(h:0<((ms.map V.str).length:Int)):∃ n,n∈ms/\atI (ms.map V.str) (x%((ms.map V.str).length:Int))=some (.str n):=by
 have h0:=Int.emod_nonneg x (show((ms.map V.str).length:Int)≠0 by lia);have h1:=Int.emod_lt_of_pos x h;generalize x%((ms.map V.str).length:Int)=y at h0 h1;obtain⟨k,rfl⟩:=Int.eq_ofNat_of_zero_le h0;have hk:k<ms.length:=by rw[List.length_map] at h1; lia
 exact⟨ms[k],List.getElem_mem hk,qR (by rw[List.getElem?_map,List.getElem?_eq_getElem hk]; rfl)⟩
end Sea

namespace L2
open PySem PySem.Spec PyProof.Rows
theorem xZ.some{P:Program}{w:World}{H:Hp}{h:Heap}{a:Addr}{o:HO}(x:xZ P w H h a o):∃ ob,h.get? a=some ob:=by
 cases o with
 | lst xs=>obtain⟨_,_,_,_,e⟩:=x; exact⟨_,e⟩
 | tup xs=>obtain⟨_,_,_,o,e,_⟩:=x; exact⟨_,e⟩
 | dK kvs=>obtain⟨_,_,_,_,o,_,_,e,_⟩:=x; exact⟨_,e⟩
 | dT kvs=>obtain⟨_,_,_,_,o,_,_,e,_⟩:=x; exact⟨_,e⟩
 | set S n=>obtain⟨o,_,_,_,e,_⟩:=x; exact⟨_,e⟩
 | ins C dx fs=>obtain⟨_,_,_,e,_⟩:=x; exact⟨_,e⟩
 | own y=>obtain⟨_,e⟩:=x; exact⟨_,e⟩
 | xd fs=>obtain⟨_,⟨_,_,_,e,_⟩,_⟩:=x; exact⟨_,e⟩
 | rng lo hi=>obtain⟨_,_,_,e⟩:=x; exact⟨_,e⟩
 | frz ob u=>obtain⟨e,_⟩:=x; exact⟨_,e⟩
 | tbl ps=>exact⟨_,x⟩
 | met f y=>exact⟨_,x⟩
 | ext φ=>obtain⟨_,⟨_,e⟩,_⟩:=x; exact⟨_,e⟩
section
variable{fs:List Addr}{H H':Hp}{h h2 h3 B:Heap}{P:Program}{w:World}
theorem un_on(u:Un fs [] H H' h h2)(st:B.StaysIn h3)(hB:∀ b o o',h.get? b=some o'->h2.get? b=some o->b ∉ fs->B.get? b=some o)
  (hf:∀ b∈fs,∀ o,h2.get? b=some o->∃ sl,h3.get? b=some { o with slots:=sl }):Un fs [] H H' h h3 where
 keep:=λb o q n hb hx=>st _ _ (hB b o o q (u.keep b o q n hb hx) hb)
 slot:=λb o q n hb hx=>by
  obtain⟨sl,e⟩:=u.slot b o q n hb hx;obtain⟨sl',e'⟩:=hf b hb _ e;exact⟨sl',e'⟩
 free:=u.free
 there:=λb o q hx=>by
  obtain⟨o',e⟩:=u.there b o q hx;by_cases hb:b∈fs
  ·obtain⟨sl,e'⟩:=hf b hb _ e;exact⟨_,e'⟩
  ·exact⟨o',st _ _ (hB b o' o q e hb)⟩
 tups:=u.tups
 frzs:=u.frzs
 tbls:=u.tbls
theorem zXo(ok:HOk P w H' h2)(st:B.StaysIn h3)(hB:∀ b o u,H' b=some u->h2.get? b=some o->B.get? b=some o):HOk P w H' h3:=λa o e =>
 (ok a o e).stay (λb u hb q=>st _ _ (by
  rcases hb with rfl | hb
  ·exact hB _ u o e q
  ·exact hB b u _ hb q)) (λ_ q=>q) λ_ _ q=>q
end
structure zQs(P:Program)(w:World)(outer:List Env)(H:Hp)(s:Shared)(ea:Addr)(cls a0:Value)(H':Hp)(B:Heap)(s':Shared):Prop where
 mk ::
 os:s'.os=s.os
 bare:AllBare s'.gens
 un:Un (frs outer) [] H H' s.heap s'.heap
 hok:HOk P w H' s'.heap
 new:H' ea=none
 fresh:s.heap.get? ea=none
 fly:Heap.FlyingW B outer ea cls a0 s'.heap
 has:∀ b o,s'.heap.get? b=some o->((s.heap.get? b).isSome=true\/(H' b).isSome=true)->b ∉ frs outer->B.get? b=some o
def CX1(P:Program)(w:World):CXT:=λouter H s E e s'=>∃(ea:Addr)(cls a0:Value)(H':Hp)(B:Heap),e=.ref ea/\zQs P w outer H s ea cls a0 H' B s'/\E cls none H'
theorem CX1.none{P:Program}{w:World}{outer:List Env}{H:Hp}{s s':Shared}{e:Value}(h:CX1 P w outer H s E0 e s'):False:=let ⟨_,_,_,_,_,_,_,z⟩:=h; z
theorem zHw{X:Cx}{pins:List (Addr×Obj)}{σ:St}{H2:Hp}{s2:Shared}{ea:Addr}{cls a0:Value}{B h3:Heap}{env:Env}{outer:List Env}(hs:X.stack=env::outer)(ho:X.outer=outer)(hx:X.ex=[])(hl:env.frame=some X.env.locals)(J:Inv X pins σ H2 s2)
  (hB:∀ b o,s2.heap.get? b=some o->((X.s₀.heap.get? b).isSome=true\/(H2 b).isSome=true)->b ∉ frs (env::outer)->B.get? b=some o) (nw:H2 ea=none) (fr:X.s₀.heap.get? ea=none)
  (fly:Heap.FlyingW B outer ea cls a0 h3) (up:s2.heap.UpToSlots h3):zQs X.prog X.w outer X.H₀ X.s₀ ea cls a0 H2 B { s2 with heap:=h3 }:=by
 have st:=fly.1;have notin:∀ b o,X.s₀.heap.get? b=some o->b ∉ frs outer->b ∉ frs (env::outer):=λb o q hb z=>by
  rcases List.mem_cons.mp (show b∈X.env.locals::frs outer by
   have:frs (env::outer)=X.env.locals::frs outer:=by unfold frs; rw[List.filterMap_cons,hl]
   rw[<- this]; exact z) with e | e
  ·have l:=Nat.lt_of_lt_of_le (Heap.lt_size q) J.ok.above;rw[e] at l;exact Nat.lt_irrefl _ l
  ·exact hb e
 have trk:∀ b u,H2 b=some u->b ∉ frs (env::outer):=λb u e z=>by
  have:=J.stkFree b (by rw[hs]; exact z);rw[e] at this;cases this
 have fs:X.fs=frs outer:=by show frs X.outer=_; rw[ho]
 have hf:∀ b∈frs outer,∀ o,s2.heap.get? b=some o->∃ sl,h3.get? b=some { o with slots:=sl }:=λb hb o e=>by
  obtain⟨_,o',e',nf⟩:=J.stack.mem (show b∈X.stack.filterMap (·.frame) by
   rw[hs];show b∈frs (env::outer);have:frs (env::outer)=X.env.locals::frs outer:=by unfold frs; rw[List.filterMap_cons,hl]
   rw[this];exact .tail _ hb)
  rw[e] at e';cases e';exact up b o e nf
 have un:Un (frs outer) [] X.H₀ H2 X.s₀.heap s2.heap:=by
  have:=J.base;rw[fs,hx] at this;exact this
 refine⟨J.os,J.bare,un_on un st (λb o o' q e hb=>hB b o e (.inl (by rw[q]; rfl)) (notin b o' q hb)) hf,zXo J.hok st λb o u e q=>hB b o q (.inr (by rw[e]; rfl)) (trk b u e),nw,fr,fly,λb o e z hb=>?_⟩;have key:∃ o',s2.heap.get? b=some o':=by
  rcases z with z | z
  ·obtain⟨o',q⟩:=Option.isSome_iff_exists.mp z;exact un.there b o' q (λz=>nomatch z)
  ·obtain⟨u,q⟩:=Option.isSome_iff_exists.mp z;exact(J.hok b u q).some
 obtain⟨o',e'⟩:=key;have hb':b ∉ frs (env::outer):=by
  rcases z with z | z
  ·obtain⟨o',q⟩:=Option.isSome_iff_exists.mp z;exact notin b o' q hb
  ·obtain⟨u,q⟩:=Option.isSome_iff_exists.mp z;exact trk b u q
 have hb2:=hB b o' e' z hb';have:=st _ _ hb2;rw[show({ s2 with heap:=h3 } : Shared).heap=h3 from rfl] at e;rw[this] at e;cases e;exact hb2
theorem zQs.inv{X:Cx}{pins:List (Addr×Obj)}{σ:St}{H H':Hp}{s s':Shared}{ea:Addr}{cls a0:Value}{B:Heap}(I:Inv X pins σ H s)(f:zQs X.prog X.w X.stack H s ea cls a0 H' B s'):Inv X pins σ H' s' :=
 I.call' (ch:=[]) f.os f.un f.hok f.bare λb z=>absurd z (by simp)
def zQ5(X:Cx)(EE:St->XK):Prop:=∀(pins:List (Addr×Obj))(σ:St)(H:Hp)(s:Shared)(e:Value)(s':Shared),Inv X pins σ H s->CX1 X.prog X.w X.stack H s (EE σ) e s'->X.xe e s'
def zW2(X:Cx)(EE:St->XK):Prop:=∀(pins:List (Addr×Obj))(σ:St)(H:Hp)(s:Shared)(h':Heap)(e:Addr)(cls:Value)(vs:List Value),Inv X pins σ H s->Heap.MadeExcOf s.heap h' e cls vs->EE σ cls none H->X.xe (.ref e) { s with heap:=h' }
theorem zOi{X:Cx} : zQ5 X (λ_=>E0):=λ_ _ _ _ _ _ _ h=>h.none.elim
section
variable{P:Program}{w:World}{K:PySem.W.Frag}{mg:Str->Option Value}{base:Heap}{N:List Str}{qual:Str}{scope:Scope}{f:Addr}{cd:Value}{A:Around}{outer:List Env}{s:Shared}{H:Hp}{E:XK}
theorem pass1_fn:zQ5 (cxOf (CX1 P w) P w K mg base N qual scope f cd A outer s H E) (λ_=>E):=by
 intro pins σ H1 s1 e s2 I h;obtain⟨ea,cls,a0,H2,B,rfl,fl,q⟩:=h;have J:=fl.inv I;refine wpAny_leaves_onW (base:=B) (cls:=cls) (a0:=a0) (L:=s.heap.objs.size) I.ok.frames rfl fl.fly λh3 fly up=>?_;refine⟨ea,cls,a0,H2,B,rfl,zHw (X:=cxOf (CX1 P w) P w K mg base N qual scope f cd A outer s H E) rfl rfl rfl rfl J (λb o e z hb=>fl.has b o e (z.imp (λz=>?_) id) hb) fl.new ?_ fly up,q⟩
 ·obtain⟨o',q'⟩:=Option.isSome_iff_exists.mp z;obtain⟨o'',q''⟩:=I.base.there b o' q' (λz=>nomatch z);rw[q''];rfl
 ·show s.heap.get? ea=none;cases q':s.heap.get? ea with
  | none=>rfl
  | some o' =>
   obtain⟨o'',q''⟩:=I.base.there ea o' q' (λz=>nomatch z);rw[fl.fresh] at q'';cases q''
theorem zRy:zW2 (cxOf (CX1 P w) P w K mg base N qual scope f cd A outer s H E) (λ_=>E):=by
 intro pins σ H1 s1 h' e cls vs I hx q;have hin:∀ env∈(cxOf (CX1 P w) P w K mg base N qual scope f cd A outer s H E).stack,∀ b,env.frame=some b->b∈frs (cxOf (CX1 P w) P w K mg base N qual scope f cd A outer s H E).stack:=λenv he b hb=>List.mem_filterMap.mpr ⟨env,he,hb⟩;have notin:∀ b o,s1.heap.get? b=some o->b ∉ frs (cxOf (CX1 P w) P w K mg base N qual scope f cd A outer s H E).stack->(PySem.W.hideAll s1.heap (frs (cxOf (CX1 P w) P w K mg base N qual scope f cd A outer s H E).stack)).get? b=some o:=λb o e hb=>PySem.W.hideAll_get _ e hb;refine wpAny_leaves_madeW (h:=s1.heap) (base:=PySem.W.hideAll s1.heap (frs (cxOf (CX1 P w) P w K mg base N qual scope f cd A outer s H E).stack)) (cls:=cls) (args:=vs) (L:=s.heap.objs.size) I.ok.frames rfl (λb o q=>PySem.W.of_hideAll _ q) (PySem.W.funFrames_hide I.stack hin) hx λh3 t fly _ _ up=>?_;have nw:H1 e=none:=by
  cases z:H1 e with
  | none=>rfl
  | some u =>
   obtain⟨ob,eo⟩:=(I.hok e u z).some;rw[hx.new] at eo;cases eo
 refine⟨e,cls,.ref t,H1,_,rfl,zHw (X:=cxOf (CX1 P w) P w K mg base N qual scope f cd A outer s H E) (s2:=s1) rfl rfl rfl rfl I (λb o e _ hb=>notin b o e hb) nw ?_ fly ((Heap.UpToSlots.of_keeps hx.keeps).trans up),q⟩;show s.heap.get? e=none;cases q':s.heap.get? e with
 | none=>rfl
 | some o' =>
  obtain⟨o'',q''⟩:=I.base.there e o' q' (λz=>nomatch z);rw[hx.new] at q'';cases q''
theorem Fun.okX{x qual:Str}{st:Stmt}{f:Addr}{fd:FuncData}{N ps:List Str}{k:Nat}{sp:Sp}(F:Fun K x qual st f fd)(S:zN N ps (zJ st))(len:∀ vs H Q E,sp vs H Q E->vs.length=ps.length)
  (hbody:∀(cdv:Value)(A:Around)(outer:List Env)(s:Shared)(H:Hp)(vs:List V)(Q:VK)(E:XK),qM k (A.deeper (envOfC qual (zJ st) s.heap.objs.size f cdv))->sp vs H Q E ->
   ∃ t,PSs (cxOf (CX1 P w) P w K mg base N qual (zJ st) f cdv A outer s H E) (xM st) t/\t { nx:=λ_ H'=>Q .non H',rt:=Q } (start N vs) H):xE P w K mg base (CX1 P w) (k+1) f fd ps sp:=by
 obtain⟨oc,od,kV,doc,pm,an,cdv,ct,osl,rfl,lk,hcd⟩:=F.ex;exact zVg lk hcd S len λA outer s H vs Q E hr hsp=>hbody cdv A outer s H vs Q E hr hsp
end
def zXs(P:Program)(w:World)(K:PySem.W.Frag)(mg:Str->Option Value)(base:Heap)(x:Str)(n:Nat)(ps:List Str)(sp:Sp):Prop :=
 ∃(f:Addr)(fd:FuncData),xE P w K mg base (CX1 P w) n f fd ps sp/\zAt K fd ps []/\PySem.W.keepIn K (.ref f)=true/\mg x=some (.ref f)
def HasMX(P:Program)(w:World)(K:PySem.W.Frag)(mg:Str->Option Value)(base:Heap)(g:Addr)(n:Nat)(ps:List Str)(sp:Sp):Prop :=
 ∃ fd:FuncData,xE P w K mg base (CX1 P w) n g fd ps sp/\∀ us:List Value,us.length=ps.length->bindArgs fd ⟨us,[]⟩=pure (ps.zip us)
section
variable{X:Cx}{n:Nat}{f:Addr}{fd:FuncData}{ps:List Str}{sp:Sp}{x m:Str}{p pos apos:Pos}{e o:Expr}{es:List Expr}{ta:TE}{t:TA}{EE:St->XK}{C g:Addr}
theorem zTv{pins:List (Addr×Obj)}{σ:St}{H:Hp}{s:Shared}{Q:VK}{us:List Value}{vs:List V}(F:xE X.prog X.w X.K X.mg X.base (CX1 X.prog X.w) n f fd ps sp)(hr:qM n X.A)(hb:zAt X.K fd ps [])(hx:zQ5 X EE)
  (I:Inv X pins σ H s) (r:yS vs us) (h:sp vs H Q (EE σ)):wpAny (model X.prog X.w) X.A (call (.ref f) us) (EP X pins σ Q) X.xe s:=by
 have hl:us.length=ps.length:=by rw[<- r.length]; exact F.len _ _ _ _ h
 have hb':=hb s us I.kIn (by rw[List.append_nil]; exact hl);rw[List.append_nil] at hb';refine wpAny_call (codeAny_mono (F.run X.A X.stack s H ⟨us,[]⟩ us vs Q (EE σ) hr I.env0 hb' r h) λr s' hq=>?_);cases r with
 | error e=>exact hx pins σ H s e s' I hq
 | ok fl =>
  cases fl with
  | ret u=>exact I.after hq
  | next=>exact False.elim hq
  | brk=>exact False.elim hq
  | cont=>exact False.elim hq
def zVt(sp:Sp)(EE:St->XK)(t:TA):TE:=λσ H Q=>t σ H λvs H1=>sp vs H1 Q (EE σ)
theorem zKy(EE:St->XK)(h:zXs X.prog X.w X.K X.mg X.base x n ps sp)(hx:zQ5 X EE)(hr:qM n X.A)(hg:Gl X x)
  (ha:PA X (e::es) t) (hdb:(x ==("__debug__" : Str))=false:=by decide) (he:starEach (e::es) X.env=(false,eval e X.env)::starEach es X.env:=by rfl) (hpl:(backTo pos (starEach es X.env)).any (·.1)=false:=by rfl) :
  PE X (.Call (.Name x p) (e::es) [] pos) (zVt sp EE t):=by
 obtain⟨f,fd,F,hb,hk,hm⟩:=h;intro pins s σ H Q I h;refine wpAny_Call_Name_kw (qP I hg hm ?_ hdb);refine PySem.W.callWith_K (h₀:=X.base) I.ok.mod.kin hk (thn (ha pos pins s σ H _ I h) λus s1 ⟨vs,H1,I1,r,q⟩=>⟨I1.kIn,?_⟩) he hpl;exact zTv F hr hb hx I1 r q
def zXm(cls:Value)(EE:St->XK)(t:TA):TS:=λ_ σ H=>t σ H λvs H1=>vs.length<=sizeLine/\EE σ cls none H1
theorem zRi(EE:St->XK){bm bmN:List Value}{B Bn newId nid initId inN:String}(O:OwnCls x C bm newId X.mg X.base)(Fn:ExcBaseFacts Bn newId inN bmN)(hBn:bm.contains (.type Bn)=true)(FB:ExcBaseFacts B nid initId bm)(hx:zW2 X EE)
  {cpos np:Pos} (ha:PA X (e::es) t) (hc:X.calm=true:=by rfl) (hg:Gl X x:=by rfl) (hd:(x ==("__debug__" : Str))=false:=by decide) (he:starEach (e::es) X.env=(false,eval e X.env)::starEach es X.env:=by rfl) (hpl:(backTo cpos (starEach es X.env)).any (·.1)=false:=by rfl) :
  PS X (.Raise (some (.Call (.Name x np) (e::es) [] cpos)) none pos) (zXm (.ref C) EE t):=by
 obtain⟨tl,N,nm,q,bs,hdct,sn,sub,ab,col,dd,k0,k1,k2,k3,k5,mN,hC,hN,hni,T⟩:=O.obj;intro pins s σ H D I h;refine wpAny_Raise_call_subU (C:=C) (nm:=nm) (q:=q) (N:=N) (bs:=bs) (bm:=tl) (hdct:=hdct) (sn:=sn) (sub:=sub) (ab:=ab) (col:=col) (dd:=dd) (k0:=k0) (k1:=k1) (k2:=k2) (k3:=k3) (k5:=k5)
  Fn hBn FB (mN:=mN) (T.hasType FB.hasBase) (I.ok.hd hc) (by rw[he]; show(false||(backTo cpos (starEach es X.env)).any (·.1))=false; rw[hpl]; rfl) hni (qP I hg O.bound ⟨rfl,?_⟩ hd)
 have h:=ha cpos pins s σ H _ I h;rw[he] at h ⊢;refine Calls.evalArgs_plain (wpAny_mono h (λus s2 ⟨vs,H1,I1,r,len,q⟩=>⟨rfl,?_,I1.bk _ _ hC,hN.keeps I1.bk,T.keeps I1.bk,λh' e hm=>?_⟩) λ_ _ y=>y)
 ·rw[<- r.length]; exact len
 ·exact hx pins σ H1 s2 h' e _ _ I1 hm q
end
end L2

namespace L2
open PySem PySem.Spec PyProof.Rows
abbrev TJ:=St->Hp->(Hp->Prop)->Prop
section
variable{X:Cx}{e:Expr}{es:List Expr}{t:TJ}{te:TE}{pos p:Pos}{n:Nat}
def PJ(X:Cx)(es:List Expr)(n:Nat)(t:TJ):Prop:=∀(pins:List (Addr×Obj))(s:Shared)(σ:St)(H:Hp)(k:Nat)(acc:Str)(Q:Str->Shared->Prop)(C:Hp->Prop),Inv X pins σ H s->acc.length<=2000*k->k+n<=100 ->
 t σ H C->(∀(H':Hp)(out:Str)(s':Shared),C H'->out.length<=200000->Inv X pins σ H' s'->Q out s')->Joins (model X.prog X.w) X.A X.xe (evalEach es X.env) acc Q s
def zVo:TJ:=λ_ H K=>K H
def zWx(te:TE)(t:TJ):TJ:=λσ H K=>te σ H λv H1=>((∃ i,v=.int i/\i.natAbs.log2<1920)\/∃ x,v=.str x/\x.length<=1000)/\t σ H1 K
theorem zVr:PJ X [] 0 zVo:=λ_ s _ H _ acc _ _ I h hk q z=>z H acc s q (by lia) I
theorem zVu{c:Str}{j:Nat}(ht:PJ X es n t)(hc:c.length<=1000:=by decide)(he:evalEach (.Constant (.str c) j p::es) X.env=eval (.Constant (.str c) j p) X.env::evalEach es X.env:=by rfl):PJ X (.Constant (.str c) j p::es) (n+1) t:=by
 intro pins s σ H k acc Q C I h hk q z;rw[he];refine Calls.Constant_str ⟨c,_,rfl,?_,?_⟩
 ·rw[strLen_append];show acc.length+c.length<=2^24;lia
 ·exact ht pins _ σ H (k+1) _ _ C (I.tok _) (by rw[strLen_append]; lia) (by lia) q z
theorem zVe(hv:PE X e te)(ht:PJ X es n t)(he:evalEach (.FormattedValue e (-1) none p::es) X.env=eval (.FormattedValue e (-1) none p) X.env::evalEach es X.env:=by rfl):PJ X (.FormattedValue e (-1) none p::es) (n+1) (zWx te t):=by
 intro pins s σ H k acc Q C I h hk q z;rw[he];refine wpAny_FormattedValue_plain (thn (hv pins s σ H _ I q) λu s1 ⟨v,H1,I1,r,c,q1⟩=>?_);rcases c with ⟨i,rfl,hi⟩ | ⟨x,rfl,hx⟩
 ·obtain⟨tk,rfl⟩:=(show ∃ t,u=Value.int i t from r);have l:=int_text_length_le (k:=1920) (by decide) hi;rw[<- PySem.ofString_length] at l;refine wpAny_formatField_int hi ⟨_,_,rfl,?_,?_⟩
  ·rw[strLen_append];show acc.length+_<=2^24;lia
  ·exact ht pins _ σ H1 (k+1) _ _ C (I1.tok _) (by rw[strLen_append]; lia) (by lia) q1 z
 ·obtain⟨tk,rfl⟩:=(show ∃ t,u=Value.str x t from r);have key:∀(t':Tok)(tk':Nat),∃ y t,Value.str x t'=.str y t/\(acc++y).length<=sizeLine/\Joins (model X.prog X.w) X.A X.xe (evalEach es X.env) (acc++y) Q { s1 with toks:=tk' }:=λt' tk' =>
   ⟨x,t',rfl,by rw[strLen_append]; show acc.length+x.length<=2^24; lia,ht pins _ σ H1 (k+1) _ _ C (I1.tok _) (by rw[strLen_append]; lia) (by lia) q1 z⟩
  exact formatField_str (λt' tk'=>key t' tk') (by show x.length<=2^24; lia)
def zVx(t:TJ):TE:=λσ H Q=>t σ H λH'=>∀ x:Str,x.length<=200000->Q (.str x) H'
theorem zUc{a b:Expr}(ht:PJ X (a::b::es) n t)(hn:n<=100:=by decide):PE X (.JoinedStr (a::b::es) pos) (zVx t):=by
 intro pins s σ H Q I h;exact wpAny_JoinedStr (ht pins s σ H 0 Str.empty _ _ I (by decide) (by lia) h λH' out s' c l I'=>⟨by show out.length<=2^24; lia,.str out,H',I'.tok _,⟨_,rfl⟩,c out l⟩)
end
def bmV:List Value:=[.type "ValueError", .type "Exception", .type "BaseException", .type "object"]
end L2

namespace L2
open PySem PySem.Spec PyProof.Rows
theorem zQe(w:World)(x:Str):keyH w (.inr x)=PyData.keyHash w.params x:=rfl
theorem zNa{P:Program}{w:World}{B:Heap}{a:Addr}{l:List (Str×Nat×V×Value)}{ep:Nat}(h:B.get? a=some ⟨.type "dict", none,.dict ((l.map λe=>(⟨PyData.keyHash w.params e.1,.str e.1 e.2.1,e.2.2.2⟩:DictEntry)).toArray) ep,#[]⟩)
  (r:∀ e∈l,xI e.2.2.1 e.2.2.2) (nd:(l.map (·.1)).Nodup):zVa P w B a (l.map λe=>(.inr e.1,e.2.2.1)):=by
 refine⟨l.map λe=>(.inr e.1,e.2.2.2),?_,_,_,ep,h,⟨rfl,rfl,rfl⟩,rfl,λe he=>?_,?_,?_⟩
 ·clear h nd
  induction l with
  | nil=>exact .nil
  | cons e l ih=>exact .cons ⟨rfl,r e (.head _)⟩ (ih λe he=>r e (.tail _ he))
 ·have he:e∈l.map λe=>(⟨PyData.keyHash w.params e.1,.str e.1 e.2.1,e.2.2.2⟩:DictEntry):=by simpa using he
  obtain⟨q,_,rfl⟩:=List.mem_map.mp he;exact⟨.inr q.1,zAs P w q.1 q.2.1,(zQe w q.1).symm⟩
 ·rw[List.toList_toArray];clear h nd r
  induction l with
  | nil=>exact .nil
  | cons e l ih=>exact .cons (zAs P w e.1 e.2.1) rfl ih
 ·rw[List.map_map];have:((λe:Key×Value=>e.1) ∘ λe:Str×Nat×V×Value=>((.inr e.1:Key),e.2.2.2))=(λx:Str=>(.inr x:Key)) ∘ λe=>e.1:=rfl;rw[this,<- List.map_map];refine List.nodup_iff_pairwise_ne.mpr (List.pairwise_map.mpr ((List.nodup_iff_pairwise_ne.mp nd).imp λn z=>n ?_));injection z
def zSo(es:Array DictEntry):Bool:=es.toList.all λe=>match e.key with | .str _ _=>true | _=>false
theorem zOj{es:Array DictEntry}(h:zSo es=true):StrKeys es:=λe he=>by
 have:=List.all_eq_true.mp h e (by simpa using he);cases q:e.key <;> rw[q] at this <;> first | exact⟨_,_,rfl⟩ | cases this
def zK2(K:PySem.W.Frag)(N:Addr):Bool:=match K.lookup N with
 | some ⟨_,_,.dict es _,_⟩=>zSo es&&(nsFind es "__init__").isNone
 | _=>false
theorem zH1{K:PySem.W.Frag}{B:Heap}{N:Addr}(X:K.In B)(h:zK2 K N=true):∃ m,B.Ns N m/\m "__init__" = none:=by
 unfold zK2 at h;split at h
 ·rename_i c d es ep sl q
  rw[Bool.and_eq_true] at h;exact⟨nsFind es,⟨_,es,ep,X _ _ q,rfl,zOj h.1,λ_=>rfl⟩,by simpa using h.2⟩
 ·cases h
def zLo(K:PySem.W.Frag):List Value->Bool
 | []=>false
 | .ref A::tl=>(match K.lookup A with | some ⟨_,_,.cls cd,_⟩=>zK2 K cd.ns&&zLo K tl | _=>false)
 | v::tl=>(v::tl) == bmV
theorem zI0{K:PySem.W.Frag}{B:Heap}(X:K.In B):∀{tl:List Value},zLo K tl=true->OwnTail B bmV tl
 | [],h=>by cases h
 | .ref A::tl,h=>by
  unfold zLo at h;split at h
  ·rename_i c d cd sl q
   rw[Bool.and_eq_true] at h;obtain⟨m,h1,h2⟩:=zH1 X h.1;exact .own (X _ _ q) h1 h2 (zI0 X h.2)
  ·cases h
 | .type T::tl,h=>by
  have e:(Value.type T::tl)=bmV:=beq_iff_eq.mp h;rw[e];exact .base
 | .none::tl,h=>by have e:(Value.none::tl)=bmV:=beq_iff_eq.mp h; rw[e]; exact .base
 | .bool b::tl,h=>by have e:(Value.bool b::tl)=bmV:=beq_iff_eq.mp h; rw[e]; exact .base
 | .int i t::tl,h=>by have e:(Value.int i t::tl)=bmV:=beq_iff_eq.mp h; rw[e]; exact .base
 | .float i t::tl,h=>by have e:(Value.float i t::tl)=bmV:=beq_iff_eq.mp h; rw[e]; exact .base
 | .str i t::tl,h=>by have e:(Value.str i t::tl)=bmV:=beq_iff_eq.mp h; rw[e]; exact .base
 | .bytes i t::tl,h=>by have e:(Value.bytes i t::tl)=bmV:=beq_iff_eq.mp h; rw[e]; exact .base
 | .builtin i::tl,h=>by have e:(Value.builtin i::tl)=bmV:=beq_iff_eq.mp h; rw[e]; exact .base
def zXq(K:PySem.W.Frag)(C:Addr):Bool:=match K.lookup C with
 | some ⟨.type "type", _,.cls cd,sl⟩=>(match cd.mro,sl.toList with
  | .ref C'::bm,[_,_,_,_,some (.builtin n),_]=>C' == C&&(!cd.hasDel&&(n == "ValueError.__new__" && (zK2 K cd.ns&&zLo K bm)))
  | _,_=>false)
 | _=>false
theorem zQ7{K:PySem.W.Frag}{B:Heap}{C:Addr}{x:Str}{mg:Str->Option Value}(X:K.In B)(hm:mg x=some (.ref C))(q:zXq K C=true):OwnCls x C bmV "ValueError.__new__" mg B:=by
 unfold zXq at q;split at q
 ·rename_i dd cd sl ho
  split at q
  ·rename_i C' bm k0 k1 k2 k3 n k5 hm' hs
   simp only[Bool.and_eq_true,beq_iff_eq,Bool.not_eq_true'] at q;obtain⟨rfl,hdel,rfl,hi,ht⟩:=q;obtain⟨nm,bs,mro,ns,qn,hd,sn,sub,ab,col,del⟩:=cd;dsimp only at hm' hdel hi;subst hm' hdel;have hsl:sl = #[k0,k1,k2,k3,some (.builtin "ValueError.__new__"),k5]:=by
    obtain⟨l⟩:=sl;simp only at hs;rw[hs]
   subst hsl;obtain⟨m,h1,h2⟩:=zH1 X hi;exact⟨hm,bm,ns,nm,qn,bs,hd,sn,sub,ab,col,dd,k0,k1,k2,k3,k5,m,X _ _ ho,h1,h2,zI0 X ht⟩
  ·cases q
 ·cases q
theorem zLm{F K:PySem.W.Frag}{a:Addr} : List.lookup a (F++K)=match List.lookup a F with | some o=>some o | none=>List.lookup a K:=by
 induction F with
 | nil=>rfl
 | cons e F ih =>
  rw[List.cons_append,List.lookup_cons,List.lookup_cons];cases a == e.1 with
  | true=>rfl
  | false=>exact ih
theorem zGv:∀{F:PySem.W.Frag}{a:Addr}{o:Obj},List.lookup a F=some o->(a,o)∈F
 | [],_,_,h=>by cases h
 | (b,u)::F,a,o,h=>by
  rw[List.lookup_cons] at h;cases z:a == b with
  | true =>
   rw[z] at h;cases h;rw[beq_iff_eq.mp z];exact .head _
  | false =>
   rw[z] at h;exact .tail _ (zGv h)
theorem zQj{F K:PySem.W.Frag}{h:Heap}(n:(F.map (·.1)).all (λa=>(List.lookup a K).isNone)=true)(X:PySem.W.Frag.In (F++K) h):PySem.W.Frag.In K h:=λa o q=>X a o (by
 rw[zLm];cases z:List.lookup a F with
 | none=>exact q
 | some u =>
  have m:a∈F.map (·.1):=List.mem_map.mpr ⟨(a,u),zGv z,rfl⟩;have:=List.all_eq_true.mp n a m;rw[q] at this;cases this)
theorem zOy{F K:PySem.W.Frag}{a:Addr}{o:Obj}(n:(F.map (·.2.cls)).all (λc=>!(c == .type "list"))=true)(h:List.lookup a (F++K)=some o)(c:o.cls=.type "list"):List.lookup a K=some o:=by
 rw[zLm] at h;cases z:List.lookup a F with
 | none=>rw[z] at h; exact h
 | some u =>
  rw[z] at h;have h:some u=some o:=h;injection h with h
  subst h;have:=List.all_eq_true.mp n u.cls (List.mem_map.mpr ⟨(a,u),zGv z,rfl⟩);rw[c] at this;simp at this
theorem walk_of3{l:PySem.W.OpenLaw}{n k:Nat}{q:Program}{loose:List Str}{XP:(Str->Option Value)->Heap->Prop}{YP:World->Heap->Prop}{d:DefRec}{KK:Params->PySem.W.Frag}{K:PySem.W.Frag}{sp:Sp}{x:Str}
  (hn:l.most=some n) (hn2:n<=sizeLine) (hdf:d.params.defaults=[]) (hr:qM k callerA)
  (hY:∀(w:World)(h:Heap),YP w h->(KK w.params).In h) (sub:∀(p:Params)(h:Heap),(KK p).In h->K.In h) (past:∀(p:Params)(a:Addr)(o:Obj),List.lookup a (KK p)=some o->o.cls=.type "list" -> List.lookup a K=some o)
  (F:∀(w:World)(mg:Str->Option Value)(fa:Addr)(h:Heap),(KK w.params).In h->h.Ns mainGlobals mg->mg d.name=some (.ref fa) ->
   ∃ fd:FuncData,(∀(s:Shared)(u:Value),BindsTo s fd ⟨[u],[]⟩ [(x,u)]) /\
    ∀ base:Heap,(KK w.params).In base->base.Ns mainGlobals mg->xE l.prog w K mg base CX0 k fa fd [x] sp)
  (hsp:∀(H:Hp)(a:Addr)(ns:List Int),ns.length<=n->SqL K H a (ns.map V.int)->sp [.ref a] H (λv _=>v=.bl true) λ_ _ _=>False) :
  PySem.W.WalkO q loose XP YP l.row.toRowW d [] (λf vs=>PySem.call f vs):=by
 refine Att.attach_call hn hdf λw s₀ s₁ mg mb fa o pm cd doc a vs ns G Y ho hd hcd hmg hobj hints hlen hg=>?_;have KX:=hY w _ Y;obtain⟨fd,hb,hF⟩:=F w mg fa _ KX G.T.g hmg;refine zRj (K:=KK w.params) KX G.T.g G.T.b G.T.builtins G.T.nolimit hg hobj hints (Nat.le_trans hlen hn2) hr (λbase hK hN=>(hF base hK hN).withK (sub _ _ hK)) hb (λH hO hS=>hsp H a ns hlen ?_) λH e s' z=>z;rcases hS with h | ⟨o,its,n,h1,h2,h3⟩
 ·exact .inl h
 ·exact .inr ⟨o,its,n,past _ _ _ h1 h2,h2,h3⟩
end L2

namespace Sea
open PySem L2
section
variable{H:Hp}{v:V}
theorem zJ6{n:Str}{x y:Int}(h:Rep H (Deed.move n x y).dt v):∃ a,v=.ref a/\H a=some (.tup [.str "move", .str n,.int x,.int y]):=by
 obtain⟨a,xs,e,h1,h2⟩:=yL.mp h;obtain⟨_,_,rfl,k1,h2⟩:=zI.mp h2;obtain⟨_,_,rfl,k2,h2⟩:=zI.mp h2;obtain⟨_,_,rfl,k3,h2⟩:=zI.mp h2;obtain⟨_,_,rfl,k4,h2⟩:=zI.mp h2;rw[zY.mp k1,zY.mp k2,yE.mp k3,yE.mp k4,zX.mp h2] at h1;exact⟨a,e,h1⟩
theorem zEk{n:Str}(h:Rep H (Deed.unmark n).dt v):∃ a,v=.ref a/\H a=some (.tup [.str "unmark", .str n]):=by
 obtain⟨a,xs,e,h1,h2⟩:=yL.mp h;obtain⟨_,_,rfl,k1,h2⟩:=zI.mp h2;obtain⟨_,_,rfl,k2,h2⟩:=zI.mp h2;rw[zY.mp k1,zY.mp k2,zX.mp h2] at h1;exact⟨a,e,h1⟩
theorem zG4{n:Str}(h:Rep H (Deed.level n).dt v):∃ a,v=.ref a/\H a=some (.tup [.str "level", .str n]):=by
 obtain⟨a,xs,e,h1,h2⟩:=yL.mp h;obtain⟨_,_,rfl,k1,h2⟩:=zI.mp h2;obtain⟨_,_,rfl,k2,h2⟩:=zI.mp h2;rw[zY.mp k1,zY.mp k2,zX.mp h2] at h1;exact⟨a,e,h1⟩
theorem zG2{k x y:Int}(h:Rep H (Deed.right k x y).dt v):∃ a,v=.ref a/\H a=some (.tup [.str "right", .int k,.int x,.int y]):=by
 obtain⟨a,xs,e,h1,h2⟩:=yL.mp h;obtain⟨_,_,rfl,k1,h2⟩:=zI.mp h2;obtain⟨_,_,rfl,k2,h2⟩:=zI.mp h2;obtain⟨_,_,rfl,k3,h2⟩:=zI.mp h2;obtain⟨_,_,rfl,k4,h2⟩:=zI.mp h2;rw[zY.mp k1,yE.mp k2,yE.mp k3,yE.mp k4,zX.mp h2] at h1;exact⟨a,e,h1⟩
structure zXw(H:Hp)(cs:List (Int×Int))(ps:List Pr):Prop where
 mk ::
 pt:ps.map (·.2)=cs
 at_:∀ t∈ps,H t.1=some (.tup [.int t.2.1,.int t.2.2])
theorem zF5:∀{cs:List (Int×Int)}{xs:List V},yV H (cs.map ptD) xs->∃ ps:List Pr,xs=zQ ps/\zXw H cs ps
 | [],_,h=>⟨[],zX.mp h,rfl,λt ht=>(nomatch ht)⟩
 | c::cs,_,h=>by
  obtain⟨x,r,rfl,h1,h2⟩:=zI.mp h;obtain⟨a,rfl,ha⟩:=zB9 h1;obtain⟨ps,rfl,e,h3⟩:=zF5 h2;refine⟨(a,c)::ps,rfl,by rw[List.map_cons,e],λt ht=>?_⟩;rcases List.mem_cons.mp ht with z | z
  ·rw[z]; exact ha
  ·exact h3 t z
theorem zGy{n:Str}{cs:List (Int×Int)}(h:Rep H (Deed.bank n cs).dt v):∃(a c:Addr)(ps:List Pr),v=.ref a/\H a=some (.tup [.str "bank", .str n,.ref c])/\H c=some (.tup (zQ ps))/\zXw H cs ps/\Rep H (.tup (cs.map ptD)) (.ref c):=by
 obtain⟨a,xs,e,h1,h2⟩:=yL.mp h;obtain⟨_,_,rfl,k1,h2⟩:=zI.mp h2;obtain⟨_,_,rfl,k2,h2⟩:=zI.mp h2;obtain⟨_,_,rfl,k3,h6⟩:=zI.mp h2;obtain⟨c,ys,rfl,h3,h4⟩:=yL.mp k3;obtain⟨ps,rfl,h5⟩:=zF5 h4;have e6:=zX.mp h6;rw[zY.mp k1,zY.mp k2,e6] at h1;exact⟨a,c,ps,e,h1,h3,h5,k3⟩
end
theorem zSr{ps:List Pr} : isB ps=zVb (ps.map (·.2)):=by
 have e:∀ i,ptA ((ps.map (·.2)).map λc=>((0,c):Addr×Int×Int)) i=ptA ps i:=λi=>by
  unfold ptA;rw[List.getElem?_map,List.getElem?_map];cases ps[i]? <;> rfl
 have l:((ps.map (·.2)).map λc=>((0,c):Addr×Int×Int)).length=ps.length:=by rw[List.length_map,List.length_map]
 unfold zVb isB vN zJt;simp only[e,l]
theorem zOd{S:BS}{n:Str}{x y:Int}(h:(zV S n).isSome=true):zS4 (mkE S.marks) (.inr n) (ptD (x,y))=mkE (aft S (.move n x y)).marks:=by
 have any:(mkE S.marks).any (λe=>decide (e.1=.inr n))=true:=by
  obtain⟨p,e⟩:=Option.isSome_iff_exists.mp h;exact List.any_eq_true.mpr ⟨(.inr n,ptD p),List.mem_map.mpr ⟨(n,p),uO e,rfl⟩,by simp⟩
 unfold zS4;rw[if_pos any];show _=mkE (S.marks.map _);unfold mkE;rw[List.map_map,List.map_map];refine List.map_congr_left λe _=>?_;show(if (Sum.inr e.1:Key)=Sum.inr n then((Sum.inr e.1:Key),ptD (x,y)) else(Sum.inr e.1,ptD e.2))=_;by_cases z:e.1=n
 ·rw[if_pos (by rw[z])];show _=((Sum.inr (if e.1=n then(e.1,x,y) else e).1:Key),ptD (if e.1=n then(e.1,x,y) else e).2);rw[if_pos z]
 ·rw[if_neg (λq=>z (Sum.inr.inj q))];show _=((Sum.inr (if e.1=n then(e.1,x,y) else e).1:Key),ptD (if e.1=n then(e.1,x,y) else e).2);rw[if_neg z]
theorem zLp(l:List (Str×Int×Int))(n:Str):zHl (mkE l) (.inr n)=mkE (l.filter λe=>decide (e.1≠n)):=by
 unfold zHl mkE;rw[List.filter_map]
 congr 1
 refine List.filter_congr λe _=>?_;simp
theorem zKg(l:List (Str×List (Int×Int))):(bkE l).length=l.length:=by unfold bkE; rw[List.length_map]
theorem zOp(l:List (Str×List (Int×Int)))(n:Str)(cs:List (Int×Int)):bkE (l++[(n,cs)])=bkE l++[(.inr n,.tup (cs.map ptD))]:=by
 unfold bkE;rw[List.map_append];rfl
theorem zLu(l:List (Str×List (Int×Int)))(n:Str):zHl (bkE l) (.inr n)=bkE (l.filter λe=>decide (e.1≠n)):=by
 unfold zHl bkE;rw[List.filter_map]
 congr 1
 refine List.filter_congr λe _=>?_;simp
theorem zHh{l:List (Str×List (Int×Int))}{n:Str}(h:n ∉ l.map (·.1)):∀ e∈bkE l,e.1≠.inr n:=λe he z=>by
 unfold bkE at he;obtain⟨q,hq,rfl⟩:=List.mem_map.mp he;exact h (List.mem_map.mpr ⟨q,hq,Sum.inr.inj z⟩)
theorem zK9{es:List (Key×Dt)}{k:Key}(h:∀ e∈es,e.1≠k):look es k=none:=by
 unfold look;rw[Option.map_eq_none_iff,List.find?_eq_none];exact λe he z=>h e he (of_decide_eq_true z)
theorem zUa{es:List (Key×Dt)}{k:Key}(h:k∈es.map (·.1)):∃ d,look es k=some d:=by
 obtain⟨e,he,rfl⟩:=List.mem_map.mp h;unfold look;cases q:es.find? λx=>decide (x.1=e.1) with
 | none=>exact absurd (List.find?_eq_none.mp q e he) (by simp)
 | some x=>exact⟨x.2,rfl⟩
theorem zSt{l:List (Str×List (Int×Int))}{n:Str}(h:n∈l.map (·.1)):∃ d,look (bkE l) (.inr n)=some d:=zUa (by
 obtain⟨e,he,rfl⟩:=List.mem_map.mp h;exact List.mem_map.mpr ⟨_,List.mem_map.mpr ⟨e,he,rfl⟩,rfl⟩)
theorem zSx:∀{l:List (Int×Int)}{k i:Nat}{p:Int×Int},((l.zipIdx k).map λe=>((.inl (e.2:Int):Key),ptD e.1)).map (λe=>if e.1=.inl ((k+i:Nat):Int) then(e.1,ptD p) else e)=((l.set i p).zipIdx k).map λe=>((.inl (e.2:Int):Key),ptD e.1)
 | [],_,_,_=>rfl
 | q::l,k,0,p=>by
  rw[List.set_cons_zero,List.zipIdx_cons,List.zipIdx_cons,List.map_cons,List.map_cons,List.map_cons,if_pos (by rfl)]
  congr 1
  rw[List.map_congr_left (g:=id),List.map_id];intro e he;obtain⟨u,hu,rfl⟩:=List.mem_map.mp he;rw[if_neg]
  ·rfl
  intro z;injection z with z
  have:=List.le_snd_of_mem_zipIdx hu;simp at z;lia
 | q::l,k,i+1,p=>by
  have ih:=zSx (l:=l) (k:=k+1) (i:=i) (p:=p);rw[show k+1+i=k+(i+1) by lia] at ih;rw[List.set_cons_succ,List.zipIdx_cons,List.zipIdx_cons,List.map_cons,List.map_cons,List.map_cons,ih,if_neg];intro z;injection z with z
  simp at z;lia
theorem zTx{l:List (Int×Int)}{i:Nat}{p:Int×Int}(h:i<l.length):zS4 (rnE l) (.inl (i:Int)) (ptD p)=rnE (l.set i p):=by
 have e:=zKl (k:=0) (List.getElem?_eq_getElem h);rw[Nat.zero_add] at e;have any:(rnE l).any (λe=>decide (e.1=.inl (i:Int)))=true:=by
  cases q:(rnE l).any (λe=>decide (e.1=.inl (i:Int))) with
  | true=>rfl
  | false =>
   have:=zK9 (es:=rnE l) (k:=.inl (i:Int)) λe he z=>by
    have:=List.any_eq_false.mp q e he;simp[z] at this
   rw[show look (rnE l) (.inl (i:Int))=_ from e] at this;cases this
 unfold zS4;rw[if_pos any];have:=zSx (l:=l) (k:=0) (i:=i) (p:=p);rw[Nat.zero_add] at this;exact this
theorem yV.set{H:Hp}{d:Dt}{v:V}(h:Rep H d v):∀{l:List Dt}{xs:List V}(i:Nat),yV H l xs->yV H (l.set i d) (xs.set i v)
 | [],_,i,q=>by rw[zX.mp q]; exact zX.mpr rfl
 | d'::l,_,0,q=>by
  obtain⟨x,r,rfl,h1,h2⟩:=zI.mp q;exact zI.mpr ⟨v,r,rfl,h,h2⟩
 | d'::l,_,i+1,q=>by
  obtain⟨x,r,rfl,h1,h2⟩:=zI.mp q;exact zI.mpr ⟨x,_,rfl,h1,yV.set h i h2⟩
theorem zVd{n i:Nat}(h:i<n):ixN n (i:Int)=some i:=by
 unfold ixN;simp;lia
end Sea

namespace L2
open PySem PySem.Spec PyProof.Rows
def isS(n:Str):V->Bool
 | .str z=>z == n
 | _=>false
def rInM(K:PySem.W.Frag):R2:=λx y H Q=>∃(p:Addr)(xs:List V)(n:Str),y=.ref p/\x=.str n/\SqT K H p xs/\(∀ v∈xs,(∃ z,v=.str z)\/∃ a ys,v=.ref a/\SqT K H a ys)/\Q (.bl (xs.any (isS n))) H
section
variable{X:Cx}
theorem zSh(hu:X.A.units+1<cLine):OpR X (compareOp .In) (rInM X.K):=by
 intro pins s σ H x y v u Q I rx ry h;obtain⟨p,xs,n,rfl,rfl,hq,ok,q⟩:=h;cases ry;obtain⟨t,rfl⟩:=rx;obtain⟨its,r,pl,hz⟩:=I.tuple hq;have key:∀{xs:List V}{us:List Value},yS xs us->(∀ v∈xs,(∃ z,v=.str z)\/∃ a ys,v=.ref a/\SqT X.K H a ys)->(∀ u∈us,SeqAt.EqAt X.A.in1 s u (.str n t) (eqU (.str n) u))/\us.any (eqU (.str n))=xs.any (isS n):=by
  intro xs us hv
  induction hv with
  | nil=>exact λ_=>⟨λu hu=>(nomatch hu),rfl⟩
  | @cons y u xs us r _ ih =>
   intro ok;obtain⟨h1,h2⟩:=ih λv hv=>ok v (.tail _ hv);rcases ok y (.head _) with ⟨z,rfl⟩ | ⟨a,ys,rfl,ha⟩
   ·obtain⟨t',rfl⟩:=r;refine⟨λw hw=>?_,by rw[List.any_cons,List.any_cons,h2]; rfl⟩;rcases List.mem_cons.mp hw with rfl | hw
    ·exact SeqAt.EqAt.str_str z t' n t
    ·exact h1 w hw
   ·cases r;obtain⟨_,_,pa,_⟩:=I.tuple ha;refine⟨λw hw=>?_,by rw[List.any_cons,List.any_cons,h2]; rfl⟩;rcases List.mem_cons.mp hw with rfl | hw
    ·exact SeqAt.EqAt.tuple_str n t pa hu
    ·exact h1 w hw
 obtain⟨h1,h2⟩:=key r ok;refine SeqAt.in_tupleAt (eqU (.str n)) pl (λw hw=>h1 w (by simpa using hw)) ⟨.bl _,H,I,rfl,?_⟩;rw[show its.toArray.any (eqU (.str n))=its.any (eqU (.str n)) by simp,h2];exact q
end
theorem Same.seqT{K:PySem.W.Frag}{H H':Hp}{a:Addr}{xs:List V}(e:Same H H')(h:SqT K H a xs):SqT K H' a xs:=by
 rcases h with (h | ⟨o,h⟩) | h
 ·exact .inl (.inl (e _ _ h))
 ·exact .inl (.inr ⟨o,e _ _ h⟩)
 ·exact .inr h
theorem Same.sq{K:PySem.W.Frag}{H H':Hp}{l:Addr}{xs:List V}(s:Same H H')(h:Sq K H l xs):Sq K H' l xs:=by
 rcases h with h | h
 ·exact .inl (s.seq h)
 ·exact .inr (s.seqT h)
end L2

namespace Sea
open PySem L2
def BkL(C:Addr)(H:Hp)(b p l:Addr)(S:BS)(past later:List (Deed×BS)):Prop:=∃ dx d ps ls,BkA C H b p dx d l ps ls S past later
abbrev Bl(b p l:Addr):Addr->Prop:=λx=>x=b\/x=p\/x=l
section
variable{H H1:Hp}
theorem BkL.to{C b p l:Addr}{S:BS}{past later:List (Deed×BS)}(k:BkL C H b p l S past later)(s:Sam H H1):BkL C H1 b p l S past later:=let ⟨dx,d,ps,ls,q⟩:=k;⟨dx,d,ps,ls,q.to s⟩
theorem BkL.at{C b p l:Addr}{S:BS}{past later:List (Deed×BS)}(k:BkL C H b p l S past later):zJ8 C H b p S past later:=let ⟨dx,d,ps,ls,q⟩:=k;⟨dx,d,l,ps,ls,q⟩
theorem zJ8.named{C b p:Addr}{S:BS}{past later:List (Deed×BS)}(k:zJ8 C H b p S past later):∃ l,BkL C H b p l S past later:=let ⟨dx,d,l,ps,ls,q⟩:=k;⟨l,dx,d,ps,ls,q⟩
theorem bl_nd{C b p l dx:Addr}{fs:List (Str×V)}{ps ls:List V}(hb:H b=some (.ins C dx fs))(hp:H p=some (.lst ps))(hl:H l=some (.lst ls)):∀ a kvs,Rd H a (.dK kvs)->¬ Bl b p l a:=λa kvs h z=>by
 rcases z with z | z | z <;> subst z <;> rcases h with h | ⟨o,h⟩
 ·rw[hb] at h; cases h
 ·rw[hb] at h; cases h
 ·rw[hp] at h; cases h
 ·rw[hp] at h; cases h
 ·rw[hl] at h; cases h
 ·rw[hl] at h; cases h
theorem zU4{C b p l dx:Addr}{fs:List (Str×V)}{ps ls:List V}(hb:H b=some (.ins C dx fs))(hp:H p=some (.lst ps))(hl:H l=some (.lst ls)):∀ a xs,H a=some (.tup xs)->¬ Bl b p l a:=λa xs h z=>by
 rcases z with z | z | z <;> subst z
 ·rw[hb] at h; cases h
 ·rw[hp] at h; cases h
 ·rw[hl] at h; cases h
theorem xF.split{D:Deed}{S:BS} : ∀{r:List (Deed×BS)}{xs:List V},xF H (r++[(D,S)]) xs->∃(ys:List V)(t d:Addr)(v:V),xs=ys++[.ref t]/\xF H r ys/\H t=some (.tup [v,.ref d])/\Rep H D.dt v/\zKf H d S
 | [],xs,h=>by
  obtain⟨t,d,v,ys,e,h1,h2,h3,h4⟩:=h;have h4:ys=[]:=h4;subst h4;exact⟨[],t,d,v,e,rfl,h1,h2,h3⟩
 | (D',S')::r,xs,h=>by
  obtain⟨t',d',v',zs,e,g1,g2,g3,g4⟩:=h;obtain⟨ys,t,d,v,rfl,k1,k2,k3,k4⟩:=xF.split g4;exact⟨.ref t'::ys,t,d,v,e,⟨t',d',v',ys,rfl,g1,g2,g3,k1⟩,k2,k3,k4⟩
theorem xF.get:∀{r:List (Deed×BS)}{xs:List V}{i:Nat}{x:V},xF H r xs->xs[i]?=some x->∃(e:Deed×BS)(t d:Addr)(v:V),r[i]?=some e/\x=.ref t/\H t=some (.tup [v,.ref d])/\Rep H e.1.dt v
 | [],xs,i,x,h,e=>by
  have h:xs=[]:=h;rw[h] at e;simp at e
 | (D,S)::r,xs,0,x,h,e=>by
  obtain⟨t,d,v,ys,rfl,h1,h2,_⟩:=h;simp at e;exact⟨(D,S),t,d,v,rfl,e.symm,h1,h2⟩
 | (D,S)::r,xs,i+1,x,h,e=>by
  obtain⟨t,d,v,ys,rfl,_,_,_,h4⟩:=h;obtain⟨e',t',d',v',g,k⟩:=xF.get (i:=i) (x:=x) h4 (by simpa using e);exact⟨e',t',d',v',by simpa using g,k⟩
theorem xF.refs:∀{r:List (Deed×BS)}{xs:List V},xF H r xs->∃ rs:List Addr,xs=rs.map V.ref
 | [],xs,h=>⟨[],h⟩
 | (D,S)::r,xs,h=>by
  obtain⟨t,d,v,ys,rfl,_,_,_,h4⟩:=h;obtain⟨rs,rfl⟩:=xF.refs h4;exact⟨t::rs,rfl⟩
end
end Sea

namespace L2
open PySem PySem.Spec PyProof.Rows
theorem zJo:bootBuiltins "reversed" = some (.type "reversed"):=by decide +kernel
theorem zS5:∀{xs:List V}{us:List Value},yS xs us->∀{j:Nat}(h1:j<xs.length)(h2:j<us.length),xI xs[j] us[j]
 | _,_,.nil,_,h1,_=>absurd h1 (Nat.not_lt_zero _)
 | _,_,.cons r _,0,_,_=>r
 | _,_,.cons _ t,j+1,h1,h2=>zS5 t (Nat.lt_of_succ_lt_succ h1) (Nat.lt_of_succ_lt_succ h2)
theorem zRl{P:Program}{w:World}{K:PySem.W.Frag}{tg:Expr}{l:Addr}{xs:List V}(it:Addr) :
  zP7 P w K tg (Itc (λH=>SqL K H l xs) xs.reverse) [it] it (λi h=>h.IsRevIter it l ((xs.length:Int)-1-i)/\i<=xs.length) where
 mem:=by simp
 obj:=λi h st b hb=>by
  have e:b=it:=by simpa using hb
  subst e;obtain⟨⟨o,e,c,d⟩,_⟩:=st;exact⟨o,e,λv z=>by rw[d] at z; cases z⟩
 keep:=λi h h' st k=>⟨st.1.at λo e=>k it (by simp) o e,st.2⟩
 item:=by
  intro X hP hw hK hc i pins s σ H E I hf st ⟨fz,hi⟩;subst hP hw hK;obtain⟨its,r,pl,_⟩:=I.list fz;rw[List.length_reverse] at hi;have hj:xs.length-1-i<xs.length:=by lia
  obtain⟨u,hu,ru⟩:∃ u,its[xs.length-1-i]?=some u/\xI xs[xs.length-1-i] u:=⟨its[xs.length-1-i]'(by rw[<- r.length]; exact hj),List.getElem?_eq_getElem _,zS5 r hj (by rw[<- r.length]; exact hj)⟩;obtain⟨f0,f1,f2,f3,f4,f5⟩:=hf it (by simp);have st':s.heap.IsRevIter it l ((xs.length-1-i:Nat):Int):=by rw[show((xs.length-1-i:Nat):Int)=(xs.length:Int)-1-i by lia]; exact st.1
  refine wpAny_pyNext_rev_item st' pl.isList (x:=u) (by simpa using hu) λh' st2 sb=>?_;have I1:Inv X pins σ H { s with heap:=h' }:=I.turned (t':=s.toks) (λb o hb e=>(sb.2 b hb).trans e) f0 f1 f3 f4 f5;obtain⟨o,e,c,dd⟩:=id st2;rw[show((xs.length-1-i:Nat):Int)-1=(xs.length:Int)-1-((i+1:Nat):Int) by lia] at st2;exact⟨u,rfl,zKo (s:={ s with heap:=h' }) e c dd (by decide) ⟨xs[xs.length-1-i],H,I1,ru,⟨rfl,by rw[List.getElem?_reverse hi,List.getElem?_eq_getElem]⟩,⟨st2,hi⟩,λb hb=>(hf b hb).1⟩⟩
 done:=by
  intro X hP hw hK hc i pins s σ H E I hf st ⟨fz,hi⟩;subst hP hw hK;rw[List.length_reverse] at hi;obtain⟨f0,f1,f2,f3,f4,f5⟩:=hf it (by simp);have st':s.heap.IsRevIter it l (-1):=by
   rw[show(-1:Int)=(xs.length:Int)-1-i by have:=st.2; lia];exact st.1
  exact wpAny_pyNext_rev_end (I.ok.hd hc) st' λh' eb=>⟨rfl,I.turned (t':=s.toks) (λb o hb e=>eb b o hb e) f0 f1 f3 f4 f5⟩
 self:=λ_ _ _ _ _ st h=>wpAny_pyIter_revIter st.1 h
section
variable{X:Cx}
def iRev(K:PySem.W.Frag)(ta:TA):TI:=λσ H R=>ta σ H λvs H1=>∃(l:Addr)(xs:List V),vs=[.ref l]/\SqL K H1 l xs/\R (Itc (λH=>SqL K H l xs) xs.reverse) H1
theorem zV5{tg a:Expr}{ta:TA}{p pos:Pos}(hg:Gl X "reversed")(hm:X.mg "reversed" = none)(ha:PA X [a] ta)(hs:starEach [a] X.env=[(false,eval a X.env)]:=by rfl) :
  PI X tg (.Call (.Name "reversed" p) [a] [] pos) (iRev X.K ta):=by
 intro pins s σ H R I h;refine Call_ (zCe I hg hm zJo (PyProof.Rows.callWith_type1 (thn (ha pos pins s σ H _ I h) λus s1 ⟨vs,H1,I1,r1,q1⟩=>?_) hs rfl));obtain⟨l,xs,e,hl,q⟩:=q1;subst e;obtain⟨u1,rfl,v1⟩:=yS.one r1;cases v1;obtain⟨its,r,pl,_⟩:=I1.list hl;refine call_reversed_list pl.isList ?_;have z:(s1.heap.push (revObj l ((its.toArray.size:Int)-1))).IsRevIter s1.heap.objs.size l ((xs.length:Int)-1-(0:Nat)):=⟨_,Heap.get?_push_size _ rfl,rfl,by rw[List.size_toArray,<- r.length,show(xs.length:Int)-1-((0:Nat):Int)=(xs.length:Int)-1 by lia]; rfl⟩;refine wpAny_pyIter_revIter z ?_;refine⟨_,[_],_,_,H1,rfl,I1.kept (t':=s1.toks) (λb o e=>Heap.get?_push_of_some _ e),zRl _,⟨z,Nat.zero_le _⟩,λb hb=>?_,q⟩;have e:=List.mem_singleton.mp hb;subst e;exact I1.fpOk (Nat.le_refl _) (I1.hok.fresh (Nat.le_refl _))
end
end L2

namespace Sea
open PySem L2
mutual
def yM:Dt->List Str
 | .int i=>[Str.ofString (toString i)]
 | .str x=>[x]
 | .tup l=>zW l
def zW:List Dt->List Str
 | []=>[]
 | d::l=>yM d++zW l
end
def zAd:Nat->Dt->Prop
 | _,.int i=>i.natAbs.log2<1920
 | _,.str x=>x.length<=1921
 | 0,.tup _=>False
 | n+1,.tup l=>l.length<=900/\∀ d∈l,zAd n d
theorem zAo:∀(l m:List Dt),zW (l++m)=zW l++zW m
 | [],_=>by rw[zW]; rfl
 | d::l,m=>by rw[List.cons_append,zW,zW,zAo l m,List.append_assoc]
theorem zCh{l:List Dt}{i:Nat}{d:Dt}(h:l[i]?=some d):zW (l.take (i+1))=zW (l.take i)++yM d:=by
 rw[List.take_succ,h,zAo];show _++zW [d]=_;rw[zW,zW,List.append_nil]
theorem zF8(l:List Dt)(i:Nat):(zW (l.take i)).length<=(zW l).length:=by
 have:=congrArg (λl=>(zW l).length) (List.take_append_drop i l);simp only[zAo,List.length_append] at this;lia
mutual
theorem zA5:∀(n:Nat)(d:Dt),zAd n d->∀ w∈yM d,w.length<=1921
 | n,.int i,h,w,hw=>by
  have h:i.natAbs.log2<1920:=by cases n <;> exact h
  rw[yM] at hw;rw[List.mem_singleton.mp hw,PySem.ofString_length];exact int_text_length_le (k:=1920) (by decide) h
 | n,.str x,h,w,hw=>by
  have h:x.length<=1921:=by cases n <;> exact h
  rw[yM] at hw;rw[List.mem_singleton.mp hw];exact h
 | 0,.tup _,h,_,_=>h.elim
 | n+1,.tup l,h,w,hw=>by
  rw[yM] at hw;exact zBn n l h.2 w hw
theorem zBn:∀(n:Nat)(l:List Dt),(∀ d∈l,zAd n d)->∀ w∈zW l,w.length<=1921
 | _,[],_,w,hw=>by rw[zW] at hw; exact nomatch hw
 | n,d::l,h,w,hw=>by
  rw[zW] at hw;rcases List.mem_append.mp hw with z | z
  ·exact zA5 n d (h d (.head _)) w z
  ·exact zBn n l (λd hd=>h d (.tail _ hd)) w z
end
theorem sP{sep:Str}(hs:sep.length<=1):∀{ts:List Str},(∀ w∈ts,w.length<=1921)->vM sep ts<=ts.length*1922
 | [],_=>by unfold vM; simp
 | t::ts,h=>by
  have ih:=sP hs (ts:=ts) λw hw=>h w (.tail _ hw);have:=h t (.head _);unfold vM at ih ⊢;rw[List.map_cons,List.sum_cons,List.length_cons,Nat.add_mul,Nat.add_mul];lia
theorem zGz(sep:Str)(zs:List Str):(Builtin.Str.glued sep zs).length<=vM sep zs:=by
 rw[PySem.StrLaws.glued_eq_join];exact zJk sep zs
def zP4(d:Dt):Str:=Str.empty++Builtin.Str.glued (Str.ofString " ") (yM d)++Str.ofString "\n"
mutual
def yP:Dt->List Dt
 | .int i=>[.int i]
 | .str x=>[.str x]
 | .tup l=>yD l
def yD:List Dt->List Dt
 | []=>[]
 | d::l=>yP d++yD l
end
def w1:Dt->Str
 | .int i=>Str.ofString (toString i)
 | .str x=>x
 | .tup _=>Str.empty
mutual
theorem qC:∀ d:Dt,yM d=(yP d).map w1
 | .int i=>by rw[yM,yP]; rfl
 | .str x=>by rw[yM,yP]; rfl
 | .tup l=>by rw[yM,yP]; exact zA1 l
theorem zA1:∀ l:List Dt,zW l=(yD l).map w1
 | []=>by rw[zW,yD]; rfl
 | d::l=>by rw[zW,yD,List.map_append,qC d,zA1 l]
end
mutual
theorem zIl:∀(n:Nat)(d:Dt),zAd n d->∀ e∈yP d,zAd 0 e
 | n,.int i,h,e,he=>by
  rw[yP] at he;rw[List.mem_singleton.mp he];cases n <;> exact h
 | n,.str x,h,e,he=>by
  rw[yP] at he;rw[List.mem_singleton.mp he];cases n <;> exact h
 | 0,.tup _,h,_,_=>h.elim
 | n+1,.tup l,h,e,he=>by
  rw[yP] at he;exact zGb n l h.2 e he
theorem zGb:∀(n:Nat)(l:List Dt),(∀ d∈l,zAd n d)->∀ e∈yD l,zAd 0 e
 | _,[],_,e,he=>by rw[yD] at he; exact nomatch he
 | n,d::l,h,e,he=>by
  rw[yD] at he;rcases List.mem_append.mp he with z | z
  ·exact zIl n d (h d (.head _)) e z
  ·exact zGb n l (λd hd=>h d (.tail _ hd)) e z
end
theorem qH:∀(l m:List Dt),yD (l++m)=yD l++yD m
 | [],_=>by rw[yD]; rfl
 | d::l,m=>by rw[List.cons_append,yD,yD,qH l m,List.append_assoc]
theorem zG1{l:List Dt}{i:Nat}{d:Dt}(h:l[i]?=some d):yD (l.take (i+1))=yD (l.take i)++yP d:=by
 rw[List.take_succ,h,qH];show _++yD [d]=_;rw[yD,yD,List.append_nil]
theorem zKa(l:List Dt)(i:Nat):(yD (l.take i)).length<=(yD l).length:=by
 have:=congrArg (λl=>(yD l).length) (List.take_append_drop i l);simp only[qH,List.length_append] at this;lia
theorem cutRw{ok:Addr->List V->Option V->Hp->Prop}{G:Prop}{R:Addr->List V->Option V->Hp->Prop}(h1:(∀ r zs u H,ok r zs u H->R r zs u H)->G)(h2:∀ r zs u H,ok r zs u H->R r zs u H):G:=h1 h2
theorem zD2:∀(l:List Dt),(∀ d∈l,zAd 0 d)->yD l=l
 | [],_=>by rw[yD]
 | .int i::l,h=>by rw[yD,yP,zD2 l λd hd=>h d (.tail _ hd)]; rfl
 | .str x::l,h=>by rw[yD,yP,zD2 l λd hd=>h d (.tail _ hd)]; rfl
 | .tup m::l,h=>(h (.tup m) (.head _)).elim
theorem zH7{n:Nat}{d:Dt}(sh:zAd n d)(hl:(yM d).length<=50):(zP4 d).length<=100000:=by
 have jl:=sP (sep:=Str.ofString " ") (by decide) (zA5 n d sh);have gl:=zGz (Str.ofString " ") (yM d);unfold zP4;rw[strLen_append,strLen_append];have e1:Str.empty.length=0:=rfl;have e2:(Str.ofString "\n").length=1:=rfl;lia
theorem zGr:∀{ts:List Str},(∀ w∈ts,w.length<=100000)->vM (Str.ofString "") ts<=ts.length*100000
 | [],_=>by unfold vM; simp
 | t::ts,h=>by
  have ih:=zGr (ts:=ts) λw hw=>h w (.tail _ hw);have:=h t (.head _);have e0:(Str.ofString "").length=0:=rfl;unfold vM at ih ⊢;rw[List.map_cons,List.sum_cons,List.length_cons,Nat.add_mul,Nat.add_mul];rw[e0] at ih ⊢;lia
def zTe(ds:List Deed):Str:=Builtin.Str.glued (Str.ofString "") (ds.map λD=>zP4 D.dt)
theorem zNt(x:Str):Str.empty++x=x:=by
 cases x;show(⟨#[]++_⟩:Str)=_;rw[Array.empty_append]
theorem zVl(D:Deed):∃ l,D.dt=.tup l:=by cases D <;> exact⟨_,rfl⟩
end Sea

namespace L2
open PySem PySem.Spec PyProof.Rows
section
variable{X:Cx}{e:Expr}{te:TE}{pos p p2:Pos}
def tFend(c:Str)(te:TE):TE:=λσ H Q=>te σ H λv H1=>∃ x:Str,v=.str x/\x.length<=1000000/\Q (.str (Str.empty++x++c)) H1
theorem zT3{c:Str}{j:Nat}(hv:PE X e te)(hc:c.length<=1000:=by decide)
  (he:evalEach [.FormattedValue e (-1) none p,.Constant (.str c) j p2] X.env=[eval (.FormattedValue e (-1) none p) X.env,eval (.Constant (.str c) j p2) X.env]:=by rfl) :
  PE X (.JoinedStr [.FormattedValue e (-1) none p,.Constant (.str c) j p2] pos) (tFend c te):=by
 intro pins s σ H Q I h;refine wpAny_JoinedStr ?_;rw[he];refine wpAny_FormattedValue_plain (thn (hv pins s σ H _ I h) λu s1 ⟨v,H1,I1,r,x,ev,hx,q1⟩=>?_);subst ev;obtain⟨tk,rfl⟩:=(show ∃ t,u=Value.str x t from r);have l0:(Str.empty++x).length<=1000000:=by rw[strLen_append]; show 0+x.length<=1000000; lia
 refine formatField_str (λt' tk'=>?_) (by show x.length<=2^24; lia);refine⟨x,t',rfl,by show _<=2^24; lia,?_⟩;refine Calls.Constant_str ⟨c,_,rfl,?_,?_⟩
 ·rw[strLen_append];show _<=2^24;lia
 ·exact⟨by rw[strLen_append]; show _<=2^24; lia,.str _,H1,I1.tok _,⟨_,rfl⟩,q1⟩
end
end L2

namespace L2
open PySem PySem.Spec PyProof.Rows
section
variable{X:Cx}
def rNeDK:R2:=λx y H Q=>∃(a b:Addr)(kvs:List (Key×V)),x=.ref a/\y=.ref b/\Rd H a (.dK kvs)/\H b=some (.dK [])/\Q (.bl (!kvs.isEmpty)) H
theorem zT9(hu:X.A.units<cLine):OpR X (compareOp .NotEq) rNeDK:=by
 intro pins s σ H x y v u Q I rx ry h;obtain⟨a,b,kvs,rfl,rfl,ha,hb,q⟩:=h;cases rx;cases ry;obtain⟨_,na,vs,r,da⟩:=ha.ok I.hok;obtain⟨_,nb,us,r',db⟩:=(show Rd H b (.dK []) from .inl hb).ok I.hok;have e0:us=[]:=List.length_eq_zero_iff.mp (by rw[<- r'.length]; rfl);subst e0;have hl:=r.length;have e:(!(vs.length ==([]:List (Key×Value)).length&&true)) = !kvs.isEmpty:=by
  rw[<- hl];cases kvs <;> rfl
 refine PySem.W.keq_ne (r:=true) na nb da db hu (λz=>?_) ?_
 ·rw[List.length_eq_zero_iff.mp z];exact .nil
 ·rw[e];exact⟨.bl _,H,I,rfl,q⟩
def rNeA(K:PySem.W.Frag):R2:=λx y H Q=>∃(a b:Addr)(xs:List V),x=.ref a/\y=.ref b/\SqL K H a xs/\SqL K H b []/\Q (.bl (!xs.isEmpty)) H
theorem zNm(hu:X.A.units<cLine):OpR X (compareOp .NotEq) (rNeA X.K):=by
 intro pins s σ H x y v u Q I rx ry h;obtain⟨a,b,xs,rfl,rfl,h1,h2,q⟩:=h;cases rx;cases ry;obtain⟨us,r1,p1,_⟩:=I.list h1;obtain⟨ws,r2,p2,_⟩:=I.list h2;have e2:=yS.zero r2;subst e2;cases r1 with
 | nil =>
  refine SeqAt.RcNeAt.lists (e:=λ_=>true) p1.isList p2.isList rfl hu (λj g _=>absurd g (by simp)) X.prog X.w _ _ ?_;exact⟨.bl false,H,I,rfl,q⟩
 | cons r rs =>
  refine SeqAt.RcNeAt.lists_lengths p1.isList p2.isList (by simp) hu X.prog X.w _ _ ?_;exact⟨.bl true,H,I,rfl,q⟩
theorem zBz{vs:List Value}{ns:List Str}(h:StrsAre vs ns):∀{i:Nat}{v:Value},vs[i]?=some v->∃ t n,ns[i]?=some n/\v=.str n t:=by
 induction h with
 | nil=>intro i v e; simp at e
 | cons n t _ ih =>
  intro i v e;cases i with
  | zero=>simp at e; exact⟨t,n,rfl,e.symm⟩
  | succ i=>exact ih (by simpa using e)
theorem zOq(hc:X.calm=true):wO X (.builtin "min") (λxs H Q=>∃(p:Addr)(ns:List Str),xs=[.ref p]/\SqL X.K H p (ns.map V.str)/\ns≠[]/\∀ M:Str,M∈ns->Q (.str M) H):=by
 intro pins s σ H xs us Q I r h;obtain⟨p,ns,rfl,hq,hne,q⟩:=h;obtain⟨u,rfl,r1⟩:=zB1 r;cases r1;obtain⟨its,rv,pl,hz⟩:=I.list hq;have sa:=zFw rv;have hn:=rv.length;rw[List.length_map] at hn;have hpos:0<ns.length:=List.length_pos_iff.mpr hne;have hL:s.heap.IsList p its.toArray:=pl.isList;have hlt:p<s.heap.objs.size:=by obtain⟨_,e,_⟩:=hL; exact Heap.lt_size e
 refine call_min_walk (wpAny_pyIter_list hL ?_);refine⟨s.heap.objs.size,_,_,_,_,_,λi j=>decide ((ns.getD i "").cps.toList<(ns.getD j "").cps.toList),rfl,Walks.list (A:=X.A.in1) (I.ok.hd hc) _ p (Nat.ne_of_lt hlt) its.toArray,⟨⟨_,Heap.get?_push_size _ rfl,rfl,rfl⟩,hL.push _⟩,(λb hb=>?_),(by rw[List.size_toArray]; lia),(λi j vi vj s Q E hi hj h=>?_),λv h' tk hP hk=>?_⟩
 ·show b<(s.heap.push _).objs.size;rw[Heap.size_push];rcases List.mem_cons.mp hb with rfl | hb
  ·exact Nat.lt_succ_self _
  ·rcases List.mem_cons.mp hb with rfl | hb
   ·exact Nat.lt_succ_of_lt hlt
   ·cases hb
 ·obtain⟨ti,ni,e1,rfl⟩:=zBz sa (i:=i) (by simpa using hi);obtain⟨tj,nj,e2,rfl⟩:=zBz sa (i:=j) (by simpa using hj);dsimp only at h;rw[List.getD_eq_getElem?_getD,List.getD_eq_getElem?_getD,e1,e2] at h;exact PySem.P.lt_str h
 ·obtain⟨t,n,e1,rfl⟩:=zBz sa (by simpa using hP);exact⟨.str n,H,I.kept (t':=tk) (old_kept hk),⟨t,rfl⟩,q n (List.mem_of_getElem? e1)⟩
def rInPL(K:PySem.W.Frag):R2:=λx y H Q=>∃(p e:Addr)(ns:List Int)(es:List (Addr×List Int)),x=.ref p/\y=.ref e/\H p=some (.tup (ns.map V.int))/\SqL K H e ((es.map (·.1)).map V.ref)/\(∀ t∈es,H t.1=some (.tup (t.2.map V.int))) /\
 Q (.bl (es.any λt=>decide (t.2=ns))) H
theorem zUo(hu:X.A.units+64<cLine):OpR X (compareOp .In) (rInPL X.K):=by
 intro pins s σ H x y v u Q I rx ry h;obtain⟨p,e,ns,es,rfl,rfl,hp,he,hes,q⟩:=h;cases rx;cases ry;obtain⟨its,r,pl,_⟩:=I.list he;have ei:=zKv r;subst ei;refine SeqAt.in_listAt (zJ1 H ns) pl.isList (λw hw=>?_) ⟨.bl _,H,I,rfl,?_⟩
 ·have hw':w∈(es.map (·.1)).map Value.ref:=by simpa using hw
  rw[List.map_map] at hw';obtain⟨t,ht,ew⟩:=List.mem_map.mp hw';subst ew;show SeqAt.EqAt X.A.in1 s (.ref t.1) (.ref p) (zJ1 H ns (.ref t.1));rw[zGm (hes t ht)];exact zO0 I (show X.A.units+1<cLine by lia) (hes t ht) hp
 ·have e2:(((es.map (·.1)).map Value.ref).toArray.any (zJ1 H ns))=es.any λt=>decide (t.2=ns):=by
   rw[show(((es.map (·.1)).map Value.ref).toArray.any (zJ1 H ns))=((es.map (·.1)).map Value.ref).any (zJ1 H ns) by simp,List.map_map,List.any_map];rw[Bool.eq_iff_iff,List.any_eq_true,List.any_eq_true];constructor
   ·rintro⟨t,ht,z⟩;exact⟨t,ht,by rw[<- zGm (ns:=ns) (hes t ht)]; exact z⟩
   ·rintro⟨t,ht,z⟩;exact⟨t,ht,by show zJ1 H ns (.ref t.1)=true; rw[zGm (hes t ht)]; exact z⟩
  rw[e2];exact q
theorem zL0:∀{xs:List V}{us:List Value},yS xs us->yS xs.reverse us.reverse
 | _,_,.nil=>.nil
 | _,_,.cons r1 r2=>by
  rw[List.reverse_cons,List.reverse_cons];exact(zL0 r2).append (.cons r1 .nil)
variable{e:Expr}{te:TE}{st:Expr}{ts:TO}{pos p2:Pos}
def tSlR(K:PySem.W.Frag)(te:TE)(ts:TO):TE:=λσ H Q=>te σ H λx H1=>ts σ H1 λk H4 =>
 ∃ a xs,x=.ref a/\SqL K H4 a xs/\k=some (-1)/\∀ p,H4 p=none->Q (.ref p) (upd H4 p (.lst xs.reverse))
theorem zO2(he:PE X e te)(hk:PO X (some st) ts):PE X (.Subscript e (.Slice none none (some st) p2) pos) (tSlR X.K te ts):=by
 intro pins s σ H Q I h;refine Subscript_ (thn (he pins s σ H _ I h) λv s1 ⟨x,H1,I1,r1,q1⟩=>?_);refine wpAny_Slice (thn (vO (X:=X) pins s1 σ H1 (λl H2=>l=none/\ts σ H2 _) I1 ⟨rfl,q1⟩) λvl s2 ⟨l,H2,I2,pl,l0,q2⟩=>thn (vO (X:=X) pins s2 σ H2 (λl H2=>l=none/\ts σ H2 _) I2 ⟨rfl,q2⟩) λvu s3 ⟨u,H3,I3,pu,u0,q3⟩=>thn (hk pins s3 σ H3 _ I3 q3) λvk s4 ⟨k,H4,I4,pk,q4⟩=>?_);obtain⟨a,xs,rfl,hx,h0,q⟩:=q4;subst l0 u0 h0;cases r1;have I5:Inv X pins σ H4 { s4 with heap:=s4.heap.push { cls:=.type "slice", data:=.fields #[vl,vu,vk] } }:=I4.kept (t':=s4.toks) λb ob q=>Heap.get?_push_of_some _ q;obtain⟨its,r,ht,hz⟩:=I5.list hx;have hlen:=r.length;show wpAny (model X.prog X.w) X.A (subscriptTail e (.Slice none none (some st) p2) (.ref a) (.ref s4.heap.objs.size)) (EP X pins σ Q) X.xe { s4 with heap:=s4.heap.push { cls:=.type "slice", data:=.fields #[vl,vu,vk] } };refine tail_any (ops:=[.ref a,.ref s4.heap.objs.size]) ht.isList.typeIs slot_list_getitem.lookup ?_ (by with_unfolding_all rfl);refine wpAny_getItem_list_slice ht.isList (Heap.IsSliceOf.new ..) pl pu pk (by decide) ?_ (by rw[List.size_toArray] <;> lia);rw[PySem.W.krv_pick];refine⟨.ref _,_,I5.laid (t':=s4.toks) (o:=.lst xs.reverse) (λb ob q=>Heap.get?_push_of_some _ q) (Nat.le_refl _) ?_,rfl,q _ (I5.hok.fresh (Nat.le_refl _))⟩;exact⟨by rw[List.length_reverse]; exact hz,its.reverse,0,zL0 r,Heap.get?_push_size _ rfl⟩
end
end L2

namespace Sea
open PySem L2
theorem zTo{vs:List (Int×Int)}(h:zOo vs):zVb vs=true:=by
 unfold zVb;rw[zNg];obtain⟨l3,l8⟩:=h.len;have lm:(vs.map λc=>((0:Addr),c)).length=vs.length:=List.length_map _;have at_:∀ i,ptA (vs.map λc=>((0:Addr),c)) i=atP vs i:=λi=>by
  unfold ptA atP;rw[List.getElem?_map,Option.map_map];cases vs[i]? <;> rfl
 unfold zPd;rw[lm,decide_eq_true l3,decide_eq_true l8,Bool.true_and,Bool.true_and,List.all_eq_true];intro i hi;rw[List.all_eq_true];intro k hk;have hi:=List.mem_range.mp hi;have hk:=List.mem_range.mp hk;by_cases h1:k=i
 ·simp[h1]
 by_cases h2:k=(i+1)%vs.length
 ·simp[h2]
 unfold zJt;rw[lm,at_,at_,at_,decide_eq_true (zN9 h hi hk h1 h2),Bool.or_true]
theorem zOm:∀(n:Nat)(d:Dt),zAd n d->zAd (n+1) d
 | n,.int i,h=>by cases n <;> exact h
 | n,.str x,h=>by cases n <;> exact h
 | 0,.tup _,h=>h.elim
 | n+1,.tup l,h=>⟨h.1,λd hd=>zOm n d (h.2 d hd)⟩
theorem xN{n:Nat}{i:Int}(h:i.natAbs<=1900):zAd n (.int i):=by
 have:i.natAbs.log2<1920:=by
  have:=Nat.log2_le_self i.natAbs;lia
 cases n <;> exact this
theorem yZ{n:Nat}{x:Str}(h:x.length<=8):zAd n (.str x):=by
 have:x.length<=1921:=by lia
 cases n <;> exact this
theorem wG{n:Nat}{l:List Dt}(h:l.length<=900)(g:∀ d∈l,zAd n d):zAd (n+1) (.tup l):=⟨h,g⟩
theorem zJn{n:Nat}{p:Int×Int}(h:zFr p):zAd (n+1) (ptD p):=by
 obtain⟨h1,h2,h3,h4⟩:=h;refine wG (by show 2<=900; decide) λd hd=>?_;rcases List.mem_cons.mp hd with rfl | hd
 ·exact xN (by lia)
 ·rw[List.mem_singleton.mp hd];exact xN (by lia)
def zTz(D:Deed):Prop:=zAd 3 D.dt/\zAd 4 D.dt/\(yM D.dt).length<=50
structure zO5(S:BS)(k:Nat):Prop where
 mk ::
 ma:∀ e∈S.marks,sN e.1
 ba:∀ e∈S.banks,sN e.1
 ru:S.runs.length<=k
 no:∀ e∈S.notes,0<=e.1/\e.1<=S.coming
 co:0<=S.coming/\S.coming<=1+k
theorem zO5.nil:zO5 BS.nil 0:=⟨λe he=>(nomatch he),λe he=>(nomatch he),Nat.le_refl _,λe he=>(nomatch he),by show 0<=(1:Int)/\(1:Int)<=1+0; decide⟩
theorem zO5.mark{S:BS}{k:Nat}{n:Str}(t:zO5 S k)(h:(zV S n).isSome=true):sN n:=by
 obtain⟨p,e⟩:=Option.isSome_iff_exists.mp h;exact t.ma _ (uO e)
theorem zJe{S:BS}{k:Nat}{D:Deed}(t:zO5 S k):zO5 { S with notes:=S.notes++[(S.coming,D)],coming:=S.coming+1 } (k+1):=by
 obtain⟨c0,c1⟩:=t.co;refine⟨t.ma,t.ba,Nat.le_succ_of_le t.ru,λe he=>?_,by show 0<=S.coming+1/\S.coming+1<=1+((k+1:Nat):Int); lia⟩;show 0<=e.1/\e.1<=S.coming+1;rcases List.mem_append.mp he with z | z
 ·have:=t.no e z; lia
 ·rw[List.mem_singleton.mp z]; show 0<=S.coming/\S.coming<=S.coming+1; lia
theorem zRt{S:BS}{k:Nat}{D:Deed}(t:zO5 S k)(ok:okD S D):zO5 (aft S D) (k+1):=by
 obtain⟨c0,c1⟩:=t.co;have cc:0<=S.coming/\S.coming<=1+((k+1:Nat):Int):=by lia
 match D,ok with
 | .mark n x y,ok =>
  refine⟨λe he=>?_,t.ba,Nat.le_succ_of_le t.ru,t.no,cc⟩;rcases List.mem_append.mp he with z | z
  ·exact t.ma e z
  ·rw[List.mem_singleton.mp z]; exact ok.1
 | .move n x y,ok =>
  refine⟨λe he=>?_,t.ba,Nat.le_succ_of_le t.ru,t.no,cc⟩;obtain⟨e',h1,rfl⟩:=List.mem_map.mp he;have:=t.ma e' h1;split <;> exact this
 | .unmark n,ok=>exact⟨λe he=>t.ma e (List.mem_filter.mp he).1,t.ba,Nat.le_succ_of_le t.ru,t.no,cc⟩
 | .bank n cs,ok =>
  refine⟨t.ma,λe he=>?_,Nat.le_succ_of_le t.ru,t.no,cc⟩;rcases List.mem_append.mp he with z | z
  ·exact t.ba e z
  ·rw[List.mem_singleton.mp z]; exact ok.1
 | .level n,ok=>exact⟨t.ma,λe he=>t.ba e (List.mem_filter.mp he).1,Nat.le_succ_of_le t.ru,t.no,cc⟩
 | .sail x y,ok=>exact⟨t.ma,t.ba,by show(S.runs++[_]).length<=_; rw[List.length_append]; have:=t.ru; simp only[List.length_cons,List.length_nil]; lia,t.no,cc⟩
 | .right j x y,ok=>exact⟨t.ma,t.ba,by show(S.runs.set _ _).length<=_; rw[List.length_set]; exact Nat.le_succ_of_le t.ru,t.no,cc⟩
 | .bearing m n a b c d,ok=>exact zJe t
 | .range m l r,ok=>exact zJe t
 | .strike j,ok=>exact⟨t.ma,t.ba,Nat.le_succ_of_le t.ru,λe he=>t.no e (List.mem_filter.mp he).1,cc⟩
theorem dt2{P:Dt->Prop}{a b:Dt}(h1:P a)(h2:P b):∀ d∈[a,b],P d:=λd hd=>by
 rcases List.mem_cons.mp hd with rfl | hd
 ·exact h1
 ·rw[List.mem_singleton.mp hd]; exact h2
theorem dt3{P:Dt->Prop}{a b c:Dt}(h1:P a)(h2:P b)(h3:P c):∀ d∈[a,b,c],P d:=λd hd=>by
 rcases List.mem_cons.mp hd with rfl | hd
 ·exact h1
 ·exact dt2 h2 h3 d hd
theorem dt4{P:Dt->Prop}{a b c e:Dt}(h1:P a)(h2:P b)(h3:P c)(h4:P e):∀ d∈[a,b,c,e],P d:=λd hd=>by
 rcases List.mem_cons.mp hd with rfl | hd
 ·exact h1
 ·exact dt3 h2 h3 h4 d hd
theorem zH5:∀ cs:List (Int×Int),(zW (cs.map ptD)).length=2*cs.length
 | []=>by rw[List.map_nil,zW]; rfl
 | c::cs=>by
  rw[List.map_cons,zW,List.length_append,zH5 cs,List.length_cons];simp only[ptD,yM,zW,List.length_append,List.length_cons,List.length_nil];lia
theorem zP6{D:Deed}(h:zAd 3 D.dt)(w:(yM D.dt).length<=50):zTz D:=⟨h,zOm 3 _ h,w⟩
theorem zXn{S:BS}{k:Nat}{D:Deed}(t:zO5 S k)(hk:k<=1000)(ok:okD S D):zTz D:=by
 match D,ok with
 | .mark n x y,⟨on,_,⟨h1,h2,h3,h4⟩,_⟩ =>
  exact zP6 (wG (Nat.le_of_ble_eq_true rfl) (dt4 (yZ (by decide)) (yZ on.2.1) (xN (by dsimp only at h1 h2; lia)) (xN (by dsimp only at h3 h4; lia)))) (by simp[Deed.dt,yM,zW])
 | .move n x y,⟨hs,⟨h1,h2,h3,h4⟩,_⟩ =>
  exact zP6 (wG (Nat.le_of_ble_eq_true rfl) (dt4 (yZ (by decide)) (yZ (t.mark hs).2.1) (xN (by dsimp only at h1 h2; lia)) (xN (by dsimp only at h3 h4; lia)))) (by simp[Deed.dt,yM,zW])
 | .unmark n,⟨hs,_⟩ =>
  exact zP6 (wG (Nat.le_of_ble_eq_true rfl) (dt2 (yZ (by decide)) (yZ (t.mark hs).2.1))) (by simp[Deed.dt,yM,zW])
 | .bank n cs,⟨on,_,nr,bk,_⟩ =>
  have l8:cs.length<=8:=by
   unfold zVb isB at bk;rw[List.length_map] at bk;simp at bk;exact bk.2.1
  refine zP6 (wG (Nat.le_of_ble_eq_true rfl) (dt3 (yZ (by decide)) (yZ on.2.1) (wG (by rw[List.length_map]; lia) λd hd=>?_))) ?_
  ·obtain⟨c,hc,rfl⟩:=List.mem_map.mp hd;exact zJn (nr c hc)
  ·have:=zH5 cs;simp only[Deed.dt,yM,zW,List.length_append,List.length_cons,List.length_nil];lia
 | .level n,ok =>
  obtain⟨e,he,rfl⟩:=List.mem_map.mp ok;exact zP6 (wG (Nat.le_of_ble_eq_true rfl) (dt2 (yZ (by decide)) (yZ (t.ba e he).2.1))) (by simp[Deed.dt,yM,zW])
 | .sail x y,⟨⟨h1,h2,h3,h4⟩,_⟩ =>
  exact zP6 (wG (Nat.le_of_ble_eq_true rfl) (dt3 (yZ (by decide)) (xN (by dsimp only at h1 h2; lia)) (xN (by dsimp only at h3 h4; lia)))) (by simp[Deed.dt,yM,zW])
 | .right j x y,⟨j0,j1,⟨h1,h2,h3,h4⟩⟩ =>
  have:=t.ru;exact zP6 (wG (Nat.le_of_ble_eq_true rfl) (dt4 (yZ (by decide)) (xN (by lia)) (xN (by dsimp only at h1 h2; lia)) (xN (by dsimp only at h3 h4; lia)))) (by simp[Deed.dt,yM,zW])
 | .bearing m n a b c d,⟨m0,m1,hs,⟨_,w1,w2,w3,w4⟩,⟨_,w5,w6,w7,w8⟩,_⟩ =>
  have:=t.ru;dsimp only at w1 w2 w3 w4 w5 w6 w7 w8;refine zP6 (wG (Nat.le_of_ble_eq_true rfl) λd hd=>?_) (by simp[Deed.dt,yM,zW,ptD]);rcases List.mem_cons.mp hd with rfl | hd
  ·exact yZ (by decide)
  ·exact dt4 (xN (by lia)) (yZ (t.mark hs).2.1) (zJn ⟨by dsimp only; lia,by dsimp only; lia,by dsimp only; lia,by dsimp only; lia⟩) (zJn ⟨by dsimp only; lia,by dsimp only; lia,by dsimp only; lia,by dsimp only; lia⟩) d hd
 | .range m l r,⟨m0,m1,h1,h2,_⟩ =>
  have:=t.ru;exact zP6 (wG (Nat.le_of_ble_eq_true rfl) (dt4 (yZ (by decide)) (xN (by lia)) (yZ (t.mark h1).2.1) (yZ (t.mark h2).2.1))) (by simp[Deed.dt,yM,zW])
 | .strike j,ok =>
  obtain⟨e,he,rfl⟩:=List.mem_map.mp ok;have:=t.no e he;have:=t.co;exact zP6 (wG (Nat.le_of_ble_eq_true rfl) (dt2 (yZ (by decide)) (xN (by lia)))) (by simp[Deed.dt,yM,zW])
theorem zF1:∀{Ds:List Deed}{S:BS}{k:Nat},wB S Ds->zO5 S k->k+Ds.length<=900->∀ D∈Ds,zTz D
 | [],_,_,_,_,_,D,hD=>nomatch hD
 | E::Ds,S,k,⟨h1,h2⟩,t,hk,D,hD=>by
  rw[List.length_cons] at hk;rcases List.mem_cons.mp hD with rfl | hD
  ·exact zXn t (by lia) h1
  ·exact zF1 h2 (zRt t h1) (by lia) D hD
def Bd(S:BS)(B:Nat):Prop:=∀ e∈S.marks,e.2.1.natAbs<=B/\e.2.2.natAbs<=B
structure zNu(S:BS)(D:Deed)(B:Nat):Prop where
 mk ::
 ok:okD S D
 bd:Bd (aft S D) (B+5)
 lo:S.marks.length<=(aft S D).marks.length
 hi:(aft S D).marks.length<=S.marks.length+1
 bk:(aft S D).banks=S.banks
theorem zNu.still{S:BS}{D:Deed}{B:Nat}(b:Bd S B)(ok:okD S D)(e1:(aft S D).marks=S.marks)(e2:(aft S D).banks=S.banks):zNu S D B :=
 ⟨ok,λe he=>by rw[e1] at he; have:=b e he; lia,by rw[e1]; exact Nat.le_refl _,by rw[e1]; lia,e2⟩
theorem zN8{S:BS}{B:Nat}{n:Str}{x y:Int}(b:Bd S B)(ok:okD S (.mark n x y))(hx:x.natAbs<=B+5)(hy:y.natAbs<=B+5):zNu S (.mark n x y) B:=by
 refine⟨ok,λe he=>?_,?_,?_,rfl⟩
 ·rcases List.mem_append.mp he with z | z
  ·have:=b e z; lia
  ·rw[List.mem_singleton.mp z]; exact⟨hx,hy⟩
 ·show _<=(S.marks++[_]).length; rw[List.length_append]; lia
 ·show(S.marks++[_]).length<=_; rw[List.length_append]; exact Nat.le_refl _
theorem zIw{S:BS}{B:Nat}{n:Str}{p t:Int×Int}(b:Bd S B)(g:zP2 S)(h1:zV S n=some p)(hB:B<=990)(h2:t=p\/∀ e∈S.marks,e.2≠t)(hx:t.1.natAbs<=B+5)(hy:t.2.natAbs<=B+5):zNu S (.move n t.1 t.2) B:=by
 have ml:(aft S (.move n t.1 t.2)).marks.length=S.marks.length:=List.length_map _;refine⟨⟨by rw[h1]; rfl,⟨by show -1000<=t.1; lia,by show t.1<=1000; lia,by show -1000<=t.2; lia,by show t.2<=1000; lia⟩,λe he=>?_⟩,λe he=>?_,by rw[ml]; exact Nat.le_refl _,by rw[ml]; lia,rfl⟩
 ·have kn:=g.note e he
  match e.2,kn with
  | .bearing m k a b' c d,_=>exact trivial
  | .range m l r,kn =>
   obtain⟨_,_,s1,s2,ne⟩:=kn;obtain⟨u,eu⟩:=Option.isSome_iff_exists.mp s1;obtain⟨v,ev⟩:=Option.isSome_iff_exists.mp s2;have uv:u≠v:=λz=>ne (by rw[eu,ev,z]);refine⟨if l=n then t else u,if r=n then t else v,by rw[qS,eu]; rfl,by rw[qS,ev]; rfl,?_⟩;by_cases z1:l=n
   ·rw[if_pos z1];by_cases z2:r=n
    ·rw[z1] at eu;rw[z2,eu] at ev;exact absurd (Option.some.inj ev) uv
    ·rw[if_neg z2];rcases h2 with h2 | h2
     ·rw[z1,h1] at eu;rw[h2,Option.some.inj eu];exact uv
     ·exact λz=>h2 _ (uO ev) z.symm
   ·rw[if_neg z1];by_cases z2:r=n
    ·rw[if_pos z2];rcases h2 with h2 | h2
     ·rw[z2,h1] at ev;rw[h2,Option.some.inj ev];exact uv
     ·exact λz=>h2 _ (uO eu) z
    ·rw[if_neg z2];exact uv
 ·obtain⟨e',h3,rfl⟩:=List.mem_map.mp he;have:=b e' h3;split
  ·exact⟨hx,hy⟩
  ·lia
end Sea

-- LAW
namespace Sea
open PySem L2
local macro_rules | `(tactic| ac_rfl) => `(tactic| exact ⟨rfl, rfl, rfl, by decide +kernel, rfl, by decide +kernel, by decide +kernel⟩)
structure Zs(mg:Str->Option Value):Prop where
 abs:mg "abs" = none
 all:mg "all" = none
 any:mg "any" = none
 bool:mg "bool" = none
 dict:mg "dict" = none
 enumerate:mg "enumerate" = none
 int:mg "int" = none
 isinstance:mg "isinstance" = none
 len:mg "len" = none
 list:mg "list" = none
 max:mg "max" = none
 min:mg "min" = none
 range:mg "range" = none
 reversed:mg "reversed" = none
 sorted:mg "sorted" = none
 str:mg "str" = none
 sum:mg "sum" = none
 tuple:mg "tuple" = none
 zip:mg "zip" = none
theorem zNp:zN ["one", "other"] ["one", "other"] (zJ zC9):=by ac_rfl
theorem zCv:zN ["start", "end"] ["start", "end"] (zJ wV):=by ac_rfl
theorem xK:zN ["corners", "number", "start", "way", "further", "other"] ["corners", "number"] (zJ uA):=by ac_rfl
theorem zId:zN ["corners"] ["corners"] (zJ sW):=by ac_rfl
theorem zCs:zN [] [] (zJ wP):=by ac_rfl
theorem zB4:zN ["state", "kind", "key", "value", "fresh"] ["state", "kind", "key", "value"] (zJ rG):=by ac_rfl
theorem zCa:zN ["state", "kind", "key", "fresh"] ["state", "kind", "key"] (zJ sY):=by ac_rfl
theorem zJr:zN ["numbers", "most"] ["numbers", "most"] (zJ zAa):=by ac_rfl
theorem zD6:zN ["name"] ["name"] (zJ uT):=by ac_rfl
theorem zEv:zN ["state", "kind", "name"] ["state", "kind", "name"] (zJ uZ):=by ac_rfl
theorem zC3:zN ["place"] ["place"] (zJ wR):=by ac_rfl
theorem zFj:zN ["run"] ["run"] (zJ vX):=by ac_rfl
theorem zDm:zN ["state", "kind"] ["state", "kind"] (zJ vC):=by ac_rfl
theorem zD0:zN ["state", "name"] ["state", "name"] (zJ vD):=by ac_rfl
theorem zBk:zN ["moment", "runs"] ["moment", "runs"] (zJ wK):=by ac_rfl
theorem zFd:zN ["direction"] ["direction"] (zJ vU):=by ac_rfl
theorem zC2:zN ["state", "left", "right"] ["state", "left", "right"] (zJ uF):=by ac_rfl
theorem tO:zN ["state", "row", "name", "place"] ["state", "row"] (zJ vE):=by ac_rfl
theorem wT:zN ["state", "row", "place", "fresh", "note"] ["state", "row"] (zJ vB):=by ac_rfl
theorem uN:zN ["state", "row", "name", "note"] ["state", "row"] (zJ wH):=by ac_rfl
theorem wQ:zN ["state", "row", "name", "corners", "corner"] ["state", "row"] (zJ uX):=by ac_rfl
theorem rV:zN ["state", "row", "name"] ["state", "row"] (zJ uE):=by ac_rfl
theorem qD:zN ["state", "row", "run"] ["state", "row"] (zJ uS):=by ac_rfl
theorem vP:zN ["state", "row", "number", "run"] ["state", "row"] (zJ wW):=by ac_rfl
theorem qB:zN ["state", "row", "fresh"] ["state", "row"] (zJ uY):=by ac_rfl
theorem zBh:zN ["state", "row"] ["state", "row"] (zJ xU):=by ac_rfl
theorem zC1:zN ["state", "row"] ["state", "row"] (zJ wZ):=by ac_rfl
theorem sS:zN ["state", "row", "number"] ["state", "row"] (zJ wE):=by ac_rfl
theorem zMf:zN ["state", "row"] ["state", "row"] (zJ zBb):=by ac_rfl
theorem rA:zN ["value", "words", "inner"] ["value"] (zJ vF):=by ac_rfl
theorem rX:zN ["deed", "row"] ["deed"] (zJ uC):=by ac_rfl
theorem zIe:zN ["book"] ["book"] (zJ rK):=by ac_rfl
theorem zMo:zN ["_law_number"] ["_law_number"] (zJ zA7):=by ac_rfl
theorem xV:zN ["_law_script", "_law_many", "_law_rows", "_law_mix", "_law_cell", "_law_rest"] ["_law_script", "_law_many"] (zJ zA2):=by ac_rfl
theorem xA:zN ["_law_some", "_law_many", "_law_letters", "_law_rows", "_law_at", "_law_raw", "_law_size", "_law_step", "_law_word", "_law_place", "_law_k", "_law_sign"] ["_law_some", "_law_many"] (zJ zA9):=by ac_rfl
theorem zQk:zN [] [] (zJ zHi):=by ac_rfl
theorem zC6:zN ["_law_one", "_law_two", "_law_wide", "_law_x", "_law_y"] ["_law_one", "_law_two", "_law_wide"] (zJ zGi):=by ac_rfl
theorem zKj:zN ["_law_one", "_law_other"] ["_law_one", "_law_other"] (zJ zAb):=by ac_rfl
theorem xL:zN ["_law_d", "_law_wide", "_law_one", "_law_other"] ["_law_d", "_law_wide"] (zJ vY):=by ac_rfl
theorem yU:zN ["_law_d", "_law_wide", "_law_one", "_law_other", "_law_x", "_law_y", "_law_p", "_law_q", "_law_leads", "_law_turned_here", "_law_here", "_law_row", "_law_found", "_law_dx", "_law_dy", "_law_at"] ["_law_d", "_law_wide"] (zJ zDg):=by ac_rfl
theorem zFp:zN ["_law_m", "_law_deed", "_law_later"] ["_law_m", "_law_deed"] (zJ zBf):=by ac_rfl
theorem yF:zN ["_law_d", "_law_m", "_law_names_here", "_law_known", "_law_one", "_law_other", "_law_x", "_law_y", "_law_moment", "_law_step", "_law_lead_here", "_law_free", "_law_taken", "_law_there"] ["_law_d", "_law_m", "_law_names_here"] (zJ vW):=by ac_rfl
theorem yN:zN ["_law_some", "_law_deeds", "_law_names_here", "_law_m", "_law_found", "_law_places", "_law_deed", "_law_k", "_law_free"] ["_law_some", "_law_deeds", "_law_names_here"] (zJ uU):=by ac_rfl
theorem zD1:zN ["_law_m", "_law_one", "_law_other", "_law_steps", "_law_sign"] ["_law_m", "_law_one", "_law_other"] (zJ zDj):=by ac_rfl
theorem yH:zN ["_law_d", "_law_m", "_law_moment", "_law_mark", "_law_x", "_law_y", "_law_dx", "_law_dy", "_law_p", "_law_q", "_law_by", "_law_one", "_law_other"] ["_law_d", "_law_m", "_law_moment", "_law_mark", "_law_x", "_law_y"] (zJ wF):=by ac_rfl
theorem yC:zN ["_law_some", "_law_names_here", "_law_x", "_law_y", "_law_m", "_law_deeds", "_law_k", "_law_known", "_law_d", "_law_moment", "_law_one", "_law_other", "_law_deed"] ["_law_some", "_law_names_here"] (zJ uW):=by ac_rfl
theorem zO8:zN ["_law_told", "_law_due"] ["_law_told", "_law_due"] (zJ zBc):=by ac_rfl
theorem xB:zN ["_law_deed", "_law_words", "_law_thing", "_law_row", "_law_one"] ["_law_deed"] (zJ tS):=by ac_rfl
theorem zO6:zN ["_law_deeds"] ["_law_deeds"] (zJ zDi):=by ac_rfl
theorem zAk:zN ["_law_script", "_law_some", "_law_names_here", "_law_deeds", "_law_book", "_law_at", "_law_deed", "_law_gone", "_law_left", "_law_again"] ["_law_script"] (zJ zKp):=by ac_rfl
theorem zO3:zN ["self"] ["self"] (zJ zDe):=by ac_rfl
theorem zEy:zN ["self", "row", "number", "fresh"] ["self", "row"] (zJ zDd):=by ac_rfl
theorem zHn:zN ["self", "taken", "given", "pair"] ["self", "taken", "given"] (zJ zC7):=by ac_rfl
theorem zPo:zN ["self"] ["self"] (zJ zDa):=by ac_rfl
theorem zMs:zN ["self"] ["self"] (zJ zBe):=by ac_rfl
theorem zJx:zN ["self"] ["self"] (zJ zAf):=by ac_rfl
theorem zJ4:zN ["self"] ["self"] (zJ qX):=by ac_rfl
def zAw:Addr:=202
def bkC:Addr:=588
def zV2:Addr:=253
def zV0:List (Key×V):=[(.inr "marks", .int 20),(.inr "banks", .int 8),(.inr "runs", .int 12),(.inr "notes", .int 24)]
def zSi:Addr:=418
def zSe:List (Key×V):=[(.inr "mark", .ref 347),(.inr "move", .ref 354),(.inr "unmark", .ref 361),(.inr "bank", .ref 368),(.inr "level", .ref 375),(.inr "sail", .ref 382),(.inr "right", .ref 389),(.inr "bearing", .ref 403),(.inr "range", .ref 410),(.inr "strike", .ref 417)]
def zKu:Addr:=439
def zKm:Addr:=516
def zKw:Addr:=523
def zJ2:Addr:=530
def zDh:Addr:=542
def zEz:Addr:=547
def zDw:Addr:=585
structure Cb(P:Program)(w:World)(mg:Str->Option Value)(base:Heap):Prop where
 state:InB base λK=>Cls K bkC/\zAj K bkC "state"
 past:InB base λK=>Cls K bkC/\zAj K bkC "past"
 later:InB base λK=>Cls K bkC/\zAj K bkC "later"
 m_deed:InB base λK=>Cls K bkC/\zRm K bkC "deed" zKm
 m_step:InB base λK=>Cls K bkC/\zRm K bkC "step" zKw
 m_undo:InB base λK=>Cls K bkC/\zRm K bkC "undo" zJ2
 m_deeds:InB base λK=>Cls K bkC/\zRm K bkC "deeds" zDh
 m_undone:InB base λK=>Cls K bkC/\zRm K bkC "undone" zEz
 m_coming:InB base λK=>Cls K bkC/\zRm K bkC "coming" zDw
 make:InB base λK=>Mk K bkC zKu
 gBook:mg "Book" = some (.ref bkC)
 dMOST:zVa P w base zV2 zV0
 gMOST:mg "MOST" = some (.ref zV2)
 dAFTER:zVa P w base zSi zSe
 gAFTER:mg "AFTER" = some (.ref zSi)
 LONGEST_NAME:∃ k,mg "LONGEST_NAME" = some (.int 8 k)
 FARTHEST:∃ k,mg "FARTHEST" = some (.int 1000 k)
 LONGEST_WAY:∃ k,mg "LONGEST_WAY" = some (.int 100 k)
 t_mark:mg "after_mark" = some (.ref 347)
 t_move:mg "after_move" = some (.ref 354)
 t_unmark:mg "after_unmark" = some (.ref 361)
 t_bank:mg "after_bank" = some (.ref 368)
 t_level:mg "after_level" = some (.ref 375)
 t_sail:mg "after_sail" = some (.ref 382)
 t_right:mg "after_right" = some (.ref 389)
 t_bearing:mg "after_bearing" = some (.ref 403)
 t_range:mg "after_range" = some (.ref 410)
 t_strike:mg "after_strike" = some (.ref 417)
 e_NoMoment:PyProof.Rows.OwnCls "NoMoment" zAw bmV "ValueError.__new__" mg base
set_option hygiene false in
local macro_rules | `(tactic| fail) => `(tactic| first | with_reducible exact xY | with_reducible exact zO | ((with_reducible apply zWf); exact rfl; fail; fail) | with_reducible exact zM | with_reducible exact zGh | with_reducible exact zS0 | ((with_reducible apply zVh); first | ((with_reducible apply zU6 "bool"); exact zBv (v := .ty "bool") rfl Z.bool zNq rfl) | ((with_reducible apply zU6 "dict"); exact zBv (v := .ty "dict") rfl Z.dict zAq rfl) | ((with_reducible apply zU6 "int"); exact zBv (v := .ty "int") rfl Z.int zSb rfl) | ((with_reducible apply zU6 "list"); exact zBv (v := .ty "list") rfl Z.list zBp rfl) | ((with_reducible apply zU6 "str"); exact zBv (v := .ty "str") rfl Z.str zS7 rfl) | ((with_reducible apply zU6 "tuple"); exact zBv (v := .ty "tuple") rfl Z.tuple zK5 rfl) | exact pv 0 | exact pv 1 | exact pv 2 | exact pv 3 | exact pv 4 | exact pv 5 | exact pv 6 | exact pv 7 | exact pv 8 | exact pv 9 | exact pv 10 | exact pv 11 | exact pv 12 | exact pv 13 | exact pv 14 | exact pv 15) | ((with_reducible apply m_sub); first | ((with_reducible apply wY zNv); fail; fail; fail) | ((with_reducible apply m_ix); exact λ_ _ => rfl; fail; fail)) | ((with_reducible apply m_bin); first | ((with_reducible apply uG zI1); fail; fail) | ((with_reducible apply uG zWm); fail; fail) | ((with_reducible apply uG zOe); fail; fail) | ((with_reducible apply uG zQg); fail; fail) | ((with_reducible apply uG zHt); fail; fail) | ((with_reducible apply uG zWq); fail; fail)) | ((with_reducible apply zWt); first | ((with_reducible apply m_own); (with_reducible assumption); exact ⟨rfl, rfl, rfl, rfl, rfl⟩; exact hr.mono (by decide); exact rfl; decide; exact rfl; exact rfl; fail) | ((with_reducible apply zHc zQw zWh); exact Z.abs; exact rfl; decide; decide; exact rfl; exact rfl; fail) | ((with_reducible apply zHc (qI rfl) zJg); exact Z.all; exact rfl; decide; decide; exact rfl; exact rfl; fail) | ((with_reducible apply zHc (zH2 rfl) zSp); exact Z.any; exact rfl; decide; decide; exact rfl; exact rfl; fail) | ((with_reducible apply zHc zKe zHb); exact Z.isinstance; exact rfl; decide; decide; exact rfl; exact rfl; fail) | ((with_reducible apply zHc wN sR); exact Z.len; exact rfl; decide; decide; exact rfl; exact rfl; fail) | ((with_reducible apply zHc (zNl rfl) zWn); exact Z.max; exact rfl; decide; decide; exact rfl; exact rfl; fail) | ((with_reducible apply zHc (zOf rfl) zS9); exact Z.min; exact rfl; decide; decide; exact rfl; exact rfl; fail) | ((with_reducible apply zHc call_sortedT zBa); exact Z.sorted; exact rfl; decide; decide; exact rfl; exact rfl; fail) | ((with_reducible apply zHc (zEh rfl) zO9); exact Z.sum; exact rfl; decide; decide; exact rfl; exact rfl; fail) | ((with_reducible apply zU7 call_bool1 zNq); exact Z.bool; exact rfl; decide; decide; exact rfl; exact rfl; fail) | ((with_reducible apply zU7 sU zAq); exact Z.dict; exact rfl; decide; decide; exact rfl; exact rfl; fail) | ((with_reducible apply zU7 zN7 zSb); exact Z.int; exact rfl; decide; decide; exact rfl; exact rfl; fail) | ((with_reducible apply zU7 zCi zBp); exact Z.list; exact rfl; decide; decide; exact rfl; exact rfl; fail) | ((with_reducible apply zU7 zIa zS7); exact Z.str; exact rfl; decide; decide; exact rfl; exact rfl; fail) | ((with_reducible apply zU7 zG5 zK5); exact Z.tuple; exact rfl; decide; decide; exact rfl; exact rfl; fail)) | ((with_reducible apply zD3); fail) | ((with_reducible apply zSg); fail) | ((with_reducible apply pe_un zW4); fail) | ((with_reducible apply pe_not); fail) | ((with_reducible apply m_cmp); first | ((with_reducible apply rJ zU2); fail; fail; exact yT _) | ((with_reducible apply rJ zW0); fail; fail; exact yT _) | ((with_reducible apply rJ zMr); fail; fail; exact yT _) | ((with_reducible apply rJ zR6); fail; fail; exact yT _) | ((with_reducible apply rJ zRw); fail; fail; exact yT _) | ((with_reducible apply rJ zUj); fail; fail; exact yT _) | ((with_reducible apply rJ op_isN); fail; fail; exact yT _) | ((with_reducible apply rJ op_notN); fail; fail; exact yT _)) | ((with_reducible apply zV7); first | ((with_reducible apply yO zU2); fail; fail; exact yT _) | ((with_reducible apply yO zW0); fail; fail; exact yT _) | ((with_reducible apply yO zMr); fail; fail; exact yT _) | ((with_reducible apply yO zR6); fail; fail; exact yT _) | ((with_reducible apply yO zRw); fail; fail; exact yT _) | ((with_reducible apply yO zUj); fail; fail; exact yT _) | ((with_reducible apply yO op_isN); fail; fail; exact yT _) | ((with_reducible apply yO op_notN); fail; fail; exact yT _)) | ((with_reducible apply zUw); fail) | ((with_reducible apply qN); fail) | ((with_reducible apply zGd); fail) | ((with_reducible apply zBg); fail; fail) | ((with_reducible apply zKh); fail; fail) | ((with_reducible apply zDt); fail) | ((with_reducible apply zS6); fail) | ((with_reducible apply zR9); fail; fail) | ((with_reducible apply pe_or); fail; fail) | ((with_reducible apply zLi); fail; fail; fail) | with_reducible exact vO | ((with_reducible apply uJ); fail) | ((with_reducible apply m_val); exact λ_ => rfl; fail))
set_option hygiene false in
local macro_rules | `(tactic| specialize $e) => `(tactic| refine F.ok $e (λvs H Q E h => ?_) (λcdv A outer s H vs Q E hr h => ?_))
local macro_rules | `(tactic| nofun) => `(tactic| ((any_goals fail); try dsimp only [L2.cxOf]))
section
variable{P:Program}{w:World}{mg:Str->Option Value}{base:Heap}{f:Addr}{fd:FuncData}
def zWb(K:PySem.W.Frag):Sp:=λvs H Q _=>∃(a b:Addr)(us ws:List V)(x1 y1 x2 y2:Int),vs=[.ref a,.ref b]/\Sq K H a us/\Sq K H b ws/\atI us 0=some (.int x1)/\atI us 1=some (.int y1)/\atI ws 0=some (.int x2)/\atI ws 1=some (.int y2) /\
 x1.natAbs<=10^18/\y1.natAbs<=10^18/\Q (.int (x1*y2-y1*x2)) H
def zEr(K:PySem.W.Frag):Sp:=zWb K
theorem zPf(F:Fun K "turn" "turn" zC9 f fd)(Z:Zs mg)(CB:Cb P w mg base)  : xE P w K mg base CX0 1 f fd ["one", "other"] (zEr K):=by
 specialize zNp
 ·obtain⟨a,b,us,ws,x1,y1,x2,y2,rfl,_⟩:=h;rfl
 obtain⟨a,b,us,ws,x1,y1,x2,y2,rfl,ha,hb,u0,u1,w0,w1,m1,m2,q⟩:=h
 refine'⟨_,(zF (zT ?_)),?_⟩
 nofun
 exact⟨_,rfl,a,_,_,.int x1,rfl,rfl,ha,u0,_,rfl,b,_,_,.int y2,rfl,rfl,hb,w1,_,_,rfl,rfl,zFh (by lia),
  _,rfl,a,_,_,.int y1,rfl,rfl,ha,u1,_,rfl,b,_,_,.int x2,rfl,rfl,hb,w0,_,_,rfl,rfl,zFh (by lia),_,_,rfl,rfl,q⟩
def rQ(K:PySem.W.Frag):Sp:=λvs H Q _=>∃(a b:Addr)(x1 y1 x2 y2:Int),vs=[.ref a,.ref b]/\Sq K H a [.int x1,.int y1]/\Sq K H b [.int x2,.int y2] /\
 ∀ p,H p=none->Q (.ref p) (upd H p (.tup [.int (x2-x1),.int (y2-y1)]))
theorem zC0(F:Fun K "stretch_way" "stretch_way" wV f fd)(Z:Zs mg)(CB:Cb P w mg base)  : xE P w K mg base CX0 1 f fd ["start", "end"] (rQ K):=by
 specialize zCv
 ·obtain⟨a,b,x1,y1,x2,y2,rfl,_⟩:=h;rfl
 obtain⟨a,b,x1,y1,x2,y2,rfl,ha,hb,q⟩:=h
 refine'⟨_,(zF (zT ?_)),?_⟩
 nofun
 exact⟨_,rfl,b,_,_,.int x2,rfl,rfl,hb,rfl,_,rfl,a,_,_,.int x1,rfl,rfl,ha,rfl,_,_,rfl,rfl,
  _,rfl,b,_,_,.int y2,rfl,rfl,hb,rfl,_,rfl,a,_,_,.int y1,rfl,rfl,ha,rfl,_,_,rfl,rfl,sz2,λp hp=>q p hp⟩
def PrQ(K:PySem.W.Frag)(H:Hp)(l:Addr)(ps:List Pr):Prop:=Sq K H l (zQ ps)/\zCg H (10^8) ps
theorem PrQ.same{K:PySem.W.Frag}{H H':Hp}{l:Addr}{ps:List Pr}(h:PrQ K H l ps)(s:Same H H'):PrQ K H' l ps:=⟨s.sq h.1,h.2.same s⟩
theorem modI{i n:Nat}{k:Int}(e:k=(i:Int)):k%(n:Int)=((i%n:Nat):Int):=by
 rw[e];exact(Int.natCast_emod i n).symm
def rW(K:PySem.W.Frag):Sp:=λvs H Q _=>∃(l:Addr)(ps:List Pr)(i:Nat),vs=[.ref l,.int (i:Int)]/\PrQ K H l ps/\i<ps.length/\ps.length<=1000 /\
 ∀ H',Same H H'->Q (.bl (vN ps i)) H'
theorem zCl(F:Fun K "all_left_of" "all_left_of" uA f fd)(Z:Zs mg)(CB:Cb P w mg base)(yBq:Has P w K mg base "turn" 1 ["one", "other"] (zEr K))(yAl:Has P w K mg base "stretch_way" 1 ["start", "end"] (rQ K)):xE P w K mg base CX0 2 f fd ["corners", "number"] (rW K):=by
 specialize xK
 ·obtain⟨l,ps,i,rfl,_⟩:=h;rfl
 obtain⟨l,ps,i,rfl,hL,hi,hn,q⟩:=h
 refine'⟨_,(zC (yB 2 xK.nd ?_)
   (zC (yB 3 xK.nd ?_)
   (zC (uH PassesOwn.never rfl (zOv rfl Z.range ?_) (vG 4 xK.nd) (zC (yB 5 xK.nd ?_)
   (zF (yR ?_ (zF (zT zGh)) zZ))))
   (zF (zT zGh))))),?_⟩
 nofun
 obtain⟨t0,m0,g0,a0⟩:=zEf (ps:=ps) (i:=i) (k:=(i:Int)) rfl hi;have hm1:(i+1)%ps.length<ps.length:=Nat.mod_lt _ (by lia);obtain⟨t1,m1,g1,a1⟩:=zEf (ps:=ps) (i:=(i+1)%ps.length) (k:=((i:Int)+1)%(ps.length:Int)) (modI (by lia)) hm1;rw[<- zU ps] at a1;obtain⟨e0,b00,b01⟩:=hL.2 t0 m0;obtain⟨e1,b10,b11⟩:=hL.2 t1 m1;have nl:((zQ ps).length:Int)=(ps.length:Int):=by rw[zU]
 exists _,rfl,_,rfl,l,_,_,_,rfl,rfl,hL.1,a0;refine⟨_,rfl,_,rfl,_,rfl,_,_,rfl,rfl,_,rfl,l,_,rfl,hL.1,_,_,rfl,rfl,(by show(0:Int)<((zQ ps).length:Int); lia),l,_,_,_,rfl,rfl,hL.1,a1,
  t0.1,t1.1,t0.2.1,t0.2.2,t1.2.1,t1.2.2,rfl,.inr (SqT.of e0),.inr (SqT.of e1),λd hd=>?_⟩
 have sd:Same H (upd H d (.tup [.int (t1.2.1-t0.2.1),.int (t1.2.2-t0.2.2)])):=zB hd _;have ed:upd H d (.tup [.int (t1.2.1-t0.2.1),.int (t1.2.2-t0.2.2)]) d=some (.tup [.int (t1.2.1-t0.2.1),.int (t1.2.2-t0.2.2)]):=zA;generalize upd H d (.tup [.int (t1.2.1-t0.2.1),.int (t1.2.2-t0.2.2)])=H1 at sd ed ⊢;exists _,rfl,l,_,rfl,(sd.sq hL.1),2,_,rfl,(by lia);refine vH (lo:=2) (n:=(((zQ ps).length:Int)-2).toNat) (λj σ H'=>Same H1 H'/\(∀ j'<j,zJt ps i ((i+(2+j'))%ps.length)=true)/\∃ u4 u5:Option V,σ=[some (.ref l),some (.int (i:Int)),some (.ref t0.1),some (.ref d),u4,u5])
  ⟨Same.refl _,λj' hj'=>absurd hj' (Nat.not_lt_zero _),none,none,rfl⟩ ?_ ?_
 ·rintro j σ H' hj ⟨sH,hall,u4,u5,rfl⟩;have s2:=sd.trans sH;have hjl:j<ps.length-2:=by lia
  have hmk:(i+(2+j))%ps.length<ps.length:=Nat.mod_lt _ (by lia);obtain⟨t2,m2,g2,a2⟩:=zEf (ps:=ps) (i:=(i+(2+j))%ps.length) (k:=((i:Int)+(2+(j:Int)))%(ps.length:Int)) (modI (by lia)) hmk;rw[<- zU ps] at a2;obtain⟨e2,b20,b21⟩:=hL.2 t2 m2;have lf:zJt ps i ((i+(2+j))%ps.length)=decide (0<(t1.2.1-t0.2.1)*(t2.2.2-t0.2.2)-(t1.2.2-t0.2.2)*(t2.2.1-t0.2.1)):=by
   unfold zJt;rw[zN6 g0,zN6 g1,zN6 g2];rfl
  exists _,rfl,_,rfl,_,rfl,_,_,rfl,rfl,_,rfl,l,_,rfl,(s2.sq hL.1),_,_,rfl,rfl,(by show(0:Int)<((zQ ps).length:Int); lia),l,_,_,_,rfl,rfl,(s2.sq hL.1),a2;refine⟨_,rfl,_,rfl,_,rfl,t0.1,t2.1,t0.2.1,t0.2.2,t2.2.1,t2.2.2,rfl,.inr (SqT.of (s2 _ _ e0)),.inr (SqT.of (s2 _ _ e2)),λd2 hd2=>?_⟩;have s3:=zB hd2 (.tup [.int (t2.2.1-t0.2.1),.int (t2.2.2-t0.2.2)]);exists d,d2,_,_,t1.2.1-t0.2.1,t1.2.2-t0.2.2,t2.2.1-t0.2.1,t2.2.2-t0.2.2,rfl,.inr (SqT.of (s3 _ _ (sH _ _ ed))),.inr (SqT.of zA),rfl,rfl,rfl,rfl,by lia,by lia,_,_,rfl,rfl,_,rfl;refine ifD (λhle=>?_) (λhgt=>?_)
  ·have hb:vN ps i=false:=by
    unfold vN;rw[Bool.eq_false_iff];intro z;have z2:=List.all_eq_true.mp z j (List.mem_range.mpr hjl);rw[lf] at z2;have z3:=of_decide_eq_true z2;lia
   have r:=q _ (s2.trans s3);rw[hb] at r;exact r
  ·refine⟨sH.trans s3,λj' hj'=>?_,_,_,rfl⟩;by_cases e:j'=j
   ·rw[e,lf];exact decide_eq_true (by lia)
   ·exact hall j' (by lia)
 ·rintro σ H2 ⟨sH,hall,_,_,rfl⟩;have hb:vN ps i=true:=by
   unfold vN;rw[List.all_eq_true];intro j hj;exact hall j (by have:=List.mem_range.mp hj; lia)
  have r:=q _ (sd.trans sH);rw[hb] at r;exact r
def zB6(K:PySem.W.Frag):Sp:=λvs H Q _=>∃(l:Addr)(ps:List Pr),vs=[.ref l]/\PrQ K H l ps/\ps.length<=1000/\∀ H',Same H H'->Q (.bl (isB ps)) H'
theorem zIv(F:Fun K "is_bank" "is_bank" sW f fd)(Z:Zs mg)(CB:Cb P w mg base)(yAk:Has P w K mg base "all_left_of" 2 ["corners", "number"] (rW K)):xE P w K mg base CX0 3 f fd ["corners"] (zB6 K):=by
 specialize zId
 ·obtain⟨l,ps,rfl,_⟩:=h;rfl
 obtain⟨l,ps,rfl,hL,hn,q⟩:=h
 refine'⟨_,(zC (yR ?_ (zF (zT zGh)) zZ)
   (zF (zT (yK (qI rfl) rfl Z.all zJg (zH (uL (T:=["number"]) (caps:=[("corners", 0)]) ⟨rfl,by decide +kernel,by decide +kernel,rfl,⟨⟨rfl,rfl,Or.inl rfl⟩,True.intro⟩⟩ rfl (wD rfl Z.range ?_) (λ_=>(vG 0 (show(["number", "corners"]:List Str).Nodup by decide +kernel))) (λ_=>xH) (λ_=>?_)) zO))))),?_⟩
 nofun
 have nl:((zQ ps).length:Int)=(ps.length:Int):=by rw[zU]
 exists _,rfl,l,_,rfl,hL.1,_,_,rfl,rfl,_,rfl;refine ifD (λh3=>?_) (λh3=>?_)
 ·have hb:isB ps=false:=by unfold isB; rw[decide_eq_false (by lia),Bool.false_and]
  have r:=q _ (Same.refl _);rw[hb] at r;exact r
 exists _,rfl,l,_,rfl,hL.1,_,_,rfl,rfl,_,rfl;refine ifD (λh8=>?_) (λh8=>?_)
 ·have hb:isB ps=false:=by unfold isB; rw[decide_eq_false (p:=ps.length<=8) (by lia),Bool.false_and,Bool.and_false]
  have r:=q _ (Same.refl _);rw[hb] at r;exact r
 have hb:isB ps=(List.range ps.length).all (vN ps):=by unfold isB; rw[decide_eq_true (by lia),decide_eq_true (by lia),Bool.true_and,Bool.true_and]
 refine⟨_,rfl,l,_,rfl,hL.1,_,rfl,(by lia),(by lia),λc D hD=>?_⟩;refine zAv (lo:=0) (n:=(((zQ ps).length:Nat):Int).toNat) (λj σ zs H'=>Same H H'/\H' D=some (.lst zs)/\zs=((List.range j).map (vN ps)).map V.bl/\∃ u0:Option V,σ=[u0,some (.ref l)])
  ⟨zB hD _,zA,rfl,none,rfl⟩ (λi σ ys H' _ ⟨_,e,_⟩=>e) ?_ ?_
 ·rintro j σ zs H' hj ⟨sH,eD,rfl,u0,rfl⟩;refine⟨_,rfl,_,rfl,l,ps,j,(by rw[Int.zero_add]; rfl),hL.same sH,by lia,hn,λH2 s2=>⟨s2 _ _ eD,zK (by rw[List.length_map,List.length_map,List.length_range]; lia),(sH.trans s2).putNew hD,zA,?_,_,rfl⟩⟩;rw[List.range_succ,List.map_append,List.map_append];rfl
 ·rintro σ zs H' ⟨sH,eD,rfl,u0,rfl⟩;exists D,_,rfl,SqL.of eD;have r:=q _ sH;rw[hb] at r;have e:((List.range (((zQ ps).length:Nat):Int).toNat).map (vN ps)).all id=(List.range ps.length).all (vN ps):=by
   rw[Int.toNat_natCast,zU,List.all_map];rfl
  rw[e];exact r
def rR(K:PySem.W.Frag):Sp:=λvs H Q _=>vs=[]/\∀(d:Addr)(H':Hp),Same H H'->H d=none->zKf H' d BS.nil->Q (.ref d) H'
theorem zCu(F:Fun K "nothing_yet" "nothing_yet" wP f fd)(Z:Zs mg)(CB:Cb P w mg base)  : xE P w K mg base CX0 1 f fd [] (rR K):=by
 specialize zCs
 ·obtain⟨rfl,_⟩:=h;rfl
 obtain⟨rfl,q⟩:=h
 refine'⟨_,zF ?h,?_⟩
 rotate_left
 with_reducible refine' zT ?_
 rotate_left
 with_reducible exact zJ5 (xW zM tU (xW zM tU (xW zM tU (xW zM tU (xW zM xY zKd))))) rfl rfl (λz=>nomatch z) (by decide)
 try dsimp only[L2.cxOf]
 intro p hp m hm b hb r hr n hn;have s1:=zB hp (.dK []);have s2:=zB hm (.dK []);have s3:=zB hb (.dK []);have s4:=zB hr (.dK []);have s5:=zB hn (.dK []);have em:=(s3.trans (s4.trans s5)) _ _ zA;have eb:=(s4.trans s5) _ _ zA;have er:=s5 _ _ zA;have ep:=(s2.trans (s3.trans (s4.trans s5))) _ _ zA;exists ep,[(.inr "marks", .ref m),(.inr "banks", .ref b),(.inr "runs", .ref r),(.inr "notes", .ref n),(.inr "coming", .int 1)],rfl,(show 5<=15 by decide);rw[zQp];have ne:∀{x:Addr},(upd H p (.dK [])) x=none->x≠p:=λ{x} h z=>by rw[z,zA] at h; cases h
 have nb:=ne (s2.free hb);have nr:=ne (s2.free (s3.free hr));have nn:=ne (s2.free (s3.free (s4.free hn)));refine q p _ (λc o e=>?_) hp ⟨m,b,r,n,.inl zA,.nil ?_,.nil ?_,.nil ?_,.nil ?_⟩
 ·rw[zD (zG e hp)];exact(s1.trans (s2.trans (s3.trans (s4.trans s5)))) c o e
 ·rw[zD (ne hm)]; exact em
 ·rw[zD nb]; exact eb
 ·rw[zD nr]; exact er
 ·rw[zD nn]; exact zA
def xR(K:PySem.W.Frag):Sp:=λvs H Q _=>∃(d a:Addr)(kind:Str)(key:Key)(v:V)(kvs ms:List (Key×V)),vs=[.ref d,.str kind,kV key,v]/\Rd H d (.dK kvs)/\tI kvs (.inr kind)=some (.ref a)/\Rd H a (.dK ms)/\kvs.length<=100/\ms.length<=100 /\
 ∀(f c:Addr)(H':Hp),Same H H'->H f=none->f≠c->H' f=some (.dK (tR kvs (.inr kind) (.ref c)))->H' c=some (.dK (tR ms key v))->Q (.ref f) H'
theorem zIb(F:Fun K "changed" "changed" rG f fd)(Z:Zs mg)(CB:Cb P w mg base)  : xE P w K mg base CX0 1 f fd ["state", "kind", "key", "value"] (xR K):=by
 specialize zB4
 ·obtain⟨d,a,kind,key,v,kvs,ms,rfl,_⟩:=h;rfl
 obtain⟨d,a,kind,key,v,kvs,ms,rfl,hd,ea,ha,l1,l2,q⟩:=h
 refine'⟨_,(zC (yB 4 zB4.nd ?_)
   (zC (tP (yA hr) (pv 4) (pv 1) (wC sU rfl Z.dict zAq (zH (zL (yA hr) (pv 0) (pv 1) (λ_ _=>rfl)) zO)) rfl)
   (zC (tP (yA hr) (zL (yA hr) (pv 4) (pv 1) (λ_ _=>rfl)) (pv 2) (pv 3) rfl)
   (zF (zT (pv 4)))))),?_⟩
 nofun
 refine⟨_,rfl,d,kvs,rfl,hd,λp hp=>?_⟩;have s1:=zB hp (.dK kvs);have hd1:Rd (upd H p (.dK kvs)) d (.dK kvs):=hd.imp (s1 _ _) λ⟨o,e⟩=>⟨o,s1 _ _ e⟩;have ha1:Rd (upd H p (.dK kvs)) a (.dK ms):=ha.imp (s1 _ _) λ⟨o,e⟩=>⟨o,s1 _ _ e⟩;refine⟨_,rfl,_,rfl,d,.ref a,rfl,.inl ⟨kvs,.inr kind,hd1,rfl,ea.symm⟩,a,ms,rfl,ha1,λc hc=>?_⟩;have npc:p≠c:=zG zA hc;have s2:=zB hc (.dK ms);have e2:upd (upd H p (.dK kvs)) c (.dK ms) p=some (.dK kvs):=s2 _ _ zA;exists _,rfl,_,rfl,p,_,rfl,zHj.k (k:=.inr kind) e2 (zK (by lia));have e3:upd (upd (upd H p (.dK kvs)) c (.dK ms)) p (.dK (tR kvs (.inr kind) (.ref c))) c=some (.dK ms):=by rw[zD npc.symm,zA]
 refine⟨_,rfl,_,rfl,_,rfl,p,.ref c,rfl,.inl ⟨_,.inr kind,.inl zA,rfl,?_⟩,_,rfl,c,_,rfl,zHj.k e3 (zK (by lia)),_,rfl,?_⟩
 ·rw[zLb,if_pos rfl]
 refine q p c _ (λb o e=>?_) hp npc ?_ zA
 ·have n1:=zG e hp;have n2:=zG (s1 _ _ e) hc;rw[zD n2,zD n1,zD n2,zD n1];exact e
 ·rw[zD npc,zA]
def tV(K:PySem.W.Frag):Sp:=λvs H Q _=>∃(d a:Addr)(kind:Str)(key:Key)(v:V)(kvs ms:List (Key×V)),vs=[.ref d,.str kind,kV key]/\Rd H d (.dK kvs)/\tI kvs (.inr kind)=some (.ref a)/\Rd H a (.dK ms)/\tI ms key=some v/\kvs.length<=100 /\
 ∀(f c:Addr)(H':Hp),Same H H'->H f=none->f≠c->H' f=some (.dK (tR kvs (.inr kind) (.ref c)))->H' c=some (.dK (zCz ms key))->Q (.ref f) H'
theorem zIn(F:Fun K "without" "without" sY f fd)(Z:Zs mg)(CB:Cb P w mg base)  : xE P w K mg base CX0 1 f fd ["state", "kind", "key"] (tV K):=by
 specialize zCa
 ·obtain⟨d,a,kind,key,v,kvs,ms,rfl,_⟩:=h;rfl
 obtain⟨d,a,kind,key,v,kvs,ms,rfl,hd,ea,ha,ev,l1,q⟩:=h
 refine'⟨_,(zC (yB 3 zCa.nd ?_)
   (zC (tP (yA hr) (pv 3) (pv 1) (wC sU rfl Z.dict zAq (zH (zL (yA hr) (pv 0) (pv 1) (λ_ _=>rfl)) zO)) rfl)
   (zC (zS (zDl (zL (yA hr) (pv 3) (pv 1) (λ_ _=>rfl)) (pv 2) ⟨rfl,rfl,rfl,rfl⟩))
   (zF (zT (pv 3)))))),?_⟩
 nofun
 refine⟨_,rfl,d,kvs,rfl,hd,λp hp=>?_⟩;have s1:=zB hp (.dK kvs);have hd1:Rd (upd H p (.dK kvs)) d (.dK kvs):=hd.imp (s1 _ _) λ⟨o,e⟩=>⟨o,s1 _ _ e⟩;have ha1:Rd (upd H p (.dK kvs)) a (.dK ms):=ha.imp (s1 _ _) λ⟨o,e⟩=>⟨o,s1 _ _ e⟩;refine⟨_,rfl,_,rfl,d,.ref a,rfl,.inl ⟨kvs,.inr kind,hd1,rfl,ea.symm⟩,a,ms,rfl,ha1,λc hc=>?_⟩;have npc:p≠c:=zG zA hc;have s2:=zB hc (.dK ms);have e2:upd (upd H p (.dK kvs)) c (.dK ms) p=some (.dK kvs):=s2 _ _ zA;exists _,rfl,_,rfl,p,_,rfl,zHj.k (k:=.inr kind) e2 (zK (by lia));have e3:upd (upd (upd H p (.dK kvs)) c (.dK ms)) p (.dK (tR kvs (.inr kind) (.ref c))) c=some (.dK ms):=by rw[zD npc.symm,zA]
 refine⟨_,rfl,_,rfl,p,.ref c,rfl,.inl ⟨_,.inr kind,.inl zA,rfl,?_⟩,c,rfl,.inl ⟨ms,.inl e3⟩,_,rfl,ms,key,v,e3,rfl,ev,_,rfl,?_⟩
 ·rw[zLb,if_pos rfl]
 refine q p c _ (λb o e=>?_) hp npc ?_ zA
 ·have n1:=zG e hp;have n2:=zG (s1 _ _ e) hc;rw[zD n2,zD n1,zD n2,zD n1];exact e
 ·rw[zD npc,zA]
def zIx(ns:List Int)(m:Int):Bool:=ns.all λn=>decide (-m<=n)&&decide (n<=m)
def rF(K:PySem.W.Frag):Sp:=λvs H Q _=>∃(a:Addr)(ns:List Int)(m:Int),vs=[.ref a,.int m]/\H a=some (.tup (ns.map V.int))/\ns.length<=100/\∀ H',Same H H'->Q (.bl (zIx ns m)) H'
theorem zKt(F:Fun K "within" "within" zAa f fd)(Z:Zs mg)(CB:Cb P w mg base)  : xE P w K mg base CX0 1 f fd ["numbers", "most"] (rF K):=by
 specialize zJr
 ·obtain⟨a,ns,m,rfl,_⟩:=h;rfl
 obtain⟨a,ns,m,rfl,ha,hl,q⟩:=h
 refine'⟨_,(zF (zT (yK (qI rfl) rfl Z.all zJg (zH (uL (T:=["number"]) (caps:=[("most", 1)]) ⟨rfl,by decide +kernel,by decide +kernel,rfl,⟨⟨rfl,rfl,Or.inl rfl⟩,True.intro⟩⟩ rfl (tQ (pv 0)) (λ_=>(vG 0 (show(["number", "most"]:List Str).Nodup by decide +kernel))) (λ_=>xH) (λ_=>(zLf zR6 zR6 ?_ (pv 0) (pv 1)))) zO)))),?_⟩
 nofun
 refine⟨_,rfl,a,rfl,.inr ⟨⟨_,SqT.of ha⟩,λc D hD=>?_⟩⟩;refine zPs (K:=K) (a:=a) (xs:=ns.map V.int) (λi σ zs H'=>Same H H'/\H' D=some (.lst zs)/\zs=((ns.take i).map λn=>decide (-m<=n)&&decide (n<=m)).map V.bl/\∃ u0:Option V,σ=[u0,some (.int m)])
  ⟨zB hD _,zA,rfl,none,rfl⟩ (λi σ zs H' _ ⟨sH,e,_⟩=>⟨SqT.of (sH _ _ ha),e⟩) ?_ ?_
 ·rintro i x σ zs H' hi ⟨sH,eD,rfl,u0,rfl⟩;obtain⟨n,gn,rfl⟩:=zBt hi;have hil:=(List.getElem?_eq_some_iff.mp gn).1;have len:(((ns.take i).map λn=>decide (-m<=n)&&decide (n<=m)).map V.bl).length<sizeLine:=zK (by rw[List.length_map,List.length_map,List.length_take]; lia);have fin:∀ b:Bool,b=(decide (-m<=n)&&decide (n<=m))->((ns.take i).map λn=>decide (-m<=n)&&decide (n<=m)).map V.bl++[V.bl b]=((ns.take (i+1)).map λn=>decide (-m<=n)&&decide (n<=m)).map V.bl:=λb e=>by
   rw[List.take_succ,gn,e,List.map_append,List.map_append];rfl
  exists _,rfl,_,rfl,_,rfl,_,_,rfl,rfl,_,rfl;refine ite2 (λh1=>?_) (λh1=>?_)
  ·exact⟨_,rfl,_,_,rfl,rfl,eD,len,sH.putNew hD,zA,fin _ (by rw[h1,Bool.true_and]),_,rfl⟩
  ·exact⟨eD,len,sH.putNew hD,zA,fin _ (by rw[eq_false_of_ne_true h1,Bool.false_and]),_,rfl⟩
 ·rintro σ zs H' ⟨sH,eD,rfl,u0,rfl⟩;exists D,_,rfl,SqL.of eD;have r:=q _ sH;rw[List.length_map,List.take_length,List.all_map];exact r
def tK(K:PySem.W.Frag):Sp:=λvs H Q _=>∃ x:Str,vs=[.str x]/\sN x/\∀ H',Same H H'->Q .non H'
theorem zSq(a c:Nat):(!decide ((⟨#[c]⟩:Str).cps.toList<(⟨#[a]⟩:Str).cps.toList))=decide (a<=c):=by
 have e:([c]<[a])↔c<a:=by
  rw[List.cons_lt_cons_iff];simp
 show(!decide ([c]<[a]))=_;by_cases h:c<a
 ·rw[decide_eq_true (e.mpr h),decide_eq_false (by lia)];rfl
 ·rw[decide_eq_false (λz=>h (e.mp z)),decide_eq_true (by lia)];rfl
theorem zFc(F:Fun K "check_name" "check_name" uT f fd)(Z:Zs mg)(CB:Cb P w mg base)  : xE P w K mg base CX0 1 f fd ["name"] (tK K):=by
 specialize zD6
 ·obtain⟨x,rfl,_⟩:=h;rfl
 obtain⟨x,rfl,⟨h1,h8,hc⟩,q⟩:=h;exists _,(zF (yR (PW.pt (zKh (yO zMr (yK zCb rfl Z.len sR (zH (pv 0) zO)) xY (yT _)) (zKh (yO zRw (yK zCb rfl Z.len sR (zH (pv 0) zO)) (zL2 CB.LONGEST_NAME) (yT _)) (zGd (zDt (zEa (yK (qI rfl) rfl Z.all zJg (zH (uL (T:=["letter"]) (caps:=[]) ⟨rfl,by decide +kernel,by decide +kernel,rfl,True.intro⟩ rfl (zXi (pv 0)) (λ_=>(zPy (i:=0) (show(["letter"]:List Str).Nodup by decide +kernel) rfl (Or.inl rfl))) (λ_=>xH) (λ_=>(zLf zIf zIf zM (pv 0) zM))) zO)))))))) (zF xG) zZ))
 try dsimp only[L2.cxOf]
 have hz:x.length<=sizeLine:=Nat.le_trans h8 (by decide);exists _,rfl,x,rfl,hz,_,_,rfl,rfl,_,rfl;refine ifD (λz=>absurd z (by lia)) (λ_=>?_);exists _,rfl,x,rfl,hz,_,_,rfl,rfl,_,rfl;refine ifD (λz=>absurd z (by lia)) (λ_=>?_);have asc:x.cps.all (· < 128)=true:=by
  rw[Array.all_eq_true'];intro c hm;have:=hc c (Array.mem_toList_iff.mpr hm);exact decide_eq_true (by lia)
 refine⟨_,rfl,x,rfl,asc,λc D hD=>?_⟩;refine zHg (xs:=zI6 x) (λi σ zs H'=>Same H H'/\H' D=some (.lst zs)/\zs=(List.replicate i true).map V.bl/\i<=x.length/\∃ u0:Option V,σ=[u0])
  ⟨zB hD _,zA,rfl,Nat.zero_le _,none,rfl⟩ (λi σ zs H' ⟨_,e,_⟩=>⟨True.intro,e⟩) ?_ ?_
 ·rintro i v σ zs H' hi ⟨sH,eD,rfl,hi8,u0,rfl⟩;unfold zI6 at hi;rw[List.getElem?_map,Option.map_eq_some_iff] at hi;obtain⟨n,gn,rfl⟩:=hi;have hn:=hc n (List.mem_of_getElem? gn);have hil:i<x.length:=by
   have:=(List.getElem?_eq_some_iff.mp gn).1;rw[Array.length_toList] at this;exact this
  exists _,rfl,_,_,rfl,rfl,_,rfl;rw[show(!decide (((⟨#[n]⟩:Str).cps.toList)<(("a" : Str).cps.toList)))=true from(zSq 97 n).trans (decide_eq_true hn.1)];refine zE3 ?_;refine⟨_,_,rfl,rfl,eD,zK (by rw[List.length_map,List.length_replicate]; lia),sH.putNew hD,zA,?_,hil,_,rfl⟩;rw[show(!decide ((("z" : Str).cps.toList)<((⟨#[n]⟩:Str).cps.toList)))=true from(zSq n 122).trans (decide_eq_true hn.2),List.replicate_succ',List.map_append];rfl
 ·rintro σ zs H' ⟨sH,eD,rfl,_,u0,rfl⟩;exists D,_,rfl,SqL.of eD,_,rfl;rw[show(List.replicate (zI6 x).length true).all id=true from by simp];refine xP ?_;exact q _ sH
def tG(K:PySem.W.Frag):Sp:=λvs H Q _=>∃(d a:Addr)(kind:Str)(n:Str)(kvs ms:List (Key×V)),vs=[.ref d,.str kind,.str n]/\Rd H d (.dK kvs)/\tI kvs (.inr kind)=some (.ref a)/\Rd H a (.dK ms)/\tI ms (.inr n)=none/\Q .non H
theorem zEi(F:Fun K "check_free" "check_free" uZ f fd)(Z:Zs mg)(CB:Cb P w mg base)  : xE P w K mg base CX0 1 f fd ["state", "kind", "name"] (tG K):=by
 specialize zEv
 ·obtain⟨d,a,kind,n,kvs,ms,rfl,_⟩:=h;rfl
 obtain⟨d,a,kind,n,kvs,ms,rfl,hd,ea,ha,en,q⟩:=h;exists _,(zF (yR (zF9 (zW1 (yA hr) (pv 2) (zL (yA hr) (pv 0) (pv 1) (λ_ _=>rfl))) (by with_unfolding_all rfl)) (zF xG) zZ))
 try dsimp only[L2.cxOf]
 exists _,rfl,_,rfl,_,rfl,d,.ref a,rfl,.inl ⟨kvs,.inr kind,hd,rfl,ea.symm⟩,a,_,rfl,.inl ⟨ms,.inr n,ha,rfl,rfl⟩,_,rfl;rw[en];exact xP q
def wI(K:PySem.W.Frag):Sp:=λvs H Q _=>∃(a:Addr)(x y:Int),vs=[.ref a]/\H a=some (.tup [.int x,.int y])/\zFr (x,y)/\∀ H',Same H H'->Q .non H'
theorem zN0{x y:Int}(h:zFr (x,y)):zIx [x,y] 1000=true:=by
 obtain⟨h1,h2,h3,h4⟩:=h;simp only[zIx,List.all_cons,List.all_nil,Bool.and_true,Bool.and_eq_true,decide_eq_true_eq];exact⟨⟨h1,h2⟩,h3,h4⟩
theorem zCq(F:Fun K "check_place" "check_place" wR f fd)(Z:Zs mg)(CB:Cb P w mg base)(yBj:Has P w K mg base "within" 1 ["numbers", "most"] (rF K)):xE P w K mg base CX0 2 f fd ["place"] (wI K):=by
 specialize zC3
 ·obtain⟨a,x,y,rfl,_⟩:=h;rfl
 obtain⟨a,x,y,rfl,ha,hn,q⟩:=h;exists _,(zF (yR (zDt (zEa (uD yBj (hr.mono (by decide)) rfl (zH (pv 0) (zH (zL2 CB.FARTHEST) zO))))) (zF xG) zZ))
 try dsimp only[L2.cxOf]
 refine⟨_,rfl,a,[x,y],1000,rfl,ha,(by show 2<=100; decide),λH' s'=>⟨_,rfl,?_⟩⟩;rw[zN0 hn];exact xP (q H' s')
def tY(K:PySem.W.Frag):Sp:=λvs H Q _=>∃(a:Addr)(x y:Int),vs=[.ref a]/\H a=some (.tup [.int x,.int y])/\zFr (x,y)/\∀ H',Same H H'->Q .non H'
theorem zFg(F:Fun K "check_run" "check_run" vX f fd)(Z:Zs mg)(CB:Cb P w mg base)(yBj:Has P w K mg base "within" 1 ["numbers", "most"] (rF K)):xE P w K mg base CX0 2 f fd ["run"] (tY K):=by
 specialize zFj
 ·obtain⟨a,x,y,rfl,_⟩:=h;rfl
 obtain⟨a,x,y,rfl,ha,hn,q⟩:=h;exists _,(zF (yR (zDt (zEa (uD yBj (hr.mono (by decide)) rfl (zH (pv 0) (zH (zL2 CB.FARTHEST) zO))))) (zF xG) zZ))
 try dsimp only[L2.cxOf]
 refine⟨_,rfl,a,[x,y],1000,rfl,ha,(by show 2<=100; decide),λH' s'=>⟨_,rfl,?_⟩⟩;rw[zN0 hn];exact xP (q H' s')
def xS(K:PySem.W.Frag):Sp:=λvs H Q _=>∃(d a:Addr)(kind:Str)(kvs ms:List (Key×V))(mx:Int),vs=[.ref d,.str kind]/\Rd H d (.dK kvs)/\tI kvs (.inr kind)=some (.ref a)/\Rd H a (.dK ms)/\tI zV0 (.inr kind)=some (.int mx)/\(ms.length:Int)<mx/\Q .non H
theorem zDr(F:Fun K "check_room" "check_room" vC f fd)(Z:Zs mg)(CB:Cb P w mg base)  : xE P w K mg base CX0 1 f fd ["state", "kind"] (xS K):=by
 specialize zDm
 ·obtain⟨d,a,kind,kvs,ms,mx,rfl,_⟩:=h;rfl
 obtain⟨d,a,kind,kvs,ms,mx,rfl,hd,ea,ha,em,hl,q⟩:=h;exists _,(zF (yR (yO zUj (yK tZ rfl Z.len sR (zH (zL (yA hr) (pv 0) (pv 1) (λ_ _=>rfl)) zO)) (zRn CB.dMOST CB.gMOST (pv 1)) (yT _)) (zF xG) zZ))
 try dsimp only[L2.cxOf]
 exists _,rfl,_,rfl,d,.ref a,rfl,.inl ⟨kvs,.inr kind,hd,rfl,ea.symm⟩,a,ms,rfl,ha,_,rfl,.inr kind,.int mx,rfl,em,_,_,rfl,rfl,_,rfl;exact ifD (λz=>absurd z (by lia)) (λ_=>q)
def xQ(K:PySem.W.Frag):Sp:=λvs H Q _=>∃(d m b r n:Addr)(S:BS)(x:Str),vs=[.ref d,.str x]/\StA H d m b r n S/\(zV S x).isSome=true/\Q .non H
theorem zDn(F:Fun K "check_mark" "check_mark" vD f fd)(Z:Zs mg)(CB:Cb P w mg base)  : xE P w K mg base CX0 1 f fd ["state", "name"] (xQ K):=by
 specialize zD0
 ·obtain⟨d,m,b,r,n,S,x,rfl,_⟩:=h;rfl
 obtain⟨d,m,b,r,n,S,x,rfl,st,hx,q⟩:=h;obtain⟨kvs,hm,kv⟩:=st.ma;exists _,(zF (yR (zF9 (qF (yA hr) (pv 1) (zL (yA hr) (pv 0) zM (λ_ _=>rfl))) (by with_unfolding_all rfl)) (zF xG) zZ))
 try dsimp only[L2.cxOf]
 exists _,rfl,_,rfl,d,.ref m,rfl,.inl ⟨_,.inr "marks", st.at_,rfl,tT.symm⟩,m,_,rfl,.inl ⟨kvs,.inr x,hm,rfl,rfl⟩,_,rfl;rw[kv.isSome,qW,Option.isSome_map,hx];exact xP q
def offM(n:Nat)(m:Int):Prop:=(m<0\/(n:Int)<m)/\m.natAbs.log2<1920
def uP(K:PySem.W.Frag):Sp:=λvs H Q E=>∃(a:Addr)(m:Int)(n:Nat),vs=[.int m,.ref a]/\((∃ xs,SqL K H a xs/\xs.length=n)\/∃ kvs,Rd H a (.dK kvs)/\kvs.length=n)/\((0<=m/\m<=n/\Q .non H)\/(offM n m/\E (.ref zAw) none H))
theorem zBy(F:Fun K "check_moment" "check_moment" wK f fd)(Z:Zs mg)(CB:Cb P w mg base)  : xE P w K mg base (CX1 P w) 1 f fd ["moment", "runs"] (uP K):=by
 refine F.okX zBk (λvs H Q E h=>?_) (λcdv A outer s H vs Q E hr h=>?_)
 ·obtain⟨a,m,n,rfl,_⟩:=h;rfl
 obtain⟨a,m,n,rfl,ha,q⟩:=h
 refine'⟨_,(zF (yR (PW.pt (zKh ?_ (zGd (yO zRw (pv 0) (yK (wO.or wN tZ) rfl Z.len sR (zH (pv 1) zO)) (yT _))))) (zF (zRi (λ_=>E) CB.e_NoMoment PySem.F.excBase_ValueError (by decide) PySem.F.excBase_ValueError zRy (zH (zUc (zVu (zVe (pv 0) zVr))) zO))) zZ)),?_⟩
 nofun
 exists _,rfl,_,_,rfl,rfl,_,rfl;have go:¬ (0<=m/\m<=n)->zVx (zWx (zRv 0) zVo) [some (.int m),some (.ref a)] H (λv H1=>1<=sizeLine/\E (.ref zAw) none H1):=λz=>by
  rcases q with ⟨h0,hm,_⟩ | ⟨⟨_,sm⟩,q⟩
  ·exact absurd ⟨h0,hm⟩ z
  ·exact⟨_,rfl,.inl ⟨m,rfl,sm⟩,λx _=>⟨by decide,q⟩⟩
 refine ifD (λz=>?_) (λz=>?_)
 ·refine zE3 ?_;exact go (λy=>absurd y.1 (by lia))
 exists _,rfl,_,rfl;rcases ha with ⟨xs,hx,rfl⟩ | ⟨kvs,hx,rfl⟩
 ·refine .inl ⟨a,xs,rfl,.inl hx,_,_,rfl,rfl,_,rfl,?_⟩;refine ifD (λy=>go (λy=>absurd y.2 (by lia))) (λy=>?_);rcases q with ⟨_,_,q⟩ | ⟨⟨o,_⟩,_⟩
  ·exact q
  ·exact absurd o (by lia)
 ·refine .inr ⟨a,kvs,rfl,hx,_,_,rfl,rfl,_,rfl,?_⟩;refine ifD (λy=>go (λy=>absurd y.2 (by lia))) (λy=>?_);rcases q with ⟨_,_,q⟩ | ⟨⟨o,_⟩,_⟩
  ·exact q
  ·exact absurd o (by lia)
def zAl(K:PySem.W.Frag):Sp:=λvs H Q _=>∃(a:Addr)(x y:Int),vs=[.ref a]/\H a=some (.tup [.int x,.int y])/\zCy (x,y)/\∀ H',Same H H'->Q .non H'
theorem zWl{x y:Int}(h:zCy (x,y)):zIx [x,y] 100=true:=by
 obtain⟨_,h1,h2,h3,h4⟩:=h;simp only[zIx,List.all_cons,List.all_nil,Bool.and_true,Bool.and_eq_true,decide_eq_true_eq];exact⟨⟨h1,h2⟩,h3,h4⟩
theorem zFk(F:Fun K "check_way" "check_way" vU f fd)(Z:Zs mg)(CB:Cb P w mg base)(yBj:Has P w K mg base "within" 1 ["numbers", "most"] (rF K)):xE P w K mg base CX0 2 f fd ["direction"] (zAl K):=by
 specialize zFd
 ·obtain⟨a,x,y,rfl,_⟩:=h;rfl
 obtain⟨a,x,y,rfl,ha,hn,q⟩:=h
 refine'⟨_,(zF (yR (PW.pt (zKh (yO (zNk hr.units0) (pv 0) ?_ (yT _)) (zGd (zDt (zEa (uD yBj (hr.mono (by decide)) rfl (zH (pv 0) (zH (zL2 CB.LONGEST_WAY) zO)))))))) (zF xG) zZ)),?_⟩
 nofun
 refine⟨_,rfl,sz2,λp hp=>?_⟩;have sp:=zB hp (.tup [.int 0,.int 0]);have ha':=sp _ _ ha;exists a,p,[x,y],[0,0],rfl,rfl,SqT.of ha',SqT.of zA,_,rfl;refine ifD (λz=>absurd (show(x,y)=(0,0) by simp at z; rw[z.1,z.2]) hn.1) (λ_=>?_);refine⟨_,rfl,a,[x,y],100,rfl,ha',(by show 2<=100; decide),λH' s'=>⟨_,rfl,?_⟩⟩;rw[zWl hn];exact xP (q H' (sp.trans s'))
def vT(K:PySem.W.Frag):Sp:=λvs H Q _=>∃(d m b r n:Addr)(S:BS)(x y:Str)(p u:Int×Int),vs=[.ref d,.str x,.str y]/\StA H d m b r n S/\zV S x=some p/\zV S y=some u/\p≠u/\Q .non H
theorem zCw(F:Fun K "check_apart" "check_apart" uF f fd)(Z:Zs mg)(CB:Cb P w mg base)  : xE P w K mg base CX0 1 f fd ["state", "left", "right"] (vT K):=by
 specialize zC2
 ·obtain⟨d,m,b,r,n,S,x,y,p,u,rfl,_⟩:=h;rfl
 obtain⟨d,m,b,r,n,S,x,y,p,u,rfl,st,ex,ey,ne,q⟩:=h;obtain⟨kvs,hm,kv⟩:=st.ma;obtain⟨v1,g1,r1⟩:=kv.get (k:=.inr x) (d:=ptD p) (by rw[qW,ex]; rfl);obtain⟨v2,g2,r2⟩:=kv.get (k:=.inr y) (d:=ptD u) (by rw[qW,ey]; rfl);obtain⟨a1,rfl,h1⟩:=zB9 r1;obtain⟨a2,rfl,h2⟩:=zB9 r2;exists _,(zF (yR (yO (zNk hr.units0) (zL (yA hr) (zL (yA hr) (pv 0) zM (λ_ _=>rfl)) (pv 1) (λ_ _=>rfl)) (zL (yA hr) (zL (yA hr) (pv 0) zM (λ_ _=>rfl)) (pv 2) (λ_ _=>rfl)) (yT _)) (zF xG) zZ))
 try dsimp only[L2.cxOf]
 refine⟨_,rfl,d,.ref m,rfl,.inl ⟨_,.inr "marks", st.at_,rfl,tT.symm⟩,_,rfl,m,_,rfl,.inl ⟨kvs,.inr x,hm,rfl,g1.symm⟩,_,rfl,d,.ref m,rfl,.inl ⟨_,.inr "marks", st.at_,rfl,tT.symm⟩,_,rfl,m,_,rfl,.inl ⟨kvs,.inr y,hm,rfl,g2.symm⟩,
  a1,a2,[p.1,p.2],[u.1,u.2],rfl,rfl,SqT.of h1,SqT.of h2,_,rfl,?_⟩
 exact ifD (λz=>absurd (show p=u by simp at z; exact Prod.ext z.1 z.2) ne) (λ_=>q)
def tH(_:PySem.W.Frag):Sp:=zEc λD=>∃ n x y,D=.mark n x y
theorem zD7(F:Fun K "after_mark" "after_mark" vE f fd)(Z:Zs mg)(CB:Cb P w mg base)(yBf:Has P w K mg base "changed" 1 ["state", "kind", "key", "value"] (xR K))(yAq:Has P w K mg base "check_room" 1 ["state", "kind"] (xS K))(yAm:Has P w K mg base "check_place" 2 ["place"] (wI K))(yAs:Has P w K mg base "check_free" 1 ["state", "kind", "name"] (tG K))(yAu:Has P w K mg base "check_name" 1 ["name"] (tK K)):xE P w K mg base CX0 3 f fd ["state", "row"] (tH K):=by
 specialize tO
 ·obtain⟨d,v,S,D,rfl,_⟩:=h;rfl
 obtain⟨d,v,S,D,rfl,⟨n,x,y,rfl⟩,⟨m,b,r,t,st⟩,hv,⟨k1,k2,k3,k4⟩,few,_,q⟩:=h;obtain⟨a,rfl,ha⟩:=zJq hv
 refine'⟨_,(zC (yB 2 tO.nd ?_)
   (zC (yB 3 tO.nd ?_)
   (zC (zS ?_)
   (zC (zS ?_)
   (zC (zS ?_)
   (zC (zS ?_)
   (zF (zT ?_)))))))),?_⟩
 nofun
 exists _,rfl,a,_,_,.str n,rfl,rfl,.inr (SqT.of ha),rfl;refine⟨_,rfl,a,_,_,.int x,rfl,rfl,.inr (SqT.of ha),rfl,_,rfl,a,_,_,.int y,rfl,rfl,.inr (SqT.of ha),rfl,sz2,λp hp=>?_⟩;have s1:=zB hp (.tup [.int x,.int y]);refine⟨_,rfl,n,rfl,k1,λH2 s2=>?_⟩;have s12:=s1.trans s2;have st2:=st.to (.of s12);obtain⟨kvs,hm,kv⟩:=st2.ma;exists _,rfl,_,rfl,d,m, "marks", n,_,kvs,rfl,st2.at_,tT,hm,kv.none (by rw[qW,k2]; rfl);refine⟨_,rfl,p,x,y,rfl,s2 _ _ zA,k3,λH3 s3=>?_⟩;have s13:=s12.trans s3;have st3:=st.to (.of s13);have hm3:=Rd.same hm s3;refine⟨_,rfl,d,m, "marks", _,kvs,20,rfl,st3.at_,tT,hm3,(by kernel_rfl),by rw[kv.length,zEj]; lia,?_⟩;refine⟨_,rfl,_,rfl,_,rfl,d,m, "marks", .inr n,.ref p,_,kvs,rfl,st3.at_,tT,hm3,StA.stKlen,kv.le (by rw[zEj]; lia),λf c H4 s4 hf _ ef ec=>?_⟩;have s14:=s13.trans s4;have st4:=st.to (.of s14);rw[zEn] at ef;refine q f H4 (.of s14) (s13.free hf) ⟨c,b,r,t,.inl ef,⟨_,.inl ec,?_⟩,st4.ba,st4.ru,st4.no⟩;show xO H4 _ (mkE (S.marks++[(n,x,y)]));rw[zJl,<- vV (zGt k2)];exact(kv.to (.of (s3.trans s4))).put (sB ((s2.trans (s3.trans s4)) _ _ zA))
def tF(_:PySem.W.Frag):Sp:=zEc λD=>∃ n x y,D=.move n x y
theorem zFa(F:Fun K "after_move" "after_move" vB f fd)(Z:Zs mg)(CB:Cb P w mg base)(yAn:Has P w K mg base "check_apart" 1 ["state", "left", "right"] (vT K))(yBf:Has P w K mg base "changed" 1 ["state", "kind", "key", "value"] (xR K))(yAm:Has P w K mg base "check_place" 2 ["place"] (wI K))(yAy:Has P w K mg base "check_mark" 1 ["state", "name"] (xQ K)):xE P w K mg base CX0 3 f fd ["state", "row"] (tF K):=by
 specialize wT
 ·obtain⟨d,v,S,D,rfl,_⟩:=h;rfl
 obtain⟨d,v,S,D,rfl,⟨k,x,y,rfl⟩,⟨m,b,r,t,st⟩,hv,⟨k1,k2,k3⟩,few,fr,q⟩:=h;obtain⟨a,rfl,ha⟩:=zJ6 hv
 refine'⟨_,(zC (yB 2 wT.nd ?_)
   (zC (zS ?_)
   (zC (zS ?_)
   (zC (yB 3 wT.nd ?_)
   (zC (uH PassesOwn.never rfl (zHd (zL (yA hr) (pv 3) zM (λ_ _=>rfl))) (vG 4 wT.nd) (zF (yR ?_ (zF (zS ?_)) zZ)))
   (zF (zT (pv 3)))))))),?_⟩
 nofun
 refine⟨_,rfl,a,_,_,.int x,rfl,rfl,.inr (SqT.of ha),rfl,_,rfl,a,_,_,.int y,rfl,rfl,.inr (SqT.of ha),rfl,sz2,λp hp=>?_⟩;have s1:=zB hp (.tup [.int x,.int y]);have st1:=st.to (.of s1);exists _,rfl,_,rfl,a,_,_,.str k,rfl,rfl,.inr (SqT.of (s1 _ _ ha)),rfl,d,m,b,r,t,S,k,rfl,st1,k1;refine⟨_,rfl,p,x,y,rfl,zA,k2,λH2 s2=>?_⟩;have s12:=s1.trans s2;have st2:=st.to (.of s12);obtain⟨mvs,hm,km⟩:=st2.ma;refine⟨_,rfl,_,rfl,a,_,_,.str k,rfl,rfl,.inr (SqT.of (s12 _ _ ha)),rfl,_,rfl,d,m, "marks", .inr k,.ref p,_,mvs,rfl,st2.at_,tT,hm,StA.stKlen,km.le (by rw[zEj]; have:=few.ma; lia),λf c H3 s3 hf _ ef ec=>?_⟩;have s13:=s12.trans s3;have st3:=st.to (.of s13);rw[zEn] at ef;have fst:StA H3 f c b r t (aft S (.move k x y)):=⟨.inl ef,⟨_,.inl ec,by rw[<- zOd k1]; exact(km.to (.of s3)).put (sB (p:=(x,y)) (s3 _ _ (s2 _ _ zA)))⟩,st3.ba,st3.ru,st3.no⟩;obtain⟨nk,hn,kn⟩:=fst.no;obtain⟨ks,rfl,e1,rk⟩:=zDb kn;refine⟨_,rfl,f,.ref t,rfl,.inl ⟨_,.inr "notes", fst.at_,rfl,zAc.symm⟩,t,_,rfl,hn,λo H4 fz=>?_⟩;have s4:Sam H3 H4:=zEl hn fz;refine zWe (λi σ H'=>Sam H3 H'/\zMa t o (ks.map λe=>(.inl e.1,e.2)) H'/\∃ u:Option V,σ=[some (.ref d),some (.ref a),some (.ref p),some (.ref f),u])
  ⟨s4,fz.1,none,rfl⟩ (λi σ H' h=>h.2.1) ?_ ?_
 ·rintro i x' σ H' gx ⟨s5,fa,u,rfl⟩;have gx':(ks.map (·.2))[i]?=some x':=by rw[List.map_map] at gx; exact gx
  obtain⟨dt,gd,rd⟩:=rk.back gx';rw[List.getElem?_map,Option.map_eq_some_iff] at gd;obtain⟨e,ge,rfl⟩:=gd;have un:=k3 e (List.mem_of_getElem? ge);have rd3:=rd.to s5
  match hE:e.2,un,rd3 with
  | .bearing mo n x1 y1 x2 y2,un,rd3 =>
   obtain⟨c,c1,c2,rfl,hc,hc1,hc2⟩:=tD rd3;exists _,rfl,c,_,0,.str "bearing", rfl,rfl,.inr (SqT.of hc),rfl,rfl,_,rfl;exact xP ⟨s5,fa,_,rfl⟩
  | .range mo l1 r1,⟨p1,p2,e1,e2,ne⟩,rd3 =>
   obtain⟨c,rfl,hc⟩:=qY rd3;exists _,rfl,c,_,0,.str "range", rfl,rfl,.inr (SqT.of hc),rfl,rfl,_,rfl;refine zE3 ?_;exact⟨_,rfl,_,rfl,c,_,2,.str l1,rfl,rfl,.inr (SqT.of hc),rfl,_,rfl,c,_,3,.str r1,rfl,rfl,.inr (SqT.of hc),rfl,f,_,_,_,_,_,l1,r1,p1,p2,rfl,fst.to s5,e1,e2,ne,s5,fa,_,rfl⟩
 ·rintro σ H' ⟨s5,fa,u,rfl⟩;exact⟨_,rfl,q f H' ((xJ.of s13).trans s5) (s12.free hf) ⟨_,_,_,_,fst.to s5⟩⟩
def uK(_:PySem.W.Frag):Sp:=zEc λD=>∃ n,D=.unmark n
theorem zBq(F:Fun K "after_unmark" "after_unmark" wH f fd)(Z:Zs mg)(CB:Cb P w mg base)(yBh:Has P w K mg base "without" 1 ["state", "kind", "key"] (tV K))(yAy:Has P w K mg base "check_mark" 1 ["state", "name"] (xQ K)):xE P w K mg base CX0 2 f fd ["state", "row"] (uK K):=by
 specialize uN
 ·obtain⟨d,v,S,D,rfl,_⟩:=h;rfl
 obtain⟨d,v,S,D,rfl,⟨k,rfl⟩,⟨m,b,r,t,st⟩,hv,⟨k1,k2⟩,few,fr,q⟩:=h;obtain⟨a,rfl,ha⟩:=zEk hv;obtain⟨nk,hn,kn⟩:=st.no;obtain⟨ks,rfl,e1,rk⟩:=zDb kn
 refine'⟨_,(zC (yB 2 uN.nd ?_)
   (zC (zS ?_)
   (zC (uH PassesOwn.never rfl (zHd (zL (yA hr) (pv 0) zM (λ_ _=>rfl))) (vG 3 uN.nd) (zF (yR (yO (zSh (yA hr)) (pv 2) (wY zE0 (pv 3) (uJ xY) vO) (by with_unfolding_all rfl)) (zF xG) zZ)))
   (zF (zT ?_))))),?_⟩
 nofun
 exists _,rfl,a,_,_,.str k,rfl,rfl,.inr (SqT.of ha),rfl;exists _,rfl,_,rfl,d,m,b,r,t,S,k,rfl,st,k1;refine⟨_,rfl,d,.ref t,rfl,.inl ⟨_,.inr "notes", st.at_,rfl,zAc.symm⟩,t,_,rfl,hn,λo H2 fz=>?_⟩;have s2:Sam H H2:=zEl hn fz;refine zWe (λi σ H'=>Sam H H'/\zMa t o (ks.map λe=>(.inl e.1,e.2)) H'/\∃ u:Option V,σ=[some (.ref d),some (.ref a),some (.str k),u])
  ⟨s2,fz.1,none,rfl⟩ (λi σ H' h=>h.2.1) ?_ ?_
 ·rintro i x σ H' gx ⟨s3,fa,u,rfl⟩;have gx':(ks.map (·.2))[i]?=some x:=by rw[List.map_map] at gx; exact gx
  obtain⟨dt,gd,rd⟩:=rk.back gx';rw[List.getElem?_map,Option.map_eq_some_iff] at gd;obtain⟨e,ge,rfl⟩:=gd;have un:=k2 e (List.mem_of_getElem? ge);have rd3:=rd.to s3
  match hE:e.2,un,rd3 with
  | .bearing mo n x1 y1 x2 y2,un,rd3 =>
   obtain⟨c,c1,c2,rfl,hc,hc1,hc2⟩:=tD rd3;refine⟨_,rfl,_,rfl,_,rfl,c,_,rfl,SqT.of hc,(λz=>absurd z.1 (by show ¬ HT.sIx 5 0 (some 2)=0; decide)),λp hp=>?_⟩;have sp:=zB hp (.tup (rS [.str "bearing", .int mo,.str n,.ref c1,.ref c2] (some 2) none));refine⟨p,[.str n,.ref c1,.ref c2],k,rfl,rfl,SqT.of zA,λv hv=>?_,_,rfl,?_⟩
   ·rcases List.mem_cons.mp hv with z | hv
    ·exact .inl ⟨n,z⟩
    rcases List.mem_cons.mp hv with z | hv
    ·exact .inr ⟨c1,_,z,SqT.of (sp _ _ hc1)⟩
    ·exact .inr ⟨c2,_,List.mem_singleton.mp hv,SqT.of (sp _ _ hc2)⟩
   have nn:([V.str n,.ref c1,.ref c2].any (isS k))=false:=by
    show((n == k)||(false||(false||false)))=false;rw[beq_eq_false_iff_ne.mpr un];rfl
   rw[nn];exact xP ⟨s3.trans (.of sp),sp _ _ fa,_,rfl⟩
  | .range mo l1 r1,un,rd3 =>
   obtain⟨c,rfl,hc⟩:=qY rd3;refine⟨_,rfl,_,rfl,_,rfl,c,_,rfl,SqT.of hc,(λz=>absurd z.1 (by show ¬ HT.sIx 4 0 (some 2)=0; decide)),λp hp=>?_⟩;have sp:=zB hp (.tup (rS [.str "range", .int mo,.str l1,.str r1] (some 2) none));refine⟨p,[.str l1,.str r1],k,rfl,rfl,SqT.of zA,λv hv=>?_,_,rfl,?_⟩
   ·rcases List.mem_cons.mp hv with z | hv
    ·exact .inl ⟨l1,z⟩
    ·exact .inl ⟨r1,List.mem_singleton.mp hv⟩
   have nn:([V.str l1,.str r1].any (isS k))=false:=by
    show((l1 == k)||((r1 == k)||false))=false;rw[beq_eq_false_iff_ne.mpr un.1,beq_eq_false_iff_ne.mpr un.2];rfl
   rw[nn];exact xP ⟨s3.trans (.of sp),sp _ _ fa,_,rfl⟩
 ·rintro σ H' ⟨s3,fa,u,rfl⟩;have st3:=st.to s3;obtain⟨mvs,hm,km⟩:=st3.ma;obtain⟨p,ep⟩:=Option.isSome_iff_exists.mp k1;obtain⟨v,ev,_⟩:=km.get (k:=.inr k) (d:=ptD p) (by rw[qW,ep]; rfl);refine⟨_,rfl,_,rfl,d,m, "marks", .inr k,v,_,mvs,rfl,st3.at_,tT,hm,ev,StA.stKlen,λf c H4 s4 hf ne ef ec=>?_⟩;have st4:=st3.to (.of s4);rw[zEn] at ef;refine q f H4 (s3.trans (.of s4)) (s3.free id hf) ⟨c,b,r,t,.inl ef,⟨_,.inl ec,?_⟩,st4.ba,st4.ru,st4.no⟩;have:=(km.to (.of s4)).drop (k:=.inr k);rw[zLp] at this;exact this
def tJ(_:PySem.W.Frag):Sp:=zEc λD=>∃ n cs,D=.bank n cs
theorem zU3{H:Hp}{cs:List (Int×Int)}{ps:List Pr}(h:zXw H cs ps)(hn:∀ c∈cs,zFr c):zCg H (10^8) ps:=λt ht=>by
 obtain⟨h1,h2,h3,h4⟩:=hn t.2 (by rw[<- h.pt]; exact List.mem_map.mpr ⟨t,ht,rfl⟩);exact⟨h.at_ t ht,by lia,by lia⟩
theorem zEg(F:Fun K "after_bank" "after_bank" uX f fd)(Z:Zs mg)(CB:Cb P w mg base)(yBf:Has P w K mg base "changed" 1 ["state", "kind", "key", "value"] (xR K))(yAq:Has P w K mg base "check_room" 1 ["state", "kind"] (xS K))(yBi:Has P w K mg base "is_bank" 3 ["corners"] (zB6 K))(yAm:Has P w K mg base "check_place" 2 ["place"] (wI K))(yAs:Has P w K mg base "check_free" 1 ["state", "kind", "name"] (tG K))(yAu:Has P w K mg base "check_name" 1 ["name"] (tK K)):xE P w K mg base CX0 4 f fd ["state", "row"] (tJ K):=by
 specialize wQ
 ·obtain⟨d,v,S,D,rfl,_⟩:=h;rfl
 obtain⟨d,v,S,D,rfl,⟨n,cs,rfl⟩,⟨m,b,r,t,st⟩,hv,⟨k1,k2,k3,k4,k5⟩,few,_,q⟩:=h;obtain⟨a,cc,ps,rfl,ha,hc,cn,rc⟩:=zGy hv;have lps:ps.length<=8:=by
  rw[<- cn.pt,<- zSr] at k4;unfold isB at k4;simp at k4;exact k4.2.1
 refine'⟨_,(zC (yB 2 wQ.nd ?_)
   (zC (yB 3 wQ.nd ?_)
   (zC (zS ?_)
   (zC (zS ?_)
   (zC (uH PassesOwn.never rfl (tQ (pv 3)) (vG 4 wQ.nd) (zF (zS ?_)))
   (zC (yR ?_ (zF xG) zZ)
   (zC (zS ?_)
   (zF (zT ?_))))))))),?_⟩
 nofun
 exists _,rfl,a,_,_,.str n,rfl,rfl,.inr (SqT.of ha),rfl;exists _,rfl,a,_,_,.ref cc,rfl,rfl,.inr (SqT.of ha),rfl;refine⟨_,rfl,n,rfl,k1,λH2 s2=>?_⟩;have st2:=st.to (.of s2);obtain⟨bvs,hb,kb⟩:=st2.ba;exists _,rfl,_,rfl,d,b, "banks", n,_,bvs,rfl,st2.at_,zA6,hb,kb.none (zK9 (zHh k2));have hc2:=s2 _ _ hc;refine⟨_,rfl,cc,rfl,.inr ⟨⟨_,SqT.of hc2⟩,?_⟩⟩;refine zHa (K:=K) (a:=cc) (xs:=zQ ps) (λi σ H'=>Same H2 H'/\∃ u:Option V,σ=[some (.ref d),some (.ref a),some (.str n),some (.ref cc),u])
  ⟨Same.refl _,none,rfl⟩ (λi σ H' _ h=>SqT.of (h.1 _ _ hc2)) ?_ ?_
 ·rintro i x σ H' gx ⟨s3,u,rfl⟩;rw[List.getElem?_map,List.getElem?_map,Option.map_map,Option.map_eq_some_iff] at gx;obtain⟨t,gt,rfl⟩:=gx;have mt:=List.mem_of_getElem? gt;refine⟨_,rfl,t.1,t.2.1,t.2.2,rfl,s3 _ _ (s2 _ _ (cn.at_ t mt)),k3 t.2 (by rw[<- cn.pt]; exact List.mem_map.mpr ⟨t,mt,rfl⟩),λH4 s4=>⟨s3.trans s4,_,rfl⟩⟩
 ·rintro σ H3 ⟨s3,u,rfl⟩;have s13:=s2.trans s3;refine⟨_,rfl,cc,ps,rfl,⟨.inr (SqT.of (s3 _ _ hc2)),(zU3 cn k3).same s13⟩,by lia,λH4 s4=>⟨_,rfl,?_⟩⟩;rw[zSr,cn.pt,k4];refine xP ?_;have s14:=s13.trans s4;have st4:=st.to (.of s14);have hb4:=Rd.same hb (s3.trans s4);refine⟨_,rfl,d,b, "banks", _,bvs,8,rfl,st4.at_,zA6,hb4,(by kernel_rfl),by rw[kb.length,zKg]; lia,?_⟩;refine⟨_,rfl,_,rfl,_,rfl,d,b, "banks", .inr n,.ref cc,_,bvs,rfl,st4.at_,zA6,hb4,StA.stKlen,kb.le (by rw[zKg]; lia),λf c H5 s5 hf _ ef ec=>?_⟩;have s15:=s14.trans s5;have st5:=st.to (.of s15);rw[zH9] at ef;refine q f H5 (.of s15) (s14.free hf) ⟨m,c,r,t,.inl ef,st5.ma,⟨_,.inl ec,?_⟩,st5.ru,st5.no⟩;show xO H5 _ (bkE (S.banks++[(n,cs)]));rw[zOp,<- vV (zHh k2)];exact(kb.to (.of ((s3.trans s4).trans s5))).put (rc.to (.of s15))
def vL(_:PySem.W.Frag):Sp:=zEc λD=>∃ n,D=.level n
theorem zCm(F:Fun K "after_level" "after_level" uE f fd)(Z:Zs mg)(CB:Cb P w mg base)(yBh:Has P w K mg base "without" 1 ["state", "kind", "key"] (tV K)):xE P w K mg base CX0 2 f fd ["state", "row"] (vL K):=by
 specialize rV
 ·obtain⟨d,v,S,D,rfl,_⟩:=h;rfl
 obtain⟨d,v,S,D,rfl,⟨k,rfl⟩,⟨m,b,r,t,st⟩,hv,ok,few,fr,q⟩:=h;obtain⟨a,rfl,ha⟩:=zG4 hv;obtain⟨nk,hn,kn⟩:=st.ba;obtain⟨dv,lk⟩:=zSt (l:=S.banks) ok;obtain⟨v,ev,_⟩:=kn.get lk
 refine'⟨_,(zC (yB 2 rV.nd ?_)
   (zC (yR (zF9 (qF (yA hr) (pv 2) (zL (yA hr) (pv 0) zM (λ_ _=>rfl))) (by with_unfolding_all rfl)) (zF xG) zZ)
   (zF (zT ?_)))),?_⟩
 nofun
 exists _,rfl,a,_,_,.str k,rfl,rfl,.inr (SqT.of ha),rfl,_,rfl,_,rfl,d,.ref b,rfl,.inl ⟨_,.inr "banks", st.at_,rfl,zA6.symm⟩,b,_,rfl,.inl ⟨nk,.inr k,hn,rfl,rfl⟩,_,rfl;rw[ev];refine xP ?_;refine⟨_,rfl,_,rfl,d,b, "banks", .inr k,v,_,nk,rfl,st.at_,zA6,hn,ev,StA.stKlen,λf c H2 s2 hf ne ef ec=>?_⟩;have st2:=st.to (.of s2);rw[zH9] at ef;refine q f H2 (.of s2) hf ⟨m,c,r,t,.inl ef,st2.ma,⟨_,.inl ec,?_⟩,st2.ru,st2.no⟩;have:=(kn.to (.of s2)).drop (k:=.inr k);rw[zLu] at this;exact this
def tL(_:PySem.W.Frag):Sp:=zEc λD=>∃ x y,D=.sail x y
theorem zEp(F:Fun K "after_sail" "after_sail" uS f fd)(Z:Zs mg)(CB:Cb P w mg base)(yBf:Has P w K mg base "changed" 1 ["state", "kind", "key", "value"] (xR K))(yAq:Has P w K mg base "check_room" 1 ["state", "kind"] (xS K))(yBb:Has P w K mg base "check_run" 2 ["run"] (tY K)):xE P w K mg base CX0 3 f fd ["state", "row"] (tL K):=by
 specialize qD
 ·obtain⟨d,v,S,D,rfl,_⟩:=h;rfl
 obtain⟨d,v,S,D,rfl,⟨x,y,rfl⟩,⟨m,b,r,t,st⟩,hv,⟨k1,k2⟩,few,_,q⟩:=h;obtain⟨a,rfl,ha⟩:=zJ7 hv
 refine'⟨_,(zC (yB 2 qD.nd ?_)
   (zC (zS ?_)
   (zC (zS ?_)
   (zF (zT (uD yBf (hr.mono (by decide)) rfl (zH (pv 0) (zH zM (zH (yK tZ rfl Z.len sR (zH (zL (yA hr) (pv 0) zM (λ_ _=>rfl)) zO)) (zH (pv 2) zO)))))))))),?_⟩
 nofun
 refine⟨_,rfl,a,_,_,.int x,rfl,rfl,.inr (SqT.of ha),rfl,_,rfl,a,_,_,.int y,rfl,rfl,.inr (SqT.of ha),rfl,sz2,λp hp=>?_⟩;have s1:=zB hp (.tup [.int x,.int y]);refine⟨_,rfl,p,x,y,rfl,zA,k1,λH2 s2=>?_⟩;have s12:=s1.trans s2;have st2:=st.to (.of s12);obtain⟨kvs,hm,kv⟩:=st2.ru;have ln:kvs.length=S.runs.length:=by rw[kv.length,zHe]
 refine⟨_,rfl,d,r, "runs", _,kvs,12,rfl,st2.at_,zAn,hm,(by kernel_rfl),by lia,?_⟩;refine⟨_,rfl,_,rfl,d,.ref r,rfl,.inl ⟨_,.inr "runs", st2.at_,rfl,zAn.symm⟩,r,kvs,rfl,hm,_,rfl,d,r, "runs", .inl (kvs.length:Int),.ref p,_,kvs,rfl,st2.at_,zAn,hm,StA.stKlen,by lia,λf c H4 s4 hf _ ef ec=>?_⟩;have s14:=s12.trans s4;have st4:=st.to (.of s14);rw[zK1] at ef;refine q f H4 (.of s14) (s12.free hf) ⟨m,b,c,t,.inl ef,st4.ma,st4.ba,⟨_,.inl ec,?_⟩,st4.no⟩;show xO H4 _ (rnE (S.runs++[(x,y)]));rw[zT1,<- vV zR1,<- ln];exact(kv.to (.of s4)).put (sB ((s2.trans s4) _ _ zA))
def vQ(_:PySem.W.Frag):Sp:=zEc λD=>∃ k x y,D=.right k x y
theorem zCx(F:Fun K "after_right" "after_right" wW f fd)(Z:Zs mg)(CB:Cb P w mg base)(yBf:Has P w K mg base "changed" 1 ["state", "kind", "key", "value"] (xR K))(yBb:Has P w K mg base "check_run" 2 ["run"] (tY K)):xE P w K mg base CX0 3 f fd ["state", "row"] (vQ K):=by
 specialize vP
 ·obtain⟨d,v,S,D,rfl,_⟩:=h;rfl
 obtain⟨d,v,S,D,rfl,⟨k,x,y,rfl⟩,⟨m,b,r,t,st⟩,hv,⟨k1,k2,k3⟩,few,_,q⟩:=h;obtain⟨a,rfl,ha⟩:=zG2 hv;obtain⟨i,rfl⟩:=Int.eq_ofNat_of_zero_le k1;have hi:i<S.runs.length:=by lia
 have lk:=zKl (k:=0) (List.getElem?_eq_getElem hi);rw[Nat.zero_add] at lk
 refine'⟨_,(zC (yB 2 vP.nd ?_)
   (zC (yB 3 vP.nd ?_)
   (zC (yR (zF9 (qF (yA hr) (pv 2) (zL (yA hr) (pv 0) zM (λ_ _=>rfl))) (by with_unfolding_all rfl)) (zF xG) zZ)
   (zC (zS ?_)
   (zF (zT ?_)))))),?_⟩
 nofun
 exists _,rfl,a,_,_,.int (i:Int),rfl,rfl,.inr (SqT.of ha),rfl;refine⟨_,rfl,a,_,_,.int x,rfl,rfl,.inr (SqT.of ha),rfl,_,rfl,a,_,_,.int y,rfl,rfl,.inr (SqT.of ha),rfl,sz2,λp hp=>?_⟩;have s1:=zB hp (.tup [.int x,.int y]);have st1:=st.to (.of s1);obtain⟨rvs,hr1,kr⟩:=st1.ru;obtain⟨v,ev,_⟩:=kr.get lk;exists _,rfl,_,rfl,d,.ref r,rfl,.inl ⟨_,.inr "runs", st1.at_,rfl,zAn.symm⟩,r,_,rfl,.inl ⟨rvs,.inl (i:Int),hr1,rfl,rfl⟩,_,rfl;rw[ev];refine xP ?_;refine⟨_,rfl,p,x,y,rfl,zA,k3,λH3 s3=>?_⟩;have st3:=st1.to (.of s3);have hr3:=Rd.same hr1 s3;refine⟨_,rfl,_,rfl,_,rfl,d,r, "runs", .inl (i:Int),.ref p,_,rvs,rfl,st3.at_,zAn,hr3,StA.stKlen,kr.le (by rw[zHe]; have:=few.ru; lia),λf c H4 s4 hf _ ef ec=>?_⟩;have s14:=(s1.trans s3).trans s4;have st4:=st.to (.of s14);rw[zK1] at ef;refine q f H4 (.of s14) ((s1.trans s3).free hf) ⟨m,b,c,t,.inl ef,st4.ma,st4.ba,⟨_,.inl ec,?_⟩,st4.no⟩;show xO H4 _ (rnE (S.runs.set i (x,y)));rw[<- zTx hi];exact(kr.to (.of (s3.trans s4))).put (sB (p:=(x,y)) ((s3.trans s4) _ _ zA))
def tM(_:PySem.W.Frag):Sp:=λvs H Q _=>∃(d:Addr)(v:V)(S:BS)(D:Deed),vs=[.ref d,v]/\zKf H d S/\Rep H D.dt v/\S.notes.length<24/\zMd S /\
 ∀(d':Addr)(H':Hp),Same H H'->H d'=none->zKf H' d' { S with notes:=S.notes++[(S.coming,D)],coming:=S.coming+1 }->Q (.ref d') H'
theorem zDp(F:Fun K "after_note" "after_note" uY f fd)(Z:Zs mg)(CB:Cb P w mg base)(yBf:Has P w K mg base "changed" 1 ["state", "kind", "key", "value"] (xR K))(yAq:Has P w K mg base "check_room" 1 ["state", "kind"] (xS K)):xE P w K mg base CX0 2 f fd ["state", "row"] (tM K):=by
 specialize qB
 ·obtain⟨d,v,S,D,rfl,_⟩:=h;rfl
 obtain⟨d,v,S,D,rfl,⟨m,b,r,t,st⟩,hv,k1,fr,q⟩:=h;obtain⟨kvs,hm,kv⟩:=st.no;have ln:kvs.length=S.notes.length:=by rw[kv.length,zOh]
 refine'⟨_,(zC (zS ?_)
   (zC (yB 2 qB.nd (uD yBf (hr.mono (by decide)) rfl (zH (pv 0) (zH zM (zH (zL (yA hr) (pv 0) zM (λ_ _=>rfl)) (zH (pv 1) zO))))))
   (zC (tP (yA hr) (pv 2) zM (uG zI1 (zL (yA hr) (pv 0) zM (λ_ _=>rfl)) xY) rfl)
   (zF (zT (pv 2)))))),?_⟩
 nofun
 refine⟨_,rfl,d,t, "notes", _,kvs,24,rfl,st.at_,zAc,hm,(by kernel_rfl),by lia,?_⟩;refine⟨_,rfl,_,rfl,d,.int S.coming,rfl,.inl ⟨_,.inr "coming", st.at_,rfl,zD5.symm⟩,_,rfl,d,t, "notes", .inl S.coming,v,_,kvs,rfl,st.at_,zAc,hm,StA.stKlen,by lia,λf c H2 s2 hf ne ef ec=>?_⟩;have st2:=st.to (.of s2);rw[zHr] at ef;exists _,rfl,d,.int S.coming,rfl,.inl ⟨_,.inr "coming", st2.at_,rfl,zD5.symm⟩,_,_,rfl,rfl,_,rfl,f,_,rfl,zHj.k (k:=.inr "coming") ef (zK (Nat.le_trans StA.stKlen (by decide))),_,rfl;rw[zMl];have s3:Same H (upd H2 f (.dK (stK m b r c (S.coming+1)))):=s2.putNew hf;have st3:=st.to (.of s3);refine q f _ s3 hf ⟨m,b,r,c,.inl zA,st3.ma,st3.ba,st3.ru,⟨_,.inl (by rw[zD ne.symm]; exact ec),?_⟩⟩;rw[zKk,<- vV (zG9 fr)];exact(kv.to (.of s3)).put (hv.to (.of s3))
def wS(_:PySem.W.Frag):Sp:=zEc λD=>∃ m n a b c d,D=.bearing m n a b c d
theorem zBi(F:Fun K "after_bearing" "after_bearing" xU f fd)(Z:Zs mg)(CB:Cb P w mg base)(yAx:Has P w K mg base "after_note" 2 ["state", "row"] (tM K))(yBq:Has P w K mg base "turn" 1 ["one", "other"] (zEr K))(yBc:Has P w K mg base "check_way" 2 ["direction"] (zAl K))(yAy:Has P w K mg base "check_mark" 1 ["state", "name"] (xQ K))(yAb:zXs P w K mg base "check_moment" 1 ["moment", "runs"] (uP K)):xE P w K mg base CX0 3 f fd ["state", "row"] (wS K):=by
 specialize zBh
 ·obtain⟨d,v,S,D,rfl,_⟩:=h;rfl
 obtain⟨d,v,S,D,rfl,⟨mo,nm,x1,y1,x2,y2,rfl⟩,⟨m,b,r,t,st⟩,hv,⟨k1,k2,k3,k4,k5,k6,k7⟩,few,fr,q⟩:=h;obtain⟨a,p,u,rfl,ha,hp,hu⟩:=tD hv;obtain⟨rvs,hr1,kr⟩:=st.ru
 refine'⟨_,(zC (zS (zKy (λ_=>E0) yAb zOi (hr.mono (by decide)) rfl (zH ?_ (zH (zL (yA hr) (pv 0) zM (λ_ _=>rfl)) zO))))
   (zC (zS ?_)
   (zC (zS ?_)
   (zC (zS ?_)
   (zC (yR ?_ (zF xG) zZ)
   (zF (zT ?_))))))),?_⟩
 nofun
 refine⟨_,rfl,a,_,_,.int mo,rfl,rfl,.inr (SqT.of ha),rfl,_,rfl,d,.ref r,rfl,.inl ⟨_,.inr "runs", st.at_,rfl,zAn.symm⟩,r,mo,S.runs.length,rfl,.inr ⟨rvs,hr1,by rw[kr.length,zHe]⟩,.inl ⟨k1,k2,?_⟩⟩;exists _,rfl,_,rfl,a,_,_,.str nm,rfl,rfl,.inr (SqT.of ha),rfl,d,m,b,r,t,S,nm,rfl,st,k3;refine⟨_,rfl,a,_,_,.ref p,rfl,rfl,.inr (SqT.of ha),rfl,p,x1,y1,rfl,hp,k4,λH2 s2=>?_⟩;have ha2:=s2 _ _ ha;refine⟨_,rfl,a,_,_,.ref u,rfl,rfl,.inr (SqT.of ha2),rfl,u,x2,y2,rfl,s2 _ _ hu,k5,λH3 s3=>?_⟩;have ha3:=s3 _ _ ha2;have s23:=s2.trans s3;obtain⟨_,b1,b2,b3,b4⟩:=k4;have n1:x1.natAbs<=10^18:=by simp at b1 b2; lia
 have n2:y1.natAbs<=10^18:=by simp at b3 b4; lia
 exists _,rfl,a,_,_,.ref p,rfl,rfl,.inr (SqT.of ha3),rfl,_,rfl,a,_,_,.ref u,rfl,rfl,.inr (SqT.of ha3),rfl,p,u,_,_,x1,y1,x2,y2,rfl,.inr (SqT.of (s23 _ _ hp)),.inr (SqT.of (s23 _ _ hu)),rfl,rfl,rfl,rfl,n1,n2,_,_,rfl,rfl,_,rfl;refine ifD (λz=>absurd z (by lia)) (λ_=>?_);refine⟨_,rfl,_,rfl,d,.ref a,S,.bearing mo nm x1 y1 x2 y2,rfl,⟨m,b,r,t,st.to (.of s23)⟩,hv.to (.of s23),k7,fr,λd' H4 s4 hd' st4=>q d' H4 (.of (s23.trans s4)) (s23.free hd') st4⟩
def vK(_:PySem.W.Frag):Sp:=zEc λD=>∃ m l r,D=.range m l r
theorem zCt(F:Fun K "after_range" "after_range" wZ f fd)(Z:Zs mg)(CB:Cb P w mg base)(yAx:Has P w K mg base "after_note" 2 ["state", "row"] (tM K))(yAn:Has P w K mg base "check_apart" 1 ["state", "left", "right"] (vT K))(yAy:Has P w K mg base "check_mark" 1 ["state", "name"] (xQ K))(yAb:zXs P w K mg base "check_moment" 1 ["moment", "runs"] (uP K)):xE P w K mg base CX0 3 f fd ["state", "row"] (vK K):=by
 specialize zC1
 ·obtain⟨d,v,S,D,rfl,_⟩:=h;rfl
 obtain⟨d,v,S,D,rfl,⟨mo,l1,l2,rfl⟩,⟨m,b,r,t,st⟩,hv,⟨k1,k2,k3,k4,k5,k6⟩,few,fr,q⟩:=h;obtain⟨a,rfl,ha⟩:=qY hv;obtain⟨rvs,hr1,kr⟩:=st.ru;obtain⟨p1,e1⟩:=Option.isSome_iff_exists.mp k3;obtain⟨p2,e2⟩:=Option.isSome_iff_exists.mp k4;have at1:Sq K H a _:=.inr (SqT.of ha)
 refine'⟨_,(zC (zS (zKy (λ_=>E0) yAb zOi (hr.mono (by decide)) rfl (zH ?_ (zH (zL (yA hr) (pv 0) zM (λ_ _=>rfl)) zO))))
   (zC (zS ?_)
   (zC (zS ?_)
   (zC (zS ?_)
   (zF (zT ?_)))))),?_⟩
 nofun
 refine⟨_,rfl,a,_,_,.int mo,rfl,rfl,at1,rfl,_,rfl,d,.ref r,rfl,.inl ⟨_,.inr "runs", st.at_,rfl,zAn.symm⟩,r,mo,S.runs.length,rfl,.inr ⟨rvs,hr1,by rw[kr.length,zHe]⟩,.inl ⟨k1,k2,?_⟩⟩;exists _,rfl,_,rfl,a,_,_,.str l1,rfl,rfl,at1,rfl,d,m,b,r,t,S,l1,rfl,st,k3;exists _,rfl,_,rfl,a,_,_,.str l2,rfl,rfl,at1,rfl,d,m,b,r,t,S,l2,rfl,st,k4;exists _,rfl,_,rfl,a,_,_,.str l1,rfl,rfl,at1,rfl,_,rfl,a,_,_,.str l2,rfl,rfl,at1,rfl,d,m,b,r,t,S,l1,l2,p1,p2,rfl,st,e1,e2,λz=>k5 (by rw[e1,e2,z]);refine⟨_,rfl,_,rfl,d,.ref a,S,.range mo l1 l2,rfl,⟨m,b,r,t,st⟩,hv,k6,fr,λd' H4 s4 hd' st4=>q d' H4 (.of s4) hd' st4⟩
def uI(_:PySem.W.Frag):Sp:=zEc λD=>∃ k,D=.strike k
theorem zB3(F:Fun K "after_strike" "after_strike" wE f fd)(Z:Zs mg)(CB:Cb P w mg base)(yBh:Has P w K mg base "without" 1 ["state", "kind", "key"] (tV K)):xE P w K mg base CX0 2 f fd ["state", "row"] (uI K):=by
 specialize sS
 ·obtain⟨d,v,S,D,rfl,_⟩:=h;rfl
 obtain⟨d,v,S,D,rfl,⟨k,rfl⟩,⟨m,b,r,t,st⟩,hv,ok,few,fr,q⟩:=h;obtain⟨a,rfl,ha⟩:=zE1 hv;obtain⟨nk,hn,kn⟩:=st.no;obtain⟨dv,lk⟩:=zLx (l:=S.notes) ok;obtain⟨v,ev,_⟩:=kn.get lk
 refine'⟨_,(zC (yB 2 sS.nd ?_)
   (zC (yR (zF9 (qF (yA hr) (pv 2) (zL (yA hr) (pv 0) zM (λ_ _=>rfl))) (by with_unfolding_all rfl)) (zF xG) zZ)
   (zF (zT ?_)))),?_⟩
 nofun
 exists _,rfl,a,_,_,.int k,rfl,rfl,.inr (SqT.of ha),rfl,_,rfl,_,rfl,d,.ref t,rfl,.inl ⟨_,.inr "notes", st.at_,rfl,zAc.symm⟩,t,_,rfl,.inl ⟨nk,.inl k,hn,rfl,rfl⟩,_,rfl;rw[ev];refine xP ?_;refine⟨_,rfl,_,rfl,d,t, "notes", .inl k,v,_,nk,rfl,st.at_,zAc,hn,ev,StA.stKlen,λf c H2 s2 hf ne ef ec=>?_⟩;have st2:=st.to (.of s2);rw[zHr] at ef;refine q f H2 (.of s2) hf ⟨m,b,r,c,.inl ef,st2.ma,st2.ba,st2.ru,⟨_,.inl ec,?_⟩⟩;have:=(kn.to (.of s2)).drop (k:=.inl k);rw[zLr] at this;exact this
def zVp(_:Deed):Prop:=True
def zF0(_:PySem.W.Frag):Sp:=zEc zVp
def tabL:List (Key×Sp):=[(.inr "mark", tH []),(.inr "move", tF []),(.inr "unmark", uK []),(.inr "bank", tJ []),(.inr "level", vL []),(.inr "sail", tL []),(.inr "right", vQ []),(.inr "bearing", wS []),(.inr "range", vK []),(.inr "strike", uI [])]
theorem zL9(F:Fun K "after" "after" zBb f fd)(Z:Zs mg)(CB:Cb P w mg base)(yAp:Has P w K mg base "after_mark" 3 ["state", "row"] (tH K))(yAv:Has P w K mg base "after_move" 3 ["state", "row"] (tF K))(yAc:Has P w K mg base "after_unmark" 2 ["state", "row"] (uK K))(yAr:Has P w K mg base "after_bank" 4 ["state", "row"] (tJ K))(yAg:Has P w K mg base "after_level" 2 ["state", "row"] (vL K))(yAt:Has P w K mg base "after_sail" 3 ["state", "row"] (tL K))(yAj:Has P w K mg base "after_right" 3 ["state", "row"] (vQ K))(yAa:Has P w K mg base "after_bearing" 3 ["state", "row"] (wS K))(yAh:Has P w K mg base "after_range" 3 ["state", "row"] (vK K))(yAe:Has P w K mg base "after_strike" 2 ["state", "row"] (uI K)):xE P w K mg base CX0 5 f fd ["state", "row"] (zF0 K):=by
 specialize zMf
 ·obtain⟨d,v,S,D,rfl,_⟩:=h;rfl
 obtain⟨d,v,S,D,rfl,kd,st,hv,ok,few,fr,q⟩:=h;have tabs:∀ r∈tabL,zV1 P w K mg base 4 zSe r.1 r.2:=by
  intro r hr;simp only[tabL,List.mem_cons,List.not_mem_nil,or_false] at hr;rcases hr with rfl | rfl | rfl | rfl | rfl | rfl | rfl | rfl | rfl | rfl
  ·exact⟨"after_mark", _,_,_,by kernel_rfl,CB.t_mark,yAp,by decide⟩
  ·exact⟨"after_move", _,_,_,by kernel_rfl,CB.t_move,yAv,by decide⟩
  ·exact⟨"after_unmark", _,_,_,by kernel_rfl,CB.t_unmark,yAc,by decide⟩
  ·exact⟨"after_bank", _,_,_,by kernel_rfl,CB.t_bank,yAr,by decide⟩
  ·exact⟨"after_level", _,_,_,by kernel_rfl,CB.t_level,yAg,by decide⟩
  ·exact⟨"after_sail", _,_,_,by kernel_rfl,CB.t_sail,yAt,by decide⟩
  ·exact⟨"after_right", _,_,_,by kernel_rfl,CB.t_right,yAj,by decide⟩
  ·exact⟨"after_bearing", _,_,_,by kernel_rfl,CB.t_bearing,yAa,by decide⟩
  ·exact⟨"after_range", _,_,_,by kernel_rfl,CB.t_range,yAh,by decide⟩
  ·exact⟨"after_strike", _,_,_,by kernel_rfl,CB.t_strike,yAe,by decide⟩
 refine'⟨_,(zF (zT (zW6 CB.dAFTER CB.gAFTER tabs (hr.mono (by decide)) ?_ (zH (pv 0) (zH (pv 1) zO))))),?_⟩
 nofun
 cases D with
 | mark n x y =>
  obtain⟨a,rfl,ha⟩:=zJq hv;exact⟨_,rfl,a,_,_,.str "mark", rfl,rfl,.inr (SqT.of ha),rfl,.inr "mark", _,rfl,.head _,_,rfl,_,rfl,d,.ref a,S,_,rfl,⟨_,_,_,rfl⟩,st,hv,ok,few,fr,q⟩
 | move n x y =>
  obtain⟨a,rfl,ha⟩:=zJ6 hv;exact⟨_,rfl,a,_,_,.str "move", rfl,rfl,.inr (SqT.of ha),rfl,.inr "move", _,rfl,.tail _ (.head _),_,rfl,_,rfl,d,.ref a,S,_,rfl,⟨_,_,_,rfl⟩,st,hv,ok,few,fr,q⟩
 | unmark n =>
  obtain⟨a,rfl,ha⟩:=zEk hv;exact⟨_,rfl,a,_,_,.str "unmark", rfl,rfl,.inr (SqT.of ha),rfl,.inr "unmark", _,rfl,.tail _ (.tail _ (.head _)),_,rfl,_,rfl,d,.ref a,S,_,rfl,⟨_,rfl⟩,st,hv,ok,few,fr,q⟩
 | bank n cs =>
  obtain⟨a,_,_,rfl,ha,_⟩:=zGy hv;exact⟨_,rfl,a,_,_,.str "bank", rfl,rfl,.inr (SqT.of ha),rfl,.inr "bank", _,rfl,.tail _ (.tail _ (.tail _ (.head _))),_,rfl,_,rfl,d,.ref a,S,_,rfl,⟨_,_,rfl⟩,st,hv,ok,few,fr,q⟩
 | level n =>
  obtain⟨a,rfl,ha⟩:=zG4 hv;exact⟨_,rfl,a,_,_,.str "level", rfl,rfl,.inr (SqT.of ha),rfl,.inr "level", _,rfl,.tail _ (.tail _ (.tail _ (.tail _ (.head _)))),_,rfl,_,rfl,d,.ref a,S,_,rfl,⟨_,rfl⟩,st,hv,ok,few,fr,q⟩
 | sail x y =>
  obtain⟨a,rfl,ha⟩:=zJ7 hv;exact⟨_,rfl,a,_,_,.str "sail", rfl,rfl,.inr (SqT.of ha),rfl,.inr "sail", _,rfl,.tail _ (.tail _ (.tail _ (.tail _ (.tail _ (.head _))))),_,rfl,_,rfl,d,.ref a,S,_,rfl,⟨_,_,rfl⟩,st,hv,ok,few,fr,q⟩
 | right k x y =>
  obtain⟨a,rfl,ha⟩:=zG2 hv;exact⟨_,rfl,a,_,_,.str "right", rfl,rfl,.inr (SqT.of ha),rfl,.inr "right", _,rfl,.tail _ (.tail _ (.tail _ (.tail _ (.tail _ (.tail _ (.head _)))))),_,rfl,_,rfl,d,.ref a,S,_,rfl,⟨_,_,_,rfl⟩,st,hv,ok,few,fr,q⟩
 | bearing m n x y z t =>
  obtain⟨a,p,u,rfl,ha,_⟩:=tD hv;exact⟨_,rfl,a,_,_,.str "bearing", rfl,rfl,.inr (SqT.of ha),rfl,.inr "bearing", _,rfl,.tail _ (.tail _ (.tail _ (.tail _ (.tail _ (.tail _ (.tail _ (.head _))))))),_,rfl,_,rfl,d,.ref a,S,_,rfl,⟨_,_,_,_,_,_,rfl⟩,st,hv,ok,few,fr,q⟩
 | range m n k =>
  obtain⟨a,rfl,ha⟩:=qY hv;exact⟨_,rfl,a,_,_,.str "range", rfl,rfl,.inr (SqT.of ha),rfl,.inr "range", _,rfl,.tail _ (.tail _ (.tail _ (.tail _ (.tail _ (.tail _ (.tail _ (.tail _ (.head _)))))))),_,rfl,_,rfl,d,.ref a,S,_,rfl,⟨_,_,_,rfl⟩,st,hv,ok,few,fr,q⟩
 | strike k =>
  obtain⟨a,rfl,ha⟩:=zE1 hv;exact⟨_,rfl,a,_,_,.str "strike", rfl,rfl,.inr (SqT.of ha),rfl,.inr "strike", _,rfl,.tail _ (.tail _ (.tail _ (.tail _ (.tail _ (.tail _ (.tail _ (.tail _ (.tail _ (.head _))))))))),_,rfl,_,rfl,d,.ref a,S,_,rfl,⟨_,rfl⟩,st,hv,ok,few,fr,q⟩
def zDq:Nat->Sp
 | 0=>λ_ _ _ _=>False
 | n+1=>λvs H Q _=>∃(v:V)(d:Dt),vs=[v]/\Rep H d v/\zAd n d/\(yM d).length<=900/\∀(g:Addr)(H':Hp),Same H H'->H g=none->H' g=some (.lst ((yM d).map V.str))->Q (.ref g) H'
def zAy(_:PySem.W.Frag):Sp:=zDq 5
theorem zH3{f:Addr}{fd:FuncData}(F:Fun K "words_of" "words_of" vF f fd)(Z:Zs mg)(bS:zAt K fd ["value"] [])(kS:PySem.W.keepIn K (.ref f)=true)(mS:mg "words_of" = some (.ref f)) :
  ∀ n:Nat,xE P w K mg base CX0 n f fd ["value"] (zDq n)
 | 0=>⟨λ_ _ _ _ h=>h.elim,λ_ _ _ _ _ _ _ _ _ _ _ _ _ h=>h.elim⟩
 | n+1=>by
  have ih:=zH3 F Z bS kS mS n;have yBd:Has P w K mg base "words_of" n ["value"] (zDq n):=⟨f,fd,ih,bS,kS,mS⟩
  specialize rA
  ·obtain⟨v,d,rfl,_⟩:=h;rfl
  obtain⟨v,d,rfl,hd,sh,hl,q⟩:=h;have hr_self:=hr
  refine'⟨_,(zC (yR ?_ (zF (zT ?_)) zZ)
   (zC (yB 1 rA.nd ?_)
   (zC (uH PassesOwn.never rfl (tQ (pv 0)) (vG 2 rA.nd) (zF (zS (zJw PySem.F.plainAttrs_list PySem.F.slot_list_extend PySem.F.type_list_extend zOc (pv 1) (zH (uD yBd hr_self rfl (zH (pv 2) zO)) zO)))))
   (zF (zT (pv 1)))))),?_⟩
  nofun
  match d,hd,sh,hl,q with
  | .int i,hd,sh,hl,q =>
   obtain rfl:=yE.mp hd;have sh:i.natAbs.log2<1920:=by cases n <;> exact sh
   exists _,rfl,_, "tuple", _,false,rfl,.int i,rfl,_,rfl;refine zE3 ?_;refine⟨_,rfl,.inl ⟨i,rfl,sh,sz1,λg hg=>?_⟩⟩;exact q g _ (zB hg _) hg zA
  | .str x,hd,sh,hl,q =>
   obtain rfl:=zY.mp hd;exists _,rfl,_, "tuple", _,false,rfl,.str x,rfl,_,rfl;refine zE3 ?_;refine⟨_,rfl,.inr ⟨x,rfl,sz1,λg hg=>?_⟩⟩;exact q g _ (zB hg _) hg zA
  | .tup l,hd,sh,hl,q =>
   obtain⟨a,xs,rfl,ha,rs⟩:=yL.mp hd;exists _,rfl,_, "tuple", _,true,rfl,.tup ha,rfl,_,rfl;refine xP ?_;refine⟨sz0,λg hg=>?_⟩;have s1:=zB hg (.lst []);refine⟨_,rfl,a,rfl,.inr ⟨⟨_,SqT.of (s1 _ _ ha)⟩,?_⟩⟩;obtain⟨m,rfl,sh⟩:∃ m,n=m+1/\(l.length<=900/\∀ d∈l,zAd m d):=by
    cases n with
    | zero=>exact sh.elim
    | succ m=>exact⟨m,rfl,sh⟩
   have hl:(zW l).length<=900:=by rw[yM] at hl; exact hl
   refine zHa (K:=K) (a:=a) (xs:=xs) (λi σ H'=>Same H H'/\H' g=some (.lst ((zW (l.take i)).map V.str))/\∃ u:Option V,σ=[some (.ref a),some (.ref g),u])
    ⟨s1,by rw[List.take_zero,zW]; exact zA,none,rfl⟩ (λi σ H' _ h=>SqT.of (h.1 _ _ ha)) ?_ ?_
   ·rintro i x σ H' gx ⟨sH,eg,u,rfl⟩;obtain⟨d,gd,rd⟩:=rs.back gx;have e1:=zCh gd;have e2:=zF8 l (i+1);rw[e1,List.length_append] at e2;refine⟨_,rfl,.inl ⟨rfl,_,SqL.of eg⟩,_,rfl,x,d,rfl,rd.to (.of sH),sh.2 d (List.mem_of_getElem? gd),by lia,λg2 H2 s2 hg2 eg2=>?_⟩;refine⟨g,g2,_,_,rfl,rfl,s2 _ _ eg,eg2,(by rw[List.length_map,List.length_map]; exact Nat.le_of_lt (zK (by lia))),(sH.trans s2).putNew hg,?_,_,rfl⟩;rw[e1,List.map_append];exact zA
   ·rintro σ H' ⟨sH,eg,u,rfl⟩;rw[rs.length,List.take_length] at eg;exact⟨_,rfl,q g H' sH hg (by rw[yM]; exact eg)⟩
theorem zGs(F:Fun K "words_of" "words_of" vF f fd)(Z:Zs mg)(bS:zAt K fd ["value"] [])(kS:PySem.W.keepIn K (.ref f)=true)(mS:mg "words_of" = some (.ref f)):xE P w K mg base CX0 5 f fd ["value"] (zAy K):=zH3 F Z bS kS mS 5
def rO(_:PySem.W.Frag):Sp:=λvs H Q _=>∃(v:V)(d:Dt),vs=[v]/\Rep H d v/\zAd 4 d/\(yM d).length<=100/\∀(H':Hp),Same H H'->Q (.str (zP4 d)) H'
theorem zCk(F:Fun K "written_row" "written_row" uC f fd)(Z:Zs mg)(CB:Cb P w mg base)(yBd:Has P w K mg base "words_of" 5 ["value"] (zAy K)):xE P w K mg base CX0 6 f fd ["deed"] (rO K):=by
 specialize rX
 ·obtain⟨v,d,rfl,_⟩:=h;rfl
 obtain⟨v,d,rfl,hd,sh,hl,q⟩:=h;have jl:=sP (sep:=Str.ofString " ") (by decide) (zA5 4 d sh);have gl:=zGz (Str.ofString " ") (yM d)
 refine'⟨_,(zC (yB 1 rX.nd (zJw PySem.F.plainAttrs_str PySem.F.slot_str_join PySem.F.type_str_join zEb zM ?_))
   (zF (zT (zT3 (pv 1))))),?_⟩
 nofun
 refine⟨rfl,_,rfl,v,d,rfl,hd,sh,by lia,λg H1 s1 hg eg=>?_⟩;refine⟨Str.ofString " ", g,yM d,rfl,rfl,SqL.of eg,by show _<=2^24; lia,?_⟩;exact⟨_,rfl,_,rfl,by lia,q H1 s1⟩
def zFt(_:PySem.W.Frag):Sp:=λvs H Q _=>∃(n:Int),vs=[.int n]/\∀ v:Int,0<=v->v<1000003->Q (.int v) H
theorem zMg(F:Fun K "_law_power" "_law_power" zA7 f fd)(Z:Zs mg):xE P w K mg base CX0 1 f fd ["_law_number"] (zFt K):=by
 specialize zMo
 ·obtain⟨n,rfl,_⟩:=h;rfl
 obtain⟨n,rfl,q⟩:=h
 refine'⟨_,(zF (zT ?_)),?_⟩
 nofun
 have h1:=Int.emod_nonneg n (show(1000003:Int)≠0 by decide);have h2:=Int.emod_lt_of_pos n (show(0:Int)<1000003 by decide);exists _,rfl,_,_,rfl,rfl,(by show(0:Int)<1000003; decide),_,_,rfl,rfl,⟨by decide,by decide,by lia⟩,_,_,rfl,rfl,(by show(0:Int)<1000003; decide);exact q _ (Int.emod_nonneg _ (by decide)) (Int.emod_lt_of_pos _ (by decide))
def zF3(K:PySem.W.Frag):Sp:=λvs H Q _=>∃(a:Addr)(ns:List Int)(many:Int),vs=[.ref a,.int many]/\SqL K H a (ns.map V.int)/\ns.length<=63/\0<=many/\many<=500 /\
 ∀(r:Addr)(rows:List Int)(H':Hp),Same H H'->H r=none->H' r=some (.lst (rows.map V.int))->many<=rows.length->rows.length<=600->(∀ x∈rows,0<=x/\x<1000003)->Q (.ref r) H'
structure zEm(H:Hp)(r c:Addr)(ms:List Int)(H':Hp)(rows:List Int):Prop where
 same:Same H H'
 src:H' c=some (.lst (ms.map V.int))
 at':H' r=some (.lst (rows.map V.int))
 bd:∀ x∈rows,0<=x/\x<1000003
theorem zEm.app{H H':Hp}{r c:Addr}{ms rows:List Int}{v:Int}(d:zEm H r c ms H' rows)(hr:H r=none)(hrc:c≠r)(h0:0<=v)(h1:v<1000003):zEm H r c ms (upd H' r (.lst (rows.map V.int++[.int v]))) (rows++[v]):=by
 refine⟨λb o e=>?_,?_,?_,λx hx=>?_⟩
 ·rw[zD (zG e hr)];exact d.same b o e
 ·rw[zD hrc];exact d.src
 ·rw[zA,List.map_append];rfl
 ·rcases List.mem_append.mp hx with e | e
  ·exact d.bd x e
  ·rw[List.mem_singleton] at e;rw[e];exact⟨h0,h1⟩
theorem cutR{ok:Int->Hp->Prop}{G:Prop}{R:Int->Hp->Prop}(h1:(∀ m H,ok m H->R m H)->G)(h2:∀ m H,ok m H->R m H):G:=h1 h2
theorem zMc(F:Fun K "_law_draws" "_law_draws" zA2 f fd)(Z:Zs mg)(CB:Cb P w mg base)(yBp:Has P w K mg base "_law_power" 1 ["_law_number"] (zFt K)):xE P w K mg base CX0 2 f fd ["_law_script", "_law_many"] (zF3 K):=by
 specialize xV
 ·obtain⟨a,ns,many,rfl,_⟩:=h;rfl
 obtain⟨a,ns,many,rfl,hS,hl,hm0,hm1,q⟩:=h
 refine'⟨_,(zC (yB 2 xV.nd ?_)
   (zC (yB 3 xV.nd xY)
   (zC (uH PassesOwn.never rfl (zUh ?_) (vG 4 xV.nd) (zC (yB 3 xV.nd ?_)
   (zC (yB 5 xV.nd ?_)
   (zC (yR ?_ (zC (zS (rZ (pv 2) ?_))
   (zF (yB 5 xV.nd xY))) zZ)
   (zF (zLw PassesOwn.never ?_ (zC (zS (rZ (pv 2) ?_))
   (zF (yB 5 xV.nd ?_)))))))))
   (zC (zLw PassesOwn.never ?_ (zC (yB 3 xV.nd ?_)
   (zF (zS (rZ (pv 2) ?_)))))
   (zF (zT (pv 2))))))),?_⟩
 nofun
 refine⟨sz0,λr hr0=>?_⟩;have S1:=zB hr0 (.lst []);refine⟨_,rfl,_,rfl,a,_,rfl,S1.seq hS,λc hc=>⟨c,rfl,⟨_,SqL.of zA⟩,?_⟩⟩;rw[qA];generalize hms:((ns.drop (HT.sIx ns.length 0 none)).take (HT.sIx ns.length ns.length (some 63)-HT.sIx ns.length 0 none))=ms;have hml:ms.length<=63:=by
  rw[<- hms,List.length_take,List.length_drop];lia
 have hcr:c≠r:=λe=>by
  rw[e,zA] at hc;cases hc
 have hc0:H c=none:=S1.free hc;refine zGk (K:=K) (a:=c) (xs:=ms.map V.int) (λi σ H'=>∃(rows:List Int)(mix:Int)(u v:Option V),σ=[some (.ref a),some (.int many),some (.ref r),some (.int mix),u,v]/\zEm H r c ms H' rows/\0<=mix/\mix<2147483647/\rows.length<=many.toNat+i)
  ⟨[],7,none,none,rfl,⟨S1.trans (zB hc _),zA,by rw[zD (Ne.symm hcr),zA]; rfl,λx hx=>nomatch hx⟩,by decide,by decide,Nat.zero_le _⟩ (λi σ H' _ ⟨_,_,_,_,_,d,_⟩=>SqL.of d.src) ?_ ?_
 ·rintro i x σ H' hi ⟨rows,mix,u,v,rfl,d,hx0,hx1,hrl⟩;obtain⟨n,hn,rfl⟩:=zBt hi;have hi63:i<63:=Nat.lt_of_lt_of_le (List.getElem?_eq_some_iff.mp hn).1 hml;exists _,rfl,_,_,rfl,rfl,.inr ⟨by decide,by decide⟩,_,rfl,_,_,rfl,rfl,_,_,rfl,rfl,(by show(0:Int)<2147483647; decide);have m0:=Int.emod_nonneg (mix*48271+n) (show(2147483647:Int)≠0 by decide);have m1:=Int.emod_lt_of_pos (mix*48271+n) (show(0:Int)<2147483647 by decide);exists _,rfl,n,rfl;have a0:0<=(if n<0 then -n else n):=by split <;> lia
  generalize (if n<0 then -n else n)=rest at a0 ⊢;revert H' rest;apply cutR (ok:=λrest H2=>0<=rest/\∃ rows,zEm H r c ms H2 rows/\rows.length<=many.toNat+(i+1))
  ·intro main H' d rest a0;exists _,rfl,_,_,rfl,rfl,⟨by decide,by decide,by decide⟩,_,_,rfl,rfl,_,rfl;refine ifD (λhsm=>?_) (λhsm=>?_);rotate_left
   ·exact main rest H' ⟨a0,rows,d,by lia⟩
   ·refine⟨_,rfl,.inl ⟨rfl,_,SqL.of d.at'⟩,_,rfl,_,rfl,r,_,rfl,.inl (SqL.of d.at'),_,_,rfl,rfl,.inl ⟨by decide,by decide⟩,_,_,rfl,rfl,_,rfl,λv v0 v1=>?_⟩;exists r,_,_,rfl,rfl,d.at',zK (by rw[List.length_map]; lia);exact main 0 _ ⟨Int.le_refl 0,_,d.app hr0 hcr v0 v1,by rw[List.length_append,List.length_singleton]; lia⟩
  clear hrl rows;rintro rest H' ⟨j0,rows,j1,j2⟩;refine zLh (λσ H2=>∃(rows:List Int)(rest:Int),σ=[some (.ref a),some (.int many),some (.ref r),some (.int ((mix*48271+n)%2147483647)),some (.int n),some (.int rest)]/\0<=rest/\zEm H r c ms H2 rows/\rows.length<=many.toNat+(i+1))
   (λσ _=>match σ with | [_,_,_,_,_,some (.int z)]=>z.toNat | _=>0) ⟨_,_,rfl,j0,j1,j2⟩ ?_ (zVi (zJv (zUe zTu zIg mo_c)) (zJv (zUe zTu (zW5 zSw (zOz zIg zS1)) zIg)))
  rintro σ H2 ⟨rows,rest,rfl,r0,d2,l2⟩;exists _,rfl,_,_,rfl,rfl,_,rfl;refine ifD (λhpos=>?_) (λhpos=>?_)
  ·exists _,rfl,r,_,rfl,.inl (SqL.of d2.at'),_,rfl,_,_,rfl,rfl,_,rfl;refine ifD (λhlt=>?_) (λhlt=>?_)
   ·have hlt':((rows.map V.int).length:Int)<many:=hlt;rw[List.length_map] at hlt';exists _,rfl,.inl ⟨rfl,_,SqL.of d2.at'⟩,_,rfl,_,_,rfl,rfl,(by show(0:Int)<1000003; decide),r,_,_,rfl,rfl,d2.at',zK (by rw[List.length_map]; lia);have v0:=Int.emod_nonneg rest (show(1000003:Int)≠0 by decide);have v1:=Int.emod_lt_of_pos rest (show(0:Int)<1000003 by decide);exists _,rfl,_,_,rfl,rfl,zE7.of (by decide) (by decide +kernel),⟨rows++[rest%1000003],_,rfl,by lia,d2.app hr0 hcr v0 v1,by rw[List.length_append,List.length_singleton]; lia⟩;show(rest/1000003).toNat<rest.toNat;lia
   ·exact⟨rows,_,_,_,rfl,d2,m0,m1,l2⟩
  ·exact⟨rows,_,_,_,rfl,d2,m0,m1,l2⟩
 ·rintro σ H' ⟨rows,mix,u,v,rfl,d,hx0,hx1,hrl⟩;rw[List.length_map] at hrl;refine zLh (λσ H2=>∃(rows:List Int)(mix:Int),σ=[some (.ref a),some (.int many),some (.ref r),some (.int mix),u,v]/\zEm H r c ms H2 rows/\0<=mix/\mix<2147483647/\rows.length<=many.toNat+63/\H2 r=some (.lst (rows.map V.int)))
   (λσ H2=>match H2 r with | some (.lst xs)=>many.toNat-xs.length | _=>0) ⟨rows,mix,rfl,d,hx0,hx1,by lia,d.at'⟩ ?_ (zJv (zUe zTu (zW5 zSw (zOz zIg zS1)) zIg))
  rintro σ H2 ⟨rows,mix,rfl,d2,hx0,hx1,l2,ha2⟩;exists _,rfl,r,_,rfl,.inl (SqL.of d2.at'),_,rfl,_,_,rfl,rfl,_,rfl;refine ifD (λhlt=>?_) (λhlt=>?_)
  ·have hlt':((rows.map V.int).length:Int)<many:=hlt;rw[List.length_map] at hlt';exists _,rfl,_,_,rfl,rfl,.inr ⟨by decide,by decide⟩,_,_,rfl,rfl,_,_,rfl,rfl,(by show(0:Int)<2147483647; decide);have m0:=Int.emod_nonneg (mix*48271+11) (show(2147483647:Int)≠0 by decide);have m1:=Int.emod_lt_of_pos (mix*48271+11) (show(0:Int)<2147483647 by decide);refine⟨_,rfl,.inl ⟨rfl,_,SqL.of d2.at'⟩,_,rfl,_,rfl,λv v0 v1=>?_⟩;exists r,_,_,rfl,rfl,d2.at',zK (by rw[List.length_map]; lia),⟨rows++[v],_,rfl,d2.app hr0 hcr v0 v1,m0,m1,by rw[List.length_append,List.length_singleton]; lia,(d2.app hr0 hcr v0 v1).at'⟩;rw[ha2,zA];show many.toNat-(rows.map V.int++[V.int v]).length<many.toNat-(rows.map V.int).length;rw[List.length_append,List.length_map,List.length_singleton];lia
  ·have hlt':¬ ((rows.map V.int).length:Int)<many:=hlt;rw[List.length_map] at hlt';exact⟨_,rfl,q r rows H2 d2.same hr0 d2.at' (by lia) (by lia) d2.bd⟩
def zGe(K:PySem.W.Frag):Sp:=λvs H Q _=>∃(a:Addr)(rows:List Int)(many:Nat),vs=[.ref a,.int many]/\SqL K H a (rows.map V.int)/\many<=rows.length/\many<=25/\(∀ x∈rows,0<=x/\x<1000003) /\
 ∀(r:Addr)(ns:List Str)(H':Hp),Same H H'->H r=none->H' r=some (.lst (ns.map V.str))->ns.length=many->(∀ n∈ns,sN n)->ns.Nodup->Q (.ref r) H'
theorem zM1(F:Fun K "_law_names" "_law_names" zA9 f fd)(Z:Zs mg)(CB:Cb P w mg base)  : xE P w K mg base CX0 1 f fd ["_law_some", "_law_many"] (zGe K):=by
 specialize xA
 ·obtain⟨a,rows,many,rfl,_⟩:=h;rfl
 obtain⟨a,rows,many,rfl,ha,h1,h2,bd,q⟩:=h
 refine'⟨_,(zC (yB 2 xA.nd zM)
   (zC (yB 3 xA.nd ?_)
   (zC (uH PassesOwn.never rfl (wD rfl Z.range (zH (pv 1) zO)) (vG 4 xA.nd) (zC (yB 5 xA.nd ?_)
   (zC (yB 6 xA.nd ?_)
   (zC (yB 7 xA.nd ?_)
   (zC (yB 8 xA.nd (zJw PySem.F.plainAttrs_str PySem.F.slot_str_join PySem.F.type_str_join zEb zM (zH (uL (T:=["_law_k"]) (caps:=[("_law_letters", 2),("_law_raw", 5),("_law_step", 7)]) ⟨rfl,by decide +kernel,by decide +kernel,rfl,⟨⟨rfl,rfl,Or.inl rfl⟩,⟨rfl,rfl,Or.inl rfl⟩,⟨rfl,rfl,Or.inl rfl⟩,True.intro⟩⟩ rfl (wD rfl Z.range (zH (pv 6) zO)) (λ_=>(vG 0 (show(["_law_k", "_law_letters", "_law_raw", "_law_step"]:List Str).Nodup by decide +kernel))) (λ_=>xH) (λ_=>(zRc zS8 (pv 1) ?_ (λ_ _=>rfl)))) zO)))
   (zC (yB 9 xA.nd ?_)
   (zC (uH PassesOwn.never rfl (wD rfl Z.range (zH xY zO)) (vG 10 xA.nd) (zF (yR (yO zIm (pv 8) (pv 3) (by with_unfolding_all rfl)) (zC (yB 11 xA.nd (zRc zS8 (pv 2) ?_ (λ_ _=>rfl)))
   (zF (yB 8 xA.nd (uG zBs (uG zBs (wY zR8 (pv 8) vO (uJ (pv 9))) (pv 11)) (wY zR8 (pv 8) (uJ ?_) vO))))) zZ)))
   (zF (zS (rZ (pv 3) (zH (pv 8) zO)))))))))))
   (zF (zT (pv 3)))))),?_⟩
 nofun
 refine⟨sz0,λr hr0=>?_⟩;have s0:=zB hr0 (.lst []);refine⟨_,rfl,_,rfl,by lia,by lia,vH (lo:=0) (n:=((many:Nat):Int).toNat) (λi σ H'=>∃ ns:List Str,Same H H'/\H' r=some (.lst (ns.map V.str))/\ns.length=i/\(∀ n∈ns,sN n)/\ns.Nodup /\
   ∃ u4 u5 u6 u7 u8 u9 u10 u11:Option V,σ=[some (.ref a),some (.int many),some (.str abc),some (.ref r),u4,u5,u6,u7,u8,u9,u10,u11])
  ⟨[],s0,zA,rfl,(λ_ z=>nomatch z),List.nodup_nil,none,none,none,none,none,none,none,none,rfl⟩ ?_ ?_⟩
 ·rintro i σ H1 hi ⟨ns,s1,er,ln,okn,nd,u4,u5,u6,u7,u8,u9,u10,u11,rfl⟩;rw[Int.toNat_natCast] at hi;obtain⟨x,ax,x0,x1⟩:=yQ bd (k:=(0:Int)+i) (by lia) (by lia);exists _,rfl,_,rfl,a,_,_,_,rfl,rfl,.inl (s1.seq ha),ax;exists _,rfl,_,_,rfl,rfl,(by show(0:Int)<8; decide),_,_,rfl,rfl;exists _,rfl,_,_,rfl,rfl,zE7.of (by decide) (by decide +kernel),_,_,rfl,rfl,gt5;have z0:0<=x%8:=Int.emod_nonneg _ (by decide);have z1:x%8<8:=Int.emod_lt_of_pos _ (by decide);have t0:0<=x/8%5:=Int.emod_nonneg _ (by decide);have t1:x/8%5<5:=Int.emod_lt_of_pos _ (by decide);obtain⟨sz,esz⟩:∃ n:Nat,1+x%8=(n:Int):=⟨(1+x%8).toNat,by lia⟩;have w1:1<=sz:=by lia
  have w8:sz<=8:=by lia
  refine⟨rfl,_,rfl,_,rfl,by lia,by lia,λc D hD=>?_⟩;have sD:=zB hD (.lst []);refine zAv (lo:=0) (n:=(1+x%8).toNat) (λj σ zs H'=>Same H1 H'/\H' D=some (.lst zs)/\∃ l:List Nat,zs=(l.map chS).map V.str/\l.length=j/\(∀ c∈l,97<=c/\c<=122)/\∃ u0:Option V,σ=[u0,some (.str abc),some (.int x),some (.int (x/8%5))])
   ⟨sD,zA,[],rfl,rfl,(λ_ z=>nomatch z),none,rfl⟩ (λj σ zs H' _ ⟨_,e,_⟩=>e) ?_ ?_
  ·rintro j σ zs H' hj ⟨sH,eD,l,rfl,lj,lc,u0,rfl⟩;have m0:0<=(x/40+((0:Int)+j)*(x/8%5))%26:=Int.emod_nonneg _ (by decide);have m1:(x/40+((0:Int)+j)*(x/8%5))%26<26:=Int.emod_lt_of_pos _ (by decide);exists _,rfl,_,rfl,_,_,rfl,rfl,zE7.of (by decide) (by decide +kernel),_,rfl,_,rfl,_,_,rfl,rfl,zFh (by lia),_,_,rfl,rfl,_,_,rfl,rfl,(by show(0:Int)<26; decide),abc,_,_,rfl,rfl,(by decide),zS3 m0 m1;refine⟨eD,zK (by rw[List.length_map,List.length_map]; lia),sH.putNew hD,zA,l++[97+((x/40+((0:Int)+j)*(x/8%5))%26).toNat],?_,by rw[List.length_append,lj]; rfl,λc hc=>?_,_,rfl⟩
   ·rw[List.map_append,List.map_append];rfl
   ·rcases List.mem_append.mp hc with hc | hc
    ·exact lc c hc
    ·rw[List.mem_singleton] at hc;lia
  ·rintro σ zs H2 ⟨s2,eD,l,rfl,lj,lc,u0,rfl⟩;have s12:=s1.trans s2;have er2:=s2 _ _ er;have ll:l.length=sz:=by lia
   refine⟨"", D,l.map chS,rfl,rfl,SqL.of eD,by rw[zMv,ll]; exact Nat.le_trans w8 (by decide),?_⟩;rw[zQc];obtain⟨pl,epl⟩:∃ n:Nat,x/7%(1+x%8)=(n:Int):=⟨(x/7%(1+x%8)).toNat,by rw[Int.toNat_of_nonneg (Int.emod_nonneg _ (by lia))]⟩;have plt:pl<l.length:=by
    have:=Int.emod_lt_of_pos (x/7) (show 0<1+x%8 by lia);lia
   exists _,rfl,_,_,rfl,rfl,zE7.of (by decide) (by decide +kernel),_,rfl,_,_,rfl,rfl,(by show(0:Int)<1+x%8; lia);obtain⟨xn,exn⟩:∃ n:Nat,x=(n:Int):=⟨x.toNat,by lia⟩;refine⟨26,rfl,by decide,by decide,vH (lo:=0) (n:=26) (λk σ H'=>H'=H2/\∃ m:List Nat,(txt m ∉ ns\/((k=0\/∃ j,j+1=k/\m=l.set pl (97+(xn+j)%26))/\∀ j,j+1<k->txt (l.set pl (97+(xn+j)%26))∈ns))/\m.length=l.length/\(∀ c,m.set pl c=l.set pl c)/\(∀ c∈m,97<=c/\c<=122) /\
     ∃ u10 u11:Option V,σ=[some (.ref a),some (.int many),some (.str abc),some (.ref r),some (.int (0+i)),some (.int x),some (.int (1+x%8)),some (.int (x/8%5)),some (.str (txt m)),some (.int (x/7%(1+x%8))),u10,u11])
    ⟨rfl,l,.inr ⟨.inl rfl,λj hj=>absurd hj (Nat.not_lt_zero _)⟩,rfl,λ_=>rfl,lc,u10,u11,rfl⟩ ?_ ?_⟩
   ·rintro k σ H' hk ⟨rfl,m,hm,lm,hset,mc,v10,v11,rfl⟩;exists _,rfl,_,rfl,r,_,rfl,.inl (SqL.of er2),rfl,zOt ns,_,rfl;show if inV (.str (txt m)) (ns.map V.str)=true then _ else _
    rw[zUt];refine ifD (λhin=>?_) (λhin=>?_)
    ·have b0:0<=(x+((0:Int)+k))%26:=Int.emod_nonneg _ (by decide);have b1:(x+((0:Int)+k))%26<26:=Int.emod_lt_of_pos _ (by decide);exists _,rfl,_,rfl,_,rfl,_,_,rfl,rfl,_,_,rfl,rfl,(by show(0:Int)<26; decide),abc,_,_,rfl,rfl,(by decide),zS3 b0 b1;have lz:(txt m).length<=sizeLine:=by rw[rL,lm,ll]; exact Nat.le_trans w8 (by decide)
     have es:(97+((x+((0:Int)+k))%26).toNat)=97+(xn+k)%26:=by lia
     have c1:Txt.slice (txt m) none (some (x/7%(1+x%8)))++chS (97+((x+((0:Int)+k))%26).toNat)++Txt.slice (txt m) (some (x/7%(1+x%8)+1)) none=txt (l.set pl (97+(xn+k)%26)):=by
      rw[epl,zRz (by lia),es,hset]
     refine⟨_,rfl,_,rfl,_,rfl,txt m,rfl,lz,_,rfl,_,_,rfl,rfl,?_,_,rfl,_,rfl,_,_,rfl,rfl,_,rfl,txt m,rfl,lz,_,_,rfl,rfl,?_,?_⟩
     ·exact Nat.le_trans (Nat.add_le_add (Txt.slice_le _ _ _) (Nat.le_refl 1)) (by rw[rL,lm,ll]; exact Nat.le_trans (Nat.add_le_add_right w8 1) (by decide))
     ·rw[strLen_append];exact Nat.le_trans (Nat.add_le_add (Nat.add_le_add (Txt.slice_le _ _ _) (Nat.le_refl 1)) (Txt.slice_le _ _ _)) (by rw[rL,lm,ll]; exact Nat.le_trans (Nat.add_le_add (Nat.add_le_add_right w8 1) w8) (by decide))
     ·refine⟨rfl,l.set pl (97+(xn+k)%26),.inr ⟨.inr ⟨k,rfl,rfl⟩,λj hj=>?_⟩,List.length_set,λc=>List.set_set _,λc hc=>?_,_,_,by rw[<- c1]; rfl⟩
      ·rcases hm with hm | ⟨hm,hall⟩
       ·exact absurd hin hm
       ·by_cases e:j+1=k
        ·rcases hm with hm | ⟨j0,e0,rfl⟩
         ·lia
         ·rw[show j=j0 by lia];exact hin
        ·exact hall j (by lia)
      ·rcases List.mem_or_eq_of_mem_set hc with hc | hc
       ·exact lc c hc
       ·lia
    ·exact⟨rfl,m,.inl hin,lm,hset,mc,_,_,rfl⟩
   ·rintro σ H' ⟨rfl,m,hm,lm,hset,mc,v10,v11,rfl⟩;have out:txt m ∉ ns:=by
     rcases hm with hm | ⟨hm,hall⟩
     ·exact hm
     ·intro hin;refine zUg (l:=l) (p:=pl) (r:=xn) plt (ws:=ns) (by lia) λj hj=>?_;by_cases e:j+1<26
      ·exact hall j e
      ·rcases hm with hm | ⟨j0,e0,rfl⟩
       ·lia
       ·rw[show j=j0 by lia];exact hin
    exists _,rfl,.inl ⟨rfl,_,SqL.of er2⟩,_,rfl,r,_,_,rfl,rfl,er2,zK (by rw[List.length_map]; lia);refine⟨ns++[txt m],s12.putNew hr0,?_,by rw[List.length_append,ln]; rfl,λn hn=>?_,?_,_,_,_,_,_,_,_,_,rfl⟩
    ·rw[zA,List.map_append];rfl
    ·rcases List.mem_append.mp hn with hn | hn
     ·exact okn n hn
     ·rw[List.mem_singleton] at hn;rw[hn];exact zM5 (by lia) (by lia) mc
    ·refine List.nodup_append.mpr ⟨nd,by simp,λx hx y hy=>?_⟩;rw[List.mem_singleton] at hy;rw[hy];exact λz=>out (z ▸ hx)
 ·rintro σ H1 ⟨ns,s1,er,ln,okn,nd,u4,u5,u6,u7,u8,u9,u10,u11,rfl⟩;exact⟨_,rfl,q r ns H1 s1 hr0 er (by rw[ln,Int.toNat_natCast]) okn nd⟩
def zG3(_:PySem.W.Frag):Sp:=λvs H Q _=>vs=[]/\∀(d m b r n:Addr)(H':Hp),Same H H'->H d=none->H m=none->H r=none->H' d=some (.dK (lwK m b r n 1))->H' m=some (.dK [])->H' b=some (.dK [])->H' r=some (.lst [])->H' n=some (.dK [])->b≠m->n≠m->Q (.ref d) H'
theorem zQb(F:Fun K "_law_new" "_law_new" zHi f fd)(Z:Zs mg)(CB:Cb P w mg base)  : xE P w K mg base CX0 1 f fd [] (zG3 K):=by
 specialize zQk
 ·obtain⟨rfl,_⟩:=h;rfl
 obtain⟨rfl,q⟩:=h
 refine'⟨_,zF ?h,?_⟩
 rotate_left
 with_reducible refine' zT ?_
 rotate_left
 with_reducible exact zJ5 (xW zM tU (xW zM tU (xW zM (zSg zO) (xW zM tU (xW zM xY zKd))))) rfl rfl (λz=>nomatch z) (by decide)
 try dsimp only[L2.cxOf]
 intro p hp m hm b hb;refine⟨sz0,λr hr n hn=>?_⟩;have s1:=zB hp (.dK []);have s2:=zB hm (.dK []);have s3:=zB hb (.dK []);have s4:=zB hr (.lst []);have s5:=zB hn (.dK []);have em:=(s3.trans (s4.trans s5)) _ _ zA;have eb:=(s4.trans s5) _ _ zA;have er:=s5 _ _ zA;have ep:=(s2.trans (s3.trans (s4.trans s5))) _ _ zA;exists ep,[(.inr "marks", .ref m),(.inr "banks", .ref b),(.inr "runs", .ref r),(.inr "notes", .ref n),(.inr "next", .int 1)],rfl,(show 5<=15 by decide);rw[zQ1];have ne:∀{x:Addr},(upd H p (.dK [])) x=none->x≠p:=λ{x} h z=>by rw[z,zA] at h; cases h
 have nb:=ne (s2.free hb);have nr:=ne (s2.free (s3.free hr));have nn:=ne (s2.free (s3.free (s4.free hn)));refine q p m b r n _ (λc o e=>?_) hp (s1.free hm) (s1.free (s2.free (s3.free hr))) zA ?_ ?_ ?_ ?_ (λz=>by rw[z,zA] at hb; cases hb) (λz=>by have:=s3.free (s4.free hn); rw[z,zA] at this; cases this)
 ·rw[zD (zG e hp)];exact(s1.trans (s2.trans (s3.trans (s4.trans s5)))) c o e
 ·rw[zD (ne hm)]; exact em
 ·rw[zD nb]; exact eb
 ·rw[zD nr]; exact er
 ·rw[zD nn]; exact zA
def zKz(_:PySem.W.Frag):Sp:=λvs H Q _=>∃(o t wd:Int),vs=[.int o,.int t,.int wd]/\1<=wd/\wd<=1000000 /\
 ∀(p:Addr)(x y:Int)(H':Hp),Same H H'->H p=none->H' p=some (.tup [.int x,.int y])->(x≠0\/y≠0)->x.natAbs<=wd.natAbs->y.natAbs<=wd.natAbs->Q (.ref p) H'
theorem zRp(F:Fun K "_law_way" "_law_way" zGi f fd)(Z:Zs mg)(CB:Cb P w mg base)  : xE P w K mg base CX0 1 f fd ["_law_one", "_law_two", "_law_wide"] (zKz K):=by
 specialize zC6
 ·obtain⟨o,t,wd,rfl,_⟩:=h;rfl
 obtain⟨o,t,wd,rfl,w1,w2,q⟩:=h
 refine'⟨_,(zC (yB 3 zC6.nd ?_)
   (zC (yB 4 zC6.nd ?_)
   (zC (yR ?_ (zF (yB 3 zC6.nd ?_)) zZ)
   (zF (zT ?_))))),?_⟩
 nofun
 have x0:=Int.emod_nonneg o (show 2*wd+1≠0 by lia);have x1:=Int.emod_lt_of_pos o (show 0<2*wd+1 by lia);have y0:=Int.emod_nonneg t (show 2*wd+1≠0 by lia);have y1:=Int.emod_lt_of_pos t (show 0<2*wd+1 by lia);exists _,rfl,_,rfl,_,_,rfl,rfl,.inl ⟨by decide,by decide⟩,_,_,rfl,rfl,_,_,rfl,rfl,(by show 0<2*wd+1; lia),_,rfl,_,_,rfl,rfl;exists _,rfl,_,rfl,_,_,rfl,rfl,.inl ⟨by decide,by decide⟩,_,_,rfl,rfl,_,_,rfl,rfl,(by show 0<2*wd+1; lia),_,rfl,_,_,rfl,rfl;exists _,rfl,rfl,_,rfl;refine ifE (λhx=>?_) (λhx=>?_)
 ·exists _,rfl,rfl,_,rfl;refine ifE (λhy=>?_) (λhy=>?_)
  ·exists _,rfl,_,_,rfl,rfl,gt2,_,_,rfl,rfl,.inl ⟨by decide,by decide⟩,_,_,rfl,rfl;refine⟨_,rfl,_,rfl,sz2,λp hp=>?_⟩;exact q p _ _ _ (zB hp _) hp zA (by left; lia) (by lia) (by lia)
  ·refine⟨_,rfl,_,rfl,sz2,λp hp=>?_⟩;exact q p _ _ _ (zB hp _) hp zA (.inr hy) (by lia) (by lia)
 ·refine xP ?_;refine⟨_,rfl,_,rfl,sz2,λp hp=>?_⟩;exact q p _ _ _ (zB hp _) hp zA (.inl hx) (by lia) (by lia)
def zDu(K:PySem.W.Frag):Sp:=λvs H Q _=>∃(a b:Addr)(us ws:List V)(x1 y1 x2 y2:Int),vs=[.ref a,.ref b]/\Sq K H a us/\Sq K H b ws/\atI us 0=some (.int x1)/\atI us 1=some (.int y1)/\atI ws 0=some (.int x2)/\atI ws 1=some (.int y2) /\
 x1.natAbs<=10^18/\y1.natAbs<=10^18/\Q (.int (x1*y2-y1*x2)) H
theorem zKs(F:Fun K "_law_turned" "_law_turned" zAb f fd)(Z:Zs mg)(CB:Cb P w mg base)  : xE P w K mg base CX0 1 f fd ["_law_one", "_law_other"] (zDu K):=by
 specialize zKj
 ·obtain⟨a,b,us,ws,x1,y1,x2,y2,rfl,_⟩:=h;rfl
 obtain⟨a,b,us,ws,x1,y1,x2,y2,rfl,ha,hb,u0,u1,w0,w1,m1,m2,q⟩:=h
 refine'⟨_,(zF (zT ?_)),?_⟩
 nofun
 exact⟨_,rfl,a,_,_,.int x1,rfl,rfl,ha,u0,_,rfl,b,_,_,.int y2,rfl,rfl,hb,w1,_,_,rfl,rfl,zFh (by lia),
  _,rfl,a,_,_,.int y1,rfl,rfl,ha,u1,_,rfl,b,_,_,.int x2,rfl,rfl,hb,w0,_,_,rfl,rfl,zFh (by lia),_,_,rfl,rfl,q⟩
def vA(K:PySem.W.Frag):Sp:=λvs H Q _=>∃(a:Addr)(rows:List Int)(wd:Int),vs=[.ref a,.int wd]/\SqL K H a (rows.map V.int)/\5<=rows.length/\(∀ x∈rows,0<=x/\x<1000003)/\1<=wd/\wd<=100 /\
 ∀(t p r:Addr)(A0 A1 B0 B1:Int)(H':Hp),Same H H'->H' t=some (.tup [.ref p,.ref r])->H' p=some (.tup [.int A0,.int A1])->H' r=some (.tup [.int B0,.int B1])->0<A0*B1-A1*B0->A0.natAbs<=wd.natAbs->A1.natAbs<=wd.natAbs->B0.natAbs<=wd.natAbs->B1.natAbs<=wd.natAbs->Q (.ref t) H'
theorem zFi(F:Fun K "_law_left_pair" "_law_left_pair" vY f fd)(Z:Zs mg)(CB:Cb P w mg base)(yBk:Has P w K mg base "_law_turned" 1 ["_law_one", "_law_other"] (zDu K))(yBv:Has P w K mg base "_law_way" 1 ["_law_one", "_law_two", "_law_wide"] (zKz K)):xE P w K mg base CX0 2 f fd ["_law_d", "_law_wide"] (vA K):=by
 specialize xL
 ·obtain⟨a,rows,wd,rfl,_⟩:=h;rfl
 obtain⟨a,rows,wd,rfl,hS,hl,bd,w1,w2,q⟩:=h
 refine'⟨_,(zC (yB 2 xL.nd ?_)
   (zC (yB 3 xL.nd ?_)
   (zC (yR ?_ (zF (yB 3 xL.nd ?_)) zZ)
   (zC (yR ?_ (zF (zI2 (i:=2) (j:=3) rfl xL.nd rfl rfl (by decide) rfl rfl (zH (pv 3) (zH (pv 2) zO)) rfl)) zZ)
   (zC (yR ?_ (zF (yB 3 xL.nd ?_)) zZ)
   (zF (zT ?_))))))),?_⟩
 nofun
 obtain⟨v0,a0,_⟩:=yQ bd (k:=0) (by decide) (by lia);obtain⟨v1,a1,_⟩:=yQ bd (k:=1) (by decide) (by lia);obtain⟨v2,a2,_⟩:=yQ bd (k:=2) (by decide) (by lia);obtain⟨v3,a3,_⟩:=yQ bd (k:=3) (by decide) (by lia);obtain⟨v4,a4,_⟩:=yQ bd (k:=4) (by decide) (by lia);refine⟨_,rfl,a,_,_,_,rfl,rfl,.inl hS,a0,_,rfl,a,_,_,_,rfl,rfl,.inl hS,a1,_,rfl,v0,v1,wd,rfl,w1,by lia,λp1 x1 y1 H2 s2 hp1 e1' n1 m1 m2=>?_⟩;have wb:wd.natAbs<=10^18:=by lia
 have k1:x1.natAbs<=wd.natAbs:=by lia
 have k2:y1.natAbs<=wd.natAbs:=by lia
 clear m1 m2;apply cut4 (ok:=λO X Y G=>Same H G/\G p1=some (.tup [.int x1,.int y1])/\G O=some (.tup [.int X,.int Y])/\X.natAbs<=wd.natAbs/\Y.natAbs<=wd.natAbs)
 ·intro main;refine⟨_,rfl,a,_,_,_,rfl,rfl,.inl (s2.seq hS),a2,_,rfl,a,_,_,_,rfl,rfl,.inl (s2.seq hS),a3,_,rfl,v2,v3,wd,rfl,w1,by lia,λp2 x2 y2 H3 s3 hp2 e3 n2 m3 m4=>?_⟩;have s23:=s2.trans s3;have e13:=s3 _ _ e1';exists _,rfl,a,_,_,_,rfl,rfl,.inl (s23.seq hS),a4,_,_,rfl,rfl,gt4,rfl,_,rfl;refine ifE (λ_=>?_) (λ_=>?_);rotate_left
  ·exact main p2 x2 y2 H3 ⟨s23,e13,e3,by lia,by lia⟩
  ·refine⟨_,rfl,p1,_,_,.int y1,rfl,rfl,.inr (SqT.of e13),rfl,_,rfl,_,rfl,p1,_,_,.int x1,rfl,rfl,.inr (SqT.of e13),rfl,sz2,λd hd=>?_⟩;have sd:=zB hd (.tup [.int (-y1),.int x1]);exact main d (-y1) x1 _ ⟨s23.trans sd,sd _ _ e13,zA,by rw[Int.natAbs_neg]; exact k2,k1⟩
 rintro O X Y G ⟨sH,e1,e2,k3,k4⟩;have f1:Sq K G p1 [.int x1,.int y1]:=.inr (SqT.of e1);have f2:Sq K G O [.int X,.int Y]:=.inr (SqT.of e2);have b1:x1.natAbs<=10^18:=Nat.le_trans k1 wb;have b2:y1.natAbs<=10^18:=Nat.le_trans k2 wb;exists _,rfl,_,rfl,p1,O,_,_,x1,y1,X,Y,rfl,f1,f2,rfl,rfl,rfl,rfl,b1,b2,_,_,rfl,rfl,_,rfl;have eT:X*y1-Y*x1 = -(x1*Y-y1*X):=by rw[Int.mul_comm X y1,Int.mul_comm Y x1]; lia
 refine ifD (λhneg=>?_) (λhneg=>?_)
 ·exists _,rfl,_,rfl,_,_,rfl;exists _,rfl,_,rfl,O,p1,_,_,X,Y,x1,y1,rfl,f2,f1,rfl,rfl,rfl,rfl,Nat.le_trans k3 wb,Nat.le_trans k4 wb,rfl,_,rfl;refine ifE (λz=>absurd z (by clear k1 k2 k3 k4 b1 b2 w1 w2 wb hl; lia)) (λ_=>?_);refine⟨_,rfl,_,rfl,sz2,λt ht=>?_⟩;have st:=zB ht (.tup [.ref O,.ref p1]);exact q t O p1 X Y x1 y1 _ ((sH).trans st) zA (st _ _ e2) (st _ _ e1) (by clear k1 k2 k3 k4 b1 b2 w1 w2 wb hl; lia) k3 k4 k1 k2
 ·exists _,rfl,_,rfl,p1,O,_,_,x1,y1,X,Y,rfl,f1,f2,rfl,rfl,rfl,rfl,b1,b2,rfl,_,rfl;refine ifE (λhz=>?_) (λhz=>?_)
  ·refine⟨_,rfl,p1,_,_,.int y1,rfl,rfl,f1,rfl,_,rfl,_,rfl,p1,_,_,.int x1,rfl,rfl,f1,rfl,sz2,λd hd=>?_⟩;have sd:=zB hd (.tup [.int (-y1),.int x1]);refine⟨_,rfl,_,rfl,sz2,λt ht=>?_⟩;have st:=zB ht (.tup [.ref p1,.ref d]);have sp:=zXf n1;exact q t p1 d x1 y1 (-y1) x1 _ (sH.trans (sd.trans st)) zA (st _ _ (sd _ _ e1)) (st _ _ zA) (by rw[Int.mul_neg]; lia) k1 k2 (by rw[Int.natAbs_neg]; exact k2) k1
  ·refine⟨_,rfl,_,rfl,sz2,λt ht=>?_⟩;have st:=zB ht (.tup [.ref p1,.ref O]);exact q t p1 O x1 y1 X Y _ (sH.trans st) zA (st _ _ e1) (st _ _ e2) (by clear k1 k2 k3 k4 b1 b2 w1 w2 wb hl; lia) k1 k2 k3 k4
structure zSf(H0:Hp)(l:Addr)(ps:List Pr)(H:Hp):Prop where
 same:Same H0 H
 new:H0 l=none
 at':H l=some (.lst (zQ ps))
 all:zCg H 1000 ps
theorem zSf.on{H0 H H2:Hp}{l:Addr}{ps:List Pr}(P:zSf H0 l ps H)(s:Same H H2):zSf H0 l ps H2:=⟨P.same.trans s,P.new,s _ _ P.at',P.all.same s⟩
theorem zSf.app{H0 H:Hp}{l h:Addr}{ps:List Pr}{x y:Int}(P:zSf H0 l ps H)(eh:H h=some (.tup [.int x,.int y]))(hx:x.natAbs<=1000)(hy:y.natAbs<=1000) :
  zSf H0 l (ps++[(h,x,y)]) (upd H l (.lst (zQ ps++[.ref h])))/\upd H l (.lst (zQ ps++[.ref h])) h=some (.tup [.int x,.int y]):=by
 have k:∀(b:Addr)(xs:List V),H b=some (.tup xs)->upd H l (.lst (zQ ps++[.ref h])) b=some (.tup xs):=λb xs e=>by
  rw[zD (zCp e P.at' (by intro z; cases z))];exact e
 refine⟨⟨P.same.putNew P.new,P.new,by rw[zA,qZ] <;> rfl,λt ht=>?_⟩,k _ _ eh⟩;rcases List.mem_append.mp ht with h' | h'
 ·exact⟨k _ _ (P.all t h').1,(P.all t h').2⟩
 ·rw[List.mem_singleton] at h';subst h';exact⟨k _ _ eh,hx,hy⟩
theorem zXg(ps:List Pr)(k:Nat):rS (zQ ps) (some (k:Int)) none=zQ (ps.drop k)/\rS (zQ ps) none (some (k:Int))=zQ (ps.take k):=by
 refine⟨?_,zG8 ps k⟩;unfold rS;rw[HT.sIx_nat (zQ ps).length 0 k,show HT.sIx (zQ ps).length (zQ ps).length none=(zQ ps).length from rfl,List.take_of_length_le (by rw[List.length_drop] <;> lia)];rw[zU];simp only[zQ,<- List.map_drop]
 congr 2
 by_cases h:k<=ps.length
 ·rw[Nat.min_eq_left h]
 ·rw[Nat.min_eq_right (by lia),List.drop_length,List.drop_eq_nil_of_le (by lia)]
def zIh(K:PySem.W.Frag):Sp:=λvs H Q _=>∃(a:Addr)(rows:List Int)(wd:Int),vs=[.ref a,.int wd]/\SqL K H a (rows.map V.int)/\9<=rows.length/\(∀ x∈rows,0<=x/\x<1000003)/\1<=wd/\wd<=30 /\
 ∀(l:Addr)(qs:List Pr)(H':Hp),Same H H'->H l=none->H' l=some (.lst (zQ qs))->zCg H' 1000 qs->zOo (qs.map (·.2))->Q (.ref l) H'
theorem zP0(F:Fun K "_law_bank" "_law_bank" zDg f fd)(Z:Zs mg)(CB:Cb P w mg base)(yBa:Has P w K mg base "_law_left_pair" 2 ["_law_d", "_law_wide"] (vA K)):xE P w K mg base CX0 3 f fd ["_law_d", "_law_wide"] (zIh K):=by
 specialize yU
 ·obtain⟨a,rows,wd,rfl,_⟩:=h;rfl
 obtain⟨a,rows,wd,rfl,hS,hl,bd,w1,w2,q⟩:=h
 refine'⟨_,(zC (zCd ?_ (rN rfl (yJ (vG 2 yU.nd) (yJ (vG 3 yU.nd) vR))))
   (zC (zCd (pv 2) (rN rfl (yJ (vG 4 yU.nd) (yJ (vG 5 yU.nd) vR))))
   (zC (zCd (pv 3) (rN rfl (yJ (vG 6 yU.nd) (yJ (vG 7 yU.nd) vR))))
   (zC (yB 8 yU.nd ?_)
   (zC (yB 9 yU.nd ?_)
   (zC (zS (rZ (pv 8) (zH (uG zFs (pv 9) ?_) zO)))
   (zC (zS (rZ (pv 8) (zH (uG zFs (pv 9) ?_) zO)))
   (zC (yB 10 yU.nd ?_)
   (zC (yB 11 yU.nd ?_)
   (zC (yB 12 yU.nd ?_)
   (zC (uH PassesOwn.never rfl (tQ (pv 11)) (rN rfl (yJ (vG 13 yU.nd) (yJ (vG 14 yU.nd) vR))) (zC (zS (rZ (pv 12) (zH (pv 10) zO)))
   (zF (yB 10 yU.nd ?_))))
   (zC (yB 15 yU.nd ?_)
   (zF (zT (uG zFs ?_ ?_))))))))))))))),?_⟩
 nofun
 obtain⟨v5,a5,_⟩:=yQ bd (k:=5) (by decide) (by lia);obtain⟨v6,a6,_⟩:=yQ bd (k:=6) (by decide) (by lia);obtain⟨v7,a7,_⟩:=yQ bd (k:=7) (by decide) (by lia);obtain⟨v8,a8,_⟩:=yQ bd (k:=8) (by decide) (by lia);refine⟨_,rfl,_,rfl,a,rows,wd,rfl,hS,by lia,bd,w1,by lia,λtp pa pb x y p q' G0 sG etp epa epb tpos k1 k2 k3 k4=>?_⟩;exists tp,_,rfl,SqT.of etp,rfl,.ref pa,_,rfl,.ref pb,_,rfl,rfl;exists _,rfl,pa,_,rfl,SqT.of epa,rfl,.int x,_,rfl,.int y,_,rfl,rfl;exists _,rfl,pb,_,rfl,SqT.of epb,rfl,.int p,_,rfl,.int q',_,rfl,rfl;clear etp epa epb
 replace k1:x.natAbs<=30:=by lia
 replace k2:y.natAbs<=30:=by lia
 replace k3:p.natAbs<=30:=by lia
 replace k4:q'.natAbs<=30:=by lia
 have W4:∀{σ:St},σ[4]?=some (some (.int x))->PIb (zRv 4) σ x 30:=λh=>.var h k1;have W5:∀{σ:St},σ[5]?=some (some (.int y))->PIb (zRv 5) σ y 30:=λh=>.var h k2;have W6:∀{σ:St},σ[6]?=some (some (.int p))->PIb (zRv 6) σ p 30:=λh=>.var h k3;have W7:∀{σ:St},σ[7]?=some (some (.int q'))->PIb (zRv 7) σ q' 30:=λh=>.var h k4;have c2:∀{σ:St},PIb (tC (.int 2)) σ 2 2:=.con (by decide);have c3:∀{σ:St},PIb (tC (.int 3)) σ 3 3:=.con (by decide);dsimp only;refine zRa (M:=120)
  (.cons (W4 rfl) (W5 rfl) (.cons (.sub (W6 rfl) (W4 rfl)) (.sub (W7 rfl) (W5 rfl)) (.cons (.neg (W6 rfl)) (.neg (W7 rfl)) .nil)))
  (.cons (W4 rfl) (W5 rfl) (.cons (W6 rfl) (W7 rfl) (.cons (.neg (W4 rfl)) (.neg (W5 rfl)) (.cons (.neg (W6 rfl)) (.neg (W7 rfl)) .nil))))
  (.cons (.mul c2 (W4 rfl) (by decide)) (.mul c2 (W5 rfl) (by decide)) (.cons (W6 rfl) (W7 rfl) (.cons (.sub (W6 rfl) (W4 rfl)) (.sub (W7 rfl) (W5 rfl)) (.cons (.neg (W4 rfl)) (.neg (W5 rfl)) (.cons (.mul (.neg c2) (W6 rfl) (by decide)) (.mul (.neg c2) (W7 rfl) (by decide)) .nil)))))
  (.cons (W4 rfl) (W5 rfl) (.cons (.add (W4 rfl) (W6 rfl)) (.add (W5 rfl) (W7 rfl)) (.cons (W6 rfl) (W7 rfl) (.cons (.neg (W4 rfl)) (.neg (W5 rfl)) (.cons (.sub (.neg (W4 rfl)) (W6 rfl)) (.sub (.neg (W5 rfl)) (W7 rfl)) (.cons (.neg (W6 rfl)) (.neg (W7 rfl)) .nil))))))
  (by show 3<=1000; decide) (by show 4<=1000; decide) (by show 5<=1000; decide) (by show 6<=1000; decide) λlo xs G1 s1 hlo L1 m1=>?_
 unfold zJf;refine zPj (M:=120) (.cons (W4 rfl) (W5 rfl) (.cons (.add (.mul c2 (W4 rfl) (by decide)) (W6 rfl)) (.add (.mul c2 (W5 rfl) (by decide)) (W7 rfl)) (.cons (.add (W4 rfl) (.mul c2 (W6 rfl) (by decide))) (.add (W5 rfl) (.mul c2 (W7 rfl) (by decide))) (.cons (W6 rfl) (W7 rfl) (.cons (.neg (W4 rfl)) (.neg (W5 rfl)) .nil))))) (by show 5<=1000; decide) λl4 p4 G2 s2 hl4 el4 pk4 m4=>?_;have new:H lo=none:=sG.free hlo;have sG2:=(sG.trans s1).trans s2;have L2':=L1.same s2;have n4:l4≠lo:=λz=>by rw[z,L1.at'] at hl4; cases hl4
 clear sG s1 L1 s2 hl4;exists _,rfl,.inl ⟨rfl,_,SqL.of L2'.at'⟩,_,rfl;show zF4 _ _ _ _;refine zBd (M:=120) (.cons (.sub (.mul (.neg c2) (W4 rfl) (by decide)) (W6 rfl)) (.sub (.mul (.neg c2) (W5 rfl) (by decide)) (W7 rfl)) (.cons (.sub (.neg (W4 rfl)) (.mul c3 (W6 rfl) (by decide))) (.sub (.neg (W5 rfl)) (.mul c3 (W7 rfl) (by decide))) .nil)) (by show 2<=1000; decide) λl5 p5 G3 s3 _ el5 pk5 m5=>?_;have len4:p4.length=5:=by
  have z:=congrArg List.length m4;rw[List.length_map] at z;exact z
 have len5:p5.length=2:=by
  have z:=congrArg List.length m5;rw[List.length_map] at z;exact z
 have nx:xs.length=4:=by
  have z:=congrArg List.length m1;rw[List.length_map] at z;exact z
 have nr:∀ X:List (Addr×List Pr),(rY X).length=X.length:=λX=>by rw[List.length_map,List.length_map]
 refine⟨l4,l5,_,_,rfl,rfl,s3 _ _ el4,el5,zR0 (by rw[zU,zU]; lia),λl6 hl6=>?_⟩;have sl6:Same G3 (upd G3 l6 (.lst (zQ p4++zQ p5))):=zB hl6 _;have el6:upd G3 l6 (.lst (zQ p4++zQ p5)) l6=some (.lst (zQ (p4++p5))):=by rw[zA,qZ]
 have L4:=L2'.same (s3.trans sl6);have n6:l6≠lo:=λz=>by rw[z,(L2'.same s3).at'] at hl6; cases hl6
 generalize upd G3 l6 (.lst (zQ p4++zQ p5))=G4 at sl6 el6 L4 ⊢;exists lo,_,_,rfl,rfl,L4.at',zK (by rw[nr]; lia);have L5:=L4.app n6 el6 ((pk4.same (s3.trans sl6)).app (pk5.same sl6));have sO:=(sG2.trans (s3.trans sl6)).putNew (o:=.lst (rY xs++[.ref l6])) new;have f4:upd G4 lo (.lst (rY xs++[.ref l6])) l4=some (.lst (zQ p4)):=by
  rw[zD n4];exact(s3.trans sl6) _ _ el4
 have g4:=zQ2 L4.at' (pk4.same (s3.trans sl6)) (.lst (rY xs++[.ref l6]));generalize upd G4 lo (.lst (rY xs++[.ref l6]))=G5 at L5 sO f4 g4 ⊢;clear L4 L2' sG2 s3 el5 pk5 el6 sl6 n6 el4 pk4;exists _,rfl,.inl ⟨rfl,_,SqL.of L5.at'⟩,_,rfl;show zF4 _ _ _ _;refine zBd (M:=120) (.cons (.sub (.mul (.neg c2) (W4 rfl) (by decide)) (W6 rfl)) (.sub (.mul (.neg c2) (W5 rfl) (by decide)) (W7 rfl)) (.cons (.sub (.neg (W4 rfl)) (.mul c2 (W6 rfl) (by decide))) (.sub (.neg (W5 rfl)) (.mul c2 (W7 rfl) (by decide))) (.cons (.neg (W6 rfl)) (.neg (W7 rfl)) .nil))) (by show 3<=1000; decide) λl7 p7 G6 s6 _ el7 pk7 m7=>?_;have len7:p7.length=3:=by
  have z:=congrArg List.length m7;rw[List.length_map] at z;exact z
 refine⟨l4,l7,_,_,rfl,rfl,s6 _ _ f4,el7,zR0 (by rw[zU,zU]; lia),λl8 hl8=>?_⟩;have sl8:Same G6 (upd G6 l8 (.lst (zQ p4++zQ p7))):=zB hl8 _;have el8:upd G6 l8 (.lst (zQ p4++zQ p7)) l8=some (.lst (zQ (p4++p7))):=by rw[zA,qZ]
 have L8:=L5.same (s6.trans sl8);have n8:l8≠lo:=λz=>by rw[z,(L5.same s6).at'] at hl8; cases hl8
 generalize upd G6 l8 (.lst (zQ p4++zQ p7))=G8 at sl8 el8 L8 ⊢;exists lo,_,_,rfl,rfl,L8.at',zK (by rw[nr,List.length_append]; show xs.length+1<=1000; lia);have L9:=L8.app n8 el8 ((g4.same (s6.trans sl8)).app (pk7.same sl8));have sG:=(sO.trans (s6.trans sl8)).putNew (o:=.lst (rY (xs++[(l6,p4++p5)])++[.ref l8])) new;generalize upd G8 lo (.lst (rY (xs++[(l6,p4++p5)])++[.ref l8]))=G40 at L9 sG ⊢;clear L8 L5 sO s6 f4 g4 el7 pk7 el8 sl8 n8 n4;have elo:=L9.at';have mm:(xs++[(l6,p4++p5)]++[(l8,p4++p7)]).map (λu=>u.2.map (·.2))=(List.range 6).map (zDz x y p q'):=by
  rw[List.map_append,List.map_append,m1];simp only[List.map_cons,List.map_nil,List.map_append,m4,m5,m7];rfl
 have sq:Sq K G40 a (rows.map V.int):=.inl (sG.seq hS);refine⟨_,rfl,a,_,_,_,rfl,rfl,sq,a5,_,_,rfl,rfl,(by show(0:Int)<41; decide),_,_,rfl,rfl,_,rfl,a,_,_,_,rfl,rfl,sq,a6,_,_,rfl,rfl,(by show(0:Int)<41; decide),_,_,rfl,rfl,sz2,λh0 hh0=>?_⟩;obtain⟨c,lr,ls,hc,hat,elr,pls,els⟩:∃(c:Nat)(lr:Addr)(ls:List Pr),c<6/\atI (rY (xs++[(l6,p4++p5)]++[(l8,p4++p7)])) (v7%6)=some (.ref lr)/\G40 lr=some (.lst (zQ ls))/\zCg G40 120 ls/\ls.map (·.2)=zDz x y p q' c:=by
  generalize xs++[(l6,p4++p5)]++[(l8,p4++p7)]=X at L9 mm;have z0:=Int.emod_nonneg v7 (show(6:Int)≠0 by decide);have z1:=Int.emod_lt_of_pos v7 (show(0:Int)<6 by decide);have z2:((v7%6).toNat:Int)=v7%6:=by lia
  have z3:(v7%6).toNat<6:=by lia
  have g:(X.map (λu=>u.2.map (·.2)))[(v7%6).toNat]?=((List.range 6).map (zDz x y p q'))[(v7%6).toNat]?:=by rw[mm]
  rw[List.getElem?_map,List.getElem?_map,List.getElem?_range z3] at g;cases gu:X[(v7%6).toNat]? with
  | none=>rw[gu] at g; cases g
  | some u =>
   rw[gu] at g;obtain⟨_,h2,h3⟩:=L9.all u (List.mem_of_getElem? gu);refine⟨(v7%6).toNat,u.1,u.2,z3,?_,h2,h3,Option.some.inj g⟩;have k:atI (rY X) (((v7%6).toNat:Nat):Int)=some (V.ref u.1):=qR (by rw[List.getElem?_map,List.getElem?_map,gu]; rfl);rw[z2] at k;exact k
 have bh0:(v5%41-20).natAbs<=20:=by lia
 have bh1:(v6%41-20).natAbs<=20:=by lia
 have s41:Same G40 (upd G40 h0 (.tup [.int (v5%41-20),.int (v6%41-20)])):=zB hh0 _;have eh:upd G40 h0 (.tup [.int (v5%41-20),.int (v6%41-20)]) h0=some (.tup [.int (v5%41-20),.int (v6%41-20)]):=zA;generalize upd G40 h0 (.tup [.int (v5%41-20),.int (v6%41-20)])=G41 at s41 eh ⊢;generalize v5%41-20=hx at bh0 eh;generalize v6%41-20=hy at bh1 eh
 replace sG:=sG.trans s41
 replace elr:=s41 _ _ elr
 replace pls:=pls.same s41
 replace elo:=s41 _ _ elo
 have hls:ls.length=(rP c).length:=by
  have z:=congrArg List.length (zLy hc hx hy x y p q');rw[zCf,<- els,List.length_map] at z;rw[z];exact List.length_map _
 have hl8:=zAu hc;exists _,rfl,_,rfl,a,_,_,_,rfl,rfl,.inl (sG.seq hS),a7,_,_,rfl,rfl,(by show(0:Int)<6; decide),lo,_,_,_,rfl,rfl,.inl (SqL.of elo),hat;refine⟨sz0,λl hl0=>?_⟩;have P0:zSf G41 l [] (upd G41 l (.lst [])):=⟨zB hl0 _,hl0,zA,λt ht=>nomatch ht⟩;have eh0:=zB hl0 (.lst []) _ _ eh;generalize upd G41 l (.lst [])=G42 at P0 eh0 ⊢;refine⟨_,rfl,lr,rfl,.inl ⟨⟨_,SqL.of (P0.same _ _ elr)⟩,zGk (K:=K) (a:=lr) (xs:=zQ ls) (λi σ G=>∃(ps:List Pr)(hh:Addr)(X Y:Int)(u13 u14:Option V),zSf G41 l ps G/\ps.length=i/\ps.map (·.2)=zCo (hx,hy) ((ls.take i).map (·.2))/\G hh=some (.tup [.int X,.int Y])/\(X,Y)=zQ3 (hx,hy) ((ls.take i).map (·.2))/\X.natAbs<=20+120*i/\Y.natAbs<=20+120*i /\
   σ=[some (.ref a),some (.int wd),some (.ref pa),some (.ref pb),some (.int x),some (.int y),some (.int p),some (.int q'),some (.ref lo),some (.ref l4),some (.ref hh),some (.ref lr),some (.ref l),u13,u14,none])
  ⟨[],h0,hx,hy,none,none,P0,rfl,rfl,eh0,rfl,bh0,bh1,rfl⟩ (λi σ G _ ⟨_,_,_,_,_,_,e,_⟩=>SqL.of (e.same _ _ elr)) ?_ ?_⟩⟩
 ·rintro i v σ G hi ⟨ps,hh,X,Y,u13,u14,Pi,hpl,hmap,ehh,hend,bX,bY,rfl⟩;rw[List.getElem?_map,List.getElem?_map] at hi;cases ht:ls[i]? with
  | none=>rw[ht] at hi; cases hi
  | some t =>
   rw[ht] at hi;cases hi;obtain⟨e1,b1,b2⟩:=pls t (List.mem_of_getElem? ht);have hil:i<ls.length:=(List.getElem?_eq_some_iff.mp ht).1;have tk:=zOw ht;exists t.1,_,rfl,SqT.of (Pi.same _ _ e1),rfl,_,_,rfl,_,_,rfl,rfl;exists _,rfl,.inl ⟨rfl,_,SqL.of Pi.at'⟩,_,rfl,l,_,_,rfl,rfl,Pi.at',zK (by rw[zU]; lia);obtain⟨P2,eh2⟩:=Pi.app ehh (by lia) (by lia);generalize upd G l (.lst (zQ ps++[.ref hh]))=G2 at P2 eh2 ⊢;refine⟨_,rfl,hh,_,_,.int X,rfl,rfl,.inr (SqT.of eh2),rfl,_,rfl,_,_,rfl,rfl,_,rfl,hh,_,_,.int Y,rfl,rfl,.inr (SqT.of eh2),rfl,_,rfl,_,_,rfl,rfl,sz2,λh2 hh2=>?_⟩;refine⟨ps++[(hh,X,Y)],h2,X+t.2.1,Y+t.2.2,_,_,P2.on (zB hh2 _),by rw[List.length_append,hpl] <;> rfl,?_,zA,?_,by lia,by lia,rfl⟩
   ·rw[tk,List.map_append,List.map_append,hmap];show zCo (hx,hy) _++[(X,Y)]=zCo (hx,hy) (_++[t.2]);rw[zGa,hend]
   ·rw[tk,List.map_append];show _=zQ3 (hx,hy) (_++[t.2]);rw[zJb,<- hend]
 ·rintro σ G ⟨ps,hh,X,Y,u13,u14,Pi,hpl,hmap,ehh,hend,bX,bY,rfl⟩;rw[zU] at hpl hmap;rw[List.take_length,els,zLy hc] at hmap;have hpn:ps.length=(rP c).length:=by lia
  have pos:(0:Int)<((zQ ps).length:Int):=by rw[zU]; lia
  exists _,rfl,a,_,_,_,rfl,rfl,.inl ((sG.trans Pi.same).seq hS),a8,_,rfl,l,_,rfl,.inl (SqL.of Pi.at'),_,_,rfl,rfl,pos;obtain⟨k,ek,hk⟩:∃ k:Nat,v8%((zQ ps).length:Int)=(k:Int)/\k<ps.length:=by
   have z0:=Int.emod_nonneg v8 (show((zQ ps).length:Int)≠0 by lia);have z1:=Int.emod_lt_of_pos v8 pos;rw[zU] at z0 z1 ⊢;exact⟨(v8%(ps.length:Int)).toNat,by lia,by lia⟩
  obtain⟨c1,c2⟩:=zXg ps k;rw[<- ek] at c1 c2;refine⟨_,rfl,_,rfl,_,rfl,l,_,rfl,SqL.of Pi.at',λf1 hf1=>?_⟩;rw[c1];have sf1:Same G (upd G f1 (.lst (zQ (ps.drop k)))):=zB hf1 _;refine⟨_,rfl,_,rfl,_,rfl,l,_,rfl,SqL.of (sf1 _ _ Pi.at'),λf2 hf2=>?_⟩;rw[c2];have sf2:Same (upd G f1 (.lst (zQ (ps.drop k)))) (upd (upd G f1 (.lst (zQ (ps.drop k)))) f2 (.lst (zQ (ps.take k)))):=zB hf2 _;refine⟨f1,f2,_,_,rfl,rfl,sf2 _ _ zA,zA,zR0 (by rw[zU,zU,List.length_drop,List.length_take]; lia),λf3 hf3=>?_⟩;have sf3:=zB hf3 (.lst (zQ (ps.drop k)++zQ (ps.take k)));have sAll:=(sf1.trans sf2).trans sf3;refine q f3 (ps.drop k++ps.take k) _ ((sG.trans Pi.same).trans sAll) ((sG.trans Pi.same).free ((sf1.trans sf2).free hf3)) (by rw[zA,qZ]) ((Pi.all.same sAll).sub λt ht=>?_) ?_
  ·rcases List.mem_append.mp ht with h | h
   ·exact List.mem_of_mem_drop h
   ·exact List.mem_of_mem_take h
  ·exact⟨c,k,hx,hy,x,y,p,q',hc,by lia,tpos,by rw[List.map_append,List.map_drop,List.map_take,hmap]⟩
def zFm(_:PySem.W.Frag):Sp:=λvs H Q _=>∃(d:Addr)(v:V)(S:BS)(D:Deed),vs=[.ref d,v]/\Rep H D.dt v/\zVy H d S/\okD S D/\Few S/\zMd S /\
 ∀(d':Addr)(H':Hp),Same H H'->H d'=none->LwN H H' d' (aft S D)->Q (.ref d') H'
theorem zMw(F:Fun K "_law_after" "_law_after" zBf f fd)(Z:Zs mg)(CB:Cb P w mg base)  : xE P w K mg base CX0 1 f fd ["_law_m", "_law_deed"] (zFm K):=by
 specialize zFp
 ·obtain⟨d,v,S,D,rfl,_⟩:=h;rfl
 obtain⟨d,v,S,D,rfl,rep,⟨m,b,r,n,lw⟩,ok,few,fr,q⟩:=h;obtain⟨mk,hm,km⟩:=lw.ma;obtain⟨bk,hb,kb⟩:=lw.ba;obtain⟨rs,hr1,kr⟩:=lw.ru;obtain⟨nk,hn,kn⟩:=lw.no;have lm:mk.length=S.marks.length:=by rw[km.length,zEj]
 have ln:nk.length=S.notes.length:=by rw[kn.length,zOh]
 have lr:rs.length=S.runs.length:=by rw[kr.length,List.length_map]
 have fm:=few.ma;have fr':=few.ru;have fn:=few.no;have fb:=few.ba;have lb:bk.length=S.banks.length:=by rw[kb.length,zKg]
 have dg:∀{H':Hp}{k:Str}{x:V},Same H H'->tI (lwK m b r n S.coming) (.inr k)=some x->zSy H' d (.str k) (some x):=λ{H' k x} s e=>.inl ⟨_,.inr k,Rd.same lw.at_ s,rfl,e.symm⟩
 refine'⟨_,(zC (yB 2 zFp.nd (zJ5 (xW zM (wC sU rfl Z.dict zAq (zH (zL (yA hr) (pv 0) zM (λ_ _=>rfl)) zO)) (xW zM (wC sU rfl Z.dict zAq (zH (zL (yA hr) (pv 0) zM (λ_ _=>rfl)) zO)) (xW zM (wC zCi rfl Z.list zBp (zH (zL (yA hr) (pv 0) zM (λ_ _=>rfl)) zO)) zKd))) rfl rfl (λz=>nomatch z) (by decide)))
   (zC (tP (yA hr) (pv 2) zM (wC sU rfl Z.dict zAq (zH (zL (yA hr) (pv 0) zM (λ_ _=>rfl)) zO)) rfl)
   (zC (tP (yA hr) (pv 2) zM (zL (yA hr) (pv 0) zM (λ_ _=>rfl)) rfl)
   (zC (yR (yO zIm ?_ ?_ (by with_unfolding_all rfl)) (zF (tP (yA hr) (zL (yA hr) (pv 2) zM (λ_ _=>rfl)) ?_ (wY zE0 (pv 1) (uJ xY) vO) rfl)) (zF (yR ?_ (zF (zS (zDl (zL (yA hr) (pv 2) zM (λ_ _=>rfl)) ?_ ⟨rfl,rfl,rfl,rfl⟩))) (zF (yR ?_ (zF (tP (yA hr) (zL (yA hr) (pv 2) zM (λ_ _=>rfl)) ?_ ?_ rfl)) (zF (yR ?_ (zF (zS (zDl (zL (yA hr) (pv 2) zM (λ_ _=>rfl)) ?_ ⟨rfl,rfl,rfl,rfl⟩))) (zF (yR ?_ (zF (zS (rZ (zL (yA hr) (pv 2) zM (λ_ _=>rfl)) (zH (wY zE0 (pv 1) (uJ xY) vO) zO)))) (zF (yR ?_ (zF (zCd (wY zE0 (pv 1) (uJ xY) vO) (zXa (zL (yA hr) (pv 2) zM (λ_ _=>rfl)) ?_ zQ0))) (zF (yR ?_ (zF (zS (zDl (zL (yA hr) (pv 2) zM (λ_ _=>rfl)) ?_ ⟨rfl,rfl,rfl,rfl⟩))) (zC (tP (yA hr) (zL (yA hr) (pv 2) zM (λ_ _=>rfl)) (zL (yA hr) (pv 0) zM (λ_ _=>rfl)) (pv 1) rfl)
   (zF (tP (yA hr) (pv 2) zM (uG zI1 (zL (yA hr) (pv 0) zM (λ_ _=>rfl)) xY) rfl))))))))))))))))
   (zF (zT (pv 2))))))),?_⟩
 nofun
 intro p hp;have s1:=zB hp (.dK []);refine⟨_,rfl,d,.ref m,rfl,dg s1 xD,m,mk,rfl,Rd.same hm s1,λmc hmc=>?_⟩;have s2:=s1.trans (zB hmc (.dK mk));refine⟨_,rfl,d,.ref b,rfl,dg s2 zGj,b,bk,rfl,Rd.same hb s2,λbc hbc=>?_⟩;have s3:=s2.trans (zB hbc (.dK bk));refine⟨_,rfl,d,.ref r,rfl,dg s3 tW,r,rs,rfl,.inl (SqL.of (s3 _ _ hr1)),λrc hrc=>?_⟩;have s4:=s3.trans (zB hrc (.lst rs));have ep1:upd H p (.dK []) p=some (.dK []):=zA;have npm:p≠mc:=zG ep1 hmc;have ep2:=(zB hmc (.dK mk)) _ _ ep1;have em2:upd (upd H p (.dK [])) mc (.dK mk) mc=some (.dK mk):=zA;have npb:p≠bc:=zG ep2 hbc;have nmb:mc≠bc:=zG em2 hbc;have ep3:=(zB hbc (.dK bk)) _ _ ep2;have em3:=(zB hbc (.dK bk)) _ _ em2;have eb3:upd (upd (upd H p (.dK [])) mc (.dK mk)) bc (.dK bk) bc=some (.dK bk):=zA;have npr:p≠rc:=zG ep3 hrc;have nmr:mc≠rc:=zG em3 hrc;have nbr:bc≠rc:=zG eb3 hrc;have ep4:=(zB hrc (.lst rs)) _ _ ep3;have em4:=(zB hrc (.lst rs)) _ _ em3;have eb4:=(zB hrc (.lst rs)) _ _ eb3;have er4:upd (upd (upd (upd H p (.dK [])) mc (.dK mk)) bc (.dK bk)) rc (.lst rs) rc=some (.lst rs):=zA;generalize upd (upd (upd (upd H p (.dK [])) mc (.dK mk)) bc (.dK bk)) rc (.lst rs)=H4 at s4 ep4 em4 eb4 er4;exists ep4,[(.inr "marks", .ref mc),(.inr "banks", .ref bc),(.inr "runs", .ref rc)],rfl,(show 3<=15 by decide);rw[zOb];have s5:Same H (upd H4 p (.dK [(.inr "marks", .ref mc),(.inr "banks", .ref bc),(.inr "runs", .ref rc)])):=λx o e=>by rw[zD (zG e hp)]; exact s4 x o e
 refine⟨_,rfl,d,.ref n,rfl,dg s5 uV,n,nk,rfl,Rd.same hn s5,λnc hnc=>?_⟩;have npn:p≠nc:=zG zA hnc;have hnc4:H4 nc=none:=by rw[zD npn.symm] at hnc; exact hnc
 have nmn:mc≠nc:=zG em4 hnc4;have nbn:bc≠nc:=zG eb4 hnc4;have nrn:rc≠nc:=zG er4 hnc4;have s6:=s5.trans (zB hnc (.dK nk));exists _,rfl,p,_,rfl,zHj.k (k:=.inr "notes") (by rw[zD npn,zA]) (zK (by show 3<=1000; decide));rw[zTk];have s7:Same H (upd (upd (upd H4 p (.dK [(.inr "marks", .ref mc),(.inr "banks", .ref bc),(.inr "runs", .ref rc)])) nc (.dK nk)) p (.dK [(.inr "marks", .ref mc),(.inr "banks", .ref bc),(.inr "runs", .ref rc),(.inr "notes", .ref nc)])):=λx o e=>by rw[zD (zG e hp)]; exact s6 x o e
 exists _,rfl,d,.int S.coming,rfl,dg s7 zFb,_,rfl,p,_,rfl,zHj.k (k:=.inr "next") zA (zK (by show 4<=1000; decide));rw[zT5];have keep:∀ x o,x≠p->x≠nc->H4 x=some o->upd (upd (upd (upd H4 p (.dK [(.inr "marks", .ref mc),(.inr "banks", .ref bc),(.inr "runs", .ref rc)])) nc (.dK nk)) p (.dK [(.inr "marks", .ref mc),(.inr "banks", .ref bc),(.inr "runs", .ref rc),(.inr "notes", .ref nc)])) p (.dK [(.inr "marks", .ref mc),(.inr "banks", .ref bc),(.inr "runs", .ref rc),(.inr "notes", .ref nc),(.inr "next", .int S.coming)]) x=some o:=λx o h1 h2 e=>by
  rw[zD h1,zD h1,zD h2,zD h1]; exact e
 have em:=keep _ _ npm.symm nmn em4;have eb:=keep _ _ npb.symm nbn eb4;have er:=keep _ _ npr.symm nrn er4;have s8:Same H _:=λx o e=>keep x o (zG e hp) (zG (s5 _ _ e) hnc) (s4 _ _ e);have en:upd (upd (upd (upd H4 p (.dK [(.inr "marks", .ref mc),(.inr "banks", .ref bc),(.inr "runs", .ref rc)])) nc (.dK nk)) p (.dK [(.inr "marks", .ref mc),(.inr "banks", .ref bc),(.inr "runs", .ref rc),(.inr "notes", .ref nc)])) p (.dK [(.inr "marks", .ref mc),(.inr "banks", .ref bc),(.inr "runs", .ref rc),(.inr "notes", .ref nc),(.inr "next", .int S.coming)]) nc=some (.dK nk):=by rw[zD npn.symm,zD npn.symm,zA]
 have ep:upd (upd (upd (upd H4 p (.dK [(.inr "marks", .ref mc),(.inr "banks", .ref bc),(.inr "runs", .ref rc)])) nc (.dK nk)) p (.dK [(.inr "marks", .ref mc),(.inr "banks", .ref bc),(.inr "runs", .ref rc),(.inr "notes", .ref nc)])) p (.dK [(.inr "marks", .ref mc),(.inr "banks", .ref bc),(.inr "runs", .ref rc),(.inr "notes", .ref nc),(.inr "next", .int S.coming)]) p=some (.dK [(.inr "marks", .ref mc),(.inr "banks", .ref bc),(.inr "runs", .ref rc),(.inr "notes", .ref nc),(.inr "next", .int S.coming)]):=zA;clear keep s7 s6;generalize upd (upd (upd (upd H4 p (.dK [(.inr "marks", .ref mc),(.inr "banks", .ref bc),(.inr "runs", .ref rc)])) nc (.dK nk)) p (.dK [(.inr "marks", .ref mc),(.inr "banks", .ref bc),(.inr "runs", .ref rc),(.inr "notes", .ref nc)])) p (.dK [(.inr "marks", .ref mc),(.inr "banks", .ref bc),(.inr "runs", .ref rc),(.inr "notes", .ref nc),(.inr "next", .int S.coming)])=H8 at s8 ep em eb er en ⊢;have ep:H8 p=some (.dK (lwK mc bc rc nc S.coming)):=ep;have km8:=km.to (.of s8);have kb8:=kb.to (.of s8);have kr8:=kr.to (.of s8);have kn8:=kn.to (.of s8);have rep8:=rep.to (.of s8);have nmH:H mc=none:=s1.free hmc;have nrH:H rc=none:=s3.free hrc;have nbH:H bc=none:=s2.free hbc;have nnH:H nc=none:=s5.free hnc
 match D,rep8,ok,q with
 | .mark nm x y,rep8,ok,q =>
  obtain⟨t,rfl,ht⟩:=zJq rep8;refine⟨_,rfl,t,_,0,.str "mark", rfl,rfl,.inr (SqT.of ht),rfl,sz2,λz hz=>?_⟩;have sz:=zB hz (.tup [.str "mark", .str "move"]);exists z,_,rfl,.inr (SqT.of zA),rfl,rfl,_,rfl;have s9:=s8.trans sz;have ep9:=sz _ _ ep;have em9:=sz _ _ em;have eb9:=sz _ _ eb;have er9:=sz _ _ er;have en9:=sz _ _ en;have ht9:=sz _ _ ht;have km9:=km8.to (.of sz);have kb9:=kb8.to (.of sz);have kr9:=kr8.to (.of sz);have kn9:=kn8.to (.of sz);have rep9:=rep8.to (.of sz);generalize upd H8 z (.tup [.str "mark", .str "move"])=H9 at s9 ep9 em9 eb9 er9 en9 ht9 km9 kb9 kr9 kn9 rep9 ⊢;have tq:Sq K H9 t _:=.inr (SqT.of ht9);refine zE3 ?_;refine⟨_,rfl,_,rfl,t,_,rfl,SqT.of ht9,(λz=>absurd z.1 (by show ¬ HT.sIx 4 0 (some 2)=0; decide)),λc hc=>?_⟩;have sc:=zB hc (.tup [.int x,.int y]);have em10:=sc _ _ em9;exists _,rfl,p,.ref mc,rfl,.inl ⟨_,.inr "marks", .inl (sc _ _ ep9),rfl,xD.symm⟩,_,rfl,t,_,1,.str nm,rfl,rfl,.inr (SqT.of (sc _ _ ht9)),rfl,mc,_,rfl,zHj.k (k:=.inr nm) em10 (zK (by lia)),_,rfl;have sE:=xC (o:=.dK (tR mk (.inr nm) (.ref c))) em10;have np:=zD9 em10;refine q p _ (λx o e=>by rw[zD (zG e nmH)]; exact sc _ _ (s9 _ _ e)) hp ⟨mc,bc,rc,nc,nrH,.inl ?_,⟨_,.inl zA,?_⟩,⟨bk,.inl ?_,(kb9.to (.of sc)).sam sE np⟩,⟨rs,?_,(kr9.to (.of sc)).sam sE np⟩,⟨nk,.inl ?_,(kn9.to (.of sc)).sam sE np⟩⟩
  ·rw[zD npm]; exact sc _ _ ep9
  ·have:=((km9.to (.of sc)).put (k:=.inr nm) (sB (p:=(x,y)) zA)).sam sE np;rw[vV (zGt ok.2.1)] at this;show xO _ _ (mkE (S.marks++[(nm,x,y)]));rw[zJl];exact this
  ·rw[zD nmb.symm]; exact sc _ _ eb9
  ·rw[zD nmr.symm]; exact sc _ _ er9
  ·rw[zD nmn.symm]; exact sc _ _ en9
 | .move nm x y,rep8,ok,q =>
  obtain⟨t,rfl,ht⟩:=zJ6 rep8;refine⟨_,rfl,t,_,0,.str "move", rfl,rfl,.inr (SqT.of ht),rfl,sz2,λz hz=>?_⟩;have sz:=zB hz (.tup [.str "mark", .str "move"]);exists z,_,rfl,.inr (SqT.of zA),rfl,rfl,_,rfl;have s9:=s8.trans sz;have ep9:=sz _ _ ep;have em9:=sz _ _ em;have eb9:=sz _ _ eb;have er9:=sz _ _ er;have en9:=sz _ _ en;have ht9:=sz _ _ ht;have km9:=km8.to (.of sz);have kb9:=kb8.to (.of sz);have kr9:=kr8.to (.of sz);have kn9:=kn8.to (.of sz);have rep9:=rep8.to (.of sz);generalize upd H8 z (.tup [.str "mark", .str "move"])=H9 at s9 ep9 em9 eb9 er9 en9 ht9 km9 kb9 kr9 kn9 rep9 ⊢;have tq:Sq K H9 t _:=.inr (SqT.of ht9);refine zE3 ?_;refine⟨_,rfl,_,rfl,t,_,rfl,SqT.of ht9,(λz=>absurd z.1 (by show ¬ HT.sIx 4 0 (some 2)=0; decide)),λc hc=>?_⟩;have sc:=zB hc (.tup [.int x,.int y]);have em10:=sc _ _ em9;exists _,rfl,p,.ref mc,rfl,.inl ⟨_,.inr "marks", .inl (sc _ _ ep9),rfl,xD.symm⟩,_,rfl,t,_,1,.str nm,rfl,rfl,.inr (SqT.of (sc _ _ ht9)),rfl,mc,_,rfl,zHj.k (k:=.inr nm) em10 (zK (by lia)),_,rfl;have sE:=xC (o:=.dK (tR mk (.inr nm) (.ref c))) em10;have np:=zD9 em10;refine q p _ (λx o e=>by rw[zD (zG e nmH)]; exact sc _ _ (s9 _ _ e)) hp ⟨mc,bc,rc,nc,nrH,.inl ?_,⟨_,.inl zA,?_⟩,⟨bk,.inl ?_,(kb9.to (.of sc)).sam sE np⟩,⟨rs,?_,(kr9.to (.of sc)).sam sE np⟩,⟨nk,.inl ?_,(kn9.to (.of sc)).sam sE np⟩⟩
  ·rw[zD npm]; exact sc _ _ ep9
  ·have:=((km9.to (.of sc)).put (k:=.inr nm) (sB (p:=(x,y)) zA)).sam sE np;rw[zOd ok.1] at this;exact this
  ·rw[zD nmb.symm]; exact sc _ _ eb9
  ·rw[zD nmr.symm]; exact sc _ _ er9
  ·rw[zD nmn.symm]; exact sc _ _ en9
 | .unmark nm,rep8,ok,q =>
  obtain⟨t,rfl,ht⟩:=zEk rep8;refine⟨_,rfl,t,_,0,.str "unmark", rfl,rfl,.inr (SqT.of ht),rfl,sz2,λz hz=>?_⟩;have sz:=zB hz (.tup [.str "mark", .str "move"]);exists z,_,rfl,.inr (SqT.of zA),rfl,rfl,_,rfl;have s9:=s8.trans sz;have ep9:=sz _ _ ep;have em9:=sz _ _ em;have eb9:=sz _ _ eb;have er9:=sz _ _ er;have en9:=sz _ _ en;have ht9:=sz _ _ ht;have km9:=km8.to (.of sz);have kb9:=kb8.to (.of sz);have kr9:=kr8.to (.of sz);have kn9:=kn8.to (.of sz);have rep9:=rep8.to (.of sz);generalize upd H8 z (.tup [.str "mark", .str "move"])=H9 at s9 ep9 em9 eb9 er9 en9 ht9 km9 kb9 kr9 kn9 rep9 ⊢;have tq:Sq K H9 t _:=.inr (SqT.of ht9);refine xP ?_;exists _,rfl,t,_,0,.str "unmark", rfl,rfl,tq,rfl,rfl,_,rfl;refine zE3 ?_;obtain⟨pm,epm⟩:=Option.isSome_iff_exists.mp ok.1;obtain⟨v,ev,_⟩:=km9.get (k:=.inr nm) (d:=ptD pm) (by rw[qW,epm]; rfl);exists _,rfl,p,.ref mc,rfl,.inl ⟨_,.inr "marks", .inl ep9,rfl,xD.symm⟩,mc,rfl,.inl ⟨mk,.inl em9⟩,_,rfl,t,_,1,.str nm,rfl,rfl,tq,rfl,mk,.inr nm,v,em9,rfl,ev,_,rfl;have sE:=xC (o:=.dK (zCz mk (.inr nm))) em9;have np:=zD9 em9;refine q p _ (λx o e=>by rw[zD (zG e nmH)]; exact s9 _ _ e) hp ⟨mc,bc,rc,nc,nrH,.inl ?_,⟨_,.inl zA,?_⟩,⟨bk,.inl ?_,kb9.sam sE np⟩,⟨rs,?_,kr9.sam sE np⟩,⟨nk,.inl ?_,kn9.sam sE np⟩⟩
  ·rw[zD npm]; exact ep9
  ·have:=(km9.drop (k:=.inr nm)).sam sE np;rw[zLp] at this;exact this
  ·rw[zD nmb.symm]; exact eb9
  ·rw[zD nmr.symm]; exact er9
  ·rw[zD nmn.symm]; exact en9
 | .bank nm cs,rep8,ok,q =>
  obtain⟨t,cc,ps,rfl,ht,hcc,cn,rc0⟩:=zGy rep8;refine⟨_,rfl,t,_,0,.str "bank", rfl,rfl,.inr (SqT.of ht),rfl,sz2,λz hz=>?_⟩;have sz:=zB hz (.tup [.str "mark", .str "move"]);exists z,_,rfl,.inr (SqT.of zA),rfl,rfl,_,rfl;have s9:=s8.trans sz;have ep9:=sz _ _ ep;have em9:=sz _ _ em;have eb9:=sz _ _ eb;have er9:=sz _ _ er;have en9:=sz _ _ en;have ht9:=sz _ _ ht;have km9:=km8.to (.of sz);have kb9:=kb8.to (.of sz);have kr9:=kr8.to (.of sz);have kn9:=kn8.to (.of sz);have rep9:=rep8.to (.of sz);generalize upd H8 z (.tup [.str "mark", .str "move"])=H9 at s9 ep9 em9 eb9 er9 en9 ht9 km9 kb9 kr9 kn9 rep9 ⊢;have tq:Sq K H9 t _:=.inr (SqT.of ht9);refine xP ?_;exists _,rfl,t,_,0,.str "bank", rfl,rfl,tq,rfl,rfl,_,rfl;refine xP ?_;exists _,rfl,t,_,0,.str "bank", rfl,rfl,tq,rfl,rfl,_,rfl;refine zE3 ?_;obtain⟨_,_,_,e0,h0,_,_,rc9⟩:=zGy rep9;cases e0;rw[ht9] at h0;cases h0;exists _,rfl,t,_,2,.ref cc,rfl,rfl,tq,rfl,_,rfl,p,.ref bc,rfl,.inl ⟨_,.inr "banks", .inl ep9,rfl,zGj.symm⟩,_,rfl,t,_,1,.str nm,rfl,rfl,tq,rfl,bc,_,rfl,zHj.k (k:=.inr nm) eb9 (zK (by lia)),_,rfl;have sE:=xC (o:=.dK (tR bk (.inr nm) (.ref cc))) eb9;have np:=zD9 eb9;refine q p _ (λx o e=>by rw[zD (zG e nbH)]; exact s9 _ _ e) hp ⟨mc,bc,rc,nc,nrH,.inl ?_,⟨mk,.inl ?_,km9.sam sE np⟩,⟨_,.inl zA,?_⟩,⟨rs,?_,kr9.sam sE np⟩,⟨nk,.inl ?_,kn9.sam sE np⟩⟩
  ·rw[zD npb]; exact ep9
  ·rw[zD nmb]; exact em9
  ·have:=(kb9.put (k:=.inr nm) rc9).sam sE np;rw[vV (zHh ok.2.1)] at this;show xO _ _ (bkE (S.banks++[(nm,cs)]));rw[zOp];exact this
  ·rw[zD nbr.symm]; exact er9
  ·rw[zD nbn.symm]; exact en9
 | .level nm,rep8,ok,q =>
  obtain⟨t,rfl,ht⟩:=zG4 rep8;refine⟨_,rfl,t,_,0,.str "level", rfl,rfl,.inr (SqT.of ht),rfl,sz2,λz hz=>?_⟩;have sz:=zB hz (.tup [.str "mark", .str "move"]);exists z,_,rfl,.inr (SqT.of zA),rfl,rfl,_,rfl;have s9:=s8.trans sz;have ep9:=sz _ _ ep;have em9:=sz _ _ em;have eb9:=sz _ _ eb;have er9:=sz _ _ er;have en9:=sz _ _ en;have ht9:=sz _ _ ht;have km9:=km8.to (.of sz);have kb9:=kb8.to (.of sz);have kr9:=kr8.to (.of sz);have kn9:=kn8.to (.of sz);have rep9:=rep8.to (.of sz);generalize upd H8 z (.tup [.str "mark", .str "move"])=H9 at s9 ep9 em9 eb9 er9 en9 ht9 km9 kb9 kr9 kn9 rep9 ⊢;have tq:Sq K H9 t _:=.inr (SqT.of ht9);refine xP ?_;exists _,rfl,t,_,0,.str "level", rfl,rfl,tq,rfl,rfl,_,rfl;refine xP ?_;exists _,rfl,t,_,0,.str "level", rfl,rfl,tq,rfl,rfl,_,rfl;refine xP ?_;exists _,rfl,t,_,0,.str "level", rfl,rfl,tq,rfl,rfl,_,rfl;refine zE3 ?_;obtain⟨dv,lk⟩:=zSt (l:=S.banks) ok;obtain⟨v,ev,_⟩:=kb9.get lk;exists _,rfl,p,.ref bc,rfl,.inl ⟨_,.inr "banks", .inl ep9,rfl,zGj.symm⟩,bc,rfl,.inl ⟨bk,.inl eb9⟩,_,rfl,t,_,1,.str nm,rfl,rfl,tq,rfl,bk,.inr nm,v,eb9,rfl,ev,_,rfl;have sE:=xC (o:=.dK (zCz bk (.inr nm))) eb9;have np:=zD9 eb9;refine q p _ (λx o e=>by rw[zD (zG e nbH)]; exact s9 _ _ e) hp ⟨mc,bc,rc,nc,nrH,.inl ?_,⟨mk,.inl ?_,km9.sam sE np⟩,⟨_,.inl zA,?_⟩,⟨rs,?_,kr9.sam sE np⟩,⟨nk,.inl ?_,kn9.sam sE np⟩⟩
  ·rw[zD npb]; exact ep9
  ·rw[zD nmb]; exact em9
  ·have:=(kb9.drop (k:=.inr nm)).sam sE np;rw[zLu] at this;exact this
  ·rw[zD nbr.symm]; exact er9
  ·rw[zD nbn.symm]; exact en9
 | .right k x y,rep8,ok,q =>
  obtain⟨t,rfl,ht⟩:=zG2 rep8;refine⟨_,rfl,t,_,0,.str "right", rfl,rfl,.inr (SqT.of ht),rfl,sz2,λz hz=>?_⟩;have sz:=zB hz (.tup [.str "mark", .str "move"]);exists z,_,rfl,.inr (SqT.of zA),rfl,rfl,_,rfl;have s9:=s8.trans sz;have ep9:=sz _ _ ep;have em9:=sz _ _ em;have eb9:=sz _ _ eb;have er9:=sz _ _ er;have en9:=sz _ _ en;have ht9:=sz _ _ ht;have km9:=km8.to (.of sz);have kb9:=kb8.to (.of sz);have kr9:=kr8.to (.of sz);have kn9:=kn8.to (.of sz);have rep9:=rep8.to (.of sz);generalize upd H8 z (.tup [.str "mark", .str "move"])=H9 at s9 ep9 em9 eb9 er9 en9 ht9 km9 kb9 kr9 kn9 rep9 ⊢;have tq:Sq K H9 t _:=.inr (SqT.of ht9);refine xP ?_;exists _,rfl,t,_,0,.str "right", rfl,rfl,tq,rfl,rfl,_,rfl;refine xP ?_;exists _,rfl,t,_,0,.str "right", rfl,rfl,tq,rfl,rfl,_,rfl;refine xP ?_;exists _,rfl,t,_,0,.str "right", rfl,rfl,tq,rfl,rfl,_,rfl;refine xP ?_;exists _,rfl,t,_,0,.str "right", rfl,rfl,tq,rfl,rfl,_,rfl;refine xP ?_;exists _,rfl,t,_,0,.str "right", rfl,rfl,tq,rfl,rfl,_,rfl;refine zE3 ?_;refine⟨_,rfl,_,rfl,t,_,rfl,SqT.of ht9,(λz=>absurd z.1 (by show ¬ HT.sIx 4 0 (some 2)=0; decide)),λc hc=>?_⟩;have sc:=zB hc (.tup [.int x,.int y]);have er10:=sc _ _ er9;obtain⟨i,rfl⟩:=Int.eq_ofNat_of_zero_le ok.1;have hi:i<S.runs.length:=by have:=ok.2.1; lia
  exists _,rfl,p,.ref rc,rfl,.inl ⟨_,.inr "runs", .inl (sc _ _ ep9),rfl,tW.symm⟩,_,rfl,t,_,1,.int (i:Int),rfl,rfl,.inr (SqT.of (sc _ _ ht9)),rfl,rc,rs,(i:Int),i,rfl,rfl,er10,zVd (by rw[lr]; exact hi),_,rfl;have sE:=xC (o:=.lst (rs.set i (.ref c))) er10;have np:=wM er10;refine q p _ (λx o e=>by rw[zD (zG e nrH)]; exact sc _ _ (s9 _ _ e)) hp ⟨mc,bc,rc,nc,nrH,.inl ?_,⟨mk,.inl ?_,(km9.to (.of sc)).sam sE np⟩,⟨bk,.inl ?_,(kb9.to (.of sc)).sam sE np⟩,⟨_,zA,?_⟩,⟨nk,.inl ?_,(kn9.to (.of sc)).sam sE np⟩⟩
  ·rw[zD npr]; exact sc _ _ ep9
  ·rw[zD nmr]; exact sc _ _ em9
  ·rw[zD nbr]; exact sc _ _ eb9
  ·show yV _ ((S.runs.set i (x,y)).map ptD) _;rw[List.map_set];exact(yV.set (sB (p:=(x,y)) zA) i (kr9.to (.of sc))).sam sE np
  ·rw[zD nrn.symm]; exact sc _ _ en9
 | .sail x y,rep8,ok,q =>
  obtain⟨t,rfl,ht⟩:=zJ7 rep8;refine⟨_,rfl,t,_,0,.str "sail", rfl,rfl,.inr (SqT.of ht),rfl,sz2,λz hz=>?_⟩;have sz:=zB hz (.tup [.str "mark", .str "move"]);exists z,_,rfl,.inr (SqT.of zA),rfl,rfl,_,rfl;have s9:=s8.trans sz;have ep9:=sz _ _ ep;have em9:=sz _ _ em;have eb9:=sz _ _ eb;have er9:=sz _ _ er;have en9:=sz _ _ en;have ht9:=sz _ _ ht;have km9:=km8.to (.of sz);have kb9:=kb8.to (.of sz);have kr9:=kr8.to (.of sz);have kn9:=kn8.to (.of sz);have rep9:=rep8.to (.of sz);generalize upd H8 z (.tup [.str "mark", .str "move"])=H9 at s9 ep9 em9 eb9 er9 en9 ht9 km9 kb9 kr9 kn9 rep9 ⊢;have tq:Sq K H9 t _:=.inr (SqT.of ht9);refine xP ?_;exists _,rfl,t,_,0,.str "sail", rfl,rfl,tq,rfl,rfl,_,rfl;refine xP ?_;exists _,rfl,t,_,0,.str "sail", rfl,rfl,tq,rfl,rfl,_,rfl;refine xP ?_;exists _,rfl,t,_,0,.str "sail", rfl,rfl,tq,rfl,rfl,_,rfl;refine xP ?_;exists _,rfl,t,_,0,.str "sail", rfl,rfl,tq,rfl,rfl,_,rfl;refine zE3 ?_;refine⟨_,rfl,p,.ref rc,rfl,.inl ⟨_,.inr "runs", .inl ep9,rfl,tW.symm⟩,.inl ⟨rfl,_,SqL.of er9⟩,_,rfl,_,rfl,t,_,rfl,SqT.of ht9,(λz=>absurd z.1 (by show ¬ HT.sIx 3 0 (some 1)=0; decide)),λc hc=>?_⟩;have sc:=zB hc (.tup [.int x,.int y]);have er10:=sc _ _ er9;exists rc,_,.ref c,rfl,rfl,er10,zK (by lia),_,rfl;have sE:=xC (o:=.lst (rs++[.ref c])) er10;have np:=wM er10;refine q p _ (λx o e=>by rw[zD (zG e nrH)]; exact sc _ _ (s9 _ _ e)) hp ⟨mc,bc,rc,nc,nrH,.inl ?_,⟨mk,.inl ?_,(km9.to (.of sc)).sam sE np⟩,⟨bk,.inl ?_,(kb9.to (.of sc)).sam sE np⟩,⟨_,zA,?_⟩,⟨nk,.inl ?_,(kn9.to (.of sc)).sam sE np⟩⟩
  ·rw[zD npr]; exact sc _ _ ep9
  ·rw[zD nmr]; exact sc _ _ em9
  ·rw[zD nbr]; exact sc _ _ eb9
  ·show yV _ ((S.runs++[(x,y)]).map ptD) _;rw[List.map_append];exact(yV.app (kr9.to (.of sc)) (.one (sB (p:=(x,y)) zA))).sam sE np
  ·rw[zD nrn.symm]; exact sc _ _ en9
 | .bearing mo nm x1 y1 x2 y2,rep8,ok,q =>
  obtain⟨t,_,_,rfl,ht,_⟩:=tD rep8;refine⟨_,rfl,t,_,0,.str "bearing", rfl,rfl,.inr (SqT.of ht),rfl,sz2,λz hz=>?_⟩;have sz:=zB hz (.tup [.str "mark", .str "move"]);exists z,_,rfl,.inr (SqT.of zA),rfl,rfl,_,rfl;have s9:=s8.trans sz;have ep9:=sz _ _ ep;have em9:=sz _ _ em;have eb9:=sz _ _ eb;have er9:=sz _ _ er;have en9:=sz _ _ en;have ht9:=sz _ _ ht;have km9:=km8.to (.of sz);have kb9:=kb8.to (.of sz);have kr9:=kr8.to (.of sz);have kn9:=kn8.to (.of sz);have rep9:=rep8.to (.of sz);generalize upd H8 z (.tup [.str "mark", .str "move"])=H9 at s9 ep9 em9 eb9 er9 en9 ht9 km9 kb9 kr9 kn9 rep9 ⊢;have tq:Sq K H9 t _:=.inr (SqT.of ht9);refine xP ?_;exists _,rfl,t,_,0,.str "bearing", rfl,rfl,tq,rfl,rfl,_,rfl;refine xP ?_;exists _,rfl,t,_,0,.str "bearing", rfl,rfl,tq,rfl,rfl,_,rfl;refine xP ?_;exists _,rfl,t,_,0,.str "bearing", rfl,rfl,tq,rfl,rfl,_,rfl;refine xP ?_;exists _,rfl,t,_,0,.str "bearing", rfl,rfl,tq,rfl,rfl,_,rfl;refine xP ?_;exists _,rfl,t,_,0,.str "bearing", rfl,rfl,tq,rfl,rfl,_,rfl;refine xP ?_;exists _,rfl,t,_,0,.str "bearing", rfl,rfl,tq,rfl,rfl,_,rfl;refine xP ?_;exists _,rfl,_,rfl,p,.ref nc,rfl,.inl ⟨_,.inr "notes", .inl ep9,rfl,uV.symm⟩,_,rfl,d,.int S.coming,rfl,dg s9 zFb,nc,_,rfl,zHj.k (k:=.inl S.coming) en9 (zK (by lia));have sE:=xC (o:=.dK (tR nk (.inl S.coming) (.ref t))) en9;have np:=zD9 en9;have s10:Same H (upd H9 nc (.dK (tR nk (.inl S.coming) (.ref t)))):=λx o e=>by rw[zD (zG e nnH)]; exact s9 _ _ e
  have ep10:upd H9 nc (.dK (tR nk (.inl S.coming) (.ref t))) p=some (.dK (lwK mc bc rc nc S.coming)):=by rw[zD npn]; exact ep9
  exists _,rfl,d,.int S.coming,rfl,dg s10 zFb,_,_,rfl,rfl,_,rfl,p,_,rfl,zHj.k (k:=.inr "next") ep10 (zK (by show 5<=1000; decide)),_,rfl;rw[zE2];have sE2:=xC (o:=.dK (lwK mc bc rc nc (S.coming+1))) ep10;have np2:=zD9 ep10;refine q p _ (λx o e=>by rw[zD (zG e hp)]; exact s10 _ _ e) hp ⟨mc,bc,rc,nc,nrH,.inl zA,⟨mk,.inl ?_,(km9.sam sE np).sam sE2 np2⟩,⟨bk,.inl ?_,(kb9.sam sE np).sam sE2 np2⟩,⟨rs,?_,(kr9.sam sE np).sam sE2 np2⟩,⟨tR nk (.inl S.coming) (.ref t),.inl ?_,?_⟩⟩
  ·rw[zD npm.symm,zD nmn]; exact em9
  ·rw[zD npb.symm,zD nbn]; exact eb9
  ·rw[zD npr.symm,zD nrn]; exact er9
  ·rw[zD npn.symm,zA]
  ·have:=((kn9.put (k:=.inl S.coming) rep9).sam sE np).sam sE2 np2;rw[vV (zG9 fr)] at this;show xO _ _ (ntE (S.notes++[(S.coming,_)]));rw[zKk];exact this
 | .range mo l1 r1,rep8,ok,q =>
  obtain⟨t,rfl,ht⟩:=qY rep8;refine⟨_,rfl,t,_,0,.str "range", rfl,rfl,.inr (SqT.of ht),rfl,sz2,λz hz=>?_⟩;have sz:=zB hz (.tup [.str "mark", .str "move"]);exists z,_,rfl,.inr (SqT.of zA),rfl,rfl,_,rfl;have s9:=s8.trans sz;have ep9:=sz _ _ ep;have em9:=sz _ _ em;have eb9:=sz _ _ eb;have er9:=sz _ _ er;have en9:=sz _ _ en;have ht9:=sz _ _ ht;have km9:=km8.to (.of sz);have kb9:=kb8.to (.of sz);have kr9:=kr8.to (.of sz);have kn9:=kn8.to (.of sz);have rep9:=rep8.to (.of sz);generalize upd H8 z (.tup [.str "mark", .str "move"])=H9 at s9 ep9 em9 eb9 er9 en9 ht9 km9 kb9 kr9 kn9 rep9 ⊢;have tq:Sq K H9 t _:=.inr (SqT.of ht9);refine xP ?_;exists _,rfl,t,_,0,.str "range", rfl,rfl,tq,rfl,rfl,_,rfl;refine xP ?_;exists _,rfl,t,_,0,.str "range", rfl,rfl,tq,rfl,rfl,_,rfl;refine xP ?_;exists _,rfl,t,_,0,.str "range", rfl,rfl,tq,rfl,rfl,_,rfl;refine xP ?_;exists _,rfl,t,_,0,.str "range", rfl,rfl,tq,rfl,rfl,_,rfl;refine xP ?_;exists _,rfl,t,_,0,.str "range", rfl,rfl,tq,rfl,rfl,_,rfl;refine xP ?_;exists _,rfl,t,_,0,.str "range", rfl,rfl,tq,rfl,rfl,_,rfl;refine xP ?_;exists _,rfl,_,rfl,p,.ref nc,rfl,.inl ⟨_,.inr "notes", .inl ep9,rfl,uV.symm⟩,_,rfl,d,.int S.coming,rfl,dg s9 zFb,nc,_,rfl,zHj.k (k:=.inl S.coming) en9 (zK (by lia));have sE:=xC (o:=.dK (tR nk (.inl S.coming) (.ref t))) en9;have np:=zD9 en9;have s10:Same H (upd H9 nc (.dK (tR nk (.inl S.coming) (.ref t)))):=λx o e=>by rw[zD (zG e nnH)]; exact s9 _ _ e
  have ep10:upd H9 nc (.dK (tR nk (.inl S.coming) (.ref t))) p=some (.dK (lwK mc bc rc nc S.coming)):=by rw[zD npn]; exact ep9
  exists _,rfl,d,.int S.coming,rfl,dg s10 zFb,_,_,rfl,rfl,_,rfl,p,_,rfl,zHj.k (k:=.inr "next") ep10 (zK (by show 5<=1000; decide)),_,rfl;rw[zE2];have sE2:=xC (o:=.dK (lwK mc bc rc nc (S.coming+1))) ep10;have np2:=zD9 ep10;refine q p _ (λx o e=>by rw[zD (zG e hp)]; exact s10 _ _ e) hp ⟨mc,bc,rc,nc,nrH,.inl zA,⟨mk,.inl ?_,(km9.sam sE np).sam sE2 np2⟩,⟨bk,.inl ?_,(kb9.sam sE np).sam sE2 np2⟩,⟨rs,?_,(kr9.sam sE np).sam sE2 np2⟩,⟨tR nk (.inl S.coming) (.ref t),.inl ?_,?_⟩⟩
  ·rw[zD npm.symm,zD nmn]; exact em9
  ·rw[zD npb.symm,zD nbn]; exact eb9
  ·rw[zD npr.symm,zD nrn]; exact er9
  ·rw[zD npn.symm,zA]
  ·have:=((kn9.put (k:=.inl S.coming) rep9).sam sE np).sam sE2 np2;rw[vV (zG9 fr)] at this;show xO _ _ (ntE (S.notes++[(S.coming,_)]));rw[zKk];exact this
 | .strike k,rep8,ok,q =>
  obtain⟨t,rfl,ht⟩:=zE1 rep8;refine⟨_,rfl,t,_,0,.str "strike", rfl,rfl,.inr (SqT.of ht),rfl,sz2,λz hz=>?_⟩;have sz:=zB hz (.tup [.str "mark", .str "move"]);exists z,_,rfl,.inr (SqT.of zA),rfl,rfl,_,rfl;have s9:=s8.trans sz;have ep9:=sz _ _ ep;have em9:=sz _ _ em;have eb9:=sz _ _ eb;have er9:=sz _ _ er;have en9:=sz _ _ en;have ht9:=sz _ _ ht;have km9:=km8.to (.of sz);have kb9:=kb8.to (.of sz);have kr9:=kr8.to (.of sz);have kn9:=kn8.to (.of sz);have rep9:=rep8.to (.of sz);generalize upd H8 z (.tup [.str "mark", .str "move"])=H9 at s9 ep9 em9 eb9 er9 en9 ht9 km9 kb9 kr9 kn9 rep9 ⊢;have tq:Sq K H9 t _:=.inr (SqT.of ht9);refine xP ?_;exists _,rfl,t,_,0,.str "strike", rfl,rfl,tq,rfl,rfl,_,rfl;refine xP ?_;exists _,rfl,t,_,0,.str "strike", rfl,rfl,tq,rfl,rfl,_,rfl;refine xP ?_;exists _,rfl,t,_,0,.str "strike", rfl,rfl,tq,rfl,rfl,_,rfl;refine xP ?_;exists _,rfl,t,_,0,.str "strike", rfl,rfl,tq,rfl,rfl,_,rfl;refine xP ?_;exists _,rfl,t,_,0,.str "strike", rfl,rfl,tq,rfl,rfl,_,rfl;refine xP ?_;exists _,rfl,t,_,0,.str "strike", rfl,rfl,tq,rfl,rfl,_,rfl;refine zE3 ?_;obtain⟨dv,lk⟩:=zLx (l:=S.notes) ok;obtain⟨v,ev,_⟩:=kn9.get lk;exists _,rfl,p,.ref nc,rfl,.inl ⟨_,.inr "notes", .inl ep9,rfl,uV.symm⟩,nc,rfl,.inl ⟨nk,.inl en9⟩,_,rfl,t,_,1,.int k,rfl,rfl,tq,rfl,nk,.inl k,v,en9,rfl,ev,_,rfl;have sE:=xC (o:=.dK (zCz nk (.inl k))) en9;have np:=zD9 en9;refine q p _ (λx o e=>by rw[zD (zG e nnH)]; exact s9 _ _ e) hp ⟨mc,bc,rc,nc,nrH,.inl ?_,⟨mk,.inl ?_,km9.sam sE np⟩,⟨bk,.inl ?_,kb9.sam sE np⟩,⟨rs,?_,kr9.sam sE np⟩,⟨_,.inl zA,?_⟩⟩
  ·rw[zD npn]; exact ep9
  ·rw[zD nmn]; exact em9
  ·rw[zD nbn]; exact eb9
  ·rw[zD nrn]; exact er9
  ·have:=(kn9.drop (k:=.inl k)).sam sE np;rw[zLr] at this;exact this
theorem zOu{H:Hp}{w:Addr}{k x y:Int}(hw:H w=some (.tup [.str "right", .int k,.int x,.int y])):Rep H (Deed.right k x y).dt (.ref w) :=
 yL.mpr ⟨w,_,rfl,hw,zI.mpr ⟨_,_,rfl,zY.mpr rfl,zI.mpr ⟨_,_,rfl,yE.mpr rfl,.two (yE.mpr rfl) (yE.mpr rfl)⟩⟩⟩
theorem zLt{H:Hp}{w:Addr}{n:Str}{x y:Int}(hw:H w=some (.tup [.str "move", .str n,.int x,.int y])):Rep H (Deed.move n x y).dt (.ref w) :=
 yL.mpr ⟨w,_,rfl,hw,zI.mpr ⟨_,_,rfl,zY.mpr rfl,zI.mpr ⟨_,_,rfl,zY.mpr rfl,.two (yE.mpr rfl) (yE.mpr rfl)⟩⟩⟩
theorem zLk{H:Hp} : ∀{ps:List (Int×Int)}{xs:List V},yV H (ps.map ptD) xs->∃ es:List (Addr×List Int),xs=(es.map (·.1)).map V.ref/\(∀ t∈es,H t.1=some (.tup (t.2.map V.int)))/\es.map (·.2)=ps.map λp=>[p.1,p.2]
 | [],_,h=>⟨[],zX.mp h,λt ht=>(nomatch ht),rfl⟩
 | p::ps,_,h=>by
  obtain⟨x,r,rfl,h1,h2⟩:=zI.mp h;obtain⟨a,rfl,ha⟩:=zB9 h1;obtain⟨es,rfl,h3,h4⟩:=zLk h2;refine⟨(a,[p.1,p.2])::es,rfl,λt ht=>?_,by rw[List.map_cons,List.map_cons,h4]⟩;rcases List.mem_cons.mp ht with rfl | ht
  ·exact ha
  ·exact h3 t ht
theorem zT7{ms:List Int}{x n:Int}(h:0<n)(hn:n=(ms.length:Int)):∃ k,k∈ms/\atI (ms.map V.int) (x%n)=some (.int k):=by
 have h0:=Int.emod_nonneg x (show n≠0 by lia);have h1:=Int.emod_lt_of_pos x h;generalize x%n=y at h0 h1;obtain⟨k,rfl⟩:=Int.eq_ofNat_of_zero_le h0;have hk:k<ms.length:=by lia
 exact⟨ms[k],List.getElem_mem hk,qR (by rw[List.getElem?_map,List.getElem?_eq_getElem hk]; rfl)⟩
theorem ifB{b:Bool}{A B:Prop}(h1:b=true->A)(h2:b=false->B):if b=true then A else B:=by
 cases b
 ·exact h2 rfl
 ·exact h1 rfl
theorem zU8{ok:Hp->Prop}{G:Prop}{R:Hp->Prop}(h1:(∀ H,ok H->R H)->G)(h2:∀ H,ok H->R H):G:=h1 h2
def zAh(_:PySem.W.Frag):Sp:=λvs H Q _=>∃(a d r:Addr)(rows:List Int)(ns:List Str)(S:BS)(B:Nat),vs=[.ref a,.ref d,.ref r]/\H a=some (.lst (rows.map V.int))/\9<=rows.length/\(∀ v∈rows,0<=v/\v<1000003)/\zVy H d S/\H r=some (.lst (ns.map V.str))/\ns.length=5/\(∀ n∈ns,sN n) /\
 zP2 S/\1<=S.marks.length/\S.marks.length<=15/\Bd S B/\B<=950 /\
 ∀(v:V)(D:Deed)(H':Hp),Sam H H'->Rep H' D.dt v->zNu S D B->Q v H'
theorem zFf(F:Fun K "_law_good_deed" "_law_good_deed" vW f fd)(Z:Zs mg)(CB:Cb P w mg base)(yBa:Has P w K mg base "_law_left_pair" 2 ["_law_d", "_law_wide"] (vA K)):xE P w K mg base CX0 3 f fd ["_law_d", "_law_m", "_law_names_here"] (zAh K):=by
 specialize yF
 ·obtain⟨a,d,r,rows,ns,S,B,rfl,_⟩:=h;rfl
 obtain⟨a,d,R,rows,ns,S,B,rfl,ha,l9,bd,⟨m,b,r,n,lw⟩,eR,ln,okn,g,m1,m15,bB,hB,q⟩:=h;obtain⟨v0,a0,_⟩:=yQ bd (k:=0) (by decide) (by lia);obtain⟨v1,a1,_⟩:=yQ bd (k:=1) (by decide) (by lia);obtain⟨v2,a2,_⟩:=yQ bd (k:=2) (by decide) (by lia);obtain⟨v3,a3,_⟩:=yQ bd (k:=3) (by decide) (by lia);obtain⟨v4,a4,_⟩:=yQ bd (k:=4) (by decide) (by lia);obtain⟨v5,a5,_⟩:=yQ bd (k:=5) (by decide) (by lia);have sq:∀{H':Hp},H' a=some (.lst (rows.map V.int))->Sq K H' a (rows.map V.int):=λh=>.inl (SqL.of h);obtain⟨mk,hmk,kv⟩:=lw.ma;have lrm:(mk.map λkv=>kV kv.1)=(S.marks.map (·.1)).map V.str:=zC8 kv
 refine'⟨_,(zC (yB 3 yF.nd (yK zCc rfl Z.sorted zBa (zH (wC (qL rfl) rfl Z.list zBp (zH (zL (yA hr) (pv 1) zM (λ_ _=>rfl)) zO)) zO)))
   (zC (zI2 (i:=4) (j:=5) rfl yF.nd rfl rfl (by decide) rfl rfl ?_ rfl)
   (zC (zCd (zL (yA hr) (zL (yA hr) (pv 1) zM (λ_ _=>rfl)) (pv 4) (λ_ _=>rfl)) (rN rfl (yJ (vG 6 yF.nd) (yJ (vG 7 yF.nd) vR))))
   (zC (yB 8 yF.nd (uG zHt ?_ (uG zI1 (yK wN rfl Z.len sR (zH (zL (yA hr) (pv 1) zM (λ_ _=>rfl)) zO)) xY)))
   (zC (yB 9 yF.nd ?_)
   (zC (yR (PW.pt (zBg ?_ (qN (yO zMr (yK tZ rfl Z.len sR (zH (zL (yA hr) (pv 1) zM (λ_ _=>rfl)) zO)) xY (yT _))))) (zC (yB 10 yF.nd ?_)
   (zF (zT ?_))) zZ)
   (zC (yR (PW.pt (zBg ?_ (zBg (yO (zWz hr.units0) (zL (yA hr) (zL (yA hr) (pv 1) zM (λ_ _=>rfl)) (pv 4) (λ_ _=>rfl)) (zL (yA hr) (zL (yA hr) (pv 1) zM (λ_ _=>rfl)) (pv 5) (λ_ _=>rfl)) (yT _)) (qN (yO zMr (yK tZ rfl Z.len sR (zH (zL (yA hr) (pv 1) zM (λ_ _=>rfl)) zO)) xY (yT _)))))) (zF (zT ?_)) zZ)
   (zC (yR (PW.pt (zBg ?_ (qN (yO (zNm hr.units0) (zL (yA hr) (pv 1) zM (λ_ _=>rfl)) ?_ (yT _))))) (zF (zT (uG zJ3 (zD3 (zH zM (zH (uG zHt ?_ (yK wN rfl Z.len sR (zH (zL (yA hr) (pv 1) zM (λ_ _=>rfl)) zO))) zO))) (pv 9)))) zZ)
   (zC (yR (PW.pt (zBg ?_ (qN (yO zMr (yK wN rfl Z.len sR (zH (zL (yA hr) (pv 1) zM (λ_ _=>rfl)) zO)) xY (yT _))))) (zF (zT (uG zJ3 ?_ (pv 9)))) zZ)
   (zC (yR (PW.pt (zBg ?_ (qN (yO (zT9 hr.units0) (zL (yA hr) (pv 1) zM (λ_ _=>rfl)) tU (yT _))))) (zF (zT (zD3 (zH zM (zH (zRc zSj (yK zHy rfl Z.sorted zBa (zH (wC (qL rfl) rfl Z.list zBp (zH (zL (yA hr) (pv 1) zM (λ_ _=>rfl)) zO)) zO)) (uG zHt ?_ (yK tZ rfl Z.len sR (zH (zL (yA hr) (pv 1) zM (λ_ _=>rfl)) zO))) (λ_ _=>rfl)) zO))))) zZ)
   (zC (zB0 (T:=["_law_name"]) (caps:=[("_law_m", 1)]) (i:=11) yF.nd rfl rfl ⟨rfl,by decide +kernel,by decide +kernel,rfl,⟨⟨rfl,rfl,Or.inl rfl⟩,True.intro⟩⟩ rfl (tQ (pv 2)) (λ_=>(vG 0 (show(["_law_name", "_law_m"]:List Str).Nodup by decide +kernel))) (λ_=>(zLe (zF9 (qF (yA hr) (pv 0) (zL (yA hr) (pv 1) zM (λ_ _=>rfl))) (by with_unfolding_all rfl)))) (λ_=>(pv 0)))
   (zC (yR (PW.pt (zBg ?_ (qN (yO (zNm hr.units0) (pv 11) ?_ (yT _))))) (zF (zT ?_)) zZ)
   (zC (zB0 (T:=["_law_place"]) (caps:=[]) (i:=12) yF.nd rfl rfl ⟨rfl,by decide +kernel,by decide +kernel,rfl,True.intro⟩ rfl (zHd (zL (yA hr) (pv 1) zM (λ_ _=>rfl))) (λ_=>(vG 0 (show(["_law_place"]:List Str).Nodup by decide +kernel))) (λ_=>xH) (λ_=>(pv 0)))
   (zC (yB 13 yF.nd ?_)
   (zC (yR (yO (zUo hr.units) (pv 13) (pv 12) (by with_unfolding_all rfl)) (zF (yB 13 yF.nd ?_)) zZ)
   (zF (zT (uG zJ3 ?_ (pv 13))))))))))))))))))),?_⟩
 nofun
 refine⟨_,rfl,d,.ref m,rfl,.inl ⟨_,.inr "marks", lw.at_,rfl,xD.symm⟩,m,mk,rfl,hmk,λp1 hp1=>?_⟩;rw[lrm];have s1:=zB hp1 (.lst ((S.marks.map (·.1)).map V.str));refine⟨p1,S.marks.map (·.1),rfl,SqL.of zA,(by rw[List.length_map]; lia),λp2 ms hp2 pm srt=>?_⟩;have s2:=zB hp2 (.lst (ms.map V.str));have s02:=s1.trans s2;have ep2:upd (upd H p1 (.lst ((S.marks.map (·.1)).map V.str))) p2 (.lst (ms.map V.str)) p2=some (.lst (ms.map V.str)):=zA;generalize upd (upd H p1 (.lst ((S.marks.map (·.1)).map V.str))) p2 (.lst (ms.map V.str))=H2 at s02 ep2 ⊢;clear s1 s2 hp1 hp2;have lms:ms.length=S.marks.length:=by rw[pm.length_eq,List.length_map]
 have lmv:((ms.map V.str).length:Int)=S.marks.length:=by rw[List.length_map,lms]
 have ha2:=s02 _ _ ha;have lw2:=lw.to (.of s02);have pq:Sq K H2 p2 (ms.map V.str):=.inl (SqL.of ep2);obtain⟨i1,h1,g1⟩:∃ n1,n1∈ms/\atI (ms.map V.str) (v1%((ms.map V.str).length:Int))=some (.str n1):=zJc (by lia);obtain⟨i2,h2,g2⟩:∃ n1,n1∈ms/\atI (ms.map V.str) (v2%((ms.map V.str).length:Int))=some (.str n1):=zJc (by lia);exists _,rfl,_,rfl,a,_,_,_,rfl,rfl,sq ha2,a1,_,rfl,p2,_,rfl,.inl (SqL.of ep2),_,_,rfl,rfl,(by show(0:Int)<((ms.map V.str).length:Int); lia),p2,_,_,.str i1,rfl,rfl,pq,g1;exists _,rfl,_,rfl,a,_,_,_,rfl,rfl,sq ha2,a2,_,rfl,p2,_,rfl,.inl (SqL.of ep2),_,_,rfl,rfl,(by show(0:Int)<((ms.map V.str).length:Int); lia),p2,_,_,.str i2,rfl,rfl,pq,g2,_,_,rfl;have mm1:i1∈S.marks.map (·.1):=pm.mem_iff.mp h1;have mm2:i2∈S.marks.map (·.1):=pm.mem_iff.mp h2;obtain⟨q1,f1⟩:=vJ mm1;obtain⟨q2,f2⟩:=vJ mm2;obtain⟨kvs,pa,hkv,t1,t2⟩:=qJ lw2.ma f1;obtain⟨kvs',pb,hkv',t3,t4⟩:=qJ lw2.ma f2;exists _,rfl,d,.ref m,rfl,.inl ⟨_,.inr "marks", lw2.at_,rfl,xD.symm⟩,_,rfl,m,.ref pa,rfl,.inl ⟨kvs,.inr i1,hkv,rfl,t1.symm⟩,pa,_,rfl,SqT.of t2,rfl,.int q1.1,_,rfl,.int q1.2,_,rfl,rfl;obtain⟨ys,er2,rr2⟩:=lw2.ru;have ly:ys.length=S.runs.length:=by rw[rr2.length,List.length_map]
 exists _,rfl,a,_,_,_,rfl,rfl,sq ha2,a3,_,rfl,d,.ref r,rfl,.inl ⟨_,.inr "runs", lw2.at_,rfl,tW.symm⟩,r,ys,rfl,.inl (SqL.of er2),_,_,rfl,rfl,_,_,rfl,rfl,(by show(0:Int)<(ys.length:Int)+1; lia);rw[ly];obtain⟨mo,emo⟩:∃ mo:Nat,v3%((S.runs.length:Int)+1)=mo:=⟨(v3%((S.runs.length:Int)+1)).toNat,(Int.toNat_of_nonneg (Int.emod_nonneg _ (by lia))).symm⟩;have hmo:mo<=S.runs.length:=by have:=Int.emod_lt_of_pos v3 (show(0:Int)<(S.runs.length:Int)+1 by lia); lia
 rw[emo];refine⟨_,rfl,a,_,_,_,rfl,rfl,sq ha2,a4,_,_,rfl,rfl,(by show(0:Int)<9; decide),_,_,rfl,rfl,_,rfl,a,_,_,_,rfl,rfl,sq ha2,a5,_,_,rfl,rfl,(by show(0:Int)<9; decide),_,_,rfl,rfl,sz2,λst hst=>?_⟩;have b4:(v4%9-4).natAbs<=4:=by lia
 have b5:(v5%9-4).natAbs<=4:=by lia
 generalize v4%9-4=U at b4 ⊢;generalize v5%9-4=W at b5 ⊢;have s3:=zB hst (.tup [.int U,.int W]);have est:upd H2 st (.tup [.int U,.int W]) st=some (.tup [.int U,.int W]):=zA;have s03:=s02.trans s3;have ha3:=s3 _ _ ha2;have lw3:=lw2.to (.of s3);have t23:=s3 _ _ t2;have t43:=s3 _ _ t4;have hkv3:Rd (upd H2 st (.tup [.int U,.int W])) m (.dK kvs):=Rd.same hkv s3;have hkv3':Rd (upd H2 st (.tup [.int U,.int W])) m (.dK kvs'):=Rd.same hkv' s3;generalize upd H2 st (.tup [.int U,.int W])=H3 at est s03 ha3 lw3 t23 t43 hkv3 hkv3' ⊢;clear s3 hst ha2 lw2 t2 t4 hkv hkv' er2 rr2 ep2 pq;obtain⟨nk,hnk,kn⟩:=lw3.no;have lnk:nk.length=S.notes.length:=by rw[kn.length]; unfold ntE; rw[List.length_map]
 have sq8:(0:Int)<8:=by decide
 have nr:zFr q1:=zNi g.mk_ f1;have bq:=bB _ (uO f1);have ct4:rS (rows.map V.int) (some ((4:Nat):Int)) none=(rows.drop 4).map V.int:=by rw[qA,HT.sIx_nat rows.length 0 4,show min 4 rows.length=4 by lia,show HT.sIx rows.length rows.length none=rows.length from rfl,List.take_of_length_le (by rw[List.length_drop]; lia)]
 have ct4:rS (rows.map V.int) (some 4) none=(rows.drop 4).map V.int:=ct4;apply zU8 (ok:=λG=>Same H3 G)
 ·intro rest;exists _,rfl,a,_,_,_,rfl,rfl,sq ha3,a0,_,_,rfl,rfl,sq8,_,_,rfl,rfl,_,rfl;refine ifD (λz=>?_) (λz=>?_);rotate_left
  ·exact xP (rest H3 (Same.refl _))
  ·exists _,rfl,d,.ref n,rfl,.inl ⟨_,.inr "notes", lw3.at_,rfl,uV.symm⟩,n,nk,rfl,hnk,_,_,rfl,rfl,_,rfl;refine ifD (λz2=>?_) (λz2=>rest H3 (Same.refl _));refine⟨_,rfl,_,rfl,a,_,rfl,SqL.of ha3,λc hc=>?_⟩;have sc:=zB hc (.lst (rS (rows.map V.int) (some 4) none));refine⟨c,rows.drop 4,3,rfl,SqL.of (by rw[zA,ct4]),(by rw[List.length_drop]; lia),(λv hv=>bd v (List.mem_of_mem_drop hv)),(by decide),(by decide),λt2 p1 p2 A0 A1 B0 B1 H4 s4 et2 e1 e2 tn n1 n2 n3 n4=>?_⟩;refine⟨_,rfl,_,rfl,_,rfl,t2,_,_,.ref p1,rfl,rfl,.inr (SqT.of et2),rfl,_,rfl,t2,_,_,.ref p2,rfl,rfl,.inr (SqT.of et2),rfl,(by show 5<=sizeLine; decide),λw hw=>?_⟩;have sw:=zB hw (.tup [.str "bearing", .int mo,.str i1,.ref p1,.ref p2]);obtain⟨w1,w2⟩:=zFq tn (Nat.le_trans n1 (by decide)) (Nat.le_trans n2 (by decide)) (Nat.le_trans n3 (by decide)) (Nat.le_trans n4 (by decide));exact q (.ref w) (.bearing mo i1 A0 A1 B0 B1) _ (.of (s03.trans (sc.trans (s4.trans sw)))) (uR zA (sw _ _ e1) (sw _ _ e2)) (.still bB ⟨by lia,by lia,by rw[f1]; rfl,w1,w2,tn,by lia⟩ rfl rfl)
 intro G1 s1;apply zU8 (ok:=λG=>Same H3 G)
 ·intro rest;exists _,rfl,a,_,_,_,rfl,rfl,sq (s1 _ _ ha3),a0,_,_,rfl,rfl,sq8,rfl,_,rfl;refine ifE (λz=>?_) (λz=>?_);rotate_left
  ·exact xP (rest G1 s1)
  ·have lwG:=lw3.to (.of s1);refine⟨_,rfl,d,.ref m,rfl,.inl ⟨_,.inr "marks", lwG.at_,rfl,xD.symm⟩,_,rfl,m,_,rfl,.inl ⟨kvs,.inr i1,Rd.same hkv3 s1,rfl,t1.symm⟩,_,rfl,d,.ref m,rfl,.inl ⟨_,.inr "marks", lwG.at_,rfl,xD.symm⟩,_,rfl,m,_,rfl,.inl ⟨kvs',.inr i2,Rd.same hkv3' s1,rfl,t3.symm⟩,
    pa,pb,[q1.1,q1.2],[q2.1,q2.2],rfl,rfl,SqT.of (s1 _ _ t23),SqT.of (s1 _ _ t43),_,rfl,?_⟩
   refine ifN (λne=>?_) (λ_=>?_);rotate_left
   ·exact xP (rest G1 s1)
   exists _,rfl,d,.ref n,rfl,.inl ⟨_,.inr "notes", lwG.at_,rfl,uV.symm⟩,n,nk,rfl,Rd.same hnk s1,_,_,rfl,rfl,_,rfl;refine ifD (λz2=>?_) (λz2=>rest G1 s1);refine⟨_,rfl,_,rfl,_,rfl,(by show 4<=sizeLine; decide),λw hw=>?_⟩;have sw:=zB hw (.tup [.str "range", .int mo,.str i1,.str i2]);exact q (.ref w) (.range mo i1 i2) _ (.of (s03.trans (s1.trans sw))) (zIj zA) (.still bB ⟨by lia,by lia,by rw[f1]; rfl,by rw[f2]; rfl,(by rw[f1,f2]; exact λy=>ne (by rw[Option.some.inj y])),by lia⟩ rfl rfl)
 intro G2 s2;clear s1;apply zU8 (ok:=λG=>Same H3 G)
 ·intro rest;exists _,rfl,a,_,_,_,rfl,rfl,sq (s2 _ _ ha3),a0,_,_,rfl,rfl,sq8,rfl,_,rfl;refine ifE (λz=>?_) (λz=>?_);rotate_left
  ·exact xP (rest G2 s2)
  ·have lwG:=lw3.to (.of s2);obtain⟨ys,er,rr⟩:=lwG.ru;have ly:ys.length=S.runs.length:=by rw[rr.length,List.length_map]
   refine⟨_,rfl,d,.ref r,rfl,.inl ⟨_,.inr "runs", lwG.at_,rfl,tW.symm⟩,sz0,λe he=>⟨r,e,ys,rfl,rfl,SqL.of (zB he (.lst []) _ _ er),SqL.of zA,_,rfl,?_⟩⟩;have se:=s2.trans (zB he (.lst []));generalize upd G2 e (.lst [])=G3 at se ⊢;refine ifB (λne=>?_) (λ_=>rest G3 se);have lw5:=lw3.to (.of se);obtain⟨zs,er5,rr5⟩:=lw5.ru;have lz:zs.length=S.runs.length:=by rw[rr5.length,List.length_map]
   have pos:0<S.runs.length:=by
    rw[<- ly];cases ys with
    | nil=>exact nomatch ne
    | cons y ys=>exact Nat.succ_pos _
   refine⟨_,rfl,a,_,_,_,rfl,rfl,sq (se _ _ ha3),a3,_,rfl,d,.ref r,rfl,.inl ⟨_,.inr "runs", lw5.at_,rfl,tW.symm⟩,r,zs,rfl,.inl (SqL.of er5),_,_,rfl,rfl,(by show(0:Int)<(zs.length:Int); lia),sz2,λu hu=>?_⟩;rw[lz];have k0:=Int.emod_nonneg v3 (show(S.runs.length:Int)≠0 by lia);have k1:=Int.emod_lt_of_pos v3 (show(0:Int)<(S.runs.length:Int) by lia);generalize v3%(S.runs.length:Int)=k at k0 k1 ⊢;have su:=zB hu (.tup [.str "right", .int k]);refine⟨_,rfl,u,st,_,_,rfl,rfl,SqT.of zA,SqT.of (su _ _ (se _ _ est)),(λz=>nomatch z),(by show 4<=sizeLine; decide),(λz=>nomatch z),λ_ w hw=>?_⟩;have sw:=zB hw (.tup ([.str "right", .int k]++[.int U,.int W]));exact q (.ref w) (.right k U W) _ (.of (s03.trans (se.trans (su.trans sw)))) (zOu zA) (.still bB ⟨k0,k1,⟨by dsimp only; lia,by dsimp only; lia,by dsimp only; lia,by dsimp only; lia⟩⟩ rfl rfl)
 intro G3 s3;clear s2;apply zU8 (ok:=λG=>Same H3 G)
 ·intro rest;exists _,rfl,a,_,_,_,rfl,rfl,sq (s3 _ _ ha3),a0,_,_,rfl,rfl,sq8,rfl,_,rfl;refine ifE (λz=>?_) (λz=>?_);rotate_left
  ·exact xP (rest G3 s3)
  ·have lwG:=lw3.to (.of s3);obtain⟨ys,er,rr⟩:=lwG.ru;have ly:ys.length=S.runs.length:=by rw[rr.length,List.length_map]
   exists _,rfl,d,.ref r,rfl,.inl ⟨_,.inr "runs", lwG.at_,rfl,tW.symm⟩,r,ys,rfl,.inl (SqL.of er),_,_,rfl,rfl,_,rfl;refine ifD (λz2=>?_) (λz2=>rest G3 s3);refine⟨sz1,λu hu=>?_⟩;have su:=zB hu (.tup [.str "sail"]);refine⟨_,rfl,u,st,_,_,rfl,rfl,SqT.of zA,SqT.of (su _ _ (s3 _ _ est)),(λz=>nomatch z),sz3,(λz=>nomatch z),λ_ w hw=>?_⟩;have sw:=zB hw (.tup ([.str "sail"]++[.int U,.int W]));exact q (.ref w) (.sail U W) _ (.of (s03.trans (s3.trans (su.trans sw)))) (zKx zA) (.still bB ⟨⟨by dsimp only; lia,by dsimp only; lia,by dsimp only; lia,by dsimp only; lia⟩,by lia⟩ rfl rfl)
 intro G4 s4;clear s3;apply zU8 (ok:=λG=>Same H3 G)
 ·intro rest;exists _,rfl,a,_,_,_,rfl,rfl,sq (s4 _ _ ha3),a0,_,_,rfl,rfl,sq8,rfl,_,rfl;refine ifE (λz=>?_) (λz=>?_);rotate_left
  ·exact xP (rest G4 s4)
  ·have lwG:=lw3.to (.of s4);refine⟨_,rfl,d,.ref n,rfl,.inl ⟨_,.inr "notes", lwG.at_,rfl,uV.symm⟩,λe he=>⟨n,e,nk,rfl,rfl,Rd.same hnk (s4.trans (zB he (.dK []))),zA,_,rfl,?_⟩⟩;have se:=s4.trans (zB he (.dK []));generalize upd G4 e (.dK [])=G5 at se ⊢;refine ifB (λne=>?_) (λ_=>rest G5 se);have lw5:=lw3.to (.of se);have pos:0<S.notes.length:=by
    rw[<- lnk];cases nk with
    | nil=>exact nomatch ne
    | cons y ys=>exact Nat.succ_pos _
   have lkn:(nk.map λkv=>kV kv.1)=(S.notes.map (·.1)).map V.int:=zLs kn;have few:=g.few.no;refine⟨_,rfl,d,.ref n,rfl,.inl ⟨_,.inr "notes", lw5.at_,rfl,uV.symm⟩,n,nk,rfl,Rd.same hnk se,λp1 hp1=>?_⟩;rw[lkn];have s6:=zB hp1 (.lst ((S.notes.map (·.1)).map V.int));refine⟨p1,S.notes.map (·.1),rfl,SqL.of zA,(by rw[List.length_map]; lia),λp2 ks hp2 pk srt=>?_⟩;have s7:=zB hp2 (.lst (ks.map V.int));have s57:=(s6.trans s7);have ep2:upd (upd G5 p1 (.lst ((S.notes.map (·.1)).map V.int))) p2 (.lst (ks.map V.int)) p2=some (.lst (ks.map V.int)):=zA;generalize upd (upd G5 p1 (.lst ((S.notes.map (·.1)).map V.int))) p2 (.lst (ks.map V.int))=G6 at s57 ep2 ⊢;have se6:=se.trans s57;have lw6:=lw3.to (.of se6);obtain⟨k,hk,ek⟩:=zT7 (x:=v3) (n:=(nk.length:Int)) (ms:=ks) (by lia) (by rw[pk.length_eq,List.length_map,lnk]);refine⟨_,rfl,a,_,_,_,rfl,rfl,sq (se6 _ _ ha3),a3,_,rfl,d,.ref n,rfl,.inl ⟨_,.inr "notes", lw6.at_,rfl,uV.symm⟩,n,nk,rfl,Rd.same hnk se6,_,_,rfl,rfl,(by show(0:Int)<(nk.length:Int); lia),p2,_,_,.int k,rfl,rfl,.inl (SqL.of ep2),ek,sz2,λw hw=>?_⟩;have sw:=zB hw (.tup [.str "strike", .int k]);exact q (.ref w) (.strike k) _ (.of (s03.trans (se6.trans sw))) (zMb zA) (.still bB (pk.mem_iff.mp hk) rfl rfl)
 intro G5 s5;clear s4;have lw5:=lw3.to (.of s5);have hmk5:Rd G5 m (.dK mk):=Rd.same (Rd.same hmk s03) s5;have eR5:=s5 _ _ (s03 _ _ eR);refine⟨_,rfl,R,rfl,.inl ⟨⟨_,SqL.of eR5⟩,λcc D hD=>zHp (K:=K) (a:=R) (xs:=ns.map V.str) (λi σ ys H'=>H'=upd G5 D (.lst ys)/\(∃ zs:List Str,ys=zs.map V.str/\zs.length<=i/\∀ z∈zs,z∈ns/\zV S z=none)/\∃ u:Option V,σ=[u,some (.ref d)])
  ⟨rfl,⟨[],rfl,Nat.le_refl _,λz hz=>(nomatch hz)⟩,none,rfl⟩ (λi σ ys H' _ hP=>by
   obtain⟨rfl,_⟩:=hP;exact⟨SqL.of (zB hD _ _ _ eR5),zA⟩) ?_ ?_⟩⟩
 ·rintro i x σ ys H' gx ⟨rfl,⟨zs,rfl,lz,az⟩,u,rfl⟩;rw[List.getElem?_map,Option.map_eq_some_iff] at gx;obtain⟨nm,gn,rfl⟩:=gx;have sD:=zB hD (.lst (zs.map V.str));have mn:=List.mem_of_getElem? gn;have li:i<5:=by rw[<- ln]; exact(List.getElem?_eq_some_iff.mp gn).1
  exists _,rfl,_,rfl,d,.ref m,rfl,.inl ⟨_,.inr "marks", Rd.same lw5.at_ sD,rfl,xD.symm⟩,m,_,rfl,.inl ⟨mk,.inr nm,Rd.same hmk5 sD,rfl,rfl⟩,_,rfl;refine ifB (λno=>?_) (λ_=>⟨rfl,⟨zs,rfl,by lia,az⟩,_,rfl⟩);have nn:zV S nm=none:=by
   have e:=kv.isSome (k:=.inr nm);rw[qW,Option.isSome_map] at e;rw[e] at no;cases h:zV S nm with
   | none=>rfl
   | some p=>rw[h] at no; exact nomatch no
  refine⟨_,rfl,zA,Nat.lt_of_le_of_lt (by rw[List.length_map]; lia : _<=5) (by decide),(by rw[zPk]),⟨zs++[nm],(by rw[List.map_append]; rfl),(by rw[List.length_append]; show _+1<=_; lia),λz hz=>?_⟩,_,rfl⟩;rcases List.mem_append.mp hz with h | h
  ·exact az z h
  ·rw[List.mem_singleton.mp h]; exact⟨mn,nn⟩
 rintro σ ys G6 ⟨rfl,⟨zs,rfl,lz,az⟩,u,rfl⟩;have s6:=s5.trans (zB hD (.lst (zs.map V.str)));have eF:upd G5 D (.lst (zs.map V.str)) D=some (.lst (zs.map V.str)):=zA;generalize upd G5 D (.lst (zs.map V.str))=G6 at s6 eF ⊢;clear s5 lw5 hmk5 eR5 hD;apply zU8 (ok:=λG=>Same H3 G)
 ·intro rest;exists _,rfl,a,_,_,_,rfl,rfl,sq (s6 _ _ ha3),a0,_,_,rfl,rfl,sq8,rfl,_,rfl;refine ifE (λz=>?_) (λz=>?_);rotate_left
  ·exact xP (rest G6 s6)
  ·refine⟨_,rfl,sz0,λe he=>⟨D,e,_,rfl,rfl,SqL.of (zB he (.lst []) _ _ eF),SqL.of zA,_,rfl,?_⟩⟩;have se:=s6.trans (zB he (.lst []));have eF7:=zB he (.lst []) _ _ eF;generalize upd G6 e (.lst [])=G7 at se eF7 ⊢;refine ifB (λne=>?_) (λ_=>rest G7 se);cases zs with
   | nil=>exact nomatch ne
   | cons nm zs =>
    obtain⟨mn,nn⟩:=az nm (.head _);have est7:=se _ _ est;refine⟨_,rfl,D,_,_,.str nm,rfl,rfl,.inl (SqL.of eF7),(show atI (List.map V.str (nm::zs)) ((0:Nat):Int)=some (.str nm) from qR rfl),_,rfl,_,_,rfl,rfl,_,rfl,st,_,_,.int U,rfl,rfl,.inr (SqT.of est7),rfl,_,_,rfl,rfl,_,rfl,_,rfl,st,_,_,.int W,rfl,rfl,.inr (SqT.of est7),rfl,_,_,rfl,rfl,(by show 4<=sizeLine; decide),λw hw=>?_⟩;have sw:=zB hw (.tup [.str "mark", .str nm,.int (q1.1+1+U),.int (q1.2+W)]);exact q (.ref w) (.mark nm (q1.1+1+U) (q1.2+W)) _ (.of (s03.trans (se.trans sw))) (zLl zA) (zN8 bB ⟨okn nm mn,nn,⟨by dsimp only; lia,by dsimp only; lia,by dsimp only; lia,by dsimp only; lia⟩,by lia⟩ (by lia) (by lia))
 intro G7 s7;clear s6 eF;have lw7:=lw3.to (.of s7);have hmk7:Rd G7 m (.dK mk):=Rd.same (Rd.same hmk s03) s7;have est7:=s7 _ _ est;obtain⟨es,ees,hes,mes⟩:∃ es:List (Addr×List Int),mk.map (·.2)=(es.map (·.1)).map V.ref/\(∀ t∈es,G7 t.1=some (.tup (t.2.map V.int)))/\es.map (·.2)=(S.marks.map (·.2)).map λp=>[p.1,p.2]:=by
  refine zLk ?_;have:=(kv.to (.of (s03.trans s7))).vals;unfold mkE at this;rw[List.map_map] at this ⊢;exact this
 refine⟨_,rfl,d,.ref m,rfl,.inl ⟨_,.inr "marks", lw7.at_,rfl,xD.symm⟩,m,mk,rfl,hmk7,λo H8 fz=>?_⟩;have s8:Sam G7 H8:=zEl hmk7 fz;have lmk:mk.length<=15:=by rw[kv.length]; unfold mkE; rw[List.length_map]; exact m15
 refine λcc D hD=>zHg (λi σ ys H'=>H'=upd H8 D (.lst ys)/\ys=(mk.map (·.2)).take i/\∃ u:Option V,σ=[u])
  ⟨rfl,by rw[List.take_zero],none,rfl⟩ (λi σ ys H' hP=>by
   obtain⟨rfl,_⟩:=hP;exact⟨zB hD _ _ _ fz.1,zA⟩) ?_ ?_
 ·rintro i x σ ys H' gx ⟨rfl,rfl,u,rfl⟩;refine⟨_,rfl,zA,Nat.lt_of_le_of_lt (by rw[List.length_take,List.length_map]; lia : _<=15) (by decide),(by rw[zPk]),(by rw[List.take_succ,gx]; rfl),_,rfl⟩
 rintro σ ys H' ⟨rfl,rfl,u,rfl⟩;rw[List.take_of_length_le (Nat.le_refl _),ees];have sD:=zB hD (.lst ((es.map (·.1)).map V.ref));have s9:=s8.trans (.of sD);have eT:upd H8 D (.lst ((es.map (·.1)).map V.ref)) D=some (.lst ((es.map (·.1)).map V.ref)):=zA;generalize upd H8 D (.lst ((es.map (·.1)).map V.ref))=H9 at s9 eT ⊢;clear s8 sD hD fz;have est9:=s9.tup id est7;refine⟨_,rfl,_,rfl,st,_,_,.int U,rfl,rfl,.inr (SqT.of est9),rfl,_,_,rfl,rfl,_,rfl,_,rfl,st,_,_,.int W,rfl,rfl,.inr (SqT.of est9),rfl,_,_,rfl,rfl,sz2,λth hth=>?_⟩;have s10:=zB hth (.tup [.int (q1.1+U),.int (q1.2+W)]);have eth:upd H9 th (.tup [.int (q1.1+U),.int (q1.2+W)]) th=some (.tup [.int (q1.1+U),.int (q1.2+W)]):=zA;have eT10:=s10 _ _ eT;have s11:Sam G7 (upd H9 th (.tup [.int (q1.1+U),.int (q1.2+W)])):=s9.trans (.of s10);generalize upd H9 th (.tup [.int (q1.1+U),.int (q1.2+W)])=G at eth eT10 s11 ⊢;exists _,rfl,_,rfl,th,D,[q1.1+U,q1.2+W],es,rfl,rfl,eth,SqL.of eT10,(λt ht=>s11.tup id (hes t ht)),_,rfl;refine ifB (λ_=>?_) (λno=>?_)
 ·refine⟨_,rfl,_,rfl,sz2,λt' ht'=>?_⟩;have s12:=zB ht' (.tup [.int q1.1,.int q1.2]);have et:upd G t' (.tup [.int q1.1,.int q1.2]) t'=some (.tup [.int q1.1,.int q1.2]):=zA;have sG:=s11.trans (.of s12);generalize upd G t' (.tup [.int q1.1,.int q1.2])=G' at et sG ⊢;have gr:=zIw (t:=q1) bB g f1 (by lia) (.inl rfl) (by lia) (by lia);refine⟨_,rfl,sz2,λu hu=>?_⟩;have su:=zB hu (.tup [.str "move", .str i1]);refine⟨_,rfl,u,t',_,_,rfl,rfl,SqT.of zA,SqT.of (su _ _ et),(λz=>nomatch z),(by show 4<=sizeLine; decide),(λz=>nomatch z),λ_ w hw=>?_⟩;have sw:=zB hw (.tup ([.str "move", .str i1]++[.int (q1.1),.int (q1.2)]));exact q (.ref w) (.move i1 (q1.1) (q1.2)) _ ((xJ.of (s03.trans s7)).trans (sG.trans (.of (su.trans sw)))) (zLt zA) gr
 ·have gr:=zIw (t:=(q1.1+U,q1.2+W)) bB g f1 (by lia) (.inr λe he z=>by
   have hm:[e.2.1,e.2.2]∈es.map (·.2):=by rw[mes,List.map_map]; exact List.mem_map.mpr ⟨e,he,rfl⟩
   obtain⟨t,ht,et⟩:=List.mem_map.mp hm;have:=List.any_eq_false.mp no t ht;exact this (decide_eq_true (by rw[et,z]))) (by dsimp only; lia) (by dsimp only; lia)
  refine⟨_,rfl,sz2,λu hu=>?_⟩;have su:=zB hu (.tup [.str "move", .str i1]);refine⟨_,rfl,u,th,_,_,rfl,rfl,SqT.of zA,SqT.of (su _ _ eth),(λz=>nomatch z),(by show 4<=sizeLine; decide),(λz=>nomatch z),λ_ w hw=>?_⟩;have sw:=zB hw (.tup ([.str "move", .str i1]++[.int (q1.1+U),.int (q1.2+W)]));exact q (.ref w) (.move i1 (q1.1+U) (q1.2+W)) _ ((xJ.of (s03.trans s7)).trans (s11.trans (.of (su.trans sw)))) (zLt zA) gr
theorem xJ.over{φ:Addr->Prop}{H H1 H2:Hp}{D:Addr}(s:xJ φ H H1)(t:xJ (λx=>x=D) H1 H2)(n:H1 D=none):xJ φ H H2:=λx o hx e=>by
 rcases s x o hx e with e1 | ⟨ob,kvs,e0,e1⟩
 ·exact t x o (λz=>by rw[z,n] at e1; cases e1) e1
 ·subst e0;rcases t x _ (λz=>by rw[z,n] at e1; cases e1) e1 with e2 | ⟨_,_,z,_⟩
  ·exact .inr ⟨ob,kvs,rfl,e2⟩
  ·cases z
theorem ifNB{b:Bool}{A B:Prop}(h1:b=false->A)(h2:b=true->B):if (!b)=true then A else B:=by
 cases b
 ·exact h1 rfl
 ·exact h2 rfl
theorem zK3{φ:Addr->Prop}{H H':Hp}{a:Addr}{o:Obj}{u:HO}(s:xJ φ H H')(n:¬ φ a)(e:H a=some (.frz o u)):H' a=some (.frz o u):=by
 rcases s a _ n e with z | ⟨_,_,z,_⟩
 ·exact z
 ·cases z
theorem zV8{H:Hp}{a D:Addr}{u:HO}(h:Rd H a u)(n:H D=none):a≠D:=λz=>by
 rcases h with h | ⟨o,h⟩ <;> rw[z,n] at h <;> cases h
theorem cutLv{ok:Hp->Prop}{G:Prop}{R:Hp->Prop}(h1:(∀ H,ok H->R H)->G)(h2:∀ H,ok H->R H):G:=h1 h2
theorem LwP.put{H:Hp}{d F:Addr}{S:BS}{xs ys:List V}(h:LwP H d F S)(e:H F=some (.lst xs)):LwP (upd H F (.lst ys)) d F S:=by
 obtain⟨m,b,r,n,ne,q⟩:=h;exact⟨m,b,r,n,ne,q.samE (xC e) (λa kvs h z=>by
  rw[z] at h;rcases h with h | ⟨o,h⟩ <;> rw[e] at h <;> cases h) (wM e) (λ_ _=>ne)⟩
theorem LwN.p{H0 H:Hp}{d F:Addr}{S:BS}{xs:List V}(h:LwN H0 H d S)(e:H0 F=some (.lst xs)):LwP H d F S:=by
 obtain⟨m,b,r,n,no,q⟩:=h;exact⟨m,b,r,n,(λz=>by rw[z,e] at no; cases no),q⟩
theorem zQv{H:Hp}{w t:Addr}{n:Str}{qs:List Pr}(hw:H w=some (.tup [.str "bank", .str n,.ref t]))(ht:H t=some (.tup (zQ qs)))(pk:zCg H 1000 qs):Rep H (Deed.bank n (qs.map (·.2))).dt (.ref w):=by
 refine yL.mpr ⟨w,_,rfl,hw,zI.mpr ⟨_,_,rfl,zY.mpr rfl,.two (zY.mpr rfl) (yL.mpr ⟨t,_,rfl,ht,?_⟩)⟩⟩;clear hw ht
 induction qs with
 | nil=>exact zX.mpr rfl
 | cons q qs ih=>exact zI.mpr ⟨_,_,rfl,sB (p:=q.2) (pk q (.head _)).1,ih λt ht=>pk t (.tail _ ht)⟩
theorem zPl{H:Hp}{w:Addr}{n:Str}(hw:H w=some (.tup [.str "level", .str n])):Rep H (Deed.level n).dt (.ref w):=yL.mpr ⟨w,_,rfl,hw,.two (zY.mpr rfl) (zY.mpr rfl)⟩
theorem zMn{H:Hp}{w:Addr}{n:Str}(hw:H w=some (.tup [.str "unmark", .str n])):Rep H (Deed.unmark n).dt (.ref w):=yL.mpr ⟨w,_,rfl,hw,.two (zY.mpr rfl) (zY.mpr rfl)⟩
theorem zLg:∀{l:List Deed}{S:BS},(yI S l).marks.length<=S.marks.length+l.length
 | [],_=>Nat.le_refl _
 | D::l,S=>by
  have h:=zLg (l:=l) (S:=aft S D);have h1:(aft S D).marks.length<=S.marks.length+1:=by
   cases D <;> first
    | exact Nat.le_succ _
    | (show(S.marks++[_]).length<=_; rw[List.length_append]; exact Nat.le_refl _)
    | (show(S.marks.map _).length<=_; rw[List.length_map]; exact Nat.le_succ _)
    | exact Nat.le_succ_of_le (List.length_filter_le _ _)
  rw[List.length_cons];show(yI (aft S D) l).marks.length<=_;lia
theorem sX{S:BS}{l:List Deed}{D:Deed} : yI S (l++[D])=aft (yI S l) D:=by
 unfold yI;rw[List.foldl_append];rfl
def qV(_:PySem.W.Frag):Sp:=λvs H Q _=>∃(a L R:Addr)(rows:List Int)(xs:List V)(Ds:List Deed)(ns:List Str),vs=[.ref a,.ref L,.ref R]/\H a=some (.lst (rows.map V.int))/\180<=rows.length/\(∀ v∈rows,0<=v/\v<1000003)/\H L=some (.lst xs)/\yV H (Ds.map Deed.dt) xs/\Ds.length<=14/\wB BS.nil Ds/\zSs (yI BS.nil Ds) /\
 H R=some (.lst (ns.map V.str))/\ns.length=5/\(∀ n∈ns,sN n) /\
 ∀(l:Addr)(ys:List V)(Es:List Deed)(H':Hp),Sam H H'->H l=none->H' l=some (.lst ys)->yV H' (Es.map Deed.dt) ys->3<=Es.length->Es.length<=30->wB BS.nil Es->Q (.ref l) H'
theorem zEq(F:Fun K "_law_more_deeds" "_law_more_deeds" uU f fd)(Z:Zs mg)(CB:Cb P w mg base)(yBl:Has P w K mg base "_law_after" 1 ["_law_m", "_law_deed"] (zFm K))(yAz:Has P w K mg base "_law_good_deed" 3 ["_law_d", "_law_m", "_law_names_here"] (zAh K))(yBs:Has P w K mg base "_law_bank" 3 ["_law_d", "_law_wide"] (zIh K))(yBw:Has P w K mg base "_law_new" 1 [] (zG3 K)):xE P w K mg base CX0 4 f fd ["_law_some", "_law_deeds", "_law_names_here"] (qV K):=by
 specialize yN
 ·obtain⟨a,L,R,rows,xs,Ds,ns,rfl,_⟩:=h;rfl
 obtain⟨a,L,R,rows,xs,Ds,ns,rfl,ha,l180,bd,eL,rp,l14,ch,mn,eR,ln,okn,q⟩:=h;obtain⟨v94,a94,_⟩:=yQ bd (k:=94) (by decide) (by lia);obtain⟨v95,a95,_⟩:=yQ bd (k:=95) (by decide) (by lia);obtain⟨v96,a96,_⟩:=yQ bd (k:=96) (by decide) (by lia);have sq:∀{H':Hp},H' a=some (.lst (rows.map V.int))->Sq K H' a (rows.map V.int):=λh=>.inl (SqL.of h);have cut:∀ k:Nat,k<=rows.length->rS (rows.map V.int) (some (k:Int)) none=(rows.drop k).map V.int:=λk hk=>by
  rw[qA,HT.sIx_nat rows.length 0 k,Nat.min_eq_left hk,show HT.sIx rows.length rows.length none=rows.length from rfl,List.take_of_length_le (by rw[List.length_drop]; lia)]
 have ct85:rS (rows.map V.int) (some 85) none=(rows.drop 85).map V.int:=cut 85 (by lia)
 refine'⟨_,(zC (yB 3 yN.nd (zEe yBw (hr.mono (by decide)) rfl))
   (zC (yB 4 yN.nd ?_)
   (zC (yB 5 yN.nd ?_)
   (zC (uH PassesOwn.never rfl (tQ (uG zFs (pv 1) ?_)) (vG 6 yN.nd) (zC (yB 3 yN.nd ?_)
   (zF (zS (rZ (pv 4) (zH (pv 6) zO))))))
   (zC (uH PassesOwn.never rfl (wD rfl Z.range ?_) (vG 7 yN.nd) (zC (zS (rZ (pv 4) ?_))
   (zF (yB 3 yN.nd ?_))))
   (zC (yR ?_ (zF (zS (rZ (pv 4) ?_))) zZ)
   (zC (zOn (T:=["_law_name"]) (caps:=[("_law_m", 3)]) (i:=8) yN.nd rfl rfl ⟨rfl,by decide +kernel,by decide +kernel,rfl,⟨⟨rfl,rfl,Or.inl rfl⟩,True.intro⟩⟩ rfl (zTd (zL (yA hr) (pv 3) zM (λ_ _=>rfl))) (λ_=>(vG 0 (show(["_law_name", "_law_m"]:List Str).Nodup by decide +kernel))) (λ_=>(zLe (zDt (zEa (yK (zH2 rfl) rfl Z.any zSp (zH (uL (T:=["_law_note"]) (caps:=[("_law_name", 0)]) ⟨rfl,by decide +kernel,by decide +kernel,rfl,⟨⟨rfl,rfl,Or.inl rfl⟩,True.intro⟩⟩ rfl (zHd (zL (yA hr) (pv 1) zM (λ_ _=>rfl))) (λ_=>(vG 0 (show(["_law_note", "_law_name"]:List Str).Nodup by decide +kernel))) (λ_=>xH) (λ_=>(rJ (zSh (yA hr)) (pv 1) (wY zE0 (pv 0) (uJ xY) vO) (by with_unfolding_all rfl)))) zO)))))) (λ_=>(pv 0)))
   (zC (yR (PW.pt (zBg ?_ (qN (yO (zNm hr.units0) (pv 8) ?_ (yT _))))) (zF (zS (rZ (pv 4) (zH (zD3 (zH zM (zH (yK (zOq rfl) rfl Z.min zS9 (zH (pv 8) zO)) zO))) zO)))) zZ)
   (zF (zT (pv 4))))))))))),?_⟩
 nofun
 refine⟨rfl,λd m b r n H1 s1 hd hm hr0 ed em eb er en _ _=>?_⟩;have lw1:LwA H1 d m b r n BS.nil:=⟨.inl ed,.nil em,.nil eb,⟨[],er,zX.mpr rfl⟩,.nil en⟩;refine⟨sz0,λF hF=>?_⟩;have sF:=zB hF (.lst []);have hF0:H F=none:=s1.free hF;have nrF:r≠F:=zG er hF;have eF2:upd H1 F (.lst []) F=some (.lst []):=zA;have lw2:=lw1.to (.of sF);have s02:=s1.trans sF;generalize upd H1 F (.lst [])=H2 at eF2 lw2 s02 ⊢;clear sF hF s1 lw1 ed em eb er en hd hm hr0;refine⟨_,rfl,_,rfl,a,_,rfl,SqL.of (s02 _ _ ha),λc hc=>?_⟩;rw[ct85];have sc:=s02.trans (zB hc (.lst ((rows.drop 85).map V.int)));have ec:upd H2 c (.lst ((rows.drop 85).map V.int)) c=some (.lst ((rows.drop 85).map V.int)):=zA;have eF3:=zB hc (.lst ((rows.drop 85).map V.int)) _ _ eF2;have lw3:=lw2.to (.of (zB hc (.lst ((rows.drop 85).map V.int))));generalize upd H2 c (.lst ((rows.drop 85).map V.int))=H3 at sc ec eF3 lw3 ⊢;refine⟨sz2,λe he=>?_⟩;have se:=zB he (.lst [.int 2,.int 30]);obtain⟨wd,ew,w1,w30⟩:∃ wd:Int,atI [V.int 2,.int 30] (v94%2)=some (.int wd)/\1<=wd/\wd<=30:=by
  have h0:=Int.emod_nonneg v94 (show(2:Int)≠0 by decide);have h1:=Int.emod_lt_of_pos v94 (show(0:Int)<2 by decide);rcases (show v94%2=0\/v94%2=1 by lia) with z | z
  ·exact⟨2,by rw[z]; rfl,by decide,by decide⟩
  ·exact⟨30,by rw[z]; rfl,by decide,by decide⟩
 exists _,rfl,a,_,_,_,rfl,rfl,sq (se _ _ (sc _ _ ha)),a94,_,_,rfl,rfl,gt2,e,_,_,.int wd,rfl,rfl,.inl (SqL.of zA),ew;refine⟨c,rows.drop 85,wd,rfl,SqL.of (se _ _ ec),(by rw[List.length_drop]; lia),(λv hv=>bd v (List.mem_of_mem_drop hv)),w1,w30,λP qs H4 s4 hP eP pk bs=>?_⟩;have s24:=(zB he (.lst [.int 2,.int 30])).trans s4;have s04:=sc.trans s24;have eF4:=s24 _ _ eF3;have lw4:=lw3.to (.of s24);clear s24 se s4 hP ec he;obtain⟨bn,mb,gb⟩:∃ n1,n1∈ns/\atI (ns.map V.str) (v95%5)=some (.str n1):=by
  have:=zJc (ms:=ns) (x:=v95) (by rw[List.length_map,ln]; decide);rw[List.length_map,ln] at this;exact this
 refine⟨_,rfl,_,rfl,_,rfl,a,_,_,_,rfl,rfl,sq (s04 _ _ ha),a95,_,_,rfl,rfl,gt5,R,_,_,.str bn,rfl,rfl,.inl (SqL.of (s04 _ _ eR)),gb,_,rfl,P,_,rfl,.inl ⟨SqL.of eP,λT hT=>?_⟩⟩;have s5:=zB hT (.tup (zQ qs));refine⟨sz3,λt ht=>?_⟩;have s6:=zB ht (.tup [.str "bank", .str bn,.ref T]);refine⟨sz1,λl1 hl1=>?_⟩;have s7:=zB hl1 (.lst [.ref t]);have s47:=(s5.trans s6).trans s7;have s07:=s04.trans s47;have lx:xs.length=Ds.length:=by rw[rp.length,List.length_map]
 refine⟨L,l1,xs,_,rfl,rfl,s07 _ _ eL,zA,zR0 (by show xs.length+1<=1000; lia),λl2 hl2=>?_⟩;have s8:=zB hl2 (.lst (xs++[.ref t]));have s48:=s47.trans s8;have et:=(s7.trans s8) _ _ (show upd (upd H4 T (.tup (zQ qs))) t (.tup [.str "bank", .str bn,.ref T]) t=_ from zA);have eT:=((s6.trans s7).trans s8) _ _ (show upd H4 T (.tup (zQ qs)) T=_ from zA);have el2:upd (upd (upd (upd H4 T (.tup (zQ qs))) t (.tup [.str "bank", .str bn,.ref T])) l1 (.lst [.ref t])) l2 (.lst (xs++[.ref t])) l2=some (.lst (xs++[.ref t])):=zA;generalize upd (upd (upd (upd H4 T (.tup (zQ qs))) t (.tup [.str "bank", .str bn,.ref T])) l1 (.lst [.ref t])) l2 (.lst (xs++[.ref t]))=H8 at s48 et eT el2 ⊢;have s08:=s04.trans s48;have pk8:=pk.same s48;have lw8:=lw4.to (.of s48);have eF8:=s48 _ _ eF4;clear s5 s6 s7 s47 s07 s8 hT ht hl1 hl2 s48 eF4 lw4 pk eP;have rp8:yV H8 ((Ds++[Deed.bank bn (qs.map (·.2))]).map Deed.dt) (xs++[.ref t]):=by
  rw[List.map_append];exact yV.app (rp.to (.of s08)) (.one (zQv et eT pk8))
 have nr8:∀ c∈qs.map (·.2),zFr c:=λc hc=>by
  obtain⟨u,hu,rfl⟩:=List.mem_map.mp hc;obtain⟨_,b1,b2⟩:=pk8 u hu;exact⟨by lia,by lia,by lia,by lia⟩
 have chF:wB BS.nil (Ds++[Deed.bank bn (qs.map (·.2))]):=uQ ch ⟨okn bn mb,(by rw[mn.bk]; exact λz=>(nomatch z)),nr8,zTo bs,(by rw[mn.bk]; decide)⟩;have sF:=sX (S:=BS.nil) (l:=Ds) (D:=Deed.bank bn (qs.map (·.2)));have bkF:(yI BS.nil (Ds++[Deed.bank bn (qs.map (·.2))])).banks=[(bn,qs.map (·.2))]:=by rw[sF]; show(yI BS.nil Ds).banks++_=_; rw[mn.bk]; rfl
 have mkF:(yI BS.nil (Ds++[Deed.bank bn (qs.map (·.2))])).marks=(yI BS.nil Ds).marks:=by rw[sF]; rfl
 have lF:(Ds++[Deed.bank bn (qs.map (·.2))]).length=Ds.length+1:=List.length_append;generalize hFs:Ds++[Deed.bank bn (qs.map (·.2))]=Fs at rp8 chF bkF mkF lF;clear sF hFs nr8 eT et pk8 bs;generalize hzs:xs++[V.ref t]=zs at rp8 el2;have lz:zs.length=Fs.length:=by rw[rp8.length,List.length_map]
 have nl2F:l2≠F:=λz=>by rw[z,eF8] at el2; rw[<- hzs] at el2; cases xs <;> cases el2
 have naF:a≠F:=λz=>by rw[z,hF0] at ha; cases ha
 have nRF:R≠F:=λz=>by rw[z,hF0] at eR; cases eR
 refine⟨l2,rfl,.inl ⟨⟨_,SqL.of el2⟩,zGk (K:=K) (a:=l2) (xs:=zs) (λi σ H'=>xJ (λx=>x=F) H8 H'/\H' F=some (.lst (zs.take i))/\∃ d',LwP H' d' F (yI BS.nil (Fs.take i))/\∃ u:Option V,σ=[some (.ref a),some (.ref L),some (.ref R),some (.ref d'),some (.ref F),some (.ref P),u,none,none])
  ⟨xJ.refl _,(by rw[List.take_zero]; exact eF8),d,⟨m,b,r,n,nrF,lw8⟩,none,rfl⟩ (λi σ H' _ hq=>SqL.of (hq.1.lst nl2F el2)) ?_ ?_⟩⟩
 ·rintro i v σ H9 hi ⟨s9,eF9,d',lw9,u,rfl⟩;have hil:i<Fs.length:=by rw[<- lz]; exact(List.getElem?_eq_some_iff.mp hi).1
  have hD:Fs[i]?=some Fs[i]:=List.getElem?_eq_getElem hil;generalize Fs[i]=D at hD;obtain⟨dt,g1,g2⟩:=rp8.back hi;rw[List.getElem?_map,hD] at g1;cases g1;have okd:=zBx chF hD;have gd:=sV (S:=BS.nil) (l:=Fs.take i) zDc (qE chF);rw[zDs hD];generalize yI BS.nil (Fs.take i)=S at lw9 okd gd;have rv:=g2.sam s9 (wM eF8);refine⟨_,rfl,_,rfl,d',v,S,D,rfl,rv,lw9.at,okd,gd.few,gd.fresh,λd'' H10 s10 hd'' lwn=>?_⟩;have eF10:=s10 _ _ eF9;have lw10:=lwn.p eF9;exists _,rfl,.inl ⟨rfl,_,SqL.of eF10⟩,_,rfl,F,_,v,rfl,rfl,eF10,zK (by rw[List.length_take]; lia);refine⟨(s9.trans (.of s10)).trans (xC eF10),(by rw[zA,List.take_succ,hi]; rfl),d'',lw10.put eF10,_,rfl⟩
 rintro σ H9 ⟨s9,eF9,d',lw9,u,rfl⟩;rw[List.take_of_length_le (by rw[lz]; exact Nat.le_refl _)] at lw9;rw[List.take_of_length_le (Nat.le_refl _)] at eF9;have rp9:=rp8.sam s9 (wM eF8);have s09:xJ (λx=>x=F) H H9:=(xJ.of s08).trans s9;have ha9:=s09.lst naF ha;have eR9:=s09.lst nRF eR;have n0:0<=v96%9:=by lia
 have n8:v96%9<=8:=by lia
 exists _,rfl,a,_,_,_,rfl,rfl,sq ha9,a96,_,_,rfl,rfl,(by show(0:Int)<9; decide);generalize v96%9=N at n0 n8;clear rp8 lw8 eF8 el2 nl2F s9 hzs;refine⟨_,rfl,(by lia),(by lia),vH (lo:=0) (n:=N.toNat) (λi σ H'=>xJ (λx=>x=F) H9 H'/\∃(Es:List Deed)(ys:List V)(d':Addr),H' F=some (.lst ys)/\yV H' (Es.map Deed.dt) ys/\Es.length=Fs.length+i/\wB BS.nil Es/\LwP H' d' F (yI BS.nil Es)/\1<=(yI BS.nil Es).marks.length/\(yI BS.nil Es).marks.length<=5+i/\Bd (yI BS.nil Es) (860+5*i)/\(yI BS.nil Es).banks=[(bn,qs.map (·.2))] /\
   ∃ u u':Option V,σ=[some (.ref a),some (.ref L),some (.ref R),some (.ref d'),some (.ref F),some (.ref P),u,u',none])
  ⟨xJ.refl _,Fs,zs,d',eF9,rp9,rfl,chF,lw9,(by rw[mkF]; have:=mn.lo; lia),(by rw[mkF]; have:=mn.hi; lia),(λe he=>mn.bd e (by rw[<- mkF]; exact he)),bkF,u,none,rfl⟩ ?_ ?_⟩
 ·rintro i σ G hi ⟨sG,Es,ys,d',eFG,rpG,lE,chE,lwG,m1,m5,bB,bkE,u,u',rfl⟩;rw[Int.zero_add];have haG:=sG.lst naF ha9;have eRG:=sG.lst nRF eR9;have ck:rS (rows.map V.int) (some (97+9*(i:Int))) none=(rows.drop (97+9*i)).map V.int:=by
   rw[show 97+9*(i:Int)=((97+9*i:Nat):Int) by lia];exact cut _ (by lia)
  refine⟨_,rfl,.inl ⟨rfl,_,SqL.of eFG⟩,_,rfl,_,rfl,_,_,rfl,rfl,zFh (by lia),_,_,rfl,rfl,_,rfl,a,_,rfl,SqL.of haG,λc hc=>?_⟩;rw[ck];have sc:=zB hc (.lst ((rows.drop (97+9*i)).map V.int));have gd:=sV (S:=BS.nil) zDc chE;refine⟨_,rfl,_,rfl,c,d',R,rows.drop (97+9*i),ns,yI BS.nil Es,860+5*i,rfl,zA,(by rw[List.length_drop]; lia),(λv hv=>bd v (List.mem_of_mem_drop hv)),(lwG.to (.of sc)).at,sc _ _ eRG,ln,okn,gd,m1,(by lia),bB,(by lia),λv D H7 s7 rv gr=>?_⟩;have s7:=(xJ.of sc).trans s7;have eF7:=s7.lst id eFG;have rp7:=rpG.to s7;have lw7:=lwG.to s7;exists F,ys,v,rfl,rfl,eF7,zK (by rw[rpG.length,List.length_map]; lia);have sE8:=xC (o:=.lst (ys++[v])) eF7;have np8:=wM eF7;have rp8:yV (upd H7 F (.lst (ys++[v]))) ((Es++[D]).map Deed.dt) (ys++[v]):=by
   rw[List.map_append];exact(yV.app rp7 (.one rv)).sam sE8 np8
  have rv8:=rv.sam sE8 np8;have eF8:upd H7 F (.lst (ys++[v])) F=some (.lst (ys++[v])):=zA;have lw8:=lw7.put (ys:=ys++[v]) eF7;have s8:xJ (λx=>x=F) H9 (upd H7 F (.lst (ys++[v]))):=sG.trans ((s7.wider λ_ z=>z.elim).trans sE8);generalize upd H7 F (.lst (ys++[v]))=H8' at rp8 rv8 eF8 lw8 s8 ⊢;refine⟨_,rfl,_,rfl,_,rfl,F,_,_,v,rfl,rfl,.inl (SqL.of eF8),zGn ys v,d',v,yI BS.nil Es,D,rfl,rv8,lw8.at,gr.ok,gd.few,gd.fresh,λd'' H10 s10 hd'' lwn=>?_⟩;have lw10:=lwn.p eF8;have e10:=sX (S:=BS.nil) (l:=Es) (D:=D);rw[<- e10] at lw10;refine⟨s8.trans (.of s10),Es++[D],ys++[v],d'',s10 _ _ eF8,rp8.to (.of s10),(by rw[List.length_append,lE]; rfl),uQ chE gr.ok,lw10,?_,?_,?_,?_,_,_,rfl⟩
  ·rw[e10]; exact Nat.le_trans m1 gr.lo
  ·rw[e10]; have:=gr.hi; lia
  ·rw[e10]; exact gr.bd
  ·rw[e10,gr.bk]; exact bkE
 rintro σ G ⟨sG,Es,ys,d',eFG,rpG,lE,chE,lwG,m1,m5,bB,bkE,u,u',rfl⟩;have haG:=sG.lst naF ha9;have eRG:=sG.lst nRF eR9;have s0G:xJ (λx=>x=F) H G:=s09.trans sG;have gd:=sV (S:=BS.nil) zDc chE;have l4:=zLg (S:=BS.nil) (l:=Ds);have l4':=mn.lo;rw[show BS.nil.marks.length=0 from rfl] at l4;have lys:ys.length<=23:=by rw[rpG.length,List.length_map]; lia
 clear sG ha9 eR9 s09 lw9 rp9 eF9 bB m5 s08 s02 lw2 lw3 eF2 eF3 sc s04;apply cutLv (ok:=λG'=>∃(Gs:List Deed)(zs':List V),xJ (λx=>x=F) G G'/\G' F=some (.lst zs')/\yV G' (Gs.map Deed.dt) zs'/\3<=Gs.length/\Gs.length<=24/\wB BS.nil Gs/\(yI BS.nil Gs).marks=(yI BS.nil Es).marks/\(yI BS.nil Gs).notes=(yI BS.nil Es).notes)
 ·intro main;exists _,rfl,a,_,_,_,rfl,rfl,sq haG,a96,_,_,rfl,rfl,zE7.of (by decide) (by decide +kernel),_,_,rfl,rfl,gt2,rfl,_,rfl;refine ifE (λz=>?_) (λz=>?_);rotate_left
  ·exact main G ⟨Es,ys,xJ.refl _,eFG,rpG,by lia,by lia,chE,rfl,rfl⟩
  ·refine⟨_,rfl,.inl ⟨rfl,_,SqL.of eFG⟩,_,rfl,_,rfl,a,_,_,_,rfl,rfl,sq haG,a95,_,_,rfl,rfl,gt5,R,_,_,.str bn,rfl,rfl,.inl (SqL.of eRG),gb,sz2,λw hw=>?_⟩;have sw:=zB hw (.tup [.str "level", .str bn]);have eFw:=sw _ _ eFG;exists F,ys,.ref w,rfl,rfl,eFw,zK (by lia);have sE:=xC (o:=.lst (ys++[.ref w])) eFw;refine main _ ⟨Es++[.level bn],ys++[.ref w],(xJ.of sw).trans sE,zA,?_,(by rw[List.length_append]; show _<=_+1; lia),(by rw[List.length_append]; show _+1<=_; lia),uQ chE (by show bn∈_; rw[bkE]; exact .head _),(by rw[sX]; rfl),(by rw[sX]; rfl)⟩;rw[List.map_append];exact(yV.app (rpG.to (.of sw)) (.one (zPl zA))).sam sE (wM eFw)
 rintro G' ⟨Gs,zs',sG',eF',rp',l3,lG,chG,mkG,noG⟩;obtain⟨m',b',r',n',nr',lwq⟩:=lwG;have lwA':LwA G' d' m' b' r' n' (yI BS.nil Es):=lwq.samE sG' (λa kvs h z=>by
  rw[z] at h;rcases h with h | ⟨o,h⟩ <;> rw[eFG] at h <;> cases h) (wM eFG) (λ_ _=>nr')
 have ha':=(s0G.trans sG').lst naF ha;have s0':=s0G.trans sG';have lzs:zs'.length<=24:=by rw[rp'.length,List.length_map]; exact lG
 clear lwq sG' s0G haG eRG eFG rpG;generalize yI BS.nil Es=S at lwA' gd mkG noG m1 bkE;obtain⟨mk,hmk,kv⟩:=lwA'.ma;have lrm:(mk.map λkv=>kV kv.1)=(S.marks.map (·.1)).map V.str:=zC8 kv;refine⟨_,rfl,d',.ref m',rfl,.inl ⟨_,.inr "marks", lwA'.at_,rfl,xD.symm⟩,m',mk,rfl,hmk,λo Hf fz=>?_⟩;have sf:Sam G' Hf:=zEl hmk fz;obtain⟨nk,hnk,kn⟩:=lwA'.no;obtain⟨ks,rfl,e1,rk⟩:=zDb kn;have lks:ks.length=S.notes.length:=by have:=congrArg List.length e1; rw[List.length_map,List.length_map] at this; exact this
 have few:=gd.few;have lmk:mk.length=S.marks.length:=by have:=congrArg List.length lrm; rw[List.length_map,List.length_map,List.length_map] at this; exact this
 have hdf:=sf.rd id lwA'.at_;have hnf:=sf.rd id hnk;have rkf:=rk.to sf;refine λcc D hD=>zSl (λi σ ys' H'=>xJ (λx=>x=D) Hf H'/\H' D=some (.lst ys')/\(∃ fs:List Str,ys'=fs.map V.str/\fs.length<=i/\∀ z∈fs,z∈S.marks.map (·.1)/\∀ e∈S.notes,zFz z e.2)/\∃ u:Option V,σ=[u,some (.ref d')])
  ⟨.of (zB hD _),zA,⟨[],rfl,Nat.le_refl _,λz hz=>(nomatch hz)⟩,none,rfl⟩ (λi σ ys' H' hP=>⟨zK3 hP.1 (λz=>by rw[z] at fz; have:=fz.1; rw[hD] at this; cases this) fz.1,hP.2.1⟩) ?_ ?_
 ·rintro i x σ ys' H' gx ⟨sD,eD,⟨fs,rfl,lf,af⟩,u,rfl⟩;rw[lrm,List.getElem?_map,Option.map_eq_some_iff] at gx;obtain⟨nm,gn,rfl⟩:=gx;have mn':=List.mem_of_getElem? gn;have li:i<60:=by have:=(List.getElem?_eq_some_iff.mp gn).1; rw[List.length_map] at this; have:=few.ma; lia
  have hd':=sD.rd (zV8 hdf hD) hdf;have hn':=sD.rd (zV8 hnf hD) hnf;have npD:∀ b xs,Hf b=some (.tup xs)->¬ b=D:=λb xs e z=>by rw[z,hD] at e; cases e
  have rk':=rkf.sam sD npD;refine⟨_,rfl,d',.ref n',rfl,.inl ⟨_,.inr "notes", hd',rfl,uV.symm⟩,n',_,rfl,hn',λo2 H2 fz2=>?_⟩;have s2:Sam H' H2:=zEl hn' fz2;have rk2:=rk'.to s2;have eD2:=s2.lst id eD;refine λcc2 D2 hD2=>zHg (λj σ2 zs2 H''=>xJ (λx=>x=D2) H2 H''/\H'' D2=some (.lst zs2)/\(∃ bs:List Bool,zs2=bs.map V.bl/\bs.length=j/\(bs.any id=false->∀ e∈S.notes.take j,zFz nm e.2))/\∃ u2:Option V,σ2=[u2,some (.str nm)])
   ⟨.of (zB hD2 _),zA,⟨[],rfl,rfl,λ_ e he=>(nomatch he)⟩,none,rfl⟩ (λj σ2 zs2 H'' hP=>⟨zK3 hP.1 (λz=>by have:=fz2.1; rw[z,hD2] at this; cases this) fz2.1,hP.2.1⟩) ?_ ?_
  ·rintro j x2 σ2 zs2 H'' gx2 ⟨s3,eD3,⟨bs,rfl,lb,ab⟩,u2,rfl⟩;have gx':(ks.map (·.2))[j]?=some x2:=by rw[List.map_map] at gx2; exact gx2
   have npD2:∀ b xs,H2 b=some (.tup xs)->¬ b=D2:=λb xs e z=>by rw[z,hD2] at e; cases e
   obtain⟨dt,gdt,rd⟩:=(rk2.sam s3 npD2).back gx';rw[List.getElem?_map,Option.map_eq_some_iff] at gdt;obtain⟨e,ge,rfl⟩:=gdt;have kn':=gd.note e (List.mem_of_getElem? ge);have lj:j<60:=by have:=(List.getElem?_eq_some_iff.mp ge).1; have:=few.no; lia
   have fin:∀(y:Bool)(Hz:Hp),Same H'' Hz->(y=false->zFz nm e.2)->Hz D2=some (.lst (bs.map V.bl))/\(bs.map V.bl).length<sizeLine/\xJ (λx=>x=D2) H2 (upd Hz D2 (.lst (bs.map V.bl++[.bl y])))/\upd Hz D2 (.lst (bs.map V.bl++[.bl y])) D2=some (.lst (bs.map V.bl++[.bl y]))/\(∃ cs:List Bool,bs.map V.bl++[.bl y]=cs.map V.bl/\cs.length=j+1/\(cs.any id=false->∀ e∈S.notes.take (j+1),zFz nm e.2)):=by
    intro y Hz sz hy;have ez:=sz _ _ eD3;refine⟨ez,Nat.lt_of_le_of_lt (by rw[List.length_map]; lia : _<=60) (by decide),(s3.trans (.of sz)).trans (xC ez),zA,bs++[y],by rw[List.map_append]; rfl,by rw[List.length_append,lb]; rfl,λh e' he'=>?_⟩;rw[List.any_append,Bool.or_eq_false_iff] at h;rw[List.take_succ,ge] at he';rcases List.mem_append.mp he' with z | z
    ·exact ab h.1 e' z
    ·rw[List.mem_singleton.mp z];refine hy ?_;have:=h.2;simpa using this
   match hE:e.2,kn',rd with
   | .bearing mo k' x1 y1 x2 y2,kn',rd =>
    obtain⟨c,c1,c2,rfl,hc,hc1,hc2⟩:=tD rd;refine⟨_,rfl,_,rfl,_,rfl,c,_,rfl,SqT.of hc,(λz=>absurd z.1 (by show ¬ HT.sIx 5 0 (some 2)=0; decide)),λp hp=>?_⟩;have sp:=zB hp (.tup (rS [.str "bearing", .int mo,.str k',.ref c1,.ref c2] (some 2) none));refine⟨p,[.str k',.ref c1,.ref c2],nm,rfl,rfl,SqT.of zA,λv hv=>?_,?_⟩
    ·rcases List.mem_cons.mp hv with z | hv
     ·exact .inl ⟨k',z⟩
     rcases List.mem_cons.mp hv with z | hv
     ·exact .inr ⟨c1,_,z,SqT.of (sp _ _ hc1)⟩
     ·exact .inr ⟨c2,_,List.mem_singleton.mp hv,SqT.of (sp _ _ hc2)⟩
    obtain⟨f1,f2,f3,f4,f5⟩:=fin ([V.str k',.ref c1,.ref c2].any (isS nm)) _ sp (λh=>by
     rw[hE];have h:((k' == nm)||(false||(false||false)))=false:=h;exact beq_eq_false_iff_ne.mp (Bool.or_eq_false_iff.mp h).1)
    exact⟨f1,f2,f3,f4,f5,_,rfl⟩
   | .range mo l1 r1,kn',rd =>
    obtain⟨c,rfl,hc⟩:=qY rd;refine⟨_,rfl,_,rfl,_,rfl,c,_,rfl,SqT.of hc,(λz=>absurd z.1 (by show ¬ HT.sIx 4 0 (some 2)=0; decide)),λp hp=>?_⟩;have sp:=zB hp (.tup (rS [.str "range", .int mo,.str l1,.str r1] (some 2) none));refine⟨p,[.str l1,.str r1],nm,rfl,rfl,SqT.of zA,λv hv=>?_,?_⟩
    ·rcases List.mem_cons.mp hv with z | hv
     ·exact .inl ⟨l1,z⟩
     ·exact .inl ⟨r1,List.mem_singleton.mp hv⟩
    obtain⟨f1,f2,f3,f4,f5⟩:=fin ([V.str l1,.str r1].any (isS nm)) _ sp (λh=>by
     rw[hE];have h:((l1 == nm)||((r1 == nm)||false))=false:=h;rw[Bool.or_false,Bool.or_eq_false_iff] at h;exact⟨beq_eq_false_iff_ne.mp h.1,beq_eq_false_iff_ne.mp h.2⟩)
    exact⟨f1,f2,f3,f4,f5,_,rfl⟩
  ·rintro σ2 zs2 H'' ⟨s3,eD3,⟨bs,rfl,lb,ab⟩,u2,rfl⟩;have lnl:((ks.map λe=>((.inl e.1:Key),e.2)).map (·.2)).length=S.notes.length:=by rw[List.length_map,List.length_map,lks]
   rw[lnl,List.take_length] at ab;have nDD:¬ D=D2:=λz=>by rw[z,hD2] at eD2; cases eD2
   have eD3':=s3.lst nDD eD2;have s23:xJ (λx=>x=D) Hf H'':=xJ.over (sD.trans (s2.wider λ_ z=>z.elim)) s3 hD2;exists D2,bs,rfl,SqL.of eD3,_,rfl;refine ifNB (λno=>?_) (λ_=>⟨s23,eD3',⟨fs,rfl,by lia,af⟩,_,rfl⟩);refine⟨_,rfl,eD3',Nat.lt_of_le_of_lt (by rw[List.length_map]; lia : _<=60) (by decide),s23.trans (xC eD3'),zA,⟨fs++[nm],(by rw[List.map_append]; rfl),(by rw[List.length_append]; show _+1<=_; lia),λz hz=>?_⟩,_,rfl⟩;rcases List.mem_append.mp hz with h | h
   ·exact af z h
   ·rw[List.mem_singleton.mp h]; exact⟨mn',ab no⟩
 rintro σ ys' H' ⟨sD,eD,⟨fs,rfl,lf,af⟩,u,rfl⟩;have s':xJ (λx=>x=F) H H':=xJ.over (s0'.trans (sf.wider λ_ z=>z.elim)) sD hD;have s'':xJ (λx=>x=F) G' H':=xJ.over (sf.wider λ_ z=>z.elim) sD hD;have nFD:¬ F=D:=λz=>by have:=sf.lst id eF'; rw[z,hD] at this; cases this
 have eFn:H' F=some (.lst zs'):=sD.lst nFD (sf.lst id eF');have han:=s'.lst naF ha;have npD:∀ b xs,Hf b=some (.tup xs)->¬ b=D:=λb xs e z=>by rw[z,hD] at e; cases e
 have rpn:yV H' (Gs.map Deed.dt) zs':=(rp'.to sf).sam sD npD;have fin:∀ Hz,xJ (λx=>x=F) H Hz->Sam H Hz:=λHz sz x o _ e=>sz x o (λz=>by rw[z,hF0] at e; cases e) e;exists _,rfl,a,_,_,_,rfl,rfl,sq han,a96,_,_,rfl,rfl,zE7.of (by decide) (by decide +kernel),_,_,rfl,rfl,gt2,rfl,_,rfl;refine ifE (λz=>?_) (λz=>?_);rotate_left
 ·exact xP ⟨_,rfl,q F zs' Gs H' (fin H' s') hF0 eFn rpn l3 (by lia) chG⟩
 refine⟨_,rfl,sz0,λe he=>⟨D,e,_,rfl,rfl,SqL.of (zB he (.lst []) _ _ eD),SqL.of zA,_,rfl,?_⟩⟩;have se:=zB he (.lst []);have eFe:=se _ _ eFn;have eDe:=se _ _ eD;have rpe:=rpn.to (.of se);have s1:=s'.trans (.of se);generalize upd H' e (.lst [])=H3 at se eFe eDe rpe s1 ⊢;refine ifB (λne=>?_) (λ_=>⟨_,rfl,q F zs' Gs H3 (fin H3 s1) hF0 eFe rpe l3 (by lia) chG⟩);have nef:fs≠[]:=λz=>by rw[z] at ne; exact nomatch ne
 refine⟨_,rfl,.inl ⟨rfl,_,SqL.of eFe⟩,_,rfl,D,fs,rfl,SqL.of eDe,nef,λM hM=>⟨sz2,λw hw=>?_⟩⟩;have sw:=zB hw (.tup [.str "unmark", .str M]);have eFw:=sw _ _ eFe;exists F,zs',.ref w,rfl,rfl,eFw,zK (by lia);have sE:=xC (o:=.lst (zs'++[.ref w])) eFw;obtain⟨mM,uM⟩:=af M hM;refine⟨_,rfl,q F (zs'++[.ref w]) (Gs++[.unmark M]) _ (fin _ ((s1.trans (.of sw)).trans sE)) hF0 zA ?_ (by rw[List.length_append]; show _<=_+1; lia) (by rw[List.length_append]; show _+1<=_; lia) (uQ (D:=.unmark M) chG ⟨?_,?_⟩)⟩
 ·rw[List.map_append];exact(yV.app (rpe.to (.of sw)) (.one (zMn zA))).sam sE (wM eFw)
 ·obtain⟨p,ep⟩:=vJ (S:=S) mM;have:zV (yI BS.nil Gs) M=zV S M:=by unfold zV; rw[mkG]
  rw[this,ep];rfl
 ·rw[noG]; exact uM
def zIo(_:PySem.W.Frag):Sp:=λvs H Q _=>∃(d:Addr)(S:BS)(i j:Nat),vs=[.ref d,.int i,.int j]/\zVy H d S/\i<=S.runs.length/\j<=S.runs.length/\S.runs.length<=60 /\
 ∀(t:Addr)(H':Hp),Same H H'->H t=none->H' t=some (.tup [.int (zCj S.runs i j).1,.int (zCj S.runs i j).2])->Q (.ref t) H'
theorem zN3(F:Fun K "_law_lead" "_law_lead" zDj f fd)(Z:Zs mg)(CB:Cb P w mg base)  : xE P w K mg base CX0 1 f fd ["_law_m", "_law_one", "_law_other"] (zIo K):=by
 specialize zD1
 ·obtain⟨d,S,i,j,rfl,_⟩:=h;rfl
 obtain⟨d,S,i0,j0,rfl,⟨m,b,r,n,lw⟩,hi,hj,few,k⟩:=h;obtain⟨rs,hr1,rep⟩:=lw.ru;have lrs:rs.length=S.runs.length:=by rw[rep.length,List.length_map]
 refine'⟨_,(zC (yB 3 zD1.nd (wY zNv (zL (yA hr) (pv 0) zM (λ_ _=>rfl)) (uJ ?_) (uJ ?_)))
   (zC (yB 4 zD1.nd ?_)
   (zF (zT (zD3 (zH (uG zOe (pv 4) (yK (zEh rfl) rfl Z.sum zO9 (zH (uL (T:=["_law_x", "_law_y"]) (caps:=[]) ⟨rfl,by decide +kernel,by decide +kernel,rfl,True.intro⟩ rfl (tQ (pv 3)) (λ_=>(rN rfl (yJ (vG 0 (show(["_law_x", "_law_y"]:List Str).Nodup by decide +kernel)) (yJ (vG 1 (show(["_law_x", "_law_y"]:List Str).Nodup by decide +kernel)) vR)))) (λ_=>xH) (λ_=>(pv 0))) zO))) (zH (uG zOe (pv 4) (yK (zEh rfl) rfl Z.sum zO9 (zH (uL (T:=["_law_x", "_law_y"]) (caps:=[]) ⟨rfl,by decide +kernel,by decide +kernel,rfl,True.intro⟩ rfl (tQ (pv 3)) (λ_=>(rN rfl (yJ (vG 0 (show(["_law_x", "_law_y"]:List Str).Nodup by decide +kernel)) (yJ (vG 1 (show(["_law_x", "_law_y"]:List Str).Nodup by decide +kernel)) vR)))) (λ_=>xH) (λ_=>(pv 1))) zO))) zO))))))),?_⟩
 nofun
 refine⟨_,rfl,d,.ref r,rfl,.inl ⟨_,.inr "runs", lw.at_,rfl,tW.symm⟩,_,rfl,_,rfl,_,_,rfl,_,rfl,_,rfl,_,rfl,_,_,rfl,_,rfl,r,rs,rfl,SqL.of hr1,λq hq=>?_⟩;have e1:(if (j0:Int)<i0 then(j0:Int) else i0)=((min i0 j0:Nat):Int):=by split <;> lia
 have e2:(if (j0:Int)>i0 then(j0:Int) else i0)=((max i0 j0:Nat):Int):=by split <;> lia
 have ec:rS rs (some (if (j0:Int)<i0 then(j0:Int) else i0)) (some (if (j0:Int)>i0 then(j0:Int) else i0))=(rs.drop (min i0 j0)).take (max i0 j0-min i0 j0):=by
  rw[e1,e2,zR4 (by lia) (by lia)]
 generalize hcs:rS rs (some (if (j0:Int)<i0 then(j0:Int) else i0)) (some (if (j0:Int)>i0 then(j0:Int) else i0))=cs at hq;have sq:=zB hq (.lst cs);have rc:yV (upd H q (.lst cs)) ((zDo S.runs i0 j0).map ptD) cs:=by
  have ecs:cs=(rs.drop (min i0 j0)).take (max i0 j0-min i0 j0):=hcs.symm.trans ec;have:=((rep.drop (min i0 j0)).take (max i0 j0-min i0 j0)).to (.of sq);rw[<- ecs,<- List.map_drop,<- List.map_take] at this;exact this
 have ls:=zIq S.runs i0 j0;have hand:(1:Int)-2*(if decide ((j0:Int)<i0) then 1 else 0)=zE5 i0 j0:=by
  unfold zE5;by_cases c:j0<i0
  ·rw[if_pos c,if_pos (decide_eq_true (by lia))]; rfl
  ·rw[if_neg c,if_neg (by simp; lia)]; rfl
 refine⟨_,rfl,_,rfl,_,_,rfl,rfl,.inr ⟨_,rfl,_,_,rfl,rfl,zFh (by decide),_,_,rfl,rfl,?_⟩⟩;show zJf 4 (V.int (1-2*if decide ((j0:Int)<i0)=true then 1 else 0)) _ _ _;rw[hand];have cmh:∀ y:Int,zVc (zE5 i0 j0) y:=λy=>zFh (by unfold zE5; split <;> decide);refine⟨_,rfl,_,rfl,q,rfl,.inl ⟨⟨_,SqL.of zA⟩,λc D hD=>?_⟩⟩;refine tE (K:=K) (a:=q) (xs:=cs) (λi σ zs H'=>Same (upd H q (.lst cs)) H'/\H' D=some (.lst zs)/\zs=(((zDo S.runs i0 j0).take i).map (·.1)).map V.int/\∃ u v:Option V,σ=[u,v])
  ⟨zB hD _,zA,rfl,none,none,rfl⟩ (λi σ zs H' _ ⟨sH,e,_⟩=>⟨SqL.of (sH _ _ zA),e⟩) ?_ ?_
 ·rintro i x σ zs H' hi ⟨sH,eD,rfl,u,v,rfl⟩;obtain⟨p,a,gp,rfl,ea⟩:=zO4 rc hi;have hil:=(List.getElem?_eq_some_iff.mp gp).1;refine⟨a,_,rfl,SqT.of (sH _ _ ea),rfl,.int p.1,_,rfl,.int p.2,_,rfl,rfl,_,rfl,eD,zK (by rw[List.length_map,List.length_map,List.length_take]; lia),sH.putNew hD,zA,?_,_,_,rfl⟩;rw[List.take_succ,gp,List.map_append,List.map_append];rfl
 rintro σ zs H2 ⟨s2,eD,rfl,u,v,rfl⟩;exists D,_,rfl,SqL.of eD,_,_,rfl,rfl,cmh _;have eq2:=s2 _ _ (zA (H:=H) (a:=q) (o:=.lst cs));have rc2:=rc.to (.of s2);refine⟨_,rfl,_,rfl,q,rfl,.inl ⟨⟨_,SqL.of eq2⟩,λc D hD=>?_⟩⟩;refine tE (K:=K) (a:=q) (xs:=cs) (λi σ zs H'=>Same H2 H'/\H' D=some (.lst zs)/\zs=(((zDo S.runs i0 j0).take i).map (·.2)).map V.int/\∃ u v:Option V,σ=[u,v])
  ⟨zB hD _,zA,rfl,none,none,rfl⟩ (λi σ zs H' _ ⟨sH,e,_⟩=>⟨SqL.of (sH _ _ eq2),e⟩) ?_ ?_
 ·rintro i x σ zs H' hi ⟨sH,eD,rfl,u,v,rfl⟩;obtain⟨p,a,gp,rfl,ea⟩:=zO4 rc2 hi;have hil:=(List.getElem?_eq_some_iff.mp gp).1;refine⟨a,_,rfl,SqT.of (sH _ _ ea),rfl,.int p.1,_,rfl,.int p.2,_,rfl,rfl,_,rfl,eD,zK (by rw[List.length_map,List.length_map,List.length_take]; lia),sH.putNew hD,zA,?_,_,_,rfl⟩;rw[List.take_succ,gp,List.map_append,List.map_append];rfl
 rintro σ zs H3 ⟨s3,eD3,rfl,u,v,rfl⟩;refine⟨D,_,rfl,SqL.of eD3,_,_,rfl,rfl,cmh _,sz2,λt ht=>?_⟩;have s23:=s2.trans s3;refine k t _ ((sq.trans s23).trans (zB ht _)) (sq.free (s23.free ht)) ?_;rw[zA,show cs.length=(zDo S.runs i0 j0).length by rw[rc.length,List.length_map],List.take_length];rfl
def sQ(_:PySem.W.Frag):Sp:=λvs H Q _=>∃(a d:Addr)(rows:List Int)(S:BS)(mo:Nat)(n:Str)(x y:Int)(pt:Int×Int),vs=[.ref a,.ref d,.int mo,.str n,.int x,.int y]/\H a=some (.lst (rows.map V.int))/\8<=rows.length/\(∀ v∈rows,0<=v/\v<1000003) /\
 zVy H d S/\mo<=S.runs.length/\S.runs.length<=3/\(∀ e∈S.runs,e.1.natAbs<=4/\e.2.natAbs<=4)/\zV S n=some pt/\(pt.1-x).natAbs<=10/\(pt.2-y).natAbs<=10 /\
 ∀(v:V)(a b c e:Int)(H':Hp),Same H H'->Rep H' (Deed.bearing mo n a b c e).dt v->zCy (a,b)->zCy (c,e)->0<a*e-b*c->Q v H'
theorem zBu(F:Fun K "_law_true_bearing" "_law_true_bearing" wF f fd)(Z:Zs mg)(CB:Cb P w mg base)(yBa:Has P w K mg base "_law_left_pair" 2 ["_law_d", "_law_wide"] (vA K))(yBu:Has P w K mg base "_law_lead" 1 ["_law_m", "_law_one", "_law_other"] (zIo K)):xE P w K mg base CX0 3 f fd ["_law_d", "_law_m", "_law_moment", "_law_mark", "_law_x", "_law_y"] (sQ K):=by
 specialize yH
 ·obtain⟨a,d,rows,S,mo,n,x,y,pt,rfl,_⟩:=h;rfl
 obtain⟨a,d,rows,S,mo,n,x,y,pt,rfl,ha,l8,bd,lwa,hmo,l3,rb,hpt,hx,hy,q⟩:=h;obtain⟨m,b,r,nn,lw⟩:=id lwa;obtain⟨v2,a2,_⟩:=yQ bd (k:=2) (by decide) (by lia);obtain⟨v3,a3,_⟩:=yQ bd (k:=3) (by decide) (by lia)
 refine'⟨_,(zC (zCd ?_ (rN rfl (yJ (vG 6 yH.nd) (yJ (vG 7 yH.nd) vR))))
   (zC (zCd (zL (yA hr) (zL (yA hr) (pv 1) zM (λ_ _=>rfl)) (pv 3) (λ_ _=>rfl)) (rN rfl (yJ (vG 8 yH.nd) (yJ (vG 9 yH.nd) vR))))
   (zC (zI2 (i:=8) (j:=9) rfl yH.nd rfl rfl (by decide) rfl rfl ?_ rfl)
   (zC (yB 10 yH.nd ?_)
   (zC (yR ?_ (zC (zCd ?_ (rN rfl (yJ (vG 11 yH.nd) (yJ (vG 12 yH.nd) vR))))
   (zF (zT ?_))) zZ)
   (zF (zT ?_))))))),?_⟩
 nofun
 refine⟨_,rfl,_,rfl,d,S,0,mo,rfl,lwa,(by lia),hmo,(by lia),λt H1 s1 ht et=>?_⟩;have lb:(zCj S.runs 0 mo).1.natAbs<=12/\(zCj S.runs 0 mo).2.natAbs<=12:=zL6 l3 rb;generalize zCj S.runs 0 mo=ld at et lb;obtain⟨kvs,pa,hm,g1,g2⟩:=qJ (lw.ma.to (.of s1)) hpt;exists t,_,rfl,SqT.of et,rfl,.int ld.1,_,rfl,.int ld.2,_,rfl,rfl;exists _,rfl,d,.ref m,rfl,.inl ⟨_,.inr "marks", Rd.same lw.at_ s1,rfl,xD.symm⟩,_,rfl,m,.ref pa,rfl,.inl ⟨kvs,.inr n,hm,rfl,g1.symm⟩,pa,_,rfl,SqT.of g2,rfl,.int pt.1,_,rfl,.int pt.2,_,rfl,rfl;exists _,rfl,_,rfl,_,_,rfl,rfl,_,rfl,_,_,rfl,rfl,_,rfl,_,rfl,_,_,rfl,rfl,_,rfl,_,_,rfl,rfl,_,_,rfl;have bP:(pt.1-x-ld.1).natAbs<=22:=by lia
 have bQ:(pt.2-y-ld.2).natAbs<=22:=by lia
 generalize pt.1-x-ld.1=P at bP ⊢;generalize pt.2-y-ld.2=R at bQ ⊢;have sq1:Sq K H1 a (rows.map V.int):=.inl (SqL.of (s1 _ _ ha));exists _,rfl,a,_,_,_,rfl,rfl,sq1,a3,_,_,rfl,rfl,gt3,_,_,rfl,rfl;have b1:1<=1+v3%3:=by lia
 have b2:1+v3%3<=3:=by lia
 generalize 1+v3%3=k at b1 b2;have cut3:rS (rows.map V.int) (some ((3:Nat):Int)) none=(rows.drop 3).map V.int:=by rw[qA,HT.sIx_nat rows.length 0 3,show min 3 rows.length=3 by lia,show HT.sIx rows.length rows.length none=rows.length from rfl,List.take_of_length_le (by rw[List.length_drop]; lia)]
 have cut3:rS (rows.map V.int) (some 3) none=(rows.drop 3).map V.int:=cut3;have sl1:SqL K H1 a (rows.map V.int):=SqL.of (s1 _ _ ha);exists _,rfl,rfl,_,rfl;refine ifE (λzP=>?_) (λzP=>?_)
 ·exists _,rfl,rfl,_,rfl;refine ifE (λzR=>?_) (λzR=>?_)
  ·refine zE3 ?_;refine⟨_,rfl,_,rfl,a,_,rfl,sl1,λc hc=>?_⟩;have sc:=zB hc (.lst (rS (rows.map V.int) (some 3) none));refine⟨c,rows.drop 3,3,rfl,SqL.of (by rw[zA,cut3]),(by rw[List.length_drop]; lia),(λv hv=>bd v (List.mem_of_mem_drop hv)),(by decide),(by decide),λt2 p1 p2 A0 A1 B0 B1 H2 s2 et2 e1 e2 tn n1 n2 n3 n4=>?_⟩;exists t2,_,rfl,SqT.of et2,rfl,.ref p1,_,rfl,.ref p2,_,rfl,rfl;refine⟨_,rfl,_,rfl,_,rfl,_,rfl,(by show 5<=sizeLine; decide),λw hw=>?_⟩;have sw:=zB hw (.tup [.str "bearing", .int mo,.str n,.ref p1,.ref p2]);obtain⟨w1,w2⟩:=zFq tn (Nat.le_trans n1 (by decide)) (Nat.le_trans n2 (by decide)) (Nat.le_trans n3 (by decide)) (Nat.le_trans n4 (by decide));exact q (.ref w) A0 A1 B0 B1 _ (s1.trans (sc.trans (s2.trans sw))) (uR zA (sw _ _ e1) (sw _ _ e2)) w1 w2 tn
  ·exists _,rfl,a,_,_,_,rfl,rfl,sq1,a2,_,_,rfl,rfl,gt5,rfl,_,rfl;refine ifE (λz5=>?_) (λz5=>?_)
   ·
    refine⟨_,rfl,_,rfl,a,_,rfl,sl1,λc hc=>?_⟩;have sc:=zB hc (.lst (rS (rows.map V.int) (some 3) none));refine⟨c,rows.drop 3,3,rfl,SqL.of (by rw[zA,cut3]),(by rw[List.length_drop]; lia),(λv hv=>bd v (List.mem_of_mem_drop hv)),(by decide),(by decide),λt2 p1 p2 A0 A1 B0 B1 H2 s2 et2 e1 e2 tn n1 n2 n3 n4=>?_⟩;exists t2,_,rfl,SqT.of et2,rfl,.ref p1,_,rfl,.ref p2,_,rfl,rfl;refine⟨_,rfl,_,rfl,_,rfl,_,rfl,(by show 5<=sizeLine; decide),λw hw=>?_⟩;have sw:=zB hw (.tup [.str "bearing", .int mo,.str n,.ref p1,.ref p2]);obtain⟨w1,w2⟩:=zFq tn (Nat.le_trans n1 (by decide)) (Nat.le_trans n2 (by decide)) (Nat.le_trans n3 (by decide)) (Nat.le_trans n4 (by decide));exact q (.ref w) A0 A1 B0 B1 _ (s1.trans (sc.trans (s2.trans sw))) (uR zA (sw _ _ e1) (sw _ _ e2)) w1 w2 tn
   ·have nz:¬ (P=0/\R=0):=λz=>zR z.2;refine⟨_,rfl,_,rfl,_,rfl,_,rfl,_,_,rfl,rfl,zFh (by lia),_,rfl,_,_,rfl,rfl,_,rfl,_,rfl,_,_,rfl,rfl,zFh (by lia),_,rfl,_,_,rfl,rfl,sz2,λp1 hp1=>?_⟩;have sp1:=zB hp1 (.tup [.int (k*P+R),.int (k*R-P)]);refine⟨_,rfl,_,rfl,_,_,rfl,rfl,zFh (by lia),_,rfl,_,_,rfl,rfl,_,rfl,_,rfl,_,_,rfl,rfl,zFh (by lia),_,rfl,_,_,rfl,rfl,sz2,λp2 hp2=>⟨(by show 5<=sizeLine; decide),λw hw=>?_⟩⟩;have sp2:=zB hp2 (.tup [.int (k*P-R),.int (k*R+P)]);have sw:=zB hw (.tup [.str "bearing", .int mo,.str n,.ref p1,.ref p2]);have tn:=zK7 b1 nz;have z1:=wU k P (show k.natAbs<=3 by lia) bP;have z2:=wU k R (show k.natAbs<=3 by lia) bQ;obtain⟨w1,w2⟩:=zFq tn (by lia) (by lia) (by lia) (by lia);exact q (.ref w) _ _ _ _ _ (s1.trans (sp1.trans (sp2.trans sw))) (uR zA (sw _ _ (sp2 _ _ zA)) (sw _ _ zA)) w1 w2 tn
 ·refine xP ?_;exists _,rfl,a,_,_,_,rfl,rfl,sq1,a2,_,_,rfl,rfl,gt5,rfl,_,rfl;refine ifE (λz5=>?_) (λz5=>?_)
  ·
   refine⟨_,rfl,_,rfl,a,_,rfl,sl1,λc hc=>?_⟩;have sc:=zB hc (.lst (rS (rows.map V.int) (some 3) none));refine⟨c,rows.drop 3,3,rfl,SqL.of (by rw[zA,cut3]),(by rw[List.length_drop]; lia),(λv hv=>bd v (List.mem_of_mem_drop hv)),(by decide),(by decide),λt2 p1 p2 A0 A1 B0 B1 H2 s2 et2 e1 e2 tn n1 n2 n3 n4=>?_⟩;exists t2,_,rfl,SqT.of et2,rfl,.ref p1,_,rfl,.ref p2,_,rfl,rfl;refine⟨_,rfl,_,rfl,_,rfl,_,rfl,(by show 5<=sizeLine; decide),λw hw=>?_⟩;have sw:=zB hw (.tup [.str "bearing", .int mo,.str n,.ref p1,.ref p2]);obtain⟨w1,w2⟩:=zFq tn (Nat.le_trans n1 (by decide)) (Nat.le_trans n2 (by decide)) (Nat.le_trans n3 (by decide)) (Nat.le_trans n4 (by decide));exact q (.ref w) A0 A1 B0 B1 _ (s1.trans (sc.trans (s2.trans sw))) (uR zA (sw _ _ e1) (sw _ _ e2)) w1 w2 tn
  ·have nz:¬ (P=0/\R=0):=λz=>zP z.1;refine⟨_,rfl,_,rfl,_,rfl,_,rfl,_,_,rfl,rfl,zFh (by lia),_,rfl,_,_,rfl,rfl,_,rfl,_,rfl,_,_,rfl,rfl,zFh (by lia),_,rfl,_,_,rfl,rfl,sz2,λp1 hp1=>?_⟩;have sp1:=zB hp1 (.tup [.int (k*P+R),.int (k*R-P)]);refine⟨_,rfl,_,rfl,_,_,rfl,rfl,zFh (by lia),_,rfl,_,_,rfl,rfl,_,rfl,_,rfl,_,_,rfl,rfl,zFh (by lia),_,rfl,_,_,rfl,rfl,sz2,λp2 hp2=>⟨(by show 5<=sizeLine; decide),λw hw=>?_⟩⟩;have sp2:=zB hp2 (.tup [.int (k*P-R),.int (k*R+P)]);have sw:=zB hw (.tup [.str "bearing", .int mo,.str n,.ref p1,.ref p2]);have tn:=zK7 b1 nz;have z1:=wU k P (show k.natAbs<=3 by lia) bP;have z2:=wU k R (show k.natAbs<=3 by lia) bQ;obtain⟨w1,w2⟩:=zFq tn (by lia) (by lia) (by lia) (by lia);exact q (.ref w) _ _ _ _ _ (s1.trans (sp1.trans (sp2.trans sw))) (uR zA (sw _ _ (sp2 _ _ zA)) (sw _ _ zA)) w1 w2 tn
def qG(_:PySem.W.Frag):Sp:=zVk
theorem zE6(F:Fun K "_law_some_deeds" "_law_some_deeds" uW f fd)(Z:Zs mg)(CB:Cb P w mg base)(yAd:Has P w K mg base "_law_true_bearing" 3 ["_law_d", "_law_m", "_law_moment", "_law_mark", "_law_x", "_law_y"] (sQ K))(yBw:Has P w K mg base "_law_new" 1 [] (zG3 K)):xE P w K mg base CX0 4 f fd ["_law_some", "_law_names_here"] (qG K):=by
 specialize yC
 ·obtain⟨a,r,rows,ns,rfl,_⟩:=h;rfl
 obtain⟨a,R,rows,ns,rfl,ha,l90,bd,eR,ln,okn,nod,q⟩:=h;obtain⟨v5,a5,_⟩:=yQ bd (k:=5) (by decide) (by lia);obtain⟨v6,a6,_⟩:=yQ bd (k:=6) (by decide) (by lia);obtain⟨v7,a7,_⟩:=yQ bd (k:=7) (by decide) (by lia);obtain⟨v18,a18,_⟩:=yQ bd (k:=18) (by decide) (by lia);have sq:∀{H':Hp},H' a=some (.lst (rows.map V.int))->Sq K H' a (rows.map V.int):=λh=>.inl (SqL.of h)
 refine'⟨_,(zC (zI2 (i:=2) (j:=3) rfl yC.nd rfl rfl (by decide) rfl rfl ?_ rfl)
   (zC (yB 4 yC.nd (zEe yBw (hr.mono (by decide)) rfl))
   (zC (yB 5 yC.nd ?_)
   (zC (uH PassesOwn.never rfl (wD rfl Z.range ?_) (vG 6 yC.nd) (zC (zS (rZ (pv 5) ?_))
   (zF (tP (yA hr) (zL (yA hr) (pv 4) zM (λ_ _=>rfl)) ?_ (wY zE0 ?_ (uJ xY) vO) rfl))))
   (zC (uH PassesOwn.never rfl (wD rfl Z.range ?_) (vG 6 yC.nd) (zC (zS (rZ (pv 5) ?_))
   (zF (zS (rZ (zL (yA hr) (pv 4) zM (λ_ _=>rfl)) (zH (wY zE0 ?_ (uJ xY) vO) zO))))))
   (zC (yB 7 yC.nd (yK zCc rfl Z.sorted zBa (zH (wC (qL rfl) rfl Z.list zBp (zH (zL (yA hr) (pv 4) zM (λ_ _=>rfl)) zO)) zO)))
   (zC (uH PassesOwn.never rfl (wD rfl Z.range ?_) (vG 6 yC.nd) (zC (yB 8 yC.nd ?_)
   (zC (yB 9 yC.nd (uG zHt ?_ (uG zI1 (yK wN rfl Z.len sR (zH (zL (yA hr) (pv 4) zM (λ_ _=>rfl)) zO)) xY)))
   (zC (zI2 (i:=10) (j:=11) rfl yC.nd rfl rfl (by decide) rfl rfl ?_ rfl)
   (zC (yB 12 yC.nd ?_)
   (zC (yR (PW.pt (zKh ?_ (zGd (yO (zNk hr.units0) (zL (yA hr) (zL (yA hr) (pv 4) zM (λ_ _=>rfl)) (pv 10) (λ_ _=>rfl)) (zL (yA hr) (zL (yA hr) (pv 4) zM (λ_ _=>rfl)) (pv 11) (λ_ _=>rfl)) (yT _))))) (zF (yB 12 yC.nd ?_)) zZ)
   (zF (zS (rZ (pv 5) (zH (pv 12) zO))))))))))
   (zF (zT (pv 5)))))))))),?_⟩
 nofun
 exists _,rfl,a,_,_,_,rfl,rfl,sq ha,a5,_,_,rfl,rfl,(by show(0:Int)<1701; decide),_,_,rfl,rfl,_,rfl,a,_,_,_,rfl,rfl,sq ha,a6,_,_,rfl,rfl,(by show(0:Int)<1701; decide),_,_,rfl,rfl,_,_,rfl;have x1:(v5%1701-850).natAbs<=850:=by lia
 have y1:(v6%1701-850).natAbs<=850:=by lia
 generalize v5%1701-850=X at x1 ⊢;generalize v6%1701-850=Y at y1 ⊢;refine⟨rfl,λd m b r n H1 s1 hd hm hr0 ed em eb er en nbm nnm=>?_⟩;refine⟨sz0,λL hL=>?_⟩;have sL:=zB hL (.lst []);have ndL:d≠L:=zG ed hL;have nmL:m≠L:=zG em hL;have nrL:r≠L:=zG er hL;have eL1:upd H1 L (.lst []) L=some (.lst []):=zA;have ha1:=sL _ _ (s1 _ _ ha);have eR1:=sL _ _ (s1 _ _ eR);have ed1:=sL _ _ ed;have em1:=sL _ _ em;have eb1:=sL _ _ eb;have er1:=sL _ _ er;have en1:=sL _ _ en;have s01:=s1.trans sL;have hL0:=s1.free hL;generalize upd H1 L (.lst [])=H2 at eL1 ha1 eR1 ed1 em1 eb1 er1 en1 s01 ⊢;have naL:a≠L:=λz=>by rw[z,hL0] at ha; cases ha
 have nam:a≠m:=λz=>by rw[z,hm] at ha; cases ha
 have nRL:R≠L:=λz=>by rw[z,hL0] at eR; cases eR
 have nRm:R≠m:=λz=>by rw[z,hm] at eR; cases eR
 have ndm:d≠m:=λz=>by rw[z,em1] at ed1; cases ed1
 exists _,rfl,a,_,_,_,rfl,rfl,sq ha1,a7,_,_,rfl,rfl,gt3,_,_,rfl,rfl;have k3:3<=3+v7%3:=by lia
 have k5:3+v7%3<=5:=by lia
 generalize 3+v7%3=M at k3 k5;refine⟨_,rfl,(by lia),(by lia),vH (lo:=0) (n:=M.toNat) (λi σ H'=>(∀ x o,x≠L->x≠m->H2 x=some o->H' x=some o)/\(∃(Ds:List Deed)(l:List (Str×Int×Int))(xs:List V)(mk:List (Key×V)),H' L=some (.lst xs)/\yV H' (Ds.map Deed.dt) xs/\Ds.length=i/\zFu Ds l [] [] 1/\l.map (·.1)=ns.take i/\H' m=some (.dK mk)/\xO H' mk (mkE l)/\∀ e∈l,(e.2.1-X).natAbs<=10/\(e.2.2-Y).natAbs<=10) /\
   ∃ u:Option V,σ=[some (.ref a),some (.ref R),some (.int X),some (.int Y),some (.ref d),some (.ref L),u,none,none,none,none,none,none])
  ⟨λ_ _ _ _ e=>e,⟨[],[],[],[],eL1,zX.mpr rfl,rfl,zQ6,rfl,em1,.nil,λe he=>(nomatch he)⟩,none,rfl⟩ ?_ ?_⟩
 ·rintro i σ H3 hi ⟨sH,⟨Ds,l,xs,mk,eL,rp,lD,dn,nms,eM,kv,pl⟩,u,rfl⟩;have hi5:i<ns.length:=by lia
  have hn:ns[i]?=some ns[i]:=List.getElem?_eq_getElem hi5;have ha3:=sH _ _ naL nam ha1;have eR3:=sH _ _ nRL nRm eR1;obtain⟨w1,b1,_⟩:=yQ bd (k:=8+2*i) (by lia) (by lia);obtain⟨w2,b2,_⟩:=yQ bd (k:=9+2*i) (by lia) (by lia);rw[Int.zero_add];have c1:atI (rows.map V.int) (8+2*(i:Int))=some (.int w1):=by rw[show 8+2*(i:Int)=((8+2*i:Nat):Int) by lia]; exact b1
  have c2:atI (rows.map V.int) (9+2*(i:Int))=some (.int w2):=by rw[show 9+2*(i:Int)=((9+2*i:Nat):Int) by lia]; exact b2
  have cn:atI (ns.map V.str) (i:Int)=some (.str ns[i]):=qR (by rw[List.getElem?_map,hn]; rfl);exists _,rfl,.inl ⟨rfl,_,SqL.of eL⟩,_,rfl,_,rfl,R,_,_,.str ns[i],rfl,rfl,.inl (SqL.of eR3),cn;exists _,rfl,_,rfl,_,rfl,_,_,rfl,rfl,zFh (by lia),_,_,rfl,rfl,a,_,_,_,rfl,rfl,sq ha3,c1,_,_,rfl,rfl,(by show(0:Int)<21; decide),_,_,rfl,rfl,_,_,rfl,rfl;refine⟨_,rfl,_,rfl,_,rfl,_,_,rfl,rfl,zFh (by lia),_,_,rfl,rfl,a,_,_,_,rfl,rfl,sq ha3,c2,_,_,rfl,rfl,(by show(0:Int)<21; decide),_,_,rfl,rfl,_,_,rfl,rfl,(by show 4<=sizeLine; decide),λt ht=>?_⟩;have x3:(X+w1%21-10-X).natAbs<=10:=by lia
  have y3:(Y+w2%21-10-Y).natAbs<=10:=by lia
  generalize X+w1%21-10=U at x3 ⊢;generalize Y+w2%21-10=W at y3 ⊢;have st:=zB ht (.tup [.str "mark", .str ns[i],.int U,.int W]);have eL3:=st _ _ eL;exists L,_,.ref t,rfl,rfl,eL3,zK (by rw[rp.length,List.length_map]; lia);have sE4:=xC (o:=.lst (xs++[.ref t])) eL3;have np4:=wM eL3;have ntL:t≠L:=λz=>by rw[z,eL] at ht; cases ht
  have rp4:yV (upd (upd H3 t (.tup [.str "mark", .str ns[i],.int U,.int W])) L (.lst (xs++[.ref t]))) ((Ds++[Deed.mark ns[i] U W]).map Deed.dt) (xs++[.ref t]):=by
   rw[List.map_append];exact(yV.app (rp.to (.of st)) (.one (zLl zA))).sam sE4 np4
  have kv4:=(kv.to (.of st)).sam sE4 np4;have k4:∀ x o,x≠L->H3 x=some o->upd (upd H3 t (.tup [.str "mark", .str ns[i],.int U,.int W])) L (.lst (xs++[.ref t])) x=some o:=λx o h e=>by rw[zD h]; exact st _ _ e
  have eL4:upd (upd H3 t (.tup [.str "mark", .str ns[i],.int U,.int W])) L (.lst (xs++[.ref t])) L=some (.lst (xs++[.ref t])):=zA;have et4:upd (upd H3 t (.tup [.str "mark", .str ns[i],.int U,.int W])) L (.lst (xs++[.ref t])) t=some (.tup [.str "mark", .str ns[i],.int U,.int W]):=by rw[zD ntL,zA]
  generalize upd (upd H3 t (.tup [.str "mark", .str ns[i],.int U,.int W])) L (.lst (xs++[.ref t]))=H4 at rp4 kv4 k4 eL4 et4 ⊢;have eM4:=k4 _ _ nmL eM;have ed4:=k4 _ _ ndL (sH _ _ ndL ndm ed1);have eR4:=k4 _ _ nRL eR3;have lst1:atI (xs++[.ref t]) (-1)=some (.ref t):=zGn xs (.ref t);refine⟨_,rfl,_,rfl,L,_,_,.ref t,rfl,rfl,.inl (SqL.of eL4),lst1,_,rfl,t,_,rfl,SqT.of et4,(λz=>absurd z.1 (by show ¬ HT.sIx 4 0 (some 2)=0; decide)),λc hc=>?_⟩;rw[show rS [V.str "mark", V.str ns[i],V.int U,V.int W] (some 2) none=[V.int U,V.int W] from rfl];have sc:=zB hc (.tup [.int U,.int W]);have eM5:=sc _ _ eM4;have lk:mk.length=l.length:=by rw[kv.length,zEj]
  have ll:l.length=i:=by have:=congrArg List.length nms; rw[List.length_map,List.length_take] at this; lia
  exists _,rfl,d,.ref m,rfl,.inl ⟨_,.inr "marks", .inl (sc _ _ ed4),rfl,xD.symm⟩,_,rfl,_,rfl,R,_,_,.str ns[i],rfl,rfl,.inl (SqL.of (sc _ _ eR4)),cn,m,_,rfl,zHj.k (k:=.inr ns[i]) eM5 (zK (by lia));have sE5:=xC (o:=.dK (tR mk (.inr ns[i]) (.ref c))) eM5;have np5:=zD9 eM5;have nmem:ns[i] ∉ l.map (·.1):=by
   rw[nms];exact zM0 nod hn
  have nr5:zFr (U,W):=⟨by dsimp only; lia,by dsimp only; lia,by dsimp only; lia,by dsimp only; lia⟩;refine⟨λx o h1 h2 e=>by rw[zD h2]; exact sc _ _ (k4 _ _ h1 (sH _ _ h1 h2 e)),⟨Ds++[.mark ns[i] U W],l++[(ns[i],U,W)],xs++[.ref t],_,?_,(rp4.to (.of sc)).sam sE5 np5,(by rw[List.length_append,lD]; rfl),dn.mark (zUd (okn _ (List.getElem_mem hi5)) nmem nr5 (by lia)),?_,zA,?_,λe he=>?_⟩,_,rfl⟩
  ·rw[zD nmL.symm]; exact sc _ _ eL4
  ·rw[List.map_append,nms,List.take_succ,hn]; rfl
  ·have:=((kv4.to (.of sc)).put (k:=.inr ns[i]) (sB (p:=(U,W)) zA)).sam sE5 np5;have pe:=vV (es:=mkE l) (k:=.inr ns[i]) (d:=ptD (U,W)) (zGt (S:=stN l [] [] 1) (zF7 nmem));rw[pe] at this;rw[zJl];exact this
  ·rcases List.mem_append.mp he with z | z
   ·exact pl e z
   ·rw[List.mem_singleton.mp z]; exact⟨x3,y3⟩
 ·rintro σ H3 ⟨sH,⟨Ds,l,xs,mk,eL,rp,lD,dn,nms,eM,kv,pl⟩,u,rfl⟩;have nrm:r≠m:=λz=>by rw[z,em1] at er1; cases er1
  have nar:a≠r:=λz=>by rw[z,hr0] at ha; cases ha
  have ndr:d≠r:=λz=>by rw[z,er1] at ed1; cases ed1
  have nbL:b≠L:=zG eb hL;have nnL:n≠L:=zG en hL;have nbr:b≠r:=λz=>by rw[z,er1] at eb1; cases eb1
  have nnr:n≠r:=λz=>by rw[z,er1] at en1; cases en1
  have ha3:=sH _ _ naL nam ha1;have ed3:=sH _ _ ndL ndm ed1;have er3:=sH _ _ nrL nrm er1;have eb3:=sH _ _ nbL nbm eb1;have en3:=sH _ _ nnL nnm en1;have s03:∀ x o,H x=some o->H3 x=some o:=λx o e=>sH x o (zG e hL0) (zG e hm) (s01 _ _ e);have lM:l.length=M.toNat:=by have:=congrArg List.length nms; rw[List.length_map,List.length_take] at this; lia
  clear sH;exists _,rfl,a,_,_,_,rfl,rfl,sq ha3,a18,_,_,rfl,rfl,gt4;have n0:0<=v18%4:=by lia
  have n3:v18%4<=3:=by lia
  generalize v18%4=N at n0 n3;refine⟨_,rfl,(by lia),(by lia),vH (lo:=0) (n:=N.toNat) (λi σ H'=>(∀ x o,x≠L->x≠r->H3 x=some o->H' x=some o)/\(∃(Ds:List Deed)(rs:List (Int×Int))(xs ys:List V),H' L=some (.lst xs)/\yV H' (Ds.map Deed.dt) xs/\Ds.length=M.toNat+i/\zFu Ds l rs [] 1/\rs.length=i/\H' r=some (.lst ys)/\yV H' (rs.map ptD) ys/\∀ e∈rs,e.1.natAbs<=4/\e.2.natAbs<=4) /\
    ∃ u:Option V,σ=[some (.ref a),some (.ref R),some (.int X),some (.int Y),some (.ref d),some (.ref L),u,none,none,none,none,none,none])
   ⟨λ_ _ _ _ e=>e,⟨Ds,[],xs,[],eL,rp,lD,dn,rfl,er3,zX.mpr rfl,λe he=>(nomatch he)⟩,u,rfl⟩ ?_ ?_⟩
  ·clear lD rp dn;rintro i σ H4 hi ⟨sK,⟨Ds,rs,xs,ys,eL,rp,lD,dn,lrs,er4,rr,rb⟩,u,rfl⟩;have ha4:=sK _ _ naL nar ha3;have ed4:=sK _ _ ndL ndr ed3;obtain⟨w1,b1,_⟩:=yQ bd (k:=19+2*i) (by lia) (by lia);obtain⟨w2,b2,_⟩:=yQ bd (k:=20+2*i) (by lia) (by lia);rw[Int.zero_add];have c1:atI (rows.map V.int) (19+2*(i:Int))=some (.int w1):=b1;have c2:atI (rows.map V.int) (20+2*(i:Int))=some (.int w2):=b2;exists _,rfl,.inl ⟨rfl,_,SqL.of eL⟩,_,rfl,_,rfl,_,_,rfl,rfl,zFh (by lia),_,_,rfl,rfl,a,_,_,_,rfl,rfl,sq ha4,c1,_,_,rfl,rfl,(by show(0:Int)<9; decide),_,_,rfl,rfl;refine⟨_,rfl,_,rfl,_,_,rfl,rfl,zFh (by lia),_,_,rfl,rfl,a,_,_,_,rfl,rfl,sq ha4,c2,_,_,rfl,rfl,(by show(0:Int)<9; decide),_,_,rfl,rfl,sz3,λt ht=>?_⟩;have x3:(w1%9-4).natAbs<=4:=by lia
   have y3:(w2%9-4).natAbs<=4:=by lia
   generalize w1%9-4=U at x3 ⊢;generalize w2%9-4=W at y3 ⊢;have st:=zB ht (.tup [.str "sail", .int U,.int W]);have eL3:=st _ _ eL;exists L,_,.ref t,rfl,rfl,eL3,zK (by rw[rp.length,List.length_map]; lia);have sE4:=xC (o:=.lst (xs++[.ref t])) eL3;have np4:=wM eL3;have ntL:t≠L:=λz=>by rw[z,eL] at ht; cases ht
   have rp4:yV (upd (upd H4 t (.tup [.str "sail", .int U,.int W])) L (.lst (xs++[.ref t]))) ((Ds++[Deed.sail U W]).map Deed.dt) (xs++[.ref t]):=by
    rw[List.map_append];exact(yV.app (rp.to (.of st)) (.one (zKx zA))).sam sE4 np4
   have rr4:=(rr.to (.of st)).sam sE4 np4;have k4:∀ x o,x≠L->H4 x=some o->upd (upd H4 t (.tup [.str "sail", .int U,.int W])) L (.lst (xs++[.ref t])) x=some o:=λx o h e=>by rw[zD h]; exact st _ _ e
   have eL4:upd (upd H4 t (.tup [.str "sail", .int U,.int W])) L (.lst (xs++[.ref t])) L=some (.lst (xs++[.ref t])):=zA;have et4:upd (upd H4 t (.tup [.str "sail", .int U,.int W])) L (.lst (xs++[.ref t])) t=some (.tup [.str "sail", .int U,.int W]):=by rw[zD ntL,zA]
   generalize upd (upd H4 t (.tup [.str "sail", .int U,.int W])) L (.lst (xs++[.ref t]))=H5 at rp4 rr4 k4 eL4 et4 ⊢;have er5:=k4 _ _ nrL er4;have ed5:=k4 _ _ ndL ed4;have lst1:atI (xs++[.ref t]) (-1)=some (.ref t):=zGn xs (.ref t);refine⟨_,rfl,d,.ref r,rfl,.inl ⟨_,.inr "runs", .inl ed5,rfl,tW.symm⟩,.inl ⟨rfl,_,SqL.of er5⟩,_,rfl,_,rfl,L,_,_,.ref t,rfl,rfl,.inl (SqL.of eL4),lst1,_,rfl,t,_,rfl,SqT.of et4,(λz=>absurd z.1 (by show ¬ HT.sIx 3 0 (some 1)=0; decide)),λc hc=>?_⟩;rw[show rS [V.str "sail", V.int U,V.int W] (some 1) none=[V.int U,V.int W] from rfl];have sc:=zB hc (.tup [.int U,.int W]);have er6:=sc _ _ er5;have ly:ys.length=rs.length:=by rw[rr.length,List.length_map]
   exists r,_,.ref c,rfl,rfl,er6,zK (by lia);have sE6:=xC (o:=.lst (ys++[.ref c])) er6;have np6:=wM er6;have nr5:zFr (U,W):=⟨by dsimp only; lia,by dsimp only; lia,by dsimp only; lia,by dsimp only; lia⟩;refine⟨λx o h1 h2 e=>by rw[zD h2]; exact sc _ _ (k4 _ _ h1 (sK _ _ h1 h2 e)),⟨Ds++[.sail U W],rs++[(U,W)],xs++[.ref t],ys++[.ref c],?_,(rp4.to (.of sc)).sam sE6 np6,(by rw[List.length_append,lD]; rfl),dn.sail (zTm nr5 (by lia)),(by rw[List.length_append,lrs]; rfl),zA,?_,λe he=>?_⟩,_,rfl⟩
   ·rw[zD nrL.symm]; exact sc _ _ eL4
   ·rw[List.map_append];exact(yV.app (rr4.to (.of sc)) (.one (sB (p:=(U,W)) zA))).sam sE6 np6
   ·rcases List.mem_append.mp he with z | z
    ·exact rb e z
    ·rw[List.mem_singleton.mp z]; exact⟨x3,y3⟩
  ·rintro σ H4 ⟨sK,hh,u,rfl⟩;have sE4:xJ (λx=>x=L\/x=r) H3 H4:=λx o hx e=>.inl (sK x o (λz=>hx (.inl z)) (λz=>hx (.inr z)) e);have np4:∀ b xs,H3 b=some (.tup xs)->¬ (b=L\/b=r):=λb xs e z=>z.elim (wM eL b xs e) (wM er3 b xs e);have kv4:=kv.sam sE4 np4;clear eL rp lD dn;obtain⟨Ds,rs,xs,ys,eL,rp,lD,dn,lrs,er4,rr,rb⟩:=hh;have ha4:=sK _ _ naL nar ha3;have ed4:=sK _ _ ndL ndr ed3;have eM4:=sK _ _ nmL nrm.symm eM;have eb4:=sK _ _ nbL nbr eb3;have en4:=sK _ _ nnL nnr en3;have s04:∀ x o,H x=some o->H4 x=some o:=λx o e=>sK x o (zG e hL0) (zG e hr0) (s03 _ _ e);have lw4:LwA H4 d m b r n (stN l rs [] 1):=⟨.inl ed4,⟨mk,.inl eM4,kv4⟩,.nil eb4,⟨ys,er4,rr⟩,.nil en4⟩;have lrm:(mk.map λkv=>kV kv.1)=(l.map (·.1)).map V.str:=zC8 kv4;have ly:ys.length=rs.length:=by rw[rr.length,List.length_map]
   refine⟨_,rfl,d,.ref m,rfl,.inl ⟨_,.inr "marks", .inl ed4,rfl,xD.symm⟩,m,mk,rfl,.inl eM4,λp1 hp1=>?_⟩;rw[lrm];have s5:=zB hp1 (.lst ((l.map (·.1)).map V.str));refine⟨p1,l.map (·.1),rfl,SqL.of zA,(by rw[List.length_map]; lia),λp2 ms hp2 pm srt=>?_⟩;have s6:=zB hp2 (.lst (ms.map V.str));have s46:=s5.trans s6;have ep2:upd (upd H4 p1 (.lst ((l.map (·.1)).map V.str))) p2 (.lst (ms.map V.str)) p2=some (.lst (ms.map V.str)):=zA;generalize upd (upd H4 p1 (.lst ((l.map (·.1)).map V.str))) p2 (.lst (ms.map V.str))=H6 at s46 ep2 ⊢;have lms:ms.length=M.toNat:=by rw[pm.length_eq,List.length_map,lM]
   have np2:p2≠L:=λz=>by rw[z] at hp2; rw[s5 _ _ eL] at hp2; cases hp2
   have ha6:=s46 _ _ ha4;have lw6:=lw4.to (.of s46);have rp6:=rp.to (.of s46);have eL6:=s46 _ _ eL;have s06:∀ x o,H x=some o->H6 x=some o:=λx o e=>s46 _ _ (s04 _ _ e);exists _,rfl,a,_,_,_,rfl,rfl,sq ha6,a7,_,_,rfl,rfl,zE7.of (by decide) (by decide +kernel),_,_,rfl,rfl,(by show(0:Int)<7; decide);have j0:0<=v7/3%7:=by lia
   have j6:v7/3%7<=6:=by lia
   generalize v7/3%7=J at j0 j6;refine⟨_,rfl,(by lia),(by lia),vH (lo:=0) (n:=J.toNat) (λi σ H'=>(∀ x o,x≠L->H6 x=some o->H' x=some o)/\(∃(Ds:List Deed)(no:List (Int×Deed))(k:Int)(xs:List V),H' L=some (.lst xs)/\yV H' (Ds.map Deed.dt) xs/\Ds.length=M.toNat+N.toNat+i/\zFu Ds l rs no k/\zAi no k i) /\
     ∃ u1 u2 u3 u4 u5 u6:Option V,σ=[some (.ref a),some (.ref R),some (.int X),some (.int Y),some (.ref d),some (.ref L),u1,some (.ref p2),u2,u3,u4,u5,u6])
    ⟨λ_ _ _ e=>e,⟨Ds,[],1,xs,eL6,rp6,lD,dn,zAi.nil⟩,u,none,none,none,none,none,rfl⟩ ?_ ?_⟩
   ·clear lD rp dn rp6 eL6;rintro i σ H7 hi ⟨sJ,⟨Ds,no,k,xs,eL7,rp,lD,dn,lno⟩,u1,u2,u3,u4,u5,u6,rfl⟩;have sE7:xJ (λx=>x=L) H6 H7:=λx o hx e=>.inl (sJ x o hx e);have eLq:∃ zs,H6 L=some (.lst zs):=⟨_,s46 _ _ eL⟩;obtain⟨zs,eLq⟩:=eLq;have lw7:=lw6.samE sE7 (λa kvs h z=>by
     rw[z] at h;rcases h with h | ⟨o,h⟩ <;> rw[eLq] at h <;> cases h) (wM eLq) (λ_ _=>nrL)
    have ha7:=sJ _ _ naL ha6;have ep7:=sJ _ _ np2 ep2;rw[Int.zero_add];have cut:rS (rows.map V.int) (some (27+8*(i:Int))) none=(rows.drop (27+8*i)).map V.int:=by
     rw[show 27+8*(i:Int)=((27+8*i:Nat):Int) by lia,qA,HT.sIx_nat rows.length 0 (27+8*i),show min (27+8*i) rows.length=27+8*i by lia,show HT.sIx rows.length rows.length none=rows.length from rfl,List.take_of_length_le (by rw[List.length_drop]; lia)]
    refine⟨_,rfl,_,rfl,_,_,rfl,rfl,zFh (by lia),_,_,rfl,rfl,_,rfl,a,_,rfl,SqL.of ha7,λc hc=>?_⟩;rw[cut];have bd8:∀ v∈rows.drop (27+8*i),0<=v/\v<1000003:=λv hv=>bd v (List.mem_of_mem_drop hv);have l8:8<=(rows.drop (27+8*i)).length:=by rw[List.length_drop]; lia
    generalize rows.drop (27+8*i)=rw8 at bd8 l8 ⊢;have sc:=zB hc (.lst (rw8.map V.int));have ec:upd H7 c (.lst (rw8.map V.int)) c=some (.lst (rw8.map V.int)):=zA;have lw8:=lw7.to (.of sc);have rp8:=rp.to (.of sc);have eL8:=sc _ _ eL7;have ep8:=sc _ _ ep7;have k8:∀ x o,x≠L->H6 x=some o->upd H7 c (.lst (rw8.map V.int)) x=some o:=λx o h e=>sc _ _ (sJ x o h e);generalize upd H7 c (.lst (rw8.map V.int))=H8 at ec lw8 rp8 eL8 ep8 k8 ⊢;obtain⟨d0,g0,_⟩:=yQ bd8 (k:=0) (by decide) (by lia);obtain⟨d1,g1,_⟩:=yQ bd8 (k:=1) (by decide) (by lia);obtain⟨d2,g2,_⟩:=yQ bd8 (k:=2) (by decide) (by lia);have cq:Sq K H8 c (rw8.map V.int):=.inl (SqL.of ec);obtain⟨ys8,er8,rr8⟩:=lw8.ru;have ly8:ys8.length=rs.length:=by rw[rr8.length,List.length_map]; rfl
    exists _,rfl,c,_,_,_,rfl,rfl,cq,g0,_,rfl,d,.ref r,rfl,.inl ⟨_,.inr "runs", lw8.at_,rfl,tW.symm⟩,r,ys8,rfl,.inl (SqL.of er8),_,_,rfl,rfl,_,_,rfl,rfl,(by show(0:Int)<(ys8.length:Int)+1; lia);rw[ly8];obtain⟨mo,emo⟩:∃ mo:Nat,d0%((rs.length:Int)+1)=mo:=⟨(d0%((rs.length:Int)+1)).toNat,(Int.toNat_of_nonneg (Int.emod_nonneg _ (by lia))).symm⟩;have hmo:mo<=rs.length:=by have:=Int.emod_lt_of_pos d0 (show(0:Int)<(rs.length:Int)+1 by lia); lia
    rw[emo];have lk:((ms.map V.str).length:Int)=M:=by rw[List.length_map,lms]; lia
    obtain⟨i1,h1,g3⟩:∃ n1,n1∈ms/\atI (ms.map V.str) (d1%((ms.map V.str).length:Int))=some (.str n1):=zJc (by lia);obtain⟨i2,h2,g4⟩:∃ n1,n1∈ms/\atI (ms.map V.str) (d2/5%((ms.map V.str).length:Int))=some (.str n1):=zJc (by lia);have pq:Sq K H8 p2 (ms.map V.str):=.inl (SqL.of ep8);exists _,rfl,_,rfl,c,_,_,_,rfl,rfl,cq,g1,_,rfl,p2,_,rfl,.inl (SqL.of ep8),_,_,rfl,rfl,(by show(0:Int)<((ms.map V.str).length:Int); lia),p2,_,_,.str i1,rfl,rfl,pq,g3;exists _,rfl,_,rfl,c,_,_,_,rfl,rfl,cq,g2,_,_,rfl,rfl,zE7.of (by decide) (by decide +kernel),_,rfl,p2,_,rfl,.inl (SqL.of ep8),_,_,rfl,rfl,(by show(0:Int)<((ms.map V.str).length:Int); lia),p2,_,_,.str i2,rfl,rfl,pq,g4,_,_,rfl;refine⟨_,rfl,_,rfl,_,rfl,(by show 4<=sizeLine; decide),λt ht=>?_⟩;have st:=zB ht (.tup [.str "range", .int mo,.str i1,.str i2]);have et:upd H8 t (.tup [.str "range", .int mo,.str i1,.str i2]) t=some (.tup [.str "range", .int mo,.str i1,.str i2]):=zA;have ec9:=st _ _ ec;have lw9:=lw8.to (.of st);have rp9:=rp8.to (.of st);have eL9:=st _ _ eL8;have k9:∀ x o,x≠L->H6 x=some o->upd H8 t (.tup [.str "range", .int mo,.str i1,.str i2]) x=some o:=λx o h e=>st _ _ (k8 x o h e);have ntL:t≠L:=λz=>by rw[z,eL8] at ht; cases ht
    generalize upd H8 t (.tup [.str "range", .int mo,.str i1,.str i2])=H9 at et ec9 lw9 rp9 eL9 k9 ⊢;have m1:i1∈l.map (·.1):=pm.mem_iff.mp h1;have m2:i2∈l.map (·.1):=pm.mem_iff.mp h2;obtain⟨q1,f1⟩:=vJ (S:=stN l rs [] 1) m1;obtain⟨q2,f2⟩:=vJ (S:=stN l rs [] 1) m2;obtain⟨kvs,pa,hkv,t1,t2⟩:=qJ lw9.ma f1;obtain⟨kvs',pb,hkv',t3,t4⟩:=qJ lw9.ma f2;have pl1:=pl _ (uO f1);have cq9:Sq K H9 c (rw8.map V.int):=.inl (SqL.of ec9);have lx:xs.length=M.toNat+N.toNat+i:=by rw[rp.length,List.length_map,lD]
    have fin:∀(v:V)(D:Deed)(no':List (Int×Deed))(k':Int)(Hz:Hp),Same H9 Hz->Rep Hz D.dt v->zFu (Ds++[D]) l rs no' k'->zAi no' k' (i+1) ->
      Hz L=some (.lst xs)/\((∀ x o,x≠L->H6 x=some o->upd Hz L (.lst (xs++[v])) x=some o)/\(∃(Ds:List Deed)(no:List (Int×Deed))(k:Int)(ys:List V),upd Hz L (.lst (xs++[v])) L=some (.lst ys)/\yV (upd Hz L (.lst (xs++[v]))) (Ds.map Deed.dt) ys/\Ds.length=M.toNat+N.toNat+(i+1)/\zFu Ds l rs no k/\zAi no k (i+1))):=by
     intro v D no' k' Hz sz rv dz ln;have eLz:=sz _ _ eL9;refine⟨eLz,λx o h e=>by rw[zD h]; exact sz _ _ (k9 x o h e),Ds++[D],no',k',xs++[v],zA,?_,by rw[List.length_append,lD]; rfl,dz,ln⟩;rw[List.map_append];exact(yV.app (rp9.to (.of sz)) (.one rv)).sam (xC eLz) (wM eLz)
    exists _,rfl,c,_,_,_,rfl,rfl,cq9,g2,_,_,rfl,rfl,gt5,_,_,rfl,rfl,_,rfl;refine ifD (λz=>?_) (λz=>?_)
    ·refine zE3 ?_;refine⟨_,rfl,_,rfl,_,rfl,_,rfl,_,rfl,_,rfl,c,d,rw8,stN l rs [] 1,mo,i1,X,Y,q1,rfl,ec9,l8,bd8,⟨m,b,r,n,lw9⟩,hmo,(by show rs.length<=3; lia),rb,f1,pl1.1,pl1.2,λv A B C D Hz sz rv w1 w2 tn=>?_⟩;obtain⟨eLz,f3,f4⟩:=fin v _ _ _ Hz sz rv (dn.bearing (zF2 hmo m1 w1 w2 tn (by rw[lno.len]; lia))) lno.snoc;refine⟨_,rfl,.inl ⟨rfl,_,SqL.of eLz⟩,_,rfl,L,_,v,rfl,rfl,eLz,zK (by lia),f3,f4,_,_,_,_,_,_,rfl⟩
    ·refine⟨_,rfl,d,.ref m,rfl,.inl ⟨_,.inr "marks", lw9.at_,rfl,xD.symm⟩,_,rfl,m,_,rfl,.inl ⟨kvs,.inr i1,hkv,rfl,t1.symm⟩,_,rfl,d,.ref m,rfl,.inl ⟨_,.inr "marks", lw9.at_,rfl,xD.symm⟩,_,rfl,m,_,rfl,.inl ⟨kvs',.inr i2,hkv',rfl,t3.symm⟩,
      pa,pb,[q1.1,q1.2],[q2.1,q2.2],rfl,rfl,SqT.of t2,SqT.of t4,_,rfl,?_⟩
     refine ifD (λz=>?_) (λz=>?_)
     ·
      refine⟨_,rfl,_,rfl,_,rfl,_,rfl,_,rfl,_,rfl,c,d,rw8,stN l rs [] 1,mo,i1,X,Y,q1,rfl,ec9,l8,bd8,⟨m,b,r,n,lw9⟩,hmo,(by show rs.length<=3; lia),rb,f1,pl1.1,pl1.2,λv A B C D Hz sz rv w1 w2 tn=>?_⟩;obtain⟨eLz,f3,f4⟩:=fin v _ _ _ Hz sz rv (dn.bearing (zF2 hmo m1 w1 w2 tn (by rw[lno.len]; lia))) lno.snoc;refine⟨_,rfl,.inl ⟨rfl,_,SqL.of eLz⟩,_,rfl,L,_,v,rfl,rfl,eLz,zK (by lia),f3,f4,_,_,_,_,_,_,rfl⟩
     ·have ne:zV (stN l rs no k) i1≠zV (stN l rs no k) i2:=λy=>by
       have y:zV (stN l rs [] 1) i1=zV (stN l rs [] 1) i2:=y;rw[f1,f2] at y;injection y with y
       exact z (by rw[y])
      obtain⟨eLz,f3,f4⟩:=fin (.ref t) _ _ _ H9 (Same.refl _) (zIj et) (dn.range (zQh hmo m1 m2 ne (by rw[lno.len]; lia))) lno.snoc;refine⟨_,rfl,.inl ⟨rfl,_,SqL.of eLz⟩,_,rfl,L,_,.ref t,rfl,rfl,eLz,zK (by lia),f3,f4,_,_,_,_,_,_,rfl⟩
   ·clear lD rp dn;rintro σ H7 ⟨sJ,⟨Ds,no,k,xs,eL7,rp,lD,dn,lno⟩,u1,u2,u3,u4,u5,u6,rfl⟩;refine⟨_,rfl,q L xs Ds H7 (λx o e=>sJ x o (zG e hL0) (s06 _ _ e)) hL0 eL7 rp (by lia) dn.ok (by rw[dn.at_]; show rs.length<=3; lia) dn.four ⟨J.toNat,by lia,by rw[dn.at_]; exact lno⟩ (by rw[dn.at_]; exact⟨by show 3<=l.length; lia,by show l.length<=5; lia,λe he=>by have:=pl e he; lia,rfl⟩)⟩
def DR(H:Hp):Nat->V->V->Prop
 | 0,x,y=>x=y/\((∃ i,x=.int i)\/(∃ b,x=.bl b)\/∃ z,x=.str z)
 | n+1,x,y=>(x=y/\((∃ i,x=.int i)\/(∃ b,x=.bl b)\/∃ z,x=.str z))\/∃(a b:Addr)(xs ys:List V)(l:Bool),x=.ref a/\y=.ref b/\H a=some (if l then .lst xs else .tup xs)/\H b=some (if l then .lst ys else .tup ys)/\xs.length=ys.length/\xs.length<=1000 /\
   ∀(i:Nat)(u v:V),xs[i]?=some u->ys[i]?=some v->DR H n u v
theorem DR.same{H H':Hp}(e:Same H H'):∀{n:Nat}{x y:V},DR H n x y->DR H' n x y
 | 0,_,_,h=>h
 | n+1,x,y,h=>by
  rcases h with h | ⟨a,b,xs,ys,l,e1,e2,h1,h2,h3,h4,h5⟩
  ·exact .inl h
  ·exact .inr ⟨a,b,xs,ys,l,e1,e2,e _ _ h1,e _ _ h2,h3,h4,λi u v g1 g2=>DR.same e (h5 i u v g1 g2)⟩
theorem DR.int{H:Hp}{n:Nat}{x y:Int}(h:x=y):DR H n (.int x) (.int y):=by
 subst h;cases n with
 | zero=>exact⟨rfl,.inl ⟨x,rfl⟩⟩
 | succ m=>exact .inl ⟨rfl,.inl ⟨x,rfl⟩⟩
theorem DR.bl{H:Hp}{n:Nat}{x y:Bool}(h:x=y):DR H n (.bl x) (.bl y):=by
 subst h;cases n with
 | zero=>exact⟨rfl,.inr (.inl ⟨x,rfl⟩)⟩
 | succ m=>exact .inl ⟨rfl,.inr (.inl ⟨x,rfl⟩)⟩
theorem DR.tupI{H:Hp}{n:Nat}{a b:Addr}{xs ys:List Int}(h1:H a=some (.tup (xs.map V.int)))(h2:H b=some (.tup (ys.map V.int)))(e:xs=ys)(hl:xs.length<=1000):DR H (n+1) (.ref a) (.ref b):=by
 subst e;refine .inr ⟨a,b,xs.map V.int,xs.map V.int,false,rfl,rfl,h1,h2,rfl,by rw[List.length_map]; exact hl,λi u v g1 g2=>?_⟩;rw[g1] at g2;cases g2;obtain⟨m,_,rfl⟩:=zBt g1;exact DR.int rfl
theorem DR.str{H:Hp}{n:Nat}{x y:Str}(h:x=y):DR H n (.str x) (.str y):=by
 subst h;cases n with
 | zero=>exact⟨rfl,.inr (.inr ⟨x,rfl⟩)⟩
 | succ m=>exact .inl ⟨rfl,.inr (.inr ⟨x,rfl⟩)⟩
theorem zSz{H:Hp} : ∀(n:Nat)(d:Dt){x y:V},zAd n d->Rep H d x->Rep H d y->DR H n x y
 | n,.int i,x,y,_,h1,h2=>by rw[yE.mp h1,yE.mp h2]; exact DR.int rfl
 | n,.str z,x,y,_,h1,h2=>by rw[zY.mp h1,zY.mp h2]; exact DR.str rfl
 | 0,.tup _,_,_,h,_,_=>h.elim
 | n+1,.tup l,x,y,h,h1,h2=>by
  obtain⟨a,xs,rfl,ha,ra⟩:=yL.mp h1;obtain⟨b,ys,rfl,hb,rb⟩:=yL.mp h2;have hl:l.length<=900:=h.1;refine .inr ⟨a,b,xs,ys,false,rfl,rfl,ha,hb,by rw[ra.length,rb.length],by rw[ra.length]; lia,λi u v g1 g2=>?_⟩;obtain⟨d,e1,r1⟩:=ra.back g1;obtain⟨d',e2,r2⟩:=rb.back g2;rw[e1] at e2;cases e2;exact zSz n d (h.2 d (List.mem_of_getElem? e1)) r1 r2
theorem zPg{H:Hp}{n:Nat}{l:List Dt}{a b:Addr}{xs ys:List V}(h:∀ d∈l,zAd n d)(hl:l.length<=900)(ha:H a=some (.lst xs))(hb:H b=some (.lst ys))(ra:yV H l xs)(rb:yV H l ys):DR H (n+1) (.ref a) (.ref b):=by
 refine .inr ⟨a,b,xs,ys,true,rfl,rfl,ha,hb,by rw[ra.length,rb.length],by rw[ra.length]; lia,λi u v g1 g2=>?_⟩;obtain⟨d,e1,r1⟩:=ra.back g1;obtain⟨d',e2,r2⟩:=rb.back g2;rw[e1] at e2;cases e2;exact zSz n d (h d (List.mem_of_getElem? e1)) r1 r2
def zGp:Nat->Sp
 | 0=>λ_ _ _ _=>False
 | n+1=>λvs H Q _=>∃(x y:V),vs=[x,y]/\DR H n x y/\∀ H',Same H H'->Q (.bl true) H'
def zIy(_:PySem.W.Frag):Sp:=zGp 6
structure KT(K:PySem.W.Frag)(ty:Value)(bb bi bl bt bs:Bool):Prop where
 b:PySem.W.kitOne K ty (.type "bool")=some bb
 i:PySem.W.kitOne K ty (.type "int")=some bi
 l:PySem.W.kitOne K ty (.type "list")=some bl
 t:PySem.W.kitOne K ty (.type "tuple")=some bt
 s:PySem.W.kitOne K ty (.type "str")=some bs
theorem zLc{f:Addr}{fd:FuncData}(F:Fun K "_law_same" "_law_same" zBc f fd)(Z:Zs mg)(bS:zAt K fd ["_law_told", "_law_due"] [])(kS:PySem.W.keepIn K (.ref f)=true)(mS:mg "_law_same" = some (.ref f)) :
  ∀ n:Nat,xE P w K mg base CX0 n f fd ["_law_told", "_law_due"] (zGp n)
 | 0=>⟨λ_ _ _ _ h=>h.elim,λ_ _ _ _ _ _ _ _ _ _ _ _ _ h=>h.elim⟩
 | n+1=>by
  have ih:=zLc F Z bS kS mS n;have yBt:Has P w K mg base "_law_same" n ["_law_told", "_law_due"] (zGp n):=⟨f,fd,ih,bS,kS,mS⟩
  specialize zO8
  ·obtain⟨x,y,rfl,_⟩:=h;rfl
  obtain⟨x,y,rfl,hD,q⟩:=h;have hr_self:=hr
  refine'⟨_,(zC (yR ?_ (zF (zT zGh)) zZ)
   (zC (yR ?_ (zF (zT zGh)) zZ)
   (zC (yR ?_ (zF (zT ?_)) zZ)
   (zF (zT (zR9 ?_ (zS6 (yK (qI rfl) rfl Z.all zJg (zH (uL (T:=["_law_one", "_law_other"]) (caps:=[]) ⟨rfl,by decide +kernel,by decide +kernel,rfl,True.intro⟩ rfl (zWy rfl Z.zip (zH (pv 0) (zH (pv 1) zO))) (λ_=>(rN rfl (yJ (vG 0 (show(["_law_one", "_law_other"]:List Str).Nodup by decide +kernel)) (yJ (vG 1 (show(["_law_one", "_law_other"]:List Str).Nodup by decide +kernel)) vR)))) (λ_=>xH) (λ_=>(uD yBt hr_self rfl (zH (pv 0) (zH (pv 1) zO))))) zO))))))))),?_⟩
  nofun
  have kinds:∃(t:Value)(bb bi bl bt bs:Bool),TyOf K H x t/\TyOf K H y t/\KT K t bb bi bl bt bs/\((bl=false/\bt=false/\x=y/\((∃ i,x=.int i)\/(∃ b,x=.bl b)\/∃ z,x=.str z)) \/
    ∃(m:Nat)(a b:Addr)(xs ys:List V)(l:Bool),bl=l/\bt = !l/\n=m+1/\x=.ref a/\y=.ref b/\H a=some (if l then .lst xs else .tup xs)/\H b=some (if l then .lst ys else .tup ys)/\xs.length=ys.length/\xs.length<=1000 /\
     ∀(i:Nat)(u v:V),xs[i]?=some u->ys[i]?=some v->DR H m u v):=by
   have zWw:(x=y/\((∃ i,x=.int i)\/(∃ b,x=.bl b)\/∃ z,x=.str z))->∃(t:Value)(bb bi bl bt bs:Bool),TyOf K H x t/\TyOf K H y t/\KT K t bb bi bl bt bs/\(bl=false/\bt=false/\x=y/\((∃ i,x=.int i)\/(∃ b,x=.bl b)\/∃ z,x=.str z)):=λh=>by
    obtain⟨rfl,h⟩:=h;rcases h with ⟨i,rfl⟩ | ⟨b,rfl⟩ | ⟨z,rfl⟩
    ·exact⟨_,_,_,_,_,_,.int i,.int i,⟨rfl,rfl,rfl,rfl,rfl⟩,rfl,rfl,rfl,.inl ⟨i,rfl⟩⟩
    ·exact⟨_,_,_,_,_,_,.bl b,.bl b,⟨rfl,rfl,rfl,rfl,rfl⟩,rfl,rfl,rfl,.inr (.inl ⟨b,rfl⟩)⟩
    ·exact⟨_,_,_,_,_,_,.str z,.str z,⟨rfl,rfl,rfl,rfl,rfl⟩,rfl,rfl,rfl,.inr (.inr ⟨z,rfl⟩)⟩
   cases n with
   | zero =>
    obtain⟨t,bb,bi,bl,bt,bs,h1,h2,h3,h4⟩:=zWw hD;exact⟨t,bb,bi,bl,bt,bs,h1,h2,h3,.inl h4⟩
   | succ m =>
    rcases hD with h | ⟨a,b,xs,ys,l,e1,e2,h1,h2,h3,h4,h5⟩
    ·obtain⟨t,bb,bi,bl,bt,bs,h1,h2,h3,h4⟩:=zWw h;exact⟨t,bb,bi,bl,bt,bs,h1,h2,h3,.inl h4⟩
    ·subst e1 e2;cases l with
     | true=>exact⟨_,_,_,_,_,_,.lst h1,.lst h2,⟨rfl,rfl,rfl,rfl,rfl⟩,.inr ⟨m,a,b,xs,ys,true,rfl,rfl,rfl,rfl,rfl,h1,h2,h3,h4,h5⟩⟩
     | false=>exact⟨_,_,_,_,_,_,.tup h1,.tup h2,⟨rfl,rfl,rfl,rfl,rfl⟩,.inr ⟨m,a,b,xs,ys,false,rfl,rfl,rfl,rfl,rfl,h1,h2,h3,h4,h5⟩⟩
  obtain⟨t,bb,bi,bl,bt,bs,tx,ty,kt,rest⟩:=kinds;exists _,rfl,_, "bool", t,bb,rfl,tx,kt.b,_,rfl,_, "bool", t,bb,rfl,ty,kt.b,rfl,_,rfl;refine ifN (λz=>absurd rfl z) (λ_=>?_);exists _,rfl,_, "int", t,bi,rfl,tx,kt.i,_,rfl,_, "int", t,bi,rfl,ty,kt.i,rfl,_,rfl;refine ifN (λz=>absurd rfl z) (λ_=>?_);exists _,rfl,_, "list", t,bl,rfl,tx,kt.l,_,rfl,_, "list", t,bl,rfl,ty,kt.l,rfl,_,rfl;refine ifN (λz=>absurd rfl z) (λ_=>?_);exists _,rfl,_, "tuple", t,bt,rfl,tx,kt.t,_,rfl,_, "tuple", t,bt,rfl,ty,kt.t,rfl,_,rfl;refine ifN (λz=>absurd rfl z) (λ_=>?_);exists _,rfl,_, "list", t,bl,rfl,ty,kt.l,_,rfl;rcases rest with ⟨rfl,rfl,rfl,hs⟩ | ⟨m,a,b,xs,ys,l,rfl,rfl,rfl,rfl,rfl,ha,hb,hlen,h1000,hel⟩
  ·refine zE3 ?_;exists _,rfl,_, "tuple", t,false,rfl,ty,kt.t,_,rfl;refine zE3 ?_;exists _,rfl,_, "str", t,bs,rfl,tx,kt.s,_,rfl,_, "str", t,bs,rfl,ty,kt.s,rfl,_,rfl;rw[decide_eq_true rfl];refine zE3 ?_;refine⟨_,rfl,_,rfl,?_,?_⟩
   ·rcases hs with ⟨i,rfl⟩ | ⟨b,rfl⟩ | ⟨z,rfl⟩ <;> rfl
   ·rw[decide_eq_true rfl];exact q H (Same.refl H)
  ·have SA:SqB bl K H a xs:=by
    cases bl
    ·exact SqT.of ha
    ·exact SqL.of ha
   have SB:SqB bl K H b ys:=by
    cases bl
    ·exact SqT.of hb
    ·exact SqL.of hb
   have SA':SqL K H a xs\/SqT K H a xs:=by
    cases bl
    ·exact .inr SA
    ·exact .inl SA
   have SB':SqL K H b ys\/SqT K H b ys:=by
    cases bl
    ·exact .inr SB
    ·exact .inl SB
   have keep:∀(H':Hp),Same H H'->SqB bl K H' a xs/\SqB bl K H' b ys:=λH' e=>by
    cases bl
    ·exact⟨SqT.same SA e,SqT.same SB e⟩
    ·exact⟨e.seq SA,e.seq SB⟩
   cases hbl:bl with
   | true =>
    refine xP ?_;refine xP ?_;exists _,rfl,a,xs,rfl,SA',_,rfl,b,ys,rfl,SB',rfl,_,rfl;rw[decI (by rw[hlen])];refine zE3 ?_;refine⟨_,rfl,_,rfl,bl,bl,a,b,xs,ys,rfl,SA,SB,λc D hD=>zHm (K:=K) (xs:=xs) (ys:=ys) (λi σ zs H'=>Same H H'/\H' D=some (.lst zs)/\zs=(List.replicate i true).map V.bl/\i<=xs.length/\∃ u v,σ=[u,v])
     ⟨zB hD _,zA,rfl,Nat.zero_le _,none,none,rfl⟩ (λi σ zs H' ⟨e,e2,_⟩=>⟨(keep H' e).1,(keep H' e).2,e2⟩) ?_ ?_⟩
    ·rintro i u v T σ zs H' hu hv hT ⟨e,e2,rfl,hi,o1,o2,rfl⟩;have hil:i<xs.length:=(List.getElem?_eq_some_iff.mp hu).1;have s2:=zB hT (.tup [u,v]);refine⟨T,[u,v],rfl,SqT.of zA,rfl,u,[v],rfl,v,[],rfl,rfl,_,rfl,_,rfl,u,v,rfl,(hel i u v hu hv).same (e.trans s2),λH4 s4=>?_⟩;have e4:=s4 _ _ (s2 _ _ e2);refine⟨e4,zK (by rw[List.length_map,List.length_replicate]; lia),λp o z=>?_,zA,?_,hil,_,_,rfl⟩
     ·rw[zD (zG z hD)];exact s4 _ _ (s2 _ _ (e _ _ z))
     ·rw[List.replicate_succ',List.map_append];rfl
    ·rintro σ zs H' ⟨e,e2,rfl,hi,o1,o2,rfl⟩;exists D,List.replicate (min xs.length ys.length) true,rfl,SqL.of e2;rw[show(List.replicate (min xs.length ys.length) true).all id=true from by simp];exact q _ e
   | false =>
    refine zE3 ?_;exists _,rfl,_, "tuple", t,true,rfl,ty,kt.t.trans (by rw[hbl]; rfl),_,rfl;refine xP ?_;exists _,rfl,a,xs,rfl,SA',_,rfl,b,ys,rfl,SB',rfl,_,rfl;rw[decI (by rw[hlen])];refine zE3 ?_;refine⟨_,rfl,_,rfl,bl,bl,a,b,xs,ys,rfl,SA,SB,λc D hD=>zHm (K:=K) (xs:=xs) (ys:=ys) (λi σ zs H'=>Same H H'/\H' D=some (.lst zs)/\zs=(List.replicate i true).map V.bl/\i<=xs.length/\∃ u v,σ=[u,v])
     ⟨zB hD _,zA,rfl,Nat.zero_le _,none,none,rfl⟩ (λi σ zs H' ⟨e,e2,_⟩=>⟨(keep H' e).1,(keep H' e).2,e2⟩) ?_ ?_⟩
    ·rintro i u v T σ zs H' hu hv hT ⟨e,e2,rfl,hi,o1,o2,rfl⟩;have hil:i<xs.length:=(List.getElem?_eq_some_iff.mp hu).1;have s2:=zB hT (.tup [u,v]);refine⟨T,[u,v],rfl,SqT.of zA,rfl,u,[v],rfl,v,[],rfl,rfl,_,rfl,_,rfl,u,v,rfl,(hel i u v hu hv).same (e.trans s2),λH4 s4=>?_⟩;have e4:=s4 _ _ (s2 _ _ e2);refine⟨e4,zK (by rw[List.length_map,List.length_replicate]; lia),λp o z=>?_,zA,?_,hil,_,_,rfl⟩
     ·rw[zD (zG z hD)];exact s4 _ _ (s2 _ _ (e _ _ z))
     ·rw[List.replicate_succ',List.map_append];rfl
    ·rintro σ zs H' ⟨e,e2,rfl,hi,o1,o2,rfl⟩;exists D,List.replicate (min xs.length ys.length) true,rfl,SqL.of e2;rw[show(List.replicate (min xs.length ys.length) true).all id=true from by simp];exact q _ e
theorem zNd(F:Fun K "_law_same" "_law_same" zBc f fd)(Z:Zs mg)(bS:zAt K fd ["_law_told", "_law_due"] [])(kS:PySem.W.keepIn K (.ref f)=true)(mS:mg "_law_same" = some (.ref f)):xE P w K mg base CX0 6 f fd ["_law_told", "_law_due"] (zIy K):=zLc F Z bS kS mS 6
def zAz(_:PySem.W.Frag):Sp:=λvs H Q _=>∃(v:V)(l:List Dt),vs=[v]/\Rep H (.tup l) v/\zAd 3 (.tup l)/\(zW l).length<=100/\∀ H',Same H H'->Q (.str (Builtin.Str.glued (Str.ofString " ") (zW l))) H'
theorem zGx(F:Fun K "_law_text_row" "_law_text_row" tS f fd)(Z:Zs mg)(CB:Cb P w mg base)  : xE P w K mg base CX0 1 f fd ["_law_deed"] (zAz K):=by
 specialize xB
 ·obtain⟨v,l,rfl,_⟩:=h;rfl
 obtain⟨v,l,rfl,hd,sh,hl,q⟩:=h;obtain⟨a,xs,rfl,ha,rs⟩:=yL.mp hd;have sh:l.length<=900/\∀ d∈l,zAd 2 d:=sh
 refine'⟨_,(zC (yB 1 xB.nd ?_)
   (zC (uH PassesOwn.never rfl (tQ (pv 0)) (vG 2 xB.nd) (zC (yB 3 xB.nd ?_)
   (zC (yR ?_ (zC (yB 3 xB.nd ?_)
   (zF (uH PassesOwn.never rfl (tQ (pv 2)) (vG 4 xB.nd) (zF (yB 3 xB.nd (uG zFs (pv 3) ?_)))))) zZ)
   (zF (yB 1 xB.nd (uG zFs (pv 1) (uL (T:=["_law_one"]) (caps:=[]) ⟨rfl,by decide +kernel,by decide +kernel,rfl,True.intro⟩ rfl (tQ (pv 3)) (λ_=>(vG 0 (show(["_law_one"]:List Str).Nodup by decide +kernel))) (λ_=>xH) (λ_=>?_))))))))
   (zF (zT (zJw PySem.F.plainAttrs_str PySem.F.slot_str_join PySem.F.type_str_join zEb zM (zH (pv 1) zO)))))),?_⟩
 nofun
 refine⟨sz0,λg hg=>?_⟩;have s1:=zB hg (.lst []);refine⟨_,rfl,a,rfl,.inr ⟨⟨_,SqT.of (s1 _ _ ha)⟩,?_⟩⟩;refine zHa (K:=K) (a:=a) (xs:=xs) (λi σ H'=>Same H H'/\∃(g:Addr)(u2 u3 u4:Option V),H' g=some (.lst ((zW (l.take i)).map V.str))/\σ=[some (.ref a),some (.ref g),u2,u3,u4])
  ⟨s1,g,none,none,none,by rw[List.take_zero,zW]; exact zA,rfl⟩ (λi σ H' _ h=>SqT.of (h.1 _ _ ha)) ?_ ?_
 ·rintro i x σ H' gx ⟨sH,g,u2,u3,u4,eg,rfl⟩;obtain⟨d,gd,rd⟩:=rs.back gx;have rd':=rd.to (.of sH);have shd:=sh.2 d (List.mem_of_getElem? gd);have e1:=zCh gd;have e2:=zF8 l (i+1);rw[e1,List.length_append] at e2;have ll:(yP d).length<=100:=by
   have:=congrArg List.length (qC d);rw[List.length_map] at this;lia
  refine⟨_,rfl,sz1,λr0 hr0=>?_⟩;have sr:=zB hr0 (.lst [x]);apply cutRw (ok:=λr zs u H2=>Same H' H2/\H2 r=some (.lst zs)/\yV H2 (yP d) zs)
  ·intro k;have three:(∃ m,d=.tup m)\/(∃ n,d=.int n)\/∃ n,d=.str n:=by
    cases d with
    | int n=>exact .inr (.inl ⟨n,rfl⟩)
    | str n=>exact .inr (.inr ⟨n,rfl⟩)
    | tup m=>exact .inl ⟨m,rfl⟩
   rcases three with ⟨m,ed⟩ | ⟨n,ed⟩ | ⟨n,ed⟩
   ·obtain⟨b,ys,ex,hb,rb⟩:=yL.mp (show Rep H' (.tup m) x by rw[<- ed]; exact rd');have shm:m.length<=900/\∀ d∈m,zAd 1 d:=(show zAd 2 (.tup m) by rw[<- ed]; exact shd);have lm:(yD m).length<=100:=by rw[ed,yP] at ll; exact ll
    have hb0:=sr _ _ hb;exists _,rfl,_, "tuple", _,true,rfl,Eq.mpr (congrArg (λz=>TyOf K (upd H' r0 (.lst [x])) z (.type "tuple")) ex) (.tup hb0),rfl,_,rfl;refine zE3 ?_;refine⟨sz0,λr1 hr1=>?_⟩;have sr1:=sr.trans (zB hr1 (.lst []));refine⟨_,rfl,b,ex,.inr ⟨⟨_,SqT.of (sr1 _ _ hb)⟩,?_⟩⟩;refine zHa (K:=K) (a:=b) (xs:=ys) (λj σ H2=>Same H' H2/\∃(r:Addr)(zs:List V)(u:Option V),H2 r=some (.lst zs)/\yV H2 (yD (m.take j)) zs/\σ=[some (.ref a),some (.ref g),some x,some (.ref r),u])
     ⟨sr1,r1,[],_,zA,by rw[List.take_zero,yD]; exact zX.mpr rfl,rfl⟩ (λj σ H2 _ h=>SqT.of (h.1 _ _ hb)) ?_ ?_
    ·rintro j y σ H2 gy ⟨s2,r,zs,u,er,rz,rfl⟩;obtain⟨e,ge,re⟩:=rb.back gy;have re2:=re.to (.of s2);have she:=shm.2 e (List.mem_of_getElem? ge);have f1:=zG1 ge;have f2:=zKa m (j+1);rw[f1,List.length_append] at f2;have lz:=rz.length
     match e,re2,she,f1,f2 with
     | .int n,re2,she,f1,f2 =>
      obtain rfl:=yE.mp re2;exists _,rfl,_,rfl,_, "tuple", _,false,rfl,.int n,rfl,_,rfl;refine xP ?_;refine⟨_,rfl,sz1,λl2 hl2=>?_⟩;have s3:=zB hl2 (.lst [.int n]);refine⟨r,l2,zs,[.int n],rfl,rfl,s3 _ _ er,zA,Nat.le_of_lt (zK (by show zs.length+1<=1000; lia)),λp hp=>?_⟩;have s4:=s3.trans (zB hp (.lst (zs++[.int n])));refine⟨s2.trans s4,p,_,_,zA,?_,rfl⟩;rw[f1,yP];exact(rz.to (.of s4)).app (.one (yE.mpr rfl))
     | .str n,re2,she,f1,f2 =>
      obtain rfl:=zY.mp re2;exists _,rfl,_,rfl,_, "tuple", _,false,rfl,.str n,rfl,_,rfl;refine xP ?_;refine⟨_,rfl,sz1,λl2 hl2=>?_⟩;have s3:=zB hl2 (.lst [.str n]);refine⟨r,l2,zs,[.str n],rfl,rfl,s3 _ _ er,zA,Nat.le_of_lt (zK (by show zs.length+1<=1000; lia)),λp hp=>?_⟩;have s4:=s3.trans (zB hp (.lst (zs++[.str n])));refine⟨s2.trans s4,p,_,_,zA,?_,rfl⟩;rw[f1,yP];exact(rz.to (.of s4)).app (.one (zY.mpr rfl))
     | .tup o,re2,she,f1,f2 =>
      obtain⟨c,ws,rfl,hc,rc⟩:=yL.mp re2;have sho:o.length<=900/\∀ d∈o,zAd 0 d:=she;have lo:=zD2 o sho.2;rw[yP,lo] at f1 f2;have lw:=rc.length;exists _,rfl,_,rfl,_, "tuple", _,true,rfl,.tup hc,rfl,_,rfl;refine zE3 ?_;refine⟨_,rfl,c,ws,rfl,.inr (SqT.of hc),λl2 hl2=>?_⟩;have s3:=zB hl2 (.lst ws);refine⟨r,l2,zs,ws,rfl,rfl,s3 _ _ er,zA,Nat.le_of_lt (zK (by lia)),λp hp=>?_⟩;have s4:=s3.trans (zB hp (.lst (zs++ws)));refine⟨s2.trans s4,p,_,_,zA,?_,rfl⟩;rw[f1];exact(rz.to (.of s4)).app (rc.to (.of s4))
    ·rintro σ H2 ⟨s2,r,zs,u,er,rz,rfl⟩;rw[rb.length,List.take_length] at rz;exact k r zs u H2 ⟨s2,er,by rw[ed,yP]; exact rz⟩
   ·have ex:=yE.mp (show Rep H' (.int n) x by rw[<- ed]; exact rd');exists _,rfl,_, "tuple", _,false,rfl,(by rw[ex]; exact .int n),rfl,_,rfl;refine xP ?_;exact k r0 [x] u4 _ ⟨sr,zA,by rw[ed,yP]; exact .one (yE.mpr ex)⟩
   ·have ex:=zY.mp (show Rep H' (.str n) x by rw[<- ed]; exact rd');exists _,rfl,_, "tuple", _,false,rfl,(by rw[ex]; exact .str n),rfl,_,rfl;refine xP ?_;exact k r0 [x] u4 _ ⟨sr,zA,by rw[ed,yP]; exact .one (zY.mpr ex)⟩
  ·rintro r zs u H2 ⟨s2,er,rz⟩;have lz:=rz.length;refine⟨_,rfl,_,rfl,r,rfl,.inl ⟨⟨_,SqL.of er⟩,λc D hD=>?_⟩⟩;refine tE (K:=K) (a:=r) (xs:=zs) (λj σ ws H3=>Same H2 H3/\H3 D=some (.lst ws)/\ws=((yP d).take j).map (λe=>V.str (w1 e))/\∃ u:Option V,σ=[u])
    ⟨zB hD _,zA,rfl,none,rfl⟩ (λj σ ws H3 _ ⟨s3,e,_⟩=>⟨SqL.of (s3 _ _ er),e⟩) ?_ ?_
   ·rintro j y σ ws H3 gy ⟨s3,eD,rfl,u,rfl⟩;obtain⟨e,ge,re⟩:=rz.back gy;have fe:=zIl 2 d shd e (List.mem_of_getElem? ge);have len:(((yP d).take j).map (λe=>V.str (w1 e))).length<sizeLine:=zK (by rw[List.length_map,List.length_take]; lia);have fin:((yP d).take j).map (λe=>V.str (w1 e))++[V.str (w1 e)]=((yP d).take (j+1)).map (λe=>V.str (w1 e)):=by
     rw[List.take_succ,ge,List.map_append];rfl
    match e,re,fe,fin with
    | .int n,re,fe,fin =>
     obtain rfl:=yE.mp re;exact⟨_,rfl,.inl ⟨n,rfl,fe,eD,len,s3.putNew hD,zA,fin,_,rfl⟩⟩
    | .str n,re,fe,fin =>
     obtain rfl:=zY.mp re;exact⟨_,rfl,.inr ⟨n,rfl,eD,len,s3.putNew hD,zA,fin,_,rfl⟩⟩
   ·rintro σ ws H3 ⟨s3,eD,rfl,u,rfl⟩;rw[lz,List.take_length] at eD;refine⟨g,D,_,_,rfl,rfl,s3 _ _ (s2 _ _ eg),eD,Nat.le_of_lt (zK (by rw[List.length_map,List.length_map]; lia)),λp hp=>?_⟩;have s4:=zB hp (.lst ((zW (l.take i)).map V.str++(yP d).map λe=>V.str (w1 e)));refine⟨((sH.trans s2).trans s3).trans s4,p,_,_,_,?_,rfl⟩;rw[e1,qC d,List.map_append,List.map_map];exact zA
 ·rintro σ H' ⟨sH,g,u2,u3,u4,eg,rfl⟩;rw[rs.length,List.take_length] at eg;have jl:=sP (sep:=Str.ofString " ") (by decide) (zBn 2 l sh.2);exact⟨rfl,_,rfl,Str.ofString " ", g,zW l,rfl,rfl,SqL.of eg,by show _<=2^24; lia,q H' sH⟩
def zH4(K:PySem.W.Frag):Sp:=λvs H Q _=>∃(g:Addr)(xs:List V)(Ds:List Deed),vs=[.ref g]/\SqL K H g xs/\yV H (Ds.map Deed.dt) xs/\Ds.length<=80/\(∀ D∈Ds,zAd 3 D.dt/\(yM D.dt).length<=50)/\∀ H',Same H H'->Q (.str (zTe Ds)) H'
theorem zNs(F:Fun K "_law_text" "_law_text" zDi f fd)(Z:Zs mg)(CB:Cb P w mg base)(yBe:Has P w K mg base "_law_text_row" 1 ["_law_deed"] (zAz K)):xE P w K mg base CX0 2 f fd ["_law_deeds"] (zH4 K):=by
 specialize zO6
 ·obtain⟨g,xs,Ds,rfl,_⟩:=h;rfl
 obtain⟨g,xs,Ds,rfl,hg,rx,hl,sh,q⟩:=h;have lx:xs.length=Ds.length:=by rw[rx.length,List.length_map]
 refine'⟨_,(zF (zT (zJw PySem.F.plainAttrs_str PySem.F.slot_str_join PySem.F.type_str_join zEb zM (zH (uL (T:=["_law_deed"]) (caps:=[]) ⟨rfl,by decide +kernel,by decide +kernel,rfl,True.intro⟩ rfl (tQ (pv 0)) (λ_=>(vG 0 (show(["_law_deed"]:List Str).Nodup by decide +kernel))) (λ_=>xH) (λ_=>(uG zBs ?_ zM))) zO)))),?_⟩
 nofun
 refine⟨rfl,_,rfl,g,rfl,.inl ⟨⟨_,hg⟩,λc D hD=>?_⟩⟩;refine tE (K:=K) (a:=g) (xs:=xs) (λi σ zs H'=>Same H H'/\H' D=some (.lst zs)/\zs=((Ds.take i).map λD=>zP4 D.dt).map V.str/\∃ u:Option V,σ=[u])
  ⟨zB hD _,zA,rfl,none,rfl⟩ (λi σ zs H' _ ⟨sH,e,_⟩=>⟨sH.seq hg,e⟩) ?_ ?_
 ·rintro i x σ zs H' hi ⟨sH,eD,rfl,u,rfl⟩;have il:=(List.getElem?_eq_some_iff.mp hi).1;obtain⟨dt,gd,rd⟩:=rx.back hi;rw[List.getElem?_map,Option.map_eq_some_iff] at gd;obtain⟨e,ge,rfl⟩:=gd;have he:=sh e (List.mem_of_getElem? ge);obtain⟨l,el⟩:=zVl e;have rd':=rd.to (.of sH);have row:zP4 e.dt=Builtin.Str.glued (Str.ofString " ") (zW l)++Str.ofString "\n" := by
   unfold zP4;rw[zNt,el,yM]
  rw[el] at rd' he;have jl:=sP (sep:=Str.ofString " ") (by decide) (zA5 3 _ he.1);have gl:=zGz (Str.ofString " ") (yM (.tup l));rw[yM] at he jl gl;refine⟨_,rfl,x,l,rfl,rd',he.1,by lia,λH2 s2=>?_⟩;refine⟨_,_,rfl,rfl,by have e2:(Str.ofString "\n").length=1:=rfl; show _<=2^24; lia,s2 _ _ eD,zK (by rw[List.length_map,List.length_map,List.length_take]; lia),(sH.trans s2).putNew hD,zA,?_,_,rfl⟩;rw[List.take_succ,ge,List.map_append,List.map_append,<- row];rfl
 ·rintro σ zs H' ⟨sH,eD,rfl,u,rfl⟩;rw[lx,List.take_length] at eD;have jl:=zGr (ts:=Ds.map λD=>zP4 D.dt) λw hw=>by
   obtain⟨e,he,rfl⟩:=List.mem_map.mp hw;exact zH7 (sh e he).1 (sh e he).2
  rw[List.length_map] at jl;refine⟨_,D,_,rfl,rfl,SqL.of eD,by show _<=2^24; lia,?_⟩;exact q H' sH
def zH6(_:PySem.W.Frag):Sp:=λvs H Q _=>∃(b dx:Addr),vs=[.ref b]/\H b=some (.ins bkC dx []) /\
 ∀(p:Addr)(H':Hp),xJ (λx=>x=b) H H'->H p=none->zJ8 bkC H' b p BS.nil [] []->Q .non H'
theorem zPi(F:Fun K "__init__" "Book.__init__" zDe f fd)(Z:Zs mg)(CB:Cb P w mg base)(yAi:Has P w K mg base "nothing_yet" 1 [] (rR K)):xE P w K mg base CX0 2 f fd ["self"] (zH6 K):=by
 specialize zO3
 ·obtain⟨b,dx,rfl,_⟩:=h;rfl
 obtain⟨b,dx,rfl,hb,q⟩:=h
 refine'⟨_,(zC (zBr CB.state (pv 0) (zEe yAi (hr.mono (by decide)) rfl))
   (zC (zBr CB.past (pv 0) ?_)
   (zF (zBr CB.later (pv 0) ?_)))),?_⟩
 nofun
 refine⟨rfl,λd H1 s1 fd0 st=>?_⟩;have hb1:=s1 _ _ hb;exists _,rfl,b,dx,[],rfl,hb1,(by show 0<1000; decide);refine⟨sz0,λp hp=>?_⟩;have nbp:b≠p:=zG zA hp;exists _,rfl,b,dx,_,rfl,(by rw[zD nbp,zA]),(by show 1<1000; decide);refine⟨sz0,λl hl=>?_⟩;have nbl:b≠l:=zG zA hl;have npl:p≠l:=λz=>by
  rw[<- z,zD nbp.symm,zA] at hl;cases hl
 exists _,rfl,b,dx,_,rfl,(by rw[zD nbl,zA]),(by show 2<1000; decide);rw[zTa];have hp1:H1 p=none:=by rw[zD nbp.symm] at hp; exact hp
 have hl1:H1 l=none:=by rw[zD nbl.symm,zD npl.symm,zD nbl.symm] at hl; exact hl
 have sE:xJ (λx=>x=b) H1 (upd (upd (upd (upd (upd H1 b (.ins bkC dx (zDf "state" (.ref d) []))) p (.lst [])) b (.ins bkC dx (zDf "past" (.ref p) (zDf "state" (.ref d) [])))) l (.lst [])) b (.ins bkC dx (bkF d p l))):=λx o hx e=>by
  have n1:=zG e hp1;have n2:=zG e hl1;rw[zD hx,zD n2,zD hx,zD n1,zD hx];exact .inl e
 have nd:∀ a kvs,Rd H1 a (.dK kvs)->¬ a=b:=λa kvs h z=>by
  subst z;rcases h with h | ⟨o,h⟩ <;> rw[hb1] at h <;> cases h
 have np:∀ a xs,H1 a=some (.tup xs)->¬ a=b:=λa xs h z=>by
  subst z;rw[hb1] at h;cases h
 refine q p _ ((xJ.of s1).trans sE) (s1.free hp1) ⟨dx,d,l,[],[],zA,st.samE sE nd np,?_,?_,rfl,rfl,npl.symm⟩
 ·rw[zD nbp.symm,zD npl,zD nbp.symm,zA]
 ·rw[zD nbl.symm,zA]
def zIs(_:PySem.W.Frag):Sp:=λvs H Q _=>∃(b x y t dx d d0 p l:Addr)(v:V)(xs ys:List V),vs=[.ref b,.ref x,.ref y]/\H b=some (.ins bkC dx (bkF d p l))/\H x=some (.lst (xs++[.ref t]))/\H y=some (.lst ys)/\x≠y/\H t=some (.tup [v,.ref d0])/\ys.length<=500 /\
 ∀ t',H t'=none->Q v (upd (upd (upd (upd H x (.lst xs)) t' (.tup [v,.ref d])) y (.lst (ys++[.ref t']))) b (.ins bkC dx (bkF d0 p l)))
theorem zOr(F:Fun K "step" "Book.step" zC7 f fd)(Z:Zs mg)(CB:Cb P w mg base)  : xE P w K mg base CX0 1 f fd ["self", "taken", "given"] (zIs K):=by
 specialize zHn
 ·obtain⟨b,x,y,t,dx,d,d0,p,l,v,xs,ys,rfl,_⟩:=h;rfl
 obtain⟨b,x,y,t,dx,d,d0,p,l,v,xs,ys,rfl,hb,hx,hy,nxy,ht,hl,q⟩:=h
 refine'⟨_,(zC (yB 3 zHn.nd (zV4 PySem.F.plainAttrs_list PySem.F.slot_list_pop PySem.F.type_list_pop zXd (pv 1)))
   (zC (zS (rZ (pv 2) (zH (zD3 (zH ?_ (zH (tX CB.state (pv 0)) zO))) zO)))
   (zC (zBr CB.state (pv 0) ?_)
   (zF (zT ?_))))),?_⟩
 nofun
 have nbx:b≠x:=zCp hb hx (λz=>nomatch z);have nby:b≠y:=zCp hb hy (λz=>nomatch z);have ntx:t≠x:=zCp ht hx (λz=>nomatch z);have nty:t≠y:=zCp ht hy (λz=>nomatch z);have nbt:b≠t:=zCp hb ht (λz=>nomatch z);refine⟨_,rfl,.inl ⟨rfl,_,SqL.of hx⟩,x,xs++[.ref t],.ref t,rfl,rfl,hx,by simp,?_⟩;rw[List.dropLast_concat];have b1:upd H x (.lst xs) b=some (.ins bkC dx (bkF d p l)):=by rw[zD nbx]; exact hb
 have y1:upd H x (.lst xs) y=some (.lst ys):=by rw[zD nxy.symm]; exact hy
 have t1:upd H x (.lst xs) t=some (.tup [v,.ref d0]):=by rw[zD ntx]; exact ht
 refine⟨_,rfl,.inl ⟨rfl,_,SqL.of y1⟩,_,rfl,t,_,0,v,rfl,rfl,.inr (SqT.of t1),rfl,_,rfl,b,dx,_,_,rfl,b1,zC5,sz2,λt' ht'=>?_⟩;have ntx':t'≠x:=λz=>by rw[z,zA] at ht'; cases ht'
 have hH:H t'=none:=by rw[zD ntx'] at ht'; exact ht'
 have s2:=zB ht' (.tup [v,.ref d]);have nyt:y≠t':=zG hy hH;have nbt':b≠t':=zG hb hH;have ntt:t≠t':=zG ht hH;exists y,ys,.ref t',rfl,rfl,s2 _ _ y1,zK (by lia);have t3:upd (upd (upd H x (.lst xs)) t' (.tup [v,.ref d])) y (.lst (ys++[.ref t'])) t=some (.tup [v,.ref d0]):=by rw[zD nty]; exact s2 _ _ t1
 have b3:upd (upd (upd H x (.lst xs)) t' (.tup [v,.ref d])) y (.lst (ys++[.ref t'])) b=some (.ins bkC dx (bkF d p l)):=by rw[zD nby]; exact s2 _ _ b1
 exists _,rfl,t,_,1,.ref d0,rfl,rfl,.inr (SqT.of t3),rfl,_,rfl,b,dx,_,rfl,b3,(by show 3<1000; decide);rw[zB8];have t4:upd (upd (upd (upd H x (.lst xs)) t' (.tup [v,.ref d])) y (.lst (ys++[.ref t']))) b (.ins bkC dx (bkF d0 p l)) t=some (.tup [v,.ref d0]):=by rw[zD nbt.symm]; exact t3
 exact⟨_,rfl,t,_,0,v,rfl,rfl,.inr (SqT.of t4),rfl,q t' hH⟩
def zI3(_:PySem.W.Frag):Sp:=λvs H Q _=>∃(b p l:Addr)(S S0:BS)(D:Deed)(past later:List (Deed×BS)),vs=[.ref b]/\BkL bkC H b p l S (past++[(D,S0)]) later/\later.length<=400/\past.length<=400 /\
 ∀(v:V)(H':Hp),xJ (Bl b p l) H H'->BkL bkC H' b p l S0 past (later++[(D,S)])->Rep H' D.dt v->Q v H'
theorem zNz(F:Fun K "undo" "Book.undo" zDa f fd)(Z:Zs mg)(CB:Cb P w mg base)(h_b_step:zM8 P w K mg base zKw 1 ["self", "taken", "given"] (zIs K)):xE P w K mg base CX0 2 f fd ["self"] (zI3 K):=by
 specialize zPo
 ·obtain⟨b,p,l,S,S0,D,past,later,rfl,_⟩:=h;rfl
 obtain⟨b,p,l,S,S0,D,past,later,rfl,⟨dx,d,ps,ls,k⟩,hl,hpl,q⟩:=h;obtain⟨ys,t,d0,v,rfl,k1,k2,k3,k4⟩:=k.pp.split;have no:∀{d l:Addr}{m:Str},m = "step" ->(bkF d p l).lookup m=none:=λ{d l m} e=>by subst e; exact zP9 (by decide +kernel) (by decide +kernel) (by decide +kernel)
 refine'⟨_,(zC (yR (yO (zW3 hr.units0) (tX CB.past (pv 0)) ?_ (yT _)) (zF xG) zZ)
   (zF (zT (zLv CB.m_step h_b_step (hr.mono (by decide)) (pv 0) (zH (tX CB.past (pv 0)) (zH (tX CB.later (pv 0)) zO)))))),?_⟩
 nofun
 have nlp:=k.ne;have nbp:b≠p:=zCp k.ob k.pa (λz=>nomatch z);have nbl:b≠l:=zCp k.ob k.la (λz=>nomatch z);refine⟨_,rfl,b,dx,_,_,rfl,k.ob,zG6,sz0,λe he=>?_⟩;have s1:=zB he (.lst []);have K1:=k.to (.of s1);obtain⟨rs,ers⟩:=K1.pp.refs;have pa2:=K1.pa;rw[ers] at pa2;exists p,e,rs,rfl,rfl,SqL.of pa2,SqL.of zA,_,rfl;have nrs:rs≠[]:=λz=>by rw[z] at ers; simp at ers
 have em:rs.isEmpty=false:=by
  cases rs with
  | nil=>exact absurd rfl nrs
  | cons=>rfl
 rw[em];refine xP ?_;refine⟨_,rfl,b,dx,_,rfl,K1.ob,no rfl,_,rfl,b,dx,_,_,rfl,K1.ob,zG6,_,rfl,b,dx,_,_,rfl,K1.ob,zLa,b,p,l,t,dx,d,d0,p,l,v,ys,ls,rfl,K1.ob,K1.pa,K1.la,nlp.symm,s1 _ _ k2,by rw[k.ll.len]; lia,λt' ht'=>?_⟩;have ntp:t'≠p:=λz=>by rw[z,K1.pa] at ht'; cases ht'
 have ntl:l≠t':=zG K1.la ht';have ntb:b≠t':=zG K1.ob ht';have sE:xJ (Bl b p l) (upd H e (.lst [])) (upd (upd (upd (upd (upd H e (.lst [])) p (.lst ys)) t' (.tup [v,.ref d])) l (.lst (ls++[.ref t']))) b (.ins bkC dx (bkF d0 p l))):=λx o hx h=>by
  have n1:x≠b:=λz=>hx (.inl z);have n2:x≠p:=λz=>hx (.inr (.inl z));have n3:x≠l:=λz=>hx (.inr (.inr z));rw[zD n1,zD n3,zD (zG h ht'),zD n2];exact .inl h
 have nd:=bl_nd K1.ob K1.pa K1.la;have np:=zU4 K1.ob K1.pa K1.la;refine q v _ ((xJ.of s1).trans sE) ⟨dx,d0,ys,ls++[.ref t'],zA,(k4.to (.of s1)).samE sE nd np,?_,?_,(k1.samE (.of s1) (λ_ _ _=>id) (λ_ _ _=>id)).samE sE nd np,xF.app ?_ ((k3.to (.of s1)).sam sE np) (K1.st.samE sE nd np) (K1.ll.samE sE nd np),nlp⟩ ((k3.to (.of s1)).sam sE np)
 ·rw[zD nbp.symm,zD nlp.symm,zD ntp.symm,zA]
 ·rw[zD nbl.symm,zA]
 ·rw[zD ntb.symm,zD ntl.symm,zA]
def zBl(_:PySem.W.Frag):Sp:=λvs H Q _=>∃(b p:Addr)(S:BS)(past later:List (Deed×BS)),vs=[.ref b]/\zJ8 bkC H b p S past later/\past.length<=500 /\
 ∀(g:Addr)(xs:List V)(H':Hp),Same H H'->H g=none->H' g=some (.lst xs)->yV H' (past.map (·.1.dt)) xs->Q (.ref g) H'
theorem zMq(F:Fun K "deeds" "Book.deeds" zBe f fd)(Z:Zs mg)(CB:Cb P w mg base)  : xE P w K mg base CX0 1 f fd ["self"] (zBl K):=by
 specialize zMs
 ·obtain⟨b,p,S,past,later,rfl,_⟩:=h;rfl
 obtain⟨b,p,S,past,later,rfl,⟨dx,d,l,ps,ls,k⟩,hl,q⟩:=h
 refine'⟨_,(zF (zT (uL (T:=["pair"]) (caps:=[]) ⟨rfl,by decide +kernel,by decide +kernel,rfl,True.intro⟩ rfl (tQ (tX CB.past (pv 0))) (λ_=>(vG 0 (show(["pair"]:List Str).Nodup by decide +kernel))) (λ_=>xH) (λ_=>?_)))),?_⟩
 nofun
 have lp:=k.pp.len;refine⟨_,rfl,b,dx,_,_,rfl,k.ob,zG6,p,rfl,.inl ⟨⟨_,SqL.of k.pa⟩,λc g hg=>?_⟩⟩;refine tE (K:=K) (a:=p) (xs:=ps) (λi σ zs H'=>Same H H'/\H' g=some (.lst zs)/\zs.length<=i/\yV H' ((past.take i).map (·.1.dt)) zs/\∃ u:Option V,σ=[u])
  ⟨zB hg _,zA,Nat.le_refl _,zX.mpr rfl,none,rfl⟩ (λi σ zs H' _ ⟨sH,e,_⟩=>⟨SqL.of (sH _ _ k.pa),e⟩) ?_ ?_
 ·rintro i x σ zs H' hi ⟨sH,eg,lz,rz,u,rfl⟩;have il:=(List.getElem?_eq_some_iff.mp hi).1;obtain⟨e,t,d',v,ge,rfl,ht,rv⟩:=(k.pp).get hi;refine⟨_,rfl,t,_,0,v,rfl,rfl,.inr (SqT.of (sH _ _ ht)),rfl,eg,zK (by lia),sH.putNew hg,zA,by rw[List.length_append]; simp only[List.length_cons,List.length_nil]; lia,?_,_,rfl⟩;have sE:=xC (o:=.lst (zs++[v])) eg;have np:=wM eg;rw[List.take_succ,ge,List.map_append];exact(yV.app rz (.one (rv.to (.of sH)))).sam sE np
 ·rintro σ zs H' ⟨sH,eg,lz,rz,u,rfl⟩;rw[lp,List.take_length] at rz;exact q g zs H' sH hg eg rz
def zB7(_:PySem.W.Frag):Sp:=λvs H Q _=>∃(b p:Addr)(S:BS)(past later:List (Deed×BS)),vs=[.ref b]/\zJ8 bkC H b p S past later/\past.length<=80/\(∀ e∈past,zAd 4 e.1.dt/\(yM e.1.dt).length<=50)/\∀(H':Hp),Same H H'->Q (.str (zTe (past.map (·.1)))) H'
theorem zIc(F:Fun K "written" "written" rK f fd)(Z:Zs mg)(CB:Cb P w mg base)(h_b_deeds:zM8 P w K mg base zDh 1 ["self"] (zBl K))(yAf:Has P w K mg base "written_row" 6 ["deed"] (rO K)):xE P w K mg base CX0 7 f fd ["book"] (zB7 K):=by
 specialize zIe
 ·obtain⟨b,p,S,past,later,rfl,_⟩:=h;rfl
 obtain⟨b,p,S,past,later,rfl,bk,hl,sh,q⟩:=h;obtain⟨dx,d,l,ps,ls,k⟩:=id bk;have no:∀{d l:Addr}{m:Str},m = "deeds" ->(bkF d p l).lookup m=none:=λ{d l m} e=>by subst e; exact zP9 (by decide +kernel) (by decide +kernel) (by decide +kernel)
 refine'⟨_,(zF (zT (zJw PySem.F.plainAttrs_str PySem.F.slot_str_join PySem.F.type_str_join zEb zM (zH (uL (T:=["deed"]) (caps:=[]) ⟨rfl,by decide +kernel,by decide +kernel,rfl,True.intro⟩ rfl (tQ (sI CB.m_deeds h_b_deeds (hr.mono (by decide)) (pv 0))) (λ_=>(vG 0 (show(["deed"]:List Str).Nodup by decide +kernel))) (λ_=>xH) (λ_=>?_)) zO)))),?_⟩
 nofun
 refine⟨rfl,_,rfl,b,dx,_,rfl,k.ob,no rfl,b,p,S,past,later,rfl,bk,by lia,λg xs H1 s1 hg eg rx=>?_⟩;have lx:xs.length=past.length:=by rw[rx.length,List.length_map]
 refine⟨g,rfl,.inl ⟨⟨_,SqL.of eg⟩,λc D hD=>?_⟩⟩;refine tE (K:=K) (a:=g) (xs:=xs) (λi σ zs H'=>Same H1 H'/\H' D=some (.lst zs)/\zs=((past.take i).map λe=>zP4 e.1.dt).map V.str/\∃ u:Option V,σ=[u])
  ⟨zB hD _,zA,rfl,none,rfl⟩ (λi σ zs H' _ ⟨sH,e,_⟩=>⟨SqL.of (sH _ _ eg),e⟩) ?_ ?_
 ·rintro i x σ zs H' hi ⟨sH,eD,rfl,u,rfl⟩;have il:=(List.getElem?_eq_some_iff.mp hi).1;obtain⟨dt,gd,rd⟩:=rx.back hi;rw[List.getElem?_map,Option.map_eq_some_iff] at gd;obtain⟨e,ge,rfl⟩:=gd;have he:=sh e (List.mem_of_getElem? ge);refine⟨_,rfl,x,e.1.dt,rfl,rd.to (.of sH),he.1,by lia,λH2 s2=>⟨s2 _ _ eD,zK (by rw[List.length_map,List.length_map,List.length_take]; lia),(sH.trans s2).putNew hD,zA,?_,_,rfl⟩⟩;rw[List.take_succ,ge,List.map_append,List.map_append];rfl
 ·rintro σ zs H' ⟨sH,eD,rfl,u,rfl⟩;rw[lx,List.take_length] at eD;have jl:=zGr (ts:=past.map λe=>zP4 e.1.dt) λw hw=>by
   obtain⟨e,he,rfl⟩:=List.mem_map.mp hw;exact zH7 (sh e he).1 (sh e he).2
  rw[List.length_map] at jl;refine⟨_,D,_,rfl,rfl,SqL.of eD,by show _<=2^24; lia,?_⟩;have r:=q H' (s1.trans sH);unfold zTe at r;rw[List.map_map] at r;exact r
def zEw(_:PySem.W.Frag):Sp:=λvs H Q _=>∃(b p:Addr)(S:BS)(past later:List (Deed×BS)),vs=[.ref b]/\zJ8 bkC H b p S past later/\later.length<=500 /\
 ∀(g:Addr)(xs:List V)(H':Hp),Same H H'->H g=none->H' g=some (.lst xs)->yV H' (later.reverse.map (·.1.dt)) xs->Q (.ref g) H'
theorem zKr(F:Fun K "undone" "Book.undone" zAf f fd)(Z:Zs mg)(CB:Cb P w mg base)  : xE P w K mg base CX0 1 f fd ["self"] (zEw K):=by
 specialize zJx
 ·obtain⟨b,p,S,past,later,rfl,_⟩:=h;rfl
 obtain⟨b,p,S,past,later,rfl,⟨dx,d,l,ps,ls,k⟩,hl,q⟩:=h
 refine'⟨_,(zF (zT (uL (T:=["pair"]) (caps:=[]) ⟨rfl,by decide +kernel,by decide +kernel,rfl,True.intro⟩ rfl (zV5 rfl Z.reversed (zH (tX CB.later (pv 0)) zO)) (λ_=>(vG 0 (show(["pair"]:List Str).Nodup by decide +kernel))) (λ_=>xH) (λ_=>?_)))),?_⟩
 nofun
 have lp:=k.ll.len;refine⟨_,rfl,b,dx,_,_,rfl,k.ob,zLa,l,ls,rfl,SqL.of k.la,λc g hg=>?_⟩;refine zHg (φ:=λH=>SqL K H l ls) (xs:=ls.reverse) (λi σ zs H'=>Same H H'/\H' g=some (.lst zs)/\zs.length<=i/\yV H' ((later.reverse.take i).map (·.1.dt)) zs/\∃ u:Option V,σ=[u])
  ⟨zB hg _,zA,Nat.le_refl _,zX.mpr rfl,none,rfl⟩ (λi σ zs H' ⟨sH,e,_⟩=>⟨SqL.of (sH _ _ k.la),e⟩) ?_ ?_
 ·rintro i x σ zs H' hi ⟨sH,eg,lz,rz,u,rfl⟩;have il:=(List.getElem?_eq_some_iff.mp hi).1;rw[List.length_reverse] at il;rw[List.getElem?_reverse il] at hi;obtain⟨e,t,d',v,ge,rfl,ht,rv⟩:=(k.ll).get hi;have ge':later.reverse[i]?=some e:=by rw[List.getElem?_reverse (by lia),<- lp]; exact ge
  refine⟨_,rfl,t,_,0,v,rfl,rfl,.inr (SqT.of (sH _ _ ht)),rfl,eg,zK (by lia),sH.putNew hg,zA,by rw[List.length_append]; simp only[List.length_cons,List.length_nil]; lia,?_,_,rfl⟩;have sE:=xC (o:=.lst (zs++[v])) eg;have np:=wM eg;rw[List.take_succ,ge',List.map_append];exact(yV.app rz (.one (rv.to (.of sH)))).sam sE np
 ·rintro σ zs H' ⟨sH,eg,lz,rz,u,rfl⟩;rw[List.length_reverse,lp,<- List.length_reverse,List.take_length] at rz;exact q g zs H' sH hg eg rz
def zE8(_:PySem.W.Frag):Sp:=λvs H Q _=>∃(b p:Addr)(S:BS)(past later:List (Deed×BS)),vs=[.ref b]/\zJ8 bkC H b p S past later/\Q (.int S.coming) H
theorem zJ9(F:Fun K "coming" "Book.coming" qX f fd)(Z:Zs mg)(CB:Cb P w mg base)  : xE P w K mg base CX0 1 f fd ["self"] (zE8 K):=by
 specialize zJ4
 ·obtain⟨b,p,S,past,later,rfl,_⟩:=h;rfl
 obtain⟨b,p,S,past,later,rfl,⟨dx,d,l,ps,ls,k⟩,q⟩:=h;obtain⟨m,bk,r,n,st⟩:=k.st;exists _,(zF (zT (zL (yA hr) (tX CB.state (pv 0)) zM (λ_ _=>rfl))))
 try dsimp only[L2.cxOf]
 exact⟨_,rfl,b,dx,_,_,rfl,k.ob,zC5,d,.int S.coming,rfl,.inl ⟨_,.inr "coming", st.at_,rfl,zD5.symm⟩,q⟩
def zI7(_:PySem.W.Frag):Sp:=λvs H Q _=>∃(b p:Addr)(v:V)(S:BS)(D:Deed)(past later:List (Deed×BS)),vs=[.ref b,v]/\zJ8 bkC H b p S past later/\zVp D/\Rep H D.dt v/\okD S D/\Few S/\zMd S/\past.length<=500 /\
 ∀(H':Hp),xJ (Bp b p) H H'->zJ8 bkC H' b p (aft S D) (past++[(D,S)]) []->Q (if S.coming=(aft S D).coming then .non else .int S.coming) H'
theorem zPa(F:Fun K "deed" "Book.deed" zDd f fd)(Z:Zs mg)(CB:Cb P w mg base)(h_b_coming:zM8 P w K mg base zDw 1 ["self"] (zE8 K))(yBo:Has P w K mg base "after" 5 ["state", "row"] (zF0 K)):xE P w K mg base CX0 6 f fd ["self", "row"] (zI7 K):=by
 specialize zEy
 ·obtain⟨b,p,v,S,D,past,later,rfl,_⟩:=h;rfl
 obtain⟨b,p,v,S,D,past,later,rfl,bk,kd,hv,ok,few,fr,hl,q⟩:=h;obtain⟨dx,d,l,ps,ls,k⟩:=bk;have no:∀{d l:Addr}{m:Str},m = "coming" ->(bkF d p l).lookup m=none:=λ{d l m} e=>by subst e; exact zP9 (by decide +kernel) (by decide +kernel) (by decide +kernel)
 refine'⟨_,(zC (yB 2 zEy.nd (sI CB.m_coming h_b_coming (hr.mono (by decide)) (pv 0)))
   (zC (yB 3 zEy.nd (uD yBo (hr.mono (by decide)) rfl (zH (tX CB.state (pv 0)) (zH (pv 1) zO))))
   (zC (zS (rZ (tX CB.past (pv 0)) (zH (zD3 (zH (pv 1) (zH (tX CB.state (pv 0)) zO))) zO)))
   (zC (zBr CB.state (pv 0) (pv 3))
   (zC (zBr CB.later (pv 0) ?_)
   (zF (zT (zLi (yO zU2 (sI CB.m_coming h_b_coming (hr.mono (by decide)) (pv 0)) (pv 2) (yT _)) zS0 (pv 2))))))))),?_⟩
 nofun
 exists _,rfl,b,dx,_,rfl,k.ob,no rfl,b,p,S,past,later,rfl,⟨dx,d,l,ps,ls,k⟩;refine⟨_,rfl,b,dx,_,_,rfl,k.ob,zC5,_,rfl,d,v,S,D,rfl,kd,k.st,hv,ok,few,fr,λd' H1 s1 hd' st'=>?_⟩;have k1:=k.to s1;have hv1:=hv.to s1;refine⟨_,rfl,b,dx,_,_,rfl,k1.ob,zG6,.inl ⟨rfl,_,SqL.of k1.pa⟩,_,rfl,_,rfl,b,dx,_,_,rfl,k1.ob,zC5,sz2,λt ht=>?_⟩;have s2:=zB ht (.tup [v,.ref d]);have k2:=k1.to (.of s2);exists p,ps,.ref t,rfl,rfl,k2.pa,zK (by rw[k2.pp.len]; lia);have nbp:b≠p:=zCp k2.ob k2.pa (λz=>nomatch z);have e3:upd (upd H1 t (.tup [v,.ref d])) p (.lst (ps++[.ref t])) b=some (.ins bkC dx (bkF d p l)):=by rw[zD nbp]; exact k2.ob
 exists _,rfl,_,rfl,b,dx,_,rfl,e3,(by show 3<1000; decide);rw[zB8];refine⟨sz0,λg hg=>?_⟩;have nbg:b≠g:=zG zA hg;have npg:p≠g:=λz=>by
  rw[<- z,zD nbp.symm,zA] at hg;cases hg
 exists _,rfl,b,dx,_,rfl,(by rw[zD nbg,zA]),(by show 3<1000; decide);rw[zHs];have hgt:(upd H1 t (.tup [v,.ref d])) g=none:=by rw[zD nbg.symm,zD npg.symm] at hg; exact hg
 have sE:xJ (Bp b p) (upd H1 t (.tup [v,.ref d])) (upd (upd (upd (upd (upd H1 t (.tup [v,.ref d])) p (.lst (ps++[.ref t]))) b (.ins bkC dx (bkF d' p l))) g (.lst [])) b (.ins bkC dx (bkF d' p g))):=λx o hx e=>by
  have n1:x≠b:=λz=>hx (.inl z);have n2:x≠p:=λz=>hx (.inr z);rw[zD n1,zD (zG e hgt),zD n1,zD n2];exact .inl e
 have nd:=zXj k2.ob k2.pa;have np:=zXc k2.ob k2.pa;have st2:=st'.to (.of s2);have BK:zJ8 bkC (upd (upd (upd (upd (upd H1 t (.tup [v,.ref d])) p (.lst (ps++[.ref t]))) b (.ins bkC dx (bkF d' p l))) g (.lst [])) b (.ins bkC dx (bkF d' p g))) b p (aft S D) (past++[(D,S)]) []:=by
  refine⟨dx,d',g,ps++[.ref t],[],zA,st2.samE sE nd np,?_,?_,?_,rfl,npg.symm⟩
  ·rw[zD nbp.symm,zD npg,zD nbp.symm,zA]
  ·rw[zD nbg.symm,zA]
  ·exact xF.app (sE.tup (np _ _ zA) zA) ((hv1.to (.of s2)).sam sE np) (k2.st.samE sE nd np) (k2.pp.samE sE nd np)
 have fin:=q _ (((s1.trans (.of s2)).wider (λ_ z=>z.elim)).trans sE) BK;exists _,rfl,b,dx,_,rfl,zA,no rfl,b,p,aft S D,_,[],rfl,BK,_,rfl,rfl,_,rfl;refine ifE (λe=>?_) (λe=>?_)
 ·rw[if_pos e.symm] at fin;exact fin
 ·rw[if_neg (λz=>e z.symm)] at fin;exact⟨_,rfl,fin⟩
def sp_law(K:PySem.W.Frag):Sp:=λvs H Q _=>∃(a:Addr)(ns:List Int),vs=[.ref a]/\SqL K H a (ns.map V.int)/\ns.length<=63/\∀ H',Q (.bl true) H'
theorem yV.rev{H:Hp} : ∀{l:List Dt}{xs:List V},yV H l xs->yV H l.reverse xs.reverse
 | [],_,h=>by rw[zX.mp h]; exact zX.mpr rfl
 | d::l,_,h=>by
  obtain⟨x,r,rfl,h1,h2⟩:=zI.mp h;rw[List.reverse_cons,List.reverse_cons];exact yV.app (yV.rev h2) (.one h1)
theorem zFn(xs:List V)(k:Nat):rS xs none (some (k:Int))=xs.take k:=by
 unfold rS;rw[show HT.sIx xs.length 0 none=0 from rfl,HT.sIx_nat,List.drop_zero,Nat.sub_zero];by_cases h:k<=xs.length
 ·rw[Nat.min_eq_left h]
 ·rw[Nat.min_eq_right (by lia),List.take_of_length_le (Nat.le_refl _),List.take_of_length_le (by lia)]
theorem BkL.put{C b p l D:Addr}{H:Hp}{S:BS}{past later:List (Deed×BS)}{zs ws:List V}(k:BkL C H b p l S past later)(e:H D=some (.lst zs))(n1:p≠D)(n2:l≠D):BkL C (upd H D (.lst ws)) b p l S past later:=by
 obtain⟨dx,d,ps,ls,q⟩:=k;have s:=xC (o:=.lst ws) e;have np:=wM e;have nd:∀ a kvs,Rd H a (.dK kvs)->¬ a=D:=λa kvs h z=>by
  rw[z] at h;rcases h with h | ⟨o,h⟩ <;> rw[e] at h <;> cases h
 exact⟨dx,d,ps,ls,s.ins (λz=>by have:=q.ob; rw[z,e] at this; cases this) q.ob,q.st.samE s nd np,s.lst n1 q.pa,s.lst n2 q.la,q.pp.samE s nd np,q.ll.samE s nd np,q.ne⟩
theorem zWi(F:Fun K "law" "law" zKp f fd)(Z:Zs mg)(CB:Cb P w mg base)(yBt:Has P w K mg base "_law_same" 6 ["_law_told", "_law_due"] (zIy K))(h_b_undone:zM8 P w K mg base zEz 1 ["self"] (zEw K))(yBr:Has P w K mg base "_law_text" 2 ["_law_deeds"] (zH4 K))(yBg:Has P w K mg base "written" 7 ["book"] (zB7 K))(h_b_deeds:zM8 P w K mg base zDh 1 ["self"] (zBl K))(h_b_undo:zM8 P w K mg base zJ2 2 ["self"] (zI3 K))(h_b_deed:zM8 P w K mg base zKm 6 ["self", "row"] (zI7 K))(h_b_init:zM8 P w K mg base zKu 2 ["self"] (zH6 K))(yAw:Has P w K mg base "_law_more_deeds" 4 ["_law_some", "_law_deeds", "_law_names_here"] (qV K))(yAo:Has P w K mg base "_law_some_deeds" 4 ["_law_some", "_law_names_here"] (qG K))(yBm:Has P w K mg base "_law_names" 1 ["_law_some", "_law_many"] (zGe K))(yBn:Has P w K mg base "_law_draws" 2 ["_law_script", "_law_many"] (zF3 K)):xE P w K mg base CX0 8 f fd ["_law_script"] (sp_law K):=by
 specialize zAk
 ·obtain⟨a,ns,rfl,_⟩:=h;rfl
 obtain⟨ad,ns,rfl,hS,hl,q⟩:=h
 refine'⟨_,(zC (yB 1 zAk.nd ?_)
   (zC (yB 2 zAk.nd ?_)
   (zC (yB 3 zAk.nd ?_)
   (zC (yB 4 zAk.nd (zOx CB.make h_b_init (hr.mono (by decide)) CB.gBook))
   (zC (yR ?_ (zF (zT zGh)) zZ)
   (zC (uH PassesOwn.never rfl (zTj rfl Z.enumerate (zH (pv 3) zO)) (rN rfl (yJ (vG 5 zAk.nd) (yJ (vG 6 zAk.nd) vR))) (zC (zS (zLv CB.m_deed h_b_deed (hr.mono (by decide)) (pv 4) (zH (pv 6) zO)))
   (zF (yR ?_ (zF (zT zGh)) zZ))))
   (zC (zB0 (T:=["_law_k"]) (caps:=[("_law_book", 4)]) (i:=7) zAk.nd rfl rfl ⟨rfl,by decide +kernel,by decide +kernel,rfl,⟨⟨rfl,rfl,Or.inl rfl⟩,True.intro⟩⟩ rfl (wD rfl Z.range ?_) (λ_=>(vG 0 (show(["_law_k", "_law_book"]:List Str).Nodup by decide +kernel))) (λ_=>xH) (λ_=>(sI CB.m_undo h_b_undo (hr.mono (by decide)) (pv 1))))
   (zC (yB 8 zAk.nd ?_)
   (zC (uH PassesOwn.never rfl (wD rfl Z.range (zH xY zO)) (vG 9 zAk.nd) (zF (yR (PW.pt (zKh ?_ (zGd (zDt (zEa (uD yBt (hr.mono (by decide)) rfl (zH (sI CB.m_deeds h_b_deeds (hr.mono (by decide)) (pv 4)) (zH (pv 8) zO)))))))) (zF (zT zGh)) zZ)))
   (zF (zT (uD yBt (hr.mono (by decide)) rfl (zH (sI CB.m_undone h_b_undone (hr.mono (by decide)) (pv 4)) (zH (zO2 (pv 7) (uJ ?_)) zO)))))))))))))),?_⟩
 nofun
 refine⟨_,rfl,ad,ns,180,rfl,hS,hl,by decide,by decide,λrr rows H1 s1 hr0 er1 l1 l2 bd=>?_⟩;refine⟨_,rfl,rr,rows,5,rfl,SqL.of er1,(by lia),(by decide),bd,λR nms H2 s2 hR eR ln okn nod=>?_⟩;have er2:=s2 _ _ er1;refine⟨_,rfl,_,rfl,_,rfl,rr,R,rows,nms,rfl,er2,(by lia),bd,eR,ln,okn,nod,λL xs Ds H3 s3 hL eL rp l14 ch l3 four sm mn=>?_⟩;have er3:=s3 _ _ er2;have eR3:=s3 _ _ eR;refine⟨_,rfl,rr,L,R,rows,xs,Ds,nms,rfl,er3,(by lia),bd,eL,rp,l14,ch,mn,eR3,ln,okn,λl ys Es H4 s4 hl0 el rE e3 e30 chE=>?_⟩;have er4:=s4.lst id er3;obtain⟨v170,a170,_⟩:=yQ bd (k:=170) (by decide) (by lia);obtain⟨v171,a171,_⟩:=yQ bd (k:=171) (by decide) (by lia);clear s4 s3 s2 s1 er3 er2 er1 eR3 eR eL rp l14 ch l3 four sm mn nod okn ln hL hR hr0 hl0 hS;intro bk dx hb hdx nbd;refine⟨bk,dx,rfl,zA,λp H5 s5 hp bk5=>⟨rfl,?_⟩⟩;have rows_:=zF1 chE zO5.nil (by lia);have nrb:rr≠bk:=zG er4 hb;have nlb:l≠bk:=zG el hb;have u4:∀{x:Addr}{zs:List V},x≠bk->H4 x=some (.lst zs)->upd (upd H4 dx (.own bk)) bk (.ins bkC dx []) x=some (.lst zs):=λn e=>by rw[zD n,zD (zG e hdx)]; exact e
 have sE5:xJ (λx=>x=bk) H4 H5:=λx o hx e=>s5 x o hx (by rw[zD hx,zD (zG e hdx)]; exact e);have nrp:rr≠p:=zG (u4 nrb er4) hp;have nlp:l≠p:=zG (u4 nlb el) hp;have er5:=sE5.lst nrb er4;have el5:=sE5.lst nlb el;have rE5:yV H5 (Es.map Deed.dt) ys:=rE.sam sE5 λb xs e z=>by rw[z,hb] at e; cases e
 clear u4 sE5 s5 hp hb hdx er4 el rE nbd;refine⟨_,rfl,bk,p,BS.nil,[],[],rfl,bk5,(by decide),(λe he=>nomatch he),λH6 s6=>?_⟩;refine⟨_,_,rfl,DR.str rfl,λH7 s7=>?_⟩;have no:∀{d l:Addr}{m:Str},m = "deed" \/ m = "undo" \/ m = "deeds" \/ m = "undone" ->(bkF d p l).lookup m=none:=λ{d l m} e=>by rcases e with e | e | e | e <;> subst e <;> exact zP9 (by decide +kernel) (by decide +kernel) (by decide +kernel)
 refine⟨true,rfl,xP ?_⟩;have s57:=s6.trans s7;have bk7:=bk5.to (.of s57);have er7:=s57 _ _ er5;have el7:=s57 _ _ el5;have rE7:=rE5.to (.of s57);have lys:ys.length=Es.length:=by rw[rE5.length,List.length_map]
 have nrB:¬ Bp bk p rr:=λz=>z.elim nrb nrp;have nlB:¬ Bp bk p l:=λz=>z.elim nlb nlp;clear s6 s7 s57 bk5 er5 el5 rE5;obtain⟨dx7,d7,l7,ps7,ls7,k7⟩:=id bk7;have nd7:=zXj k7.ob k7.pa;have np7:=zXc k7.ob k7.pa;refine⟨_,rfl,l,ys,rfl,el7,zRu (K:=K) (l:=l) (xs:=ys) (λi σ H'=>xJ (Bp bk p) H7 H'/\∃ past:List (Deed×BS),zJ8 bkC H' bk p (yI BS.nil (Es.take i)) past []/\past.map (·.1)=Es.take i/\∃ u u':Option V,σ=[some (.ref ad),some (.ref rr),some (.ref R),some (.ref l),some (.ref bk),u,u',none,none,none])
  ⟨xJ.refl _,[],bk7,rfl,none,none,rfl⟩ (λi σ H' hq=>SqL.of (hq.1.lst nlB el7)) ?_ ?_⟩
 ·rintro i v T σ H8 hi hT ⟨s8,past,bk8,mp,u,u',rfl⟩;have hil:i<Es.length:=by rw[<- lys]; exact(List.getElem?_eq_some_iff.mp hi).1
  have hD:Es[i]?=some Es[i]:=List.getElem?_eq_getElem hil;generalize Es[i]=D at hD;obtain⟨dt,g1,g2⟩:=rE7.back hi;rw[List.getElem?_map,hD] at g1;cases g1;have okd:=zBx chE hD;have gd:=sV (S:=BS.nil) (l:=Es.take i) zDc (qE chE);have mp1:(past++[(D,yI BS.nil (Es.take i))]).map (·.1)=Es.take (i+1):=by rw[List.map_append,mp,List.take_succ,hD]; rfl
  rw[zDs hD];have lp:past.length<=30:=by have:=congrArg List.length mp; rw[List.length_map,List.length_take] at this; lia
  generalize yI BS.nil (Es.take i)=S at bk8 okd gd mp1;have sT:=zB hT (.tup [.int i,v]);have rv:=(g2.sam s8 np7).to (.of sT);have bkT:=bk8.to (.of sT);have s8T:=s8.trans (.of sT);exists T,[.int i,v],rfl,SqT.of zA,rfl,.int i,_,rfl,v,_,rfl,rfl;generalize upd H8 T (.tup [.int i,v])=H9 at rv bkT s8T ⊢;obtain⟨dx4,d4,l4,ps4,ls4,k4⟩:=id bkT;refine⟨_,rfl,bk,dx4,_,rfl,k4.ob,no (.inl rfl),_,rfl,bk,p,v,S,D,past,[],rfl,bkT,trivial,rv,okd,gd.few,gd.fresh,(by lia),λH10 s10 bk10=>?_⟩;have s710:=s8T.trans s10;have er10:=s710.lst nrB er7;have el10:=s710.lst nlB el7;have i30:i<30:=by lia
  exists _,rfl,_,_,rfl,rfl,gt5,_,rfl,rr,_,_,_,rfl,rfl,.inl (SqL.of er10),a170,_,_,rfl,rfl,gt5,rfl,_,rfl;refine ifE (λz=>?_) (λz=>?_);rotate_left
  ·exact xP ⟨s710,_,bk10,mp1,_,_,rfl⟩
  have lp1:(past++[(D,S)]).length<=80:=by rw[List.length_append]; show _+1<=_; lia
  have pr1:∀ e∈past++[(D,S)],zAd 4 e.1.dt/\(yM e.1.dt).length<=50:=λe he=>by
   have:e.1∈Es.take (i+1):=by rw[<- mp1]; exact List.mem_map.mpr ⟨e,he,rfl⟩
   obtain⟨_,h4,h5⟩:=rows_ _ (List.mem_of_mem_take this);exact⟨h4,h5⟩
  refine⟨_,rfl,bk,p,_,_,_,rfl,bk10,lp1,pr1,λH11 s11=>?_⟩;have el11:=s11 _ _ el10;have cut:rS ys none (some ((i:Int)+1))=ys.take (i+1):=by
   rw[show(i:Int)+1=((i+1:Nat):Int) from rfl];exact zFn ys (i+1)
  refine⟨_,rfl,_,rfl,_,_,rfl,rfl,_,rfl,l,ys,rfl,SqL.of el11,λc hc=>?_⟩;rw[cut];have sc:=zB hc (.lst (ys.take (i+1)));have rT:=(((rE7.sam s710 np7).to (.of (s11.trans sc))).take (i+1));rw[<- List.map_take] at rT;refine⟨c,_,Es.take (i+1),rfl,SqL.of zA,rT,(by rw[List.length_take]; lia),(λD hD=>let ⟨h3,_,h5⟩:=rows_ D (List.mem_of_mem_take hD);⟨h3,h5⟩),λH12 s12=>?_⟩;refine⟨_,_,rfl,DR.str (by rw[mp1]),λH13 s13=>⟨true,rfl,xP ?_⟩⟩;have sl:=((s11.trans sc).trans (s12.trans s13));exact⟨s710.trans (.of sl),_,bk10.to (.of sl),mp1,_,_,rfl⟩
 rintro σ H8 ⟨s8,past,bk8,mp,u,u',rfl⟩;rw[lys,List.take_of_length_le (Nat.le_refl _)] at bk8 mp;have er8:=s8.lst nrB er7;have el8:=s8.lst nlB el7;have rE8:=rE7.sam s8 np7;generalize yI BS.nil Es=Sn at bk8;obtain⟨ln,bl8⟩:=bk8.named;obtain⟨dx8,d8,ps8,ls8,k8⟩:=id bl8;have e0:ls8=[]:=k8.ll;have hln:H8 ln=some (.lst []):=by rw[<- e0]; exact k8.la
 have nrl:rr≠ln:=λz=>by
  rw[z,hln] at er8;have:=congrArg List.length (HO.lst.inj (Option.some.inj er8));rw[List.length_map] at this;simp at this;lia
 have nll:l≠ln:=λz=>by
  rw[z,hln] at el8;have:=congrArg List.length (HO.lst.inj (Option.some.inj el8));simp at this;lia
 exists _,rfl,rr,_,_,_,rfl,rfl,.inl (SqL.of er8),a171,_,_,rfl,rfl,gt4;have n0:0<=v171%4:=by lia
 have n3:v171%4<=3:=by lia
 generalize v171%4=N at n0 n3;refine⟨_,rfl,(by lia),(by lia),λcc D hD=>zAv (lo:=0) (n:=N.toNat) (λj σ zs H'=>H' D=some (.lst zs)/\xJ (λx=>Bl bk p ln x\/x=D) H8 H'/\(∃(S:BS)(past later:List (Deed×BS)),BkL bkC H' bk p ln S past later/\past.map (·.1)=Es.take (Es.length-j)/\later.map (·.1)=(Es.drop (Es.length-j)).reverse)/\yV H' ((Es.drop (Es.length-j)).reverse.map Deed.dt) zs/\zs.length=j/\∃ u:Option V,σ=[u,some (.ref bk)])
  ⟨zA,.of (zB hD _),⟨Sn,past,[],bl8.to (.of (zB hD _)),(by rw[Nat.sub_zero,List.take_length]; exact mp),(by rw[Nat.sub_zero,List.drop_length]; rfl)⟩,(by rw[Nat.sub_zero,List.drop_length]; exact zX.mpr rfl),rfl,none,rfl⟩ (λj σ zs H' _ hP=>hP.1) ?_ ?_⟩
 ·rintro j σ zs H9 hj ⟨eD,s9,⟨S,past',later,bl9,mp9,ml9⟩,rz,lz,u,rfl⟩;obtain⟨k,hk⟩:∃ k,Es.length-j=k+1:=⟨Es.length-j-1,by lia⟩;have hk':Es.length-(j+1)=k:=by lia
  have kl:k<Es.length:=by lia
  have gk:Es[k]?=some Es[k]:=List.getElem?_eq_getElem kl;have dk:Es.drop k=Es[k]::Es.drop (k+1):=List.drop_eq_getElem_cons kl;generalize Es[k]=D0 at gk dk;rw[hk] at mp9 ml9 rz;rw[List.take_succ,gk] at mp9;rcases List.eq_nil_or_concat past' with rfl | ⟨pre,⟨D1,S0⟩,rfl⟩
  ·have:=congrArg List.length mp9;simp at this
  rw[List.concat_eq_append,List.map_append] at mp9;obtain⟨mp0,eD1⟩:=List.append_inj' mp9 rfl;have eD1:D1=D0:=by simpa using eD1
  subst eD1;rw[List.concat_eq_append] at bl9;obtain⟨dx9,d9,ps9,ls9,k9⟩:=id bl9;have lpre:pre.length=k:=by have:=congrArg List.length mp0; rw[List.length_map,List.length_take] at this; lia
  have llat:later.length<=30:=by have:=congrArg List.length ml9; rw[List.length_map,List.length_reverse,List.length_drop] at this; lia
  have nDp:p≠D:=λz=>by have:=k8.pa; rw[z,hD] at this; cases this
  have nDl:ln≠D:=λz=>by have:=k8.la; rw[z,hD] at this; cases this
  have nDb:bk≠D:=λz=>by have:=k8.ob; rw[z,hD] at this; cases this
  have nDB:¬ Bl bk p ln D:=λz=>by
   rcases z with z | z | z
   ·exact nDb z.symm
   ·exact nDp z.symm
   ·exact nDl z.symm
  refine⟨_,rfl,bk,dx9,_,rfl,k9.ob,no (.inr (.inl rfl)),bk,p,ln,S,S0,D1,pre,later,rfl,bl9,(by lia),(by lia),λv H10 s10 bl10 rv=>?_⟩;have eD10:=s10.lst nDB eD;have rz10:=rz.sam s10 (zU4 k9.ob k9.pa k9.la);have sE:=xC (o:=.lst (zs++[v])) eD10;have np:=wM eD10;have rv':(Es.drop k).reverse=(Es.drop (k+1)).reverse++[D1]:=by rw[dk,List.reverse_cons]
  rw[hk'];refine⟨eD10,Nat.lt_of_le_of_lt (by lia:zs.length<=30) (by decide),zA,(s9.trans (s10.wider λx z=>.inl z)).trans (sE.wider λx z=>.inr z),⟨S0,pre,later++[(D1,S)],bl10.put eD10 nDp nDl,mp0,(by rw[List.map_append,ml9,rv']; rfl)⟩,?_,(by rw[List.length_append,lz]; rfl),_,rfl⟩;rw[rv',List.map_append];exact(yV.app rz10 (.one rv)).sam sE np
 rintro σ zs H9 ⟨eD,s9,⟨S,past',later,bl9,mp9,ml9⟩,rz,lz,u2,rfl⟩;have nB:∀ x,¬ Bp bk p x->x≠ln->x≠D->¬ (Bl bk p ln x\/x=D):=λx h1 h2 h3 z=>by
  rcases z with (z | z | z) | z
  ·exact h1 (.inl z)
  ·exact h1 (.inr z)
  ·exact h2 z
  ·exact h3 z
 have el9:=s9.lst (nB l nlB nll (zG el8 hD)) el8;have npB:∀ b xs,H8 b=some (.tup xs)->¬ (Bl bk p ln b\/b=D):=λb xs e z=>by
  rcases z with z | z
  ·exact zU4 k8.ob k8.pa k8.la b xs e z
  ·rw[z,hD] at e; cases e
 have rE9:=rE8.sam s9 npB;obtain⟨k,hk⟩:∃ k,Es.length-N.toNat=k:=⟨_,rfl⟩;rw[hk] at mp9 ml9 rz;have bk9:=bl9.at;have kle:k<=Es.length:=by lia
 have hsub:(ys.length:Int)-(zs.length:Int)=((k:Nat):Int):=by rw[lys,lz]; lia
 clear s9 nB npB er8 el8 rE8 bl8 k8 hln hD;refine⟨_,rfl,_,rfl,l,ys,rfl,.inl (SqL.of el9),_,rfl,D,zs,rfl,.inl (SqL.of eD),_,_,rfl,rfl,_,rfl,l,ys,rfl,SqL.of el9,λc hc=>?_⟩;rw[hsub,zFn];have sc:=zB hc (.lst (ys.take k));have ec:upd H9 c (.lst (ys.take k)) c=some (.lst (ys.take k)):=zA;have bkc:=bk9.to (.of sc);have eDc:=sc _ _ eD;have rzc:=rz.to (.of sc);have rTc:=((rE9.to (.of sc)).take k);rw[<- List.map_take] at rTc;generalize upd H9 c (.lst (ys.take k))=Hc at ec bkc eDc rzc rTc ⊢;have lpp:past'.length<=30:=by have:=congrArg List.length mp9; rw[List.length_map,List.length_take] at this; lia
 have lla:later.length<=30:=by have:=congrArg List.length ml9; rw[List.length_map,List.length_reverse,List.length_drop] at this; lia
 have prp:∀ e∈past',zAd 4 e.1.dt/\(yM e.1.dt).length<=50:=λe he=>by
  have:e.1∈Es.take k:=by rw[<- mp9]; exact List.mem_map.mpr ⟨e,he,rfl⟩
  obtain⟨_,h4,h5⟩:=rows_ _ (List.mem_of_mem_take this);exact⟨h4,h5⟩
 have mpd:past'.map (·.1.dt)=(Es.take k).map Deed.dt:=by rw[<- mp9,List.map_map]; rfl
 have sh4:∀ d∈Es.map Deed.dt,zAd 4 d:=λd hd=>by
  obtain⟨D',hD',rfl⟩:=List.mem_map.mp hd;exact(rows_ D' hD').2.1
 clear rE9 el9 eD rz bl9 bk9 sc;refine⟨2,rfl,(by decide),(by decide),vH (lo:=0) (n:=2) (λi σ H'=>Same Hc H'/\∃ u'':Option V,σ=[some (.ref ad),some (.ref rr),some (.ref R),some (.ref l),some (.ref bk),u,u',some (.ref D),some (.ref c),u''])
  ⟨Same.refl _,none,rfl⟩ ?_ ?_⟩
 ·rintro i σ G hi ⟨sG,u'',rfl⟩;refine⟨_,rfl,bk,p,_,_,_,rfl,bkc.to (.of sG),(by lia),prp,λG1 s1=>?_⟩;have t1:=sG.trans s1;refine⟨_,rfl,c,_,Es.take k,rfl,SqL.of (t1 _ _ ec),rTc.to (.of t1),(by rw[List.length_take]; lia),(λD hD=>let ⟨h3,_,h5⟩:=rows_ D (List.mem_of_mem_take hD);⟨h3,h5⟩),λG2 s2=>?_⟩;refine⟨_,_,rfl,DR.str (by rw[mp9]),λG3 s3=>⟨true,rfl,xP ?_⟩⟩;have t3:=t1.trans (s2.trans s3);have bk3:=bkc.to (.of t3);obtain⟨dx3,d3,l3,ps3,ls3,k3⟩:=id bk3;refine⟨_,rfl,bk,dx3,_,rfl,k3.ob,no (.inr (.inr (.inl rfl))),bk,p,_,_,_,rfl,bk3,(by lia),λg xs G4 s4 hg eg rg=>?_⟩;have t4:=t3.trans s4;rw[mpd] at rg;refine⟨_,rfl,.ref g,.ref c,rfl,zPg (λd hd=>sh4 d (List.map_take ▸ hd |> List.mem_of_mem_take)) (by rw[List.length_map,List.length_take]; lia) eg (t4 _ _ ec) rg (rTc.to (.of t4)),λG5 s5=>⟨true,rfl,xP ⟨t4.trans s5,_,rfl⟩⟩⟩
 rintro σ G ⟨sG,u'',rfl⟩;have bkG:=bkc.to (.of sG);obtain⟨dxG,dG,lG,psG,lsG,kG⟩:=id bkG;refine⟨_,rfl,bk,dxG,_,rfl,kG.ob,no (.inr (.inr (.inr rfl))),bk,p,_,_,_,rfl,bkG,(by lia),λg xs G1 s1 hg eg rg=>?_⟩;have t1:=sG.trans s1;refine⟨_,rfl,_,rfl,_,rfl,D,zs,rfl,SqL.of (t1 _ _ eDc),rfl,λc2 hc2=>?_⟩;have s2:=zB hc2 (.lst zs.reverse);have e1:later.reverse.map (·.1.dt)=(Es.drop k).map Deed.dt:=by
  rw[show(λx:Deed×BS=>x.1.dt)=Deed.dt ∘ (·.1) from rfl,<- List.map_map,List.map_reverse,ml9,List.reverse_reverse]
 have e2:((Es.drop k).reverse.map Deed.dt).reverse=(Es.drop k).map Deed.dt:=by rw[List.map_reverse,List.reverse_reverse]
 have rr2:=((rzc.to (.of (t1.trans s2))).rev);rw[e2] at rr2;rw[e1] at rg;exact⟨.ref g,.ref c2,rfl,zPg (λd hd=>sh4 d (List.map_drop ▸ hd |> List.mem_of_mem_drop)) (by rw[List.length_map,List.length_drop]; lia) (s2 _ _ eg) zA (rg.to (.of s2)) rr2,λH' _=>q H'⟩
end
theorem zTp{K:PySem.W.Frag}{C:Addr}{f:Str}(h:PySem.W.findIn K (.ref C) f=some none):zAj K C f:=h
theorem zHf(P:Params):Cls (KK P) bkC:=⟨by kernel_rfl,by kernel_rfl,by kernel_rfl,by kernel_rfl⟩
set_option maxHeartbeats 0 in
theorem cb_mk{P:Program}{w:World}{mg:Str->Option Value}{base:Heap}(X:PySem.W.Frag.In (KK w.params) base)(G:base.Ns mainGlobals mg):Cb P w mg base :=
 ⟨⟨_,X,zHf _,zTp (by kernel_rfl)⟩,
   ⟨_,X,zHf _,zTp (by kernel_rfl)⟩,
   ⟨_,X,zHf _,zTp (by kernel_rfl)⟩,
   ⟨_,X,zHf _,⟨(by kernel_rfl),(by kernel_rfl),(by kernel_rfl)⟩⟩,
   ⟨_,X,zHf _,⟨(by kernel_rfl),(by kernel_rfl),(by kernel_rfl)⟩⟩,
   ⟨_,X,zHf _,⟨(by kernel_rfl),(by kernel_rfl),(by kernel_rfl)⟩⟩,
   ⟨_,X,zHf _,⟨(by kernel_rfl),(by kernel_rfl),(by kernel_rfl)⟩⟩,
   ⟨_,X,zHf _,⟨(by kernel_rfl),(by kernel_rfl),(by kernel_rfl)⟩⟩,
   ⟨_,X,zHf _,⟨(by kernel_rfl),(by kernel_rfl),(by kernel_rfl)⟩⟩,
   ⟨_,X,⟨(by kernel_rfl),(by kernel_rfl),(by kernel_rfl),(by kernel_rfl)⟩⟩,
   (PySem.W.mg_of X G (by kernel_rfl)),
   (zNa (ep:=4) (l:=[("marks", 510,.int 20,.int 20 511),("banks", 512,.int 8,.int 8 513),("runs", 514,.int 12,.int 12 515),("notes", 516,.int 24,.int 24 517)]) (X _ _ (by kernel_rfl)) (λe he=>by simp only[List.mem_cons,List.not_mem_nil,or_false] at he; rcases he with rfl | rfl | rfl | rfl <;> exact⟨_,rfl⟩) (by decide +kernel)),
   (PySem.W.mg_of X G (by kernel_rfl)),
   (zNa (ep:=10) (l:=[("mark", 735,.ref 347,.ref 347),("move", 736,.ref 354,.ref 354),("unmark", 737,.ref 361,.ref 361),("bank", 738,.ref 368,.ref 368),("level", 739,.ref 375,.ref 375),("sail", 740,.ref 382,.ref 382),("right", 741,.ref 389,.ref 389),("bearing", 742,.ref 403,.ref 403),("range", 743,.ref 410,.ref 410),("strike", 744,.ref 417,.ref 417)]) (X _ _ (by kernel_rfl)) (λe he=>by simp only[List.mem_cons,List.not_mem_nil,or_false] at he; rcases he with rfl | rfl | rfl | rfl | rfl | rfl | rfl | rfl | rfl | rfl <;> exact rfl) (by decide +kernel)),
   (PySem.W.mg_of X G (by kernel_rfl)),
   ⟨523,(PySem.W.mg_of X G (by kernel_rfl))⟩,
   ⟨525,(PySem.W.mg_of X G (by kernel_rfl))⟩,
   ⟨527,(PySem.W.mg_of X G (by kernel_rfl))⟩,
   (PySem.W.mg_of X G (by kernel_rfl)),
   (PySem.W.mg_of X G (by kernel_rfl)),
   (PySem.W.mg_of X G (by kernel_rfl)),
   (PySem.W.mg_of X G (by kernel_rfl)),
   (PySem.W.mg_of X G (by kernel_rfl)),
   (PySem.W.mg_of X G (by kernel_rfl)),
   (PySem.W.mg_of X G (by kernel_rfl)),
   (PySem.W.mg_of X G (by kernel_rfl)),
   (PySem.W.mg_of X G (by kernel_rfl)),
   (PySem.W.mg_of X G (by kernel_rfl)),
   (zQ7 X (PySem.W.mg_of X G (by kernel_rfl)) (by kernel_rfl))⟩
abbrev AtK(Pm:Params)(x:Str)(s:Stmt)(f:Addr)(oc:Value)(od:Option Addr)(sl:Array (Option Value))(kV dc pm:Value)(an:Option Addr)(cd ct:Value):Prop :=
 PySem.W.nsIn (KK Pm) mainGlobals x=some (some (.ref f))/\List.lookup f KC=some ⟨oc,od,.func (PySem.W.fnOf x x (wA s) (xM s) (zJ s) .none kV dc pm an cd ct),sl⟩/\PySem.W.codeIn KC cd x=true/\PySem.W.keepIn KC (.ref f)=true
section
variable{Pm:Params}{x:Str}{s:Stmt}{f:Addr}{oc kV dc pm cd ct:Value}{od an:Option Addr}{sl:Array (Option Value)}{h:Heap}{mg:Str->Option Value}
theorem zUs(q:AtK Pm x s f oc od sl kV dc pm an cd ct):Fun K x x s f (PySem.W.fnOf x x (wA s) (xM s) (zJ s) .none kV dc pm an cd ct):=zPm (st:=s) (by rw[zNo]; exact q.2.1) (by rw[zNo]; exact q.2.2.1) (by rw[zNo]; exact q.2.2.2)
abbrev AtE(Pm:Params)(x:Str)(s:Stmt):Prop:=∃(f:Addr)(oc:Value)(od:Option Addr)(sl:Array (Option Value))(kV dc pm:Value)(an:Option Addr)(cd ct:Value),AtK Pm x s f oc od sl kV dc pm an cd ct
theorem at_mk(q:AtK Pm x s f oc od sl kV dc pm an cd ct):AtE Pm x s:=⟨_,_,_,_,_,_,_,_,_,_,q⟩
theorem zJj(P:Program)(w:World)(base:Heap)(X:PySem.W.Frag.In (KK Pm) h)(G:h.Ns mainGlobals mg)(q:AtE Pm x s){ps:List Str}{n:Nat}{sp:Sp}(o:∀ {f:Addr} {fd:FuncData},Fun K x x s f fd->zAt K fd ps []->PySem.W.keepIn K (.ref f)=true->mg x=some (.ref f)->xE P w K mg base CX0 n f fd ps sp)
  (b:∀(kV doc pm:Value)(an:Option Addr)(cdv ct:Value)(us:List Value),us.length=ps.length->bindArgs (PySem.W.fnOf x x (wA s) (xM s) (zJ s) .none kV doc pm an cdv ct) ⟨us,[]⟩=pure (ps.zip us)):Has P w K mg base x n ps sp:=by
 obtain⟨f,oc,od,sl,kV,dc,pm,an,cd,ct,q⟩:=q;have F:=zUs q;exact⟨_,_,o F (F.binds b) F.kp (PySem.W.mg_of X G q.1),F.binds b,F.kp,PySem.W.mg_of X G q.1⟩
theorem yG(P:Program)(w:World)(base:Heap)(X:PySem.W.Frag.In (KK Pm) h)(G:h.Ns mainGlobals mg)(q:AtE Pm x s){ps:List Str}{n:Nat}{sp:Sp}(o:∀ {f:Addr} {fd:FuncData},Fun K x x s f fd->xE P w K mg base CX0 n f fd ps sp)
  (b:∀(kV doc pm:Value)(an:Option Addr)(cdv ct:Value)(us:List Value),us.length=ps.length->bindArgs (PySem.W.fnOf x x (wA s) (xM s) (zJ s) .none kV doc pm an cdv ct) ⟨us,[]⟩=pure (ps.zip us)):Has P w K mg base x n ps sp:=zJj P w base X G q (λF _ _ _=>o F) b
abbrev AtM(x q:Str)(s:Stmt)(f:Addr):Prop:=∃(oc:Value)(od:Option Addr)(sl:Array (Option Value))(kV dc pm:Value)(an:Option Addr)(cd ct:Value),List.lookup f KC=some ⟨oc,od,.func (PySem.W.fnOf x q (wA s) (xM s) (zJ s) .none kV dc pm an cd ct),sl⟩/\PySem.W.codeIn KC cd q=true/\PySem.W.keepIn KC (.ref f)=true
theorem atm_mk{q:Str}(h:List.lookup f KC=some ⟨oc,od,.func (PySem.W.fnOf x q (wA s) (xM s) (zJ s) .none kV dc pm an cd ct),sl⟩/\PySem.W.codeIn KC cd q=true/\PySem.W.keepIn KC (.ref f)=true):AtM x q s f:=⟨_,_,_,_,_,_,_,_,_,h⟩
theorem zTw(P:Program)(w:World)(base:Heap)(X:PySem.W.Frag.In (KK Pm) h)(G:h.Ns mainGlobals mg)(q:AtE Pm x s){ps:List Str}{n:Nat}{sp:Sp}(o:∀ {f:Addr} {fd:FuncData},Fun K x x s f fd->xE P w K mg base (CX1 P w) n f fd ps sp)
  (b:∀(kV doc pm:Value)(an:Option Addr)(cdv ct:Value)(us:List Value),us.length=ps.length->bindArgs (PySem.W.fnOf x x (wA s) (xM s) (zJ s) .none kV doc pm an cdv ct) ⟨us,[]⟩=pure (ps.zip us)):zXs P w K mg base x n ps sp:=by
 obtain⟨f,oc,od,sl,kV,dc,pm,an,cd,ct,q⟩:=q;have F:=zUs q;exact⟨_,_,o F,F.binds b,F.kp,PySem.W.mg_of X G q.1⟩
theorem zAm(P:Program)(w:World)(mg:Str->Option Value)(base:Heap){q:Str}(a:AtM x q s f){ps:List Str}{n:Nat}{sp:Sp}(o:∀ {fd:FuncData},Fun K x q s f fd->xE P w K mg base CX0 n f fd ps sp)
  (b:∀(kV doc pm:Value)(an:Option Addr)(cdv ct:Value)(us:List Value),us.length=ps.length->bindArgs (PySem.W.fnOf x q (wA s) (xM s) (zJ s) .none kV doc pm an cdv ct) ⟨us,[]⟩=pure (ps.zip us)):zM8 P w K mg base f n ps sp:=by
 obtain⟨oc,od,sl,kV,dc,pm,an,cd,ct,a1,a2,a3⟩:=a;exact⟨_,o (zPm (st:=s) (by rw[zNo]; exact a1) (by rw[zNo]; exact a2) (by rw[zNo]; exact a3)),b _ _ _ _ _ _⟩
theorem has_mkMX(P:Program)(w:World)(mg:Str->Option Value)(base:Heap){q:Str}(a:AtM x q s f){ps:List Str}{n:Nat}{sp:Sp}(o:∀ {fd:FuncData},Fun K x q s f fd->xE P w K mg base (CX1 P w) n f fd ps sp)
  (b:∀(kV doc pm:Value)(an:Option Addr)(cdv ct:Value)(us:List Value),us.length=ps.length->bindArgs (PySem.W.fnOf x q (wA s) (xM s) (zJ s) .none kV doc pm an cdv ct) ⟨us,[]⟩=pure (ps.zip us)):HasMX P w K mg base f n ps sp:=by
 obtain⟨oc,od,sl,kV,dc,pm,an,cd,ct,a1,a2,a3⟩:=a;exact⟨_,o (zPm (st:=s) (by rw[zNo]; exact a1) (by rw[zNo]; exact a2) (by rw[zNo]; exact a3)),b _ _ _ _ _ _⟩
theorem K_in{Pm:Params}{h:Heap}(X:PySem.W.Frag.In (KK Pm) h):PySem.W.Frag.In K h:=by
 rw[zNo];exact zQj (F:=KF Pm) (by kernel_rfl) X
end
theorem us0{R:List Value->Prop}(h:R []):∀ us:List Value,us.length=0->R us
 | [],_=>h 
theorem us1{R:List Value->Prop}(h:∀ a,R [a]):∀ us:List Value,us.length=1->R us
 | [a],_=>h a
theorem us2{R:List Value->Prop}(h:∀ a b,R [a,b]):∀ us:List Value,us.length=2->R us
 | [a,b],_=>h a b
theorem us3{R:List Value->Prop}(h:∀ a b c,R [a,b,c]):∀ us:List Value,us.length=3->R us
 | [a,b,c],_=>h a b c
theorem us4{R:List Value->Prop}(h:∀ a b c d,R [a,b,c,d]):∀ us:List Value,us.length=4->R us
 | [a,b,c,d],_=>h a b c d
theorem us6{R:List Value->Prop}(h:∀ a b c d e f,R [a,b,c,d,e,f]):∀ us:List Value,us.length=6->R us
 | [a,b,c,d,e,f],_=>h a b c d e f
theorem all_mk{l:PySem.W.OpenLaw}{w:World}{h:Heap}{mg:Str->Option Value}{fa:Addr}(X:PySem.W.Frag.In (KK w.params) h)(G:h.Ns mainGlobals mg)(hfa:mg "law" = some (.ref fa))
  {f50:Addr}
  {oc50 kV50 dc50 pm50 cd50 ct50:Value}
  {od50 an50:Option Addr}
  {sl50:Array (Option Value)}
  (q1:AtE w.params "turn" zC9)
  (q2:AtE w.params "stretch_way" wV)
  (q3:AtE w.params "all_left_of" uA)
  (q4:AtE w.params "is_bank" sW)
  (q5:AtE w.params "nothing_yet" wP)
  (q6:AtE w.params "changed" rG)
  (q7:AtE w.params "without" sY)
  (q8:AtE w.params "within" zAa)
  (q9:AtE w.params "check_name" uT)
  (q10:AtE w.params "check_free" uZ)
  (q11:AtE w.params "check_place" wR)
  (q12:AtE w.params "check_run" vX)
  (q13:AtE w.params "check_room" vC)
  (q14:AtE w.params "check_mark" vD)
  (q15:AtE w.params "check_moment" wK)
  (q16:AtE w.params "check_way" vU)
  (q17:AtE w.params "check_apart" uF)
  (q18:AtE w.params "after_mark" vE)
  (q19:AtE w.params "after_move" vB)
  (q20:AtE w.params "after_unmark" wH)
  (q21:AtE w.params "after_bank" uX)
  (q22:AtE w.params "after_level" uE)
  (q23:AtE w.params "after_sail" uS)
  (q24:AtE w.params "after_right" wW)
  (q25:AtE w.params "after_note" uY)
  (q26:AtE w.params "after_bearing" xU)
  (q27:AtE w.params "after_range" wZ)
  (q28:AtE w.params "after_strike" wE)
  (q29:AtE w.params "after" zBb)
  (q30:AtE w.params "words_of" vF)
  (q31:AtE w.params "written_row" uC)
  (q32:AtE w.params "written" rK)
  (q33:AtE w.params "_law_power" zA7)
  (q34:AtE w.params "_law_draws" zA2)
  (q35:AtE w.params "_law_names" zA9)
  (q36:AtE w.params "_law_new" zHi)
  (q37:AtE w.params "_law_way" zGi)
  (q38:AtE w.params "_law_turned" zAb)
  (q39:AtE w.params "_law_left_pair" vY)
  (q40:AtE w.params "_law_bank" zDg)
  (q41:AtE w.params "_law_after" zBf)
  (q42:AtE w.params "_law_good_deed" vW)
  (q43:AtE w.params "_law_more_deeds" uU)
  (q44:AtE w.params "_law_lead" zDj)
  (q45:AtE w.params "_law_true_bearing" wF)
  (q46:AtE w.params "_law_some_deeds" uW)
  (q47:AtE w.params "_law_same" zBc)
  (q48:AtE w.params "_law_text_row" tS)
  (q49:AtE w.params "_law_text" zDi)
  (q50:AtK w.params "law" zKp f50 oc50 od50 sl50 kV50 dc50 pm50 an50 cd50 ct50)
  (q51:AtM "__init__" "Book.__init__" zDe zKu)
  (q52:AtM "deed" "Book.deed" zDd zKm)
  (q53:AtM "step" "Book.step" zC7 zKw)
  (q54:AtM "undo" "Book.undo" zDa zJ2)
  (q55:AtM "deeds" "Book.deeds" zBe zDh)
  (q56:AtM "undone" "Book.undone" zAf zEz)
  (q57:AtM "coming" "Book.coming" qX zDw)
  (z_abs:PySem.W.nsIn (KK w.params) mainGlobals "abs" = some none)
  (z_all:PySem.W.nsIn (KK w.params) mainGlobals "all" = some none)
  (z_any:PySem.W.nsIn (KK w.params) mainGlobals "any" = some none)
  (z_bool:PySem.W.nsIn (KK w.params) mainGlobals "bool" = some none)
  (z_dict:PySem.W.nsIn (KK w.params) mainGlobals "dict" = some none)
  (z_enumerate:PySem.W.nsIn (KK w.params) mainGlobals "enumerate" = some none)
  (z_int:PySem.W.nsIn (KK w.params) mainGlobals "int" = some none)
  (z_isinstance:PySem.W.nsIn (KK w.params) mainGlobals "isinstance" = some none)
  (z_len:PySem.W.nsIn (KK w.params) mainGlobals "len" = some none)
  (z_list:PySem.W.nsIn (KK w.params) mainGlobals "list" = some none)
  (z_max:PySem.W.nsIn (KK w.params) mainGlobals "max" = some none)
  (z_min:PySem.W.nsIn (KK w.params) mainGlobals "min" = some none)
  (z_range:PySem.W.nsIn (KK w.params) mainGlobals "range" = some none)
  (z_reversed:PySem.W.nsIn (KK w.params) mainGlobals "reversed" = some none)
  (z_sorted:PySem.W.nsIn (KK w.params) mainGlobals "sorted" = some none)
  (z_str:PySem.W.nsIn (KK w.params) mainGlobals "str" = some none)
  (z_sum:PySem.W.nsIn (KK w.params) mainGlobals "sum" = some none)
  (z_tuple:PySem.W.nsIn (KK w.params) mainGlobals "tuple" = some none)
  (z_zip:PySem.W.nsIn (KK w.params) mainGlobals "zip" = some none) :
  ∃ fd:FuncData,(∀(s:Shared)(v:Value),BindsTo s fd ⟨[v],[]⟩ [("_law_script", v)])/\∀ base:Heap,PySem.W.Frag.In (KK w.params) base->base.Ns mainGlobals mg->xE l.prog w K mg base CX0 8 fa fd ["_law_script"] (sp_law K):=by
 have e:=hfa.symm.trans (PySem.W.mg_of X G q50.1);cases e;have Z:Zs mg:=⟨PySem.W.mg_none_of X G z_abs,PySem.W.mg_none_of X G z_all,PySem.W.mg_none_of X G z_any,PySem.W.mg_none_of X G z_bool,PySem.W.mg_none_of X G z_dict,PySem.W.mg_none_of X G z_enumerate,PySem.W.mg_none_of X G z_int,PySem.W.mg_none_of X G z_isinstance,PySem.W.mg_none_of X G z_len,PySem.W.mg_none_of X G z_list,PySem.W.mg_none_of X G z_max,PySem.W.mg_none_of X G z_min,PySem.W.mg_none_of X G z_range,PySem.W.mg_none_of X G z_reversed,PySem.W.mg_none_of X G z_sorted,PySem.W.mg_none_of X G z_str,PySem.W.mg_none_of X G z_sum,PySem.W.mg_none_of X G z_tuple,PySem.W.mg_none_of X G z_zip⟩;refine⟨PySem.W.fnOf "law" "law" (wA zKp) (xM zKp) (zJ zKp) .none kV50 dc50 pm50 an50 cd50 ct50,λs v=>.of_eq rfl,λbase KB GB=>?_⟩;have CB:Cb l.prog w mg base:=cb_mk KB GB;have yBq:=yG l.prog w base X G q1 (λF=>zPf F Z CB ) (λ_ _ _ _ _ _=>us2 λ_ _=>rfl);have yAl:=yG l.prog w base X G q2 (λF=>zC0 F Z CB ) (λ_ _ _ _ _ _=>us2 λ_ _=>rfl);have yAk:=yG l.prog w base X G q3 (λF=>zCl F Z CB yBq yAl) (λ_ _ _ _ _ _=>us2 λ_ _=>rfl);have yBi:=yG l.prog w base X G q4 (λF=>zIv F Z CB yAk) (λ_ _ _ _ _ _=>us1 λ_=>rfl);have yAi:=yG l.prog w base X G q5 (λF=>zCu F Z CB ) (λ_ _ _ _ _ _=>us0 rfl);have yBf:=yG l.prog w base X G q6 (λF=>zIb F Z CB ) (λ_ _ _ _ _ _=>us4 λ_ _ _ _=>rfl);have yBh:=yG l.prog w base X G q7 (λF=>zIn F Z CB ) (λ_ _ _ _ _ _=>us3 λ_ _ _=>rfl);have yBj:=yG l.prog w base X G q8 (λF=>zKt F Z CB ) (λ_ _ _ _ _ _=>us2 λ_ _=>rfl);have yAu:=yG l.prog w base X G q9 (λF=>zFc F Z CB ) (λ_ _ _ _ _ _=>us1 λ_=>rfl);have yAs:=yG l.prog w base X G q10 (λF=>zEi F Z CB ) (λ_ _ _ _ _ _=>us3 λ_ _ _=>rfl);have yAm:=yG l.prog w base X G q11 (λF=>zCq F Z CB yBj) (λ_ _ _ _ _ _=>us1 λ_=>rfl);have yBb:=yG l.prog w base X G q12 (λF=>zFg F Z CB yBj) (λ_ _ _ _ _ _=>us1 λ_=>rfl);have yAq:=yG l.prog w base X G q13 (λF=>zDr F Z CB ) (λ_ _ _ _ _ _=>us2 λ_ _=>rfl);have yAy:=yG l.prog w base X G q14 (λF=>zDn F Z CB ) (λ_ _ _ _ _ _=>us2 λ_ _=>rfl);have yAb:=zTw l.prog w base X G q15 (λF=>zBy F Z CB ) (λ_ _ _ _ _ _=>us2 λ_ _=>rfl);have yBc:=yG l.prog w base X G q16 (λF=>zFk F Z CB yBj) (λ_ _ _ _ _ _=>us1 λ_=>rfl);have yAn:=yG l.prog w base X G q17 (λF=>zCw F Z CB ) (λ_ _ _ _ _ _=>us3 λ_ _ _=>rfl);have yAp:=yG l.prog w base X G q18 (λF=>zD7 F Z CB yBf yAq yAm yAs yAu) (λ_ _ _ _ _ _=>us2 λ_ _=>rfl);have yAv:=yG l.prog w base X G q19 (λF=>zFa F Z CB yAn yBf yAm yAy) (λ_ _ _ _ _ _=>us2 λ_ _=>rfl);have yAc:=yG l.prog w base X G q20 (λF=>zBq F Z CB yBh yAy) (λ_ _ _ _ _ _=>us2 λ_ _=>rfl)
 have yAr:=yG l.prog w base X G q21 (λF=>zEg F Z CB yBf yAq yBi yAm yAs yAu) (λ_ _ _ _ _ _=>us2 λ_ _=>rfl);have yAg:=yG l.prog w base X G q22 (λF=>zCm F Z CB yBh) (λ_ _ _ _ _ _=>us2 λ_ _=>rfl);have yAt:=yG l.prog w base X G q23 (λF=>zEp F Z CB yBf yAq yBb) (λ_ _ _ _ _ _=>us2 λ_ _=>rfl);have yAj:=yG l.prog w base X G q24 (λF=>zCx F Z CB yBf yBb) (λ_ _ _ _ _ _=>us2 λ_ _=>rfl);have yAx:=yG l.prog w base X G q25 (λF=>zDp F Z CB yBf yAq) (λ_ _ _ _ _ _=>us2 λ_ _=>rfl);have yAa:=yG l.prog w base X G q26 (λF=>zBi F Z CB yAx yBq yBc yAy yAb) (λ_ _ _ _ _ _=>us2 λ_ _=>rfl);have yAh:=yG l.prog w base X G q27 (λF=>zCt F Z CB yAx yAn yAy yAb) (λ_ _ _ _ _ _=>us2 λ_ _=>rfl);have yAe:=yG l.prog w base X G q28 (λF=>zB3 F Z CB yBh) (λ_ _ _ _ _ _=>us2 λ_ _=>rfl);have yBo:=yG l.prog w base X G q29 (λF=>zL9 F Z CB yAp yAv yAc yAr yAg yAt yAj yAa yAh yAe) (λ_ _ _ _ _ _=>us2 λ_ _=>rfl);have yBd:=zJj l.prog w base X G q30 (λF b k m=>zGs F Z  b k m) (λ_ _ _ _ _ _=>us1 λ_=>rfl);have yAf:=yG l.prog w base X G q31 (λF=>zCk F Z CB yBd) (λ_ _ _ _ _ _=>us1 λ_=>rfl);have yBp:=yG l.prog w base X G q33 (λF=>zMg F Z ) (λ_ _ _ _ _ _=>us1 λ_=>rfl);have yBn:=yG l.prog w base X G q34 (λF=>zMc F Z CB yBp) (λ_ _ _ _ _ _=>us2 λ_ _=>rfl);have yBm:=yG l.prog w base X G q35 (λF=>zM1 F Z CB ) (λ_ _ _ _ _ _=>us2 λ_ _=>rfl);have yBw:=yG l.prog w base X G q36 (λF=>zQb F Z CB ) (λ_ _ _ _ _ _=>us0 rfl);have yBv:=yG l.prog w base X G q37 (λF=>zRp F Z CB ) (λ_ _ _ _ _ _=>us3 λ_ _ _=>rfl);have yBk:=yG l.prog w base X G q38 (λF=>zKs F Z CB ) (λ_ _ _ _ _ _=>us2 λ_ _=>rfl);have yBa:=yG l.prog w base X G q39 (λF=>zFi F Z CB yBk yBv) (λ_ _ _ _ _ _=>us2 λ_ _=>rfl);have yBs:=yG l.prog w base X G q40 (λF=>zP0 F Z CB yBa) (λ_ _ _ _ _ _=>us2 λ_ _=>rfl);have yBl:=yG l.prog w base X G q41 (λF=>zMw F Z CB ) (λ_ _ _ _ _ _=>us2 λ_ _=>rfl);have yAz:=yG l.prog w base X G q42 (λF=>zFf F Z CB yBa) (λ_ _ _ _ _ _=>us3 λ_ _ _=>rfl);have yAw:=yG l.prog w base X G q43 (λF=>zEq F Z CB yBl yAz yBs yBw) (λ_ _ _ _ _ _=>us3 λ_ _ _=>rfl);have yBu:=yG l.prog w base X G q44 (λF=>zN3 F Z CB ) (λ_ _ _ _ _ _=>us3 λ_ _ _=>rfl);have yAd:=yG l.prog w base X G q45 (λF=>zBu F Z CB yBa yBu) (λ_ _ _ _ _ _=>us6 λ_ _ _ _ _ _=>rfl)
 have yAo:=yG l.prog w base X G q46 (λF=>zE6 F Z CB yAd yBw) (λ_ _ _ _ _ _=>us2 λ_ _=>rfl);have yBt:=zJj l.prog w base X G q47 (λF b k m=>zNd F Z  b k m) (λ_ _ _ _ _ _=>us2 λ_ _=>rfl);have yBe:=yG l.prog w base X G q48 (λF=>zGx F Z CB ) (λ_ _ _ _ _ _=>us1 λ_=>rfl);have yBr:=yG l.prog w base X G q49 (λF=>zNs F Z CB yBe) (λ_ _ _ _ _ _=>us1 λ_=>rfl);have h_b_init:=zAm l.prog w mg base q51 (λF=>zPi F Z CB yAi) (λ_ _ _ _ _ _=>us1 λ_=>rfl);have h_b_step:=zAm l.prog w mg base q53 (λF=>zOr F Z CB ) (λ_ _ _ _ _ _=>us3 λ_ _ _=>rfl);have h_b_undo:=zAm l.prog w mg base q54 (λF=>zNz F Z CB h_b_step) (λ_ _ _ _ _ _=>us1 λ_=>rfl);have h_b_deeds:=zAm l.prog w mg base q55 (λF=>zMq F Z CB ) (λ_ _ _ _ _ _=>us1 λ_=>rfl);have yBg:=yG l.prog w base X G q32 (λF=>zIc F Z CB h_b_deeds yAf) (λ_ _ _ _ _ _=>us1 λ_=>rfl);have h_b_undone:=zAm l.prog w mg base q56 (λF=>zKr F Z CB ) (λ_ _ _ _ _ _=>us1 λ_=>rfl);have h_b_coming:=zAm l.prog w mg base q57 (λF=>zJ9 F Z CB ) (λ_ _ _ _ _ _=>us1 λ_=>rfl);have h_b_deed:=zAm l.prog w mg base q52 (λF=>zPa F Z CB h_b_coming yBo) (λ_ _ _ _ _ _=>us2 λ_ _=>rfl);exact zWi (zUs q50) Z CB yBt h_b_undone yBr yBg h_b_deeds h_b_undo h_b_deed h_b_init yAw yAo yBm yBn
theorem walk{l:PySem.W.OpenLaw}{q:Program}{loose:List Str}{XP:(Str->Option Value)->Heap->Prop}{YP:World->Heap->Prop}{d:DefRec}(hn:l.most=some 63)(hdf:d.params.defaults=[])
  (hY:∀(w:World)(h:Heap),YP w h->PySem.W.Frag.In (KK w.params) h)
  (F:∀(w:World)(mg:Str->Option Value)(fa:Addr)(h:Heap),PySem.W.Frag.In (KK w.params) h->h.Ns mainGlobals mg->mg d.name=some (.ref fa) ->
   ∃ fd:FuncData,(∀(s:Shared)(u:Value),BindsTo s fd ⟨[u],[]⟩ [("_law_script", u)])/\∀ base:Heap,PySem.W.Frag.In (KK w.params) base->base.Ns mainGlobals mg->xE l.prog w K mg base CX0 8 fa fd ["_law_script"] (sp_law K)) :
  PySem.W.WalkO q loose XP YP l.row.toRowW d [] (λf vs=>PySem.call f vs) :=
 L2.walk_of3 (n:=63) (k:=8) (x := "_law_script") (KK:=KK) (K:=K) (sp:=sp_law K) hn (by decide) hdf ⟨rfl,by decide,by decide⟩ hY (λ_ _ X=>K_in X) (λp a o h c=>by rw[zNo]; exact zOy (F:=KF p) (by kernel_rfl) h c) F (λ_ a ns hl hS=>⟨a,ns,rfl,hS,hl,λ_=>rfl⟩)

end Sea
open PySem PySem.W PyProof.Rows
set_option maxRecDepth 100000 in
set_option maxHeartbeats 0 in
theorem PySem.Challenge.cw_seamarks_k51_books_written_holds : PySem.Challenge.rw_seamarks_k51_books_written.Holds := by
 w_on
 refine holds_law Sea.said_ok λsaid=>?_;refine holds_open (q:=Sea.qv) (loose:=Sea.lse) (XP:=XL Sea.qv []) (YP:=InK Sea.KK) Sea.left_ok (InK.of Sea.kas_ok)
  InK.keeps (λs e=>xl_of s (Bool.and_eq_true_iff.mp e).1) XL.keeps (by rfl) (by rfl) (by rfl)
  (λs e=>recFacts_of (Bool.and_eq_true_iff.mp e).2) (by rfl) (by assumption) (by decide +kernel)
  ⟨rfl,rfl,rfl,rfl,rfl,by decide +kernel⟩ ?hw ?hc
 case hw=>w_witness2
 k_fill
 refine Sea.walk (l:=PySem.Challenge.rw_seamarks_k51_books_written) rfl rfl (λw h Y=>Y) ?F
 case F =>
  intro w mg fa h KX G hmg
  refine' Sea.all_mk KX G hmg ?q1 ?q2 ?q3 ?q4 ?q5 ?q6 ?q7 ?q8 ?q9 ?q10 ?q11 ?q12 ?q13 ?q14 ?q15 ?q16 ?q17 ?q18 ?q19 ?q20 ?q21 ?q22 ?q23 ?q24 ?q25 ?q26 ?q27 ?q28 ?q29 ?q30 ?q31 ?q32 ?q33 ?q34 ?q35 ?q36 ?q37 ?q38 ?q39 ?q40 ?q41 ?q42 ?q43 ?q44 ?q45 ?q46 ?q47 ?q48 ?q49 ?q50 ?q51 ?q52 ?q53 ?q54 ?q55 ?q56 ?q57 ?z_abs ?z_all ?z_any ?z_bool ?z_dict ?z_enumerate ?z_int ?z_isinstance ?z_len ?z_list ?z_max ?z_min ?z_range ?z_reversed ?z_sorted ?z_str ?z_sum ?z_tuple ?z_zip
  (case q51 | q52 | q53 | q54 | q55 | q56 | q57=>refine' Sea.atm_mk ⟨?b,?c,?d⟩;(case b=>exact rfl);(case c=>kernel_rfl);(case d=>kernel_rfl))
  (case q50=>refine'⟨?_,?_,?_,?_⟩; k_is; exact rfl; kernel_rfl; kernel_rfl)
  (case q1 | q2 | q3 | q4 | q5 | q6 | q7 | q8 | q9 | q10 | q11 | q12 | q13 | q14 | q15 | q16 | q17 | q18 | q19 | q20 | q21 | q22 | q23 | q24 | q25 | q26 | q27 | q28 | q29 | q30 | q31 | q32 | q33 | q34 | q35 | q36 | q37 | q38 | q39 | q40 | q41 | q42 | q43 | q44 | q45 | q46 | q47 | q48 | q49=>refine' Sea.at_mk ⟨?a,?b,?c,?d⟩;(case a=>k_is);(case b=>exact rfl);(case c=>kernel_rfl);(case d=>kernel_rfl))
  (case z_abs | z_all | z_any | z_bool | z_dict | z_enumerate | z_int | z_isinstance | z_len | z_list | z_max | z_min | z_range | z_reversed | z_sorted | z_str | z_sum | z_tuple | z_zip=>k_is)
